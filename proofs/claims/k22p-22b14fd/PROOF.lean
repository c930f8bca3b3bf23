import PyProof.Rows.All
import Wide.All
import OpenK.AllK
import Wide.FinOn
import Lean
import PyProof.EqAt
import PyProof.EqKinds
import PyProof.TupleCall
import PyProof.MeetsStr2
import PyProof.StrLawsTight
import PyProof.StrBlockI
import PyProof.StrWalks
import PyProof.EnumMake
import KE.KIsAll
import KE.KRevSl
import PyProof.Rows.FactsN_isinstance
import KE.KDictOf
import PyProof.AttrMiss
import PyProof.WalksMore
import PyProof.FactsAll.tuple
import PyProof.ListRange
import PySem.Challenge.RW_copyclerk_k22_what_may_be_done
set_option Elab.async false
set_option genSizeOfSpec false
set_option linter.all false
set_option maxRecDepth 100000
/-! THE HAND LAYER, for ints, bools, texts, own classes, LISTS and tuples (index, slices, in, append, pop ..), calls, loops. Paste it whole ahead of your own text; what your proof does not reach may be deleted. -/
namespace L2
open PySem PySem.Spec PyProof.Rows

/-- a key: an int or a str -/
noncomputable abbrev Key := Sum Int Str
noncomputable def keyIs : Key → Value → Bool
  | .inl k, v => Value.isInt k v
  | .inr x, v => Value.isStrOf x v
noncomputable def keyH (w : World) : Key → Int
  | .inl k => hashInt k
  | .inr x => hashStr w x
theorem keyIs_shape : ∀ {k : Key} {v : Value}, keyIs k v = true → (∃ i t, k = Sum.inl i ∧ v = Value.int i t) ∨ (∃ x t, k = Sum.inr x ∧ v = Value.str x t)
  | .inl i, v, h => by
    obtain ⟨t, e⟩ := Value.isInt_shape (k := i) (v := v) h
    exact .inl ⟨i, t, rfl, e⟩
  | .inr x, v, h => by
    obtain ⟨t, e⟩ := Value.isStrOf_shape (x := x) (v := v) h
    exact .inr ⟨x, t, rfl, e⟩
theorem key_ll (a b : Int) : decide ((Sum.inl a : Key) = Sum.inl b) = (a == b) := by
  by_cases e : a = b
  · subst e; simp
  · have h : ¬ (Sum.inl a : Key) = Sum.inl b := fun q => e (Sum.inl.inj q)
    rw [decide_eq_false h]
    exact (beq_eq_false_iff_ne.mpr e).symm
theorem key_rr (a b : Str) : decide ((Sum.inr a : Key) = Sum.inr b) = decide (a = b) := by
  by_cases e : a = b
  · subst e; simp
  · have h : ¬ (Sum.inr a : Key) = Sum.inr b := fun q => e (Sum.inr.inj q)
    rw [decide_eq_false h, decide_eq_false e]
theorem key_lr (a : Int) (b : Str) : decide ((Sum.inl a : Key) = Sum.inr b) = false := decide_eq_false (fun q => nomatch q)
theorem key_rl (a : Str) (b : Int) : decide ((Sum.inr a : Key) = Sum.inl b) = false := decide_eq_false (fun q => nomatch q)

noncomputable def mixKind (prog : Program) (w : World) : PySem.KeyKind prog w Key where
  is := keyIs
  hash := keyH w
  inj := fun v a b ha hb => by
    rcases keyIs_shape ha with ⟨i, t, rfl, rfl⟩ | ⟨x, t, rfl, rfl⟩
    · rcases keyIs_shape hb with ⟨j, u, rfl, e⟩ | ⟨y, u, rfl, e⟩
      · injection e with e1 _; rw [e1]
      · exact nomatch e
    · rcases keyIs_shape hb with ⟨j, u, rfl, e⟩ | ⟨y, u, rfl, e⟩
      · exact nomatch e
      · injection e with e1 _; rw [e1]
  byValue := fun k v h => by
    rcases keyIs_shape h with ⟨i, t, rfl, rfl⟩ | ⟨x, t, rfl, rfl⟩ <;> rfl
  pyHash := fun hv h => by
    rcases keyIs_shape hv with ⟨i, t, rfl, rfl⟩ | ⟨x, t, rfl, rfl⟩
    · exact wpAny_pyHash_int h
    · exact wpAny_pyHash_str h
  eqBool := fun hu hv h => by
    rcases keyIs_shape hu with ⟨i, t, rfl, rfl⟩ | ⟨x, t, rfl, rfl⟩
    · rcases keyIs_shape hv with ⟨j, u, rfl, rfl⟩ | ⟨y, u, rfl, rfl⟩
      · rw [key_ll] at h; exact wpAny_eqBool_int h
      · rw [key_lr] at h; exact SeqAt.EqAt.int_str i t y u _ _ _ _ h
    · rcases keyIs_shape hv with ⟨j, u, rfl, rfl⟩ | ⟨y, u, rfl, rfl⟩
      · rw [key_rl] at h; exact SeqAt.EqAt.str_int x t j u _ _ _ _ h
      · rw [key_rr] at h; exact wpAny_eqBool_str h
  «strs» := fun k x t v h => by
    rcases keyIs_shape h with ⟨i, u, rfl, e⟩ | ⟨y, u, rfl, e⟩
    · exact nomatch e
    · injection e with e1 _
      subst e1
      cases v <;> rfl

end L2

namespace L2
open PySem PySem.Spec PyProof.Rows

/-- a value, without the heap -/
inductive V where
  | non | bl (b : Bool) | int (i : Int) | str (x : Str) | byt (b : Array UInt8) | flt (b : UInt64) | ref (a : Addr) | ty (n : String)
  deriving DecidableEq

noncomputable def RelV : V → Value → Prop
  | .non, u => u = Value.none
  | .bl b, u => u = Value.bool b
  | .int i, u => ∃ t, u = Value.int i t
  | .str x, u => ∃ t, u = Value.str x t
  | .byt b, u => ∃ t, u = Value.bytes b t
  | .flt b, u => ∃ t, u = Value.float b t
  | .ref a, u => u = Value.ref a
  | .ty n, u => u = Value.type n

noncomputable abbrev Vals : List V → List Value → Prop := Paired RelV
theorem Vals.length {xs : List V} {us : List Value} (r : Vals xs us) : xs.length = us.length := Paired.length r
theorem Vals.get : ∀ {xs : List V} {us : List Value} {i : Nat} {x : V}, Vals xs us → xs[i]? = some x → ∃ u, us[i]? = some u ∧ RelV x u
  | _, _, _, _, .nil, e => by simp at e
  | _, _, 0, _, .cons r _, e => by simp at e; subst e; exact ⟨_, rfl, r⟩
  | _, _, i + 1, x, .cons _ t, e => by
    obtain ⟨u, h1, h2⟩ := Vals.get (i := i) (x := x) t (by simpa using e)
    exact ⟨u, by simpa using h1, h2⟩
theorem Vals.append : ∀ {xs ys : List V} {us ws : List Value}, Vals xs us → Vals ys ws → Vals (xs ++ ys) (us ++ ws)
  | _, _, _, _, .nil, s => s
  | _, _, _, _, .cons r t, s => .cons r (Vals.append t s)
theorem Vals.take : ∀ {xs : List V} {us : List Value} (n : Nat), Vals xs us → Vals (xs.take n) (us.take n)
  | _, _, 0, _ => .nil
  | _, _, _ + 1, .nil => .nil
  | _, _, n + 1, .cons r t => .cons r (Vals.take n t)
theorem Vals.drop : ∀ {xs : List V} {us : List Value} (n : Nat), Vals xs us → Vals (xs.drop n) (us.drop n)
  | _, _, 0, r => r
  | _, _, _ + 1, .nil => .nil
  | _, _, n + 1, .cons _ t => Vals.drop n t
noncomputable def RelO : Option V → Option Value → Prop
  | some v, some u => RelV v u
  | none, none => True
  | _, _ => False
noncomputable def KV {κ : Type} : List (κ × V) → List (κ × Value) → Prop := Paired fun (p : κ × V) (q : κ × Value) => p.1 = q.1 ∧ RelV p.2 q.2

/-- a key of a dict (00_mix): an int or a text -/
noncomputable def kV : Key → V
  | .inl i => .int i
  | .inr x => .str x

/-- what stands at a tracked address -/
inductive HO where
  /-- a list -/
  | lst (xs : List V)
  /-- a tuple (never changes) -/
  | tup (xs : List V)
  /-- a dict whose keys are ints and texts; one whose keys are tuples of ints and texts (the empty one is both) -/
  | dK (kvs : List (Key × V)) | dT (kvs : List (List Key × V))
  /-- a set of ints: its members, its size -/
  | set (S : Int → Bool) (n : Nat)
  /-- an instance of the class at C, its dict at dx, its attributes -/
  | ins (C dx : Addr) (fs : List (Str × V))
  /-- the dict of the instance at x -/
  | own (x : Addr)
  /-- the dict of an exception -/
  | xd (fs : List (Str × V))
  /-- a bound method, f of x -/
  | met (f x : Addr)
  /-- a range object lo, lo + 1, .. below hi -/
  | rng (lo hi : Int)
  /-- a thing that is known to the object (the script; a dict while a loop walks it): read, never written while it is so -/
  | frz (o : Obj) (u : HO)
  /-- a code object's table -/
  | tbl (ps : Array Value)
  /-- any other thing, by what is true of its one object (a def of one's own: SetO a S n := HO.ext fun h => ..) -/
  | ext (φ : Heap → Prop)

noncomputable abbrev Hp := Addr → Option HO
noncomputable def upd (H : Hp) (a : Addr) (o : HO) : Hp := fun b => if b = a then some o else H b
theorem upd_same {H : Hp} {a : Addr} {o : HO} : upd H a o a = some o := by unfold upd; rw [if_pos rfl]
theorem upd_ne {H : Hp} {a b : Addr} {o : HO} (h : b ≠ a) : upd H a o b = H b := by unfold upd; rw [if_neg h]
theorem ne_of_none {H : Hp} {a b : Addr} {o : HO} (h : H a = some o) (h' : H b = none) : a ≠ b := by
  intro e; subst e; rw [h] at h'; cases h'

section
variable (P : Program) (w : World)
noncomputable def IsTupB (h : Heap) (a : Addr) (items : Array Value) : Prop := IsTup h a items ∧ ∀ o, h.get? a = some o → o.dict = none
theorem IsTupB.new (h : Heap) (items : Array Value) : IsTupB (h.push { cls := .type "tuple", data := .seq items }) h.objs.size items := ⟨IsTup.new h items, fun o e => by rw [Heap.get?_push_size _ rfl] at e; cases e; rfl⟩
noncomputable def ObjOk (H : Hp) (h : Heap) (a : Addr) : HO → Prop
  | .lst xs => xs.length ≤ sizeLine ∧ ∃ (its : List Value) (n : Nat), Vals xs its ∧ h.get? a = some { cls := .type "list", data := .seq its.toArray n }
  | .tup xs => xs.length ≤ sizeLine ∧ ∃ its : List Value, Vals xs its ∧ IsTupB h a its.toArray
  | .dK kvs => kvs.length ≤ sizeLine ∧ (a == sysModules) = false ∧ ∃ vs, KV kvs vs ∧ h.DictOf (mixKind P w) a vs
  | .dT kvs => kvs.length ≤ sizeLine ∧ (a == sysModules) = false ∧ ∃ xs : List (List Key × Addr × Value),
      Paired (fun (p : List Key × V) (q : List Key × Addr × Value) => p.1 = q.1 ∧ H q.2.1 = some (.tup (p.1.map kV)) ∧ RelV p.2 q.2.2) kvs xs ∧
      ∃ o es ep, h.get? a = some o ∧ o.ExactDict ∧ o.data = .dict es ep ∧ es.toList = xs.map (entryOfKey (tupleKind (mixKind P w))) ∧ (xs.map (·.1)).Nodup
  | .set S n => h.SetOf (intKind P w) a S n
  | .ins C dx fs => H dx = some (.own a) ∧ fs.length ≤ 1000 ∧ dx ≠ a ∧ h.get? a = some (PySem.W.instObj C dx) ∧
      ∃ mA, h.Ns1 dx mA ∧ (∀ f, RelO (fs.lookup f) (mA f)) ∧ PySem.Within mA (fs.map (·.1))
  | .own _ => ∃ o, h.get? a = some o
  | .xd fs => ∃ mA, h.Ns1 a mA ∧ ∀ f, RelO (fs.lookup f) (mA f)
  | .rng lo hi => ∃ t u v, h.get? a = some { cls := .type "range", data := .fields #[.int lo t, .int hi u, .int 1 v] }
  | .frz o u => h.get? a = some o ∧ ObjOk H h a u
  | .tbl ps => h.get? a = some { cls := .none, data := .fields ps }
  | .met f x => h.get? a = some (PySem.W.methodObj (.ref f) (.ref x))
  | .ext φ => φ h ∧ (∃ o, h.get? a = some o) ∧ ∀ h1 h2 : Heap, φ h1 → (∀ o, h1.get? a = some o → h2.get? a = some o) → φ h2
/-- the abstract heap is held -/
noncomputable def HOk (H : Hp) (h : Heap) : Prop := ∀ a o, H a = some o → ObjOk P w H h a o
end

section
variable {P : Program} {w : World} {H H' : Hp} {h h' : Heap} {a : Addr} {o : HO}
theorem ObjOk.lt (x : ObjOk P w H h a o) : a < h.objs.size := by
  cases o with
  | lst xs => obtain ⟨_, _, _, _, e⟩ := x; exact Heap.lt_size e
  | tup xs => obtain ⟨_, _, _, p⟩ := x; exact p.1.lt
  | dK kvs => obtain ⟨_, _, _, _, o, _, _, e, _⟩ := x; exact Heap.lt_size e
  | dT kvs => obtain ⟨_, _, _, _, o, _, _, e, _⟩ := x; exact Heap.lt_size e
  | set S n => obtain ⟨o, _, _, _, e, _⟩ := x; exact Heap.lt_size e
  | ins C dx fs => obtain ⟨_, _, _, e, _⟩ := x; exact Heap.lt_size e
  | own y => obtain ⟨_, e⟩ := x; exact Heap.lt_size e
  | xd fs => obtain ⟨_, ⟨_, _, _, e, _⟩, _⟩ := x; exact Heap.lt_size e
  | rng lo hi => obtain ⟨_, _, _, e⟩ := x; exact Heap.lt_size e
  | frz ob u => obtain ⟨e, _⟩ := x; exact Heap.lt_size e
  | tbl ps => exact Heap.lt_size (show h.get? a = some _ from x)
  | met f y => exact Heap.lt_size (show h.get? a = some _ from x)
  | ext φ => obtain ⟨_, ⟨_, e⟩, _⟩ := x; exact Heap.lt_size e
theorem Paired.mapP {α β : Type} {F G : α → β → Prop} : ∀ {l₁ : List α} {l₂ : List β}, Paired F l₁ l₂ → (∀ a b, F a b → G a b) → Paired G l₁ l₂
  | _, _, .nil, _ => .nil
  | _, _, .cons r t, f => .cons (f _ _ r) (Paired.mapP t f)
/-- what an object's description leans on: its own object, its own dict, the tuples -/
theorem ObjOk.stay (x : ObjOk P w H h a o) (k : ∀ b u, (b = a ∨ H b = some (.own a)) → h.get? b = some u → h'.get? b = some u)
    (ho : ∀ b, H b = some (.own a) → H' b = some (.own a)) (ht : ∀ b xs, H b = some (.tup xs) → H' b = some (.tup xs)) : ObjOk P w H' h' a o := by
  induction o with
  | lst xs => obtain ⟨z, its, n, r, e⟩ := x; exact ⟨z, its, n, r, k _ _ (.inl rfl) e⟩
  | tup xs => obtain ⟨z, its, r, ⟨ob, e, c⟩, dd⟩ := x; exact ⟨z, its, r, ⟨ob, k _ _ (.inl rfl) e, c⟩, fun o2 e2 => by rw [k _ _ (.inl rfl) e] at e2; cases e2; exact dd _ e⟩
  | dK kvs => obtain ⟨z, y, vs, r, ob, es, ep, e, c⟩ := x; exact ⟨z, y, vs, r, ob, es, ep, k _ _ (.inl rfl) e, c⟩
  | dT kvs =>
    obtain ⟨z, y, xs, r, ob, es, ep, e, c⟩ := x
    exact ⟨z, y, xs, Paired.mapP r fun p q z => ⟨z.1, ht _ _ z.2.1, z.2.2⟩, ob, es, ep, k _ _ (.inl rfl) e, c⟩
  | set S n => obtain ⟨ob, es, ep, t, e, c⟩ := x; exact ⟨ob, es, ep, t, k _ _ (.inl rfl) e, c⟩
  | ins C dx fs =>
    obtain ⟨d, z, ne, e, mA, ⟨od, es, ep, e2, c⟩, r⟩ := x
    exact ⟨ho _ d, z, ne, k _ _ (.inl rfl) e, mA, ⟨od, es, ep, k _ _ (.inr d) e2, c⟩, r⟩
  | own y => obtain ⟨ob, e⟩ := x; exact ⟨ob, k _ _ (.inl rfl) e⟩
  | xd fs => obtain ⟨mA, ⟨od, es, ep, e, c⟩, r⟩ := x; exact ⟨mA, ⟨od, es, ep, k _ _ (.inl rfl) e, c⟩, r⟩
  | rng lo hi => obtain ⟨t, u, v, e⟩ := x; exact ⟨t, u, v, k _ _ (.inl rfl) e⟩
  | frz ob u ih => obtain ⟨e, q⟩ := x; exact ⟨k _ _ (.inl rfl) e, ih q⟩
  | tbl ps =>
    have e : h.get? a = some { cls := .none, data := .fields ps } := x
    show h'.get? a = some { cls := .none, data := .fields ps }
    exact k a _ (.inl rfl) e
  | met f y =>
    have e : h.get? a = some (PySem.W.methodObj (.ref f) (.ref y)) := x
    show h'.get? a = some (PySem.W.methodObj (.ref f) (.ref y))
    exact k a _ (.inl rfl) e
  | ext φ => obtain ⟨p, ⟨o, e⟩, st⟩ := x; exact ⟨st _ _ p fun o q => k _ _ (.inl rfl) q, ⟨o, k _ _ (.inl rfl) e⟩, st⟩
theorem HOk.lt (x : HOk P w H h) (e : H a = some o) : a < h.objs.size := (x a o e).lt
theorem HOk.fresh (x : HOk P w H h) (e : h.objs.size ≤ a) : H a = none := by
  cases q : H a with
  | none => rfl
  | some u => exact absurd (Nat.lt_of_lt_of_le (x.lt q) e) (Nat.lt_irrefl _)
/-- every object of the heap is kept -/
theorem HOk.kept (x : HOk P w H h) (k : ∀ b u, h.get? b = some u → h'.get? b = some u) : HOk P w H h' := fun a o e =>
  (x a o e).stay (fun b u _ q => k b u q) (fun _ q => q) fun _ _ q => q
/-- a new object is laid and tracked -/
theorem HOk.laid (x : HOk P w H h) (k : ∀ b u, h.get? b = some u → h'.get? b = some u) (hp : h.objs.size ≤ a) (new : ObjOk P w (upd H a o) h' a o) : HOk P w (upd H a o) h' := fun b u e => by
  have hn := x.fresh hp
  by_cases hb : b = a
  · subst hb; rw [upd_same] at e; cases e; exact new
  · rw [upd_ne hb] at e
    exact (x b u e).stay (fun c v _ q => k c v q) (fun c q => by rw [upd_ne (ne_of_none q hn)]; exact q) fun c xs q => by rw [upd_ne (ne_of_none q hn)]; exact q
end

/-- what may be read as u: it is u, or a known u -/
noncomputable def Rd (H : Hp) (a : Addr) (u : HO) : Prop := H a = some u ∨ ∃ o, H a = some (.frz o u)
theorem Rd.ok {P : Program} {w : World} {H : Hp} {h : Heap} {a : Addr} {u : HO} (r : Rd H a u) (x : HOk P w H h) : ObjOk P w H h a u := by
  rcases r with r | ⟨o, r⟩
  · exact x a u r
  · obtain ⟨_, q⟩ := x a _ r
    exact q
/-- what may be written -/
noncomputable def Mut : Option HO → Prop
  | some (.lst _) => True
  | some (.dK _) => True
  | some (.dT _) => True
  | some (.set _ _) => True
  | some (.ins _ _ _) => True
  | some (.ext _) => True
  | _ => False
section
variable {P : Program} {w : World} {H : Hp} {h h' : Heap} {x e : Addr} {o' : HO}
/-- the object at e is changed: x itself, or the dict of the instance x -/
theorem HOk.write (ok : HOk P w H h) (mu : Mut (H x)) (he : e = x ∨ H e = some (.own x)) (k : ∀ b u, b ≠ e → h.get? b = some u → h'.get? b = some u) (heo : ∃ u, h'.get? e = some u)
    (new : ObjOk P w (upd H x o') h' x o') : HOk P w (upd H x o') h' := fun b u q => by
  have nown : ∀ c y, H c = some (.own y) → c ≠ x := fun c y r z => by subst z; rw [r] at mu; exact mu
  have ntup : ∀ c xs, H c = some (.tup xs) → c ≠ x := fun c xs r z => by subst z; rw [r] at mu; exact mu
  by_cases hb : b = x
  · subst hb; rw [upd_same] at q; cases q; exact new
  · rw [upd_ne hb] at q
    by_cases hbe : b = e
    · have q' : H b = some (.own x) := by
        rcases he with z | z
        · exact absurd (hbe.trans z) hb
        · rw [hbe]; exact z
      rw [q] at q'; cases q'
      obtain ⟨v, hv⟩ := heo
      exact ⟨v, by rw [hbe]; exact hv⟩
    · refine (ok b u q).stay (fun c v hc r => k c v ?_ r) (fun c r => by rw [upd_ne (nown c b r)]; exact r) fun c xs r => by rw [upd_ne (ntup c xs r)]; exact r
      rcases hc with rfl | hc
      · exact hbe
      · rintro rfl
        rcases he with z | z
        · exact nown c b hc z
        · rw [hc] at z; cases z; exact hb rfl
end

/-! ### kept unless tracked; of the frames at fs (the callers') the slots may change (an exception that passes writes there); of the records at ex (iterators) nothing is said -/
structure Un (fs ex : List Addr) (H H' : Hp) (h h' : Heap) : Prop where
  keep : ∀ b o, h.get? b = some o → H b = none → b ∉ fs → b ∉ ex → h'.get? b = some o
  slot : ∀ b o, h.get? b = some o → H b = none → b ∈ fs → b ∉ ex → ∃ sl, h'.get? b = some { o with slots := sl }
  free : ∀ b o, h.get? b = some o → H b = none → b ∉ ex → H' b = none
  there : ∀ b o, h.get? b = some o → b ∉ ex → ∃ o', h'.get? b = some o'
  tups : ∀ b xs, H b = some (.tup xs) → H' b = some (.tup xs)
  frzs : ∀ b o u, H b = some (.frz o u) → H' b = some (.frz o u)
  tbls : ∀ b ps, H b = some (.tbl ps) → ∃ more, H' b = some (.tbl (ps ++ more))
section
variable {fs fs' ex ex' : List Addr} {H H1 H2 : Hp} {h h1 h2 h' : Heap} {a x e : Addr} {o : HO}
theorem Un.any (u : Un fs ex H H1 h h1) {b : Addr} {ob : Obj} (q : h.get? b = some ob) (n : H b = none) (hx : b ∉ ex) : ∃ sl, h1.get? b = some { ob with slots := sl } := by
  by_cases hb : b ∈ fs
  · exact u.slot b ob q n hb hx
  · exact ⟨ob.slots, u.keep b ob q n hb hx⟩
theorem Un.kept (k : ∀ b u, h.get? b = some u → h'.get? b = some u) : Un fs ex H H h h' :=
  ⟨fun b ob q _ _ _ => k b ob q, fun b ob q _ _ _ => ⟨ob.slots, k b ob q⟩, fun _ _ _ n _ => n, fun b ob q _ => ⟨ob, k b ob q⟩, fun _ _ q => q, fun _ _ _ q => q, fun _ ps q => ⟨#[], by rw [q]; simp⟩⟩
theorem Un.refl : Un fs ex H H h h := Un.kept fun _ _ q => q
theorem Un.laid (k : ∀ b u, h.get? b = some u → h'.get? b = some u) (hp : h.objs.size ≤ a) (hn : H a = none) : Un fs ex H (upd H a o) h h' where
  keep := fun b u q _ _ _ => k b u q
  slot := fun b u q _ _ _ => ⟨u.slots, k b u q⟩
  free := fun b u q n _ => by rw [upd_ne (Nat.ne_of_lt (Nat.lt_of_lt_of_le (Heap.lt_size q) hp))]; exact n
  there := fun b u q _ => ⟨u, k b u q⟩
  tups := fun b xs q => by rw [upd_ne (ne_of_none q hn)]; exact q
  frzs := fun b u xs q => by rw [upd_ne (ne_of_none q hn)]; exact q
  tbls := fun b ps q => ⟨#[], by rw [upd_ne (ne_of_none q hn), q]; simp⟩
theorem Un.write (mu : Mut (H x)) (he : e = x ∨ H e = some (.own x)) (k : ∀ b u, b ≠ e → h.get? b = some u → h'.get? b = some u) (heo : ∃ u, h'.get? e = some u) : Un fs ex H (upd H x o) h h' := by
  have hx : ∀ b, H b = none → b ≠ x := fun b n z => by subst z; rw [n] at mu; exact mu
  have hb : ∀ b, H b = none → b ≠ e := fun b n z => by
    subst z
    rcases he with r | r
    · exact hx b n r
    · rw [n] at r; cases r
  have hm : ∀ b u, H b = some u → ¬ Mut (some u) → b ≠ x := fun b u q nm z => by subst z; rw [q] at mu; exact nm mu
  refine ⟨fun b u q n _ _ => k b u (hb b n) q, fun b u q n _ _ => ⟨u.slots, k b u (hb b n) q⟩, fun b u q n _ => by rw [upd_ne (hx b n)]; exact n, fun b u q _ => ?_,
    fun b xs q => by rw [upd_ne (hm b _ q fun z => z)]; exact q, fun b u xs q => by rw [upd_ne (hm b _ q fun z => z)]; exact q, fun b ps q => ⟨#[], by rw [upd_ne (hm b _ q fun z => z), q]; simp⟩⟩
  by_cases hbe : b = e
  · subst hbe; exact heo
  · exact ⟨u, k b u hbe q⟩
end

/-! ### the heap without what is tracked -/
noncomputable def trk (h : Heap) (H : Hp) : List Addr := (List.range h.objs.size).filter fun a => (H a).isSome
noncomputable def hidT (h : Heap) (H : Hp) : Heap := PySem.W.hideAll h (trk h H)
theorem hidT_size (h : Heap) (H : Hp) : (hidT h H).objs.size = h.objs.size := PySem.W.hideAll_size _ _
theorem hidT_get {h : Heap} {H : Hp} {b : Addr} {o : Obj} (e : h.get? b = some o) (n : H b = none) : (hidT h H).get? b = some o :=
  PySem.W.hideAll_get _ e fun hm => by
    have q : (H b).isSome = true := (List.mem_filter.mp hm).2
    rw [n] at q; simp at q
theorem of_hidT {h : Heap} {H : Hp} {b : Addr} {o : Obj} (e : (hidT h H).get? b = some o) : h.get? b = some o ∧ H b = none := by
  have e' : h.get? b = some o := PySem.W.of_hideAll (trk h H) e
  refine ⟨e', ?_⟩
  cases q : H b with
  | none => rfl
  | some x =>
    have hm : b ∈ trk h H := List.mem_filter.mpr ⟨List.mem_range.mpr (Heap.lt_size e'), by simp [q]⟩
    have z : (hidT h H).get? b = none := PySem.W.hideAll_none (trk h H) hm
    rw [z] at e; cases e

/-! ### OpenK's ledger, filled with every new object but one -/
noncomputable def allNews (g h : Heap) (L : Addr) : List (Addr × Obj) := (List.range h.objs.size).filterMap fun a => if a = L ∨ (g.get? a).isSome = true then none else (h.get? a).map fun o => (a, o)
noncomputable def rest (g h : Heap) (L d : Addr) : List (Addr × Obj) := (allNews g h L).filter fun p => decide (p.1 ≠ d)
end L2

namespace L2
open PySem PySem.Spec PyProof.Rows

/-- the module's facts, over the base: the heap at the law's entry without what is tracked there -/
structure Mod (K : PySem.W.Frag) (mg : Str → Option Value) (base : Heap) : Prop where
  kin : K.In base
  glob : base.Ns mainGlobals mg
  blt : ∃ mb, base.Ns builtinsNs mb ∧ ∀ x : Str, x ≠ "__name__" → mb x = bootBuiltins x
  nolimit : base.NoLimit

/-- the context: a def's body (or a comprehension's block) running. base: fixed through the whole law; s₀, H₀: the entry; outer: the frames whose slots others may change (a def's callers); stack: all frames that run;
   ex: iterators that were made ahead of the entry and are walked here (a comprehension's); fn: the names whose cells were made at the entry (a def: all; a comprehension's block: its own); calm: not within an except suite; pn: pins that every state bears; xe: what is wanted of an exception that leaves the code -/
structure Cx where
  prog : Program
  w : World
  K : PySem.W.Frag
  mg : Str → Option Value
  base : Heap
  A : Around
  N : List Str
  s₀ : Shared
  H₀ : Hp
  env : Env
  outer : List Env
  stack : List Env
  ex : List Addr
  fn : Str → Bool
  calm : Bool
  pn : List (Addr × Obj)
  xe : Value → Shared → Prop
/-- the callers' frames -/
noncomputable def frs (l : List Env) : List Addr := l.filterMap (·.frame)
noncomputable abbrev Cx.fs (X : Cx) : List Addr := frs X.outer

noncomputable def Vis (sc : Scope) (x : Str) : Prop := sc.names.lookup x = some .local ∨ sc.names.lookup x = some .cell ∨ sc.names.lookup x = some .free
noncomputable def Loc (sc : Scope) (x : Str) : Prop := sc.names.lookup x = some .local ∨ sc.names.lookup x = some .cell
noncomputable def Look (env : Env) (h : Heap) (m : Str → Option Value) (x : Str) (u : Value) : Prop :=
  (env.kindOf x = some .local ∧ m x = some u) ∨ ((env.kindOf x = some .cell ∨ env.kindOf x = some .free) ∧ ∃ c, env.cells.lookup x = some c ∧ h.IsCell c (some u))

structure Cx.Ok (X : Cx) : Prop where
  mod : Mod X.K X.mg X.base
  kind : X.env.scope.kind = .function
  glob : X.env.globals = mainGlobals
  blt : X.env.builtins = builtinsNs
  above : X.s₀.heap.objs.size ≤ X.env.locals
  inj : ∀ x y c, X.env.cells.lookup x = some c → X.env.cells.lookup y = some c → x = y
  has : ∀ x, (X.env.kindOf x = some .cell ∨ X.env.kindOf x = some .free) → ∃ c, X.env.cells.lookup x = some c
  cab : ∀ x c, X.fn x = true → X.env.cells.lookup x = some c → X.s₀.heap.objs.size ≤ c
  hd : X.calm = true → X.A.handled = none
  frames : X.A.frames = some X.stack
  stk : X.stack = X.outer ∨ (X.stack = X.env :: X.outer ∧ X.env.frame = some X.env.locals)
  exf : ∀ b ∈ X.ex, b ≠ X.env.locals ∧ ∀ x c, X.env.cells.lookup x = some c → c ≠ b
  bs : ∀ b o, X.base.get? b = some o → X.s₀.heap.get? b = some o ∧ X.H₀ b = none
  bsz : X.base.objs.size ≤ X.s₀.heap.objs.size
  noex : ∀ b o, X.base.get? b = some o → b ∉ X.ex
  exfs : ∀ b ∈ X.ex, b ∉ X.fs
  funs : X.s₀.heap.FunFrames X.base X.outer
  frf : ∀ b ∈ X.fs, X.H₀ b = none

structure Inv (X : Cx) (pins : List (Addr × Obj)) (σ : List (Option V)) (H : Hp) (s : Shared) : Prop where
  ok : X.Ok
  os : s.os = X.s₀.os
  bare : AllBare s.gens
  base : Un X.fs X.ex X.H₀ H X.s₀.heap s.heap
  loc : ∃ m, s.heap.Ns X.env.locals m ∧ ∀ (i : Nat) (x : Str) (v : V), X.N[i]? = some x → σ[i]? = some (some v) → Vis X.env.scope x → ∃ u, RelV v u ∧ Look X.env s.heap m x u
  cell : ∀ x c, X.env.cells.lookup x = some c → ∃ v, s.heap.IsCell c v
  free : H X.env.locals = none
  freeC : ∀ x c, X.env.cells.lookup x = some c → H c = none
  pin : ∀ p ∈ X.pn ++ pins, s.heap.get? p.1 = some p.2 ∧ H p.1 = none ∧ p.1 ≠ X.env.locals ∧ p.1 ∉ X.fs ∧ ∀ v, p.2.data ≠ .cell v
  hok : HOk X.prog X.w H s.heap
  len : σ.length = X.N.length

section
variable {X : Cx} {pins : List (Addr × Obj)} {σ : List (Option V)} {H H' : Hp} {s : Shared} {h' : Heap}

theorem Cx.Ok.nofr (ok : X.Ok) {b : Addr} {o : Obj} (e : X.base.get? b = some o) : b ∉ X.fs := fun hb => by
  have := (ok.funs.mem hb).1
  rw [e] at this; cases this
theorem Inv.bs (I : Inv X pins σ H s) : ∀ b o, X.base.get? b = some o → s.heap.get? b = some o ∧ H b = none := fun b o e =>
  ⟨I.base.keep b o (I.ok.bs b o e).1 (I.ok.bs b o e).2 (I.ok.nofr e) (I.ok.noex b o e), I.base.free b o (I.ok.bs b o e).1 (I.ok.bs b o e).2 (I.ok.noex b o e)⟩
theorem Inv.bk (I : Inv X pins σ H s) : ∀ b o, X.base.get? b = some o → s.heap.get? b = some o := fun b o e => (I.bs b o e).1
theorem Inv.mod (I : Inv X pins σ H s) : Mod X.K X.mg X.base := I.ok.mod
theorem Inv.kIn (I : Inv X pins σ H s) : X.K.In s.heap := I.ok.mod.kin.keeps I.bk
theorem Inv.lt (I : Inv X pins σ H s) : X.env.locals < s.heap.objs.size := let ⟨_, hn, _⟩ := I.loc; hn.lt
theorem Inv.sz (I : Inv X pins σ H s) : X.s₀.heap.objs.size ≤ s.heap.objs.size := Nat.le_trans I.ok.above (Nat.le_of_lt I.lt)
theorem Inv.nofs (I : Inv X pins σ H s) {a : Addr} (h : s.heap.objs.size ≤ a) : a ∉ X.fs := fun hb => by
  obtain ⟨_, o, ho, _⟩ := I.ok.funs.mem hb
  exact absurd (Nat.lt_of_lt_of_le (Heap.lt_size ho) (Nat.le_trans I.sz h)) (Nat.lt_irrefl _)
theorem Inv.cne (I : Inv X pins σ H s) : ∀ x c, X.env.cells.lookup x = some c → c ≠ X.env.locals := fun x c e z => by
  obtain ⟨v, o, ho, hd⟩ := I.cell x c e
  obtain ⟨m, ⟨o', es, ep, ho', hd', _⟩, _⟩ := I.loc
  rw [z, ho'] at ho; cases ho; rw [hd'] at hd; cases hd
theorem Inv.funs (I : Inv X pins σ H s) : s.heap.FunFrames X.base X.outer := by
  have all : ∀ (l : List Env), (∀ b ∈ frs l, b ∈ X.fs) → X.s₀.heap.FunFrames X.base l → s.heap.FunFrames X.base l := by
    intro l
    induction l with
    | nil => intro _ _; trivial
    | cons env r ih =>
      intro hs hl
      obtain ⟨hk, ⟨L, o, hf, hn, ho, hd⟩, hr⟩ := hl
      have hL : L ∈ X.fs := hs L (by unfold frs; rw [List.filterMap_cons, hf]; exact List.mem_cons_self)
      obtain ⟨sl, e⟩ := I.base.slot L o ho (I.ok.frf L hL) hL fun z => I.ok.exfs L z hL
      exact ⟨hk, ⟨L, _, hf, hn, e, hd⟩, ih (fun b hb => hs b (by unfold frs; rw [List.filterMap_cons, hf]; exact List.mem_cons_of_mem _ hb)) hr⟩
  exact all X.outer (fun _ hb => hb) I.ok.funs

/-- the frames that run, for a call -/
theorem Inv.stack (I : Inv X pins σ H s) : s.heap.FunFrames X.base X.stack := by
  rcases I.ok.stk with e | ⟨e, hf⟩
  · rw [e]; exact I.funs
  · rw [e]
    obtain ⟨m, hn, _⟩ := I.loc
    refine .cons (by rw [I.ok.kind]; decide) hf hn ?_ I.funs
    exact Heap.get?_none_of_le (Nat.le_trans I.ok.bsz I.ok.above)
theorem Inv.stkSub (I : Inv X pins σ H s) : ∀ b ∈ frs X.stack, b ∈ X.env.locals :: X.fs := fun b hb => by
  rcases I.ok.stk with e | ⟨e, hf⟩
  · rw [e] at hb; exact List.mem_cons_of_mem _ hb
  · rw [e] at hb
    unfold frs at hb
    rw [List.filterMap_cons, hf] at hb
    exact hb
theorem Inv.stkFree (I : Inv X pins σ H s) : ∀ b ∈ frs X.stack, H b = none := fun b hb => by
  rcases List.mem_cons.mp (I.stkSub b hb) with e | hb
  · rw [e]; exact I.free
  · obtain ⟨_, o, ho, _⟩ := I.ok.funs.mem hb
    exact I.base.free b o ho (I.ok.frf b hb) fun z => I.ok.exfs b z hb

/-- THE STEP: the untracked objects but the frame and the records at ch are kept (the callers' frames up to slots), the frame's map is kept, the new abstract heap is held -/
theorem Inv.step {g' : Array GenState} {t' : Nat} {d' : Drawn} {ch : List Addr} (I : Inv X pins σ H s)
    (hch : ∀ b ∈ ch, (b ∈ X.ex ∨ X.s₀.heap.objs.size ≤ b) ∧ b ≠ X.env.locals ∧ (∀ x c, X.env.cells.lookup x = some c → c ≠ b) ∧ ∀ p ∈ X.pn ++ pins, p.1 ≠ b)
    (keep : ∀ b o, b ≠ X.env.locals → b ∉ X.fs → b ∉ ch → s.heap.get? b = some o → H b = none → h'.get? b = some o)
    (slot : ∀ b o, b ≠ X.env.locals → b ∈ X.fs → b ∉ ch → s.heap.get? b = some o → H b = none → ∃ sl, h'.get? b = some { o with slots := sl }) (free : ∀ b o, b ∉ ch → s.heap.get? b = some o → H b = none → H' b = none)
    (there : ∀ b o, b ∉ ch → s.heap.get? b = some o → ∃ o', h'.get? b = some o')
    (tups : ∀ b xs, H b = some (.tup xs) → H' b = some (.tup xs)) (frzs : ∀ b o u, H b = some (.frz o u) → H' b = some (.frz o u)) (tbls : ∀ b ps, H b = some (.tbl ps) → ∃ more, H' b = some (.tbl (ps ++ more)))
    (ns : ∀ m, s.heap.Ns X.env.locals m → h'.Ns X.env.locals m) (hok : HOk X.prog X.w H' h') (hg : AllBare g') :
    Inv X pins σ H' { s with heap := h', gens := g', drawn := d', toks := t' } := by
  have neL : ∀ b o, X.s₀.heap.get? b = some o → b ≠ X.env.locals := fun b o e => Nat.ne_of_lt (Nat.lt_of_lt_of_le (Heap.lt_size e) I.ok.above)
  have neC : ∀ b o, X.s₀.heap.get? b = some o → b ∉ X.ex → b ∉ ch := fun b o e hx hb => by
    rcases (hch b hb).1 with z | z
    · exact hx z
    · exact absurd (Nat.lt_of_lt_of_le (Heap.lt_size e) z) (Nat.lt_irrefl _)
  have cellK : ∀ x c, X.env.cells.lookup x = some c → ∀ v, s.heap.IsCell c v → h'.IsCell c v := fun x c e v ⟨o, ho, hd⟩ => by
    have nch : c ∉ ch := fun z => (hch c z).2.2.1 x c e rfl
    by_cases hc : c ∈ X.fs
    · obtain ⟨sl, q⟩ := slot c o (I.cne x c e) hc nch ho (I.freeC x c e)
      exact ⟨_, q, hd⟩
    · exact ⟨o, keep c o (I.cne x c e) hc nch ho (I.freeC x c e), hd⟩
  refine ⟨I.ok, I.os, hg, ⟨fun b o e n hb hx => ?_, fun b o e n hb hx => ?_, fun b o e n hx => ?_, fun b o e hx => ?_, fun b xs e => tups b xs (I.base.tups b xs e), fun b o xs e => frzs b o xs (I.base.frzs b o xs e), fun b ps e => ?_⟩, ?_, fun x c e => ?_, ?_, fun x c e => ?_, fun p hp => ?_, hok, I.len⟩
  · exact keep b o (neL b o e) hb (neC b o e hx) (I.base.keep b o e n hb hx) (I.base.free b o e n hx)
  · obtain ⟨sl, e1⟩ := I.base.slot b o e n hb hx
    obtain ⟨sl', e2⟩ := slot b _ (neL b o e) hb (neC b o e hx) e1 (I.base.free b o e n hx)
    exact ⟨sl', e2⟩
  · obtain ⟨o', e1⟩ := I.base.there b o e hx
    exact free b o' (neC b o e hx) e1 (I.base.free b o e n hx)
  · obtain ⟨o', e1⟩ := I.base.there b o e hx
    exact there b o' (neC b o e hx) e1
  · obtain ⟨m1, e1⟩ := I.base.tbls b ps e
    obtain ⟨m2, e2⟩ := tbls b _ e1
    exact ⟨m1 ++ m2, by rw [e2, Array.append_assoc]⟩
  · obtain ⟨m, hn, hl⟩ := I.loc
    refine ⟨m, ns m hn, fun i x v e1 e2 e3 => ?_⟩
    obtain ⟨u, r, l⟩ := hl i x v e1 e2 e3
    refine ⟨u, r, ?_⟩
    rcases l with l | ⟨k, c, e, z⟩
    · exact .inl l
    · exact .inr ⟨k, c, e, cellK x c e _ z⟩
  · obtain ⟨v, z⟩ := I.cell x c e
    exact ⟨v, cellK x c e v z⟩
  · obtain ⟨m, ⟨o, _, _, ho, _⟩, _⟩ := I.loc
    exact free _ o (fun z => (hch _ z).2.1 rfl) ho I.free
  · obtain ⟨v, o, ho, hd⟩ := I.cell x c e
    exact free c o (fun z => (hch c z).2.2.1 x c e rfl) ho (I.freeC x c e)
  · obtain ⟨e, n, ne, nf, d⟩ := I.pin p hp
    have nch : p.1 ∉ ch := fun z => (hch p.1 z).2.2.2 p hp rfl
    exact ⟨keep p.1 p.2 ne nf nch e n, free p.1 p.2 nch e n, ne, nf, d⟩
/-- .. where the frame's own object is kept too -/
theorem Inv.un {t' : Nat} (I : Inv X pins σ H s) (u : Un X.fs [] H H' s.heap h') (hok : HOk X.prog X.w H' h') : Inv X pins σ H' { s with heap := h', toks := t' } := by
  obtain ⟨m, ⟨o, es, ep, ho, r⟩, _⟩ := id I.loc
  obtain ⟨sl, hL⟩ := u.any ho I.free (by simp)
  exact I.step (g' := s.gens) (d' := s.drawn) (ch := []) (fun _ z => nomatch z) (fun b o _ hb _ e n => u.keep b o e n hb (by simp)) (fun b o _ hb _ e n => u.slot b o e n hb (by simp)) (fun b o _ e n => u.free b o e n (by simp)) (fun b o _ e => u.there b o e (by simp)) u.tups u.frzs u.tbls (fun m' hm => by
    obtain ⟨o', es', ep', ho', r'⟩ := hm
    rw [ho] at ho'; cases ho'
    exact ⟨_, es', ep', hL, r'⟩) hok I.bare
/-- behind a call (or a comprehension's block): the slots of this frame may have changed too, the records at ch may have turned -/
theorem Inv.call {g' : Array GenState} {t' : Nat} {d' : Drawn} {ch : List Addr} (I : Inv X pins σ H s) (u : Un (frs X.stack) ch H H' s.heap h') (hok : HOk X.prog X.w H' h') (hg : AllBare g')
    (hch : ∀ b ∈ ch, (b ∈ X.ex ∨ X.s₀.heap.objs.size ≤ b) ∧ b ≠ X.env.locals ∧ (∀ x c, X.env.cells.lookup x = some c → c ≠ b) ∧ ∀ p ∈ X.pn ++ pins, p.1 ≠ b) :
    Inv X pins σ H' { s with heap := h', gens := g', drawn := d', toks := t' } := by
  obtain ⟨m, ⟨o, es, ep, ho, r⟩, _⟩ := id I.loc
  obtain ⟨sl, hL⟩ := u.any ho I.free fun z => (hch _ z).2.1 rfl
  exact I.step (ch := ch) hch (fun b o hL hb hc e n => u.keep b o e n (fun z => (List.mem_cons.mp (I.stkSub b z)).elim hL hb) hc) (fun b o _ _ hc e n => u.any e n hc) (fun b o hc e n => u.free b o e n hc) (fun b o hc e => u.there b o e hc) u.tups u.frzs u.tbls (fun m' hm => by
    obtain ⟨o', es', ep', ho', r'⟩ := hm
    rw [ho] at ho'; cases ho'
    exact ⟨_, es', ep', hL, r'⟩) hok hg
/-- an untracked record of ours (an iterator) has turned -/
theorem Inv.turned {t' : Nat} {it : Addr} (I : Inv X pins σ H s) (k : ∀ b o, b ≠ it → s.heap.get? b = some o → h'.get? b = some o) (hn : H it = none) (hL : it ≠ X.env.locals)
    (h1 : it ∈ X.ex ∨ X.s₀.heap.objs.size ≤ it) (h2 : ∀ x c, X.env.cells.lookup x = some c → c ≠ it) (h3 : ∀ p ∈ X.pn ++ pins, p.1 ≠ it) : Inv X pins σ H { s with heap := h', toks := t' } := by
  have nit : ∀ b u, H b = some u → b ≠ it := fun b u e z => by rw [z, hn] at e; cases e
  refine I.step (g' := s.gens) (d' := s.drawn) (ch := [it]) (fun b hb => ?_) (fun b o _ _ hc e _ => k b o (fun z => hc (by simp [z])) e) (fun b o _ _ hc e _ => ⟨o.slots, k b o (fun z => hc (by simp [z])) e⟩) (fun _ _ _ _ n => n)
    (fun b o hc e => ⟨o, k b o (fun z => hc (by simp [z])) e⟩) (fun _ _ e => e) (fun _ _ _ e => e) (fun b ps e => ⟨#[], by rw [e]; simp⟩) (fun m hm => ?_) (fun b u e => ?_) I.bare
  · have e : b = it := by simpa using hb
    subst e
    exact ⟨h1, hL, h2, h3⟩
  · obtain ⟨o, es, ep, ho, r⟩ := hm
    exact ⟨o, es, ep, k _ o (Ne.symm hL) ho, r⟩
  · refine (I.hok b u e).stay (fun c v hc q => k c v ?_ q) (fun _ q => q) fun _ _ q => q
    rcases hc with z | z
    · rw [z]; exact nit b u e
    · exact nit c _ z
theorem Inv.tok (I : Inv X pins σ H s) (t : Nat) : Inv X pins σ H { s with toks := t } := I.un (h' := s.heap) (t' := t) Un.refl I.hok
/-- all objects kept -/
theorem Inv.kept {t' : Nat} (I : Inv X pins σ H s) (k : ∀ b u, s.heap.get? b = some u → h'.get? b = some u) : Inv X pins σ H { s with heap := h', toks := t' } := I.un (Un.kept k) (I.hok.kept k)
/-- a new object laid and tracked -/
theorem Inv.laid {a : Addr} {o : HO} {t' : Nat} (I : Inv X pins σ H s) (k : ∀ b u, s.heap.get? b = some u → h'.get? b = some u) (hp : s.heap.objs.size ≤ a) (new : ObjOk X.prog X.w (upd H a o) h' a o) :
    Inv X pins σ (upd H a o) { s with heap := h', toks := t' } := I.un (Un.laid k hp (I.hok.fresh hp)) (I.hok.laid k hp new)
/-- an object written -/
theorem Inv.write {x e : Addr} {o : HO} {t' : Nat} (I : Inv X pins σ H s) (mu : Mut (H x)) (he : e = x ∨ H e = some (.own x)) (k : ∀ b u, b ≠ e → s.heap.get? b = some u → h'.get? b = some u) (heo : ∃ u, h'.get? e = some u)
    (new : ObjOk X.prog X.w (upd H x o) h' x o) : Inv X pins σ (upd H x o) { s with heap := h', toks := t' } := I.un (Un.write mu he k heo) (I.hok.write mu he k heo new)
theorem Inv.pins_of {pins' : List (Addr × Obj)} (I : Inv X pins σ H s) (h : ∀ p ∈ pins', s.heap.get? p.1 = some p.2 ∧ H p.1 = none ∧ p.1 ≠ X.env.locals ∧ p.1 ∉ X.fs ∧ ∀ v, p.2.data ≠ .cell v) : Inv X pins' σ H s :=
  ⟨I.ok, I.os, I.bare, I.base, I.loc, I.cell, I.free, I.freeC, fun p hp => (List.mem_append.mp hp).elim (fun z => I.pin p (List.mem_append_left _ z)) (h p), I.hok, I.len⟩

theorem nodup_ix {N : List Str} (hN : N.Nodup) {i j : Nat} {x : Str} (a : N[i]? = some x) (b : N[j]? = some x) : i = j := by
  obtain ⟨h1, e1⟩ := List.getElem?_eq_some_iff.mp a
  obtain ⟨h2, e2⟩ := List.getElem?_eq_some_iff.mp b
  exact (List.getElem_inj hN).mp (e1.trans e2.symm)

/-- a name is stored; what changed -/
theorem store_ok2 {M : Model} {A : Around} {E : Value → Shared → Prop} {i : Nat} {x : Str} {v : V} {u : Value} {Q : Unit → Shared → Prop} (I : Inv X pins σ H s) (hN : X.N.Nodup) (hi : X.N[i]? = some x) (hx : Loc X.env.scope x) (r : RelV v u)
    (h : ∀ s', Inv X pins (σ.set i (some v)) H s' → (∃ a, Heap.SameBut a s.heap s'.heap ∧ (a = X.env.locals ∨ X.env.cells.lookup x = some a)) → Q () s') (hf : X.fn x = true ∨ X.env.scope.names.lookup x = some .local := by first | exact .inl rfl | exact .inr rfl | assumption) : wpAny M A (storeName X.env x u) Q E s := by
  obtain ⟨m, hn, hl⟩ := id I.loc
  have hcls : (X.env.scope.kind == .class || (X.env.scope.kind == .module && X.env.locals != X.env.globals)) = false := by rw [I.ok.kind]; rfl
  have hiσ : i < σ.length := by rw [I.len]; exact (List.getElem?_eq_some_iff.mp hi).1
  have cne := I.cne
  have tracked : ∀ {a : Addr} {h' : Heap}, (∃ o, s.heap.get? a = some o ∧ H a = none) → Heap.SameBut a s.heap h' → HOk X.prog X.w H h' := fun {a h'} ha hs b ob e => by
    obtain ⟨_, _, hfree⟩ := ha
    refine (I.hok b ob e).stay (fun c w' hc q => (hs.2 c ?_).trans q) (fun _ q => q) fun _ _ q => q
    rintro rfl
    rcases hc with rfl | hc
    · rw [hfree] at e; cases e
    · rw [hfree] at hc; cases hc
  rcases hx with hk | hk
  · refine wpAny_storeName_local hk hn (fun h' hn' hs => ?_) hcls
    obtain ⟨oL, _, _, hoL, _⟩ := id hn
    refine h _ ⟨I.ok, I.os, I.bare, ⟨fun b o e n hb hx => ?_, fun b o e n hb hx => ?_, I.base.free, fun b o e hx => ?_, I.base.tups, I.base.frzs, I.base.tbls⟩, ⟨_, hn', fun j y v' e1 e2 e3 => ?_⟩, fun y c e => ?_, I.free, I.freeC, fun p hp => ?_, tracked ⟨oL, hoL, I.free⟩ hs, by simpa using I.len⟩ ⟨_, hs, .inl rfl⟩
    · exact (hs.2 b (Nat.ne_of_lt (Nat.lt_of_lt_of_le (Heap.lt_size e) I.ok.above))).trans (I.base.keep b o e n hb hx)
    · obtain ⟨sl, e1⟩ := I.base.slot b o e n hb hx
      exact ⟨sl, (hs.2 b (Nat.ne_of_lt (Nat.lt_of_lt_of_le (Heap.lt_size e) I.ok.above))).trans e1⟩
    · obtain ⟨o', e1⟩ := I.base.there b o e hx
      exact ⟨o', (hs.2 b (Nat.ne_of_lt (Nat.lt_of_lt_of_le (Heap.lt_size e) I.ok.above))).trans e1⟩
    · by_cases hj : j = i
      · subst hj
        rw [hi] at e1; cases e1
        rw [List.getElem?_set_self hiσ] at e2
        cases e2
        exact ⟨u, r, .inl ⟨hk, by simp⟩⟩
      · rw [List.getElem?_set_ne (Ne.symm hj)] at e2
        obtain ⟨u', r', q⟩ := hl j y v' e1 e2 e3
        refine ⟨u', r', ?_⟩
        rcases q with ⟨k, e⟩ | ⟨k, c, e, z⟩
        · refine .inl ⟨k, ?_⟩
          have : y ≠ x := fun e => hj (nodup_ix hN e1 (e ▸ hi))
          simp [this, e]
        · exact .inr ⟨k, c, e, z.sameBut hs (cne y c e)⟩
    · obtain ⟨w', z⟩ := I.cell y c e
      exact ⟨w', z.sameBut hs (cne y c e)⟩
    · obtain ⟨e, n, ne, nf, d⟩ := I.pin p hp
      exact ⟨(hs.2 p.1 ne).trans e, n, ne, nf, d⟩
  · have hfn : X.fn x = true := by
      rcases hf with z | z
      · exact z
      · rw [z] at hk; cases hk
    obtain ⟨c, hc⟩ := I.ok.has x (.inl hk)
    obtain ⟨w', z⟩ := I.cell x c hc
    refine wpAny_storeName_cell I.ok.kind hk hc z (fun h' hc' hs => ?_)
    obtain ⟨oc, hoc, hocd⟩ := id z
    refine h { s with heap := h' } ⟨I.ok, I.os, I.bare, ⟨fun b o e n hb hx => ?_, fun b o e n hb hx => ?_, I.base.free, fun b o e hx => ?_, I.base.tups, I.base.frzs, I.base.tbls⟩, ⟨m, hn.sameBut hs (Ne.symm (cne x c hc)), fun j y v' e1 e2 e3 => ?_⟩, fun y c' e => ?_, I.free, I.freeC, fun p hp => ?_, tracked ⟨oc, hoc, I.freeC x c hc⟩ hs, by simpa using I.len⟩ ⟨c, hs, .inr hc⟩
    · exact (hs.2 b (Nat.ne_of_lt (Nat.lt_of_lt_of_le (Heap.lt_size e) (I.ok.cab x c hfn hc)))).trans (I.base.keep b o e n hb hx)
    · obtain ⟨sl, e1⟩ := I.base.slot b o e n hb hx
      exact ⟨sl, (hs.2 b (Nat.ne_of_lt (Nat.lt_of_lt_of_le (Heap.lt_size e) (I.ok.cab x c hfn hc)))).trans e1⟩
    · obtain ⟨o', e1⟩ := I.base.there b o e hx
      exact ⟨o', (hs.2 b (Nat.ne_of_lt (Nat.lt_of_lt_of_le (Heap.lt_size e) (I.ok.cab x c hfn hc)))).trans e1⟩
    · by_cases hj : j = i
      · subst hj
        rw [hi] at e1; cases e1
        rw [List.getElem?_set_self hiσ] at e2
        cases e2
        exact ⟨u, r, .inr ⟨.inl hk, c, hc, hc'⟩⟩
      · rw [List.getElem?_set_ne (Ne.symm hj)] at e2
        obtain ⟨u', r', q⟩ := hl j y v' e1 e2 e3
        refine ⟨u', r', ?_⟩
        rcases q with q | ⟨k, c', e, z'⟩
        · exact .inl q
        · refine .inr ⟨k, c', e, z'.sameBut hs ?_⟩
          rintro rfl
          exact hj (nodup_ix hN e1 (I.ok.inj _ _ _ e hc ▸ hi))
    · by_cases hcc : c' = c
      · subst hcc; exact ⟨_, hc'⟩
      · obtain ⟨w2, z2⟩ := I.cell y c' e
        exact ⟨w2, z2.sameBut hs hcc⟩
    · obtain ⟨e, n, ne, nf, d⟩ := I.pin p hp
      refine ⟨(hs.2 p.1 ?_).trans e, n, ne, nf, d⟩
      intro q
      rw [q, hoc] at e
      have q' : oc = p.2 := Option.some.inj e
      exact d w' (by rw [← q']; exact hocd)
theorem store_ok {M : Model} {A : Around} {E : Value → Shared → Prop} {i : Nat} {x : Str} {v : V} {u : Value} {Q : Unit → Shared → Prop} (I : Inv X pins σ H s) (hN : X.N.Nodup) (hi : X.N[i]? = some x) (hx : Loc X.env.scope x) (r : RelV v u)
    (h : ∀ s', Inv X pins (σ.set i (some v)) H s' → Q () s') (hf : X.fn x = true ∨ X.env.scope.names.lookup x = some .local := by first | exact .inl rfl | exact .inr rfl | assumption) : wpAny M A (storeName X.env x u) Q E s :=
  store_ok2 I hN hi hx r (fun s' I' _ => h s' I') hf
/-- behind a call or a block, the state as it is -/
theorem Inv.call' {s' : Shared} {ch : List Addr} (I : Inv X pins σ H s) (ho : s'.os = s.os) (u : Un (frs X.stack) ch H H' s.heap s'.heap) (hok : HOk X.prog X.w H' s'.heap) (hg : AllBare s'.gens)
    (hch : ∀ b ∈ ch, (b ∈ X.ex ∨ X.s₀.heap.objs.size ≤ b) ∧ b ≠ X.env.locals ∧ (∀ x c, X.env.cells.lookup x = some c → c ≠ b) ∧ ∀ p ∈ X.pn ++ pins, p.1 ≠ b) : Inv X pins σ H' s' := by
  obtain ⟨h', g', d', t', o'⟩ := s'
  have e : o' = s.os := ho
  subst e
  exact I.call (g' := g') (t' := t') (d' := d') u hok hg hch
end

/-! ### the judgements -/
/-- an exception: its class, its own dict's address (where it has one), the abstract heap behind it -/
noncomputable abbrev XK := Value → Option Addr → Hp → Prop
noncomputable abbrev St := List (Option V)
noncomputable abbrev VK := V → Hp → Prop
/-- an expression's reading; a test's; an argument list's -/
noncomputable abbrev TE := St → Hp → VK → Prop
noncomputable abbrev TT := St → Hp → (Bool → Hp → Prop) → Prop
noncomputable abbrev TA := St → Hp → (List V → Hp → Prop) → Prop
/-- what is wanted behind a statement -/
structure Ends where
  nx : St → Hp → Prop
  rt : VK
  bk : St → Hp → Prop := fun _ _ => False
  ct : St → Hp → Prop := fun _ _ => False
noncomputable abbrev TS := Ends → St → Hp → Prop

inductive EP (X : Cx) (pins : List (Addr × Obj)) (σ : St) (Q : VK) (u : Value) (s' : Shared) : Prop where
  | mk (v : V) (H' : Hp) (I : Inv X pins σ H' s') (r : RelV v u) (q : Q v H')
inductive TP (X : Cx) (pins : List (Addr × Obj)) (σ : St) (Q : Bool → Hp → Prop) (b : Bool) (s' : Shared) : Prop where
  | mk (H' : Hp) (I : Inv X pins σ H' s') (q : Q b H')
inductive AP (X : Cx) (pins : List (Addr × Obj)) (σ : St) (Q : List V → Hp → Prop) (us : List Value) (s' : Shared) : Prop where
  | mk (vs : List V) (H' : Hp) (I : Inv X pins σ H' s') (r : Vals vs us) (q : Q vs H')
noncomputable def SP (X : Cx) (pins : List (Addr × Obj)) (D : Ends) (f : Flow) (s' : Shared) : Prop :=
  match f with
  | .next => ∃ σ' H', Inv X pins σ' H' s' ∧ D.nx σ' H'
  | .brk => ∃ σ' H', Inv X pins σ' H' s' ∧ D.bk σ' H'
  | .cont => ∃ σ' H', Inv X pins σ' H' s' ∧ D.ct σ' H'
  | .ret u => ∃ v σ' H', Inv X pins σ' H' s' ∧ RelV v u ∧ D.rt v H'

noncomputable def PE (X : Cx) (e : Expr) (t : TE) : Prop :=
  ∀ (pins : List (Addr × Obj)) (s : Shared) (σ : St) (H : Hp) (Q : VK), Inv X pins σ H s → t σ H Q → wpAny (model X.prog X.w) X.A (eval e X.env) (EP X pins σ Q) X.xe s
noncomputable def PT (X : Cx) (e : Expr) (t : TT) : Prop :=
  ∀ (pins : List (Addr × Obj)) (s : Shared) (σ : St) (H : Hp) (Q : Bool → Hp → Prop), Inv X pins σ H s → t σ H Q → wpAny (model X.prog X.w) X.A (isTrue e X.env (eval e X.env)) (TP X pins σ Q) X.xe s
/-- a test whatever its 'whole' is (and, or) -/
noncomputable def PW (X : Cx) (e : Expr) (t : TT) : Prop :=
  ∀ (whole : Sem Value) (pins : List (Addr × Obj)) (s : Shared) (σ : St) (H : Hp) (Q : Bool → Hp → Prop), Inv X pins σ H s → t σ H Q → wpAny (model X.prog X.w) X.A (isTrue e X.env whole) (TP X pins σ Q) X.xe s
theorem PW.pt {X : Cx} {e : Expr} {t : TT} (h : PW X e t) : PT X e t := h _
/-- an argument list (no star), from the left -/
noncomputable def PA (X : Cx) (es : List Expr) (t : TA) : Prop :=
  ∀ (pos : Pos) (pins : List (Addr × Obj)) (s : Shared) (σ : St) (H : Hp) (Q : List V → Hp → Prop), Inv X pins σ H s → t σ H Q → wpAny (model X.prog X.w) X.A (spliced (backTo pos (starEach es X.env))) (AP X pins σ Q) X.xe s
noncomputable def PS (X : Cx) (st : Stmt) (t : TS) : Prop :=
  ∀ (pins : List (Addr × Obj)) (s : Shared) (σ : St) (H : Hp) (D : Ends), Inv X pins σ H s → t D σ H → wpAny (model X.prog X.w) X.A (exec st X.env) (SP X pins D) X.xe s
noncomputable def PSs (X : Cx) (st : List Stmt) (t : TS) : Prop :=
  ∀ (pins : List (Addr × Obj)) (s : Shared) (σ : St) (H : Hp) (D : Ends), Inv X pins σ H s → t D σ H → wpAny (model X.prog X.w) X.A (execs st X.env) (SP X pins D) X.xe s
/-- weaken the end -/
theorem thn {α : Type} {t : Sem α} {Q Q' : α → Shared → Prop} {M : Model} {A : Around} {E : Value → Shared → Prop} {s : Shared} (h : wpAny M A t Q E s) (hQ : ∀ a s, Q a s → Q' a s) : wpAny M A t Q' E s := wpAny_mono h hQ fun _ _ x => x
end L2

namespace L2
open PySem PySem.Spec PyProof.Rows
section
variable {X : Cx}

/-! ### names and constants -/
noncomputable def tVar (i : Nat) : TE := fun σ H Q => ∃ v, σ[i]? = some (some v) ∧ Q v H
noncomputable def tC (v : V) : TE := fun _ H Q => Q v H
theorem pe_var {i : Nat} {x : Str} {pos : Pos} (hN : X.N[i]? = some x) (hv : Vis X.env.scope x) (hd : (x == ("__debug__" : Str)) = false := by decide) (hcd : (x == ("__classdict__" : Str)) = false := by decide) : PE X (.Name x pos) (tVar i) := by
  intro pins s σ H Q I h
  obtain ⟨v, e, h⟩ := h
  obtain ⟨m, hn, hl⟩ := I.loc
  obtain ⟨u, r, l⟩ := hl i x v hN e hv
  have fin : EP X pins σ Q u s := ⟨v, H, I, r, h⟩
  rcases l with ⟨hk, hm⟩ | ⟨hk, c, hc, hcell⟩
  · exact wpAny_Name (wpAny_loadName_local I.ok.kind hk hn hm fin) hd
  · rcases hk with hk | hk
    · exact wpAny_Name (wpAny_loadName_cell I.ok.kind hk hc hcell fin) hd
    · exact wpAny_Name (wpAny_loadName_free I.ok.kind hk hc hcell fin hcd) hd
theorem pe_int {i j pos} : PE X (.Constant (.int i) j pos) (tC (.int i)) := fun _ _ _ H _ I h => wpAny_Constant_int ⟨.int i, H, I.tok _, ⟨_, rfl⟩, h⟩
theorem pe_bl {b j pos} : PE X (.Constant (.bool b) j pos) (tC (.bl b)) := fun _ _ _ H _ I h => Constant_bool ⟨.bl b, H, I, rfl, h⟩
theorem pe_non {j pos} : PE X (.Constant .none j pos) (tC .non) := fun _ _ _ H _ I h => Constant_none ⟨.non, H, I, rfl, h⟩
theorem pe_str {x j pos} : PE X (.Constant (.str x) j pos) (tC (.str x)) := fun _ _ _ H _ I h => Calls.Constant_str ⟨.str x, H, I.tok _, ⟨_, rfl⟩, h⟩

/-- a global name of the def -/
noncomputable def Gl (X : Cx) (x : Str) : Prop := X.env.kindOf x = some .globalImplicit
theorem ld_glob {E : Value → Shared → Prop} {pins : List (Addr × Obj)} {s : Shared} {σ : St} {H : Hp} {x : Str} {u : Value} {pos : Pos} {Q : Value → Shared → Prop} (I : Inv X pins σ H s) (hg : Gl X x) (hm : X.mg x = some u) (h : Q u s)
    (hd : (x == ("__debug__" : Str)) = false := by decide) : wpAny (model X.prog X.w) X.A (eval (.Name x pos) X.env) Q E s :=
  Calls.Name_function_global I.ok.kind hg (Calls.loadGlobal_global (by rw [I.ok.glob]; exact I.mod.glob.keeps I.bk) hm h) hd
theorem ld_blt {E : Value → Shared → Prop} {pins : List (Addr × Obj)} {s : Shared} {σ : St} {H : Hp} {x : Str} {u : Value} {pos : Pos} {Q : Value → Shared → Prop} (I : Inv X pins σ H s) (hg : Gl X x) (hm : X.mg x = none) (hv : bootBuiltins x = some u) (h : Q u s)
    (hn : x ≠ "__name__" := by decide) (hd : (x == ("__debug__" : Str)) = false := by decide) : wpAny (model X.prog X.w) X.A (eval (.Name x pos) X.env) Q E s := by
  obtain ⟨mb, h1, h2⟩ := I.mod.blt
  exact Calls.Name_function_global I.ok.kind hg (Calls.loadGlobal_builtin (by rw [I.ok.glob]; exact I.mod.glob.keeps I.bk) hm (by rw [I.ok.blt]; exact h1.keeps I.bk) ((h2 x hn).trans hv) h) hd
/-- a module's constant, a class, a function, as a value -/
theorem pe_glob {x : Str} {v : V} {u : Value} {pos : Pos} (hg : Gl X x) (hm : X.mg x = some u) (r : RelV v u) (hd : (x == ("__debug__" : Str)) = false := by decide) : PE X (.Name x pos) (tC v) :=
  fun _ _ _ H _ I h => ld_glob I hg hm ⟨v, H, I, r, h⟩ hd
theorem pe_bltn {x : Str} {v : V} {u : Value} {pos : Pos} (hg : Gl X x) (hm : X.mg x = none) (hv : bootBuiltins x = some u) (r : RelV v u) (hn : x ≠ "__name__" := by decide) (hd : (x == ("__debug__" : Str)) = false := by decide) : PE X (.Name x pos) (tC v) :=
  fun _ _ _ H _ I h => ld_blt I hg hm hv ⟨v, H, I, r, h⟩ hn hd

/-! ### arithmetic -/
/-- two ints -/
noncomputable def t2I (ta tb : TE) (k : Int → Int → Hp → Prop) : St → Hp → Prop := fun σ H => ta σ H fun x H1 => tb σ H1 fun y H2 => ∃ i j, x = .int i ∧ y = .int j ∧ k i j H2
variable {a b : Expr} {ta tb : TE} {pos : Pos}
/-! ### comparisons -/
noncomputable def tCmp (p : Int → Int → Bool) (ta tb : TE) : TE := fun σ H Q => t2I ta tb (fun i j H2 => Q (.bl (p i j)) H2) σ H
noncomputable abbrev tGe : TE → TE → TE := tCmp fun i j => decide (j ≤ i)
/-! ### and, or, not -/
variable {tA tB' : TT} {rest : List Expr}
noncomputable def tAnd (t u : TT) : TT := fun σ H Q => t σ H fun c H1 => if c = true then u σ H1 Q else Q false H1
noncomputable def tOr (t u : TT) : TT := fun σ H Q => t σ H fun c H1 => if c = true then Q true H1 else u σ H1 Q
noncomputable def tNot (t : TT) : TT := fun σ H Q => t σ H fun c H1 => Q (!c) H1
theorem pw_and1 (ha : PT X a tA) : PW X (.BoolOp .And [a] pos) tA := by
  intro wh pins s σ H Q I h
  refine isTrue_and (thn (ha pins s σ H Q I h) fun c s1 e => ?_)
  cases c with
  | true => exact isTrue_and_nil e
  | false => exact e
theorem pw_or1 (ha : PT X a tA) : PW X (.BoolOp .Or [a] pos) tA := by
  intro wh pins s σ H Q I h
  refine isTrue_or (thn (ha pins s σ H Q I h) fun c s1 e => ?_)
  cases c with
  | false => exact isTrue_or_nil e
  | true => exact e
theorem pw_and (ha : PT X a tA) (hb : PW X (.BoolOp .And (b :: rest) pos) tB') : PW X (.BoolOp .And (a :: b :: rest) pos) (tAnd tA tB') := by
  intro wh pins s σ H Q I h
  refine isTrue_and (thn (ha pins s σ H _ I h) fun c s1 ⟨H1, I1, q1⟩ => ?_)
  cases c with
  | true => exact hb wh pins s1 σ H1 Q I1 q1
  | false => exact ⟨H1, I1, q1⟩
theorem pw_or (ha : PT X a tA) (hb : PW X (.BoolOp .Or (b :: rest) pos) tB') : PW X (.BoolOp .Or (a :: b :: rest) pos) (tOr tA tB') := by
  intro wh pins s σ H Q I h
  refine isTrue_or (thn (ha pins s σ H _ I h) fun c s1 ⟨H1, I1, q1⟩ => ?_)
  cases c with
  | true => exact ⟨H1, I1, q1⟩
  | false => exact hb wh pins s1 σ H1 Q I1 q1
theorem pt_not (ha : PT X a tA) : PT X (.UnaryOp .Not a pos) (tNot tA) := by
  intro pins s σ H Q I h
  exact isTrue_not (thn (ha pins s σ H (fun c H1 => Q (!c) H1) I h) fun _ _ ⟨H1, I1, q1⟩ => ⟨H1, I1, q1⟩)
/-- .. as values (bools) -/
noncomputable def tAndV (ta tb : TE) : TE := fun σ H Q => ta σ H fun x H1 => ∃ c, x = .bl c ∧ if c = true then tb σ H1 Q else Q (.bl false) H1
noncomputable def tOrV (ta tb : TE) : TE := fun σ H Q => ta σ H fun x H1 => ∃ c, x = .bl c ∧ if c = true then Q (.bl true) H1 else tb σ H1 Q
theorem pe_one {op} {t : TE} (h : PE X a t) : PE X (.BoolOp op [a] pos) t := fun pins s σ H Q I hw => BoolOp_one (h pins s σ H Q I hw)
theorem pe_and (ha : PE X a ta) (hb : PE X (.BoolOp .And (b :: rest) pos) tb) : PE X (.BoolOp .And (a :: b :: rest) pos) (tAndV ta tb) := by
  intro pins s σ H Q I h
  refine BoolOp_and (thn (ha pins s σ H _ I h) fun v s1 ⟨x, H1, I1, r1, q1⟩ => ?_)
  obtain ⟨c, rfl, q1⟩ := q1
  cases r1
  refine wpAny_truthy_bool ?_
  cases c with
  | true => exact hb pins s1 σ H1 Q I1 q1
  | false => exact ⟨.bl false, H1, I1, rfl, q1⟩
theorem pe_or (ha : PE X a ta) (hb : PE X (.BoolOp .Or (b :: rest) pos) tb) : PE X (.BoolOp .Or (a :: b :: rest) pos) (tOrV ta tb) := by
  intro pins s σ H Q I h
  refine BoolOp_or (thn (ha pins s σ H _ I h) fun v s1 ⟨x, H1, I1, r1, q1⟩ => ?_)
  obtain ⟨c, rfl, q1⟩ := q1
  cases r1
  refine wpAny_truthy_bool ?_
  cases c with
  | false => exact hb pins s1 σ H1 Q I1 q1
  | true => exact ⟨.bl true, H1, I1, rfl, q1⟩
/-- a if t else b -/
noncomputable def tIf (t : TT) (ta tb : TE) : TE := fun σ H Q => t σ H fun c H1 => if c = true then ta σ H1 Q else tb σ H1 Q
theorem pe_ifExp {c : Expr} (hc : PT X c tA) (ha : PE X a ta) (hb : PE X b tb) : PE X (.IfExp c a b pos) (tIf tA ta tb) := by
  intro pins s σ H Q I h
  refine wpAny_IfExp (thn (hc pins s σ H _ I h) fun d s1 ⟨H1, I1, q1⟩ => ?_)
  cases d with
  | true => exact ha pins s1 σ H1 Q I1 q1
  | false => exact hb pins s1 σ H1 Q I1 q1
end
end L2

namespace L2
open PySem PySem.Spec PyProof.Rows

/-! ### a list, a tuple that is read: tracked, frozen, or an object of the module -/
noncomputable def SqL (K : PySem.W.Frag) (H : Hp) (a : Addr) (xs : List V) : Prop :=
  Rd H a (.lst xs) ∨
    ∃ (o : Obj) (its : Array Value) (n : Nat), K.lookup a = some o ∧ o.cls = .type "list" ∧ o.dict = none ∧ o.data = .seq its n ∧ its.size ≤ sizeLine ∧ Vals xs its.toList
noncomputable def SqT (K : PySem.W.Frag) (H : Hp) (a : Addr) (xs : List V) : Prop :=
  Rd H a (.tup xs) ∨
    ∃ (o : Obj) (its : Array Value) (n : Nat), K.lookup a = some o ∧ o.cls = .type "tuple" ∧ o.dict = none ∧ o.data = .seq its n ∧ its.size ≤ sizeLine ∧ Vals xs its.toList
noncomputable def absV : Value → Option V
  | .none => some .non
  | .bool b => some (.bl b)
  | .int i _ => some (.int i)
  | .str x _ => some (.str x)
  | .bytes b _ => some (.byt b)
  | .float b _ => some (.flt b)
  | .ref a => some (.ref a)
  | .type n => some (.ty n)
  | _ => none
theorem RelV.abs {x : V} {u : Value} (r : RelV x u) : absV u = some x := by
  cases x with
  | non => cases r; rfl
  | bl _ => cases r; rfl
  | int _ => obtain ⟨t, rfl⟩ := r; rfl
  | str _ => obtain ⟨t, rfl⟩ := r; rfl
  | byt _ => obtain ⟨t, rfl⟩ := r; rfl
  | flt _ => obtain ⟨t, rfl⟩ := r; rfl
  | ref _ => cases r; rfl
  | ty _ => cases r; rfl
theorem RelV.inj {x y : V} {u : Value} (r : RelV x u) (q : RelV y u) : x = y := Option.some.inj (r.abs.symm.trans q.abs)
theorem Vals.inj : ∀ {xs ys : List V} {us : List Value}, Vals xs us → Vals ys us → xs = ys
  | _, _, _, .nil, .nil => rfl
  | _, _, _, .cons r t, .cons r' t' => by rw [r.inj r', Vals.inj t t']
section
variable {X : Cx} {pins : List (Addr × Obj)} {σ : St} {H : Hp} {s : Shared} {a : Addr} {xs ys : List V}
theorem SqT.of {K : PySem.W.Frag} (h : H a = some (.tup xs)) : SqT K H a xs := .inl (.inl h)
theorem Inv.list (I : Inv X pins σ H s) (h : SqL X.K H a xs) : ∃ its : List Value, Vals xs its ∧ PlainL s.heap a its.toArray ∧ xs.length ≤ sizeLine := by
  rcases h with h | ⟨o, its, n, hk, hc, hd, hs, hz, r⟩
  · obtain ⟨z, its, n, r, e⟩ := h.ok I.hok
    exact ⟨its, r, ⟨_, n, e, rfl, rfl, rfl⟩, z⟩
  · refine ⟨its.toList, r, ⟨o, n, I.kIn a o hk, hc, hd, by simpa using hs⟩, ?_⟩
    have e := r.length
    simp only [Array.length_toList] at e
    omega
theorem Inv.tuple (I : Inv X pins σ H s) (h : SqT X.K H a xs) : ∃ its : List Value, Vals xs its ∧ IsTup s.heap a its.toArray ∧ xs.length ≤ sizeLine := by
  rcases h with h | ⟨o, its, n, hk, hc, _, hs, hz, r⟩
  · obtain ⟨z, its, r, p⟩ := h.ok I.hok
    exact ⟨its, r, p.1, z⟩
  · refine ⟨its.toList, r, ⟨o, I.kIn a o hk, hc, n, by simpa using hs⟩, ?_⟩
    have e := r.length
    simp only [Array.length_toList] at e
    omega
theorem Inv.tupleB (I : Inv X pins σ H s) (h : SqT X.K H a xs) : ∀ o, s.heap.get? a = some o → o.dict = none := by
  rcases h with h | ⟨o, its, n, hk, hc, hd, hs, hz, r⟩
  · obtain ⟨z, its, r, p⟩ := h.ok I.hok
    exact p.2
  · intro o2 e2
    rw [I.kIn a o hk] at e2
    cases e2
    exact hd
theorem Inv.list_inj (I : Inv X pins σ H s) (h : SqL X.K H a xs) (h' : SqL X.K H a ys) : xs = ys := by
  obtain ⟨its, r, ⟨o, n, e, _, _, d⟩, _⟩ := I.list h
  obtain ⟨its', r', ⟨o', n', e', _, _, d'⟩, _⟩ := I.list h'
  rw [e] at e'; cases e'
  rw [d] at d'
  injection d' with d1 _
  have : its = its' := by simpa using congrArg Array.toList d1
  subst this
  exact r.inj r'
theorem Inv.tuple_inj (I : Inv X pins σ H s) (h : SqT X.K H a xs) (h' : SqT X.K H a ys) : xs = ys := by
  obtain ⟨its, r, ⟨o, e, _, n, d⟩, _⟩ := I.tuple h
  obtain ⟨its', r', ⟨o', e', _, n', d'⟩, _⟩ := I.tuple h'
  rw [e] at e'; cases e'
  rw [d] at d'
  injection d' with d1 _
  have : its = its' := by simpa using congrArg Array.toList d1
  subst this
  exact r.inj r'
end

/-! ### another wish about exceptions -/
noncomputable abbrev Cx.wish (X : Cx) (E : Value → Shared → Prop) : Cx := { X with xe := E }
/-- no exception leaves -/
noncomputable abbrev Cx.nox (X : Cx) : Cx := X.wish fun _ _ => False
theorem Cx.Ok.wish {X : Cx} (ok : X.Ok) (E : Value → Shared → Prop) : (X.wish E).Ok :=
  ⟨ok.mod, ok.kind, ok.glob, ok.blt, ok.above, ok.inj, ok.has, ok.cab, ok.hd, ok.frames, ok.stk, ok.exf, ok.bs, ok.bsz, ok.noex, ok.exfs, ok.funs, ok.frf⟩
theorem Cx.Ok.unwish {X : Cx} {E : Value → Shared → Prop} (ok : (X.wish E).Ok) : X.Ok :=
  ⟨ok.mod, ok.kind, ok.glob, ok.blt, ok.above, ok.inj, ok.has, ok.cab, ok.hd, ok.frames, ok.stk, ok.exf, ok.bs, ok.bsz, ok.noex, ok.exfs, ok.funs, ok.frf⟩
section
variable {X : Cx} {pins : List (Addr × Obj)} {σ : St} {H : Hp} {s : Shared} {E : Value → Shared → Prop}
theorem Inv.wish (I : Inv X pins σ H s) (E : Value → Shared → Prop) : Inv (X.wish E) pins σ H s := ⟨I.ok.wish E, I.os, I.bare, I.base, I.loc, I.cell, I.free, I.freeC, I.pin, I.hok, I.len⟩
theorem Inv.unwish (I : Inv (X.wish E) pins σ H s) : Inv X pins σ H s := ⟨I.ok.unwish, I.os, I.bare, I.base, I.loc, I.cell, I.free, I.freeC, I.pin, I.hok, I.len⟩
theorem SP.unwish {D : Ends} {f : Flow} {s' : Shared} (h : SP (X.wish E) pins D f s') : SP X pins D f s' := by
  cases f with
  | next => obtain ⟨σ', H', I, q⟩ := h; exact ⟨σ', H', I.unwish, q⟩
  | brk => obtain ⟨σ', H', I, q⟩ := h; exact ⟨σ', H', I.unwish, q⟩
  | cont => obtain ⟨σ', H', I, q⟩ := h; exact ⟨σ', H', I.unwish, q⟩
  | ret u => obtain ⟨v, σ', H', I, r, q⟩ := h; exact ⟨v, σ', H', I.unwish, r, q⟩
theorem PSs.nox {st : List Stmt} {t : TS} (h : PSs X.nox st t) : PSs X st t := fun pins s σ H D I hw =>
  wpAny_mono (h pins s σ H D (I.wish _) hw) (fun _ _ q => q.unwish) fun _ _ z => False.elim z
end

/-! ### blocks and small statements -/
section
variable {X : Cx} {st : Stmt} {rest : List Stmt} {t u : TS} {e : Expr} {te : TE} {pos : Pos}
noncomputable def tNext : TS := fun D σ H => D.nx σ H
noncomputable def tSeq (t u : TS) : TS := fun D σ H => t { D with nx := u D } σ H
theorem pss_nil : PSs X [] tNext := fun _ _ σ H _ I h => wpAny_execs_nil ⟨σ, H, I, h⟩
theorem pss_cons (h1 : PS X st t) (h2 : PSs X rest u) : PSs X (st :: rest) (tSeq t u) := by
  intro pins s σ H D I h
  refine wpAny_execs_cons (thn (h1 pins s σ H { D with nx := u D } I h) fun f s1 q => ?_)
  cases f with
  | next =>
    obtain ⟨σ', H', I', q⟩ := q
    exact h2 pins s1 σ' H' D I' q
  | ret v => exact q
  | brk => exact q
  | cont => exact q
/-- in a def's body nothing is shown -/
theorem Inv.quiet {pins : List (Addr × Obj)} {σ : St} {H : Hp} {s : Shared} (I : Inv X pins σ H s) : interactive X.env = false := by simp [interactive, I.ok.kind]
/-- an expression whose value is dropped -/
noncomputable def tDrop (te : TE) : TS := fun D σ H => te σ H fun _ H1 => D.nx σ H1
theorem ps_expr (he : PE X e te) (hs : swapsWith e none pos.line X.env = pure false := by rfl) : PS X (.Expr e pos) (tDrop te) := by
  intro pins s σ H D I h
  exact wpAny_Expr_any (thn (he pins s σ H _ I h) fun v s1 ⟨x, H1, I1, r1, q1⟩ => ⟨σ, H1, I1, q1⟩) I.quiet hs
noncomputable def tRet (te : TE) : TS := fun D σ H => te σ H D.rt
theorem ps_ret (he : PE X e te) : PS X (.Return (some e) pos) (tRet te) := by
  intro pins s σ H D I h
  exact wpAny_Return_some (thn (he pins s σ H _ I h) fun v s1 ⟨x, H1, I1, r1, q1⟩ => ⟨x, σ, H1, I1, r1, q1⟩)
noncomputable def tIfS (c : TT) (t u : TS) : TS := fun D σ H => c σ H fun b H1 => if b = true then t D σ H1 else u D σ H1
theorem ps_if {c : Expr} {a b : List Stmt} {tc : TT} (hc : PT X c tc) (ha : PSs X a t) (hb : PSs X b u) : PS X (.If c a b pos) (tIfS tc t u) := by
  intro pins s σ H D I h
  refine wpAny_If (thn (hc pins s σ H _ I h) fun d s1 ⟨H1, I1, q1⟩ => ?_)
  cases d with
  | true => exact ha pins s1 σ H1 D I1 q1
  | false => exact hb pins s1 σ H1 D I1 q1
end

/-! ### targets -/
noncomputable abbrev TG := V → St → Hp → (St → Hp → Prop) → Prop
noncomputable abbrev TGs := List V → St → Hp → (St → Hp → Prop) → Prop
noncomputable def PG (X : Cx) (target : Expr) (t : TG) : Prop :=
  ∀ (pins : List (Addr × Obj)) (s : Shared) (σ : St) (H : Hp) (v : V) (u : Value) (Q : St → Hp → Prop), Inv X pins σ H s → RelV v u → t v σ H Q →
    wpAny (model X.prog X.w) X.A (assign target X.env u) (fun _ s' => ∃ σ' H', Inv X pins σ' H' s' ∧ Q σ' H') X.xe s
/-- several targets, one after another -/
noncomputable def PGs (X : Cx) (ts : List Expr) (t : TGs) : Prop :=
  ∀ (pins : List (Addr × Obj)) (s : Shared) (σ : St) (H : Hp) (vs : List V) (us : List Value) (Q : St → Hp → Prop), Inv X pins σ H s → Vals vs us → t vs σ H Q →
    wpAny (model X.prog X.w) X.A (assignInOrder ((assignEach ts X.env).map (·.2)) us) (fun _ s' => ∃ σ' H', Inv X pins σ' H' s' ∧ Q σ' H') X.xe s
section
variable {X : Cx} {pos : Pos}
noncomputable def gName (i : Nat) : TG := fun v σ H Q => Q (σ.set i (some v)) H
theorem pg_name {i : Nat} {x : Str} (hN : X.N.Nodup) (hi : X.N[i]? = some x) (hx : Loc X.env.scope x) (hf : X.fn x = true ∨ X.env.scope.names.lookup x = some .local := by first | exact .inl rfl | exact .inr rfl | assumption) : PG X (.Name x pos) (gName i) := by
  intro pins s σ H v u Q I r h
  exact wpAny_assign_Name (store_ok I hN hi hx r (fun s' I' => ⟨_, H, I', h⟩) hf)
noncomputable def gNil : TGs := fun vs σ H Q => vs = [] ∧ Q σ H
noncomputable def gCons (t : TG) (u : TGs) : TGs := fun vs σ H Q => ∃ v r, vs = v :: r ∧ t v σ H fun σ' H' => u r σ' H' Q
theorem pgs_nil : PGs X [] gNil := by
  intro pins s σ H vs us Q I r h
  obtain ⟨e, h⟩ := h
  subst e
  cases r
  exact assignInOrder_nil ⟨σ, H, I, h⟩
theorem pgs_cons {e : Expr} {es : List Expr} {t : TG} {u : TGs} (h1 : PG X e t) (h2 : PGs X es u)
    (hs : (assignEach (e :: es) X.env).map (·.2) = assign e X.env :: (assignEach es X.env).map (·.2) := by rfl) : PGs X (e :: es) (gCons t u) := by
  intro pins s σ H vs us Q I r h
  obtain ⟨v, vr, e1, h⟩ := h
  subst e1
  cases r with
  | cons r rr =>
    rw [hs]
    refine assignInOrder_cons (thn (h1 pins s σ H _ _ _ I r h) fun _ s1 ⟨σ1, H1, I1, q1⟩ => ?_)
    exact h2 pins s1 σ1 H1 _ _ Q I1 rr q1
/-- (a, b, ..) = a tuple of that length -/
noncomputable def gTup (K : PySem.W.Frag) (n : Nat) (t : TGs) : TG := fun v σ H Q => ∃ a xs, v = .ref a ∧ SqT K H a xs ∧ xs.length = n ∧ t xs σ H Q
theorem pg_tup {es : List Expr} {k : Nat} {t : TGs} {n : Nat} (hc : X.calm = true) (h : PGs X es t)
    (hn : (assignEach es X.env).length = n := by rfl) (hst : (assignEach es X.env).findIdx? (·.1) = none := by rfl) : PG X (.Tuple es k pos) (gTup X.K n t) := by
  intro pins s σ H v u Q I r hw
  obtain ⟨a, xs, e1, hq, hl, hw⟩ := hw
  subst e1
  cases r
  obtain ⟨its, rv, ht, hz⟩ := I.tuple hq
  refine assign_Tuple_tuple (I.ok.hd hc) ht (by simp [hn, ← hl, rv.length]) hst fun h' hx => ?_
  have I1 : Inv X pins σ H { s with heap := h' } := I.kept (t' := s.toks) fun b o e => hx b o (Nat.ne_of_lt (Heap.lt_size e)) e
  exact h pins _ σ H xs _ Q I1 (by simpa using rv) hw
/-- target = value -/
noncomputable def tAsg (te : TE) (g : TG) : TS := fun D σ H => te σ H fun x H1 => g x σ H1 D.nx
theorem ps_asg {tg e : Expr} {te : TE} {g : TG} (he : PE X e te) (hg : PG X tg g) (hs : swapsWithSole [tg] e pos.line X.env = pure false := by rfl) (hw : swappedStores [tg] e X.env = pure none := by rfl)
    (h1 : (assignEach [tg] X.env).map (·.2) = [assign tg X.env] := by rfl) : PS X (.Assign [tg] e pos) (tAsg te g) := by
  intro pins s σ H D I h
  refine wpAny_Assign_stores (thn (he pins s σ H _ I h) fun v s1 ⟨x, H1, I1, r1, q1⟩ => ?_) hs hw
  rw [h1]
  exact thn (hg pins s1 σ H1 x v _ I1 r1 q1) fun _ s2 q => q
end

/-! ### while -/
section
variable {X : Cx} {pos : Pos}
end

/-! ### what a loop or a comprehension walks -/
/-- at turn i: it yields x (the heap may grow), or it stops -/
structure It where
  go : Nat → Hp → Prop
  yld : Nat → Hp → V → Hp → Prop
  stop : Nat → Hp → Prop
/-- the iterator's own objects may turn: they are not the frame's, not pinned, younger than the entry (or a comprehension's own) -/
noncomputable def FpOk (X : Cx) (pins : List (Addr × Obj)) (H : Hp) (b : Addr) : Prop :=
  H b = none ∧ b ≠ X.env.locals ∧ b ∉ X.fs ∧ (b ∈ X.ex ∨ X.s₀.heap.objs.size ≤ b) ∧ (∀ x c, X.env.cells.lookup x = some c → c ≠ b) ∧ ∀ p ∈ X.pn ++ pins, p.1 ≠ b
theorem Inv.fpOk {X : Cx} {pins : List (Addr × Obj)} {σ : St} {H H' : Hp} {s : Shared} {b : Addr} (I : Inv X pins σ H s) (hb : s.heap.objs.size ≤ b) (hn : H' b = none) : FpOk X pins H' b := by
  refine ⟨hn, Nat.ne_of_gt (Nat.lt_of_lt_of_le I.lt hb), I.nofs hb, .inr (Nat.le_trans I.sz hb), fun x c e z => ?_, fun p hp z => ?_⟩
  · obtain ⟨v, q⟩ := I.cell x c e
    exact absurd (Nat.lt_of_lt_of_le q.lt (by rw [z]; exact hb)) (Nat.lt_irrefl _)
  · exact absurd (Nat.lt_of_lt_of_le (Heap.lt_size (I.pin p hp).1) (by rw [z]; exact hb)) (Nat.lt_irrefl _)
structure Turn (P : Program) (w : World) (K : PySem.W.Frag) (tg : Expr) (J : It) (fp : List Addr) (it : Addr) (tn : Nat → Heap → Prop) : Prop where
  mem : it ∈ fp
  obj : ∀ i h, tn i h → ∀ b ∈ fp, ∃ o, h.get? b = some o ∧ ∀ v, o.data ≠ .cell v
  keep : ∀ i h h', tn i h → (∀ b ∈ fp, ∀ o, h.get? b = some o → h'.get? b = some o) → tn i h'
  item : ∀ (X : Cx), X.prog = P → X.w = w → X.K = K → X.calm = true → ∀ (i : Nat) (pins : List (Addr × Obj)) (s : Shared) (σ : St) (H : Hp) (E : Value → Shared → Prop), Inv X pins σ H s → (∀ b ∈ fp, FpOk X pins H b) → tn i s.heap → J.go i H →
    wpAny (model P w) X.A (pyNext (.ref it)) (fun r s1 => ∃ u, r = some u ∧
      wpAny (model P w) X.A (letOwnedTupleGo tg (.ref it) u) (fun _ s2 => ∃ x H', Inv X pins σ H' s2 ∧ RelV x u ∧ J.yld i H x H' ∧ tn (i + 1) s2.heap ∧ ∀ b ∈ fp, H' b = none) E s1) E s
  done : ∀ (X : Cx), X.prog = P → X.w = w → X.K = K → X.calm = true → ∀ (i : Nat) (pins : List (Addr × Obj)) (s : Shared) (σ : St) (H : Hp) (E : Value → Shared → Prop), Inv X pins σ H s → (∀ b ∈ fp, FpOk X pins H b) → tn i s.heap → J.stop i H →
    wpAny (model P w) X.A (pyNext (.ref it)) (fun r s1 => r = none ∧ Inv X pins σ H s1) E s
  self : ∀ (A : Around) (i : Nat) (s : Shared) (Q : Value → Shared → Prop) (E : Value → Shared → Prop), tn i s.heap → Q (.ref it) s → wpAny (model P w) A (pyIter (.ref it)) Q E s
noncomputable abbrev TI := St → Hp → (It → Hp → Prop) → Prop
/-- an iterator has come -/
noncomputable def PIE (X : Cx) (pins : List (Addr × Obj)) (σ : St) (tg : Expr) (R : It → Hp → Prop) (itv : Value) (s2 : Shared) : Prop :=
  ∃ (it : Addr) (fp : List Addr) (tn : Nat → Heap → Prop) (J : It) (H' : Hp), itv = .ref it ∧ Inv X pins σ H' s2 ∧ Turn X.prog X.w X.K tg J fp it tn ∧ tn 0 s2.heap ∧ (∀ b ∈ fp, FpOk X pins H' b) ∧ R J H'
noncomputable def PI (X : Cx) (tg iter : Expr) (wi : TI) : Prop :=
  ∀ (pins : List (Addr × Obj)) (s : Shared) (σ : St) (H : Hp) (R : It → Hp → Prop), Inv X pins σ H s → wi σ H R →
    wpAny (model X.prog X.w) X.A (eval iter X.env) (fun v s1 => wpAny (model X.prog X.w) X.A (pyIter v) (PIE X pins σ tg R) X.xe s1) X.xe s

/-- the step ahead of the store is nothing for an iterator that keeps no tuple -/
theorem go_of {M : Model} {A : Around} {E : Value → Shared → Prop} {s : Shared} {tg : Expr} {it : Addr} {u : Value} {o : Obj} {n : String} {vs : Array Value} {Q : Unit → Shared → Prop} (ho : s.heap.get? it = some o) (hc : o.cls = .type n) (hd : o.data = .fields vs)
    (hn : ["enumerate", "zip", "dict_itemiterator", "dict_reverseitemiterator", "odict_iterator", "itertools.zip_longest", "itertools.pairwise"].contains n = false) (hQ : Q () s) : wpAny M A (letOwnedTupleGo tg (.ref it) u) Q E s := by
  unfold letOwnedTupleGo
  cases tg <;> first
    | exact wpAny_pure hQ
    | (cases u <;> first
        | exact wpAny_pure hQ
        | (refine wpAny_bind (wpAny_load ho ?_)
           rw [hc, hd]
           show wpAny M A (if (["enumerate", "zip", "dict_itemiterator", "dict_reverseitemiterator", "odict_iterator", "itertools.zip_longest", "itertools.pairwise"].contains n && vs[0]? == some (rawInt _)) = true then _ else _) Q E s
           rw [if_neg (by intro h; rw [hn, Bool.false_and] at h; cases h)]
           exact wpAny_pure hQ))

/-- the list at a, as it stands at each turn (a loop may append to it) -/
noncomputable def Itl (K : PySem.W.Frag) (a : Addr) : It :=
  ⟨fun i H => ∃ xs x, SqL K H a xs ∧ xs[i]? = some x, fun i H x H' => H' = H ∧ ∀ xs, SqL K H a xs → xs[i]? = some x, fun i H => ∃ xs, SqL K H a xs ∧ xs.length ≤ i⟩
noncomputable def Itt (K : PySem.W.Frag) (a : Addr) : It :=
  ⟨fun i H => ∃ xs x, SqT K H a xs ∧ xs[i]? = some x, fun i H x H' => H' = H ∧ ∀ xs, SqT K H a xs → xs[i]? = some x, fun i H => ∃ xs, SqT K H a xs ∧ xs.length ≤ i⟩
/-- lo, lo + 1, .. (n of them) -/
noncomputable def Itr (lo : Int) (n : Nat) : It := ⟨fun i _ => i < n, fun i H x H' => H' = H ∧ x = .int (lo + i), fun i _ => n ≤ i⟩
theorem turn_list {P : Program} {w : World} {K : PySem.W.Frag} {tg : Expr} (a it : Addr) : Turn P w K tg (Itl K a) [it] it (fun i h => h.IsListIter it a i) where
  mem := by simp
  obj := fun i h st b hb => by
    have e : b = it := by simpa using hb
    subst e
    obtain ⟨o, e, c, d⟩ := st
    exact ⟨o, e, fun v z => by rw [d] at z; cases z⟩
  keep := fun i h h' st k => st.at fun o e => k it (by simp) o e
  item := by
    intro X hP hw hK hc i pins s σ H E I hf st hg
    subst hP hw hK
    obtain ⟨xs, x, hq, hx⟩ := hg
    obtain ⟨its, rv, p, hz⟩ := I.list hq
    obtain ⟨u, hu, ru⟩ := rv.get hx
    obtain ⟨f0, f1, f2, f3, f4, f5⟩ := hf it (by simp)
    refine wpAny_pyNext_list_item st p.isList (x := u) (by simpa using hu) fun h' st' sb => ?_
    have I1 : Inv X pins σ H { s with heap := h' } := I.turned (t' := s.toks) (fun b o hb e => (sb.2 b hb).trans e) f0 f1 f3 f4 f5
    obtain ⟨o, e, c, d⟩ := id st'
    exact ⟨u, rfl, go_of (s := { s with heap := h' }) e c d (by decide) ⟨x, H, I1, ru, ⟨rfl, fun ys hy => by rw [I.list_inj hy hq]; exact hx⟩, st', fun b hb => (hf b hb).1⟩⟩
  done := by
    intro X hP hw hK hc i pins s σ H E I hf st hg
    subst hP hw hK
    obtain ⟨xs, hq, hx⟩ := hg
    obtain ⟨its, rv, p, hz⟩ := I.list hq
    obtain ⟨f0, f1, f2, f3, f4, f5⟩ := hf it (by simp)
    have hl := rv.length
    exact wpAny_pyNext_list_end (I.ok.hd hc) st p.isList (by simp; omega) fun h' eb => ⟨rfl, I.turned (t' := s.toks) (fun b o hb e => eb b o hb e) f0 f1 f3 f4 f5⟩
  self := fun _ _ _ _ _ st h => wpAny_pyIter_listiter st h
theorem turn_tuple {P : Program} {w : World} {K : PySem.W.Frag} {tg : Expr} (a it : Addr) : Turn P w K tg (Itt K a) [it] it (fun i h => h.IsTupleIter it a i) where
  mem := by simp
  obj := fun i h st b hb => by
    have e : b = it := by simpa using hb
    subst e
    obtain ⟨o, e, c, d⟩ := st
    exact ⟨o, e, fun v z => by rw [d] at z; cases z⟩
  keep := fun i h h' st k => st.at fun o e => k it (by simp) o e
  item := by
    intro X hP hw hK hc i pins s σ H E I hf st hg
    subst hP hw hK
    obtain ⟨xs, x, hq, hx⟩ := hg
    obtain ⟨its, rv, p, hz⟩ := I.tuple hq
    obtain ⟨u, hu, ru⟩ := rv.get hx
    obtain ⟨f0, f1, f2, f3, f4, f5⟩ := hf it (by simp)
    refine wpAny_pyNext_tuple_item st (show s.heap.IsTuple a its.toArray from p) (x := u) (by simpa using hu) fun h' st' sb => ?_
    have I1 : Inv X pins σ H { s with heap := h' } := I.turned (t' := s.toks) (fun b o hb e => (sb.2 b hb).trans e) f0 f1 f3 f4 f5
    obtain ⟨o, e, c, d⟩ := id st'
    exact ⟨u, rfl, go_of (s := { s with heap := h' }) e c d (by decide) ⟨x, H, I1, ru, ⟨rfl, fun ys hy => by rw [I.tuple_inj hy hq]; exact hx⟩, st', fun b hb => (hf b hb).1⟩⟩
  done := by
    intro X hP hw hK hc i pins s σ H E I hf st hg
    subst hP hw hK
    obtain ⟨xs, hq, hx⟩ := hg
    obtain ⟨its, rv, p, hz⟩ := I.tuple hq
    obtain ⟨f0, f1, f2, f3, f4, f5⟩ := hf it (by simp)
    have hl := rv.length
    exact wpAny_pyNext_tuple_end (I.ok.hd hc) st (show s.heap.IsTuple a its.toArray from p) (by simp; omega) fun h' eb => ⟨rfl, I.turned (t' := s.toks) (fun b o hb e => eb b o hb e) f0 f1 f3 f4 f5⟩
  self := fun _ _ _ _ _ st h => wpAny_pyIter_tupleiter st h
theorem turn_range {P : Program} {w : World} {K : PySem.W.Frag} {tg : Expr} (it : Addr) (lo : Int) (n : Nat) : Turn P w K tg (Itr lo n) [it] it (fun i h => IsRangeIter h it (lo + (i : Nat) * 1) ((n : Int) - (i : Nat)) 1) where
  mem := by simp
  obj := fun i h st b hb => by
    have e : b = it := by simpa using hb
    subst e
    exact ⟨_, st, fun v z => by
      have z' : Data.fields _ = Data.cell v := z
      cases z'⟩
  keep := fun i h h' st k => k it (by simp) _ st
  item := by
    intro X hP hw hK hc i pins s σ H E I hf st hg
    subst hP hw hK
    obtain ⟨f0, f1, f2, f3, f4, f5⟩ := hf it (by simp)
    have W := Walks.range (prog := X.prog) (w := X.w) (I.ok.hd hc) it lo 1 n
    refine W.item i s _ _ hg st fun v h' tk hv st' kk => ?_
    obtain ⟨t, rfl⟩ := hv
    have I1 : Inv X pins σ H { s with heap := h', toks := tk } := I.turned (fun b o hb e => kk b o (by simpa using hb) e) f0 f1 f3 f4 f5
    refine ⟨_, rfl, go_of (s := { s with heap := h', toks := tk }) (n := "range_iterator") st' rfl rfl (by decide) ⟨.int (lo + i), H, I1, ⟨t, ?_⟩, ⟨rfl, rfl⟩, st', fun b hb => (hf b hb).1⟩⟩
    rw [Int.mul_one]
  done := by
    intro X hP hw hK hc i pins s σ H E I hf st hg
    subst hP hw hK
    obtain ⟨f0, f1, f2, f3, f4, f5⟩ := hf it (by simp)
    exact wpAny_pyNext_range_end (I.ok.hd hc) st (by have : n ≤ i := hg; omega) fun h' eb => ⟨rfl, I.turned (t' := s.toks) (fun b o hb e => eb b o hb e) f0 f1 f3 f4 f5⟩
  self := fun _ _ _ _ _ st h => wpAny_pyIter_rangeiter st h
end L2

namespace L2
open PySem PySem.Spec PyProof.Rows
section
variable {X : Cx} {tg : Expr}
/-- a range object just made, walked -/
theorem range_it {pins : List (Addr × Obj)} {σ : St} {H : Hp} {s : Shared} {R : It → Hp → Prop} {E : Value → Shared → Prop} {lo hi : Int} {t u v : Tok} {tk : Nat} (I : Inv X pins σ H s) (h1 : -(2 ^ 62) ≤ lo) (h2 : lo < 2 ^ 62) (h3 : -(2 ^ 62) ≤ hi) (h4 : hi < 2 ^ 62)
    (q : R (Itr lo (hi - lo).toNat) H) : wpAny (model X.prog X.w) X.A (pyIter (.ref s.heap.objs.size)) (PIE X pins σ tg R) E { s with heap := s.heap.push { cls := .type "range", data := .fields #[.int lo t, .int hi u, .int 1 v] }, toks := tk } := by
  refine wpAny_pyIter_range (IsRange.new ..) (small_one h1 h2 h3 h4) ?_
  have I1 : Inv X pins σ H { s with heap := s.heap.push { cls := .type "range", data := .fields #[.int lo t, .int hi u, .int 1 v] }, toks := tk } := I.kept fun b o e => Heap.get?_push_of_some _ e
  refine ⟨(s.heap.push { cls := .type "range", data := .fields #[.int lo t, .int hi u, .int 1 v] }).objs.size, [(s.heap.push { cls := .type "range", data := .fields #[.int lo t, .int hi u, .int 1 v] }).objs.size], _, _, H, rfl,
    I1.kept (t' := tk) fun b o e => Heap.get?_push_of_some _ e, turn_range _ lo (hi - lo).toNat, ?_, fun b hb => ?_, q⟩
  · have e1 : lo + ((0 : Nat) : Int) * 1 = lo := by simp
    have e2 : (((hi - lo).toNat : Nat) : Int) - ((0 : Nat) : Int) = Builtin.Range.rangeSize lo hi 1 := by rw [rangeSize_one]; split <;> omega
    show IsRangeIter _ _ (lo + ((0 : Nat) : Int) * 1) ((((hi - lo).toNat : Nat) : Int) - ((0 : Nat) : Int)) 1
    rw [e1, e2]
    exact Heap.get?_push_size _ rfl
  · have e : b = (s.heap.push { cls := .type "range", data := .fields #[.int lo t, .int hi u, .int 1 v] }).objs.size := by simpa using hb
    subst e
    exact I1.fpOk (Nat.le_refl _) (I1.hok.fresh (Nat.le_refl _))
noncomputable def iRng1 (ta : TA) : TI := fun σ H R => ta σ H fun vs H1 => ∃ j : Int, vs = [.int j] ∧ -(2 ^ 62) ≤ j ∧ j < 2 ^ 62 ∧ R (Itr 0 j.toNat) H1
theorem pi_range1 {a : Expr} {ta : TA} {p pos : Pos} (hg : Gl X "range") (hm : X.mg "range" = none) (ha : PA X [a] ta) (hs : starEach [a] X.env = [(false, eval a X.env)] := by rfl) : PI X tg (.Call (.Name "range" p) [a] [] pos) (iRng1 ta) := by
  intro pins s σ H R I h
  refine Call_ (ld_blt I hg hm boot_range (PyProof.Rows.callWith_type1 (thn (ha pos pins s σ H _ I h) fun us s1 ⟨vs, H1, I1, r1, q1⟩ => ?_) hs rfl))
  obtain ⟨j, e, q1, q2, q⟩ := q1
  subst e
  cases r1 with
  | cons r rr =>
    cases rr
    obtain ⟨t, rfl⟩ := r
    exact call_range_1 (range_it I1 (by omega) (by omega) q1 q2 (by simpa using q))
/-! ### for -/
/-- W: the invariant by the turn and a measure; N: what the body is to reach -/
noncomputable def tFor (wi : TI) (g : TG) (tb : TS) : TS := fun D σ H => wi σ H fun J H1 => ∃ W : Nat → Nat → St → Hp → Prop, (∃ m, W 0 m σ H1) ∧ ∀ i m σ H, W i m σ H →
  (J.stop i H ∧ D.nx σ H) ∨ (J.go i H ∧ ∃ N : St → Hp → Prop, (∀ σ' H', N σ' H' → ∃ m', m' < m ∧ W (i + 1) m' σ' H') ∧ ∀ x H', J.yld i H x H' → g x σ H' fun σ2 H2 => tb { D with nx := N, ct := N, bk := D.nx } σ2 H2)
/-- the records at fp as they stand -/
noncomputable def pinsAt (fp : List Addr) (h : Heap) : List (Addr × Obj) := fp.filterMap fun b => (h.get? b).map fun o => (b, o)
theorem mem_pinsAt {fp : List Addr} {h : Heap} {b : Addr} {o : Obj} (hb : b ∈ fp) (e : h.get? b = some o) : (b, o) ∈ pinsAt fp h := List.mem_filterMap.mpr ⟨b, hb, by rw [e]; rfl⟩
theorem of_pinsAt {fp : List Addr} {h : Heap} {p : Addr × Obj} (hp : p ∈ pinsAt fp h) : p.1 ∈ fp ∧ h.get? p.1 = some p.2 := by
  obtain ⟨b, hb, e⟩ := List.mem_filterMap.mp hp
  cases q : h.get? b with
  | none => rw [q] at e; cases e
  | some o =>
    rw [q] at e
    have e' : (b, o) = p := Option.some.inj e
    subst e'
    exact ⟨hb, q⟩
theorem Inv.pinned {pins : List (Addr × Obj)} {σ : St} {H : Hp} {s : Shared} {fp : List Addr} (I : Inv X pins σ H s) (hf : ∀ b ∈ fp, FpOk X pins H b) (ho : ∀ b ∈ fp, ∃ o, s.heap.get? b = some o ∧ ∀ v, o.data ≠ .cell v) : Inv X (pins ++ pinsAt fp s.heap) σ H s :=
  I.pins_of fun p hp => (List.mem_append.mp hp).elim (fun z => I.pin p (List.mem_append_right _ z)) fun z => by
    obtain ⟨hb, e⟩ := of_pinsAt z
    obtain ⟨f0, f1, f2, _⟩ := hf p.1 hb
    obtain ⟨o, e', d⟩ := ho p.1 hb
    rw [e] at e'; cases e'
    exact ⟨e, f0, f1, f2, d⟩
theorem Inv.unpinned {pins pl : List (Addr × Obj)} {σ : St} {H : Hp} {s : Shared} (I : Inv X (pins ++ pl) σ H s) : Inv X pins σ H s := I.pins_of fun p hp => I.pin p (List.mem_append_right _ (List.mem_append_left _ hp))
theorem ps_for {iter : Expr} {body : List Stmt} {wi : TI} {g : TG} {tb : TS} {pos : Pos} (hp : PassesOwn (model X.prog X.w) X.A X.env X.xe) (hc : X.calm = true) (hi : PI X tg iter wi) (hg : PG X tg g) (hb : PSs X body tb)
    (hs : ∀ x, foldedSetIterable iter X.env x = pure x := by intro _; rfl) : PS X (.For tg iter body [] pos) (tFor wi g tb) := by
  intro pins s σ H D I h
  refine wpAny_For (thn (hi pins s σ H _ I h) fun v s1 h1 => thn h1 fun itv s2 h2 => ?_) hs
  obtain ⟨it, fp, tn, J, H2, e, I2, T, st2, f2, W, ⟨m0, w0⟩, turn⟩ := h2
  subst e
  -- what stays true of the iterator's objects through the loop
  have stat : ∀ {H' : Hp}, (∀ b ∈ fp, H' b = none) → ∀ b ∈ fp, FpOk X pins H' b := fun hn b hb => ⟨hn b hb, (f2 b hb).2⟩
  refine codeAny_forLoop_any (fun n s' => ∃ i σ' H', Inv X pins σ' H' s' ∧ tn i s'.heap ∧ (∀ b ∈ fp, H' b = none) ∧ W i n σ' H') ?_ m0 ⟨0, σ, H2, I2, st2, fun b hb => (f2 b hb).1, w0⟩
  rintro n s3 ⟨i, σ3, H3, I3, st3, fr3, w3⟩
  rcases turn i n σ3 H3 w3 with ⟨stop, qn⟩ | ⟨go, N, hN, step⟩
  · refine wpAny_passesOwn hp (thn (T.done X rfl rfl rfl hc i pins s3 σ3 H3 X.xe I3 (stat fr3) st3 stop) fun r s4 ⟨hr, I4⟩ => ?_)
    subst hr
    exact wpAny_execs_nil ⟨σ3, H3, I4, qn⟩
  · refine wpAny_passesOwn hp (thn (T.item X rfl rfl rfl hc i pins s3 σ3 H3 X.xe I3 (stat fr3) st3 go) fun r s4 ⟨u, hr, h4⟩ => ?_)
    subst hr
    refine wpAny_passesOwn hp (thn h4 fun _ s5 ⟨x, H5, I5, r5, y5, st5, fr5⟩ => ?_)
    have I5' := I5.pinned (stat fr5) (T.obj _ _ st5)
    refine wpAny_passesOwn hp (thn (hg _ s5 σ3 H5 x u _ I5' r5 (step x H5 y5)) fun _ s6 ⟨σ6, H6, I6, q6⟩ => ?_)
    refine wpAny_passesOwn hp (thn (hb _ s6 σ6 H6 _ I6 q6) fun f s7 q7 => ?_)
    have again : ∀ {σ7 : St} {H7 : Hp}, Inv X (pins ++ pinsAt fp s5.heap) σ7 H7 s7 → N σ7 H7 → ∃ m, m < n ∧ ∃ i σ' H', Inv X pins σ' H' s7 ∧ tn i s7.heap ∧ (∀ b ∈ fp, H' b = none) ∧ W i m σ' H' := fun {σ7 H7} I7 n7 => by
      obtain ⟨m', hm, w7⟩ := hN σ7 H7 n7
      refine ⟨m', hm, i + 1, σ7, H7, I7.unpinned, T.keep _ _ _ st5 fun b hb o e => (I7.pin (b, o) (List.mem_append_right _ (List.mem_append_right _ (mem_pinsAt hb e)))).1, fun b hb => ?_, w7⟩
      obtain ⟨o, e, d⟩ := T.obj _ _ st5 b hb
      exact (I7.pin (b, o) (List.mem_append_right _ (List.mem_append_right _ (mem_pinsAt hb e)))).2.1
    cases f with
    | next => obtain ⟨σ7, H7, I7, n7⟩ := q7; exact again I7 n7
    | cont => obtain ⟨σ7, H7, I7, n7⟩ := q7; exact again I7 n7
    | brk => obtain ⟨σ7, H7, I7, q7⟩ := q7; exact ⟨σ7, H7, I7.unpinned, q7⟩
    | ret v => obtain ⟨x7, σ7, H7, I7, r7, q7⟩ := q7; exact ⟨x7, σ7, H7, I7.unpinned, r7, q7⟩
end

/-! ### the forms one uses -/
end L2

namespace L2
open PySem PySem.Spec PyProof.Rows

noncomputable abbrev R2 := V → V → Hp → VK → Prop
/-- a two-place operation on values: f is binaryOp op, inplaceOp op or compareOp op -/
noncomputable def OpR (X : Cx) (f : Value → Value → Sem Value) (r : R2) : Prop :=
  ∀ (pins : List (Addr × Obj)) (s : Shared) (σ : St) (H : Hp) (x y : V) (v u : Value) (Q : VK), Inv X pins σ H s → RelV x v → RelV y u → r x y H Q →
    wpAny (model X.prog X.w) X.A (f v u) (EP X pins σ Q) X.xe s
/-- a one-place operation -/
noncomputable def UnR (X : Cx) (f : Value → Sem Value) (r : V → Hp → VK → Prop) : Prop :=
  ∀ (pins : List (Addr × Obj)) (s : Shared) (σ : St) (H : Hp) (x : V) (v : Value) (Q : VK), Inv X pins σ H s → RelV x v → r x H Q →
    wpAny (model X.prog X.w) X.A (f v) (EP X pins σ Q) X.xe s
/-- a call of a value that is known (a builtin, a type) with values -/
noncomputable def CallR (X : Cx) (f : Value) (r : List V → Hp → VK → Prop) : Prop :=
  ∀ (pins : List (Addr × Obj)) (s : Shared) (σ : St) (H : Hp) (xs : List V) (us : List Value) (Q : VK), Inv X pins σ H s → Vals xs us → r xs H Q →
    wpAny (model X.prog X.w) X.A (call f us) (EP X pins σ Q) X.xe s
/-- a value's truth -/
noncomputable def TruR (X : Cx) (r : V → Hp → (Bool → Hp → Prop) → Prop) : Prop :=
  ∀ (pins : List (Addr × Obj)) (s : Shared) (σ : St) (H : Hp) (x : V) (v : Value) (Q : Bool → Hp → Prop), Inv X pins σ H s → RelV x v → r x H Q →
    wpAny (model X.prog X.w) X.A (truthy v) (TP X pins σ Q) X.xe s

noncomputable def tOp (r : R2) (ta tb : TE) : TE := fun σ H Q => ta σ H fun x H1 => tb σ H1 fun y H2 => r x y H2 Q
noncomputable def tUn (r : V → Hp → VK → Prop) (ta : TE) : TE := fun σ H Q => ta σ H fun x H1 => r x H1 Q
/-- ints in, under C, and a value out -/
noncomputable def rI (C : Int → Int → Prop) (g : Int → Int → V) : R2 := fun x y H Q => ∃ i j, x = .int i ∧ y = .int j ∧ C i j ∧ Q (g i j) H
noncomputable def rI0 (g : Int → Int → V) : R2 := fun x y H Q => ∃ i j, x = .int i ∧ y = .int j ∧ Q (g i j) H
noncomputable def rU (g : Int → V) : V → Hp → VK → Prop := fun x H Q => ∃ i, x = .int i ∧ Q (g i) H

section
variable {X : Cx} {a b c : Expr} {ta tb tc : TE} {pos : Pos}

theorem binT (ha : PE X a ta) (hb : PE X b tb) {pins : List (Addr × Obj)} {s : Shared} {σ : St} {H : Hp} {R : V → V → Hp → Prop} (I : Inv X pins σ H s)
    (h : ta σ H fun x H1 => tb σ H1 fun y H2 => R x y H2) {Q : Value → Shared → Prop} {f : Value → Value → Sem Value}
    (hf : ∀ v u s2 x y H2, Inv X pins σ H2 s2 → RelV x v → RelV y u → R x y H2 → wpAny (model X.prog X.w) X.A (f v u) Q X.xe s2) :
    wpAny (model X.prog X.w) X.A (eval a X.env) (fun v s₁ => wpAny (model X.prog X.w) X.A (eval b X.env) (fun u s₂ => wpAny (model X.prog X.w) X.A (f v u) Q X.xe s₂) X.xe s₁) X.xe s := by
  refine thn (ha pins s σ H _ I h) fun v s1 ⟨x, H1, I1, r1, q1⟩ => ?_
  refine thn (hb pins s1 σ H1 _ I1 q1) fun u s2 ⟨y, H2, I2, r2, q2⟩ => ?_
  exact hf v u s2 x y H2 I2 r1 r2 q2

theorem pe_op {op : Operator} {r : R2} (ho : OpR X (binaryOp op) r) (ha : PE X a ta) (hb : PE X b tb) : PE X (.BinOp a op b pos) (tOp r ta tb) := by
  intro pins s σ H Q I h
  exact wpAny_BinOp (binT ha hb I h fun v u s2 x y H2 I2 rx ry q => ho pins s2 σ H2 x y v u Q I2 rx ry q)
theorem pe_un {op : UnaryOp} {r : V → Hp → VK → Prop} (ho : UnR X (unaryOp op) r) (ha : PE X a ta) : PE X (.UnaryOp op a pos) (tUn r ta) := by
  intro pins s σ H Q I h
  exact UnaryOp_ (thn (ha pins s σ H _ I h) fun v s1 ⟨x, H1, I1, r1, q1⟩ => ho pins s1 σ H1 x v Q I1 r1 q1)
/-! ### ints -/
theorem opI {f : Value → Value → Sem Value} {C : Int → Int → Prop} {g : Int → Int → Int}
    (rule : ∀ (i j : Int) (t u : Tok) (s : Shared) (Q : Value → Shared → Prop) (E : Value → Shared → Prop), C i j → Q (.int (g i j) s.toks) { s with toks := s.toks + 1 } → wpAny (model X.prog X.w) X.A (f (.int i t) (.int j u)) Q E s) :
    OpR X f (rI C fun i j => .int (g i j)) := by
  intro pins s σ H x y v u Q I rx ry h
  obtain ⟨i, j, rfl, rfl, hc, q⟩ := h
  obtain ⟨t, rfl⟩ := rx
  obtain ⟨t', rfl⟩ := ry
  exact rule i j t t' s _ _ hc ⟨.int (g i j), H, I.tok _, ⟨_, rfl⟩, q⟩
theorem opI0 {f : Value → Value → Sem Value} {g : Int → Int → Int}
    (rule : ∀ (i j : Int) (t u : Tok) (s : Shared) (Q : Value → Shared → Prop) (E : Value → Shared → Prop), Q (.int (g i j) s.toks) { s with toks := s.toks + 1 } → wpAny (model X.prog X.w) X.A (f (.int i t) (.int j u)) Q E s) :
    OpR X f (rI0 fun i j => .int (g i j)) := by
  intro pins s σ H x y v u Q I rx ry h
  obtain ⟨i, j, rfl, rfl, q⟩ := h
  obtain ⟨t, rfl⟩ := rx
  obtain ⟨t', rfl⟩ := ry
  exact rule i j t t' s _ _ ⟨.int (g i j), H, I.tok _, ⟨_, rfl⟩, q⟩
theorem opB0 {f : Value → Value → Sem Value} {g : Int → Int → Bool}
    (rule : ∀ (i j : Int) (t u : Tok) (s : Shared) (Q : Value → Shared → Prop) (E : Value → Shared → Prop), Q (.bool (g i j)) s → wpAny (model X.prog X.w) X.A (f (.int i t) (.int j u)) Q E s) :
    OpR X f (rI0 fun i j => .bl (g i j)) := by
  intro pins s σ H x y v u Q I rx ry h
  obtain ⟨i, j, rfl, rfl, q⟩ := h
  obtain ⟨t, rfl⟩ := rx
  obtain ⟨t', rfl⟩ := ry
  exact rule i j t t' s _ _ ⟨.bl (g i j), H, I, rfl, q⟩

noncomputable def CPow (i j : Int) : Prop := 0 ≤ j ∧ j ≤ 1000000 ∧ i.natAbs < 2 ^ 64
noncomputable def CMul (i j : Int) : Prop := (-(2 ^ 64) < i ∧ i < 2 ^ 64) ∨ (-(2 ^ 64) < j ∧ j < 2 ^ 64)
theorem CMul.ok {i j : Int} (h : CMul i j) : IntMulOk i j := by
  rcases h with ⟨h1, h2⟩ | ⟨h1, h2⟩
  · exact .of_left (intBits_le_64 h1 h2)
  · exact .of_right (intBits_le_64 h1 h2)
theorem op_add : OpR X (binaryOp .Add) (rI0 fun i j => .int (i + j)) := opI0 fun _ _ _ _ _ _ _ q => add_int q
theorem op_mul : OpR X (binaryOp .Mult) (rI CMul fun i j => .int (i * j)) := opI fun _ _ _ _ _ _ _ hc q => mul_int q hc.ok
/-- % by a positive divisor of any size -/
theorem op_mod : OpR X (binaryOp .Mod) (rI (fun _ j => 0 < j) fun i j => .int (i % j)) := opI fun i j _ _ _ _ _ hc q => by
  have h1 : (0 : Int) < j := hc
  exact mod_int' (by omega) (by rw [Int.fmod_eq_emod_of_nonneg i (by omega)]; exact q)
theorem op_pow : OpR X (binaryOp .Pow) (rI CPow fun i j => .int (i ^ j.toNat)) := opI fun _ _ _ _ _ _ _ hc q => pow_int_small hc.1 hc.2.1 hc.2.2 q
theorem op_and : OpR X (binaryOp .BitAnd) (rI0 fun i j => .int (Builtin.bitAnd i j)) := opI0 fun _ _ _ _ _ _ _ q => and_int q
theorem unI {f : Value → Sem Value} {g : Int → Int}
    (rule : ∀ (i : Int) (t : Tok) (s : Shared) (Q : Value → Shared → Prop) (E : Value → Shared → Prop), Q (.int (g i) s.toks) { s with toks := s.toks + 1 } → wpAny (model X.prog X.w) X.A (f (.int i t)) Q E s) :
    UnR X f (rU fun i => .int (g i)) := by
  intro pins s σ H x v Q I rx h
  obtain ⟨i, rfl, q⟩ := h
  obtain ⟨t, rfl⟩ := rx
  exact rule i t s _ _ ⟨.int (g i), H, I.tok _, ⟨_, rfl⟩, q⟩
theorem un_neg : UnR X (unaryOp .USub) (rU fun i => .int (-i)) := unI fun _ _ _ _ _ q => neg_int q
/-! ### bools among ints: n += (a < b) -/
end

/-! ### comparisons -/
section
variable {X : Cx} {a b c : Expr} {ta tb tc : TE} {pos : Pos}
theorem fin_bl {pins : List (Addr × Obj)} {σ : St} {H : Hp} {s : Shared} {Q : VK} {k k' : Bool} (I : Inv X pins σ H s) (q : Q (.bl k) H) (e : k = k') : EP X pins σ Q (.bool k') s := by
  subst e
  exact ⟨.bl k, H, I, rfl, q⟩
theorem op_lt : OpR X (compareOp .Lt) (rI0 fun i j => .bl (decide (i < j))) := opB0 fun _ _ _ _ _ _ _ q => lt_int q
theorem op_gt : OpR X (compareOp .Gt) (rI0 fun i j => .bl (decide (j < i))) := opB0 fun _ _ _ _ _ _ _ q => gt_int q
theorem op_ge : OpR X (compareOp .GtE) (rI0 fun i j => .bl (decide (j ≤ i))) := opB0 fun _ _ _ _ _ _ _ q => ge_int q
/-- is None, is not None: the right side a value none -/
theorem op_isN : OpR X (compareOp .Is) (fun x y H Q => y = .non ∧ Q (.bl (decide (x = .non))) H) := by
  intro pins s σ H x y v u Q I rx ry h
  obtain ⟨rfl, q⟩ := h
  cases ry
  refine is_none_gen (fin_bl I q ?_)
  cases x <;> first
    | (cases rx; rfl)
    | (obtain ⟨t, rfl⟩ := rx; rfl)
theorem op_notN : OpR X (compareOp .IsNot) (fun x y H Q => y = .non ∧ Q (.bl (!decide (x = .non))) H) := by
  intro pins s σ H x y v u Q I rx ry h
  obtain ⟨rfl, q⟩ := h
  cases ry
  refine isnot_none_gen (fin_bl I q ?_)
  cases x <;> first
    | (cases rx; rfl)
    | (obtain ⟨t, rfl⟩ := rx; rfl)

/-- a comparison as a value; hm: nomark b, or (for in, not in) by with_unfolding_all rfl -/
theorem pe_cmpR {op : CmpOp} {r : R2} (ho : OpR X (compareOp op) r) (ha : PE X a ta) (hb : PE X b tb) (hm : behindInMarks op b = false) : PE X (.Compare a [op] [b] pos) (tOp r ta tb) := by
  intro pins s σ H Q I h
  exact wpAny_Compare1 (binT ha hb I h fun v u s2 x y H2 I2 rx ry q => ho pins s2 σ H2 x y v u Q I2 rx ry q) hm
/-- a reading of a value as a test -/
noncomputable def tTest (t : TE) : TT := fun σ H Q => t σ H fun x H' => ∃ k, x = .bl k ∧ Q k H'
theorem pt_cmpR {op : CmpOp} {r : R2} (ho : OpR X (compareOp op) r) (ha : PE X a ta) (hb : PE X b tb) (hm : behindInMarks op b = false) : PT X (.Compare a [op] [b] pos) (tTest (tOp r ta tb)) := by
  intro pins s σ H Q I h
  refine wpAny_isTrue_Compare1 (thn (ha pins s σ H _ I h) fun v s1 ⟨x, H1, I1, r1, q1⟩ => thn (hb pins s1 σ H1 _ I1 q1) fun u s2 ⟨y, H2, I2, r2, q2⟩ =>
    thn (ho pins s2 σ H2 x y v u _ I2 r1 r2 q2) fun c s3 ⟨z, H3, I3, r3, k, e, q3⟩ => ?_) hm
  subst e
  cases r3
  exact wpAny_truthy_bool ⟨H3, I3, q3⟩
/-! ### truth -/
/-- a value's truth by the abstract heap -/
noncomputable def TruV (K : PySem.W.Frag) (x : V) (H : Hp) (k : Bool) : Prop :=
  match x with
  | .non => k = false
  | .bl b => k = b
  | .int i => k = (i != 0)
  | .str y => y.length ≤ sizeLine ∧ k = ((y.length : Int) != 0)
  | .byt y => y.size ≤ sizeLine ∧ k = ((y.size : Int) != 0)
  | .ref p => (∃ xs, SqL K H p xs ∧ k = !xs.isEmpty) ∨ (∃ xs, SqT K H p xs ∧ k = !xs.isEmpty) ∨ ∃ kvs, H p = some (.dK kvs) ∧ k = !kvs.isEmpty
  | _ => False
theorem isEmpty_kv {κ : Type} {kvs : List (κ × V)} {vs : List (κ × Value)} (r : KV kvs vs) : (!vs.isEmpty) = !kvs.isEmpty := by
  cases r <;> rfl
theorem isEmpty_of {xs : List V} {its : List Value} (r : Vals xs its) : (!its.toArray.isEmpty) = !xs.isEmpty := by
  cases r <;> simp
theorem line63 : (sizeLine : Nat) < 2 ^ 63 := by rw [sizeLine_eq]; decide
theorem tru_ok : TruR X (fun x H Q => ∃ k, TruV X.K x H k ∧ Q k H) := by
  intro pins s σ H x v Q I rx h
  obtain ⟨k, e, q⟩ := h
  have hl := line63
  have hs : sizeLine = 16777216 := sizeLine_eq
  cases x with
  | non =>
    cases rx
    have e' : k = false := e
    subst e'
    exact truthy_none ⟨H, I, q⟩
  | bl b =>
    cases rx
    have e' : k = b := e
    subst e'
    exact wpAny_truthy_bool ⟨H, I, q⟩
  | int i =>
    obtain ⟨t, rfl⟩ := rx
    have e' : k = (i != 0) := e
    subst e'
    exact PySem.P.truthy_int ⟨H, I, q⟩
  | str y =>
    obtain ⟨t, rfl⟩ := rx
    obtain ⟨hy, e'⟩ : y.length ≤ sizeLine ∧ k = ((y.length : Int) != 0) := e
    subst e'
    exact PySem.P.truthy_str (by omega) ⟨H, I.tok _, q⟩
  | byt y =>
    obtain ⟨t, rfl⟩ := rx
    obtain ⟨hy, e'⟩ : y.size ≤ sizeLine ∧ k = ((y.size : Int) != 0) := e
    subst e'
    exact PySem.W.truthy_bytes (by omega) ⟨H, I.tok _, q⟩
  | ref p =>
    cases rx
    have e' : (∃ xs, SqL X.K H p xs ∧ k = !xs.isEmpty) ∨ (∃ xs, SqT X.K H p xs ∧ k = !xs.isEmpty) ∨ ∃ kvs, H p = some (.dK kvs) ∧ k = !kvs.isEmpty := e
    rcases e' with ⟨xs, hx, e'⟩ | ⟨xs, hx, e'⟩ | ⟨kvs, hx, e'⟩
    · subst e'
      obtain ⟨its, r, pl, hz⟩ := I.list hx
      have hlen := r.length
      exact wpAny_truthy_list pl.isList (by simp only [List.size_toArray]; omega) ⟨H, I.tok _, by rw [isEmpty_of r]; exact q⟩
    · subst e'
      obtain ⟨its, r, pl, hz⟩ := I.tuple hx
      have hlen := r.length
      exact truthy_tuple pl (by simp only [List.size_toArray]; omega) ⟨H, I.tok _, by rw [isEmpty_of r]; exact q⟩
    · subst e'
      obtain ⟨hz, hS, vs, r, m⟩ : kvs.length ≤ sizeLine ∧ (p == sysModules) = false ∧ ∃ vs, KV kvs vs ∧ s.heap.DictOf (mixKind X.prog X.w) p vs := I.hok p _ hx
      have hlen : kvs.length = vs.length := Paired.length r
      exact wpAny_truthy_dict hS m (by omega) ⟨H, I.tok _, by rw [isEmpty_kv r]; exact q⟩
  | _ => exact (show False from e).elim
/-- any expression whose test is its value's truth (a name, a call, a subscript, a field ..: he by fun _ => rfl) -/
theorem pt_truth (ha : PE X a ta) (he : ∀ whole, isTrue a X.env whole = (do let v ← whole; standAt a.pos; holding [v] (truthy v))) :
    PT X a (fun σ H Q => ta σ H fun x H' => ∃ k, TruV X.K x H' k ∧ Q k H') := by
  intro pins s σ H Q I h
  exact isTrue_plain (thn (ha pins s σ H _ I h) fun v s1 ⟨x, H1, I1, r1, q1⟩ => tru_ok pins s1 σ H1 x v Q I1 r1 q1) (he _)

/-! ### strs and bytes -/
theorem op_add_str : OpR X (binaryOp .Add) (fun x y H Q => ∃ i j, x = .str i ∧ y = .str j ∧ i.length + j.length ≤ sizeLine ∧ Q (.str (i ++ j)) H) := by
  intro pins s σ H x y v u Q I rx ry h
  obtain ⟨i, j, rfl, rfl, hz, q⟩ := h
  obtain ⟨t, rfl⟩ := rx
  obtain ⟨t', rfl⟩ := ry
  exact add_str (fun t' tk => ⟨.str (i ++ j), H, I.tok _, ⟨_, rfl⟩, q⟩) hz
/-! ### scalar builtins, by CallR -/
theorem vals1 {x : V} {us : List Value} (r : Vals [x] us) : ∃ u, us = [u] ∧ RelV x u := by
  cases r with
  | cons r1 r2 => cases r2; exact ⟨_, rfl, r1⟩
theorem vals2 {x y : V} {us : List Value} (r : Vals [x, y] us) : ∃ u w', us = [u, w'] ∧ RelV x u ∧ RelV y w' := by
  cases r with
  | cons r1 r2 =>
    cases r2 with
    | cons r3 r4 => cases r4; exact ⟨_, _, rfl, r1, r3⟩
theorem call_min2 (hc : X.calm = true) : CallR X (.builtin "min") (fun xs H Q => ∃ i j, xs = [.int i, .int j] ∧ Q (.int (if j < i then j else i)) H) := by
  intro pins s σ H xs us Q I r h
  obtain ⟨i, j, rfl, q⟩ := h
  obtain ⟨u, w', rfl, ⟨t, rfl⟩, ⟨t', rfl⟩⟩ := vals2 r
  refine min_two_ints (I.ok.hd hc) fun h' tk k => ⟨_, H, I.kept k, ?_, q⟩
  by_cases hj : j < i
  · rw [if_pos hj, if_pos hj]; exact ⟨_, rfl⟩
  · rw [if_neg hj, if_neg hj]; exact ⟨_, rfl⟩
theorem call_int1 : CallR X (.type "int") (fun xs H Q => (∃ i, xs = [.int i] ∧ Q (.int i) H) ∨ ∃ k, xs = [.bl k] ∧ Q (.int (if k then 1 else 0)) H) := by
  intro pins s σ H xs us Q I r h
  rcases h with ⟨i, rfl, q⟩ | ⟨k, rfl, q⟩
  · obtain ⟨u, rfl, t, rfl⟩ := vals1 r
    exact call_int_int ⟨.int i, H, I, ⟨_, rfl⟩, q⟩
  · obtain ⟨u, rfl, r1⟩ := vals1 r
    cases r1
    exact call_int_bool ⟨.int (if k then 1 else 0), H, I.tok _, ⟨_, rfl⟩, q⟩
/-- len of a str, a bytes, a list, a tuple -/
noncomputable def LenV (K : PySem.W.Frag) (x : V) (H : Hp) (n : Nat) : Prop :=
  match x with
  | .str y => y.length ≤ sizeLine ∧ n = y.length
  | .byt y => y.size ≤ sizeLine ∧ n = y.size
  | .ref p => (∃ xs, SqL K H p xs ∧ n = xs.length) ∨ ∃ xs, SqT K H p xs ∧ n = xs.length
  | _ => False
theorem call_len : CallR X (.builtin "len") (fun xs H Q => ∃ x n, xs = [x] ∧ LenV X.K x H n ∧ Q (.int n) H) := by
  intro pins s σ H xs us Q I r h
  obtain ⟨x, n, rfl, e, q⟩ := h
  obtain ⟨u, rfl, rx⟩ := vals1 r
  have hl := line63
  have hs : sizeLine = 16777216 := sizeLine_eq
  cases x with
  | str y =>
    obtain ⟨t, rfl⟩ := rx
    obtain ⟨hy, e'⟩ : y.length ≤ sizeLine ∧ n = y.length := e
    subst e'
    exact len_str (by omega) ⟨.int _, H, I.tok _, ⟨_, rfl⟩, q⟩
  | byt y =>
    obtain ⟨t, rfl⟩ := rx
    obtain ⟨hy, e'⟩ : y.size ≤ sizeLine ∧ n = y.size := e
    subst e'
    exact PySem.W.len_bytes (by omega) ⟨.int _, H, I.tok _, ⟨_, rfl⟩, q⟩
  | ref p =>
    cases rx
    have e' : (∃ xs, SqL X.K H p xs ∧ n = xs.length) ∨ ∃ xs, SqT X.K H p xs ∧ n = xs.length := e
    rcases e' with ⟨xs, hx, e'⟩ | ⟨xs, hx, e'⟩
    · subst e'
      obtain ⟨its, r', pl, hz⟩ := I.list hx
      have hlen := r'.length
      exact Calls.call_len_list pl.isList (by simp only [List.size_toArray]; omega) ⟨.int xs.length, H, I.tok _, ⟨_, by simp only [List.size_toArray]; rw [hlen]⟩, q⟩
    · subst e'
      obtain ⟨its, r', pl, hz⟩ := I.tuple hx
      have hlen := r'.length
      exact len_tuple pl (by simp only [List.size_toArray]; omega) ⟨.int xs.length, H, I.tok _, ⟨_, by simp only [List.size_toArray]; rw [hlen]⟩, q⟩
  | _ => exact (show False from e).elim
end
end L2

namespace L2
open PySem PySem.Spec PyProof.Rows

/-! ### an instance, its attributes a map -/
structure ObjM (h : Heap) (x dx C : Addr) (mA : Str → Option Value) : Prop where
  obj : h.get? x = some (PySem.W.instObj C dx)
  ns : h.Ns1 dx mA
  ne : dx ≠ x

theorem lookIn_ns {h : Heap} {dx : Addr} {mA : Str → Option Value} (n : h.Ns1 dx mA) : ∃ od, h.get? dx = some od ∧ ∀ name, PySem.W.lookIn name od = some (mA name) := by
  obtain ⟨o, es, ep, ho, hd, hk, _, hm⟩ := n
  refine ⟨o, ho, fun name => ?_⟩
  have e := hm name
  unfold nsFind findBy at e
  rw [← Array.find?_toList] at e
  unfold PySem.W.lookIn
  rw [hd]
  dsimp only
  split
  · rename_i y q
    rw [q] at e
    exact congrArg some e
  · rename_i q
    rw [q] at e
    have a : es.toList.any (·.refKey) = false := by
      rw [List.any_eq_false]
      intro y hy
      obtain ⟨z, t, hkey⟩ := hk y (Array.mem_toList_iff.mp hy)
      simp [DictEntry.refKey, hkey]
    have a' : ¬ es.toList.any (·.refKey) = true := by rw [a]; exact Bool.false_ne_true
    rw [if_neg a']
    exact congrArg some e

theorem ObjM.look {h : Heap} {x dx C : Addr} {mA : Str → Option Value} (I : ObjM h x dx C mA) : ∃ od, PySem.W.InstAt h x (PySem.W.instObj C dx) C (some od) ∧ ∀ name, PySem.W.lookIn name od = some (mA name) :=
  let ⟨od, ho, hl⟩ := lookIn_ns I.ns
  ⟨od, ⟨I.obj, rfl, rfl, ho⟩, hl⟩

section
variable {prog : Program} {w : World} {A : Around} {E : Value → Shared → Prop} {s : Shared} {K : PySem.W.Frag} {x dx C f : Addr} {mA : Str → Option Value} {name : Str} {v : Value}

theorem get_map {expr : Bool} {Q : Value → Shared → Prop} (X : K.In s.heap) (I : ObjM s.heap x dx C mA) (hg : PySem.W.plainGet K C name = true) (hh : PySem.W.hasDictIn K C = true)
    (ha : PySem.W.findIn K (.ref C) name = some none) (hv : mA name = some v) (hv' : PySem.W.handedIn v = true) (h : Q v { s with toks := s.toks + 1 }) :
    wpAny (model prog w) A (getAttr (.ref x) name expr) Q E s := by
  obtain ⟨od, J, hl⟩ := I.look
  exact PySem.W.get_value X J (PySem.W.plainGet_of hg).1 (PySem.W.findObj_own hh ha rfl (by rw [hl, hv])) hv' h

theorem get_meth {pl : Sem Bool} {Q : Value × List Value → Shared → Prop} (X : K.In s.heap) (I : ObjM s.heap x dx C mA) (hg : PySem.W.plainGet K C name = true)
    (hf : PySem.W.findIn K (.ref C) name = some (some (.ref f))) (ht : PySem.W.isFn K (.ref f) = true) (hv : mA name = none) (h : Q (.ref f, [.ref x]) s) :
    wpAny (model prog w) A (getMethod (.ref x) name pl) Q E s := by
  obtain ⟨od, J, hl⟩ := I.look
  exact PySem.W.method_fn X J (PySem.W.plainGet_of hg).1 (PySem.W.plainGet_of hg).2 hf (beq_iff_eq.mp ht) (by show (PySem.W.lookIn name od).map (·.isSome) = some false; rw [hl, hv]; rfl) h

theorem set_map {ns : List Str} {Q : Unit → Shared → Prop} (X : K.In s.heap) (I : ObjM s.heap x dx C mA)
    (hs : PySem.W.findIn K (.ref C) "__setattr__" = some (some (.builtin "object.__setattr__"))) (hp : PySem.W.plainOver K C = true) (ht : PySem.W.takerIn K C name = some none) (hh : PySem.W.hasDictIn K C = true)
    (hw : PySem.Within mA ns) (hsz : ns.length ≤ sizeLine)
    (h : ∀ h', ObjM h' x dx C (fun y => if y = name then some v else mA y) → Heap.SameBut dx s.heap h' → Q () { s with heap := h', toks := s.toks + 2 }) :
    wpAny (model prog w) A (setAttr (.ref x) name v) Q E s := by
  obtain ⟨od, J, hl⟩ := I.look
  refine PySem.W.set_plain X J hs (PySem.W.osa_open (s := { s with toks := s.toks + 1 }) (r := none) X J hp ht fun b => ?_)
  obtain ⟨cd, hc, hd'⟩ := PySem.W.any_some hh
  have hx : s.heap.get? x = some ⟨.ref C, some dx, .plain, #[]⟩ := I.obj
  refine wpAny_bind (wpAny_pure (wpAny_bind (wpAny_bind (wpAny_loadPart hx (wpAny_bind (PySem.W.Looks.here (s := { s with toks := s.toks + 1 }) (PySem.W.looks_clsIn X hc) ?_))))))
  rw [hd']
  refine wpAny_pure (a := some dx) (wpAny_bind (wpAny_pure (wpAny_bind ?_)))
  refine wpAny_nsSet1 (s := { s with toks := s.toks + 1 }) I.ns fun h' hn2 hs2 => ?_
  obtain ⟨oD, esD, epD, hoD, hdD, hcD⟩ := hn2.count (PySem.Within.cons name v hw)
  refine wpAny_bind (wpAny_lookBehind hoD (by rw [hdD]; exact pastItsLine_dict (Nat.le_trans hcD (by rw [List.length_cons]; omega))) ?_)
  exact wpAny_pure (h _ ⟨(hs2.2 _ (Ne.symm I.ne)).trans I.obj, hn2, I.ne⟩ hs2)

/-- C(..): the dict at the heap's end, the instance behind it; then its __init__ -/
theorem make_map {R : Result → Shared → Prop} {vs : List Value} {kw : List (Str × Value)} (X : K.In s.heap) (hm : PySem.W.makesIn K C = true)
    (hi : PySem.W.findIn K (.ref C) "__init__" = some (some (.ref f))) (hf : PySem.W.typeIn K (.ref f) = some (.type "function"))
    (h : codeAny (model prog w) (A.under (.builtin "type.__call__" ⟨.ref C :: vs, kw⟩)) (.call (.ref f) ⟨.ref (s.heap.objs.size + 1) :: vs, kw⟩) (PySem.W.InitBack (s.heap.objs.size + 1) R)
      { s with heap := (s.heap.push PySem.W.emptyDict).push (PySem.W.instObj C s.heap.objs.size) }) :
    codeAny (model prog w) A (.call (.ref C) ⟨vs, kw⟩) R s := by
  obtain ⟨hh, g, d, t, os⟩ := s
  exact PySem.W.make_core (PySem.W.makes_of X hm) (PySem.W.looks_findIn X hi) (fun self => PySem.W.bind_fn X self hf) (.inl rfl) h
end

/-! ### the attributes as a list of pairs -/
noncomputable def putF (f : Str) (v : V) : List (Str × V) → List (Str × V)
  | [] => [(f, v)]
  | (g, x) :: r => if g = f then (g, v) :: r else (g, x) :: putF f v r
theorem lookup_putF (f g : Str) (v : V) : ∀ fs : List (Str × V), (putF f v fs).lookup g = if g = f then some v else fs.lookup g
  | [] => by
    show List.lookup g [(f, v)] = _
    by_cases h : g = f
    · have hb : (g == f) = true := beq_iff_eq.mpr h
      simp only [List.lookup, hb, if_pos h]
    · have hb : (g == f) = false := beq_eq_false_iff_ne.mpr h
      simp only [List.lookup, hb, if_neg h]
  | (k, x) :: r => by
    have ih := lookup_putF f g v r
    rw [show putF f v ((k, x) :: r) = (if k = f then (k, v) :: r else (k, x) :: putF f v r) from rfl]
    by_cases hk : k = f
    · rw [if_pos hk]
      by_cases h : g = k
      · have hb : (g == k) = true := beq_iff_eq.mpr h
        simp only [List.lookup, hb, if_pos (h.trans hk)]
      · have hb : (g == k) = false := beq_eq_false_iff_ne.mpr h
        simp only [List.lookup, hb, if_neg (fun e : g = f => h (e.trans hk.symm))]
    · rw [if_neg hk]
      by_cases h : g = k
      · have hb : (g == k) = true := beq_iff_eq.mpr h
        simp only [List.lookup, hb, if_neg (fun e : g = f => hk (h.symm.trans e))]
      · have hb : (g == k) = false := beq_eq_false_iff_ne.mpr h
        simp only [List.lookup, hb]
        exact ih
theorem keys_putF (f : Str) (v : V) : ∀ fs : List (Str × V), f ∈ (putF f v fs).map (·.1) ∧ ∀ g, g ∈ fs.map (·.1) → g ∈ (putF f v fs).map (·.1)
  | [] => ⟨by simp [putF], fun g h => by simp at h⟩
  | (k, x) :: r => by
    obtain ⟨i1, i2⟩ := keys_putF f v r
    rw [show putF f v ((k, x) :: r) = (if k = f then (k, v) :: r else (k, x) :: putF f v r) from rfl]
    by_cases hk : k = f
    · rw [if_pos hk]
      subst hk
      exact ⟨by simp, fun g h => by simpa using h⟩
    · rw [if_neg hk]
      refine ⟨?_, fun g h => ?_⟩
      · rw [List.map_cons]
        exact List.mem_cons_of_mem _ i1
      · rw [List.map_cons] at h ⊢
        rcases List.mem_cons.mp h with e | e
        · exact List.mem_cons.mpr (.inl e)
        · exact List.mem_cons_of_mem _ (i2 g e)
theorem length_putF (f : Str) (v : V) : ∀ fs : List (Str × V), (putF f v fs).length ≤ fs.length + 1
  | [] => by simp [putF]
  | (k, x) :: r => by
    have ih := length_putF f v r
    rw [show putF f v ((k, x) :: r) = (if k = f then (k, v) :: r else (k, x) :: putF f v r) from rfl]
    by_cases hk : k = f
    · rw [if_pos hk, List.length_cons, List.length_cons]; omega
    · rw [if_neg hk, List.length_cons, List.length_cons]; omega

theorem RelO.some_of {v : V} {o : Option Value} (r : RelO (some v) o) : ∃ u, o = some u ∧ RelV v u := by
  cases o with
  | none => exact (show False from r).elim
  | some u => exact ⟨u, rfl, r⟩
theorem RelO.none_of {o : Option Value} (r : RelO none o) : o = none := by
  cases o with
  | none => rfl
  | some u => exact (show False from r).elim
theorem handed_of {v : V} {u : Value} (r : RelV v u) : PySem.W.handedIn u = true := by
  cases v with
  | non => cases (show u = Value.none from r); rfl
  | bl b => cases (show u = Value.bool b from r); rfl
  | int i => obtain ⟨t, e⟩ := (show ∃ t, u = Value.int i t from r); cases e; rfl
  | str x => obtain ⟨t, e⟩ := (show ∃ t, u = Value.str x t from r); cases e; rfl
  | byt b => obtain ⟨t, e⟩ := (show ∃ t, u = Value.bytes b t from r); cases e; rfl
  | flt b => obtain ⟨t, e⟩ := (show ∃ t, u = Value.float b t from r); cases e; rfl
  | ref a => cases (show u = Value.ref a from r); rfl
  | ty n => cases (show u = Value.type n from r); rfl

section
variable {P : Program} {w : World} {H H' : Hp} {h h' : Heap} {a C dx : Addr} {fs fs' : List (Str × V)}
theorem ins_get (hok : HOk P w H h) (e : H a = some (.ins C dx fs)) : ∃ mA, ObjM h a dx C mA ∧ (∀ f, RelO (fs.lookup f) (mA f)) ∧ PySem.Within mA (fs.map (·.1)) ∧ fs.length ≤ 1000 ∧ H dx = some (.own a) := by
  obtain ⟨d, z, ne, ob, mA, n, r, q⟩ := (show ObjOk P w H h a (.ins C dx fs) from hok a _ e)
  exact ⟨mA, ⟨ob, n, ne⟩, r, q, z, d⟩
end

/-! ### what of the text a class must have -/
structure Cls (K : PySem.W.Frag) (C : Addr) : Prop where
  pg : PySem.W.plainGet K C Str.empty = true
  hd : PySem.W.hasDictIn K C = true
  po : PySem.W.plainOver K C = true
  sa : PySem.W.findIn K (.ref C) "__setattr__" = some (some (.builtin "object.__setattr__"))
theorem Cls.get {K : PySem.W.Frag} {C : Addr} (c : Cls K C) (f : Str) : PySem.W.plainGet K C f = true := c.pg
/-- no class of it has the name -/
noncomputable def NoAttr (K : PySem.W.Frag) (C : Addr) (f : Str) : Prop := PySem.W.findIn K (.ref C) f = some none
theorem NoAttr.taker {K : PySem.W.Frag} {C : Addr} {f : Str} (n : NoAttr K C f) : PySem.W.takerIn K C f = some none := by
  unfold PySem.W.takerIn
  rw [show PySem.W.findIn K (.ref C) f = some none from n]
  rfl
/-- a constant of the class -/
structure Con (K : PySem.W.Frag) (C : Addr) (f : Str) (v : V) (u : Value) : Prop where
  at_ : PySem.W.findIn K (.ref C) f = some (some u)
  rel : RelV v u
  get : PySem.W.specialIn K u "__get__" = some none
  cp : PySem.W.copiedNames.contains f = false
/-- a method: a plain def of the class or of one above it -/
structure Meth (K : PySem.W.Frag) (C : Addr) (m : Str) (f : Addr) : Prop where
  at_ : PySem.W.findIn K (.ref C) m = some (some (.ref f))
  fn : PySem.W.isFn K (.ref f) = true
  kp : PySem.W.keepIn K (.ref f) = true

section
variable {X : Cx} {pins : List (Addr × Obj)} {σ : St} {H : Hp} {s : Shared} {a C dx : Addr} {fs : List (Str × V)} {f : Str} {v : V} {A : Around} {E : Value → Shared → Prop}

theorem getattr_ok {b : Bool} {Q : Value → Shared → Prop} (I : Inv X pins σ H s) (e : H a = some (.ins C dx fs)) (c : Cls X.K C) (n : NoAttr X.K C f) (l : fs.lookup f = some v)
    (h : ∀ u s', Inv X pins σ H s' → RelV v u → Q u s') : wpAny (model X.prog X.w) A (getAttr (.ref a) f b) Q E s := by
  obtain ⟨mA, O, r, _, _, _⟩ := ins_get I.hok e
  obtain ⟨u, hu, ru⟩ := RelO.some_of (v := v) (o := mA f) (by rw [← l]; exact r f)
  exact get_map I.kIn O (c.get f) c.hd n hu (handed_of ru) (h u _ (I.tok _) ru)

theorem getmeth_ok {m : Str} {g : Addr} {pl : Sem Bool} {Q : Value × List Value → Shared → Prop} (I : Inv X pins σ H s) (e : H a = some (.ins C dx fs)) (c : Cls X.K C) (k : Meth X.K C m g) (l : fs.lookup m = none)
    (h : Q (.ref g, [.ref a]) s) : wpAny (model X.prog X.w) A (getMethod (.ref a) m pl) Q E s := by
  obtain ⟨mA, O, r, _, _, _⟩ := ins_get I.hok e
  have hn : mA m = none := RelO.none_of (by rw [← l]; exact r m)
  exact get_meth I.kIn O (c.get m) k.at_ k.fn hn h

theorem setattr_ok {y : V} {u : Value} {Q : Unit → Shared → Prop} (I : Inv X pins σ H s) (e : H a = some (.ins C dx fs)) (c : Cls X.K C) (n : NoAttr X.K C f) (hl : fs.length < 1000) (ry : RelV y u)
    (h : ∀ s', Inv X pins σ (upd H a (.ins C dx (putF f y fs))) s' → Q () s') : wpAny (model X.prog X.w) A (setAttr (.ref a) f u) Q E s := by
  obtain ⟨mA, O, r, wi, _, ho⟩ := ins_get I.hok e
  have hz : (fs.map (·.1)).length ≤ sizeLine := by rw [List.length_map, sizeLine_eq]; omega
  refine set_map I.kIn O c.sa c.po n.taker c.hd wi hz fun h' O' sb => h _ ?_
  have hd : ∃ o, h'.get? dx = some o := let ⟨o, _, _, e', _⟩ := O'.ns; ⟨o, e'⟩
  refine I.write (x := a) (e := dx) (by rw [e]; exact True.intro) (.inr ho) (fun b q hb z => (sb.2 b hb).trans z) hd ?_
  refine ⟨by rw [upd_ne O.ne]; exact ho, ?_, O.ne, O'.obj, _, O'.ns, fun g => ?_, fun g hg => ?_⟩
  · have := length_putF f y fs; omega
  · show RelO ((putF f y fs).lookup g) (if g = f then some u else mA g)
    rw [lookup_putF]
    by_cases q : g = f
    · rw [if_pos q, if_pos q]; exact ry
    · rw [if_neg q, if_neg q]; exact r g
  · by_cases q : g = f
    · rw [q]; exact (keys_putF f y fs).1
    · refine (keys_putF f y fs).2 g (wi g fun z => hg ?_)
      show (if g = f then some u else mA g) = none
      rw [if_neg q]; exact z

/-- a new instance, tracked, without attributes -/
theorem Inv.made (I : Inv X pins σ H s) : Inv X pins σ (upd (upd H s.heap.objs.size (.own (s.heap.objs.size + 1))) (s.heap.objs.size + 1) (.ins C s.heap.objs.size []))
    { s with heap := (s.heap.push PySem.W.emptyDict).push (PySem.W.instObj C s.heap.objs.size) } := by
  have e1 : (s.heap.push PySem.W.emptyDict).get? s.heap.objs.size = some PySem.W.emptyDict := Heap.get?_push_size s.heap rfl
  have e2 : ((s.heap.push PySem.W.emptyDict).push (PySem.W.instObj C s.heap.objs.size)).get? (s.heap.objs.size + 1) = some (PySem.W.instObj C s.heap.objs.size) := by
    have := Heap.get?_push_size (s.heap.push PySem.W.emptyDict) (o := PySem.W.instObj C s.heap.objs.size) rfl
    rwa [Heap.size_push] at this
  have e3 : (s.heap.push PySem.W.emptyDict).Ns s.heap.objs.size (fun _ => none) := ⟨PySem.W.emptyDict, #[], _, e1, rfl, (fun e he => absurd he (by simp)), fun _ => rfl⟩
  have I1 := I.laid (a := s.heap.objs.size) (o := .own (s.heap.objs.size + 1)) (h' := s.heap.push PySem.W.emptyDict) (t' := s.toks) (fun b u q => Heap.get?_push_of_some _ q) (Nat.le_refl _) ⟨_, e1⟩
  refine I1.laid (a := s.heap.objs.size + 1) (o := .ins C s.heap.objs.size []) (t' := s.toks) (fun b u q => Heap.get?_push_of_some _ q) (Nat.le_of_eq (Heap.size_push _ _)) ?_
  have ne : s.heap.objs.size ≠ s.heap.objs.size + 1 := Nat.ne_of_lt (Nat.lt_succ_self _)
  refine ⟨by rw [upd_ne ne, upd_same], Nat.zero_le _, ne, e2, fun _ => none, (Heap.Ns1.of_empty e3).at fun o q => Heap.get?_push_of_some _ q, fun _ => True.intro, fun y hy => absurd rfl hy⟩

/-- e.f where nothing but the object is asked: through attributeBase (super) and the last hold -/
theorem attr_of {prog : Program} {w : World} {env : Env} {e : Expr} {f : Str} {pos : Pos} {s : Shared} {Q : Value → Shared → Prop} (hb : attributeBase e f env (eval e env) = eval e env)
    (h : wpAny (model prog w) A (eval e env) (fun o s₁ => wpAny (model prog w) A (getAttr o f true) Q E s₁) E s) : wpAny (model prog w) A (eval (.Attribute e f pos) env) Q E s :=
  Attribute_any_ h (by rw [arm_eval_Attribute, hb])
end

/-! ### readings and rules -/
/-- e.f, an attribute of the instance -/
noncomputable def tFld (K : PySem.W.Frag) (ta : TE) (f : Str) : TE := fun σ H Q => ta σ H fun x H1 => ∃ a C dx fs v, x = .ref a ∧ H1 a = some (.ins C dx fs) ∧ Cls K C ∧ NoAttr K C f ∧ fs.lookup f = some v ∧ Q v H1
/-- e.f = value -/
noncomputable def sFld (K : PySem.W.Frag) (ta tv : TE) (f : Str) : TS := fun D σ H => tv σ H fun y H1 => ta σ H1 fun x H2 => ∃ a C dx fs, x = .ref a ∧ H2 a = some (.ins C dx fs) ∧ Cls K C ∧ NoAttr K C f ∧ fs.length < 1000 ∧
  D.nx σ (upd H2 a (.ins C dx (putF f y fs)))
section
variable {X : Cx} {o e value : Expr} {f : Str} {pos pos' tpos : Pos} {ta tv : TE}
theorem pe_fld (he : PE X e ta) (hb : attributeBase e f X.env (eval e X.env) = eval e X.env) : PE X (.Attribute e f pos) (tFld X.K ta f) := by
  intro pins s σ H Q I h
  refine attr_of hb (thn (he pins s σ H _ I h) fun u s1 ⟨x, H1, I1, rx, a, C, dx, fs, v, ex, ea, c, n, l, q⟩ => ?_)
  subst ex
  obtain rfl : u = Value.ref a := rx
  exact getattr_ok I1 ea c n l fun u' s2 I2 ru => ⟨v, H1, I2, ru, q⟩
theorem ps_fld (ha : PE X o ta) (hv : PE X value tv) (hs : swapsWith value (some (.Attribute o f pos')) pos.line X.env = pure false) : PS X (.Assign [.Attribute o f pos'] value pos) (sFld X.K ta tv f) := by
  intro pins s σ H D I h
  refine plainObj_wpAny_Assign_Attribute (thn (hv pins s σ H _ I h) fun u s1 ⟨y, H1, I1, ry, q⟩ => thn (ha pins s1 σ H1 _ I1 q) fun ov s2 ⟨x, H2, I2, rx, a, C, dx, fs, ex, ea, c, n, l, q2⟩ => ?_) hs
  subst ex
  obtain rfl : ov = Value.ref a := rx
  exact setattr_ok I2 ea c n l ry fun s3 I3 => ⟨σ, _, I3, q2⟩
end

/-! ### isinstance -/
section
variable {X : Cx} {pins : List (Addr × Obj)} {σ : St} {H : Hp} {s : Shared} {A : Around} {E : Value → Shared → Prop} {Q : Value → Shared → Prop} {c : Value} {b : Bool}
/-- the type of a value, as the fragment's deciders take it; for an instance its class -/
inductive TyOf (K : PySem.W.Frag) (H : Hp) : V → Value → Prop where
  | non : TyOf K H .non (.type "NoneType")
  | bl (x : Bool) : TyOf K H (.bl x) (.type "bool")
  | int (i : Int) : TyOf K H (.int i) (.type "int")
  | str (x : Str) : TyOf K H (.str x) (.type "str")
  | flt (x : UInt64) : TyOf K H (.flt x) (.type "float")
  | lst {a : Addr} {xs : List V} (e : H a = some (.lst xs)) : TyOf K H (.ref a) (.type "list")
  | frz {a : Addr} {o : Obj} {xs : List V} (e : H a = some (.frz o (.lst xs))) : TyOf K H (.ref a) (.type "list")
  | tup {a : Addr} {xs : List V} (e : H a = some (.tup xs)) : TyOf K H (.ref a) (.type "tuple")
  | dK {a : Addr} {kvs : List (Key × V)} (e : H a = some (.dK kvs)) : TyOf K H (.ref a) (.type "dict")
  | dT {a : Addr} {kvs : List (List Key × V)} (e : H a = some (.dT kvs)) : TyOf K H (.ref a) (.type "dict")
  | ins {a C dx : Addr} {fs : List (Str × V)} (e : H a = some (.ins C dx fs)) (cl : Cls K C) (ha : PySem.W.findIn K (.ref C) "__class__" = some (some (.builtin "object.__class__")))
      (hn : PySem.W.specialIn K (.builtin "object.__class__") "__get__" = some (some (.builtin "getset_descriptor.__get__"))) (htk : PySem.W.takesIn K (.builtin "object.__class__") = some true)
      (hm : PySem.W.mroIn K C (.type "object") = some true) : TyOf K H (.ref a) (.ref C)
end
end L2

namespace L2
open PySem PySem.Spec PyProof.Rows

/-! ### room -/
structure Room (k : Nat) (A : Around) : Prop where
  hd : A.handled = none
  dp : A.depth + 3 * k + 5 < recursionLimit
  un : A.units + 16 * k + 200 < cLine
theorem Room.mono {j k : Nat} {A : Around} (r : Room k A) (h : j ≤ k) : Room j A := ⟨r.hd, by have := r.dp; omega, by have := r.un; omega⟩
theorem Room.deeper {k : Nat} {A : Around} (r : Room (k + 1) A) (env : Env) : Room k (A.deeper env) :=
  ⟨r.hd, by have := r.dp; show A.depth + 1 + 3 * k + 5 < _; omega, by have := r.un; show A.units + 3 + 16 * k + 200 < _; omega⟩
theorem make_depth {A : Around} {C : Addr} {us : List Value} {kw : List (Str × Value)} : (A.under (.builtin "type.__call__" ⟨.ref C :: us, kw⟩)).depth = A.depth + 1 := by
  first | rfl | simp [Around.under, Code.weight, Code.isCreation, Code.isGuard, Code.isCaller, Code.frames, Code.isFrame, guardIds]
theorem make_units {A : Around} {C : Addr} {us : List Value} {kw : List (Str × Value)} : (A.under (.builtin "type.__call__" ⟨.ref C :: us, kw⟩)).units = A.units + 1 := by
  first | rfl | simp [Around.under, Code.cUnits, Code.frames, Code.isFrame]
theorem Room.make {k : Nat} {A : Around} (r : Room (k + 1) A) (C : Addr) (us : List Value) (kw : List (Str × Value)) : Room k (A.under (.builtin "type.__call__" ⟨.ref C :: us, kw⟩)) :=
  ⟨r.hd, by have := r.dp; rw [make_depth]; omega, by have := r.un; rw [make_units]; omega⟩
theorem Room.depth {k : Nat} {A : Around} (r : Room k A) : A.depth < recursionLimit := by have := r.dp; omega
theorem Room.units {k : Nat} {A : Around} (r : Room k A) : A.units + 64 < cLine := by have := r.un; omega
/-! ### argument lists and displays -/
noncomputable def tNil : TA := fun _ H Q => Q [] H
noncomputable def tCons (ta : TE) (tr : TA) : TA := fun σ H Q => ta σ H fun x H1 => tr σ H1 fun xs H2 => Q (x :: xs) H2
section
variable {X : Cx} {e : Expr} {es : List Expr} {te : TE} {t : TA} {pos : Pos}
theorem pa_nil : PA X [] tNil := fun _ _ _ _ H Q I h => Calls.spliced_nil ⟨[], H, I, .nil, h⟩
theorem pa_cons (ha : PE X e te) (hr : PA X es t) (hs : starEach (e :: es) X.env = (false, eval e X.env) :: starEach es X.env := by rfl) : PA X (e :: es) (tCons te t) := by
  intro pos pins s σ H Q I h
  rw [hs]
  show wpAny _ _ (spliced ((false, eval e X.env) :: backTo pos (starEach es X.env))) _ _ s
  refine Calls.spliced_cons (thn (ha pins s σ H _ I h) fun u s1 ⟨x, H1, I1, r1, q1⟩ => ?_)
  exact thn (hr pos pins s1 σ H1 _ I1 q1) fun us s2 ⟨xs, H2, I2, r2, q2⟩ => ⟨x :: xs, H2, I2, .cons r1 r2, q2⟩

/-- a tuple, a list of written items -/
noncomputable def tTup (t : TA) : TE := fun σ H Q => t σ H fun xs H1 => xs.length ≤ sizeLine ∧ ∀ p, H1 p = none → Q (.ref p) (upd H1 p (.tup xs))
noncomputable def tLst (t : TA) : TE := fun σ H Q => t σ H fun xs H1 => xs.length ≤ sizeLine ∧ ∀ p, H1 p = none → Q (.ref p) (upd H1 p (.lst xs))
theorem pe_tup {x1} (h : PA X es t) : PE X (.Tuple es x1 pos) (tTup t) := by
  intro pins s σ H Q I hq
  refine wpAny_Tuple_spliced (thn (h pos pins s σ H _ I hq) fun us s1 ⟨xs, H1, I1, r, z, q⟩ => ⟨by rw [← r.length]; exact z, ?_⟩)
  have hf : H1 s1.heap.objs.size = none := I1.hok.fresh (Nat.le_refl _)
  refine ⟨.ref s1.heap.objs.size, upd H1 s1.heap.objs.size (.tup xs), I1.laid (t' := s1.toks) (fun b u e => Heap.get?_push_of_some _ e) (Nat.le_refl _) ?_, rfl, q _ hf⟩
  exact ⟨z, us, r, IsTupB.new _ _⟩
theorem pe_lst (h : PA X es t) : PE X (.List es pos) (tLst t) := by
  intro pins s σ H Q I hq
  refine wpAny_List_spliced (thn (h pos pins s σ H _ I hq) fun us s1 ⟨xs, H1, I1, r, z, q⟩ => ⟨by rw [← r.length]; exact z, ?_⟩)
  have hf : H1 s1.heap.objs.size = none := I1.hok.fresh (Nat.le_refl _)
  refine ⟨.ref s1.heap.objs.size, upd H1 s1.heap.objs.size (.lst xs), I1.laid (t' := s1.toks) (fun b u e => Heap.get?_push_of_some _ e) (Nat.le_refl _) ?_, rfl, q _ hf⟩
  exact ⟨z, us, 0, r, Heap.get?_push_size _ rfl⟩
end

/-! ### what a def promises -/
/-- a def's promise: the bound arguments in the parameters' order, the heap, the wanted end, the wanted exception -/
noncomputable abbrev Sp := List V → Hp → VK → XK → Prop
/-- how an exception lies behind a call (file 08 gives it): the callers' frames, abstract heap and state ahead of the call, the wish, the exception, the state -/
noncomputable abbrev CXT := List Env → Hp → Shared → XK → Value → Shared → Prop

/-- the state at a call -/
structure Env0 (P : Program) (w : World) (K : PySem.W.Frag) (mg : Str → Option Value) (base : Heap) (A : Around) (outer : List Env) (s : Shared) (H : Hp) : Prop where
  frames : A.frames = some outer
  mod : Mod K mg base
  bs : ∀ b o, base.get? b = some o → s.heap.get? b = some o ∧ H b = none
  bsz : base.objs.size ≤ s.heap.objs.size
  funs : s.heap.FunFrames base outer
  frf : ∀ b ∈ frs outer, H b = none
  hok : HOk P w H s.heap
  bare : AllBare s.gens
/-- a call's end -/
noncomputable def CE (outer : List Env) (P : Program) (w : World) (H : Hp) (s : Shared) (Q : VK) (u : Value) (s' : Shared) : Prop :=
  ∃ v H', s'.os = s.os ∧ AllBare s'.gens ∧ Un (frs outer) [] H H' s.heap s'.heap ∧ HOk P w H' s'.heap ∧ RelV v u ∧ Q v H'
noncomputable def CR (CX : CXT) (outer : List Env) (P : Program) (w : World) (H : Hp) (s : Shared) (Q : VK) (E : XK) (r : Result) (s' : Shared) : Prop :=
  match r with
  | .ok (.ret u) => CE outer P w H s Q u s'
  | .ok _ => False
  | .error e => CX outer H s E e s'
structure FnOk (P : Program) (w : World) (K : PySem.W.Frag) (mg : Str → Option Value) (base : Heap) (CX : CXT) (k : Nat) (f : Addr) (fd : FuncData) (ps : List Str) (sp : Sp) : Prop where
  len : ∀ vs H Q E, sp vs H Q E → vs.length = ps.length
  run : ∀ (A : Around) (outer : List Env) (s : Shared) (H : Hp) (args : Args) (us : List Value) (vs : List V) (Q : VK) (E : XK), Room k A → Env0 P w K mg base A outer s H → BindsTo s fd args (ps.zip us) → Vals vs us → sp vs H Q E →
    codeAny (model P w) A (.call (.ref f) args) (CR CX outer P w H s Q E) s
theorem Env0.make {P : Program} {w : World} {K : PySem.W.Frag} {mg : Str → Option Value} {base : Heap} {A : Around} {outer : List Env} {s : Shared} {H : Hp} (e : Env0 P w K mg base A outer s H) (C : Addr) (us : List Value) (kw : List (Str × Value)) :
    Env0 P w K mg base (A.under (.builtin "type.__call__" ⟨.ref C :: us, kw⟩)) outer s H := ⟨by first | exact e.frames | (simpa [Around.under, Code.envs, Code.isFrame, pushEnvs] using e.frames), e.mod, e.bs, e.bsz, e.funs, e.frf, e.hok, e.bare⟩
section
variable {X : Cx} {pins : List (Addr × Obj)} {σ : St} {H : Hp} {s s' : Shared}
/-- from a body: what a callee wants -/
theorem Inv.env0 (I : Inv X pins σ H s) : Env0 X.prog X.w X.K X.mg X.base X.A X.stack s H :=
  ⟨I.ok.frames, I.ok.mod, I.bs, Nat.le_trans I.ok.bsz I.sz, I.stack, I.stkFree, I.hok, I.bare⟩
/-- behind a call -/
theorem Inv.after {Q : VK} {u : Value} (I : Inv X pins σ H s) (h : CE X.stack X.prog X.w H s Q u s') : EP X pins σ Q u s' := by
  obtain ⟨v, H', os, bare, un, hok, r, q⟩ := h
  obtain ⟨hh, g, d, t, os'⟩ := s'
  obtain rfl : os' = s.os := os
  exact ⟨v, H', I.call (h' := hh) (g' := g) (d' := d) (t' := t) (ch := []) un hok bare (fun b z => absurd z (by simp)), r, q⟩
end

/-! ### calls -/
/-- f(..): the written arguments, then the defaults dvs; E: what is wanted of an exception -/
noncomputable def tCall (sp : Sp) (dvs : List V) (E : XK) (t : TA) : TE := fun σ H Q => t σ H fun vs H1 => sp (vs ++ dvs) H1 Q E
/-- o.m(..) of an instance of the class at C -/
noncomputable def tMeth (C : Addr) (m : Str) (sp : Sp) (dvs : List V) (E : XK) (ta : TE) (t : TA) : TE := fun σ H Q => ta σ H fun x H1 => ∃ a dx fs, x = .ref a ∧ H1 a = some (.ins C dx fs) ∧ fs.lookup m = none ∧
  t σ H1 fun vs H2 => sp (x :: (vs ++ dvs)) H2 Q E
/-- C(..): a new instance and its dict, then __init__ -/
noncomputable def tMake (C : Addr) (sp : Sp) (dvs : List V) (E : XK) (t : TA) : TE := fun σ H Q => t σ H fun vs H1 => ∀ x dx, H1 x = none → H1 dx = none → dx ≠ x →
  sp (.ref x :: (vs ++ dvs)) (upd (upd H1 dx (.own x)) x (.ins C dx [])) (fun v H2 => v = .non ∧ Q (.ref x) H2) E

/-- how the parameters are bound: us the positional arguments, kw the keywords' values by name, ds the defaults that fill up -/
noncomputable def Binds (K : PySem.W.Frag) (fd : FuncData) (ps : List Str) (ds : List Value) : Prop :=
  ∀ (s : Shared) (us : List Value), K.In s.heap → (us ++ ds).length = ps.length → BindsTo s fd ⟨us, []⟩ (ps.zip (us ++ ds))
/-- every parameter is given -/
theorem Binds.all {K : PySem.W.Frag} {fd : FuncData} {ps : List Str} (h : ∀ us : List Value, us.length = ps.length → bindArgs fd ⟨us, []⟩ = pure (ps.zip us)) : Binds K fd ps [] := fun s us _ hl => by
  rw [List.append_nil] at hl ⊢
  exact .of_eq (h us hl)

/-- an exception of a callee reaches what this body wants of exceptions -/
noncomputable def Passes (CX : CXT) (X : Cx) (E : XK) : Prop := ∀ (pins : List (Addr × Obj)) (σ : St) (H : Hp) (s : Shared) (e : Value) (s' : Shared), Inv X pins σ H s → CX X.stack H s E e s' → X.xe e s'

section
variable {X : Cx} {CX : CXT} {k : Nat} {f C : Addr} {fd : FuncData} {ps : List Str} {sp : Sp} {dvs : List V} {ds : List Value} {E : XK} {x m : Str} {p pos apos : Pos} {e o : Expr} {es : List Expr} {ta : TE} {t : TA}

/-- the callee runs -/
theorem run_fn {pins : List (Addr × Obj)} {σ : St} {H : Hp} {s : Shared} {Q : VK} {us : List Value} {vs : List V} (F : FnOk X.prog X.w X.K X.mg X.base CX k f fd ps sp) (hr : Room k X.A) (hb : Binds X.K fd ps ds) (hd : Vals dvs ds) (hx : Passes CX X E)
    (I : Inv X pins σ H s) (r : Vals vs us) (h : sp (vs ++ dvs) H Q E) : wpAny (model X.prog X.w) X.A (call (.ref f) us) (EP X pins σ Q) X.xe s := by
  have r2 : Vals (vs ++ dvs) (us ++ ds) := r.append hd
  have hl : (us ++ ds).length = ps.length := by rw [← r2.length]; exact F.len _ _ _ _ h
  refine wpAny_call (codeAny_mono (F.run X.A X.stack s H ⟨us, []⟩ (us ++ ds) (vs ++ dvs) Q E hr I.env0 (hb s us I.kIn hl) r2 h) fun r s' hq => ?_)
  cases r with
  | error e => exact hx pins σ H s e s' I hq
  | ok fl =>
    cases fl with
    | ret u => exact I.after hq
    | next => exact False.elim hq
    | brk => exact False.elim hq
    | cont => exact False.elim hq

theorem pe_call (F : FnOk X.prog X.w X.K X.mg X.base CX k f fd ps sp) (hr : Room k X.A) (hg : Gl X x) (hm : X.mg x = some (.ref f)) (hk : PySem.W.keepIn X.K (.ref f) = true) (hb : Binds X.K fd ps ds) (hd : Vals dvs ds) (hx : Passes CX X E)
    (ha : PA X (e :: es) t) (hdb : (x == ("__debug__" : Str)) = false := by decide) (he : starEach (e :: es) X.env = (false, eval e X.env) :: starEach es X.env := by rfl) (hpl : (backTo pos (starEach es X.env)).any (·.1) = false := by rfl) :
    PE X (.Call (.Name x p) (e :: es) [] pos) (tCall sp dvs E t) := by
  intro pins s σ H Q I h
  refine wpAny_Call_Name_kw (ld_glob I hg hm ?_ hdb)
  refine PySem.W.callWith_K (h₀ := X.base) I.ok.mod.kin hk (thn (ha pos pins s σ H _ I h) fun us s1 ⟨vs, H1, I1, r, q⟩ => ⟨I1.kIn, ?_⟩) he hpl
  exact run_fn F hr hb hd hx I1 r q
/-- o.m(e, ..) -/
theorem pe_meth {pl : Sem Bool} (he : PE X o ta) (c : Cls X.K C) (hm : Meth X.K C m f) (F : FnOk X.prog X.w X.K X.mg X.base CX k f fd ps sp) (hr : Room k X.A) (hb : Binds X.K fd ps ds) (hd : Vals dvs ds) (hx : Passes CX X E) (ha : PA X (e :: es) t)
    (hst : starEach (e :: es) X.env = (false, eval e X.env) :: starEach es X.env := by rfl) (hpl : (backTo pos (starEach es X.env)).any (·.1) = false := by rfl)
    (ht : eval (.Call (.Attribute o m apos) (e :: es) [] pos) X.env = (do
      let ov ← eval o X.env
      standAt apos.atName
      let (f, first) ← holding [ov] (getMethod ov m pl)
      callWith pos f first (backTo pos (starEach (e :: es) X.env)) (backToKw pos (keywordEach [] X.env))) := by rfl) :
    PE X (.Call (.Attribute o m apos) (e :: es) [] pos) (tMeth C m sp dvs E ta t) := by
  intro pins s σ H Q I h
  refine PySem.W.methodCall_KW (pl := pl) (thn (he pins s σ H _ I h) fun u s1 ⟨x, H1, I1, rx, a, dx, fs, ex, ea, l, q⟩ => ?_) ht
  subst ex
  obtain rfl : u = Value.ref a := rx
  refine getmeth_ok I1 ea c hm l ?_
  refine PySem.W.callWith_K (first := [.ref a]) (h₀ := X.base) I.ok.mod.kin hm.kp (thn (ha pos pins s1 σ H1 _ I1 q) fun us s2 ⟨vs, H2, I2, r, q2⟩ => ⟨I2.kIn, ?_⟩) hst hpl
  exact run_fn (us := .ref a :: us) (vs := .ref a :: vs) F hr hb hd hx I2 (.cons rfl r) q2
/-- o.m() -/
theorem pe_meth0 {pl : Sem Bool} (he : PE X o ta) (c : Cls X.K C) (hm : Meth X.K C m f) (F : FnOk X.prog X.w X.K X.mg X.base CX k f fd ps sp) (hr : Room k X.A) (hb : Binds X.K fd ps ds) (hd : Vals dvs ds) (hx : Passes CX X E)
    (ht : eval (.Call (.Attribute o m apos) [] [] pos) X.env = (do
      let ov ← eval o X.env
      standAt apos.atName
      let (f, first) ← holding [ov] (getMethod ov m pl)
      callWith pos f first (backTo pos (starEach [] X.env)) (backToKw pos (keywordEach [] X.env))) := by rfl) :
    PE X (.Call (.Attribute o m apos) [] [] pos) (tMeth C m sp dvs E ta tNil) := by
  intro pins s σ H Q I h
  refine PySem.W.methodCall_KW (pl := pl) (thn (he pins s σ H _ I h) fun u s1 ⟨x, H1, I1, rx, a, dx, fs, ex, ea, l, q⟩ => ?_) ht
  subst ex
  obtain rfl : u = Value.ref a := rx
  refine getmeth_ok I1 ea c hm l ?_
  exact PySem.W.callWith_K0 (first := [.ref a]) I1.kIn hm.kp (run_fn (us := [.ref a]) (vs := [.ref a]) F hr hb hd hx I1 (.cons rfl .nil) q)

/-- what a class must have to be made -/
structure Mk (K : PySem.W.Frag) (C f : Addr) : Prop where
  makes : PySem.W.makesIn K C = true
  init : PySem.W.findIn K (.ref C) "__init__" = some (some (.ref f))
  fn : PySem.W.isFn K (.ref f) = true
  kp : PySem.W.keepIn K (.ref C) = true

theorem run_make {pins : List (Addr × Obj)} {σ : St} {H : Hp} {s : Shared} {Q : VK} {us : List Value} {vs : List V} (M : Mk X.K C f) (F : FnOk X.prog X.w X.K X.mg X.base CX k f fd ps sp) (hr : Room (k + 1) X.A) (hb : Binds X.K fd ps ds) (hd : Vals dvs ds)
    (hx : Passes CX X E) (I : Inv X pins σ H s) (r : Vals vs us)
    (h : ∀ x dx, H x = none → H dx = none → dx ≠ x → sp (.ref x :: (vs ++ dvs)) (upd (upd H dx (.own x)) x (.ins C dx [])) (fun v H2 => v = .non ∧ Q (.ref x) H2) E) :
    wpAny (model X.prog X.w) X.A (call (.ref C) us) (EP X pins σ Q) X.xe s := by
  have hq := h (s.heap.objs.size + 1) s.heap.objs.size (I.hok.fresh (Nat.le_succ _)) (I.hok.fresh (Nat.le_refl _)) (Nat.ne_of_lt (Nat.lt_succ_self _))
  have I2 := Inv.made (C := C) I
  have r2 : Vals (V.ref (s.heap.objs.size + 1) :: (vs ++ dvs)) (Value.ref (s.heap.objs.size + 1) :: (us ++ ds)) := .cons rfl (r.append hd)
  have hl : (Value.ref (s.heap.objs.size + 1) :: us ++ ds).length = ps.length := by
    have e := r2.length
    rw [F.len _ _ _ _ hq] at e
    exact e.symm
  refine wpAny_call (make_map (f := f) I.kIn M.makes M.init (beq_iff_eq.mp M.fn) (codeAny_mono (F.run _ X.stack _ _ ⟨Value.ref (s.heap.objs.size + 1) :: us, []⟩ (Value.ref (s.heap.objs.size + 1) :: (us ++ ds)) _ _ E (hr.make C us [])
    (I2.env0.make C us []) (hb _ (Value.ref (s.heap.objs.size + 1) :: us) I2.kIn hl) r2 hq) fun r s' hq' => ?_))
  cases r with
  | error e => exact hx pins σ _ _ e s' I2 hq'
  | ok fl =>
    cases fl with
    | ret u =>
      obtain ⟨v, H', I3, rv, ev, q3⟩ := I2.after hq'
      subst ev
      exact ⟨rv, ⟨V.ref (s.heap.objs.size + 1), H', I3, rfl, q3⟩⟩
    | next => exact False.elim hq'
    | brk => exact False.elim hq'
    | cont => exact False.elim hq'
theorem pe_make (M : Mk X.K C f) (F : FnOk X.prog X.w X.K X.mg X.base CX k f fd ps sp) (hr : Room (k + 1) X.A) (hg : Gl X x) (hm : X.mg x = some (.ref C)) (hb : Binds X.K fd ps ds) (hd : Vals dvs ds) (hx : Passes CX X E)
    (ha : PA X (e :: es) t) (hdb : (x == ("__debug__" : Str)) = false := by decide) (he : starEach (e :: es) X.env = (false, eval e X.env) :: starEach es X.env := by rfl) (hpl : (backTo pos (starEach es X.env)).any (·.1) = false := by rfl) :
    PE X (.Call (.Name x p) (e :: es) [] pos) (tMake C sp dvs E t) := by
  intro pins s σ H Q I h
  refine wpAny_Call_Name_kw (ld_glob I hg hm ?_ hdb)
  refine PySem.W.callWith_K (h₀ := X.base) I.ok.mod.kin M.kp (thn (ha pos pins s σ H _ I h) fun us s1 ⟨vs, H1, I1, r, q⟩ => ⟨I1.kIn, ?_⟩) he hpl
  exact run_make M F hr hb hd hx I1 r q
end

/-! ### keywords -/
section
variable {X : Cx} {CX : CXT} {k : Nat} {f C : Addr} {fd : FuncData} {ps ks : List Str} {sp : Sp} {E : XK} {x m : Str} {p pos apos kpos : Pos} {e o : Expr} {es : List Expr} {kws : List Keyword} {te ta : TE} {t tk : TA} {nm : Option Str}
/-- how a call with keywords binds: g puts the positional values us and the keywords' values ws (names ks) in the parameters' order, defaults among them -/
structure KBinds (K : PySem.W.Frag) (fd : FuncData) (ps ks : List Str) (g : List Value → List Value → List Value) (gV : List V → List V → List V) : Prop where
  to : ∀ (s : Shared) (us ws : List Value), K.In s.heap → (g us ws).length = ps.length → BindsTo s fd ⟨us, ks.zip ws⟩ (ps.zip (g us ws))
  rel : ∀ {vs : List V} {us : List Value} {zs : List V} {ws : List Value}, Vals vs us → Vals zs ws → Vals (gV vs zs) (g us ws)
variable {g : List Value → List Value → List Value} {gV : List V → List V → List V}
end

/-! ### a def's body keeps its promise -/
/-- names: the parameters first -/
structure FnScope (N P : List Str) (sc : Scope) : Prop where
  kind : sc.kind = .function
  co : sc.isCoroutine = false
  gen : sc.isGenerator = false
  nd : N.Nodup
  pre : N.take P.length = P
  par : ∀ x ∈ P, sc.names.lookup x = some .local ∨ sc.names.lookup x = some .cell
  nofree : ∀ y ∈ sc.names, y.2 ≠ .free

theorem bindL_out {kindOf : Str → Option NameKind} {x : Str} : ∀ {binds : List (Str × Value)} {m : Str → Option Value}, (∀ v, (x, v) ∉ binds) → bindL kindOf binds m x = m x
  | [], _, _ => rfl
  | (n, v) :: r, m, h => by
    unfold bindL
    rw [bindL_out fun w hw => h w (List.mem_cons_of_mem _ hw)]
    split
    · have : x ≠ n := by rintro rfl; exact h v List.mem_cons_self
      simp [this]
    · rfl
theorem bindC_out {kindOf : Str → Option NameKind} {x : Str} : ∀ {binds : List (Str × Value)} {m : Str → Option Value}, (∀ v, (x, v) ∉ binds) → bindC kindOf binds m x = m x
  | [], _, _ => rfl
  | (n, v) :: r, m, h => by
    unfold bindC
    rw [bindC_out fun w hw => h w (List.mem_cons_of_mem _ hw)]
    split
    · rfl
    · have : x ≠ n := by rintro rfl; exact h v List.mem_cons_self
      simp [this]
theorem bindL_get {kindOf : Str → Option NameKind} {x : Str} {v : Value} : ∀ {P : List Str} {vs : List Value} {i : Nat} {m : Str → Option Value}, P.Nodup → P[i]? = some x → vs[i]? = some v → kindOf x = some .local →
    bindL kindOf (P.zip vs) m x = some v
  | [], _, _, _, _, h, _, _ => by simp at h
  | _ :: _, [], _, _, _, _, h, _ => by simp at h
  | p :: P, w :: vs, 0, m, nd, h1, h2, hk => by
    simp at h1 h2; subst h1; subst h2
    show bindL kindOf ((p, w) :: P.zip vs) m p = _
    unfold bindL
    rw [bindL_out fun v hv => (List.nodup_cons.mp nd).1 (List.of_mem_zip hv).1, if_pos hk]
    simp
  | p :: P, w :: vs, i + 1, m, nd, h1, h2, hk => by
    show bindL kindOf ((p, w) :: P.zip vs) m x = _
    unfold bindL
    exact bindL_get (i := i) (List.nodup_cons.mp nd).2 (by simpa using h1) (by simpa using h2) hk
theorem bindC_get {kindOf : Str → Option NameKind} {x : Str} {v : Value} : ∀ {P : List Str} {vs : List Value} {i : Nat} {m : Str → Option Value}, P.Nodup → P[i]? = some x → vs[i]? = some v → kindOf x ≠ some .local →
    bindC kindOf (P.zip vs) m x = some v
  | [], _, _, _, _, h, _, _ => by simp at h
  | _ :: _, [], _, _, _, _, h, _ => by simp at h
  | p :: P, w :: vs, 0, m, nd, h1, h2, hk => by
    simp at h1 h2; subst h1; subst h2
    show bindC kindOf ((p, w) :: P.zip vs) m p = _
    unfold bindC
    rw [bindC_out fun v hv => (List.nodup_cons.mp nd).1 (List.of_mem_zip hv).1, if_neg hk]
    simp
  | p :: P, w :: vs, i + 1, m, nd, h1, h2, hk => by
    show bindC kindOf ((p, w) :: P.zip vs) m x = _
    unfold bindC
    exact bindC_get (i := i) (List.nodup_cons.mp nd).2 (by simpa using h1) (by simpa using h2) hk

/-- the names' values at the entry -/
noncomputable def start (N : List Str) (vs : List V) : St := vs.map some ++ List.replicate (N.length - vs.length) none

/-- the context of a def's body, at its entry; an exception leaves the frame, then lies as CX says -/
noncomputable def cxOf (CX : CXT) (P : Program) (w : World) (K : PySem.W.Frag) (mg : Str → Option Value) (base : Heap) (N : List Str) (qual : Str) (scope : Scope) (f : Addr) (cd : Value) (A : Around) (outer : List Env) (s : Shared) (H : Hp) (E : XK) : Cx where
  prog := P
  w := w
  K := K
  mg := mg
  base := base
  A := A.deeper (envOfC qual scope s.heap.objs.size f cd)
  N := N
  s₀ := s
  H₀ := H
  env := envOfC qual scope s.heap.objs.size f cd
  outer := outer
  stack := envOfC qual scope s.heap.objs.size f cd :: outer
  ex := []
  calm := true
  fn := fun _ => true
  pn := []
  xe := fun e s' => wpAny (model P w) (A.deeper (envOfC qual scope s.heap.objs.size f cd)) (leaving (envOfC qual scope s.heap.objs.size f cd) e) (fun _ s'' => CX outer H s E e s'') (fun e' s'' => CX outer H s E e' s'') s'

theorem cell_has {sc : Scope} {n : Nat} {x : Str} (h : sc.names.lookup x = some .cell) : ∃ c, (cellsFrom n sc.names []).lookup x = some c := by
  have q := PySem.W.cellsFrom_some sc.names n [] (.inl h)
  exact Option.isSome_iff_exists.mp q

theorem inv_start {CX : CXT} {P : Program} {w : World} {K : PySem.W.Frag} {mg : Str → Option Value} {base : Heap} {N ps : List Str} {qual : Str} {scope : Scope} {f : Addr} {cd : Value} {A : Around} {outer : List Env} {s s1 : Shared} {H : Hp} {E : XK} {us : List Value} {vs : List V}
    (S : FnScope N ps scope) (hd : A.handled = none) (e0 : Env0 P w K mg base A outer s H) (hl : vs.length = ps.length) (r : Vals vs us)
    (x : InCallC s s.heap.objs.size (bindL (envOfC qual scope s.heap.objs.size f cd).kindOf (ps.zip us) fun _ => none) (cellsFrom (s.heap.objs.size + 1) scope.names []) (bindC (envOfC qual scope s.heap.objs.size f cd).kindOf (ps.zip us) fun _ => none) s1) :
    Inv (cxOf CX P w K mg base N qual scope f cd A outer s H E) [] (start N vs) H s1 := by
  have hpl : ps.length ≤ N.length := by have := congrArg List.length S.pre; rw [List.length_take] at this; omega
  obtain ⟨h1, tk, rfl, hk⟩ := x.done
  have noA : ∀ b : Addr, b ∉ (cxOf CX P w K mg base N qual scope f cd A outer s H E).ex := fun b z => absurd (show b ∈ ([] : List Addr) from z) (by simp)
  refine ⟨⟨e0.mod, S.kind, rfl, rfl, Nat.le_refl _, fun y z c h1 h2 => ?_, fun y hy => ?_, fun y c _ h => ?_, fun _ => hd, Around.frames_deeper e0.frames, .inr ⟨rfl, rfl⟩, fun b z => absurd z (noA b), e0.bs, e0.bsz, fun b _ _ => noA b, fun b z => absurd z (noA b), e0.funs, e0.frf⟩,
    rfl, e0.bare, Un.kept hk, ⟨_, x.toInCall.ns, fun i y v h1 h2 h3 => ?_⟩, fun y c h => ⟨_, x.cell y c h⟩, e0.hok.fresh (Nat.le_refl _), fun y c h => ?_, fun p hp => absurd (show p ∈ ([] : List (Addr × Obj)) from hp) (by simp), e0.hok.kept hk, ?_⟩
  · exact name_of_addr x.apart (PySem.mem_of_lookup h1) (PySem.mem_of_lookup h2)
  · have hy : scope.names.lookup y = some .cell ∨ scope.names.lookup y = some .free := hy
    rcases hy with hy | hy
    · exact cell_has hy
    · exact absurd rfl (S.nofree _ (PySem.mem_of_lookup hy))
  · exact Nat.le_of_lt (x.above y c (PySem.mem_of_lookup h))
  · have hi : i < vs.length := by
      unfold start at h2
      by_cases hi : i < vs.length
      · exact hi
      · rw [List.getElem?_append_right (by simpa using hi)] at h2
        rw [List.getElem?_replicate] at h2
        split at h2 <;> cases h2
    have ha : vs[i]? = some v := by
      unfold start at h2
      rw [List.getElem?_append_left (by simpa using hi), List.getElem?_map] at h2
      cases e : vs[i]? with
      | none => rw [e] at h2; cases h2
      | some a => rw [e] at h2; cases h2; rfl
    obtain ⟨u, hu, rv⟩ := r.get ha
    have hp : ps[i]? = some y := by
      rw [← S.pre, List.getElem?_take_of_lt (by omega)]; exact h1
    have ndP : ps.Nodup := by rw [← S.pre]; exact S.nd.sublist (List.take_sublist _ _)
    refine ⟨u, rv, ?_⟩
    rcases S.par y (List.mem_of_getElem? hp) with k | k
    · exact .inl ⟨k, bindL_get ndP hp hu k⟩
    · obtain ⟨c, e⟩ := cell_has (n := s.heap.objs.size + 1) k
      refine .inr ⟨.inl k, c, e, ?_⟩
      have q := x.cell y c e
      rw [bindC_get ndP hp hu (by show scope.names.lookup y ≠ _; rw [k]; decide)] at q
      exact q
  · exact e0.hok.fresh (Nat.le_of_lt (x.above y c (PySem.mem_of_lookup h)))
  · unfold start
    show _ = N.length
    rw [List.length_append, List.length_map, List.length_replicate]
    omega

/-- THE RULE: a def (or a method) of the text, by its body. The body's reading t is chosen for each entry; it is run at the parameters' values -/
theorem fn_of {CX : CXT} {P : Program} {w : World} {K : PySem.W.Frag} {mg : Str → Option Value} {base : Heap} {k : Nat} {f : Addr} {name qual : Str} {params : Arguments} {body : List Stmt} {scope : Scope} {dV kV doc pm cdv ct oc : Value} {an od : Option Addr}
    {osl : Array (Option Value)} {N ps : List Str} {sp : Sp} (lk : K.lookup f = some ⟨oc, od, .func (PySem.W.fnOf name qual params body scope dV kV doc pm an cdv ct), osl⟩) (hcd : PySem.W.codeIn K cdv qual = true) (S : FnScope N ps scope)
    (len : ∀ vs H Q E, sp vs H Q E → vs.length = ps.length)
    (hbody : ∀ (A : Around) (outer : List Env) (s : Shared) (H : Hp) (vs : List V) (Q : VK) (E : XK), Room k (A.deeper (envOfC qual scope s.heap.objs.size f cdv)) → sp vs H Q E →
      ∃ t, PSs (cxOf CX P w K mg base N qual scope f cdv A outer s H E) body t ∧ t { nx := fun _ H' => Q .non H', rt := Q } (start N vs) H) :
    FnOk P w K mg base CX (k + 1) f (PySem.W.fnOf name qual params body scope dV kV doc pm an cdv ct) ps sp := by
  refine ⟨len, fun A outer s H args us vs Q E hr e0 hb r hsp => ?_⟩
  have hl := len _ _ _ _ hsp
  have KX : K.In s.heap := e0.mod.kin.keeps fun b o e => (e0.bs b o e).1
  have lim : s.heap.NoLimit := e0.mod.nolimit.keeps fun b o e => (e0.bs b o e).1
  have hkind : ∀ y ∈ ps.zip us, scope.names.lookup y.1 = some .local ∨ (scope.names.lookup y.1 = some .cell ∧ ((cellsFrom (s.heap.objs.size + 1) scope.names []).lookup y.1).isSome = true) := fun ⟨n, v⟩ hy => by
    rcases S.par n (List.of_mem_zip hy).1 with q | q
    · exact .inl q
    · exact .inr ⟨q, PySem.W.cellsFrom_some _ _ _ (.inl q)⟩
  refine codeAny_call_function hr.depth (KX _ _ lk) rfl S.co S.gen rfl (PySem.W.codeRec_of KX hcd) (hb _ _ _ _ ?_)
  refine wpAny_newFunctionEnv_cells S.kind hkind fun env he s1 x => ?_
  subst he
  refine ⟨lim.keeps x.toInCall.keep, codeAny_func ?_⟩
  obtain ⟨t, ht, hq⟩ := hbody A outer s H vs Q E (hr.deeper _) hsp
  have I : Inv (cxOf CX P w K mg base N qual scope f cdv A outer s H E) [] (start N vs) H s1 := inv_start S hr.hd e0 hl r x
  refine wpAny_mono (ht [] s1 (start N vs) H _ I hq) (fun fl s' hs => ?_) fun e s' hs => hs
  have fin : ∀ {σ' : St} {H' : Hp} {v : V} {u : Value}, Inv (cxOf CX P w K mg base N qual scope f cdv A outer s H E) [] σ' H' s' → RelV v u → Q v H' → CE outer P w H s Q u s' :=
    fun {σ' H' v u} J rv q => ⟨v, H', J.os, J.bare, J.base, J.hok, rv, q⟩
  cases fl with
  | ret u =>
    obtain ⟨v, σ', H', J, rv, q⟩ := hs
    exact fin J rv q
  | next =>
    obtain ⟨σ', H', J, q⟩ := hs
    exact fin (v := V.non) (u := Value.none) J rfl q
  | brk =>
    obtain ⟨_, _, _, q⟩ := hs
    exact False.elim q
  | cont =>
    obtain ⟨_, _, _, q⟩ := hs
    exact False.elim q
end L2

namespace L2
open PySem PySem.Spec PyProof.Rows
section
variable {X : Cx} {x : Str} {p pos : Pos} {e : Expr} {es : List Expr} {t : TA} {id T : String} {r : List V → Hp → VK → Prop}

noncomputable def tCB (r : List V → Hp → VK → Prop) (t : TA) : TE := fun σ H Q => t σ H fun vs H1 => r vs H1 Q
/-- f(e, ..), f a built-in function -/
theorem pe_callB (hc : CallR X (.builtin id) r) (hg : Gl X x) (hm : X.mg x = none) (hv : bootBuiltins x = some (.builtin id)) (ha : PA X (e :: es) t) (hn : x ≠ "__name__" := by decide) (hdb : (x == ("__debug__" : Str)) = false := by decide)
    (he : starEach (e :: es) X.env = (false, eval e X.env) :: starEach es X.env := by rfl) (hpl : (backTo pos (starEach es X.env)).any (·.1) = false := by rfl) : PE X (.Call (.Name x p) (e :: es) [] pos) (tCB r t) := by
  intro pins s σ H Q I h
  refine wpAny_Call_Name_kw (ld_blt I hg hm hv ?_ hn hdb)
  exact PyProof.Rows.callWith_builtin1 (thn (ha pos pins s σ H _ I h) fun us s1 ⟨vs, H1, I1, r1, q1⟩ => hc pins s1 σ H1 vs us Q I1 r1 q1) he hpl
/-- T(e, ..), T a built-in type -/
theorem pe_callTy (hc : CallR X (.type T) r) (hg : Gl X x) (hm : X.mg x = none) (hv : bootBuiltins x = some (.type T)) (ha : PA X (e :: es) t) (hn : x ≠ "__name__" := by decide) (hdb : (x == ("__debug__" : Str)) = false := by decide)
    (he : starEach (e :: es) X.env = (false, eval e X.env) :: starEach es X.env := by rfl) (hpl : (backTo pos (starEach es X.env)).any (·.1) = false := by rfl) : PE X (.Call (.Name x p) (e :: es) [] pos) (tCB r t) := by
  intro pins s σ H Q I h
  refine wpAny_Call_Name_kw (ld_blt I hg hm hv ?_ hn hdb)
  exact PyProof.Rows.callWith_type1 (thn (ha pos pins s σ H _ I h) fun us s1 ⟨vs, H1, I1, r1, q1⟩ => hc pins s1 σ H1 vs us Q I1 r1 q1) he hpl
end
end L2

namespace HT
open PySem PyProof.Rows

section
open PySem.SeqAt
open PySem.AutoSeq1 (wpAny_loadPart')
open PySem.MeetsSeq PySem.MeetsSeq2 PySem.MeetsSeq3

end

section
variable {prog : Program} {w : World} {A : Around} {E : Value → Shared → Prop} {s : Shared}

/-- t + u, t not empty -/
theorem cat_tup {t b : Addr} {vs ws : List Value} {Q : Value → Shared → Prop} (ht : IsTup s.heap t vs.toArray) (hb : IsTup s.heap b ws.toArray) (hv : vs ≠ [])
    (h1 : ws = [] → Q (.ref t) s) (h2 : ws ≠ [] → Q (.ref s.heap.objs.size) { s with heap := s.heap.push { cls := .type "tuple", data := .seq (vs ++ ws).toArray } })
    (hsz : vs.length + ws.length ≤ sizeLine) : wpAny (model prog w) A (binaryOp .Add (.ref t) (.ref b)) Q E s := by
  obtain ⟨⟨cls, dd, data, sl⟩, ho, hc, n, hd⟩ := id ht
  obtain ⟨⟨cls2, dd2, data2, sl2⟩, ho2, hc2, n2, hd2⟩ := id hb
  simp only at hc hd hc2 hd2
  subst hc hd hc2 hd2
  have e : vs.toArray ++ ws.toArray = (vs ++ ws).toArray := by simp
  by_cases hw : ws = []
  · exact concat_meets ⟨_, ho, rfl⟩ ⟨_, ho2, rfl⟩ noFill_tuple_add seq_tuple_add PySem.F.slot_tuple_add PySem.F.entry_tuple_add (PySem.F.args_tuple_add_2 _ _)
      (tuple_addW1 t b vs.toArray ws.toArray n n2 dd dd2 sl sl2 (by simpa using hv) (by simp [hw])) ⟨ho, ho2, h1 hw⟩
  · refine concat_meets ⟨_, ho, rfl⟩ ⟨_, ho2, rfl⟩ noFill_tuple_add seq_tuple_add PySem.F.slot_tuple_add PySem.F.entry_tuple_add (PySem.F.args_tuple_add_2 _ _)
      (tuple_addW2 t b vs.toArray ws.toArray n n2 dd dd2 sl sl2 (by simpa using hv) (by simpa using hw) (by rw [List.size_toArray, List.size_toArray]; exact hsz)) ⟨ho, ho2, ?_⟩
    rw [e]
    exact h2 hw

/-! ### t[a:b], not the whole -/
/-- a slice's bound as a place among n (d where it is left out) -/
noncomputable def sIx (n d : Nat) : Option Int → Nat
  | none => d
  | some v => if v < 0 then (v + (n : Int)).toNat else min v.toNat n
theorem sIx_le (n d : Nat) (hd : d ≤ n) (o : Option Int) : sIx n d o ≤ n := by
  cases o with
  | none => exact hd
  | some v =>
    show (if v < 0 then (v + (n : Int)).toNat else min v.toNat n) ≤ n
    by_cases hv : v < 0
    · rw [if_pos hv]; omega
    · rw [if_neg hv]; exact Nat.min_le_right _ _
theorem clip_eq (v : Int) (n d : Nat) : (if v < 0 then max (v + (n : Int)) 0 else min v (n : Int)) = ((sIx n d (some v) : Nat) : Int) := by
  show (if v < 0 then max (v + (n : Int)) 0 else min v (n : Int)) = (((if v < 0 then (v + (n : Int)).toNat else min v.toNat n) : Nat) : Int)
  by_cases hv : v < 0
  · simp only [if_pos hv]; omega
  · simp only [if_neg hv]; omega
theorem adjust_gen (lo hi : Option Int) (n : Nat) : Builtin.Slice.sliceAdjust lo hi 1 (n : Int) = (((sIx n 0 lo : Nat) : Int), ((sIx n n hi : Nat) : Int)) := by
  have h1 : ¬ ((1 : Int) < 0) := by omega
  unfold Builtin.Slice.sliceAdjust
  simp only [h1, if_false]
  refine Prod.ext ?_ ?_
  · cases lo with
    | none => rfl
    | some v => exact clip_eq v n 0
  · cases hi with
    | none => rfl
    | some v => exact clip_eq v n n
theorem places_gen (i j : Nat) : Builtin.Slice.slicePlaces (i : Int) (j : Int) 1 = j - i := by
  unfold Builtin.Slice.slicePlaces
  have h1 : (1 : Int) > 0 := by omega
  simp only [h1, if_true, Int.ediv_one]
  split <;> omega
theorem slicePart_ {v : Value} {o : Option Int} {Q : Option Int → Shared → Prop} (p : IsPart v o) (h : Q o s) : wpAny (model prog w) A (Builtin.Slice.slicePartIndex v) Q E s := by
  cases p with
  | none => exact slicePart_none h
  | int i t => exact slicePart_int h
theorem sliceApplied_gen {sl : Addr} {vl vu : Value} {lo hi : Option Int} {n : Nat} {Q : Int × Int × Nat → Shared → Prop} (hs : s.heap.IsSliceOf sl vl vu .none) (pl : IsPart vl lo) (pu : IsPart vu hi)
    (h : Q (((sIx n 0 lo : Nat) : Int), 1, sIx n n hi - sIx n 0 lo) s) : wpAny (model prog w) A (Builtin.Slice.sliceApplied (.ref sl) (pure (n : Int))) Q E s := by
  obtain ⟨os, hos, hcs, hds⟩ := id hs
  unfold Builtin.Slice.sliceApplied Builtin.Slice.sliceFields
  refine wpAny_bind (wpAny_bind (wpAny_field hos hds (x := vl) rfl (wpAny_bind (wpAny_field hos hds (x := vu) rfl (wpAny_bind (wpAny_field hos hds (x := .none) rfl (wpAny_pure ?_)))))))
  refine wpAny_bind (slicePart_none ?_)
  show wpAny _ _ (if ((1 : Int) == 0) = true then _ else _) _ _ s
  rw [if_neg (by decide)]
  refine wpAny_bind (slicePart_ pl (wpAny_bind (slicePart_ pu (wpAny_bind (wpAny_pure ?_)))))
  show wpAny _ _ (match Builtin.Slice.sliceAdjust lo hi 1 (n : Int) with | (lo, hi) => pure (lo, (1 : Int), Builtin.Slice.slicePlaces lo hi 1)) _ _ s
  rw [adjust_gen lo hi n]
  show wpAny _ _ (pure (((sIx n 0 lo : Nat) : Int), (1 : Int), Builtin.Slice.slicePlaces ((sIx n 0 lo : Nat) : Int) ((sIx n n hi : Nat) : Int) 1)) _ _ s
  rw [places_gen]
  exact wpAny_pure h
theorem pick_gen (xs : Array Value) (i k : Nat) : ((List.range k).filterMap fun (m : Nat) => xs[((i : Int) + (m : Int) * 1).toNat]?).toArray = ((xs.toList.drop i).take k).toArray := by
  have e : (fun (m : Nat) => xs[((i : Int) + (m : Int) * 1).toNat]?) = fun m => xs[i + m]? := by
    funext m
    have : ((i : Int) + (m : Int) * 1).toNat = i + m := by omega
    rw [this]
  rw [e]
  have := pick_run xs i k
  rw [List.filterMap_map] at this
  have e2 : ((fun x => xs[x]?) ∘ fun x => i + x) = fun m => xs[i + m]? := rfl
  rw [e2] at this
  rw [this]

theorem getItem_tuple_cut {t sl : Addr} {items : Array Value} {vl vu : Value} {lo hi : Option Int} {Q : Value → Shared → Prop} (ht : IsTup s.heap t items) (hs : s.heap.IsSliceOf sl vl vu .none) (pl : IsPart vl lo) (pu : IsPart vu hi)
    (hw : ¬ (sIx items.size 0 lo = 0 ∧ sIx items.size items.size hi = items.size))
    (h : Q (.ref s.heap.objs.size) { s with heap := s.heap.push { cls := .type "tuple", data := .seq ((items.toList.drop (sIx items.size 0 lo)).take (sIx items.size items.size hi - sIx items.size 0 lo)).toArray } })
    (hsz : items.size ≤ sizeLine) : wpAny (model prog w) A (getItem (.ref t) (.ref sl)) Q E s := by
  have htake : sizeOk (.seq ((items.toList.drop (sIx items.size 0 lo)).take (sIx items.size items.size hi - sIx items.size 0 lo)).toArray) := by
    show ((items.toList.drop (sIx items.size 0 lo)).take (sIx items.size items.size hi - sIx items.size 0 lo)).toArray.size ≤ sizeLine
    rw [List.size_toArray, List.length_take, List.length_drop, Array.length_toList]
    omega
  have hj : sIx items.size items.size hi ≤ items.size := sIx_le _ _ (Nat.le_refl _) hi
  obtain ⟨os, hos, hcs, hds⟩ := id hs
  have hTs : s.TypeIs (.ref sl) "slice" := ⟨os, hos, hcs⟩
  unfold getItem
  try with_reducible refine wpAny_holding ?_
  first | refine wpAny_bind (wpAny_pure ?_) | skip
  refine wpAny_bind (wpAny_sequenceKey ht.typeIs (by decide) ?_)
  refine wpAny_bind (wpAny_callSpecial?_slot (name := Str.ofString "__getitem__") ht.typeIs PyProof.Rows.slot_tuple_getitem
    (wpAny_call_entry PyProof.Rows.slot_tuple_getitem ht.typeIs entry_tuple_getitem ?_ (args_tuple_getitem _ _)))
  show wpAny _ _ (Builtin.Tuple.tupleItemsOf (.ref t) >>= _) _ _ s
  refine wpAny_bind (tupleItemsOf_ ht ?_)
  refine wpAny_bind (wpAny_typeOf hTs ?_)
  rw [if_pos (by decide)]
  refine wpAny_bind (sliceApplied_gen hs pl pu ?_)
  have hno : ¬ ((((sIx items.size 0 lo : Nat) : Int) == 0 && (1 : Int) == 1 && (sIx items.size items.size hi - sIx items.size 0 lo) == items.size) = true) := by
    intro q
    rw [Bool.and_eq_true, Bool.and_eq_true] at q
    have q1 : ((sIx items.size 0 lo : Nat) : Int) = 0 := eq_of_beq q.1.1
    have q2 : sIx items.size items.size hi - sIx items.size 0 lo = items.size := eq_of_beq q.2
    exact hw ⟨by omega, by omega⟩
  show wpAny _ _ (if (((sIx items.size 0 lo : Nat) : Int) == 0 && (1 : Int) == 1 && (sIx items.size items.size hi - sIx items.size 0 lo) == items.size) = true then _ else _) _ _ s
  rw [if_neg hno, pick_gen]
  first
    | exact wpAny_bind (m := Builtin.Tuple.tupleExact _) (wpAny_newObj_type (wpAny_pure ⟨_, rfl, wpAny_pure h⟩) htake)
    | exact wpAny_bind (m := Builtin.Tuple.tupleExact _) (wpAny_newObj_type (wpAny_bind (wpAny_pure (wpAny_pure ⟨_, rfl, wpAny_pure h⟩))) htake)
    | exact wpAny_bind (wpAny_bind (m := Builtin.Tuple.tupleExact _) (wpAny_newObj_type (wpAny_pure (wpAny_pure ⟨_, rfl, wpAny_pure h⟩)) htake))
    | exact wpAny_bind (wpAny_bind (m := Builtin.Tuple.tupleExact _) (wpAny_newObj_type (wpAny_pure ⟨_, rfl, wpAny_pure h⟩) htake))
end
end HT

namespace L2
open PySem PySem.Spec PyProof.Rows

/-! ### the parts of a slice -/
noncomputable abbrev TO := St → Hp → (Option Int → Hp → Prop) → Prop
/-- a slice's part (left out, or an int) -/
noncomputable def PO (X : Cx) (e : Option Expr) (t : TO) : Prop :=
  ∀ (pins : List (Addr × Obj)) (s : Shared) (σ : St) (H : Hp) (Q : Option Int → Hp → Prop), Inv X pins σ H s → t σ H Q →
    wpAny (model X.prog X.w) X.A (evalPart e X.env) (fun u s' => ∃ o H', Inv X pins σ H' s' ∧ IsPart u o ∧ Q o H') X.xe s
noncomputable def tNoPart : TO := fun _ H Q => Q none H
section
variable {X : Cx} {e : Expr} {te : TE} {lo hi : Option Expr} {tl th : TO} {pos p2 : Pos}

theorem po_none : PO X none tNoPart := by
  intro pins s σ H Q I h
  rw [evalPart_none]
  exact wpAny_pure ⟨none, H, I, .none, h⟩
/-- what a slice of a value is, by values: the slice object stands at sl -/
noncomputable def SlR (X : Cx) (r : V → Option Int → Option Int → Hp → VK → Prop) : Prop :=
  ∀ (pins : List (Addr × Obj)) (s : Shared) (σ : St) (H : Hp) (x : V) (v vl vu : Value) (lo hi : Option Int) (sl : Addr) (Q : VK), Inv X pins σ H s → RelV x v → s.heap.IsSliceOf sl vl vu .none → IsPart vl lo → IsPart vu hi → r x lo hi H Q →
    ∃ T id, typeLookup (.type T) "__getitem__" = pure (some (.builtin id)) ∧ s.TypeIs v T ∧ wpAny (model X.prog X.w) X.A (getItem v (.ref sl)) (EP X pins σ Q) X.xe s
noncomputable def tSl (r : V → Option Int → Option Int → Hp → VK → Prop) (te : TE) (tl th : TO) : TE := fun σ H Q => te σ H fun x H1 => tl σ H1 fun l H2 => th σ H2 fun u H3 => r x l u H3 Q
/-- a[lo:hi], any a -/
theorem pe_slice {r : V → Option Int → Option Int → Hp → VK → Prop} (hr : SlR X r) (he : PE X e te) (hl : PO X lo tl) (hu : PO X hi th) : PE X (.Subscript e (.Slice lo hi none p2) pos) (tSl r te tl th) := by
  intro pins s σ H Q I h
  refine Subscript_ (thn (he pins s σ H _ I h) fun v s1 ⟨x, H1, I1, r1, q1⟩ => ?_)
  refine wpAny_Slice (thn (hl pins s1 σ H1 _ I1 q1) fun vl s2 ⟨l, H2, I2, pl, q2⟩ => thn (hu pins s2 σ H2 _ I2 q2) fun vu s3 ⟨u, H3, I3, pu, q3⟩ => ?_)
  rw [evalPart_none]
  refine wpAny_pure ?_
  have I4 : Inv X pins σ H3 { s3 with heap := s3.heap.push { cls := .type "slice", data := .fields #[vl, vu, .none] } } := I3.kept (t' := s3.toks) fun b ob q => Heap.get?_push_of_some _ q
  obtain ⟨T, id, hT, ht, hg⟩ := hr pins { s3 with heap := s3.heap.push { cls := .type "slice", data := .fields #[vl, vu, .none] } } σ H3 x v vl vu l u s3.heap.objs.size Q I4 r1 (Heap.IsSliceOf.new ..) pl pu q3
  show wpAny (model X.prog X.w) X.A (subscriptTail e (.Slice lo hi none p2) v (.ref s3.heap.objs.size)) (EP X pins σ Q) X.xe { s3 with heap := s3.heap.push { cls := .type "slice", data := .fields #[vl, vu, .none] } }
  exact tail_any (ops := [.ref s3.heap.objs.size, v]) ht hT hg (by with_unfolding_all rfl)

/-- the items of xs[lo:hi] -/
noncomputable def cutV (xs : List V) (lo hi : Option Int) : List V := (xs.drop (HT.sIx xs.length 0 lo)).take (HT.sIx xs.length xs.length hi - HT.sIx xs.length 0 lo)
theorem cutV_length (xs : List V) (lo hi : Option Int) : (cutV xs lo hi).length ≤ xs.length := by
  unfold cutV
  rw [List.length_take, List.length_drop]
  omega
/-- t[lo:hi], not the whole of it (the whole would be t itself) -/
noncomputable def rSlT (K : PySem.W.Frag) : V → Option Int → Option Int → Hp → VK → Prop := fun x lo hi H Q => ∃ a xs, x = .ref a ∧ SqT K H a xs ∧
  ¬ (HT.sIx xs.length 0 lo = 0 ∧ HT.sIx xs.length xs.length hi = xs.length) ∧ ∀ p, H p = none → Q (.ref p) (upd H p (.tup (cutV xs lo hi)))
theorem sl_tup : SlR X (rSlT X.K) := by
  intro pins s σ H x v vl vu lo hi sl Q I rx hs pl pu h
  obtain ⟨a, xs, rfl, hx, hw, q⟩ := h
  cases rx
  obtain ⟨its, r, ht, hz⟩ := I.tuple hx
  have hlen : its.toArray.size = xs.length := by rw [List.size_toArray]; exact r.length.symm
  refine ⟨"tuple", _, PyProof.Rows.slot_tuple_getitem.lookup, ht.typeIs, ?_⟩
  refine HT.getItem_tuple_cut ht hs pl pu (by rw [hlen]; exact hw) ?_ (by rw [hlen]; exact hz)
  rw [hlen]
  refine ⟨.ref s.heap.objs.size, _, I.laid (t' := s.toks) (o := .tup (cutV xs lo hi)) (fun b ob q => Heap.get?_push_of_some _ q) (Nat.le_refl _) ?_, rfl, q _ (I.hok.fresh (Nat.le_refl _))⟩
  exact ⟨Nat.le_trans (cutV_length xs lo hi) hz, _, (r.drop (HT.sIx xs.length 0 lo)).take (HT.sIx xs.length xs.length hi - HT.sIx xs.length 0 lo), IsTupB.new _ _⟩

/-! ### t < u, t + u -/
/-- t + u, t not empty: u empty gives t itself -/
noncomputable def rCatT (K : PySem.W.Frag) : R2 := fun x y H Q => ∃ a b xs ys, x = .ref a ∧ y = .ref b ∧ SqT K H a xs ∧ SqT K H b ys ∧ xs ≠ [] ∧ xs.length + ys.length ≤ sizeLine ∧
  (ys = [] → Q (.ref a) H) ∧ (ys ≠ [] → ∀ p, H p = none → Q (.ref p) (upd H p (.tup (xs ++ ys))))
theorem Vals.nil_iff {xs : List V} {us : List Value} (r : Vals xs us) : us = [] ↔ xs = [] := by
  cases r with
  | nil => simp
  | cons _ _ => simp
theorem op_catT : OpR X (binaryOp .Add) (rCatT X.K) := by
  intro pins s σ H x y v u Q I rx ry h
  obtain ⟨a, b, xs, ys, rfl, rfl, ha, hb, hx, hz, q1, q2⟩ := h
  cases rx
  cases ry
  obtain ⟨its, r1, p1, _⟩ := I.tuple ha
  obtain ⟨its2, r2, p2, _⟩ := I.tuple hb
  refine HT.cat_tup p1 p2 (fun z => hx (r1.nil_iff.mp z)) (fun z => ⟨.ref a, H, I, rfl, q1 (r2.nil_iff.mp z)⟩) (fun z => ?_) (by rw [← r1.length, ← r2.length]; exact hz)
  refine ⟨.ref s.heap.objs.size, _, I.laid (t' := s.toks) (o := .tup (xs ++ ys)) (fun b ob q => Heap.get?_push_of_some _ q) (Nat.le_refl _) ?_, rfl, q2 (fun w => z (r2.nil_iff.mpr w)) _ (I.hok.fresh (Nat.le_refl _))⟩
  exact ⟨by rw [List.length_append]; exact hz, _, r1.append r2, IsTupB.new _ _⟩
end
end L2

namespace L2
open PySem PySem.Spec PyProof.Rows

/-! ### places -/
/-- the place that an index of any sign means -/
noncomputable def ixN (n : Nat) (i : Int) : Option Nat := if 0 ≤ i then (if i < n then some i.toNat else none) else if -(n : Int) ≤ i then some (i + n).toNat else none
noncomputable def atI {α : Type} (xs : List α) (i : Int) : Option α := (ixN xs.length i).bind fun j => xs[j]?
theorem ixN_seq {n : Nat} {i : Int} {j : Nat} (h : ixN n i = some j) : seqIndex? i n = some j ∧ j < n ∧ -(n : Int) ≤ i ∧ i < n := by
  unfold ixN at h
  by_cases h0 : 0 ≤ i
  · rw [if_pos h0] at h
    by_cases h1 : i < n
    · rw [if_pos h1] at h
      have e : i.toNat = j := Option.some.inj h
      exact ⟨by rw [seqIndex_of h0 h1, e], by omega, by omega, h1⟩
    · rw [if_neg h1] at h; cases h
  · rw [if_neg h0] at h
    by_cases h1 : -(n : Int) ≤ i
    · rw [if_pos h1] at h
      have e : (i + n).toNat = j := Option.some.inj h
      exact ⟨by rw [seqIndex_neg (by omega) h1, e], by omega, h1, by omega⟩
    · rw [if_neg h1] at h; cases h
theorem atI_get {α : Type} {xs : List α} {i : Int} {v : α} (h : atI xs i = some v) : ∃ j, seqIndex? i xs.length = some j ∧ xs[j]? = some v ∧ j < xs.length ∧ -(xs.length : Int) ≤ i ∧ i < xs.length := by
  unfold atI at h
  cases e : ixN xs.length i with
  | none => rw [e] at h; cases h
  | some j =>
    rw [e] at h
    obtain ⟨h1, h2, h3, h4⟩ := ixN_seq e
    exact ⟨j, h1, h, h2, h3, h4⟩
/-! ### what may be subscripted -/
/-- what stands as an index of a plain subscript -/
noncomputable def PlainIx (b : Expr) : Prop := ∀ o i, subscripted b false o i = operate [o, i] (getItem o i)
/-- a subscript by values -/
noncomputable def IxR (X : Cx) (r : R2) : Prop :=
  ∀ (value slice : Expr) (pins : List (Addr × Obj)) (s : Shared) (σ : St) (H : Hp) (x y : V) (v u : Value) (Q : VK), Inv X pins σ H s → RelV x v → RelV y u → r x y H Q →
    subscripted slice false v u = operate [v, u] (getItem v u) → wpAny (model X.prog X.w) X.A (subscriptTail value slice v u) (EP X pins σ Q) X.xe s
/-- a call of a builtin's method by values: the receiver, the arguments -/
noncomputable def MtR (X : Cx) (id : String) (r : V → List V → Hp → VK → Prop) : Prop :=
  ∀ (pins : List (Addr × Obj)) (s : Shared) (σ : St) (H : Hp) (x : V) (xs : List V) (v : Value) (us : List Value) (Q : VK), Inv X pins σ H s → RelV x v → Vals xs us → r x xs H Q →
    wpAny (model X.prog X.w) X.A (call (.builtin id) (v :: us)) (EP X pins σ Q) X.xe s
section
variable {X : Cx} {a b : Expr} {ta tb : TE} {pos : Pos}
/-- a[b] -/
theorem pe_ix {r : R2} (hr : IxR X r) (ha : PE X a ta) (hb : PE X b tb) (hs : PlainIx b) : PE X (.Subscript a b pos) (tOp r ta tb) := by
  intro pins s σ H Q I h
  exact Subscript_ (binT ha hb I h fun v u s2 x y H2 I2 rx ry q => hr a b pins s2 σ H2 x y v u Q I2 rx ry q (hs _ _))

noncomputable def rIxL (K : PySem.W.Frag) : R2 := fun x y H Q => ∃ p xs i v, x = .ref p ∧ y = .int i ∧ SqL K H p xs ∧ atI xs i = some v ∧ Q v H
noncomputable def rIxT (K : PySem.W.Frag) : R2 := fun x y H Q => ∃ p xs i v, x = .ref p ∧ y = .int i ∧ SqT K H p xs ∧ atI xs i = some v ∧ Q v H
noncomputable def rIxS : R2 := fun x y H Q => ∃ z i c, x = .str z ∧ y = .int i ∧ z.length ≤ sizeLine ∧ atI z.cps.toList i = some c ∧ Q (.str ⟨#[c]⟩) H
theorem ix_list : IxR X (rIxL X.K) := by
  intro value slice pins s σ H x y v u Q I rx ry h hs
  obtain ⟨p, xs, i, z, rfl, rfl, hq, he, q⟩ := h
  cases rx
  obtain ⟨t, rfl⟩ := ry
  obtain ⟨its, r, pl, hz⟩ := I.list hq
  obtain ⟨j, h1, h2, h3, h4, h5⟩ := atI_get he
  obtain ⟨w, ew, rw'⟩ := r.get h2
  have hl := r.length
  have hn := line63
  have fin : EP X pins σ Q w s := ⟨z, H, I, rw', q⟩
  by_cases h0 : 0 ≤ i
  · have hj : i.toNat = j := by
      rw [seqIndex_of h0 h5] at h1
      exact Option.some.inj h1
    exact item_listR pl.isList h0 (by omega) (by rw [hj]; simpa using ew) fin hs
  · have hj : (i + (its.toArray.size : Int)).toNat = j := by
      rw [seqIndex_neg (by omega) h4] at h1
      rw [List.size_toArray, ← hl]
      exact Option.some.inj h1
    exact subscriptTail_builtinR (x := w) pl.isList.typeIs slot_list_getitem.lookup
      (wpAny_getItem_list_neg (Q := fun r s' => r = w ∧ EP X pins σ Q r s') pl.isList (by omega) (by rw [List.size_toArray] <;> omega) (by omega) (by rw [hj]; simpa using ew) ⟨rfl, fin⟩) hs
theorem ix_tup : IxR X (rIxT X.K) := by
  intro value slice pins s σ H x y v u Q I rx ry h hs
  obtain ⟨p, xs, i, z, rfl, rfl, hq, he, q⟩ := h
  cases rx
  obtain ⟨t, rfl⟩ := ry
  obtain ⟨its, r, pl, hz⟩ := I.tuple hq
  obtain ⟨j, h1, h2, h3, h4, h5⟩ := atI_get he
  obtain ⟨w, ew, rw'⟩ := r.get h2
  have hl := r.length
  have hn := line63
  have fin : EP X pins σ Q w s := ⟨z, H, I, rw', q⟩
  exact subscriptTail_builtinR (x := w) pl.typeIs slot_tuple_getitem.lookup
    (getItem_tuple (j := j) (Q := fun r s' => r = w ∧ EP X pins σ Q r s') pl (by omega) (by omega) (by rw [List.size_toArray, ← hl]; exact h1) (by simpa using ew) ⟨rfl, fin⟩) hs
theorem ix_str : IxR X rIxS := by
  intro value slice pins s σ H x y v u Q I rx ry h hs
  obtain ⟨z, i, c, rfl, rfl, hz, he, q⟩ := h
  obtain ⟨t, rfl⟩ := rx
  obtain ⟨t', rfl⟩ := ry
  obtain ⟨j, h1, h2, h3, h4, h5⟩ := atI_get he
  have hl : z.cps.toList.length = z.length := by simp [Str.length]
  rw [hl] at h1 h4 h5
  have hn := line63
  exact tail_any (typeIs_str s z t) slot_str_getitem.lookup (getItem_str (c := c) (by
    have e1 : decide (i < -(2 ^ 63 : Int)) = false := decide_eq_false (by omega)
    have e2 : decide (i ≥ 2 ^ 63) = false := decide_eq_false (by omega)
    rw [e1, e2, Bool.or_false]) (by rw [h1]; simpa using h2) ⟨.str ⟨#[c]⟩, H, I.tok _, ⟨_, rfl⟩, q⟩) hs
/-! ### xs[i] = v, any sign -/
/-! ### slices -/
theorem slice_bounds (lo hi : Option Int) (n : Nat) : (sliceBounds lo hi none n).1 = ((HT.sIx n 0 lo : Nat) : Int) ∧ (sliceBounds lo hi none n).2.1 = ((HT.sIx n n hi : Nat) : Int) ∧ (sliceBounds lo hi none n).2.2 = 1 := by
  refine ⟨?_, ?_, rfl⟩
  · cases lo with
    | none => simp [sliceBounds, HT.sIx]
    | some i =>
      simp only [sliceBounds, HT.sIx, Option.getD_none, show (1 : Int) > 0 by decide, if_true]
      by_cases h : i < 0
      · simp only [h, if_true] <;> omega
      · simp only [h, if_false] <;> omega
  · cases hi with
    | none => simp [sliceBounds, HT.sIx]
    | some i =>
      simp only [sliceBounds, HT.sIx, Option.getD_none, show (1 : Int) > 0 by decide, if_true]
      by_cases h : i < 0
      · simp only [h, if_true] <;> omega
      · simp only [h, if_false] <;> omega
theorem slicePick_cut (its : List Value) (lo hi : Option Int) : slicePick its.toArray lo hi none = ((its.drop (HT.sIx its.length 0 lo)).take (HT.sIx its.length its.length hi - HT.sIx its.length 0 lo)).toArray := by
  obtain ⟨h1, h2, h3⟩ := slice_bounds lo hi its.toArray.size
  unfold slicePick
  rw [h1, h2, h3]
  simp only [sliceRange_one, pick_run, List.size_toArray] <;> rfl
/-- xs[lo:hi] of a list: a new list -/
noncomputable def rSlL (K : PySem.W.Frag) : V → Option Int → Option Int → Hp → VK → Prop := fun x lo hi H Q => ∃ a xs, x = .ref a ∧ SqL K H a xs ∧ ∀ p, H p = none → Q (.ref p) (upd H p (.lst (cutV xs lo hi)))
theorem sl_list : SlR X (rSlL X.K) := by
  intro pins s σ H x v vl vu lo hi sl Q I rx hs pl pu h
  obtain ⟨a, xs, rfl, hx, q⟩ := h
  cases rx
  obtain ⟨its, r, ht, hz⟩ := I.list hx
  have hlen := r.length
  refine ⟨"list", _, slot_list_getitem.lookup, ht.isList.typeIs, ?_⟩
  refine wpAny_getItem_list_slice ht.isList hs pl pu .none (by simp) ?_ (by rw [List.size_toArray] <;> omega)
  rw [slicePick_cut, ← hlen]
  refine ⟨.ref s.heap.objs.size, _, I.laid (t' := s.toks) (o := .lst (cutV xs lo hi)) (fun b ob q => Heap.get?_push_of_some _ q) (Nat.le_refl _) ?_, rfl, q _ (I.hok.fresh (Nat.le_refl _))⟩
  exact ⟨Nat.le_trans (cutV_length xs lo hi) hz, _, 0, (r.drop (HT.sIx xs.length 0 lo)).take (HT.sIx xs.length xs.length hi - HT.sIx xs.length 0 lo), Heap.get?_push_size _ rfl⟩

/-! ### in, not in: flat items -/
/-! ### len, list(x), tuple(x) of any list or tuple that is read -/
theorem call_tuple_of : CallR X (.type "tuple") (fun xs H Q => ∃ p ys, xs = [.ref p] ∧ ((SqL X.K H p ys ∧ ∀ l, H l = none → Q (.ref l) (upd H l (.tup ys))) ∨ (SqT X.K H p ys ∧ Q (.ref p) H))) := by
  intro pins s σ H xs us Q I r h
  obtain ⟨p, ys, rfl, h⟩ := h
  obtain ⟨u, rfl, rx⟩ := vals1 r
  cases rx
  rcases h with ⟨hq, q⟩ | ⟨hq, q⟩
  · obtain ⟨its, r', pl, hz⟩ := I.list hq
    have hlen := r'.length
    refine call_tuple_list pl.isList (fun h' kp => ?_) (by simp only [List.size_toArray] <;> omega)
    have I1 : Inv X pins σ H { s with heap := h' } := I.kept (t' := s.toks) kp
    have I2 : Inv X pins σ (upd H h'.objs.size (.tup ys)) { s with heap := h'.push { cls := .type "tuple", data := .seq its.toArray } } :=
      I1.laid (t' := s.toks) (fun b o e => Heap.get?_push_of_some _ e) (Nat.le_refl _) (show ObjOk X.prog X.w _ _ _ (.tup ys) from ⟨hz, its, r', IsTupB.new _ _⟩)
    exact ⟨.ref h'.objs.size, _, I2, rfl, q _ (I1.hok.fresh (Nat.le_refl _))⟩
  · obtain ⟨its, r', pl, hz⟩ := I.tuple hq
    exact call_tuple_same pl ⟨.ref p, H, I, rfl, q⟩

/-! ### the call of a builtin's method: o.m(..) -/
/-- the value is of that builtin type -/
noncomputable def tyV (K : PySem.W.Frag) (T : String) (x : V) (H : Hp) : Prop := match x with
  | .str _ => T = "str"
  | .int _ => T = "int"
  | .ref p => (T = "list" ∧ ∃ xs, SqL K H p xs) ∨ (T = "tuple" ∧ ∃ xs, SqT K H p xs) ∨
      (T = "dict" ∧ ((∃ kvs, H p = some (.dK kvs)) ∨ ∃ kvs, H p = some (.dT kvs))) ∨ (T = "set" ∧ ∃ S n, H p = some (.set S n))
  | _ => False
theorem tyV_is {pins : List (Addr × Obj)} {σ : St} {H : Hp} {s : Shared} {T : String} {x : V} {v : Value} (I : Inv X pins σ H s) (r : RelV x v) (ty : tyV X.K T x H) :
    s.TypeIs v T ∧ ∀ a, v = .ref a → ∃ ob, s.heap.get? a = some ob ∧ ob.dict = none := by
  cases x with
  | str z =>
    obtain ⟨t, rfl⟩ := r
    cases (show T = "str" from ty)
    exact ⟨typeIs_str s z t, fun _ e => nomatch e⟩
  | int i =>
    obtain ⟨t, rfl⟩ := r
    cases (show T = "int" from ty)
    exact ⟨typeIs_int s i t, fun _ e => nomatch e⟩
  | ref p =>
    cases r
    rcases ty with ⟨rfl, xs, hq⟩ | ⟨rfl, xs, hq⟩ | ⟨rfl, hk⟩ | ⟨rfl, S, n, hk⟩
    · obtain ⟨its, _, pl, _⟩ := I.list hq
      refine ⟨pl.isList.typeIs, fun a e => ?_⟩
      cases e
      obtain ⟨o, n, e, c, hd, _⟩ := pl
      exact ⟨o, e, hd⟩
    · obtain ⟨its, _, ⟨o, e, c, _⟩, _⟩ := I.tuple hq
      refine ⟨⟨o, e, c⟩, fun a e2 => ?_⟩
      cases e2
      exact ⟨o, e, I.tupleB hq o e⟩
    · have z : ∃ o, s.heap.get? p = some o ∧ o.ExactDict := by
        rcases hk with ⟨kvs, hk⟩ | ⟨kvs, hk⟩
        · obtain ⟨_, _, _, _, o, _, _, e, ex, _⟩ := I.hok p _ hk
          exact ⟨o, e, ex⟩
        · obtain ⟨_, _, _, _, o, _, _, e, ex, _⟩ := I.hok p _ hk
          exact ⟨o, e, ex⟩
      obtain ⟨o, e, ex⟩ := z
      refine ⟨⟨o, e, ex.1⟩, fun a e2 => ?_⟩
      cases e2
      exact ⟨o, e, ex.2.1⟩
    · obtain ⟨o, _, _, _, e, ex, _⟩ := I.hok p _ hk
      refine ⟨⟨o, e, ex.1⟩, fun a e2 => ?_⟩
      cases e2
      exact ⟨o, e, ex.2.1⟩
  | _ => exact False.elim ty
noncomputable def tBM0 (K : PySem.W.Frag) (T : String) (r : V → List V → Hp → VK → Prop) (to : TE) : TE := fun σ H Q => to σ H fun x H1 => tyV K T x H1 ∧ r x [] H1 Q
noncomputable def tBM (K : PySem.W.Frag) (T : String) (r : V → List V → Hp → VK → Prop) (to : TE) (t : TA) : TE := fun σ H Q => to σ H fun x H1 => tyV K T x H1 ∧ t σ H1 fun xs H2 => r x xs H2 Q
variable {o e : Expr} {es : List Expr} {to : TE} {t : TA} {name : Str} {apos cpos : Pos} {T id : String} {r : V → List V → Hp → VK → Prop}
theorem pe_bm0 (pa : PlainAttrs T) (slot : Slot T name id) (hty : typeOf (.builtin id) = pure (.type "method_descriptor")) (hm : MtR X id r) (ho : PE X o to)
    (hbase : attributeBase o name X.env (eval o X.env) = eval o X.env := by rfl) (hline : (apos.endLine == cpos.line) = true := by rfl) : PE X (.Call (.Attribute o name apos) [] [] cpos) (tBM0 X.K T r to) := by
  intro pins s σ H Q I h
  refine wpAny_Call_method0_late hbase hline (thn (ho pins s σ H _ I h) fun v s1 ⟨x, H1, I1, r1, ty, q1⟩ => ?_)
  obtain ⟨h1, h2⟩ := tyV_is I1 r1 ty
  exact ⟨T, id, pa, slot, hty, h1, h2, Calls.callWith_builtin rfl (PySem.evalArgs_none (hm pins s1 σ H1 x [] v [] Q I1 r1 .nil q1))⟩
theorem pe_bm (pa : PlainAttrs T) (slot : Slot T name id) (hty : typeOf (.builtin id) = pure (.type "method_descriptor")) (hm : MtR X id r) (ho : PE X o to) (ha : PA X (e :: es) t)
    (hbase : attributeBase o name X.env (eval o X.env) = eval o X.env := by rfl)
    (hfew : ((backTo cpos (starEach (e :: es) X.env)).all (fun x => !x.1) && (backToKw cpos (keywordEach [] X.env)).all (fun x => x.1.isSome)
      && decide ((e :: es).length + ([] : List Keyword).length + (if ([] : List Keyword).isEmpty then 0 else 1) < 30)) = true := by rfl)
    (hline : (apos.endLine == cpos.line) = true := by rfl) (hs : starEach (e :: es) X.env = (false, eval e X.env) :: starEach es X.env := by rfl) (hplain : (backTo cpos (starEach es X.env)).any (·.1) = false := by rfl) :
    PE X (.Call (.Attribute o name apos) (e :: es) [] cpos) (tBM X.K T r to t) := by
  intro pins s σ H Q I h
  refine wpAny_Call_method_late hbase hfew hline rfl (thn (ho pins s σ H _ I h) fun v s1 ⟨x, H1, I1, r1, ty, q1⟩ => ?_)
  obtain ⟨h1, h2⟩ := tyV_is I1 r1 ty
  refine ⟨T, id, pa, slot, hty, h1, h2, ?_⟩
  have hA := ha cpos pins s1 σ H1 _ I1 q1
  rw [hs] at hA ⊢
  refine Calls.callWith_builtin (by show (false || (backTo cpos (starEach es X.env)).any (·.1)) = false; rw [hplain] <;> rfl) (Calls.evalArgs_plain ?_)
  exact thn hA fun us s2 ⟨vs, H2, I2, r2, q2⟩ => hm pins s2 σ H2 x vs v us Q I2 r1 r2 q2
/- xs.append(e), list.index on a module's tuple .. are MtR facts of 06m -/
end
end L2

namespace L2
open PySem PySem.Spec PyProof.Rows

noncomputable def MtM (X : Cx) (id : String) (r : V → List V → Hp → VK → Prop) : Prop :=
  ∀ (pins : List (Addr × Obj)) (s : Shared) (σ : St) (H : Hp) (x : V) (xs : List V) (v : Value) (us : List Value) (Q : VK), Inv X pins σ H s → RelV x v → Vals xs us → r x xs H Q →
    wpAny (model X.prog X.w) X.A (call (.builtin id) (v :: us)) (EP X pins σ Q) X.xe s

/-! ### lists of values -/
theorem Vals.one : ∀ {x : V} {us : List Value}, Vals [x] us → ∃ u, us = [u] ∧ RelV x u
  | _, _, .cons r .nil => ⟨_, rfl, r⟩
theorem Vals.zero : ∀ {us : List Value}, Vals [] us → us = []
  | _, .nil => rfl
section
variable {X : Cx} {pins : List (Addr × Obj)} {σ : St} {H : Hp} {s : Shared} {l b : Addr} {xs ys zs : List V}

/-! ### the two steps: a tracked list is rewritten, a new list is laid -/
theorem Inv.lset {its its' : List Value} {n : Nat} {f : Array Value → Array Value} {t' : Nat} (I : Inv X pins σ H s) (hH : H l = some (.lst xs))
    (e : s.heap.get? l = some { cls := .type "list", data := .seq its.toArray n }) (hf : f its.toArray = its'.toArray) (hv : Vals ys its') (hz : ys.length ≤ sizeLine) :
    Inv X pins σ (upd H l (.lst ys)) { s with heap := s.heap.update l (Obj.mapSeq f), toks := t' } := by
  have q := PySem.IsL.update e f
  rw [hf] at q
  refine I.write (x := l) (e := l) (by rw [hH]; exact trivial) (.inl rfl) (fun b' u hb hu => (Heap.get?_update_other s.heap (Obj.mapSeq f) (Ne.symm hb)).trans hu) ⟨_, q⟩ ?_
  exact ⟨hz, its', _, hv, q⟩
theorem Inv.lnew {its : List Value} {t' : Nat} (I : Inv X pins σ H s) (hv : Vals ys its) (hz : ys.length ≤ sizeLine) :
    Inv X pins σ (upd H s.heap.objs.size (.lst ys)) { s with heap := s.heap.push { cls := .type "list", data := .seq its.toArray }, toks := t' } :=
  I.laid (fun _ _ q => Heap.get?_push_of_some _ q) (Nat.le_refl _) ⟨hz, its, 0, hv, Heap.get?_push_size _ rfl⟩
theorem Inv.fresh (I : Inv X pins σ H s) : H s.heap.objs.size = none := I.hok.fresh (Nat.le_refl _)
theorem Inv.lstM (I : Inv X pins σ H s) (hH : H l = some (.lst xs)) : xs.length ≤ sizeLine ∧ ∃ (its : List Value) (n : Nat), Vals xs its ∧ xs.length = its.length ∧ s.heap.get? l = some { cls := .type "list", data := .seq its.toArray n } := by
  obtain ⟨z, its, n, r, e⟩ := I.hok l _ hH
  exact ⟨z, its, n, r, r.length, e⟩

theorem notLongL {n : Nat} (h : n ≤ sizeLine) : Builtin.List.listTooLong n = false := by
  unfold Builtin.List.listTooLong
  exact decide_eq_false (by omega)
end

section
variable {X : Cx}

/-! ### methods -/
noncomputable def rAppend : V → List V → Hp → VK → Prop := fun x vs H Q => ∃ l xs y, x = .ref l ∧ vs = [y] ∧ H l = some (.lst xs) ∧ xs.length < sizeLine ∧ Q .non (upd H l (.lst (xs ++ [y])))
theorem mt_append : MtM X "list.append" rAppend := by
  intro pins s σ H x vs v us Q I rx rv h
  obtain ⟨l, xs, y, rfl, rfl, hH, hz, q⟩ := h
  cases rx
  obtain ⟨u, rfl, ru⟩ := rv.one
  obtain ⟨z, its, n, r, hl, e⟩ := I.lstM hH
  refine call_meets F.slot_list_append ⟨_, e, rfl⟩ F.entry_list_append (F.args_list_append_2 _ _) (PySem.list_append l its.toArray n u (by rw [List.size_toArray]; omega)) ⟨e, ?_⟩
  refine ⟨.non, _, I.lset (its' := its ++ [u]) hH e (by simp) (r.append (.cons ru .nil)) ?_, rfl, q⟩
  rw [List.length_append, List.length_singleton]
  omega

noncomputable def rClear : V → List V → Hp → VK → Prop := fun x vs H Q => ∃ l xs, x = .ref l ∧ vs = [] ∧ H l = some (.lst xs) ∧ Q .non (upd H l (.lst []))
theorem mt_clear : MtM X "list.clear" rClear := by
  intro pins s σ H x vs v us Q I rx rv h
  obtain ⟨l, xs, rfl, rfl, hH, q⟩ := h
  cases rx
  have hus := rv.zero
  subst hus
  obtain ⟨z, its, n, r, hl, e⟩ := I.lstM hH
  refine call_meets F.slot_list_clear ⟨_, e, rfl⟩ F.entry_list_clear (F.args_list_clear_1 _) (AutoSeq1.list_clear_list_0 l its.toArray n (by rw [List.size_toArray]; omega)) ⟨e, ?_⟩
  exact ⟨.non, _, I.lset (its' := []) (ys := []) hH e rfl .nil (Nat.zero_le _), rfl, q⟩

/-! ### list + list, list += list, list * int -/
/-! ### del xs[i] -/
end

/-! ### xs[a:b] = ys -/
section
variable {prog : Program} {w : World} {A : Around} {E : Value → Shared → Prop} {s : Shared}
end

section
variable {X : Cx}
end
end L2

namespace Att
open PySem PySem.W PySem.Calls PyProof.Rows

/-! ### the script -/
theorem ints_of_wellAll {P : Params} {h : Heap} : ∀ (ns : List Int) (vs : List Value), WellAll P h vs (ns.map WData.int) → IntsAre vs ns := by
  intro ns
  induction ns with
  | nil =>
    intro vs w
    rw [List.map_nil] at w
    cases w
    exact .nil
  | cons n ns ih =>
    intro vs w
    rw [List.map_cons] at w
    cases w with
    | cons a b =>
      cases a
      exact .cons _ _ (ih _ b)

theorem script_of {l : OpenLaw} {n : Nat} (hn : l.most = some n) {P : Params} {h : Heap} {args : List WData} {vals : List Value}
    (hpre : l.row.toRowW.claim.pre args = true) (hwl : WellAll P h vals args) :
    ∃ a vs ns, vals = [Value.ref a] ∧ args = [WData.list (ns.map WData.int)] ∧ h.get? a = some { cls := .type "list", data := .seq vs.toArray } ∧ IntsAre vs ns ∧ ns.length ≤ n := by
  have hsh : WShape.hasAll [] args [.list .int] = true := (pre_splitW hpre).1
  have hc : l.pre.holds [] { args := args } = true := (pre_splitW hpre).2
  obtain ⟨d, r, rfl, h1, h2⟩ := hasAllW_cons hsh
  obtain rfl := hasAllW_nil h2
  obtain ⟨xs, rfl, h3⟩ := hasW_list h1
  obtain ⟨ns, rfl⟩ := items_int h3
  have hlen : ns.length ≤ n := by
    unfold OpenLaw.pre at hc
    have h4 : (WTm.not (.lt (.lit (.int (n : Int))) (.len (.arg 0)))).holds [] { args := [.list (ns.map .int)] } = true := by
      have h4 := (holds_andW hc).1
      rw [hn] at h4
      exact h4
    have h5 := condW_of h4 (w_not (w_lt w_lit (w_len_list (w_arg rfl))))
    rw [List.length_map] at h5
    refine Nat.le_of_not_lt fun q => ?_
    have q' : (n : Int) < ((ns.length : Nat) : Int) := by omega
    first
      | (rw [decide_eq_true q'] at h5; exact absurd h5 (by decide))
      | (simp at h5; omega)
  cases hwl with
  | cons w1 w2 =>
    cases w2
    cases w1 with
    | list ho hall => exact ⟨_, _, ns, rfl, rfl, ho, ints_of_wellAll ns _ hall, hlen⟩

theorem post_true (l : OpenLaw) (args : List WData) : l.row.toRowW.claim.post args (.bool true) args = true :=
  postW_of (r := l.row.toRowW) (X := (true == true))
    (show WShape.has [] (.bool true) .bool = true by first | rfl | decide | simp [WShape.has, WShape.arms, WShape.armsAll])
    (show (WTm.eq .res (.lit (.bool true))).value [] { args := args, res := some (.bool true), after := args } = some (.bool (true == true)) from w_eq_bool (w_res rfl) w_lit) rfl

/-! ### the attachment: holds_open's last premise (the goal 'hc' behind k_head) from a wpAny of the law's body -/
/-- the same from a codeAny of the CALL (for a layer whose function contracts speak of calls) -/
theorem attach_call {l : OpenLaw} {n : Nat} {q : Program} {loose : List Str} {XP : (Str → Option Value) → Heap → Prop} {YP : World → Heap → Prop} {d : DefRec}
    (hn : l.most = some n) (hdf : d.params.defaults = [])
    (call : ∀ (w : World) (s₀ s₁ : Shared) (mg mb : Str → Option Value) (fa : Addr) (o : Obj) (pm cd doc : Value) (a : Addr) (vs : List Value) (ns : List Int),
      Ground q loose [] XP w s₀ mg mb s₁.heap → YP w s₁.heap →
      s₁.heap.get? fa = some o → o.data = .func (docDef d.name d.params d.body d.scope pm cd doc) → s₁.heap.CodeRec cd d.name → mg d.name = some (.ref fa) →
      s₁.heap.get? a = some { cls := .type "list", data := .seq vs.toArray } → IntsAre vs ns → ns.length ≤ n → s₁.gens = #[] →
      codeAny (model l.prog w) callerA (.call (.ref fa) ⟨[.ref a], []⟩) (fun r s' => r = .ok (.ret (.bool true)) ∧ OldK s₁.heap s'.heap ∧ s'.os = s₁.os ∧ AllBare s'.gens) s₁) :
    WalkO q loose XP YP l.row.toRowW d [] (fun f vs => PySem.call f vs) := by
  intro w s₀ s₁ mg mb G Y fa o pm cd doc dV kV ho hd hcd hD hmg hg args vals as hpre hlay hrd hwl hlo
  obtain rfl : dV = .none := Dflts.none hD hdf
  obtain rfl : kV = .none := Dflts.noKw hD
  obtain ⟨a, vs, ns, rfl, rfl, hobj, hints, hlen⟩ := script_of hn hpre hwl
  refine enter_call (codeAny_mono (call w s₀ s₁ mg mb fa o pm cd doc a vs ns G Y ho (fd_plain hd) hcd hmg hobj hints hlen hg) fun r s' hq => ?_)
  obtain ⟨rfl, h2, h3, h4⟩ := hq
  exact ⟨.inl ⟨.bool true, .bool true, [], rfl, fun _ => rfl, .bool true, post_true l _, fun _ => ⟨List.Pairwise.nil, fun _ hm => (nomatch hm)⟩⟩, h2, h3, h4⟩

/-! ### rules over ANY heap (no ledger) from facts about the written part K: the library's own take a ledger (News) for what they write -/
section
variable {prog : Program} {w : World} {A : Around} {E : Value → Shared → Prop} {s : Shared} {K : Frag}

/-! the whole heap as the ledger: makes every rule that writes through a ledger a rule over any heap -/
noncomputable def ledger (h : Heap) (L d : Addr) : List (Addr × Obj) := (List.range h.objs.size).filterMap fun a => if a = L ∨ a = d then none else (h.get? a).map fun o => (a, o)
end
end Att

namespace L2
open PySem PySem.Spec PyProof.Rows

theorem vals_ints : ∀ {vs : List Value} {ns : List Int}, IntsAre vs ns → Vals (ns.map V.int) vs
  | _, _, .nil => .nil
  | _, _, .cons n t h => .cons ⟨t, rfl⟩ (vals_ints h)

/-- nothing is tracked but the script, known to the object (or it is an object of the module) -/
noncomputable def Only (H : Hp) : Prop := ∀ b, H b = none ∨ ∃ o xs, H b = some (.frz o (.lst xs))

/-- THE HEAD: the law's promise, at the heap behind the top. F, the promise of the law's def, may use that base is part of the heap (so K.In base, base.Ns mainGlobals mg stand in Mod) -/
theorem law_call {P : Program} {w : World} {K : PySem.W.Frag} {mg mb : Str → Option Value} {CX : CXT} {k : Nat} {fa a : Addr} {fd : FuncData} {x : Str} {sp : Sp} {s₁ : Shared} {vs : List Value} {ns : List Int}
    (KX : K.In s₁.heap) (hns : s₁.heap.Ns mainGlobals mg) (hb : s₁.heap.Ns builtinsNs mb) (hbb : ∀ x : Str, x ≠ "__name__" → mb x = bootBuiltins x) (hlim : s₁.heap.NoLimit) (hg : s₁.gens = #[])
    (ha : s₁.heap.get? a = some { cls := .type "list", data := .seq vs.toArray }) (hi : IntsAre vs ns) (hl : ns.length ≤ sizeLine) (hr : Room k callerA)
    (F : ∀ base : Heap, K.In base → base.Ns mainGlobals mg → FnOk P w K mg base CX k fa fd [x] sp) (hbind : ∀ (s : Shared) (u : Value), BindsTo s fd ⟨[u], []⟩ [(x, u)])
    (hsp : ∀ H : Hp, Only H → SqL K H a (ns.map V.int) → sp [.ref a] H (fun v _ => v = .bl true) fun _ _ _ => False)
    (hCX : ∀ H e s', CX [] H s₁ (fun _ _ _ => False) e s' → False) :
    codeAny (model P w) callerA (.call (.ref fa) ⟨[.ref a], []⟩) (fun r s' => r = .ok (.ret (.bool true)) ∧ OldK s₁.heap s'.heap ∧ s'.os = s₁.os ∧ AllBare s'.gens) s₁ := by
  have rv := vals_ints hi
  have lenV := hi.length
  -- from an abstract heap in which nothing but the script may be tracked
  have core : ∀ H : Hp, Only H → SqL K H a (ns.map V.int) → HOk P w H s₁.heap → (∀ b, H b ≠ none → b = a) → (H a ≠ none → K.lookup a = none) →
      codeAny (model P w) callerA (.call (.ref fa) ⟨[.ref a], []⟩) (fun r s' => r = .ok (.ret (.bool true)) ∧ OldK s₁.heap s'.heap ∧ s'.os = s₁.os ∧ AllBare s'.gens) s₁ := by
    intro H hO hS hok hA hK
    have base_of : ∀ {b : Addr} {o : Obj}, s₁.heap.get? b = some o → H b = none → (hidT s₁.heap H).get? b = some o := fun e n => hidT_get e n
    have noA : ∀ {b : Addr} {o : Obj} {es : Array DictEntry} {ep : Nat}, s₁.heap.get? b = some o → o.data = .dict es ep → H b = none := fun {b o es ep} e d => by
      cases q : H b with
      | none => rfl
      | some u =>
        have e' : b = a := hA b (by rw [q]; simp)
        subst e'
        rw [ha] at e; cases e
        have d' : Data.seq vs.toArray _ = Data.dict es ep := d
        cases d'
    have nsK : ∀ {b : Addr} {m : Str → Option Value}, s₁.heap.Ns b m → (hidT s₁.heap H).Ns b m := fun {b m} ⟨o, es, ep, e, d, r⟩ => ⟨o, es, ep, base_of e (noA e d), d, r⟩
    have hKb : K.In (hidT s₁.heap H) := fun b o e => base_of (KX b o e) (by
      cases q : H b with
      | none => rfl
      | some u =>
        have e' : b = a := hA b (by rw [q]; simp)
        subst e'
        rw [hK (by rw [q]; simp)] at e; cases e)
    have hM : Mod K mg (hidT s₁.heap H) := ⟨hKb, nsK hns, ⟨mb, nsK hb, hbb⟩, let ⟨mc, h1, h2⟩ := hlim; ⟨mc, nsK h1, h2⟩⟩
    have e0 : Env0 P w K mg (hidT s₁.heap H) callerA [] s₁ H := ⟨rfl, hM, fun b o e => of_hidT e, Nat.le_of_eq (hidT_size _ _), trivial, fun b hb => absurd (show b ∈ ([] : List Addr) from hb) (by simp), hok, .of_eq hg⟩
    refine codeAny_mono ((F _ hKb (nsK hns)).run callerA [] s₁ H ⟨[.ref a], []⟩ [.ref a] [.ref a] _ _ hr e0 (hbind s₁ (.ref a)) (.cons rfl .nil) (hsp H hO hS)) fun r s' h => ?_
    cases r with
    | error e => exact (hCX H e s' h).elim
    | ok fl =>
      cases fl with
      | next => exact False.elim h
      | brk => exact False.elim h
      | cont => exact False.elim h
      | ret u =>
        obtain ⟨v, H', os, bare, un, hok', r', q⟩ := h
        have q' : v = .bl true := q
        subst q'
        obtain rfl : u = Value.bool true := r'
        refine ⟨rfl, OldK.of_keep fun b o e => ?_, os, bare⟩
        cases q : H b with
        | none => exact un.keep b o e q (by intro z; exact absurd (show b ∈ ([] : List Addr) from z) (by simp)) (by simp)
        | some u =>
          rcases hO b with z | ⟨ob, xs, z⟩
          · rw [q] at z; cases z
          · have z2 := un.frzs b ob _ z
            obtain ⟨e1, _⟩ := hok b _ z
            obtain ⟨e2, _⟩ := hok' b _ z2
            rw [e] at e1; cases e1
            exact e2
  cases hk : K.lookup a with
  | some o =>
    -- the script is one of the module's own objects
    have e := KX a o hk
    rw [ha] at e
    cases e
    refine core (fun _ => none) (fun _ => .inl rfl) (.inr ⟨_, vs.toArray, _, hk, rfl, rfl, rfl, by rw [List.size_toArray, lenV]; exact hl, by simpa using rv⟩) (fun b u z => by have z' : (none : Option HO) = some u := z; cases z') (fun b z => absurd rfl z) fun z => absurd rfl z
  | none =>
    refine core (fun b => if b = a then some (.frz { cls := .type "list", data := .seq vs.toArray } (.lst (ns.map V.int))) else none) (fun b => ?_) (.inl (.inr ⟨{ cls := .type "list", data := .seq vs.toArray }, if_pos rfl⟩)) (fun b u z => ?_) (fun b z => ?_) fun _ => hk
    · by_cases hb : b = a
      · exact .inr ⟨_, _, if_pos hb⟩
      · exact .inl (if_neg hb)
    · by_cases hb : b = a
      · have z' := (if_pos hb).symm.trans z
        cases z'
        subst hb
        exact ⟨ha, by rw [List.length_map]; exact hl, vs, _, rv, ha⟩
      · have z' := (if_neg hb).symm.trans z
        cases z'
    · by_cases hb : b = a
      · exact hb
      · exact absurd (if_neg hb) z
end L2

namespace L2
open PySem PySem.Spec PyProof.Rows

noncomputable abbrev KOf {K : PySem.W.Frag} {h : Heap} (_ : K.In h) : PySem.W.Frag := K

/-- the goal that k_head leaves (case hc), from the law's promise. F gives the function object fd (K's own) once, then the promise over every base -/
theorem walk_of {l : PySem.W.OpenLaw} {n k : Nat} {q : Program} {loose : List Str} {XP : (Str → Option Value) → Heap → Prop} {YP : World → Heap → Prop} {d : DefRec} {K : Params → PySem.W.Frag} {CX : World → CXT} {sp : World → Sp} {x : Str}
    (hn : l.most = some n) (hn2 : n ≤ sizeLine) (hdf : d.params.defaults = []) (hr : Room k callerA)
    (hY : ∀ (w : World) (h : Heap), YP w h → (K w.params).In h)
    (F : ∀ (w : World) (mg : Str → Option Value) (fa : Addr) (h : Heap), (K w.params).In h → h.Ns mainGlobals mg → mg d.name = some (.ref fa) →
      ∃ fd : FuncData, (∀ (s : Shared) (u : Value), BindsTo s fd ⟨[u], []⟩ [(x, u)]) ∧
        ∀ base : Heap, (K w.params).In base → base.Ns mainGlobals mg → FnOk l.prog w (K w.params) mg base (CX w) k fa fd [x] (sp w))
    (hsp : ∀ (w : World) (H : Hp) (a : Addr) (ns : List Int), ns.length ≤ n → Only H → SqL (K w.params) H a (ns.map V.int) → sp w [.ref a] H (fun v _ => v = .bl true) fun _ _ _ => False)
    (hCX : ∀ (w : World) (H : Hp) (s : Shared) (e : Value) (s' : Shared), CX w [] H s (fun _ _ _ => False) e s' → False) :
    PySem.W.WalkO q loose XP YP l.row.toRowW d [] (fun f vs => PySem.call f vs) := by
  refine Att.attach_call hn hdf fun w s₀ s₁ mg mb fa o pm cd doc a vs ns G Y ho hd hcd hmg hobj hints hlen hg => ?_
  have KX := hY w _ Y
  obtain ⟨fd, hb, hF⟩ := F w mg fa _ KX G.T.g hmg
  exact law_call KX G.T.g G.T.b G.T.builtins G.T.nolimit hg hobj hints (Nat.le_trans hlen hn2) hr hF hb (fun H hO hS => hsp w H a ns hlen hO hS) fun H e s' => hCX w H s₁ e s'
end L2

/- THE LAST THEOREM (shape; LID, My.* are yours):
   My.Adr: a structure of the addresses that your layer names (classes, functions); My.Txt K t: a structure (Prop) of the equations over K;
   My.txt_mk : {K} {implicit addresses ..} (e1 : nsIn K mainGlobals "law" = some (some (.ref f))) (e2 : K.lookup f = some ⟨oc, od, .func (fnOf "law" "law" params body scope dV kV doc pm an cdv ct), sl⟩) (e3 : codeIn K cdv "law" = true) .. : ∃ t, My.Txt K t

set_option maxRecDepth 100000 in
set_option maxHeartbeats 0 in
theorem PySem.Challenge.cw_LID_holds : PySem.Challenge.rw_LID.Holds := by
  w_on; o_law; k_head; (case hw => w_witness2)
  k_fill
  refine L2.walk_of (l := PySem.Challenge.rw_LID) (n := 63) (k := 40) (x := "script") (CX := fun w => ..) (sp := fun _ => My.sp_law) rfl (by decide) rfl ⟨rfl, by decide, by decide⟩ (fun w h Y => PySem.W.kIn_of Y) ?F ?S ?C
  case F =>
    intro w mg fa h KX G hmg
    have T : ∃ t, My.Txt (L2.KOf KX) t := by
      dsimp only [L2.KOf]                          -- K must stand as «<heap const> w.params» for k_is
      refine' My.txt_mk ?e1 ?e2 ?e3 ..
      (case e1 => PySem.W.k_is)                    -- in the order: a name -> its address -> its object -> its parts
      (case e2 => PySem.W.k_is)
      ..
    obtain ⟨t, T⟩ := T
    have e0 := hmg.symm.trans (PySem.W.mg_of KX G T.law)
    cases e0                                       -- fa is the law's own address
    exact ⟨_, fun s u => .of_eq rfl, fun base kb nb => My.law_fn T kb nb⟩     -- if «.of_eq rfl» comes too early: refine' ⟨_, ?b, fun base kb nb => My.law_fn T kb nb⟩; exact fun s u => .of_eq rfl
  case S => exact fun w H a ns hl hO hS => ..
  case C => exact ..
(the tactic k_is has no namespace: write k_is) -/

/-! SHORT WORDS over the layer: a def of the text, its body, what a loop and a test want. -/
namespace L2
open PySem PySem.Spec PyProof.Rows

/-! ### the text by places -/
/-- the j-th statement of a class's body -/
noncomputable def inClass (s : Stmt) (j : Nat) : Stmt := match s with
  | .ClassDef _ _ _ body _ _ _ _ _ _ _ => body.getD j (.Pass ⟨0, 0, 0, 0⟩)
  | _ => .Pass ⟨0, 0, 0, 0⟩
noncomputable def defArgs (s : Stmt) : Arguments := match s with
  | .FunctionDef _ a _ _ _ _ _ _ _ _ => a
  | _ => { posonlyargs := [], args := [], vararg := none, kwonlyargs := [], kw_defaults := [], kwarg := none, defaults := [] }
noncomputable def defBody (s : Stmt) : List Stmt := match s with
  | .FunctionDef _ _ b _ _ _ _ _ _ _ => b
  | _ => []
noncomputable def defScope (s : Stmt) : Scope := match s with
  | .FunctionDef _ _ _ _ _ _ sc _ _ _ => sc
  | _ => { kind := .function, names := [], isGenerator := false, isCoroutine := false }

/-! ### no exception leaves a def -/
noncomputable abbrev CX0 : CXT := fun _ _ _ _ _ _ => False
noncomputable abbrev E0 : XK := fun _ _ _ => False
theorem pass0 {X : Cx} : Passes CX0 X E0 := fun _ _ _ _ _ _ _ h => h.elim

/-! ### a def (or method) of the text as it stands behind the top -/
structure Fun (K : PySem.W.Frag) (x qual : Str) (st : Stmt) (f : Addr) (fd : FuncData) : Prop where
  ex : ∃ (oc : Value) (od : Option Addr) (kV doc pm : Value) (an : Option Addr) (cdv ct : Value) (osl : Array (Option Value)),
    fd = PySem.W.fnOf x qual (defArgs st) (defBody st) (defScope st) .none kV doc pm an cdv ct ∧ K.lookup f = some ⟨oc, od, .func fd, osl⟩ ∧ PySem.W.codeIn K cdv qual = true
  kp : PySem.W.keepIn K (.ref f) = true
section
variable {P : Program} {w : World} {K : PySem.W.Frag} {mg : Str → Option Value} {base : Heap}
end
/-! ### expressions in short: the name that stands in the i-th slot -/
section
variable {X : Cx}
end

/-! ### tests -/
/-! ### heaps -/
end L2

set_option linter.all false
/-! Plain data, a store of lists, a small language over slots, and what it means. -/
namespace IT
open PySem

inductive D where
  | non
  | bl (b : Bool)
  | int (i : Int)
  | str (x : List Nat)
  | tup (xs : List D)
  | lst (xs : List D)

mutual
noncomputable def D.eqb : D → D → Bool
  | .non, y => match y with | .non => true | _ => false
  | .bl a, y => match y with | .bl b => a == b | .int b => (if a then 1 else 0) == b | _ => false
  | .int a, y => match y with | .int b => a == b | .bl b => a == (if b then 1 else 0) | _ => false
  | .str a, y => match y with | .str b => a == b | _ => false
  | .tup a, y => match y with | .tup b => D.eqbs a b | _ => false
  | .lst a, y => match y with | .lst b => D.eqbs a b | _ => false
noncomputable def D.eqbs : List D → List D → Bool
  | [], ys => match ys with | [] => true | _ => false
  | a :: r, ys => match ys with | b :: t => D.eqb a b && D.eqbs r t | _ => false
end

mutual
noncomputable def D.dep : D → Nat
  | .tup xs => D.deps xs + 1
  | .lst xs => D.deps xs + 1
  | .non | .bl _ | .int _ | .str _ => 0
noncomputable def D.deps : List D → Nat
  | [] => 0
  | x :: xs => max (D.dep x) (D.deps xs)
end
/-- not too deep to be compared -/
noncomputable def cmpOk (a b : D) : Bool := decide (min a.dep b.dep ≤ 60)

/-- a value at hand: data, or a place of the store -/
inductive R where
  | d (x : D)
  | loc (l : Nat)

/-- a list that may be written; one that is only read from now on; an instance: its class, its attributes; a list of instances, never written -/
inductive Ob where
  | lst (xs : List D)
  | fro (xs : List D)
  | ins (c : Str) (fs : List (Str × R))
  | ols (ls : List Nat)
noncomputable def Ob.items : Ob → List D
  | .lst xs => xs
  | .fro xs => xs
  | .ins _ _ => []
  | .ols _ => []
/-- a list of data -/
noncomputable def Ob.isL : Ob → Bool
  | .lst _ => true
  | .fro _ => true
  | _ => false
/-- what a walk gives: a value, or a number and a value -/
inductive Ite where
  | r (x : R)
  | en (i : Int) (x : R)
/-- data that is walked -/
noncomputable abbrev dI (x : D) : Ite := .r (.d x)
noncomputable abbrev Sto := List Ob
noncomputable abbrev M (α : Type) := Sto → Option (α × Sto)
noncomputable def ok {α : Type} (a : α) : M α := fun h => some (a, h)
noncomputable def bnd {α β : Type} (x : M α) (f : α → M β) : M β := fun h => match x h with
  | some (a, h1) => f a h1
  | none => none

theorem noSome {α : Type} {z : α} {P : Prop} (e : none = some z) : P := by cases e
/-- read as data -/
noncomputable def rd : R → M D
  | .d x => ok x
  | .loc l => fun h => match h[l]? with
    | some o => if o.isL then some (.lst o.items, h) else none
    | none => none
/-- put into other data: a list is only read from then on -/
noncomputable def fz : R → M D
  | .d x => ok x
  | .loc l => fun h => match h[l]? with
    | some o => if o.isL then some (.lst o.items, h.set l (.fro o.items)) else none
    | none => none

inductive Bo where
  | add | mul | fdiv | mod | pow | band
inductive Co where
  | eq | ne | lt | gt | ge | isin | isN | isnotN
inductive Bi where
  | len | tuple | int | all | any | min
inductive Me where
  | append | pop | clear | extend
inductive Ty where
  | int | str | bool | list | tuple
inductive Tm where
  | starts | parti | join
/-- methods of lists that only read -/
inductive Lm where
  | count | index
inductive Tg where
  | name (i : Nat)
  | tup (ts : List Tg)

set_option genInjectivity false
mutual
inductive E where
  | con (d : D)
  | var (i : Nat)
  | bin (o : Bo) (a b : E)
  | neg (a : E)
  | cmp (o : Co) (a b : E)
  | and (a b : E)
  | or (a b : E)
  | not (a : E)
  | ife (c : T) (a b : E)
  | tup (es : List E)
  | lst (m : Bool) (l : L)
  | idx (a i : E)
  | sli (a lo hi : E)
  | call (f : Nat) (es : List E)
  | bi (b : Bi) (es : List E)
  | me (m : Me) (o : E) (es : List E)
  | glo (d : D)
  | isi (t : Ty) (e : E)
  | fld (o : E) (f : Str)
  | make (c : Str) (f : Nat) (es : List E)
  | mc (c m : Str) (f : Nat) (o : E) (es : List E)
  | lstO (tg : Tg) (it : I) (c : List T) (el : E)
  | oix (a i : E)
  | olen (a : E)
  | stuck
inductive T where
  | val (e : E)
  | and (a b : T)
  | or (a b : T)
  | not (a : T)
inductive L where
  | disp (es : List E)
  | comp (tg : Tg) (it : I) (c : List T) (el : E)
inductive I where
  | seq (e : E)
  | rng (e : E)
  | enu (e : E)
end

set_option genInjectivity true
/-! ### operations on data -/
noncomputable def big : Nat := 16777216
noncomputable def fit (n : Nat) : Bool := decide (n ≤ big)
noncomputable def lim64 (i : Int) : Bool := decide (-(2 ^ 64) < i) && decide (i < 2 ^ 64)
noncomputable def wide : Int := 1000000000000000000000000000000000000000000000000000000000000
noncomputable def bop : Bo → D → D → Option D
  | .add, .int a, .int b => some (.int (a + b))
  | .mul, .int a, .int b => if lim64 a || lim64 b then some (.int (a * b)) else none
  | .fdiv, .int a, .int b => if decide (0 < b) && decide (b < wide) then some (.int (a / b)) else none
  | .mod, .int a, .int b => if decide (0 < b) then some (.int (a % b)) else none
  | .add, .str a, .str b => if fit (a.length + b.length) then some (.str (a ++ b)) else none
  | .pow, .int a, .int b => if decide (0 ≤ b) && decide (b ≤ 1000000) && decide (a.natAbs < 2 ^ 64) then some (.int (a ^ b.toNat)) else none
  | .band, .int a, .int b => if decide (0 ≤ a) && decide (0 ≤ b) then some (.int (a.toNat &&& b.toNat : Nat)) else none
  | .add, .lst a, .lst b => if fit (a.length + b.length) then some (.lst (a ++ b)) else none
  | .add, .tup a, .tup b => if fit (a.length + b.length) then some (.tup (a ++ b)) else none
  | .mul, .tup a, .int b => if a.isEmpty || decide (b < 0) || decide (2 ^ 24 < b) || !fit (a.length * b.toNat) then none else some (.tup (List.replicate b.toNat a).flatten)
  | _, _, _ => none
/-! texts -/
noncomputable def isNon : D → Bool
  | .non => true
  | _ => false
noncomputable def items : D → Option (List D)
  | .tup xs => some xs
  | .lst xs => some xs
  | _ => none
noncomputable def cop : Co → D → D → Option D
  | .eq, a, b => if cmpOk a b then some (.bl (a.eqb b)) else none
  | .ne, a, b => if cmpOk a b then some (.bl (!a.eqb b)) else none
  | .lt, .int a, .int b => some (.bl (decide (a < b)))
  | .gt, .int a, .int b => some (.bl (decide (b < a)))
  | .ge, .int a, .int b => some (.bl (decide (b ≤ a)))
  | .isin, a, b => match items b with
    | some xs => if decide (a.dep ≤ 60) then some (.bl (xs.any fun y => y.eqb a)) else none
    | none => none
  | .isN, a, .non => some (.bl (isNon a))
  | .isnotN, a, .non => some (.bl (!isNon a))
  | .isN, .bl a, .bl b => some (.bl (a == b))
  | .isnotN, .bl a, .bl b => some (.bl (a != b))
  | _, _, _ => none
/-- the place that an index means -/
noncomputable def ixn (n : Nat) (i : Int) : Option Nat := if 0 ≤ i then (if i < n then some i.toNat else none) else if -(n : Int) ≤ i then some (i + n).toNat else none
noncomputable def at' {α : Type} (xs : List α) (i : Int) : Option α := match ixn xs.length i with
  | some j => xs[j]?
  | none => none
noncomputable def idxD : D → D → Option D
  | .tup xs, .int i => at' xs i
  | .lst xs, .int i => at' xs i
  | .str z, .int i => if fit z.length then (match at' z i with
    | some c => some (.str [c])
    | none => none) else none
  | _, _ => none
noncomputable def sIx (n d : Nat) : Option Int → Nat
  | none => d
  | some v => if v < 0 then (v + (n : Int)).toNat else min v.toNat n
noncomputable def cut {α : Type} (xs : List α) (lo hi : Option Int) : List α := (xs.drop (sIx xs.length 0 lo)).take (sIx xs.length xs.length hi - sIx xs.length 0 lo)
noncomputable def part : D → Option (Option Int)
  | .non => some none
  | .int i => some (some i)
  | _ => none
noncomputable def cutD (x : D) (lo hi : Option Int) : Option D := match x with
  | .tup xs => some (.tup (cut xs lo hi))
  | .lst xs => some (.lst (cut xs lo hi))
  | .str xs => if fit xs.length then some (.str (cut xs lo hi)) else none
  | _ => none
noncomputable def sliD (x l u : D) : Option D := match part l, part u with
  | some lo, some hi => cutD x lo hi
  | _, _ => none
noncomputable def tru : D → Option Bool
  | .non => some false
  | .bl b => some b
  | .int i => some (i != 0)
  | .str x => if fit x.length then some (!x.isEmpty) else none
  | .tup xs => some (!xs.isEmpty)
  | .lst xs => some (!xs.isEmpty)
/-- the truth of each -/
noncomputable def boolsOf : List D → Option (List Bool)
  | [] => some []
  | d :: r => match tru d with
    | some b => match boolsOf r with
      | some s => some (b :: s)
      | none => none
    | none => none
noncomputable def isiD : Ty → D → Bool
  | .int, .int _ => true
  | .int, .bl _ => true
  | .str, .str _ => true
  | .bool, .bl _ => true
  | .list, .lst _ => true
  | .tuple, .tup _ => true
  | _, _ => false
noncomputable def biD : Bi → List D → Option D
  | .len, [.tup xs] => some (.int xs.length)
  | .len, [.lst xs] => some (.int xs.length)
  | .len, [.str xs] => if fit xs.length then some (.int xs.length) else none
  | .tuple, [.lst xs] => some (.tup xs)
  | .tuple, [.tup xs] => some (.tup xs)
  | .int, [.bl b] => some (.int (if b then 1 else 0))
  | .int, [.int i] => some (.int i)
  | .all, [.lst xs] => match boolsOf xs with
    | some bs => some (.bl (bs.all id))
    | none => none
  | .any, [.lst xs] => match boolsOf xs with
    | some bs => some (.bl (bs.any id))
    | none => none
  | .min, [.int i, .int j] => some (.int (if j < i then j else i))
  | _, _ => none
/-! ### targets -/
noncomputable abbrev Env := List (Option R)
mutual
noncomputable def bindT : Tg → R → Env → M Env
  | .name i, r, σ => ok (σ.set i (some r))
  | .tup ts, r, σ => bnd (rd r) fun d => match d with
    | .tup xs => bindTs ts xs σ
    | _ => fun _ => none
noncomputable def bindTs : List Tg → List D → Env → M Env
  | [], xs, σ => match xs with
    | [] => ok σ
    | _ => fun _ => none
  | t :: ts, xs, σ => match xs with
    | x :: xs => bnd (bindT t (.d x) σ) fun σ' => bindTs ts xs σ'
    | _ => fun _ => none
end

/-- what a walk gives is bound -/
noncomputable def bindI : Tg → Ite → Env → M Env
  | tg, .r x, σ => bindT tg x σ
  | .tup [a, b], .en i x, σ => bnd (bindT a (.d (.int i)) σ) fun σ' => bindT b x σ'
  | _, _, _ => fun _ => none

/-! the very same data -/
mutual
noncomputable def D.same : D → D → Bool
  | .non, y => match y with | .non => true | _ => false
  | .bl a, y => match y with | .bl b => a == b | _ => false
  | .int a, y => match y with | .int b => a == b | _ => false
  | .str a, y => match y with | .str b => a == b | _ => false
  | .tup a, y => match y with | .tup b => D.sames a b | _ => false
  | .lst a, y => match y with | .lst b => D.sames a b | _ => false
noncomputable def D.sames : List D → List D → Bool
  | [], ys => match ys with | [] => true | _ => false
  | a :: r, ys => match ys with | b :: t => D.same a b && D.sames r t | _ => false
end
mutual
theorem D.same_eq : ∀ x y : D, D.same x y = true → x = y
  | .non, .non, _ => rfl
  | .bl a, .bl b, h => by simp [D.same] at h; rw [h]
  | .int a, .int b, h => by simp [D.same] at h; rw [h]
  | .str a, .str b, h => by simp [D.same] at h; rw [h]
  | .tup a, .tup b, h => by simp [D.same] at h; rw [D.sames_eq a b h]
  | .lst a, .lst b, h => by simp [D.same] at h; rw [D.sames_eq a b h]
  | .non, .bl _, h | .non, .int _, h | .non, .str _, h | .non, .tup _, h | .non, .lst _, h => by simp [D.same] at h
  | .bl _, .non, h | .bl _, .int _, h | .bl _, .str _, h | .bl _, .tup _, h | .bl _, .lst _, h => by simp [D.same] at h
  | .int _, .non, h | .int _, .bl _, h | .int _, .str _, h | .int _, .tup _, h | .int _, .lst _, h => by simp [D.same] at h
  | .str _, .non, h | .str _, .bl _, h | .str _, .int _, h | .str _, .tup _, h | .str _, .lst _, h => by simp [D.same] at h
  | .tup _, .non, h | .tup _, .bl _, h | .tup _, .int _, h | .tup _, .str _, h | .tup _, .lst _, h => by simp [D.same] at h
  | .lst _, .non, h | .lst _, .bl _, h | .lst _, .int _, h | .lst _, .str _, h | .lst _, .tup _, h => by simp [D.same] at h
theorem D.sames_eq : ∀ x y : List D, D.sames x y = true → x = y
  | [], [], _ => rfl
  | a :: r, b :: t, h => by
    simp [D.sames] at h
    rw [D.same_eq a b h.1, D.sames_eq r t h.2]
  | [], _ :: _, h => by simp [D.sames] at h
  | _ :: _, [], h => by simp [D.sames] at h
end
mutual
theorem D.same_refl : ∀ x : D, D.same x x = true
  | .non => rfl
  | .bl a => by simp [D.same]
  | .int a => by simp [D.same]
  | .str a => by simp [D.same]
  | .tup a => by simp [D.same]; exact D.sames_refl a
  | .lst a => by simp [D.same]; exact D.sames_refl a
theorem D.sames_refl : ∀ x : List D, D.sames x x = true
  | [] => rfl
  | a :: r => by simp [D.sames]; exact ⟨D.same_refl a, D.sames_refl r⟩
end
noncomputable def Ob.same : Ob → Ob → Bool
  | .ols a, o => match o with
    | .ols b => a == b
    | _ => false
  | .ins _ _, _ => false
  | .lst a, o => o.isL && D.sames a o.items
  | .fro a, o => o.isL && D.sames a o.items
/-- the list at l stands as it stood -/
noncomputable def stays (l : Option Nat) (h h' : Sto) : Bool := match l with
  | none => true
  | some l => match h[l]?, h'[l]? with
    | some o, some o' => o.same o'
    | _, _ => false
/-- one turn after another: what is kept of each -/
noncomputable def turns {α : Type} (l : Option Nat) (f : Ite → M (Option α)) : List Ite → M (List α)
  | [] => ok []
  | x :: xs => fun h => match f x h with
    | some (o, h1) => if stays l h h1 then bnd (turns l f xs) (fun ys => ok (match o with | some y => y :: ys | none => ys)) h1 else none
    | none => none

noncomputable def intsD (lo : Int) : Nat → List D
  | 0 => []
  | n + 1 => .int lo :: intsD (lo + 1) n

/-! ### what an expression means -/
noncomputable def opt {α : Type} (o : Option α) : M α := fun h => match o with
  | some a => some (a, h)
  | none => none
noncomputable def alloc (xs : List D) : M R := fun h => some (.loc h.length, h ++ [.lst xs])
/-- a walked thing: its items as they stand at the start, and the place that must stay -/
structure Wk where
  xs : List Ite
  l : Option Nat
noncomputable def wkOf (r : R) (d : D) : M Wk := match items d with
  | some xs => ok ⟨xs.map dI, match r with | .loc l => some l | .d _ => none⟩
  | none => fun _ => none
/-- the places of a list of instances -/
noncomputable def olsOf (r : R) : M (Option (List Nat)) := fun h => match r with
  | .loc l => match h[l]? with
    | some (.ols ls) => some (some ls, h)
    | _ => some (none, h)
  | .d _ => some (none, h)
/-- a walk over a list, or over a list of instances -/
noncomputable def wkAny (r : R) : M Wk := bnd (olsOf r) fun o => match o with
  | some ls => ok ⟨ls.map fun l => .r (.loc l), match r with | .loc l => some l | .d _ => none⟩
  | none => bnd (rd r) fun d => wkOf r d
noncomputable def enuFrom (i : Int) : List Ite → Option (List Ite)
  | [] => some []
  | .r x :: t => match enuFrom (i + 1) t with
    | some l => some (.en i x :: l)
    | none => none
  | .en _ _ :: _ => none
noncomputable def isLs : R → Bool
  | .loc _ => true
  | .d (.lst _) => true
  | _ => false
noncomputable def wkEnu (r : R) : M Wk := if isLs r then bnd (wkAny r) fun w => match enuFrom 0 w.xs with
    | some l => ok ⟨l, w.l⟩
    | none => fun _ => none
  else fun _ => none
noncomputable def rngOf (r : R) : M Wk := match r with
  | .d (.int n) => if decide (-(2 ^ 62) ≤ n) && decide (n ≤ 16777216) then ok ⟨(intsD 0 n.toNat).map dI, none⟩ else fun _ => none
  | _ => fun _ => none
/-! the slots of a target -/
mutual
noncomputable def Tg.slots : Tg → List Nat
  | .name i => [i]
  | .tup ts => Tg.slotss ts
noncomputable def Tg.slotss : List Tg → List Nat
  | [] => []
  | t :: ts => t.slots ++ Tg.slotss ts
end
/-- these slots are empty -/
noncomputable def clr : List Nat → Env → Env
  | [], σ => σ
  | i :: r, σ => clr r (σ.set i none)
noncomputable abbrev Calls := Nat → List R → M R
/-- a list of the store -/
noncomputable def isLst (x : R) : M Unit := fun h => match x with
  | .loc l => match h[l]? with
    | some o => if o.isL then some ((), h) else none
    | none => none
  | .d _ => none
/-! attributes -/
noncomputable def putF (f : Str) (v : R) : List (Str × R) → List (Str × R)
  | [] => [(f, v)]
  | (g, x) :: r => if g = f then (g, v) :: r else (g, x) :: putF f v r
noncomputable def getA (x : R) (f : Str) : M R := fun h => match x with
  | .loc l => match h[l]? with
    | some (.ins _ fs) => match fs.lookup f with
      | some r => some (r, h)
      | none => none
    | _ => none
  | .d _ => none
/-- a new attribute, by the class -/
noncomputable def setN (x : R) (c f : Str) (v : R) : M Unit := fun h => match x with
  | .loc l => match h[l]? with
    | some (.ins c' fs) => if c' = c ∧ fs.length < 900 then some ((), h.set l (.ins c' (putF f v fs))) else none
    | _ => none
  | .d _ => none
/-- an instance of the class, without an attribute of the method's name -/
noncomputable def isA (x : R) (c m : Str) : M Unit := fun h => match x with
  | .loc l => match h[l]? with
    | some (.ins c' fs) => if c' = c ∧ (fs.lookup m).isNone then some ((), h) else none
    | _ => none
  | .d _ => none
/-- a new instance -/
noncomputable def newA (c : Str) : M R := fun h => some (.loc h.length, h ++ [.ins c []])
/-- an instance, by its place -/
noncomputable def placeOf (x : R) : M Nat := fun h => match x with
  | .loc l => match h[l]? with
    | some (.ins _ _) => some (l, h)
    | _ => none
  | .d _ => none
noncomputable def allocO (ls : List Nat) : M R := fun h => some (.loc h.length, h ++ [.ols ls])
noncomputable def meth : Me → R → List R → M R
  | .append, .loc l, [r] => bnd (fz r) fun d h => match h[l]? with
    | some (.lst xs) => if decide (xs.length < big) then some (.d .non, h.set l (.lst (xs ++ [d]))) else none
    | _ => none
  | .pop, .loc l, [] => fun h => match h[l]? with
    | some (.lst xs) => match xs[xs.length - 1]? with
      | some y => some (.d y, h.set l (.lst xs.dropLast))
      | none => none
    | _ => none
  | .clear, .loc l, [] => fun h => match h[l]? with
    | some (.lst xs) => some (.d .non, h.set l (.lst []))
    | _ => none
  | .extend, .loc l, [r] => bnd (rd r) fun d h => match d with
    | .lst ys => match h[l]? with
      | some (.lst xs) => if fit (xs.length + ys.length) then some (.d .non, h.set l (.lst (xs ++ ys))) else none
      | _ => none
    | _ => none
  | _, _, _ => fun _ => none

mutual
noncomputable def ev (Γ : Calls) : E → Env → M R
  | .con d, _ => ok (.d d)
  | .var i, σ => fun h => match σ[i]? with
    | some (some r) => some (r, h)
    | _ => none
  | .bin o a b, σ => bnd (ev Γ a σ) fun x => bnd (ev Γ b σ) fun y => bnd (rd x) fun x => bnd (rd y) fun y => bnd (opt (bop o x y)) fun z => ok (.d z)
  | .neg a, σ => bnd (ev Γ a σ) fun x => match x with
    | .d (.int i) => ok (.d (.int (-i)))
    | _ => fun _ => none
  | .cmp o a b, σ => bnd (ev Γ a σ) fun x => bnd (ev Γ b σ) fun y => bnd (rd x) fun x => bnd (rd y) fun y => bnd (opt (cop o x y)) fun z => ok (.d z)
  | .and a b, σ => bnd (ev Γ a σ) fun x => match x with
    | .d (.bl c) => if c then ev Γ b σ else ok (.d (.bl false))
    | _ => fun _ => none
  | .or a b, σ => bnd (ev Γ a σ) fun x => match x with
    | .d (.bl c) => if c then ok (.d (.bl true)) else ev Γ b σ
    | _ => fun _ => none
  | .not a, σ => bnd (ev Γ a σ) fun x => bnd (rd x) fun d => bnd (opt (tru d)) fun t => ok (.d (.bl (!t)))
  | .ife c a b, σ => bnd (tv Γ c σ) fun t => if t then ev Γ a σ else ev Γ b σ
  | .tup es, σ => bnd (evs Γ es σ) fun rs => bnd (fzs rs) fun ds => ok (.d (.tup ds))
  | .lst m l, σ => bnd (evL Γ l σ) fun xs => if m then alloc xs else ok (.d (.lst xs))
  | .idx a i, σ => bnd (ev Γ a σ) fun x => bnd (ev Γ i σ) fun y => bnd (rd x) fun x => bnd (rd y) fun y => bnd (opt (idxD x y)) fun z => ok (.d z)
  | .sli a lo hi, σ => bnd (ev Γ a σ) fun x => bnd (ev Γ lo σ) fun l => bnd (ev Γ hi σ) fun u => bnd (rd x) fun x => bnd (rd l) fun l => bnd (rd u) fun u => bnd (opt (sliD x l u)) fun z => ok (.d z)
  | .call f es, σ => bnd (evs Γ es σ) fun rs => Γ f rs
  | .bi b es, σ => bnd (evs Γ es σ) fun rs => bnd (rds rs) fun ds => bnd (opt (biD b ds)) fun z => ok (.d z)
  | .me m o es, σ => bnd (ev Γ o σ) fun x => bnd (isLst x) fun _ => bnd (evs Γ es σ) fun rs => meth m x rs
  | .glo d, _ => ok (.d d)
  | .isi t e, σ => bnd (ev Γ e σ) fun r => bnd (rd r) fun d => ok (.d (.bl (isiD t d)))
  | .fld o f, σ => bnd (ev Γ o σ) fun x => getA x f
  | .make c f es, σ => bnd (evs Γ es σ) fun rs => bnd (newA c) fun x => bnd (Γ f (x :: rs)) fun r => match r with
    | .d .non => ok x
    | _ => fun _ => none
  | .mc c m f o es, σ => bnd (ev Γ o σ) fun x => bnd (isA x c m) fun _ => bnd (evs Γ es σ) fun rs => Γ f (x :: rs)
  | .lstO tg it c el, σ => bnd (evI Γ it σ) fun w => bnd (turns w.l (fun x => bnd (bindI tg x (clr tg.slots σ)) fun σ' => bnd (tvs Γ c σ') fun t => if t then bnd (ev Γ el σ') fun r => bnd (placeOf r) fun d => ok (some d) else ok none) w.xs) fun ls => allocO ls
  | .oix a i, σ => bnd (ev Γ a σ) fun x => bnd (ev Γ i σ) fun y => bnd (olsOf x) fun o => match o, y with
    | some ls, .d (.int k) => match at' ls k with
      | some l => ok (.loc l)
      | none => fun _ => none
    | _, _ => fun _ => none
  | .olen a, σ => bnd (ev Γ a σ) fun x => bnd (olsOf x) fun o => match o with
    | some ls => ok (.d (.int ls.length))
    | none => fun _ => none
  | .stuck, _ => fun _ => none
noncomputable def evs (Γ : Calls) : List E → Env → M (List R)
  | [], _ => ok []
  | e :: es, σ => bnd (ev Γ e σ) fun r => bnd (evs Γ es σ) fun rs => ok (r :: rs)
noncomputable def tv (Γ : Calls) : T → Env → M Bool
  | .val e, σ => bnd (ev Γ e σ) fun r => bnd (rd r) fun d => opt (tru d)
  | .and a b, σ => bnd (tv Γ a σ) fun t => if t then tv Γ b σ else ok false
  | .or a b, σ => bnd (tv Γ a σ) fun t => if t then ok true else tv Γ b σ
  | .not a, σ => bnd (tv Γ a σ) fun t => ok (!t)
noncomputable def tvs (Γ : Calls) : List T → Env → M Bool
  | [], _ => ok true
  | c :: cs, σ => bnd (tv Γ c σ) fun t => if t then tvs Γ cs σ else ok false
noncomputable def evL (Γ : Calls) : L → Env → M (List D)
  | .disp es, σ => bnd (evs Γ es σ) fun rs => fzs rs
  | .comp tg it c el, σ => bnd (evI Γ it σ) fun w => turns w.l (fun x => bnd (bindI tg x (clr tg.slots σ)) fun σ' => bnd (tvs Γ c σ') fun t => if t then bnd (ev Γ el σ') fun r => bnd (fz r) fun d => ok (some d) else ok none) w.xs
noncomputable def evI (Γ : Calls) : I → Env → M Wk
  | .seq e, σ => bnd (ev Γ e σ) fun r => wkAny r
  | .rng e, σ => bnd (ev Γ e σ) fun r => rngOf r
  | .enu e, σ => bnd (ev Γ e σ) fun r => wkEnu r
noncomputable def fzs : List R → M (List D)
  | [] => ok []
  | r :: rs => bnd (fz r) fun d => bnd (fzs rs) fun ds => ok (d :: ds)
noncomputable def rds : List R → M (List D)
  | [] => ok []
  | r :: rs => bnd (rd r) fun d => bnd (rds rs) fun ds => ok (d :: ds)
end

/-! ### statements -/
set_option genInjectivity false in
inductive S where
  | asg (tg : Tg) (e : E)
  | setN (c : Str) (o : E) (f : Str) (e : E)
  | exp (e : E)
  | ife (c : T) (a b : List S)
  | for (tg : Tg) (it : I) (body : List S)
  | ret (e : E)
  | brk
  | cnt
  | stuck
inductive Fl where
  | nx | ret (r : R) | brk | cnt
noncomputable def loop (l : Option Nat) (f : Ite → Env → M (Fl × Env)) : List Ite → Env → M (Fl × Env)
  | [], σ => ok (.nx, σ)
  | x :: xs, σ => fun h => match f x σ h with
    | some ((fl, σ1), h1) => match fl with
      | .ret r => some ((.ret r, σ1), h1)
      | .brk => some ((.nx, σ1), h1)
      | _ => if stays l h h1 then loop l f xs σ1 h1 else none
    | none => none
mutual
noncomputable def ex (Γ : Calls) : S → Env → M (Fl × Env)
  | .asg tg e, σ => bnd (ev Γ e σ) fun r => bnd (bindT tg r σ) fun σ' => ok (.nx, σ')
  | .setN c o f e, σ => bnd (ev Γ e σ) fun r => bnd (ev Γ o σ) fun x => bnd (setN x c f r) fun _ => ok (.nx, σ)
  | .exp e, σ => bnd (ev Γ e σ) fun _ => ok (.nx, σ)
  | .ife c a b, σ => bnd (tv Γ c σ) fun t => if t then exs Γ a σ else exs Γ b σ
  | .for tg it body, σ => bnd (evI Γ it σ) fun w => loop w.l (fun x σ => bnd (bindI tg x σ) fun σ' => exs Γ body σ') w.xs σ
  | .ret e, σ => bnd (ev Γ e σ) fun r => ok (.ret r, σ)
  | .brk, σ => ok (.brk, σ)
  | .cnt, σ => ok (.cnt, σ)
  | .stuck, _ => fun _ => none
noncomputable def exs (Γ : Calls) : List S → Env → M (Fl × Env)
  | [], σ => ok (.nx, σ)
  | s :: r, σ => bnd (ex Γ s σ) fun p => match p.1 with
    | .nx => exs Γ r p.2
    | _ => ok p
end
/-- a def: its parameters, its slots, its body; whether a fresh list that it gives back may be written -/
structure F where
  np : Nat
  ns : Nat
  body : List S
  keep : Bool
  dfl : List D
  /-- all that it made stays (a def that makes instances, or writes their attributes) -/
  all : Bool := false
/-- the arguments, with the defaults that fill up -/
noncomputable def fillD (np : Nat) (dfl : List D) (rs : List R) : List R := if rs.length + dfl.length < np then rs else rs ++ (dfl.drop (rs.length + dfl.length - np)).map R.d
noncomputable def R.same : R → R → Bool
  | .d x, y => match y with
    | .d z => D.same x z
    | _ => false
  | .loc l, y => match y with
    | .loc k => l == k
    | _ => false
noncomputable def fsSame : List (Str × R) → List (Str × R) → Bool
  | [], ys => ys.isEmpty
  | (f, x) :: r, ys => match ys with
    | (g, y) :: t => f == g && x.same y && fsSame r t
    | [] => false
/-- the instances stand as they stood -/
noncomputable def objs : Sto → Sto → Bool
  | [], _ => true
  | o :: h, h1 => match h1 with
    | [] => false
    | o1 :: t => (match o, o1 with
      | .ins c fs, .ins c1 fs1 => c == c1 && fsSame fs fs1
      | .ols a, .ols b => a == b
      | .lst _, .lst _ => true
      | .lst _, .fro _ => true
      | .fro _, .lst _ => true
      | .fro _, .fro _ => true
      | _, _ => false) && objs h t
noncomputable def fin0 (n0 : Nat) (keep : Bool) (r : R) (h1 : Sto) : Option (R × Sto) := match r with
  | .d x => some (.d x, h1.take n0)
  | .loc l => if l < n0 then some (.loc l, h1.take n0) else match h1[l]? with
    | some (.lst xs) => if keep then some (.loc n0, h1.take n0 ++ [.lst xs]) else some (.d (.lst xs), h1.take n0)
    | some (.fro xs) => some (.d (.lst xs), h1.take n0)
    | _ => none
noncomputable def fin (h : Sto) (all keep : Bool) (r : R) (h1 : Sto) : Option (R × Sto) := if all then some (r, h1) else if objs h h1 then fin0 h.length keep r h1 else none
noncomputable def callF (P : List F) : Nat → Calls
  | 0, _, _ => fun _ => none
  | n + 1, f, rs => fun h => match P[f]? with
    | some F => if (fillD F.np F.dfl rs).length = F.np then match exs (callF P n) F.body ((fillD F.np F.dfl rs).map some ++ List.replicate (F.ns - F.np) none) h with
        | some ((.ret r, _), h1) => fin h F.all F.keep r h1
        | some ((.nx, _), h1) => fin h F.all F.keep (.d .non) h1
        | _ => none
      else none
    | none => none
theorem callF_succ (P : List F) (n f : Nat) (rs : List R) (h : Sto) : callF P (n + 1) f rs h = match P[f]? with
    | some F => if (fillD F.np F.dfl rs).length = F.np then match exs (callF P n) F.body ((fillD F.np F.dfl rs).map some ++ List.replicate (F.ns - F.np) none) h with
        | some ((.ret r, _), h1) => fin h F.all F.keep r h1
        | some ((.nx, _), h1) => fin h F.all F.keep (.d .non) h1
        | _ => none
      else none
    | none => none := rfl
end IT

set_option linter.all false
/-! What a run of the small language comes to: a calculus of wishes. -/
namespace IT
inductive Ok {α : Type} (m : Option (α × Sto)) (Q : α → Sto → Prop) : Prop where
  | mk (a : α) (h' : Sto) (e : m = some (a, h')) (q : Q a h')
section
variable {α β : Type} {Q : α → Sto → Prop} {R : β → Sto → Prop} {h : Sto}
theorem Ok.mono {m : Option (α × Sto)} {Q' : α → Sto → Prop} (k : Ok m Q) (i : ∀ a h, Q a h → Q' a h) : Ok m Q' := by
  obtain ⟨a, h', e, q⟩ := k
  exact ⟨a, h', e, i a h' q⟩
@[simp] theorem ok_bnd {x : M α} {f : α → M β} : Ok (bnd x f h) R ↔ Ok (x h) fun a h1 => Ok (f a h1) R := by
  unfold bnd
  constructor
  · rintro ⟨b, h', e, q⟩
    cases ex : x h with
    | none => rw [ex] at e; cases e
    | some p => rw [ex] at e; exact ⟨p.1, p.2, rfl, b, h', e, q⟩
  · rintro ⟨a, h1, e, b, h', e', q⟩
    rw [e]
    exact ⟨b, h', e', q⟩
@[simp] theorem ok_some' {a : α} : Ok (some (a, h)) Q ↔ Q a h := by
  constructor
  · rintro ⟨b, h', e, q⟩; cases e; exact q
  · intro q; exact ⟨a, h, rfl, q⟩
@[simp] theorem ok_ok {a : α} : Ok (ok a h) Q ↔ Q a h := ok_some'
@[simp] theorem ok_none : Ok (none : Option (α × Sto)) Q ↔ False := by
  constructor
  · rintro ⟨b, h', e, q⟩; cases e
  · intro z; exact z.elim
@[simp] theorem ok_opt {o : Option α} : Ok (opt o h) Q ↔ ∃ a, o = some a ∧ Q a h := by
  unfold opt
  cases o with
  | none => simp
  | some a => simp
@[simp] theorem ok_rd_d {x : D} {Q : D → Sto → Prop} : Ok (rd (.d x) h) Q ↔ Q x h := ok_some'
@[simp] theorem ok_fz_d {x : D} {Q : D → Sto → Prop} : Ok (fz (.d x) h) Q ↔ Q x h := ok_some'
end
/-- a loop by its invariant, over what a walk gives -/
theorem loop_wpI {l : Option Nat} {f : Ite → Env → M (Fl × Env)} {xs : List Ite} {Q : Fl × Env → Sto → Prop} (I : Nat → Env → Sto → Prop)
    (step : ∀ i x σ h, xs[i]? = some x → I i σ h → Ok (f x σ h) fun p h1 => match p.1 with
      | .ret r => Q (.ret r, p.2) h1
      | .brk => Q (.nx, p.2) h1
      | _ => stays l h h1 = true ∧ I (i + 1) p.2 h1)
    (fin : ∀ σ h, I xs.length σ h → Q (.nx, σ) h) {σ : Env} {h : Sto} (h0 : I 0 σ h) : Ok (loop l f xs σ h) Q := by
  have gen : ∀ (ys : List Ite) (i : Nat) (σ : Env) (h : Sto), xs.drop i = ys → i ≤ xs.length → I i σ h → Ok (loop l f ys σ h) Q := by
    intro ys
    induction ys with
    | nil =>
      intro i σ h e hi hI
      have : i = xs.length := by
        have := congrArg List.length e
        simp at this
        omega
      subst this
      exact ⟨_, _, rfl, fin σ h hI⟩
    | cons y ys ih =>
      intro i σ h e hi hI
      have hil : i < xs.length := by
        have := congrArg List.length e
        simp at this
        omega
      have hy : xs[i]? = some y := by
        have := congrArg (fun z => z[0]?) e
        simpa using this
      have hd : xs.drop (i + 1) = ys := by
        have := congrArg List.tail e
        simpa using this
      obtain ⟨⟨fl, σ1⟩, h1, ef, q⟩ := step i y σ h hy hI
      simp only [loop, ef]
      cases fl with
      | ret r => exact ⟨_, _, rfl, q⟩
      | brk => exact ⟨_, _, rfl, q⟩
      | nx => simp only at q ⊢; rw [if_pos q.1]; exact ih (i + 1) σ1 h1 hd (by omega) q.2
      | cnt => simp only at q ⊢; rw [if_pos q.1]; exact ih (i + 1) σ1 h1 hd (by omega) q.2
  exact gen xs 0 σ h (by simp) (by omega) h0
/-- .. over something that is walked as given by g -/
theorem loop_wpG {α : Type} {g : α → Ite} {l : Option Nat} {f : Ite → Env → M (Fl × Env)} {xs : List α} {Q : Fl × Env → Sto → Prop} (I : Nat → Env → Sto → Prop)
    (step : ∀ i x σ h, xs[i]? = some x → I i σ h → Ok (f (g x) σ h) fun p h1 => match p.1 with
      | .ret r => Q (.ret r, p.2) h1
      | .brk => Q (.nx, p.2) h1
      | _ => stays l h h1 = true ∧ I (i + 1) p.2 h1)
    (fin : ∀ σ h, I xs.length σ h → Q (.nx, σ) h) {σ : Env} {h : Sto} (h0 : I 0 σ h) : Ok (loop l f (xs.map g) σ h) Q := by
  refine loop_wpI I (fun i x σ h hx hI => ?_) (fun σ h hI => fin σ h (by simpa using hI)) h0
  rw [List.getElem?_map, Option.map_eq_some_iff] at hx
  obtain ⟨y, hy, rfl⟩ := hx
  exact step i y σ h hy hI
/-- .. over data -/
theorem loop_wp {l : Option Nat} {f : Ite → Env → M (Fl × Env)} {xs : List D} {Q : Fl × Env → Sto → Prop} (I : Nat → Env → Sto → Prop)
    (step : ∀ i x σ h, xs[i]? = some x → I i σ h → Ok (f (dI x) σ h) fun p h1 => match p.1 with
      | .ret r => Q (.ret r, p.2) h1
      | .brk => Q (.nx, p.2) h1
      | _ => stays l h h1 = true ∧ I (i + 1) p.2 h1)
    (fin : ∀ σ h, I xs.length σ h → Q (.nx, σ) h) {σ : Env} {h : Sto} (h0 : I 0 σ h) : Ok (loop l f (xs.map dI) σ h) Q := loop_wpG I step fin h0
/-- a comprehension by its invariant: what is kept so far -/
theorem turns_wpG {α β : Type} {g : β → Ite} {l : Option Nat} {f : Ite → M (Option α)} {xs : List β} {Q : List α → Sto → Prop} (I : Nat → List α → Sto → Prop)
    (step : ∀ i x ys h, xs[i]? = some x → I i ys h → Ok (f (g x) h) fun o h1 => stays l h h1 = true ∧ I (i + 1) (match o with | some y => ys ++ [y] | none => ys) h1)
    (fin : ∀ ys h, I xs.length ys h → Q ys h) {h : Sto} (h0 : I 0 [] h) : Ok (turns l f (xs.map g) h) Q := by
  have gen : ∀ (zs : List β) (i : Nat) (ys : List α) (h : Sto), xs.drop i = zs → i ≤ xs.length → I i ys h → Ok (turns l f (zs.map g) h) fun r h1 => Q (ys ++ r) h1 := by
    intro zs
    induction zs with
    | nil =>
      intro i ys h e hi hI
      have : i = xs.length := by
        have := congrArg List.length e
        simp at this
        omega
      subst this
      exact ⟨_, _, rfl, by show Q (ys ++ []) h; rw [List.append_nil]; exact fin ys h hI⟩
    | cons y zs ih =>
      intro i ys h e hi hI
      have hil : i < xs.length := by
        have := congrArg List.length e
        simp at this
        omega
      have hy : xs[i]? = some y := by
        have := congrArg (fun z => z[0]?) e
        simpa using this
      have hd : xs.drop (i + 1) = zs := by
        have := congrArg List.tail e
        simpa using this
      obtain ⟨o, h1, ef, st, q⟩ := step i y ys h hy hI
      simp only [List.map_cons, turns, ef]
      rw [if_pos st, ok_bnd]
      refine (ih (i + 1) _ h1 hd (by omega) q).mono fun r h2 hq => ?_
      rw [ok_ok]
      cases o with
      | none => exact hq
      | some z => simpa using hq
  have := gen xs 0 [] h (by simp) (by omega) h0
  simpa using this
theorem turns_wp {α : Type} {l : Option Nat} {f : Ite → M (Option α)} {xs : List D} {Q : List α → Sto → Prop} (I : Nat → List α → Sto → Prop)
    (step : ∀ i x ys h, xs[i]? = some x → I i ys h → Ok (f (dI x) h) fun o h1 => stays l h h1 = true ∧ I (i + 1) (match o with | some y => ys ++ [y] | none => ys) h1)
    (fin : ∀ ys h, I xs.length ys h → Q ys h) {h : Sto} (h0 : I 0 [] h) : Ok (turns l f (xs.map dI) h) Q := turns_wpG I step fin h0
/-- .. that reads alone: filter and map -/
theorem turns_pure {α β : Type} {d : β → Ite} {l : Option Nat} {f : Ite → M (Option α)} {g : β → Option α} {h : Sto} : ∀ {xs : List β}, (∀ x ∈ xs, f (d x) h = some (g x, h)) → stays l h h = true → turns l f (xs.map d) h = some (xs.filterMap g, h)
  | [], _, _ => rfl
  | x :: xs, e, s => by
    simp only [List.map_cons, turns, e x (by simp), if_pos s]
    unfold bnd
    rw [turns_pure (fun y hy => e y (by simp [hy])) s]
    simp only [ok, List.filterMap_cons]
    cases g x <;> rfl

theorem ev_con (Γ : Calls) (d : _) (σ : Env) : ev Γ (.con d) σ = (ok (.d d)) := rfl
theorem ev_var (Γ : Calls) (i : _) (σ : Env) : ev Γ (.var i) σ = (fun h => match σ[i]? with
    | some (some r) => some (r, h)
    | _ => none) := rfl
theorem ev_bin (Γ : Calls) (o : _) (a : _) (b : _) (σ : Env) : ev Γ (.bin o a b) σ = (bnd (ev Γ a σ) fun x => bnd (ev Γ b σ) fun y => bnd (rd x) fun x => bnd (rd y) fun y => bnd (opt (bop o x y)) fun z => ok (.d z)) := rfl
theorem ev_neg (Γ : Calls) (a : _) (σ : Env) : ev Γ (.neg a) σ = (bnd (ev Γ a σ) fun x => match x with
    | .d (.int i) => ok (.d (.int (-i)))
    | _ => fun _ => none) := rfl
theorem ev_cmp (Γ : Calls) (o : _) (a : _) (b : _) (σ : Env) : ev Γ (.cmp o a b) σ = (bnd (ev Γ a σ) fun x => bnd (ev Γ b σ) fun y => bnd (rd x) fun x => bnd (rd y) fun y => bnd (opt (cop o x y)) fun z => ok (.d z)) := rfl
theorem ev_and (Γ : Calls) (a : _) (b : _) (σ : Env) : ev Γ (.and a b) σ = (bnd (ev Γ a σ) fun x => match x with
    | .d (.bl c) => if c then ev Γ b σ else ok (.d (.bl false))
    | _ => fun _ => none) := rfl
theorem ev_or (Γ : Calls) (a : _) (b : _) (σ : Env) : ev Γ (.or a b) σ = (bnd (ev Γ a σ) fun x => match x with
    | .d (.bl c) => if c then ok (.d (.bl true)) else ev Γ b σ
    | _ => fun _ => none) := rfl
theorem ev_not (Γ : Calls) (a : _) (σ : Env) : ev Γ (.not a) σ = (bnd (ev Γ a σ) fun x => bnd (rd x) fun d => bnd (opt (tru d)) fun t => ok (.d (.bl (!t)))) := rfl
theorem ev_ife (Γ : Calls) (c : _) (a : _) (b : _) (σ : Env) : ev Γ (.ife c a b) σ = (bnd (tv Γ c σ) fun t => if t then ev Γ a σ else ev Γ b σ) := rfl
theorem ev_tup (Γ : Calls) (es : _) (σ : Env) : ev Γ (.tup es) σ = (bnd (evs Γ es σ) fun rs => bnd (fzs rs) fun ds => ok (.d (.tup ds))) := rfl
theorem ev_lst (Γ : Calls) (m : _) (l : _) (σ : Env) : ev Γ (.lst m l) σ = (bnd (evL Γ l σ) fun xs => if m then alloc xs else ok (.d (.lst xs))) := rfl
theorem ev_idx (Γ : Calls) (a : _) (i : _) (σ : Env) : ev Γ (.idx a i) σ = (bnd (ev Γ a σ) fun x => bnd (ev Γ i σ) fun y => bnd (rd x) fun x => bnd (rd y) fun y => bnd (opt (idxD x y)) fun z => ok (.d z)) := rfl
theorem ev_sli (Γ : Calls) (a : _) (lo : _) (hi : _) (σ : Env) : ev Γ (.sli a lo hi) σ = (bnd (ev Γ a σ) fun x => bnd (ev Γ lo σ) fun l => bnd (ev Γ hi σ) fun u => bnd (rd x) fun x => bnd (rd l) fun l => bnd (rd u) fun u => bnd (opt (sliD x l u)) fun z => ok (.d z)) := rfl
theorem ev_call (Γ : Calls) (f : _) (es : _) (σ : Env) : ev Γ (.call f es) σ = (bnd (evs Γ es σ) fun rs => Γ f rs) := rfl
theorem ev_bi (Γ : Calls) (b : _) (es : _) (σ : Env) : ev Γ (.bi b es) σ = (bnd (evs Γ es σ) fun rs => bnd (rds rs) fun ds => bnd (opt (biD b ds)) fun z => ok (.d z)) := rfl
theorem ev_me (Γ : Calls) (m : _) (o : _) (es : _) (σ : Env) : ev Γ (.me m o es) σ = (bnd (ev Γ o σ) fun x => bnd (isLst x) fun _ => bnd (evs Γ es σ) fun rs => meth m x rs) := rfl
theorem ev_glo (Γ : Calls) (d : _) (σ : Env) : ev Γ (.glo d) σ = (ok (.d d)) := rfl
theorem ev_isi (Γ : Calls) (t : _) (e : _) (σ : Env) : ev Γ (.isi t e) σ = (bnd (ev Γ e σ) fun r => bnd (rd r) fun d => ok (.d (.bl (isiD t d)))) := rfl
theorem ev_fld (Γ : Calls) (o : _) (f : _) (σ : Env) : ev Γ (.fld o f) σ = (bnd (ev Γ o σ) fun x => getA x f) := rfl
theorem ev_make (Γ : Calls) (c : _) (f : _) (es : _) (σ : Env) : ev Γ (.make c f es) σ = (bnd (evs Γ es σ) fun rs => bnd (newA c) fun x => bnd (Γ f (x :: rs)) fun r => match r with
    | .d .non => ok x
    | _ => fun _ => none) := rfl
theorem ev_mc (Γ : Calls) (c : _) (m : _) (f : _) (o : _) (es : _) (σ : Env) : ev Γ (.mc c m f o es) σ = (bnd (ev Γ o σ) fun x => bnd (isA x c m) fun _ => bnd (evs Γ es σ) fun rs => Γ f (x :: rs)) := rfl
theorem ev_lstO (Γ : Calls) (tg : _) (it : _) (c : _) (el : _) (σ : Env) : ev Γ (.lstO tg it c el) σ = (bnd (evI Γ it σ) fun w => bnd (turns w.l (fun x => bnd (bindI tg x (clr tg.slots σ)) fun σ' => bnd (tvs Γ c σ') fun t => if t then bnd (ev Γ el σ') fun r => bnd (placeOf r) fun d => ok (some d) else ok none) w.xs) fun ls => allocO ls) := rfl
theorem ev_oix (Γ : Calls) (a : _) (i : _) (σ : Env) : ev Γ (.oix a i) σ = (bnd (ev Γ a σ) fun x => bnd (ev Γ i σ) fun y => bnd (olsOf x) fun o => match o, y with
    | some ls, .d (.int k) => match at' ls k with
      | some l => ok (.loc l)
      | none => fun _ => none
    | _, _ => fun _ => none) := rfl
theorem ev_olen (Γ : Calls) (a : _) (σ : Env) : ev Γ (.olen a) σ = (bnd (ev Γ a σ) fun x => bnd (olsOf x) fun o => match o with
    | some ls => ok (.d (.int ls.length))
    | none => fun _ => none) := rfl
theorem ev_stuck (Γ : Calls)  (σ : Env) : ev Γ .stuck σ = (fun _ => none) := rfl
theorem evs_nil (Γ : Calls)  (σ : Env) : evs Γ [] σ = (ok []) := rfl
theorem evs_cons (Γ : Calls) (e : _) (es : _) (σ : Env) : evs Γ (e :: es) σ = (bnd (ev Γ e σ) fun r => bnd (evs Γ es σ) fun rs => ok (r :: rs)) := rfl
theorem tv_val (Γ : Calls) (e : _) (σ : Env) : tv Γ (.val e) σ = (bnd (ev Γ e σ) fun r => bnd (rd r) fun d => opt (tru d)) := rfl
theorem tv_and (Γ : Calls) (a : _) (b : _) (σ : Env) : tv Γ (.and a b) σ = (bnd (tv Γ a σ) fun t => if t then tv Γ b σ else ok false) := rfl
theorem tv_or (Γ : Calls) (a : _) (b : _) (σ : Env) : tv Γ (.or a b) σ = (bnd (tv Γ a σ) fun t => if t then ok true else tv Γ b σ) := rfl
theorem tv_not (Γ : Calls) (a : _) (σ : Env) : tv Γ (.not a) σ = (bnd (tv Γ a σ) fun t => ok (!t)) := rfl
theorem tvs_nil (Γ : Calls)  (σ : Env) : tvs Γ [] σ = (ok true) := rfl
theorem tvs_cons (Γ : Calls) (c : _) (cs : _) (σ : Env) : tvs Γ (c :: cs) σ = (bnd (tv Γ c σ) fun t => if t then tvs Γ cs σ else ok false) := rfl
theorem evL_disp (Γ : Calls) (es : _) (σ : Env) : evL Γ (.disp es) σ = (bnd (evs Γ es σ) fun rs => fzs rs) := rfl
theorem evL_comp (Γ : Calls) (tg : _) (it : _) (c : _) (el : _) (σ : Env) : evL Γ (.comp tg it c el) σ = (bnd (evI Γ it σ) fun w => turns w.l (fun x => bnd (bindI tg x (clr tg.slots σ)) fun σ' => bnd (tvs Γ c σ') fun t => if t then bnd (ev Γ el σ') fun r => bnd (fz r) fun d => ok (some d) else ok none) w.xs) := rfl
theorem evI_seq (Γ : Calls) (e : _) (σ : Env) : evI Γ (.seq e) σ = (bnd (ev Γ e σ) fun r => wkAny r) := rfl
theorem evI_rng (Γ : Calls) (e : _) (σ : Env) : evI Γ (.rng e) σ = (bnd (ev Γ e σ) fun r => rngOf r) := rfl
theorem evI_enu (Γ : Calls) (e : _) (σ : Env) : evI Γ (.enu e) σ = (bnd (ev Γ e σ) fun r => wkEnu r) := rfl
theorem fzs_nil  : fzs [] = (ok []) := rfl
theorem fzs_cons (r : _) (rs : _) : fzs (r :: rs) = (bnd (fz r) fun d => bnd (fzs rs) fun ds => ok (d :: ds)) := rfl
theorem rds_nil  : rds [] = (ok []) := rfl
theorem rds_cons (r : _) (rs : _) : rds (r :: rs) = (bnd (rd r) fun d => bnd (rds rs) fun ds => ok (d :: ds)) := rfl
theorem ex_asg (Γ : Calls) (tg : _) (e : _) (σ : Env) : ex Γ (.asg tg e) σ = (bnd (ev Γ e σ) fun r => bnd (bindT tg r σ) fun σ' => ok (.nx, σ')) := rfl
theorem ex_setN (Γ : Calls) (c : _) (o : _) (f : _) (e : _) (σ : Env) : ex Γ (.setN c o f e) σ = (bnd (ev Γ e σ) fun r => bnd (ev Γ o σ) fun x => bnd (setN x c f r) fun _ => ok (.nx, σ)) := rfl
theorem ex_exp (Γ : Calls) (e : _) (σ : Env) : ex Γ (.exp e) σ = (bnd (ev Γ e σ) fun _ => ok (.nx, σ)) := rfl
theorem ex_ife (Γ : Calls) (c : _) (a : _) (b : _) (σ : Env) : ex Γ (.ife c a b) σ = (bnd (tv Γ c σ) fun t => if t then exs Γ a σ else exs Γ b σ) := rfl
theorem ex_for (Γ : Calls) (tg : _) (it : _) (body : _) (σ : Env) : ex Γ (.for tg it body) σ = (bnd (evI Γ it σ) fun w => loop w.l (fun x σ => bnd (bindI tg x σ) fun σ' => exs Γ body σ') w.xs σ) := rfl
theorem ex_ret (Γ : Calls) (e : _) (σ : Env) : ex Γ (.ret e) σ = (bnd (ev Γ e σ) fun r => ok (.ret r, σ)) := rfl
theorem ex_brk (Γ : Calls)  (σ : Env) : ex Γ .brk σ = (ok (.brk, σ)) := rfl
theorem ex_cnt (Γ : Calls)  (σ : Env) : ex Γ .cnt σ = (ok (.cnt, σ)) := rfl
theorem ex_stuck (Γ : Calls)  (σ : Env) : ex Γ .stuck σ = (fun _ => none) := rfl
theorem exs_nil (Γ : Calls)  (σ : Env) : exs Γ [] σ = (ok (.nx, σ)) := rfl
theorem exs_cons (Γ : Calls) (s : _) (r : _) (σ : Env) : exs Γ (s :: r) σ = (bnd (ex Γ s σ) fun p => match p.1 with
    | .nx => exs Γ r p.2
    | _ => ok p) := rfl
theorem meth_append {l : Nat} {r : _} {h : Sto} : meth .append (.loc l) [r] h = (bnd (fz r) fun d h => match h[l]? with
    | some (.lst xs) => if decide (xs.length < big) then some (.d .non, h.set l (.lst (xs ++ [d]))) else none
    | _ => none) h := rfl
theorem meth_pop {l : Nat}  {h : Sto} : meth .pop (.loc l) [] h = (fun h => match h[l]? with
    | some (.lst xs) => match xs[xs.length - 1]? with
      | some y => some (.d y, h.set l (.lst xs.dropLast))
      | none => none
    | _ => none) h := rfl
theorem meth_clear {l : Nat}  {h : Sto} : meth .clear (.loc l) [] h = (fun h => match h[l]? with
    | some (.lst xs) => some (.d .non, h.set l (.lst []))
    | _ => none) h := rfl
theorem meth_extend {l : Nat} {r : _} {h : Sto} : meth .extend (.loc l) [r] h = (bnd (rd r) fun d h => match d with
    | .lst ys => match h[l]? with
      | some (.lst xs) => if fit (xs.length + ys.length) then some (.d .non, h.set l (.lst (xs ++ ys))) else none
      | _ => none
    | _ => none) h := rfl
/-! ### the rules, one for each form -/
section
variable {Γ : Calls} {σ : Env} {h : Sto}
section
variable {Q : Fl × Env → Sto → Prop}
theorem w_exs_nil : Ok (exs Γ [] σ h) Q ↔ Q (.nx, σ) h := by rw [exs_nil]; exact ok_ok
theorem w_exs_cons {s : S} {r : List S} : Ok (exs Γ (s :: r) σ h) Q ↔ Ok (ex Γ s σ h) fun p h1 => match p.1 with | .nx => Ok (exs Γ r p.2 h1) Q | .ret r => Q (.ret r, p.2) h1 | .brk => Q (.brk, p.2) h1 | .cnt => Q (.cnt, p.2) h1 := by
  rw [exs_cons, ok_bnd]
  constructor
  · intro k
    refine k.mono fun p h1 q => ?_
    obtain ⟨fl, e⟩ := p
    cases fl <;> simpa using q
  · intro k
    refine k.mono fun p h1 q => ?_
    obtain ⟨fl, e⟩ := p
    cases fl <;> simpa using q
theorem w_asg {tg : Tg} {e : E} : Ok (ex Γ (.asg tg e) σ h) Q ↔ Ok (ev Γ e σ h) fun r h1 => Ok (bindT tg r σ h1) fun σ' h2 => Q (.nx, σ') h2 := by rw [ex_asg]; simp only [ok_bnd, ok_ok]
theorem w_exp {e : E} : Ok (ex Γ (.exp e) σ h) Q ↔ Ok (ev Γ e σ h) fun _ h1 => Q (.nx, σ) h1 := by rw [ex_exp]; simp only [ok_bnd, ok_ok]
theorem w_ifS {c : T} {a b : List S} : Ok (ex Γ (.ife c a b) σ h) Q ↔ Ok (tv Γ c σ h) fun t h1 => (t = true → Ok (exs Γ a σ h1) Q) ∧ (t = false → Ok (exs Γ b σ h1) Q) := by
  rw [ex_ife]; simp only [ok_bnd]
  constructor <;> intro k <;> refine k.mono fun t h1 q => ?_ <;> cases t <;> simpa using q
theorem w_for {tg : Tg} {it : I} {b : List S} : Ok (ex Γ (.for tg it b) σ h) Q ↔ Ok (evI Γ it σ h) fun w h1 => Ok (loop w.l (fun x σ => bnd (bindI tg x σ) fun σ' => exs Γ b σ') w.xs σ h1) Q := by rw [ex_for]; simp only [ok_bnd]
theorem w_ret {e : E} : Ok (ex Γ (.ret e) σ h) Q ↔ Ok (ev Γ e σ h) fun r h1 => Q (.ret r, σ) h1 := by rw [ex_ret]; simp only [ok_bnd, ok_ok]
theorem w_brk : Ok (ex Γ .brk σ h) Q ↔ Q (.brk, σ) h := by rw [ex_brk]; simp only [ok_ok]
theorem w_cnt : Ok (ex Γ .cnt σ h) Q ↔ Q (.cnt, σ) h := by rw [ex_cnt]; simp only [ok_ok]
end
section
variable {Q : Env → Sto → Prop}
theorem w_bname {i : Nat} {r : R} : Ok (bindT (.name i) r σ h) Q ↔ Q (σ.set i (some r)) h := by rw [bindT]; exact ok_ok
theorem w_btup {ts : List Tg} {r : R} : Ok (bindT (.tup ts) r σ h) Q ↔ Ok (rd r h) fun d h1 => ∃ xs, d = .tup xs ∧ Ok (bindTs ts xs σ h1) Q := by
  rw [bindT, ok_bnd]
  constructor <;> intro k <;> refine k.mono fun d h1 q => ?_
  · cases d <;> first | (exact ⟨_, rfl, q⟩) | (simp at q)
  · obtain ⟨xs, rfl, q⟩ := q; exact q
theorem w_bts_nil : Ok (bindTs [] [] σ h) Q ↔ Q σ h := by simp only [bindTs, ok_ok]
theorem w_bts_cons {t : Tg} {ts : List Tg} {x : D} {xs : List D} : Ok (bindTs (t :: ts) (x :: xs) σ h) Q ↔ Ok (bindT t (.d x) σ h) fun σ' h1 => Ok (bindTs ts xs σ' h1) Q := by simp only [bindTs, ok_bnd]
end
theorem w_bI {tg : Tg} {x : R} {Q : Env → Sto → Prop} : Ok (bindI tg (.r x) σ h) Q ↔ Ok (bindT tg x σ h) Q := by rw [bindI]
theorem w_bIe {a b : Tg} {i : Int} {x : R} {Q : Env → Sto → Prop} : Ok (bindI (.tup [a, b]) (.en i x) σ h) Q ↔ Ok (bindT a (.d (.int i)) σ h) fun σ' h1 => Ok (bindT b x σ' h1) Q := by rw [bindI]; simp only [ok_bnd]
section
variable {Q : R → Sto → Prop}
theorem w_con {d : D} : Ok (ev Γ (.con d) σ h) Q ↔ Q (.d d) h := by rw [ev_con]; exact ok_ok
theorem w_var {i : Nat} : Ok (ev Γ (.var i) σ h) Q ↔ ∃ r, σ[i]? = some (some r) ∧ Q r h := by
  rw [ev_var]
  cases e : σ[i]? with
  | none => simp
  | some o => cases o <;> simp
theorem w_bin {o : Bo} {a b : E} : Ok (ev Γ (.bin o a b) σ h) Q ↔ Ok (ev Γ a σ h) fun x h1 => Ok (ev Γ b σ h1) fun y h2 => Ok (rd x h2) fun x h3 => Ok (rd y h3) fun y h4 => ∃ z, bop o x y = some z ∧ Q (.d z) h4 := by rw [ev_bin]; simp only [ok_bnd, ok_ok, ok_opt]
theorem w_cmp {o : Co} {a b : E} : Ok (ev Γ (.cmp o a b) σ h) Q ↔ Ok (ev Γ a σ h) fun x h1 => Ok (ev Γ b σ h1) fun y h2 => Ok (rd x h2) fun x h3 => Ok (rd y h3) fun y h4 => ∃ z, cop o x y = some z ∧ Q (.d z) h4 := by rw [ev_cmp]; simp only [ok_bnd, ok_ok, ok_opt]
theorem w_neg {a : E} : Ok (ev Γ (.neg a) σ h) Q ↔ Ok (ev Γ a σ h) fun x h1 => ∃ i, x = .d (.int i) ∧ Q (.d (.int (-i))) h1 := by
  rw [ev_neg, ok_bnd]
  constructor <;> intro k <;> refine k.mono fun x h1 q => ?_
  · cases x with
    | loc l => simp at q
    | d d => cases d <;> first | (exact ⟨_, rfl, by simpa using q⟩) | (simp at q)
  · obtain ⟨i, rfl, q⟩ := q; simpa using q
theorem w_and {a b : E} : Ok (ev Γ (.and a b) σ h) Q ↔ Ok (ev Γ a σ h) fun x h1 => ∃ c, x = .d (.bl c) ∧ (c = true → Ok (ev Γ b σ h1) Q) ∧ (c = false → Q (.d (.bl false)) h1) := by
  rw [ev_and, ok_bnd]
  constructor <;> intro k <;> refine k.mono fun x h1 q => ?_
  · cases x with
    | loc l => simp at q
    | d d => cases d <;> first | (rename_i c; refine ⟨c, rfl, ?_⟩; cases c <;> simpa using q) | (simp at q)
  · obtain ⟨c, rfl, q⟩ := q; cases c <;> simpa using q
theorem w_or {a b : E} : Ok (ev Γ (.or a b) σ h) Q ↔ Ok (ev Γ a σ h) fun x h1 => ∃ c, x = .d (.bl c) ∧ (c = false → Ok (ev Γ b σ h1) Q) ∧ (c = true → Q (.d (.bl true)) h1) := by
  rw [ev_or, ok_bnd]
  constructor <;> intro k <;> refine k.mono fun x h1 q => ?_
  · cases x with
    | loc l => simp at q
    | d d => cases d <;> first | (rename_i c; refine ⟨c, rfl, ?_⟩; cases c <;> simpa using q) | (simp at q)
  · obtain ⟨c, rfl, q⟩ := q; cases c <;> simpa using q
theorem w_not {a : E} : Ok (ev Γ (.not a) σ h) Q ↔ Ok (ev Γ a σ h) fun x h1 => Ok (rd x h1) fun d h2 => ∃ b, tru d = some b ∧ Q (.d (.bl (!b))) h2 := by
  rw [ev_not]; simp only [ok_bnd, ok_opt, ok_ok]
theorem w_ife {c : T} {a b : E} : Ok (ev Γ (.ife c a b) σ h) Q ↔ Ok (tv Γ c σ h) fun t h1 => (t = true → Ok (ev Γ a σ h1) Q) ∧ (t = false → Ok (ev Γ b σ h1) Q) := by
  rw [ev_ife]; simp only [ok_bnd]
  constructor <;> intro k <;> refine k.mono fun t h1 q => ?_ <;> cases t <;> simpa using q
theorem w_tup {es : List E} : Ok (ev Γ (.tup es) σ h) Q ↔ Ok (evs Γ es σ h) fun rs h1 => Ok (fzs rs h1) fun ds h2 => Q (.d (.tup ds)) h2 := by rw [ev_tup]; simp only [ok_bnd, ok_ok]
theorem w_lstT {l : L} : Ok (ev Γ (.lst true l) σ h) Q ↔ Ok (evL Γ l σ h) fun xs h1 => Q (.loc h1.length) (h1 ++ [.lst xs]) := by rw [ev_lst]; simp only [ok_bnd, alloc, if_true, ok_some']
theorem w_lstF {l : L} : Ok (ev Γ (.lst false l) σ h) Q ↔ Ok (evL Γ l σ h) fun xs h1 => Q (.d (.lst xs)) h1 := by rw [ev_lst]; simp only [ok_bnd, Bool.false_eq_true, if_false, ok_ok]
theorem w_idx {a i : E} : Ok (ev Γ (.idx a i) σ h) Q ↔ Ok (ev Γ a σ h) fun x h1 => Ok (ev Γ i σ h1) fun y h2 => Ok (rd x h2) fun x h3 => Ok (rd y h3) fun y h4 => ∃ z, idxD x y = some z ∧ Q (.d z) h4 := by rw [ev_idx]; simp only [ok_bnd, ok_ok, ok_opt]
theorem w_sli {a lo hi : E} : Ok (ev Γ (.sli a lo hi) σ h) Q ↔ Ok (ev Γ a σ h) fun x h1 => Ok (ev Γ lo σ h1) fun l h2 => Ok (ev Γ hi σ h2) fun u h3 => Ok (rd x h3) fun x h4 => Ok (rd l h4) fun l h5 => Ok (rd u h5) fun u h6 => ∃ z, sliD x l u = some z ∧ Q (.d z) h6 := by rw [ev_sli]; simp only [ok_bnd, ok_ok, ok_opt]
theorem w_call {f : Nat} {es : List E} : Ok (ev Γ (.call f es) σ h) Q ↔ Ok (evs Γ es σ h) fun rs h1 => Ok (Γ f rs h1) Q := by rw [ev_call]; simp only [ok_bnd]
theorem w_bi {b : Bi} {es : List E} : Ok (ev Γ (.bi b es) σ h) Q ↔ Ok (evs Γ es σ h) fun rs h1 => Ok (rds rs h1) fun ds h2 => ∃ z, biD b ds = some z ∧ Q (.d z) h2 := by rw [ev_bi]; simp only [ok_bnd, ok_ok, ok_opt]
theorem w_me {m : Me} {o : E} {es : List E} : Ok (ev Γ (.me m o es) σ h) Q ↔ Ok (ev Γ o σ h) fun x h1 => Ok (isLst x h1) fun _ h2 => Ok (evs Γ es σ h2) fun rs h3 => Ok (meth m x rs h3) Q := by rw [ev_me]; simp only [ok_bnd]
end
theorem w_evs_nil {Q : List R → Sto → Prop} : Ok (evs Γ [] σ h) Q ↔ Q [] h := by rw [evs_nil]; exact ok_ok
theorem w_evs_cons {e : E} {es : List E} {Q : List R → Sto → Prop} : Ok (evs Γ (e :: es) σ h) Q ↔ Ok (ev Γ e σ h) fun r h1 => Ok (evs Γ es σ h1) fun rs h2 => Q (r :: rs) h2 := by rw [evs_cons]; simp only [ok_bnd, ok_ok]
theorem w_fzs_nil {Q : List D → Sto → Prop} : Ok (fzs [] h) Q ↔ Q [] h := by rw [fzs_nil]; exact ok_ok
theorem w_fzs_cons {r : R} {rs : List R} {Q : List D → Sto → Prop} : Ok (fzs (r :: rs) h) Q ↔ Ok (fz r h) fun d h1 => Ok (fzs rs h1) fun ds h2 => Q (d :: ds) h2 := by rw [fzs_cons]; simp only [ok_bnd, ok_ok]
theorem w_rds_nil {Q : List D → Sto → Prop} : Ok (rds [] h) Q ↔ Q [] h := by rw [rds_nil]; exact ok_ok
theorem w_rds_cons {r : R} {rs : List R} {Q : List D → Sto → Prop} : Ok (rds (r :: rs) h) Q ↔ Ok (rd r h) fun d h1 => Ok (rds rs h1) fun ds h2 => Q (d :: ds) h2 := by rw [rds_cons]; simp only [ok_bnd, ok_ok]
section
variable {Q : Bool → Sto → Prop}
theorem w_val {e : E} : Ok (tv Γ (.val e) σ h) Q ↔ Ok (ev Γ e σ h) fun r h1 => Ok (rd r h1) fun d h2 => ∃ t, tru d = some t ∧ Q t h2 := by rw [tv_val]; simp only [ok_bnd, ok_opt]
theorem w_tand {a b : T} : Ok (tv Γ (.and a b) σ h) Q ↔ Ok (tv Γ a σ h) fun t h1 => (t = true → Ok (tv Γ b σ h1) Q) ∧ (t = false → Q false h1) := by
  rw [tv_and]; simp only [ok_bnd]
  constructor <;> intro k <;> refine k.mono fun t h1 q => ?_ <;> cases t <;> simpa using q
theorem w_tor {a b : T} : Ok (tv Γ (.or a b) σ h) Q ↔ Ok (tv Γ a σ h) fun t h1 => (t = false → Ok (tv Γ b σ h1) Q) ∧ (t = true → Q true h1) := by
  rw [tv_or]; simp only [ok_bnd]
  constructor <;> intro k <;> refine k.mono fun t h1 q => ?_ <;> cases t <;> simpa using q
theorem w_tnot {a : T} : Ok (tv Γ (.not a) σ h) Q ↔ Ok (tv Γ a σ h) fun t h1 => Q (!t) h1 := by rw [tv_not]; simp only [ok_bnd, ok_ok]
theorem w_tvs_nil : Ok (tvs Γ [] σ h) Q ↔ Q true h := by rw [tvs_nil]; exact ok_ok
theorem w_tvs_cons {c : T} {cs : List T} : Ok (tvs Γ (c :: cs) σ h) Q ↔ Ok (tv Γ c σ h) fun t h1 => (t = true → Ok (tvs Γ cs σ h1) Q) ∧ (t = false → Q false h1) := by
  rw [tvs_cons]; simp only [ok_bnd]
  constructor <;> intro k <;> refine k.mono fun t h1 q => ?_ <;> cases t <;> simpa using q
end
section
variable {Q : List D → Sto → Prop}
theorem w_disp {es : List E} : Ok (evL Γ (.disp es) σ h) Q ↔ Ok (evs Γ es σ h) fun rs h1 => Ok (fzs rs h1) Q := by rw [evL_disp]; simp only [ok_bnd]
/-- a turn of a comprehension -/
noncomputable def cturn (Γ : Calls) (tg : Tg) (c : List T) (el : E) (σ : Env) (x : Ite) : M (Option D) := bnd (bindI tg x (clr tg.slots σ)) fun σ' => bnd (tvs Γ c σ') fun t => if t then bnd (ev Γ el σ') fun r => bnd (fz r) fun d => ok (some d) else ok none
theorem w_comp {tg : Tg} {it : I} {c : List T} {el : E} : Ok (evL Γ (.comp tg it c el) σ h) Q ↔ Ok (evI Γ it σ h) fun w h1 => Ok (turns w.l (cturn Γ tg c el σ) w.xs h1) Q := by rw [evL_comp]; simp only [ok_bnd]; rfl
end
theorem w_cturn {tg : Tg} {c : List T} {el : E} {x : Ite} {Q : Option D → Sto → Prop} : Ok (cturn Γ tg c el σ x h) Q ↔ Ok (bindI tg x (clr tg.slots σ) h) fun σ' h1 => Ok (tvs Γ c σ' h1) fun t h2 => (t = true → Ok (ev Γ el σ' h2) fun r h3 => Ok (fz r h3) fun d h4 => Q (some d) h4) ∧ (t = false → Q none h2) := by
  unfold cturn
  simp only [ok_bnd]
  constructor <;> intro k <;> refine k.mono fun σ' h1 q => ?_ <;> refine q.mono fun t h2 q => ?_ <;> cases t <;> simpa using q
/-- a turn of a comprehension of instances -/
noncomputable def oturn (Γ : Calls) (tg : Tg) (c : List T) (el : E) (σ : Env) (x : Ite) : M (Option Nat) := bnd (bindI tg x (clr tg.slots σ)) fun σ' => bnd (tvs Γ c σ') fun t => if t then bnd (ev Γ el σ') fun r => bnd (placeOf r) fun d => ok (some d) else ok none
theorem w_lstO {tg : Tg} {it : I} {c : List T} {el : E} {Q : R → Sto → Prop} : Ok (ev Γ (.lstO tg it c el) σ h) Q ↔ Ok (evI Γ it σ h) fun w h1 => Ok (turns w.l (oturn Γ tg c el σ) w.xs h1) fun ls h2 => Q (.loc h2.length) (h2 ++ [.ols ls]) := by rw [ev_lstO]; simp only [ok_bnd, allocO, ok_some']; rfl
theorem w_oturn {tg : Tg} {c : List T} {el : E} {x : Ite} {Q : Option Nat → Sto → Prop} : Ok (oturn Γ tg c el σ x h) Q ↔ Ok (bindI tg x (clr tg.slots σ) h) fun σ' h1 => Ok (tvs Γ c σ' h1) fun t h2 => (t = true → Ok (ev Γ el σ' h2) fun r h3 => Ok (placeOf r h3) fun d h4 => Q (some d) h4) ∧ (t = false → Q none h2) := by
  unfold oturn
  simp only [ok_bnd]
  constructor <;> intro k <;> refine k.mono fun σ' h1 q => ?_ <;> refine q.mono fun t h2 q => ?_ <;> cases t <;> simpa using q
section
variable {Q : Wk → Sto → Prop}
theorem w_seq {e : E} : Ok (evI Γ (.seq e) σ h) Q ↔ Ok (ev Γ e σ h) fun r h1 => Ok (wkAny r h1) Q := by rw [evI_seq]; simp only [ok_bnd]
theorem w_enu {e : E} : Ok (evI Γ (.enu e) σ h) Q ↔ Ok (ev Γ e σ h) fun r h1 => isLs r = true ∧ Ok (wkAny r h1) fun w h2 => ∃ l, enuFrom 0 w.xs = some l ∧ Q ⟨l, w.l⟩ h2 := by
  rw [evI_enu]; simp only [ok_bnd, wkEnu]
  refine iff_of_eq (congrArg (Ok (ev Γ e σ h)) (funext fun r => funext fun h1 => propext ?_))
  by_cases c : isLs r = true
  · rw [if_pos c, ok_bnd]
    simp only [c, true_and]
    refine iff_of_eq (congrArg (Ok (wkAny r h1)) (funext fun w => funext fun h2 => propext ?_))
    cases enuFrom 0 w.xs <;> simp
  · rw [if_neg c]; simp [c]
noncomputable def nums {α : Type} (i : Int) : List α → List (Int × α)
  | [] => []
  | x :: t => (i, x) :: nums (i + 1) t
theorem nums_len {α : Type} : ∀ (xs : List α) (i : Int), (nums i xs).length = xs.length
  | [], _ => rfl
  | x :: xs, i => by simp only [nums, List.length_cons, nums_len xs]
theorem nums_at {α : Type} : ∀ (xs : List α) (i : Int) (j : Nat) (p : Int × α), (nums i xs)[j]? = some p → p.1 = i + j ∧ xs[j]? = some p.2
  | [], _, _, _, e => by simp [nums] at e
  | x :: xs, i, 0, p, e => by simp [nums] at e; subst e; exact ⟨by simp, rfl⟩
  | x :: xs, i, j + 1, p, e => by
    simp only [nums, List.getElem?_cons_succ] at e ⊢
    obtain ⟨h1, h2⟩ := nums_at xs (i + 1) j p e
    exact ⟨by rw [h1]; push_cast; omega, h2⟩
theorem w_wa_tup {xs : List D} : Ok (wkAny (.d (.tup xs)) h) Q ↔ Q ⟨xs.map dI, none⟩ h := by simp only [wkAny, olsOf, ok_bnd, ok_some', ok_rd_d, wkOf, items, ok_ok]
theorem w_wa_lst {xs : List D} : Ok (wkAny (.d (.lst xs)) h) Q ↔ Q ⟨xs.map dI, none⟩ h := by simp only [wkAny, olsOf, ok_bnd, ok_some', ok_rd_d, wkOf, items, ok_ok]
theorem w_wa_loc {l : Nat} : Ok (wkAny (.loc l) h) Q ↔ ∃ o, h[l]? = some o ∧ match o with
    | .lst xs => Q ⟨xs.map dI, some l⟩ h
    | .fro xs => Q ⟨xs.map dI, some l⟩ h
    | .ols ls => Q ⟨ls.map fun l => .r (.loc l), some l⟩ h
    | .ins _ _ => False := by
  simp only [wkAny, olsOf, ok_bnd]
  cases e : h[l]? with
  | none => simp [rd, e]
  | some o => cases o <;> simp [rd, e, Ob.isL, Ob.items, wkOf, items]
theorem w_rng {e : E} : Ok (evI Γ (.rng e) σ h) Q ↔ Ok (ev Γ e σ h) fun r h1 => Ok (rngOf r h1) Q := by rw [evI_rng]; simp only [ok_bnd]
theorem w_rngOf {n : Int} : Ok (rngOf (.d (.int n)) h) Q ↔ (-(2 ^ 62) ≤ n ∧ n ≤ 16777216) ∧ Q ⟨(intsD 0 n.toNat).map dI, none⟩ h := by
  simp only [rngOf]
  by_cases c : -(2 ^ 62) ≤ n ∧ n ≤ 16777216
  · rw [if_pos (by rw [Bool.and_eq_true]; exact ⟨decide_eq_true c.1, decide_eq_true c.2⟩), ok_ok]
    exact ⟨fun q => ⟨c, q⟩, fun q => q.2⟩
  · rw [if_neg (by rw [Bool.and_eq_true]; exact fun z => c ⟨of_decide_eq_true z.1, of_decide_eq_true z.2⟩)]
    simp only [ok_none, false_iff]
    exact fun z => c z.1
end
theorem w_rd_loc {l : Nat} {Q : D → Sto → Prop} : Ok (rd (.loc l) h) Q ↔ ∃ o, h[l]? = some o ∧ o.isL = true ∧ Q (.lst o.items) h := by
  simp only [rd]
  cases h[l]? with
  | none => simp
  | some o => cases o <;> simp [Ob.isL]
theorem w_fz_loc {l : Nat} {Q : D → Sto → Prop} : Ok (fz (.loc l) h) Q ↔ ∃ o, h[l]? = some o ∧ o.isL = true ∧ Q (.lst o.items) (h.set l (.fro o.items)) := by
  simp only [fz]
  cases h[l]? with
  | none => simp
  | some o => cases o <;> simp [Ob.isL]
theorem w_isLst {l : Nat} {Q : Unit → Sto → Prop} : Ok (isLst (.loc l) h) Q ↔ ∃ o, h[l]? = some o ∧ o.isL = true ∧ Q () h := by
  simp only [isLst]
  cases h[l]? with
  | none => simp
  | some o => cases o <;> simp [Ob.isL]
theorem w_fld {o : E} {f : PySem.Str} {Q : R → Sto → Prop} : Ok (ev Γ (.fld o f) σ h) Q ↔ Ok (ev Γ o σ h) fun x h1 => Ok (getA x f h1) Q := by rw [ev_fld]; simp only [ok_bnd]
theorem w_getA {l : Nat} {f : PySem.Str} {Q : R → Sto → Prop} : Ok (getA (.loc l) f h) Q ↔ ∃ c fs, h[l]? = some (.ins c fs) ∧ ∃ r, fs.lookup f = some r ∧ Q r h := by
  simp only [getA]
  cases h[l]? with
  | none => simp
  | some o =>
    cases o with
    | ins c fs =>
      constructor
      · intro q
        refine ⟨c, fs, rfl, ?_⟩
        simp only at q
        split at q
        · rename_i r e; exact ⟨r, e, by simpa using q⟩
        · simp at q
      · rintro ⟨c', fs', e, r, e2, q⟩
        cases e
        simp only [e2, ok_some']
        exact q
    | _ => simp
theorem w_setNS {c : PySem.Str} {o : E} {f : PySem.Str} {e : E} {Q : Fl × Env → Sto → Prop} : Ok (ex Γ (.setN c o f e) σ h) Q ↔ Ok (ev Γ e σ h) fun r h1 => Ok (ev Γ o σ h1) fun x h2 => Ok (setN x c f r h2) fun _ h3 => Q (.nx, σ) h3 := by rw [ex_setN]; simp only [ok_bnd, ok_ok]
theorem w_setN {l : Nat} {c f : PySem.Str} {v : R} {Q : Unit → Sto → Prop} : Ok (setN (.loc l) c f v h) Q ↔ ∃ fs, h[l]? = some (.ins c fs) ∧ fs.length < 900 ∧ Q () (h.set l (.ins c (putF f v fs))) := by
  simp only [setN]
  cases h[l]? with
  | none => simp
  | some o =>
    cases o with
    | ins c' fs =>
      constructor
      · intro q
        simp only at q
        split at q
        · rename_i hl
          obtain ⟨rfl, hl⟩ := hl
          exact ⟨fs, rfl, hl, by simpa using q⟩
        · simp at q
      · rintro ⟨fs', e, hl, q⟩
        cases e
        simp only [hl, and_self, if_true, ok_some']
        exact q
    | _ => simp
theorem w_make {c : PySem.Str} {f : Nat} {es : List E} {Q : R → Sto → Prop} : Ok (ev Γ (.make c f es) σ h) Q ↔ Ok (evs Γ es σ h) fun rs h1 => Ok (Γ f (.loc h1.length :: rs) (h1 ++ [.ins c []])) fun r h2 => r = .d .non ∧ Q (.loc h1.length) h2 := by
  rw [ev_make]; simp only [ok_bnd, newA, ok_some']
  refine iff_of_eq (congrArg (Ok (evs Γ es σ h)) (funext fun rs => funext fun h1 => congrArg (Ok _) (funext fun r => funext fun h2 => propext ?_)))
  match r with
  | .d .non => simp
  | .loc _ => simp
  | .d (.bl _) | .d (.int _) | .d (.str _) | .d (.tup _) | .d (.lst _) => simp
theorem w_mc {c m : PySem.Str} {f : Nat} {o : E} {es : List E} {Q : R → Sto → Prop} : Ok (ev Γ (.mc c m f o es) σ h) Q ↔ Ok (ev Γ o σ h) fun x h1 => Ok (isA x c m h1) fun _ h2 => Ok (evs Γ es σ h2) fun rs h3 => Ok (Γ f (x :: rs) h3) Q := by rw [ev_mc]; simp only [ok_bnd]
theorem w_isA {l : Nat} {c m : PySem.Str} {Q : Unit → Sto → Prop} : Ok (isA (.loc l) c m h) Q ↔ ∃ fs, h[l]? = some (.ins c fs) ∧ fs.lookup m = none ∧ Q () h := by
  simp only [isA]
  cases h[l]? with
  | none => simp
  | some o =>
    cases o with
    | ins c' fs =>
      constructor
      · intro q
        simp only at q
        split at q
        · rename_i e
          obtain ⟨rfl, e2⟩ := e
          exact ⟨fs, rfl, Option.isNone_iff_eq_none.mp e2, by simpa using q⟩
        · simp at q
      · rintro ⟨fs', e, e2, q⟩
        cases e
        simp only [e2, Option.isNone_none, and_self, if_true, ok_some']
        exact q
    | _ => simp
theorem w_placeOf {l : Nat} {Q : Nat → Sto → Prop} : Ok (placeOf (.loc l) h) Q ↔ ∃ c fs, h[l]? = some (.ins c fs) ∧ Q l h := by
  simp only [placeOf]
  cases h[l]? with
  | none => simp
  | some o => cases o <;> simp
theorem w_olen {a : E} {Q : R → Sto → Prop} : Ok (ev Γ (.olen a) σ h) Q ↔ Ok (ev Γ a σ h) fun x h1 => ∃ l ls, x = .loc l ∧ h1[l]? = some (.ols ls) ∧ Q (.d (.int ls.length)) h1 := by
  rw [ev_olen]; simp only [ok_bnd]
  refine iff_of_eq (congrArg (Ok (ev Γ a σ h)) (funext fun x => funext fun h1 => propext ?_))
  cases x with
  | d x => simp [olsOf]
  | loc l =>
    simp only [olsOf]
    cases e : h1[l]? with
    | none => simp [e]
    | some o =>
      cases o with
      | ols ls =>
        simp only [ok_some', R.loc.injEq, ok_ok]
        constructor
        · intro q; exact ⟨l, ls, rfl, e, q⟩
        · rintro ⟨_, ls', rfl, e', q⟩; rw [e] at e'; cases e'; exact q
      | _ => simp [e]
theorem w_oix {a i : E} {Q : R → Sto → Prop} : Ok (ev Γ (.oix a i) σ h) Q ↔ Ok (ev Γ a σ h) fun x h1 => Ok (ev Γ i σ h1) fun y h2 => ∃ l ls k j, x = .loc l ∧ h2[l]? = some (.ols ls) ∧ y = .d (.int k) ∧ at' ls k = some j ∧ Q (.loc j) h2 := by
  rw [ev_oix]; simp only [ok_bnd]
  refine iff_of_eq (congrArg (Ok (ev Γ a σ h)) (funext fun x => funext fun h1 => congrArg (Ok (ev Γ i σ h1)) (funext fun y => funext fun h2 => propext ?_)))
  cases x with
  | d x => simp [olsOf]
  | loc l =>
    simp only [olsOf]
    cases e : h2[l]? with
    | none => simp [e]
    | some o =>
      cases o with
      | ols ls =>
        simp only [ok_some', R.loc.injEq]
        match y with
        | .d (.int k) =>
          simp only
          cases ea : at' ls k with
          | none => simp [e, ea]
          | some j => simp [e, ea]
        | .loc _ => simp
        | .d .non | .d (.bl _) | .d (.str _) | .d (.tup _) | .d (.lst _) => simp
      | _ => simp [e]
theorem w_append {l : Nat} {r : R} {Q : R → Sto → Prop} : Ok (meth .append (.loc l) [r] h) Q ↔ Ok (fz r h) fun d h1 => ∃ xs, h1[l]? = some (.lst xs) ∧ xs.length < big ∧ Q (.d .non) (h1.set l (.lst (xs ++ [d]))) := by
  rw [meth_append, ok_bnd]
  constructor <;> intro k <;> refine k.mono fun d h1 q => ?_
  · cases e : h1[l]? with
    | none => rw [e] at q; simp at q
    | some o =>
      rw [e] at q
      cases o with
      | fro xs => simp at q
      | ins _ _ => simp at q
      | ols _ => simp at q
      | lst xs =>
        simp only at q
        by_cases c : xs.length < big
        · rw [if_pos (decide_eq_true c)] at q; exact ⟨xs, rfl, c, by simpa using q⟩
        · rw [if_neg (by simpa using c)] at q; simp at q
  · obtain ⟨xs, e, c, q⟩ := q
    rw [e]
    simp only
    rw [if_pos (decide_eq_true c)]
    simpa using q
end
section
variable {Γ : Calls} {σ : Env} {h : Sto}
theorem w_glo {d : D} {Q : R → Sto → Prop} : Ok (ev Γ (.glo d) σ h) Q ↔ Q (.d d) h := by rw [ev_glo]; exact ok_ok
theorem w_isi {t : Ty} {e : E} {Q : R → Sto → Prop} : Ok (ev Γ (.isi t e) σ h) Q ↔ Ok (ev Γ e σ h) fun r h1 => Ok (rd r h1) fun d h2 => Q (.d (.bl (isiD t d))) h2 := by rw [ev_isi]; simp only [ok_bnd, ok_ok]
theorem w_stS {Q : Fl × Env → Sto → Prop} : Ok (ex Γ .stuck σ h) Q ↔ False := by rw [ex_stuck]; exact ok_none
theorem w_stE {Q : R → Sto → Prop} : Ok (ev Γ .stuck σ h) Q ↔ False := by rw [ev_stuck]; exact ok_none
theorem w_extend {l : Nat} {r : R} {Q : R → Sto → Prop} : Ok (meth .extend (.loc l) [r] h) Q ↔ Ok (rd r h) fun d h1 => ∃ ys xs, d = .lst ys ∧ h1[l]? = some (.lst xs) ∧ fit (xs.length + ys.length) = true ∧ Q (.d .non) (h1.set l (.lst (xs ++ ys))) := by
  rw [meth_extend, ok_bnd]
  refine iff_of_eq (congrArg (Ok (rd r h)) (funext fun d => funext fun h1 => propext ?_))
  cases d with
  | lst ys =>
    simp only [D.lst.injEq, exists_eq_left']
    cases e : h1[l]? with
    | none => simp
    | some o =>
      cases o with
      | fro xs => simp
      | ins _ _ => simp
      | ols _ => simp
      | lst xs =>
        simp only [Option.some.injEq, Ob.lst.injEq, exists_eq_left', and_assoc]
        cases c : fit (xs.length + ys.length) <;> simp [c]
  | _ => simp
theorem w_pop {l : Nat} {Q : R → Sto → Prop} : Ok (meth .pop (.loc l) [] h) Q ↔ ∃ xs, h[l]? = some (.lst xs) ∧ ∃ y, xs[xs.length - 1]? = some y ∧ Q (.d y) (h.set l (.lst xs.dropLast)) := by
  rw [meth_pop]; dsimp only
  cases e : h[l]? with
  | none => simp
  | some o =>
    cases o with
    | fro xs => simp
    | ins _ _ => simp
    | ols _ => simp
    | lst xs =>
      simp only [Option.some.injEq, Ob.lst.injEq, exists_eq_left']
      cases c : xs[xs.length - 1]? with
      | none => simp
      | some y => simp
theorem w_clear {l : Nat} {Q : R → Sto → Prop} : Ok (meth .clear (.loc l) [] h) Q ↔ ∃ xs, h[l]? = some (.lst xs) ∧ Q (.d .non) (h.set l (.lst [])) := by
  rw [meth_clear]; dsimp only
  cases e : h[l]? with
  | none => simp
  | some o => cases o <;> simp
end
/-! ### a wish that is kept for later: what stands behind a call or a loop is not looked at -/
class Cont (α : Type) where
  q : α → Sto → Prop
structure Ask {α : Type} (m : Option (α × Sto)) [c : Cont α] : Prop where
  ok : Ok m c.q
theorem ask {α : Type} {m : Option (α × Sto)} {Q : α → Sto → Prop} (k : Ok m Q) : @Ask α m ⟨Q⟩ := @Ask.mk α m ⟨Q⟩ k
theorem ask_eq {α : Type} {m : Option (α × Sto)} {Q : α → Sto → Prop} : Ok m Q ↔ @Ask α m ⟨Q⟩ := ⟨fun k => @Ask.mk α m ⟨Q⟩ k, fun k => @Ask.ok α m ⟨Q⟩ k⟩
/-! operations at known forms -/
theorem bop_mul {a b : Int} (c : (lim64 a || lim64 b) = true) : bop .mul (.int a) (.int b) = some (.int (a * b)) := if_pos c
theorem bop_fdiv {a b : Int} (c : 0 < b) (c2 : b < 1000000000000000000000000000000000000000000000000000000000000) : bop .fdiv (.int a) (.int b) = some (.int (a / b)) := if_pos (by rw [Bool.and_eq_true]; exact ⟨decide_eq_true c, decide_eq_true (show b < wide from c2)⟩)
theorem bop_mod {a b : Int} (c : 0 < b) : bop .mod (.int a) (.int b) = some (.int (a % b)) := if_pos (decide_eq_true c)
theorem lim64_of {a : Int} (c : -(2 ^ 64) < a) (c2 : a < 2 ^ 64) : lim64 a = true := by simp only [lim64, Bool.and_eq_true, decide_eq_true_eq]; exact ⟨c, c2⟩
theorem bop_mulL {a b : Int} (c : -(2 ^ 64) < a) (c2 : a < 2 ^ 64) : bop .mul (.int a) (.int b) = some (.int (a * b)) := bop_mul (by rw [lim64_of c c2]; rfl)
theorem ixn_of {n : Nat} {i : Int} (c : 0 ≤ i) (c2 : i < n) : ixn n i = some i.toNat := by
  unfold ixn
  rw [if_pos c, if_pos c2]
theorem at_of {α : Type} {xs : List α} {i : Int} {x : α} (c : 0 ≤ i) (e : xs[i.toNat]? = some x) : at' xs i = some x := by
  have := (List.getElem?_eq_some_iff.mp e).1
  unfold at'
  rw [ixn_of c (by omega)]
  exact e
theorem idx_lst {xs : List D} {i : Int} {x : D} (c : 0 ≤ i) (e : xs[i.toNat]? = some x) : idxD (.lst xs) (.int i) = some x := at_of c e
theorem idx_tup {xs : List D} {i : Int} {x : D} (c : 0 ≤ i) (e : xs[i.toNat]? = some x) : idxD (.tup xs) (.int i) = some x := at_of c e

theorem idx_t0 {x : D} {xs : List D} : idxD (.tup (x :: xs)) (.int 0) = some x := by refine idx_tup (by decide) rfl
theorem idx_t1 {x y : D} {xs : List D} : idxD (.tup (x :: y :: xs)) (.int 1) = some y := by refine idx_tup (by decide) rfl
theorem idx_t2 {x y z : D} {xs : List D} : idxD (.tup (x :: y :: z :: xs)) (.int 2) = some z := by refine idx_tup (by decide) rfl
theorem cop_eqO {a b : D} (c : cmpOk a b = true) : cop .eq a b = some (.bl (a.eqb b)) := if_pos c
theorem cop_neO {a b : D} (c : cmpOk a b = true) : cop .ne a b = some (.bl (!a.eqb b)) := if_pos c
theorem cut_to {α : Type} {xs : List α} {a : Int} (c : 0 ≤ a) : cut xs none (some a) = xs.take a.toNat := by
  unfold cut sIx
  simp only [if_neg (show ¬ a < 0 by omega), List.drop_zero, Nat.sub_zero]
  rcases Nat.le_total a.toNat xs.length with k | k
  · rw [Nat.min_eq_left k]
  · rw [Nat.min_eq_right k, List.take_length, List.take_of_length_le k]

theorem bop_addT' {xs ys : List D} (c : fit (xs.length + ys.length) = true) : bop .add (.tup xs) (.tup ys) = some (.tup (xs ++ ys)) := if_pos c
theorem bop_band {a b : Int} (c : 0 ≤ a) (c2 : 0 ≤ b) : bop .band (.int a) (.int b) = some (.int (a.toNat &&& b.toNat : Nat)) := if_pos (by rw [Bool.and_eq_true]; exact ⟨decide_eq_true c, decide_eq_true c2⟩)
theorem at_last {α : Type} {xs : List α} {x : α} : at' (xs ++ [x]) (-1) = some x := by
  have : ixn (xs ++ [x]).length (-1) = some xs.length := by
    unfold ixn
    rw [if_neg (by decide), if_pos (by simp; omega)]
    congr 1
    simp
    omega
  simp only [at', this]
  simp
theorem sto_get {h : Sto} {x : Ob} {t : Sto} : (h ++ (x :: t))[h.length]? = some x := by
  rw [List.getElem?_append_right (Nat.le_refl _), Nat.sub_self]; rfl
theorem sto_set {h : Sto} {x y : Ob} {t : Sto} : (h ++ (x :: t)).set h.length y = h ++ (y :: t) := by
  rw [List.set_append_right _ _ (Nat.le_refl _), Nat.sub_self]; rfl
theorem sto_take {h t : Sto} : (h ++ t).take h.length = h := by simp
theorem stays_none {h h' : Sto} : stays none h h' = true := rfl
theorem cutN {α : Type} {xs : List α} {n : Nat} : cut xs none (some (n : Int)) = xs.take n := by rw [cut_to (by omega)]; rfl
theorem cmpOkR {a b : D} (c : b.dep ≤ 60) : cmpOk a b = true := by unfold cmpOk; exact decide_eq_true (by omega)
mutual
theorem D.eqb_rfl : ∀ x : D, x.eqb x = true
  | .non => rfl
  | .bl a => by simp [D.eqb]
  | .int a => by simp [D.eqb]
  | .str a => by simp [D.eqb]
  | .tup a => by simp only [D.eqb]; exact D.eqbs_rfl a
  | .lst a => by simp only [D.eqb]; exact D.eqbs_rfl a
theorem D.eqbs_rfl : ∀ x : List D, D.eqbs x x = true
  | [] => rfl
  | a :: r => by simp only [D.eqbs, Bool.and_eq_true]; exact ⟨D.eqb_rfl a, D.eqbs_rfl r⟩
end
theorem Ok.eq {α : Type} {m : Option (α × Sto)} {a : α} {h : Sto} (k : Ok m fun b h1 => b = a ∧ h1 = h) : m = some (a, h) := by
  obtain ⟨b, h1, e, rfl, rfl⟩ := k
  exact e
theorem turns_filtG {α β : Type} {d : β → Ite} {l : Option Nat} {f : Ite → M (Option α)} {g : β → Option α} {h : Sto} {xs : List β} {Q : List α → Sto → Prop} (e : ∀ x ∈ xs, Ok (f (d x) h) fun o h1 => o = g x ∧ h1 = h) (s : stays l h h = true) (q : Q (xs.filterMap g) h) : Ok (turns l f (xs.map d) h) Q :=
  ⟨_, _, turns_pure (fun x hx => (e x hx).eq) s, q⟩
theorem turns_filt {l : Option Nat} {f : Ite → M (Option D)} {g : D → Option D} {h : Sto} {xs : List D} {Q : List D → Sto → Prop} (e : ∀ x ∈ xs, Ok (f (dI x) h) fun o h1 => o = g x ∧ h1 = h) (s : stays l h h = true) (q : Q (xs.filterMap g) h) : Ok (turns l f (xs.map dI) h) Q := turns_filtG e s q
theorem stays_self {l : Nat} {h : Sto} {xs : List D} (e : h[l]? = some (.lst xs)) : stays (some l) h h = true := by
  simp only [stays, e, Ob.same, Ob.isL, Ob.items, Bool.true_and]
  exact D.sames_refl _
theorem stays_ols {l : Nat} {h h1 : Sto} {ls : List Nat} (e : h[l]? = some (.ols ls)) (e1 : h1[l]? = some (.ols ls)) : stays (some l) h h1 = true := by
  simp only [stays, e, e1, Ob.same, beq_self_eq_true]
theorem R.same_self : ∀ x : R, x.same x = true
  | .d x => D.same_refl x
  | .loc l => by simp [R.same]
theorem fsSame_self : ∀ fs : List (PySem.Str × R), fsSame fs fs = true
  | [] => rfl
  | (f, x) :: r => by simp [fsSame, R.same_self, fsSame_self r]
theorem objs_cons (o : Ob) (h : Sto) (o1 : Ob) (t : Sto) : objs (o :: h) (o1 :: t) = ((match o, o1 with
      | .ins c fs, .ins c1 fs1 => c == c1 && fsSame fs fs1
      | .ols a, .ols b => a == b
      | .lst _, .lst _ => true
      | .lst _, .fro _ => true
      | .fro _, .lst _ => true
      | .fro _, .fro _ => true
      | _, _ => false) && objs h t) := rfl
theorem objs_app : ∀ {h t : Sto}, objs h (h ++ t) = true
  | [], _ => rfl
  | o :: h, t => by
    rw [List.cons_append, objs_cons, objs_app, Bool.and_true]
    cases o <;> simp [fsSame_self]
theorem objs_self {h : Sto} : objs h h = true := by
  have := objs_app (h := h) (t := [])
  rwa [List.append_nil] at this
theorem intsD_len' : ∀ (n : Nat) (lo : Int), (intsD lo n).length = n
  | 0, _ => rfl
  | n + 1, lo => by simp [intsD, intsD_len' n]
theorem intsD_at : ∀ (n : Nat) (lo : Int) (i : Nat) (x : D), (intsD lo n)[i]? = some x → i < n ∧ x = .int (lo + i)
  | 0, lo, i, x, e => by simp [intsD] at e
  | n + 1, lo, i, x, e => by
    cases i with
    | zero => simp [intsD] at e; exact ⟨by omega, by rw [← e]; simp⟩
    | succ i =>
      simp only [intsD, List.getElem?_cons_succ] at e
      obtain ⟨h1, h2⟩ := intsD_at n (lo + 1) i x e
      refine ⟨by omega, ?_⟩
      rw [h2]
      congr 1
      push_cast
      omega
/-- a call -/
theorem w_callF {P : List F} {n f : Nat} {rs rs' : List R} {h : Sto} {Q : R → Sto → Prop} {F : IT.F} (e : P[f]? = some F) (er : fillD F.np F.dfl rs = rs') (el : rs'.length = F.np)
    (k : Ok (exs (callF P n) F.body (rs'.map some ++ List.replicate (F.ns - F.np) none) h) fun p h1 => match p.1 with
      | .ret r => Ok (fin h F.all F.keep r h1) Q
      | .nx => Ok (fin h F.all F.keep (.d .non) h1) Q
      | _ => False) : Ok (callF P (n + 1) f rs h) Q := by
  obtain ⟨⟨fl, σ⟩, h1, ee, q⟩ := k
  rw [callF_succ]
  simp only [e, er]
  rw [if_pos el, ee]
  cases fl with
  | ret r => exact q
  | nx => exact q
  | brk => exact q.elim
  | cnt => exact q.elim
theorem fill0 {np : Nat} {rs : List R} : fillD np [] rs = rs := by
  unfold fillD
  split
  · rfl
  · simp
/-- .. without defaults -/
theorem w_call0 {P : List F} {n f : Nat} {rs : List R} {h : Sto} {Q : R → Sto → Prop} {F : IT.F} (e : P[f]? = some F) (ed : F.dfl = []) (el : rs.length = F.np)
    (k : Ok (exs (callF P n) F.body (rs.map some ++ List.replicate (F.ns - F.np) none) h) fun p h1 => match p.1 with
      | .ret r => Ok (fin h F.all F.keep r h1) Q
      | .nx => Ok (fin h F.all F.keep (.d .non) h1) Q
      | _ => False) : Ok (callF P (n + 1) f rs h) Q := w_callF e (by rw [ed]; exact fill0) el k
theorem fin_d {k : Bool} {x : D} {h h1 : Sto} {Q : R → Sto → Prop} : Ok (fin h false k (.d x) h1) Q ↔ objs h h1 = true ∧ Q (.d x) (h1.take h.length) := by
  simp only [fin, Bool.false_eq_true, if_false]
  by_cases c : objs h h1 = true
  · rw [if_pos c]; simp [fin0, c]
  · rw [if_neg c]; simp [c]
theorem fin_all {k : Bool} {r : R} {h h1 : Sto} {Q : R → Sto → Prop} : Ok (fin h true k r h1) Q ↔ Q r h1 := by simp only [fin, if_true, ok_some']
/-- a fresh list that is given back -/
theorem fin_new {xs : List D} {h t : Sto} {Q : R → Sto → Prop} (q : Q (.d (.lst xs)) h) : Ok (fin h false false (.loc h.length) (h ++ .lst xs :: t)) Q := by
  simp only [fin, Bool.false_eq_true, if_false, objs_app, if_true, fin0, sto_get, Nat.lt_irrefl, sto_take, ok_some']
  exact q
end IT

set_option linter.all false
set_option maxRecDepth 10000
/-! The wishes by definition: what an expression asks, as a recursive function. -/
namespace IT
open PySem (Str)
noncomputable def wO {α : Type} (o : Option α) (Q : α → Prop) : Prop := match o with
  | some a => Q a
  | none => False
noncomputable def wB (t : Bool) (A B : Prop) : Prop := match t with
  | true => A
  | false => B
noncomputable def wLs (o : Ob) (Q : List D → Prop) : Prop := match o with
  | .lst xs => Q xs
  | .fro xs => Q xs
  | .ins _ _ => False
  | .ols _ => False
noncomputable def wLw (o : Ob) (Q : List D → Prop) : Prop := match o with
  | .lst xs => Q xs
  | .fro _ => False
  | .ins _ _ => False
  | .ols _ => False
noncomputable def wIn (o : Ob) (Q : Str → List (Str × R) → Prop) : Prop := match o with
  | .ins c fs => Q c fs
  | .lst _ => False
  | .fro _ => False
  | .ols _ => False
noncomputable def wOl (o : Ob) (Q : List Nat → Prop) : Prop := match o with
  | .ols ls => Q ls
  | .lst _ => False
  | .fro _ => False
  | .ins _ _ => False
noncomputable def wRd (r : R) (h : Sto) (Q : D → Sto → Prop) : Prop := match r with
  | .d x => Q x h
  | .loc l => wO h[l]? fun o => wLs o fun xs => Q (.lst xs) h
noncomputable def wFz (r : R) (h : Sto) (Q : D → Sto → Prop) : Prop := match r with
  | .d x => Q x h
  | .loc l => wO h[l]? fun o => wLs o fun xs => Q (.lst xs) (h.set l (.fro xs))
noncomputable def wRds : List R → Sto → (List D → Sto → Prop) → Prop
  | [], h, Q => Q [] h
  | r :: rs, h, Q => wRd r h fun d h1 => wRds rs h1 fun ds h2 => Q (d :: ds) h2
noncomputable def wFzs : List R → Sto → (List D → Sto → Prop) → Prop
  | [], h, Q => Q [] h
  | r :: rs, h, Q => wFz r h fun d h1 => wFzs rs h1 fun ds h2 => Q (d :: ds) h2
noncomputable def wBl (r : R) (Q : Bool → Prop) : Prop := match r with
  | .d (.bl b) => Q b
  | _ => False
noncomputable def wInt (r : R) (Q : Int → Prop) : Prop := match r with
  | .d (.int b) => Q b
  | _ => False
noncomputable def wPl (r : R) (Q : Nat → Prop) : Prop := match r with
  | .loc l => Q l
  | .d _ => False
noncomputable def wTup (d : D) (Q : List D → Prop) : Prop := match d with
  | .tup xs => Q xs
  | _ => False
mutual
noncomputable def wT : Tg → R → Env → Sto → (Env → Sto → Prop) → Prop
  | .name i, r, σ, h, Q => Q (σ.set i (some r)) h
  | .tup ts, r, σ, h, Q => wRd r h fun d h1 => wTup d fun xs => wTs ts xs σ h1 Q
noncomputable def wTs : List Tg → List D → Env → Sto → (Env → Sto → Prop) → Prop
  | [], xs, σ, h, Q => match xs with
    | [] => Q σ h
    | _ :: _ => False
  | t :: ts, xs, σ, h, Q => match xs with
    | x :: xs => wT t (.d x) σ h fun σ' h1 => wTs ts xs σ' h1 Q
    | [] => False
end
noncomputable def wBI (tg : Tg) (x : Ite) (σ : Env) (h : Sto) (Q : Env → Sto → Prop) : Prop := match x with
  | .r x => wT tg x σ h Q
  | .en i x => match tg with
    | .tup [a, b] => wT a (.d (.int i)) σ h fun σ' h1 => wT b x σ' h1 Q
    | _ => False
noncomputable def wWk (r : R) (h : Sto) (Q : Wk → Sto → Prop) : Prop := match r with
  | .d (.tup xs) => Q ⟨xs.map dI, none⟩ h
  | .d (.lst xs) => Q ⟨xs.map dI, none⟩ h
  | .d _ => False
  | .loc l => wO h[l]? fun o => match o with
    | .lst xs => Q ⟨xs.map dI, some l⟩ h
    | .fro xs => Q ⟨xs.map dI, some l⟩ h
    | .ols ls => Q ⟨ls.map fun l => .r (.loc l), some l⟩ h
    | .ins _ _ => False
noncomputable def wEn (r : R) (h : Sto) (Q : Wk → Sto → Prop) : Prop := match r with
  | .loc l => wWk (.loc l) h fun w h2 => wO (enuFrom 0 w.xs) fun l => Q ⟨l, w.l⟩ h2
  | .d (.lst xs) => wO (enuFrom 0 (xs.map dI)) fun l => Q ⟨l, none⟩ h
  | .d _ => False
noncomputable def wMe (m : Me) (x : R) (rs : List R) (h : Sto) (Q : R → Sto → Prop) : Prop := match m, rs with
  | .append, [r] => wPl x fun l => wFz r h fun d h1 => wO h1[l]? fun o => wLw o fun xs => xs.length < big ∧ Q (.d .non) (h1.set l (.lst (xs ++ [d])))
  | .pop, [] => wPl x fun l => wO h[l]? fun o => wLw o fun xs => wO xs[xs.length - 1]? fun y => Q (.d y) (h.set l (.lst xs.dropLast))
  | .clear, [] => wPl x fun l => wO h[l]? fun o => wLw o fun _ => Q (.d .non) (h.set l (.lst []))
  | .extend, [r] => wPl x fun l => wRd r h fun d h1 => wO (match d with | .lst ys => some ys | _ => none) fun ys => wO h1[l]? fun o => wLw o fun xs => fit (xs.length + ys.length) = true ∧ Q (.d .non) (h1.set l (.lst (xs ++ ys)))
  | m, rs => Ok (meth m x rs h) Q
mutual
noncomputable def wE (Γ : Calls) : E → Env → Sto → (R → Sto → Prop) → Prop
  | .con d, _, h, Q => Q (.d d) h
  | .var i, σ, h, Q => wO σ[i]? fun o => wO o fun r => Q r h
  | .bin o a b, σ, h, Q => wE Γ a σ h fun x h1 => wE Γ b σ h1 fun y h2 => wRd x h2 fun x h3 => wRd y h3 fun y h4 => wO (bop o x y) fun z => Q (.d z) h4
  | .neg a, σ, h, Q => wE Γ a σ h fun x h1 => wInt x fun i => Q (.d (.int (-i))) h1
  | .cmp o a b, σ, h, Q => wE Γ a σ h fun x h1 => wE Γ b σ h1 fun y h2 => wRd x h2 fun x h3 => wRd y h3 fun y h4 => wO (cop o x y) fun z => Q (.d z) h4
  | .and a b, σ, h, Q => wE Γ a σ h fun x h1 => wBl x fun c => wB c (wE Γ b σ h1 Q) (Q (.d (.bl false)) h1)
  | .or a b, σ, h, Q => wE Γ a σ h fun x h1 => wBl x fun c => wB c (Q (.d (.bl true)) h1) (wE Γ b σ h1 Q)
  | .not a, σ, h, Q => wE Γ a σ h fun x h1 => wRd x h1 fun d h2 => wO (tru d) fun b => Q (.d (.bl (!b))) h2
  | .ife c a b, σ, h, Q => wC Γ c σ h fun t h1 => wB t (wE Γ a σ h1 Q) (wE Γ b σ h1 Q)
  | .tup es, σ, h, Q => wEs Γ es σ h fun rs h1 => wFzs rs h1 fun ds h2 => Q (.d (.tup ds)) h2
  | .lst m l, σ, h, Q => wL Γ l σ h fun xs h1 => match m with
    | true => Q (.loc h1.length) (h1 ++ [.lst xs])
    | false => Q (.d (.lst xs)) h1
  | .idx a i, σ, h, Q => wE Γ a σ h fun x h1 => wE Γ i σ h1 fun y h2 => wRd x h2 fun x h3 => wRd y h3 fun y h4 => wO (idxD x y) fun z => Q (.d z) h4
  | .sli a lo hi, σ, h, Q => wE Γ a σ h fun x h1 => wE Γ lo σ h1 fun l h2 => wE Γ hi σ h2 fun u h3 => wRd x h3 fun x h4 => wRd l h4 fun l h5 => wRd u h5 fun u h6 => wO (sliD x l u) fun z => Q (.d z) h6
  | .call f es, σ, h, Q => wEs Γ es σ h fun rs h1 => @Ask _ (Γ f rs h1) ⟨Q⟩
  | .bi b es, σ, h, Q => wEs Γ es σ h fun rs h1 => wRds rs h1 fun ds h2 => wO (biD b ds) fun z => Q (.d z) h2
  | .me m o es, σ, h, Q => wE Γ o σ h fun x h1 => wPl x fun l => wO h1[l]? fun o => wLs o fun _ => wEs Γ es σ h1 fun rs h3 => wMe m (.loc l) rs h3 Q
  | .glo d, _, h, Q => Q (.d d) h
  | .isi t e, σ, h, Q => wE Γ e σ h fun r h1 => wRd r h1 fun d h2 => Q (.d (.bl (isiD t d))) h2
  | .fld o f, σ, h, Q => wE Γ o σ h fun x h1 => wPl x fun l => wO h1[l]? fun o => wIn o fun _ fs => wO (fs.lookup f) fun r => Q r h1
  | .make c f es, σ, h, Q => wEs Γ es σ h fun rs h1 => @Ask _ (Γ f (.loc h1.length :: rs) (h1 ++ [.ins c []])) ⟨fun r h2 => r = .d .non ∧ Q (.loc h1.length) h2⟩
  | .mc c m f o es, σ, h, Q => wE Γ o σ h fun x h1 => wPl x fun l => wO h1[l]? fun o => wIn o fun c' fs => c' = c ∧ fs.lookup m = none ∧ wEs Γ es σ h1 fun rs h3 => @Ask _ (Γ f (.loc l :: rs) h3) ⟨Q⟩
  | .lstO tg it c el, σ, h, Q => wI Γ it σ h fun w h1 => @Ask _ (turns w.l (oturn Γ tg c el σ) w.xs h1) ⟨fun ls h2 => Q (.loc h2.length) (h2 ++ [.ols ls])⟩
  | .oix a i, σ, h, Q => wE Γ a σ h fun x h1 => wE Γ i σ h1 fun y h2 => wPl x fun l => wO h2[l]? fun o => wOl o fun ls => wInt y fun k => wO (at' ls k) fun j => Q (.loc j) h2
  | .olen a, σ, h, Q => wE Γ a σ h fun x h1 => wPl x fun l => wO h1[l]? fun o => wOl o fun ls => Q (.d (.int ls.length)) h1
  | .stuck, _, _, _ => False
noncomputable def wEs (Γ : Calls) : List E → Env → Sto → (List R → Sto → Prop) → Prop
  | [], _, h, Q => Q [] h
  | e :: es, σ, h, Q => wE Γ e σ h fun r h1 => wEs Γ es σ h1 fun rs h2 => Q (r :: rs) h2
noncomputable def wC (Γ : Calls) : T → Env → Sto → (Bool → Sto → Prop) → Prop
  | .val e, σ, h, Q => wE Γ e σ h fun r h1 => wRd r h1 fun d h2 => wO (tru d) fun t => Q t h2
  | .and a b, σ, h, Q => wC Γ a σ h fun t h1 => wB t (wC Γ b σ h1 Q) (Q false h1)
  | .or a b, σ, h, Q => wC Γ a σ h fun t h1 => wB t (Q true h1) (wC Γ b σ h1 Q)
  | .not a, σ, h, Q => wC Γ a σ h fun t h1 => Q (!t) h1
noncomputable def wCs (Γ : Calls) : List T → Env → Sto → (Bool → Sto → Prop) → Prop
  | [], _, h, Q => Q true h
  | c :: cs, σ, h, Q => wC Γ c σ h fun t h1 => wB t (wCs Γ cs σ h1 Q) (Q false h1)
noncomputable def wL (Γ : Calls) : L → Env → Sto → (List D → Sto → Prop) → Prop
  | .disp es, σ, h, Q => wEs Γ es σ h fun rs h1 => wFzs rs h1 Q
  | .comp tg it c el, σ, h, Q => wI Γ it σ h fun w h1 => @Ask _ (turns w.l (cturn Γ tg c el σ) w.xs h1) ⟨Q⟩
noncomputable def wI (Γ : Calls) : I → Env → Sto → (Wk → Sto → Prop) → Prop
  | .seq e, σ, h, Q => wE Γ e σ h fun r h1 => wWk r h1 Q
  | .rng e, σ, h, Q => wE Γ e σ h fun r h1 => wInt r fun n => (-(2 ^ 62) ≤ n ∧ n ≤ 16777216) ∧ Q ⟨(intsD 0 n.toNat).map dI, none⟩ h1
  | .enu e, σ, h, Q => wE Γ e σ h fun r h1 => wEn r h1 Q
end
mutual
noncomputable def wS (Γ : Calls) : S → Env → Sto → (Fl × Env → Sto → Prop) → Prop
  | .asg tg e, σ, h, Q => wE Γ e σ h fun r h1 => wT tg r σ h1 fun σ' h2 => Q (.nx, σ') h2
  | .setN c o f e, σ, h, Q => wE Γ e σ h fun r h1 => wE Γ o σ h1 fun x h2 => wPl x fun l => wO h2[l]? fun ob => wIn ob fun c' fs => c' = c ∧ fs.length < 900 ∧ Q (.nx, σ) (h2.set l (.ins c' (putF f r fs)))
  | .exp e, σ, h, Q => wE Γ e σ h fun _ h1 => Q (.nx, σ) h1
  | .ife c a b, σ, h, Q => wC Γ c σ h fun t h1 => wB t (wSs Γ a σ h1 Q) (wSs Γ b σ h1 Q)
  | .for tg it b, σ, h, Q => wI Γ it σ h fun w h1 => @Ask _ (loop w.l (fun x σ => bnd (bindI tg x σ) fun σ' => exs Γ b σ') w.xs σ h1) ⟨Q⟩
  | .ret e, σ, h, Q => wE Γ e σ h fun r h1 => Q (.ret r, σ) h1
  | .brk, σ, h, Q => Q (.brk, σ) h
  | .cnt, σ, h, Q => Q (.cnt, σ) h
  | .stuck, _, _, _ => False
noncomputable def wSs (Γ : Calls) : List S → Env → Sto → (Fl × Env → Sto → Prop) → Prop
  | [], σ, h, Q => Q (.nx, σ) h
  | s :: r, σ, h, Q => wS Γ s σ h fun p h1 => match p.1 with
    | .nx => wSs Γ r p.2 h1 Q
    | .ret r => Q (.ret r, p.2) h1
    | .brk => Q (.brk, p.2) h1
    | .cnt => Q (.cnt, p.2) h1
end
end IT

set_option linter.all false
set_option maxRecDepth 10000
namespace IT
open PySem (Str)
theorem ex_wO {α : Type} {o : Option α} {Q : α → Prop} : (∃ a, o = some a ∧ Q a) = wO o Q := by
  cases o <;> simp [wO]
theorem and_wB {t : Bool} {A B : Prop} : ((t = true → A) ∧ (t = false → B)) = wB t A B := by cases t <;> simp [wB]
theorem and_wB' {t : Bool} {A B : Prop} : ((t = false → B) ∧ (t = true → A)) = wB t A B := by cases t <;> simp [wB]
section
variable {h : Sto}
theorem qRd {r : R} {Q : D → Sto → Prop} : Ok (rd r h) Q = wRd r h Q := by
  cases r with
  | d x => exact propext ok_rd_d
  | loc l =>
    rw [propext w_rd_loc]
    simp only [wRd, ← ex_wO]
    congr; funext o; congr; cases o <;> simp [wLs, Ob.isL, Ob.items]
theorem qFz {r : R} {Q : D → Sto → Prop} : Ok (fz r h) Q = wFz r h Q := by
  cases r with
  | d x => exact propext ok_fz_d
  | loc l =>
    rw [propext w_fz_loc]
    simp only [wFz, ← ex_wO]
    congr; funext o; congr; cases o <;> simp [wLs, Ob.isL, Ob.items]
theorem qRds : ∀ {rs : List R} {h : Sto} {Q : List D → Sto → Prop}, Ok (rds rs h) Q = wRds rs h Q
  | [], h, Q => propext w_rds_nil
  | r :: rs, h, Q => by rw [propext w_rds_cons, wRds, qRd]; simp only [qRds]
theorem qFzs : ∀ {rs : List R} {h : Sto} {Q : List D → Sto → Prop}, Ok (fzs rs h) Q = wFzs rs h Q
  | [], h, Q => propext w_fzs_nil
  | r :: rs, h, Q => by rw [propext w_fzs_cons, wFzs, qFz]; simp only [qFzs]
mutual
theorem qT : ∀ (tg : Tg) (r : R) (σ : Env) (h : Sto) (Q : Env → Sto → Prop), Ok (bindT tg r σ h) Q = wT tg r σ h Q
  | .name i, r, σ, h, Q => by rw [propext w_bname, wT]
  | .tup ts, r, σ, h, Q => by
    rw [propext w_btup, wT, qRd]
    congr; funext d h1
    cases d <;> simp [wTup, qTs ts]
theorem qTs : ∀ (ts : List Tg) (xs : List D) (σ : Env) (h : Sto) (Q : Env → Sto → Prop), Ok (bindTs ts xs σ h) Q = wTs ts xs σ h Q
  | [], [], σ, h, Q => by rw [propext w_bts_nil, wTs]
  | [], _ :: _, σ, h, Q => by simp [bindTs, wTs]
  | t :: ts, [], σ, h, Q => by simp [bindTs, wTs]
  | t :: ts, x :: xs, σ, h, Q => by rw [propext w_bts_cons, qT t]; simp only [qTs ts, wTs]
end
theorem qBI {tg : Tg} {x : Ite} {σ : Env} {Q : Env → Sto → Prop} : Ok (bindI tg x σ h) Q = wBI tg x σ h Q := by
  cases x with
  | r x => rw [propext w_bI, qT]; rfl
  | en i x =>
    match tg with
    | .tup [a, b] => rw [propext w_bIe, qT]; simp only [qT]; rfl
    | .name _ => simp [bindI, wBI]
    | .tup [] => simp [bindI, wBI]
    | .tup [_] => simp [bindI, wBI]
    | .tup (_ :: _ :: _ :: _) => simp [bindI, wBI]
theorem qWk {r : R} {Q : Wk → Sto → Prop} : Ok (wkAny r h) Q = wWk r h Q := by
  match r with
  | .d (.tup xs) => exact propext w_wa_tup
  | .d (.lst xs) => exact propext w_wa_lst
  | .d (.str _) => simp [wkAny, olsOf, wkOf, items, wWk]
  | .d .non => simp [wkAny, olsOf, wkOf, items, wWk]
  | .d (.bl _) => simp [wkAny, olsOf, wkOf, items, wWk]
  | .d (.int _) => simp [wkAny, olsOf, wkOf, items, wWk]
  | .loc l => rw [propext w_wa_loc, ex_wO]; rfl
theorem qEn {r : R} {Q : Wk → Sto → Prop} : (isLs r = true ∧ Ok (wkAny r h) fun w h2 => ∃ l, enuFrom 0 w.xs = some l ∧ Q ⟨l, w.l⟩ h2) = wEn r h Q := by
  simp only [qWk, ex_wO]
  match r with
  | .loc l => simp [isLs, wEn]
  | .d (.lst xs) => simp [isLs, wEn, wWk]
  | .d .non => simp [isLs, wEn]
  | .d (.bl _) => simp [isLs, wEn]
  | .d (.int _) => simp [isLs, wEn]
  | .d (.str _) => simp [isLs, wEn]
  | .d (.tup _) => simp [isLs, wEn]
theorem lw_ex {l : Nat} {p : List D → Prop} : (∃ xs, h[l]? = some (.lst xs) ∧ p xs) = wO h[l]? fun o => wLw o p := by
  cases h[l]? with
  | none => simp [wO]
  | some o => cases o <;> simp [wO, wLw]
theorem qMe {m : Me} {l : Nat} {rs : List R} {Q : R → Sto → Prop} : Ok (meth m (.loc l) rs h) Q = wMe m (.loc l) rs h Q := by
  unfold wMe
  split
  · rw [propext w_append, qFz]; simp only [wPl, lw_ex]
  · rw [propext w_pop]; simp only [wPl, lw_ex, ex_wO]
  · rw [propext w_clear]; simp only [wPl, lw_ex]
  · rw [propext w_extend, qRd]
    simp only [wPl]
    congr; funext d h1
    cases d with
    | lst ys => simp only [D.lst.injEq, exists_and_left, exists_eq_left', lw_ex, wO]
    | _ => simp [wO]
  · rfl
end
end IT

set_option linter.all false
set_option maxRecDepth 10000
set_option maxHeartbeats 1000000
namespace IT
open PySem (Str)
theorem in_ex {h : Sto} {l : Nat} {p : Str → List (Str × R) → Prop} : (∃ c fs, h[l]? = some (.ins c fs) ∧ p c fs) = wO h[l]? fun o => wIn o p := by
  cases h[l]? with
  | none => simp [wO]
  | some o =>
    cases o with
    | ins c fs =>
      simp only [wO, wIn, eq_iff_iff]
      constructor
      · rintro ⟨_, _, e, q⟩; cases e; exact q
      · intro q; exact ⟨_, _, rfl, q⟩
    | _ => simp [wO, wIn]
theorem in_ex1 {h : Sto} {l : Nat} {c : Str} {p : List (Str × R) → Prop} : (∃ fs, h[l]? = some (.ins c fs) ∧ p fs) = wO h[l]? fun o => wIn o fun c' fs => c' = c ∧ p fs := by
  cases h[l]? with
  | none => simp [wO]
  | some o =>
    cases o with
    | ins c' fs =>
      simp only [wO, wIn, eq_iff_iff]
      constructor
      · rintro ⟨_, e, q⟩; cases e; exact ⟨rfl, q⟩
      · rintro ⟨rfl, q⟩; exact ⟨_, rfl, q⟩
    | _ => simp [wO, wIn]
theorem int_ex {x : R} {p : Int → Prop} : (∃ i, x = .d (.int i) ∧ p i) = wInt x p := by
  match x with
  | .d (.int i) => simp [wInt]
  | .loc _ | .d .non | .d (.bl _) | .d (.str _) | .d (.tup _) | .d (.lst _) => simp [wInt]
theorem bl_ex {x : R} {p : Bool → Prop} : (∃ i, x = .d (.bl i) ∧ p i) = wBl x p := by
  match x with
  | .d (.bl i) => simp [wBl]
  | .loc _ | .d .non | .d (.int _) | .d (.str _) | .d (.tup _) | .d (.lst _) => simp [wBl]
theorem qGetA {x : R} {f : Str} {h : Sto} {Q : R → Sto → Prop} : Ok (getA x f h) Q = wPl x fun l => wO h[l]? fun o => wIn o fun _ fs => wO (fs.lookup f) fun r => Q r h := by
  cases x with
  | d x => simp [getA, wPl]
  | loc l => rw [propext w_getA]; simp only [ex_wO]; rw [in_ex]; rfl
theorem qIsLst {x : R} {h : Sto} {Q : Unit → Sto → Prop} : Ok (isLst x h) Q = wPl x fun l => wO h[l]? fun o => wLs o fun _ => Q () h := by
  cases x with
  | d x => simp [isLst, wPl]
  | loc l =>
    rw [propext w_isLst]
    simp only [wPl, ← ex_wO]
    congr; funext o; congr; cases o <;> simp [wLs, Ob.isL]
theorem qIsA {x : R} {c m : Str} {h : Sto} {Q : Unit → Sto → Prop} : Ok (isA x c m h) Q = wPl x fun l => wO h[l]? fun o => wIn o fun c' fs => c' = c ∧ fs.lookup m = none ∧ Q () h := by
  cases x with
  | d x => simp [isA, wPl]
  | loc l => rw [propext w_isA, in_ex1]; rfl
theorem qSetN {x : R} {c f : Str} {v : R} {h : Sto} {Q : Unit → Sto → Prop} : Ok (setN x c f v h) Q = wPl x fun l => wO h[l]? fun o => wIn o fun c' fs => c' = c ∧ fs.length < 900 ∧ Q () (h.set l (.ins c' (putF f v fs))) := by
  cases x with
  | d x => simp [setN, wPl]
  | loc l =>
    rw [propext w_setN, in_ex1]
    simp only [wPl]
    cases h[l]? with
    | none => rfl
    | some o =>
      cases o with
      | ins c' fs =>
        simp only [wO, wIn]
        apply propext
        constructor
        · rintro ⟨rfl, q⟩; exact ⟨rfl, q⟩
        · rintro ⟨rfl, q⟩; exact ⟨rfl, q⟩
      | _ => rfl
theorem ols_ex {h : Sto} {x : R} {p : Nat → List Nat → Prop} : (∃ l ls, x = .loc l ∧ h[l]? = some (.ols ls) ∧ p l ls) = wPl x fun l => wO h[l]? fun o => wOl o fun ls => p l ls := by
  cases x with
  | d x => simp [wPl]
  | loc l =>
    simp only [R.loc.injEq, wPl]
    cases e : h[l]? with
    | none =>
      simp only [wO, eq_iff_iff, iff_false]
      rintro ⟨_, ls, rfl, e2, _⟩
      rw [e] at e2; cases e2
    | some o =>
      simp only [wO, eq_iff_iff]
      constructor
      · rintro ⟨_, ls, rfl, e2, q⟩
        rw [e] at e2; cases e2
        exact q
      · intro q
        cases o with
        | ols ls => exact ⟨l, ls, rfl, e, q⟩
        | _ => exact q.elim
theorem qOix {x y : R} {h : Sto} {Q : R → Sto → Prop} : (∃ l ls k j, x = .loc l ∧ h[l]? = some (.ols ls) ∧ y = .d (.int k) ∧ at' ls k = some j ∧ Q (.loc j) h) = wPl x fun l => wO h[l]? fun o => wOl o fun ls => wInt y fun k => wO (at' ls k) fun j => Q (.loc j) h := by
  rw [← ols_ex (p := fun l ls => wInt y fun k => wO (at' ls k) fun j => Q (.loc j) h)]
  simp only [← int_ex, ← ex_wO, eq_iff_iff]
  constructor
  · rintro ⟨l, ls, k, j, a, b, c, d, q⟩; exact ⟨l, ls, a, b, k, c, j, d, q⟩
  · rintro ⟨l, ls, a, b, k, c, j, d, q⟩; exact ⟨l, ls, k, j, a, b, c, d, q⟩
theorem qMe' {m : Me} {x : R} {Γ : Calls} {h : Sto} {W : Sto → (List R → Sto → Prop) → Prop} {Q : R → Sto → Prop} : (wPl x fun l => wO h[l]? fun o => wLs o fun _ => W h fun rs h3 => Ok (meth m x rs h3) Q) = (wPl x fun l => wO h[l]? fun o => wLs o fun _ => W h fun rs h3 => wMe m (.loc l) rs h3 Q) := by
  cases x with
  | d x => rfl
  | loc l => simp only [wPl, qMe]
theorem ask_ok {α : Type} {m : Option (α × Sto)} {Q : α → Sto → Prop} : Ok m Q = @Ask α m ⟨Q⟩ := propext ask_eq
theorem mc_wPl {c m : Str} {x : R} {f : Nat} {Γ : Calls} {h : Sto} {W : Sto → (List R → Sto → Prop) → Prop} {Q : R → Sto → Prop} : (wPl x fun l => wO h[l]? fun o => wIn o fun c' fs => c' = c ∧ fs.lookup m = none ∧ W h fun rs h3 => Ok (Γ f (x :: rs) h3) Q) = (wPl x fun l => wO h[l]? fun o => wIn o fun c' fs => c' = c ∧ fs.lookup m = none ∧ W h fun rs h3 => @Ask _ (Γ f (.loc l :: rs) h3) ⟨Q⟩) := by
  cases x with
  | d x => rfl
  | loc l => simp only [wPl, ask_ok]
mutual
theorem qE (Γ : Calls) : ∀ (e : E) (σ : Env) (h : Sto) (Q : R → Sto → Prop), Ok (ev Γ e σ h) Q = wE Γ e σ h Q
  | .con d, σ, h, Q => by rw [propext w_con]; rfl
  | .var i, σ, h, Q => by
    refine (propext w_var).trans ?_
    show _ = wO σ[i]? fun o => wO o fun r => Q r h
    cases σ[i]? with
    | none => simp [wO]
    | some o => cases o <;> simp [wO]
  | .bin o a b, σ, h, Q => by rw [propext w_bin, qE Γ a]; simp only [qE Γ b, qRd, ex_wO]; rfl
  | .neg a, σ, h, Q => by rw [propext w_neg, qE Γ a]; simp only [int_ex]; rfl
  | .cmp o a b, σ, h, Q => by rw [propext w_cmp, qE Γ a]; simp only [qE Γ b, qRd, ex_wO]; rfl
  | .and a b, σ, h, Q => by rw [propext w_and, qE Γ a]; simp only [qE Γ b, bl_ex, and_wB]; rfl
  | .or a b, σ, h, Q => by rw [propext w_or, qE Γ a]; simp only [qE Γ b, bl_ex, and_wB']; rfl
  | .not a, σ, h, Q => by rw [propext w_not, qE Γ a]; simp only [qRd, ex_wO]; rfl
  | .ife c a b, σ, h, Q => by rw [propext w_ife, qC Γ c]; simp only [qE Γ a, qE Γ b, and_wB]; rfl
  | .tup es, σ, h, Q => by rw [propext w_tup, qEs Γ es]; simp only [qFzs]; rfl
  | .lst true l, σ, h, Q => by rw [propext w_lstT, qL Γ l]; rfl
  | .lst false l, σ, h, Q => by rw [propext w_lstF, qL Γ l]; rfl
  | .idx a b, σ, h, Q => by rw [propext w_idx, qE Γ a]; simp only [qE Γ b, qRd, ex_wO]; rfl
  | .sli a b c, σ, h, Q => by rw [propext w_sli, qE Γ a]; simp only [qE Γ b, qE Γ c, qRd, ex_wO]; rfl
  | .call f es, σ, h, Q => by rw [propext w_call, qEs Γ es]; simp only [ask_ok]; rfl
  | .bi b es, σ, h, Q => by rw [propext w_bi, qEs Γ es]; simp only [qRds, ex_wO]; rfl
  | .me m o es, σ, h, Q => by
    rw [propext w_me, qE Γ o]
    simp only [qIsLst, qEs Γ es, qMe' (Γ := Γ) (W := fun h Q => wEs Γ es σ h Q)]
    rfl
  | .glo d, σ, h, Q => by rw [propext w_glo]; rfl
  | .isi t e, σ, h, Q => by rw [propext w_isi, qE Γ e]; simp only [qRd]; rfl
  | .fld o f, σ, h, Q => by rw [propext w_fld, qE Γ o]; simp only [qGetA]; rfl
  | .make c f es, σ, h, Q => by rw [propext w_make, qEs Γ es]; simp only [ask_ok]; rfl
  | .mc c m f o es, σ, h, Q => by
    rw [propext w_mc, qE Γ o]
    simp only [qIsA, qEs Γ es, mc_wPl (Γ := Γ) (W := fun h Q => wEs Γ es σ h Q)]
    rfl
  | .lstO tg it c el, σ, h, Q => by rw [propext w_lstO, qI Γ it]; simp only [ask_ok]; rfl
  | .oix a b, σ, h, Q => by rw [propext w_oix, qE Γ a]; simp only [qE Γ b, qOix]; rfl
  | .olen a, σ, h, Q => by
    rw [propext w_olen, qE Γ a]
    simp only [ols_ex]
    rfl
  | .stuck, σ, h, Q => by rw [propext w_stE]; rfl
theorem qEs (Γ : Calls) : ∀ (es : List E) (σ : Env) (h : Sto) (Q : List R → Sto → Prop), Ok (evs Γ es σ h) Q = wEs Γ es σ h Q
  | [], σ, h, Q => by rw [propext w_evs_nil]; rfl
  | e :: es, σ, h, Q => by rw [propext w_evs_cons, qE Γ e]; simp only [qEs Γ es]; rfl
theorem qC (Γ : Calls) : ∀ (e : T) (σ : Env) (h : Sto) (Q : Bool → Sto → Prop), Ok (tv Γ e σ h) Q = wC Γ e σ h Q
  | .val e, σ, h, Q => by rw [propext w_val, qE Γ e]; simp only [qRd, ex_wO]; rfl
  | .and a b, σ, h, Q => by rw [propext w_tand, qC Γ a]; simp only [qC Γ b, and_wB]; rfl
  | .or a b, σ, h, Q => by rw [propext w_tor, qC Γ a]; simp only [qC Γ b, and_wB']; rfl
  | .not a, σ, h, Q => by rw [propext w_tnot, qC Γ a]; rfl
theorem qCs (Γ : Calls) : ∀ (es : List T) (σ : Env) (h : Sto) (Q : Bool → Sto → Prop), Ok (tvs Γ es σ h) Q = wCs Γ es σ h Q
  | [], σ, h, Q => by rw [propext w_tvs_nil]; rfl
  | e :: es, σ, h, Q => by rw [propext w_tvs_cons, qC Γ e]; simp only [qCs Γ es, and_wB]; rfl
theorem qL (Γ : Calls) : ∀ (e : L) (σ : Env) (h : Sto) (Q : List D → Sto → Prop), Ok (evL Γ e σ h) Q = wL Γ e σ h Q
  | .disp es, σ, h, Q => by rw [propext w_disp, qEs Γ es]; simp only [qFzs]; rfl
  | .comp tg it c el, σ, h, Q => by rw [propext w_comp, qI Γ it]; simp only [ask_ok]; rfl
theorem qI (Γ : Calls) : ∀ (e : I) (σ : Env) (h : Sto) (Q : Wk → Sto → Prop), Ok (evI Γ e σ h) Q = wI Γ e σ h Q
  | .seq e, σ, h, Q => by rw [propext w_seq, qE Γ e]; simp only [qWk]; rfl
  | .rng e, σ, h, Q => by
    rw [propext w_rng, qE Γ e]
    congr; funext r h1
    match r with
    | .d (.int n) => exact propext w_rngOf
    | .loc _ | .d .non | .d (.bl _) | .d (.str _) | .d (.tup _) | .d (.lst _) => simp [rngOf, wInt]
  | .enu e, σ, h, Q => by rw [propext w_enu, qE Γ e]; simp only [qEn]; rfl
end
mutual
theorem qS (Γ : Calls) : ∀ (s : S) (σ : Env) (h : Sto) (Q : Fl × Env → Sto → Prop), Ok (ex Γ s σ h) Q = wS Γ s σ h Q
  | .asg tg e, σ, h, Q => by rw [propext w_asg, qE Γ e]; simp only [qT]; rfl
  | .setN c o f e, σ, h, Q => by rw [propext w_setNS, qE Γ e]; simp only [qE Γ o, qSetN]; rfl
  | .exp e, σ, h, Q => by rw [propext w_exp, qE Γ e]; rfl
  | .ife c a b, σ, h, Q => by rw [propext w_ifS, qC Γ c]; simp only [qSs Γ a, qSs Γ b, and_wB]; rfl
  | .for tg it b, σ, h, Q => by rw [propext w_for, qI Γ it]; simp only [ask_ok]; rfl
  | .ret e, σ, h, Q => by rw [propext w_ret, qE Γ e]; rfl
  | .brk, σ, h, Q => by rw [propext w_brk]; rfl
  | .cnt, σ, h, Q => by rw [propext w_cnt]; rfl
  | .stuck, σ, h, Q => by rw [propext w_stS]; rfl
theorem qSs (Γ : Calls) : ∀ (s : List S) (σ : Env) (h : Sto) (Q : Fl × Env → Sto → Prop), Ok (exs Γ s σ h) Q = wSs Γ s σ h Q
  | [], σ, h, Q => by rw [propext w_exs_nil]; rfl
  | s :: r, σ, h, Q => by 
    rw [propext w_exs_cons, qS Γ s]
    simp only [qSs Γ r]
    try congr
end
end IT

set_option linter.all false
namespace IT
theorem st {α : Type} {o : Option α} {a : α} {Q : α → Prop} (e : o = some a) (k : Q a) : wO o Q := by rw [e]; exact k
theorem br {t : Bool} {A B : Prop} (a : t = true → A) (b : t = false → B) : wB t A B := by cases t; exact b rfl; exact a rfl
theorem bf {t : Bool} {A B : Prop} (e : t = false) (k : B) : wB t A B := by rw [e]; exact k
theorem gs {Γ : Calls} {s : List S} {σ : Env} {h : Sto} {Q : Fl × Env → Sto → Prop} (k : wSs Γ s σ h Q) : Ok (exs Γ s σ h) Q := (qSs Γ s σ h Q).mpr k
theorem gb {Γ : Calls} {tg : Tg} {x : Ite} {b : List S} {σ : Env} {h : Sto} {Q : Fl × Env → Sto → Prop} (k : wBI tg x σ h fun σ' h1 => wSs Γ b σ' h1 Q) : Ok (bnd (bindI tg x σ) (fun σ' => exs Γ b σ') h) Q := by
  rw [propext ok_bnd, qBI]
  simp only [qSs]
  exact k
theorem gc {Γ : Calls} {tg : Tg} {c : List T} {el : E} {x : Ite} {σ : Env} {h : Sto} {Q : Option D → Sto → Prop} (k : wBI tg x (clr tg.slots σ) h fun σ' h1 => wCs Γ c σ' h1 fun t h2 => wB t (wE Γ el σ' h2 fun r h3 => wFz r h3 fun d h4 => Q (some d) h4) (Q none h2)) : Ok (cturn Γ tg c el σ x h) Q := by
  rw [propext w_cturn, qBI]
  simp only [qCs, qE, qFz, and_wB]
  exact k
theorem qPl {x : R} {h : Sto} {Q : Nat → Sto → Prop} : Ok (placeOf x h) Q = wPl x fun l => wO h[l]? fun o => wIn o fun _ _ => Q l h := by
  cases x with
  | d x => simp [placeOf, wPl]
  | loc l => rw [propext w_placeOf, in_ex]; rfl
theorem go {Γ : Calls} {tg : Tg} {c : List T} {el : E} {x : Ite} {σ : Env} {h : Sto} {Q : Option Nat → Sto → Prop} (k : wBI tg x (clr tg.slots σ) h fun σ' h1 => wCs Γ c σ' h1 fun t h2 => wB t (wE Γ el σ' h2 fun r h3 => wPl r fun l => wO h3[l]? fun o => wIn o fun _ _ => Q (some l) h3) (Q none h2)) : Ok (oturn Γ tg c el σ x h) Q := by
  rw [propext w_oturn, qBI]
  simp only [qCs, qE, qPl, and_wB]
  exact k
theorem fd {k : Bool} {x : D} {h h1 : Sto} {Q : R → Sto → Prop} (o : objs h h1 = true) (q : Q (.d x) (h1.take h.length)) : Ok (fin h false k (.d x) h1) Q := fin_d.mpr ⟨o, q⟩
theorem f0 {k : Bool} {x : D} {h : Sto} {Q : R → Sto → Prop} (q : Q (.d x) h) : Ok (fin h false k (.d x) h) Q := fin_d.mpr ⟨objs_self, by rw [List.take_length]; exact q⟩
theorem fa {k : Bool} {x : D} {h t : Sto} {Q : R → Sto → Prop} (q : Q (.d x) h) : Ok (fin h false k (.d x) (h ++ t)) Q := fin_d.mpr ⟨objs_app, by rw [sto_take]; exact q⟩
/-- a loop whose turns all go on: no turn looks at what stands behind the loop -/
theorem loopNG {α : Type} {g : α → Ite} {l : Option Nat} {f : Ite → Env → M (Fl × Env)} {xs : List α} {Q : Fl × Env → Sto → Prop} (I : Nat → Env → Sto → Prop)
    (step : ∀ i x σ h, xs[i]? = some x → I i σ h → Ok (f (g x) σ h) fun p h1 => p.1 = .nx ∧ stays l h h1 = true ∧ I (i + 1) p.2 h1)
    (fin : ∀ σ h, I xs.length σ h → Q (.nx, σ) h) {σ : Env} {h : Sto} (h0 : I 0 σ h) : Ok (loop l f (xs.map g) σ h) Q :=
  loop_wpG I (fun i x σ h e q => (step i x σ h e q).mono fun p h1 z => by rw [z.1]; exact z.2) fin h0
theorem loopN {l : Option Nat} {f : Ite → Env → M (Fl × Env)} {xs : List D} {Q : Fl × Env → Sto → Prop} (I : Nat → Env → Sto → Prop)
    (step : ∀ i x σ h, xs[i]? = some x → I i σ h → Ok (f (dI x) σ h) fun p h1 => p.1 = .nx ∧ stays l h h1 = true ∧ I (i + 1) p.2 h1)
    (fin : ∀ σ h, I xs.length σ h → Q (.nx, σ) h) {σ : Env} {h : Sto} (h0 : I 0 σ h) : Ok (loop l f (xs.map dI) σ h) Q := loopNG I step fin h0
/-- what stands behind a def's body -/
noncomputable def kF (h : Sto) (all keep : Bool) (Q : R → Sto → Prop) (p : Fl × Env) (h1 : Sto) : Prop := match p.1 with
  | .ret r => Ok (fin h all keep r h1) Q
  | .nx => Ok (fin h all keep (.d .non) h1) Q
  | _ => False
/-- a call whose def has no defaults -/
theorem cl {P : List F} {n f : Nat} {rs : List R} {h : Sto} {Q : R → Sto → Prop} {F : IT.F} (e : P[f]? = some F) (ed : F.dfl = []) (el : rs.length = F.np)
    (k : wSs (callF P n) F.body (rs.map some ++ List.replicate (F.ns - F.np) none) h (kF h F.all F.keep Q)) : Ok (callF P (n + 1) f rs h) Q := w_call0 e ed el (gs k)
theorem cd {P : List F} {n f : Nat} {rs rs' : List R} {h : Sto} {Q : R → Sto → Prop} {F : IT.F} (e : P[f]? = some F) (er : fillD F.np F.dfl rs = rs') (el : rs'.length = F.np)
    (k : wSs (callF P n) F.body (rs'.map some ++ List.replicate (F.ns - F.np) none) h (kF h F.all F.keep Q)) : Ok (callF P (n + 1) f rs h) Q := w_callF e er el (gs k)
end IT

set_option linter.all false
set_option maxHeartbeats 4000000
/-! How plain data and the store stand in the heap. -/
namespace IT
open PySem PySem.Spec L2

noncomputable def toStr (x : List Nat) : Str := ⟨x.toArray⟩
theorem toStr_len (x : List Nat) : (toStr x).length = x.length := by simp [toStr, Str.length]
theorem toStr_inj {x y : List Nat} (h : toStr x = toStr y) : x = y := by
  have := congrArg (fun s : Str => s.cps.toList) h
  simpa [toStr] using this
theorem toStr_app (x y : List Nat) : toStr x ++ toStr y = toStr (x ++ y) := by
  show Str.append _ _ = _
  simp [toStr, Str.append]

/-- a list that is only read: tracked or frozen, or an object of the module -/
noncomputable def LsR (K : PySem.W.Frag) (A : Addr → Prop) (H : Hp) (a : Addr) (vs : List V) : Prop :=
  (¬ A a ∧ Rd H a (.lst vs)) ∨ ∃ (o : Obj) (its : Array Value) (n : Nat), K.lookup a = some o ∧ o.cls = .type "list" ∧ o.dict = none ∧ o.data = .seq its n ∧ its.size ≤ sizeLine ∧ Vals vs its.toList
theorem LsR.sq {K : PySem.W.Frag} {A : Addr → Prop} {H : Hp} {a : Addr} {vs : List V} (q : LsR K A H a vs) : SqL K H a vs := q.imp (fun z => z.2) (fun z => z)
mutual
noncomputable def RepD (K : PySem.W.Frag) (A : Addr → Prop) (H : Hp) : D → V → Prop
  | .non, v => v = .non
  | .bl b, v => v = .bl b
  | .int i, v => v = .int i
  | .str x, v => v = .str (toStr x)
  | .tup xs, v => ∃ a vs, v = .ref a ∧ SqT K H a vs ∧ RepDs K A H xs vs
  | .lst xs, v => ∃ a vs, v = .ref a ∧ LsR K A H a vs ∧ RepDs K A H xs vs
noncomputable def RepDs (K : PySem.W.Frag) (A : Addr → Prop) (H : Hp) : List D → List V → Prop
  | [], vs => vs = []
  | x :: xs, vs => ∃ v r, vs = v :: r ∧ RepD K A H x v ∧ RepDs K A H xs r
end

section
variable {K : PySem.W.Frag} {A A' : Addr → Prop} {H H' : Hp}
mutual
theorem RepD.mono (ht : ∀ a u, Rd H a (.tup u) → Rd H' a (.tup u)) (hl : ∀ a u, ¬ A a → Rd H a (.lst u) → ¬ A' a ∧ Rd H' a (.lst u)) : ∀ (x : D) (v : V), RepD K A H x v → RepD K A' H' x v
  | .non, _, h | .bl _, _, h | .int _, _, h | .str _, _, h => by
    first
    | (simp only [RepD] at h ⊢; exact h)
  | .tup xs, v, h => by
    simp only [RepD] at h ⊢
    obtain ⟨a, vs, e, q, r⟩ := h
    exact ⟨a, vs, e, q.imp (ht a vs) (fun z => z), RepDs.mono ht hl xs vs r⟩
  | .lst xs, v, h => by
    simp only [RepD] at h ⊢
    obtain ⟨a, vs, e, q, r⟩ := h
    exact ⟨a, vs, e, q.imp (fun z => hl a vs z.1 z.2) (fun z => z), RepDs.mono ht hl xs vs r⟩
theorem RepDs.mono (ht : ∀ a u, Rd H a (.tup u) → Rd H' a (.tup u)) (hl : ∀ a u, ¬ A a → Rd H a (.lst u) → ¬ A' a ∧ Rd H' a (.lst u)) : ∀ (x : List D) (v : List V), RepDs K A H x v → RepDs K A' H' x v
  | [], _, h => by simp only [RepDs] at h ⊢; exact h
  | x :: xs, vs, h => by
    simp only [RepDs] at h ⊢
    obtain ⟨v, r, e, h1, h2⟩ := h
    exact ⟨v, r, e, RepD.mono ht hl x v h1, RepDs.mono ht hl xs r h2⟩
end
end

section
variable {K : PySem.W.Frag} {A : Addr → Prop} {H : Hp}
theorem RepDs.length : ∀ {xs : List D} {vs : List V}, RepDs K A H xs vs → xs.length = vs.length
  | [], vs, h => by simp only [RepDs] at h; subst h; rfl
  | x :: xs, vs, h => by
    simp only [RepDs] at h
    obtain ⟨v, r, rfl, _, h2⟩ := h
    simp only [List.length_cons, h2.length]
theorem RepDs.get : ∀ {xs : List D} {vs : List V} {i : Nat} {x : D}, RepDs K A H xs vs → xs[i]? = some x → ∃ v, vs[i]? = some v ∧ RepD K A H x v
  | [], vs, i, x, h, e => by simp at e
  | y :: xs, vs, i, x, h, e => by
    simp only [RepDs] at h
    obtain ⟨v, r, rfl, h1, h2⟩ := h
    cases i with
    | zero => simp at e; subst e; exact ⟨v, rfl, h1⟩
    | succ i => simp at e; simpa using h2.get e
theorem RepDs.get' : ∀ {xs : List D} {vs : List V} {i : Nat} {v : V}, RepDs K A H xs vs → vs[i]? = some v → ∃ x, xs[i]? = some x ∧ RepD K A H x v
  | [], vs, i, v, h, e => by simp only [RepDs] at h; subst h; simp at e
  | y :: xs, vs, i, v, h, e => by
    simp only [RepDs] at h
    obtain ⟨w, r, rfl, h1, h2⟩ := h
    cases i with
    | zero => simp at e; subst e; exact ⟨y, rfl, h1⟩
    | succ i => simp at e; simpa using h2.get' e
theorem RepDs.app : ∀ {xs ys : List D} {vs us : List V}, RepDs K A H xs vs → RepDs K A H ys us → RepDs K A H (xs ++ ys) (vs ++ us)
  | [], ys, vs, us, h, h' => by simp only [RepDs] at h; subst h; simpa using h'
  | x :: xs, ys, vs, us, h, h' => by
    simp only [RepDs] at h
    obtain ⟨v, r, rfl, h1, h2⟩ := h
    simp only [List.cons_append, RepDs]
    exact ⟨v, r ++ us, rfl, h1, h2.app h'⟩
theorem RepDs.nil : RepDs K A H [] [] := by simp only [RepDs]
theorem RepDs.cons {x : D} {v : V} {xs : List D} {vs : List V} (h : RepD K A H x v) (h' : RepDs K A H xs vs) : RepDs K A H (x :: xs) (v :: vs) := by
  simp only [RepDs]; exact ⟨v, vs, rfl, h, h'⟩
theorem RepDs.one {x : D} {v : V} (h : RepD K A H x v) : RepDs K A H [x] [v] := .cons h .nil
theorem RepDs.take : ∀ {xs : List D} {vs : List V} (n : Nat), RepDs K A H xs vs → RepDs K A H (xs.take n) (vs.take n)
  | [], vs, n, h => by simp only [RepDs] at h; subst h; simpa using RepDs.nil
  | x :: xs, vs, n, h => by
    simp only [RepDs] at h
    obtain ⟨v, r, rfl, h1, h2⟩ := h
    cases n with
    | zero => simpa using RepDs.nil
    | succ n => simpa using RepDs.cons h1 (h2.take n)
theorem RepDs.drop : ∀ {xs : List D} {vs : List V} (n : Nat), RepDs K A H xs vs → RepDs K A H (xs.drop n) (vs.drop n)
  | [], vs, n, h => by simp only [RepDs] at h; subst h; simpa using RepDs.nil
  | x :: xs, vs, n, h => by
    simp only [RepDs] at h
    obtain ⟨v, r, rfl, h1, h2⟩ := h
    cases n with
    | zero => simpa using RepDs.cons h1 h2
    | succ n => simpa using h2.drop n
end

/-- a list, or an instance, of the store that may be written stands at a -/
noncomputable def Ob.mut : Ob → Bool
  | .lst _ => true
  | .ins _ _ => true
  | _ => false
noncomputable def Live (μ : List Addr) (h : Sto) (a : Addr) : Prop := ∃ (i : Nat) (o : Ob), μ[i]? = some a ∧ h[i]? = some o ∧ o.mut = true
noncomputable def RepR (K : PySem.W.Frag) (μ : List Addr) (h : Sto) (H : Hp) : R → V → Prop
  | .d x, v => RepD K (Live μ h) H x v
  | .loc l, v => ∃ a, μ[l]? = some a ∧ v = .ref a
/-- how an object of the store stands at its address -/
noncomputable def RepO (K : PySem.W.Frag) (μ : List Addr) (h : Sto) (H : Hp) (a : Addr) : Ob → Prop
  | .lst xs => ∃ vs, H a = some (.lst vs) ∧ RepDs K (Live μ h) H xs vs
  | .fro xs => ∃ vs, H a = some (.lst vs) ∧ RepDs K (Live μ h) H xs vs
  | .ols ls => ∃ vs, H a = some (.lst vs) ∧ Paired (fun (l : Nat) (v : V) => ∃ b, μ[l]? = some b ∧ v = .ref b) ls vs
  | .ins c fs => ∃ C dx fs', (PySem.W.nsIn K mainGlobals c = some (some (.ref C)) ∧ Cls K C ∧ ∀ p ∈ fs, NoAttr K C p.1) ∧ H a = some (.ins C dx fs') ∧ Paired (fun (p : Str × R) (q : Str × V) => p.1 = q.1 ∧ RepR K μ h H p.2 q.2) fs fs'
structure Rep (K : PySem.W.Frag) (μ : List Addr) (h : Sto) (H : Hp) : Prop where
  len : μ.length = h.length
  nd : μ.Nodup
  obj : ∀ (i : Nat) (a : Addr) (o : Ob), μ[i]? = some a → h[i]? = some o → RepO K μ h H a o
structure Stp (μ : List Addr) (h : Sto) (H : Hp) (μ' : List Addr) (h' : Sto) (H' : Hp) : Prop where
  pre : ∀ (i : Nat) (a : Addr), μ[i]? = some a → μ'[i]? = some a
  keep : ∀ a o, ¬ Live μ h a → H a = some o → H' a = some o
  live : ∀ a, Live μ' h' a → Live μ h a ∨ H a = none

section
variable {K : PySem.W.Frag} {μ μ' μ2 : List Addr} {h h' h2 : Sto} {H H' H2 : Hp}
theorem RepO.isL {a : Addr} {o : Ob} (q : RepO K μ h H a o) (l : o.isL = true) : ∃ vs, H a = some (.lst vs) ∧ RepDs K (Live μ h) H o.items vs := by
  cases o with
  | lst xs => exact q
  | fro xs => exact q
  | ins _ _ => cases l
  | ols _ => cases l
theorem RepO.some {a : Addr} {o : Ob} (q : RepO K μ h H a o) : ∃ u, H a = some u ∧ ((∃ vs, u = .lst vs) ∨ ∃ C dx fs, u = .ins C dx fs) := by
  cases o with
  | lst xs => obtain ⟨vs, e, _⟩ := q; exact ⟨_, e, .inl ⟨vs, rfl⟩⟩
  | fro xs => obtain ⟨vs, e, _⟩ := q; exact ⟨_, e, .inl ⟨vs, rfl⟩⟩
  | ins _ _ => obtain ⟨C, dx, fs, _, e, _⟩ := q; exact ⟨_, e, .inr ⟨C, dx, fs, rfl⟩⟩
  | ols _ => obtain ⟨vs, e, _⟩ := q; exact ⟨_, e, .inl ⟨vs, rfl⟩⟩
theorem Rep.liveAt (r : Rep K μ h H) {a : Addr} (l : Live μ h a) : ∃ u, H a = some u ∧ ((∃ vs, u = .lst vs) ∨ ∃ C dx fs, u = .ins C dx fs) := by
  obtain ⟨i, o, e1, e2, _⟩ := l
  exact (r.obj i a _ e1 e2).some
theorem Rep.notLive (r : Rep K μ h H) {a : Addr} {o : HO} (e : H a = some o) (n : ∀ vs, o ≠ .lst vs) (n2 : ∀ C dx fs, o ≠ .ins C dx fs := by intro _ _ _ z; cases z) : ¬ Live μ h a := fun l => by
  obtain ⟨u, q, z⟩ := r.liveAt l
  rw [e] at q
  cases q
  rcases z with ⟨vs, z⟩ | ⟨C, dx, fs, z⟩
  · exact n vs z
  · exact n2 C dx fs z
theorem Stp.refl : Stp μ h H μ h H := ⟨fun _ _ e => e, fun _ _ _ e => e, fun _ l => .inl l⟩
theorem Stp.trans (s : Stp μ h H μ' h' H') (t : Stp μ' h' H' μ2 h2 H2) : Stp μ h H μ2 h2 H2 := by
  have nl : ∀ a o, ¬ Live μ h a → H a = some o → ¬ Live μ' h' a := fun a o n e l => by
    rcases s.live a l with z | z
    · exact n z
    · rw [e] at z; cases z
  refine ⟨fun i a e => t.pre i a (s.pre i a e), fun a o n e => t.keep a o (nl a o n e) (s.keep a o n e), fun a l => ?_⟩
  rcases t.live a l with z | z
  · exact s.live a z
  · by_cases n : Live μ h a
    · exact .inl n
    · cases e : H a with
      | none => exact .inr rfl
      | some o => rw [s.keep a o n e] at z; cases z
theorem Stp.rdT (s : Stp μ h H μ' h' H') (r : Rep K μ h H) (a : Addr) (u : List V) (q : Rd H a (.tup u)) : Rd H' a (.tup u) := by
  rcases q with e | ⟨o, e⟩
  · exact .inl (s.keep a _ (r.notLive e (by intro vs z; cases z)) e)
  · exact .inr ⟨o, s.keep a _ (r.notLive e (by intro vs z; cases z)) e⟩
theorem Stp.rdL (s : Stp μ h H μ' h' H') (a : Addr) (u : List V) (n : ¬ Live μ h a) (q : Rd H a (.lst u)) : ¬ Live μ' h' a ∧ Rd H' a (.lst u) := by
  have nl : ∀ o, H a = some o → ¬ Live μ' h' a := fun o e l => by
    rcases s.live a l with z | z
    · exact n z
    · rw [e] at z; cases z
  rcases q with e | ⟨o, e⟩
  · exact ⟨nl _ e, .inl (s.keep a _ n e)⟩
  · exact ⟨nl _ e, .inr ⟨o, s.keep a _ n e⟩⟩
theorem Stp.lsR (s : Stp μ h H μ' h' H') {a : Addr} {u : List V} (q : LsR K (Live μ h) H a u) : LsR K (Live μ' h') H' a u := q.imp (fun z => s.rdL a u z.1 z.2) (fun z => z)
theorem RepD.stp (s : Stp μ h H μ' h' H') (r : Rep K μ h H) {x : D} {v : V} (q : RepD K (Live μ h) H x v) : RepD K (Live μ' h') H' x v := RepD.mono (s.rdT r) s.rdL x v q
theorem RepDs.stp (s : Stp μ h H μ' h' H') (r : Rep K μ h H) {x : List D} {v : List V} (q : RepDs K (Live μ h) H x v) : RepDs K (Live μ' h') H' x v := RepDs.mono (s.rdT r) s.rdL x v q
theorem RepR.stp (s : Stp μ h H μ' h' H') (r : Rep K μ h H) {x : R} {v : V} (q : RepR K μ h H x v) : RepR K μ' h' H' x v := by
  cases x with
  | d x => exact RepD.stp s r q
  | loc l => obtain ⟨a, e, z⟩ := q; exact ⟨a, s.pre l a e, z⟩
/-- what stood at an address, where it is the same -/
theorem RepO.stp (s : Stp μ h H μ' h' H') (r : Rep K μ h H) {a : Addr} {o : Ob} (e : H' a = H a) (q : RepO K μ h H a o) : RepO K μ' h' H' a o := by
  cases o with
  | lst xs => obtain ⟨vs, e1, z⟩ := q; exact ⟨vs, e.trans e1, RepDs.stp s r z⟩
  | fro xs => obtain ⟨vs, e1, z⟩ := q; exact ⟨vs, e.trans e1, RepDs.stp s r z⟩
  | ols ls => obtain ⟨vs, e1, z⟩ := q; exact ⟨vs, e.trans e1, L2.Paired.mapP z fun l v ⟨b, eb, ev⟩ => ⟨b, s.pre l b eb, ev⟩⟩
  | ins c fs => obtain ⟨C, dx, fs', ec, e1, z⟩ := q; exact ⟨C, dx, fs', ec, e.trans e1, L2.Paired.mapP z fun p q ⟨ep, eq⟩ => ⟨ep, RepR.stp s r eq⟩⟩

/-- a new object -/
theorem Stp.fresh {p : Addr} {o : HO} (n : H p = none) : Stp μ h H μ h (upd H p o) :=
  ⟨fun _ _ e => e, fun a o' _ e => by rw [upd_ne (ne_of_none e n)]; exact e, fun _ l => .inl l⟩
theorem Rep.ne_fresh (r : Rep K μ h H) {p a : Addr} {i : Nat} {o : Ob} (n : H p = none) (e1 : μ[i]? = some a) (e2 : h[i]? = some o) : a ≠ p := by
  obtain ⟨u, q, _⟩ := (r.obj i a o e1 e2).some
  exact ne_of_none q n
theorem Rep.fresh {p : Addr} {o : HO} (r : Rep K μ h H) (n : H p = none) : Rep K μ h (upd H p o) :=
  ⟨r.len, r.nd, fun i a ob e1 e2 => RepO.stp (Stp.fresh n) r (upd_ne (r.ne_fresh n e1 e2)) (r.obj i a ob e1 e2)⟩
/-- .. that stands in the store -/
theorem live_app {p : Addr} {o : Ob} (hl : μ.length = h.length) {a : Addr} : Live (μ ++ [p]) (h ++ [o]) a ↔ Live μ h a ∨ (a = p ∧ o.mut = true) := by
  constructor
  · rintro ⟨i, o', e1, e2, e3⟩
    by_cases hi : i < μ.length
    · rw [List.getElem?_append_left hi] at e1
      rw [List.getElem?_append_left (by omega)] at e2
      exact .inl ⟨i, o', e1, e2, e3⟩
    · rw [List.getElem?_append_right (by omega)] at e1 e2
      have hz : i - μ.length = 0 := by
        cases hk : i - μ.length with
        | zero => rfl
        | succ k => rw [hk] at e1; simp at e1
      rw [hz] at e1
      rw [← hl, hz] at e2
      simp at e1 e2
      subst e1 e2
      exact .inr ⟨rfl, e3⟩
  · rintro (⟨i, o', e1, e2, e3⟩ | ⟨rfl, e3⟩)
    · obtain ⟨h1, _⟩ := List.getElem?_eq_some_iff.mp e1
      exact ⟨i, o', by rw [List.getElem?_append_left h1]; exact e1, by rw [List.getElem?_append_left (by omega)]; exact e2, e3⟩
    · exact ⟨μ.length, o, by simp, by rw [hl]; simp, e3⟩
theorem Stp.allocO {p : Addr} {ob : Ob} {o : HO} (r : Rep K μ h H) (n : H p = none) : Stp μ h H (μ ++ [p]) (h ++ [ob]) (upd H p o) :=
  ⟨fun i a e => by rw [List.getElem?_append_left (List.getElem?_eq_some_iff.mp e).1]; exact e, fun a o' _ e => by rw [upd_ne (ne_of_none e n)]; exact e,
   fun a l => by
    rcases (live_app r.len).mp l with z | ⟨rfl, _⟩
    · exact .inl z
    · exact .inr n⟩
theorem Stp.alloc {p : Addr} {xs : List D} {o : HO} (r : Rep K μ h H) (n : H p = none) : Stp μ h H (μ ++ [p]) (h ++ [.lst xs]) (upd H p o) := Stp.allocO r n
theorem Rep.allocO {p : Addr} {o : Ob} {u : HO} (r : Rep K μ h H) (n : H p = none) (q : RepO K (μ ++ [p]) (h ++ [o]) (upd H p u) p o) : Rep K (μ ++ [p]) (h ++ [o]) (upd H p u) := by
  have st : Stp μ h H (μ ++ [p]) (h ++ [o]) (upd H p u) := Stp.allocO r n
  refine ⟨by simp [r.len], ?_, fun i a ob e1 e2 => ?_⟩
  · rw [List.nodup_append]
    refine ⟨r.nd, by simp, fun a ha b hb => ?_⟩
    simp at hb
    subst hb
    rintro rfl
    obtain ⟨i, hi, e⟩ := List.getElem_of_mem ha
    have hi' : i < h.length := by rw [← r.len]; exact hi
    exact r.ne_fresh n (by rw [List.getElem?_eq_getElem hi, e]) (List.getElem?_eq_getElem hi') rfl
  · by_cases hi : i < μ.length
    · rw [List.getElem?_append_left hi] at e1
      rw [List.getElem?_append_left (by have := r.len; omega)] at e2
      exact RepO.stp st r (upd_ne (r.ne_fresh n e1 e2)) (r.obj i a ob e1 e2)
    · rw [List.getElem?_append_right (by omega)] at e1
      have hz : i - μ.length = 0 := by
        cases hk : i - μ.length with
        | zero => rfl
        | succ k => rw [hk] at e1; simp at e1
      rw [hz] at e1
      simp at e1
      subst e1
      have hi2 : i = h.length := by have := r.len; have := (List.getElem?_eq_some_iff.mp e2).1; simp at this; omega
      subst hi2
      simp at e2
      subst e2
      exact q
theorem Rep.alloc {p : Addr} {xs : List D} {vs : List V} (r : Rep K μ h H) (n : H p = none) (q : RepDs K (Live μ h) H xs vs) : Rep K (μ ++ [p]) (h ++ [.lst xs]) (upd H p (.lst vs)) :=
  r.allocO n ⟨vs, upd_same, RepDs.stp (Stp.allocO r n) r q⟩
end
end IT

set_option linter.all false
set_option maxHeartbeats 4000000
/-! Reading, freezing and writing of the store; judgements; how they go together. -/
namespace IT
open PySem PySem.Spec L2

/-- as it is read: a list may be one of the store -/
noncomputable def RdD (K : PySem.W.Frag) (A : Addr → Prop) (H : Hp) (x : D) (v : V) : Prop := match x with
  | .lst xs => ∃ a vs, v = .ref a ∧ SqL K H a vs ∧ RepDs K A H xs vs
  | x => RepD K A H x v

section
variable {K : PySem.W.Frag} {μ μ' : List Addr} {h h' : Sto} {H H' : Hp}
theorem RdD.of {A : Addr → Prop} {x : D} {v : V} (q : RepD K A H x v) : RdD K A H x v := by
  cases x with
  | lst xs =>
    simp only [RepD] at q
    obtain ⟨a, vs, e, r, z⟩ := q
    exact ⟨a, vs, e, r.sq, z⟩
  | _ => exact q
theorem rd_loc {l : Nat} {d : D} (e : rd (.loc l) h = some (d, h')) : ∃ o, h[l]? = some o ∧ o.isL = true ∧ d = .lst o.items ∧ h' = h := by
  simp only [rd] at e
  cases ho : h[l]? with
  | none => rw [ho] at e; cases e
  | some o =>
    rw [ho] at e
    simp only at e
    split at e
    · rename_i il
      simp only [Option.some.injEq, Prod.mk.injEq] at e
      exact ⟨o, rfl, il, e.1.symm, e.2.symm⟩
    · cases e
theorem isLst_some {x : R} {u : Unit} (e : isLst x h = some (u, h')) : ∃ l o, x = .loc l ∧ h[l]? = some o ∧ o.isL = true ∧ h' = h := by
  cases x with
  | d _ => cases e
  | loc l =>
    simp only [isLst] at e
    cases ho : h[l]? with
    | none => rw [ho] at e; cases e
    | some o =>
      rw [ho] at e
      simp only at e
      split at e
      · rename_i il
        simp only [Option.some.injEq, Prod.mk.injEq] at e
        exact ⟨l, o, rfl, ho, il, e.2.symm⟩
      · cases e
theorem rd_ok {r : R} {v : V} {d : D} (R0 : Rep K μ h H) (q : RepR K μ h H r v) (e : rd r h = some (d, h')) : h' = h ∧ RdD K (Live μ h) H d v := by
  cases r with
  | d x =>
    simp only [rd, ok, Option.some.injEq, Prod.mk.injEq] at e
    obtain ⟨rfl, rfl⟩ := e
    exact ⟨rfl, RdD.of q⟩
  | loc l =>
    obtain ⟨a, ea, rfl⟩ := q
    simp only [rd] at e
    cases ho : h[l]? with
    | none => rw [ho] at e; cases e
    | some o =>
      rw [ho] at e
      simp only at e
      split at e
      · rename_i il
        simp only [Option.some.injEq, Prod.mk.injEq] at e
        obtain ⟨rfl, rfl⟩ := e
        obtain ⟨vs, q1, q2⟩ := (R0.obj l a o ea ho).isL il
        exact ⟨rfl, a, vs, rfl, .inl (.inl q1), q2⟩
      · cases e

theorem nodup_at {l : List Addr} (hn : l.Nodup) {i j : Nat} {a : Addr} (h1 : l[i]? = some a) (h2 : l[j]? = some a) : i = j := by
  obtain ⟨p1, e1⟩ := List.getElem?_eq_some_iff.mp h1
  obtain ⟨p2, e2⟩ := List.getElem?_eq_some_iff.mp h2
  exact (List.getElem_inj hn).mp (e1.trans e2.symm)

/-- the list at l is only read from now on -/
theorem freeze {l : Nat} {o : Ob} (R0 : Rep K μ h H) (ho : h[l]? = some o) (il : o.isL = true) : Stp μ h H μ (h.set l (.fro o.items)) H ∧ Rep K μ (h.set l (.fro o.items)) H := by
  have hl : l < h.length := (List.getElem?_eq_some_iff.mp ho).1
  have lv : ∀ a, Live μ (h.set l (.fro o.items)) a → Live μ h a := by
    rintro a ⟨i, xs, e1, e2, e3⟩
    by_cases hi : i = l
    · subst hi
      rw [List.getElem?_set_self hl] at e2
      cases e2
      cases e3
    · rw [List.getElem?_set_ne (Ne.symm hi)] at e2
      exact ⟨i, xs, e1, e2, e3⟩
  have st : Stp μ h H μ (h.set l (.fro o.items)) H := ⟨fun _ _ e => e, fun _ _ _ e => e, fun a z => .inl (lv a z)⟩
  refine ⟨st, by simp [R0.len], R0.nd, fun i a ob e1 e2 => ?_⟩
  by_cases hi : i = l
  · subst hi
    rw [List.getElem?_set_self hl] at e2
    cases e2
    obtain ⟨vs, q1, q2⟩ := (R0.obj i a o e1 ho).isL il
    exact ⟨vs, q1, RepDs.stp st R0 q2⟩
  · rw [List.getElem?_set_ne (Ne.symm hi)] at e2
    exact RepO.stp st R0 rfl (R0.obj i a ob e1 e2)
theorem fz_ok {r : R} {v : V} {d : D} (R0 : Rep K μ h H) (q : RepR K μ h H r v) (e : fz r h = some (d, h')) : Stp μ h H μ h' H ∧ Rep K μ h' H ∧ RepD K (Live μ h') H d v := by
  cases r with
  | d x =>
    simp only [fz, ok, Option.some.injEq, Prod.mk.injEq] at e
    obtain ⟨rfl, rfl⟩ := e
    exact ⟨Stp.refl, R0, q⟩
  | loc l =>
    obtain ⟨a, ea, rfl⟩ := q
    simp only [fz] at e
    cases ho : h[l]? with
    | none => rw [ho] at e; cases e
    | some o =>
      rw [ho] at e
      simp only at e
      split at e
      · rename_i il
        simp only [Option.some.injEq, Prod.mk.injEq] at e
        obtain ⟨rfl, rfl⟩ := e
        obtain ⟨st, R1⟩ := freeze R0 ho il
        have hl : l < h.length := (List.getElem?_eq_some_iff.mp ho).1
        obtain ⟨vs, q1, q2⟩ := (R0.obj l a o ea ho).isL il
        refine ⟨st, R1, ?_⟩
        simp only [RepD]
        refine ⟨a, vs, rfl, .inl ⟨?_, .inl q1⟩, RepDs.stp st R0 q2⟩
        rintro ⟨i, xs, e1, e2, e3⟩
        have := nodup_at R0.nd e1 ea
        subst this
        rw [List.getElem?_set_self hl] at e2
        cases e2
        cases e3
      · cases e
/-- what may be written of the store is written -/
theorem writeO {l : Nat} {a : Addr} {o o' : Ob} {u : HO} (R0 : Rep K μ h H) (ea : μ[l]? = some a) (ho : h[l]? = some o) (hm : o.mut = true)
    (q : Stp μ h H μ (h.set l o') (upd H a u) → RepO K μ (h.set l o') (upd H a u) a o') : Stp μ h H μ (h.set l o') (upd H a u) ∧ Rep K μ (h.set l o') (upd H a u) := by
  have hl : l < h.length := (List.getElem?_eq_some_iff.mp ho).1
  have hla : Live μ h a := ⟨l, o, ea, ho, hm⟩
  have lv : ∀ b, Live μ (h.set l o') b → Live μ h b := by
    rintro b ⟨i, zs, e1, e2, e3⟩
    by_cases hi : i = l
    · subst hi
      exact ⟨i, o, e1, ho, hm⟩
    · rw [List.getElem?_set_ne (Ne.symm hi)] at e2
      exact ⟨i, zs, e1, e2, e3⟩
  have st : Stp μ h H μ (h.set l o') (upd H a u) :=
    ⟨fun _ _ e => e, fun b o n e => by rw [upd_ne (fun z => n (by rw [z]; exact hla))]; exact e, fun b z => .inl (lv b z)⟩
  refine ⟨st, by simp [R0.len], R0.nd, fun i b ob e1 e2 => ?_⟩
  by_cases hi : i = l
  · subst hi
    rw [ea] at e1; cases e1
    rw [List.getElem?_set_self hl] at e2
    cases e2
    exact q st
  · rw [List.getElem?_set_ne (Ne.symm hi)] at e2
    exact RepO.stp st R0 (upd_ne (fun z : b = a => hi (nodup_at R0.nd e1 (by rw [z]; exact ea)))) (R0.obj i b ob e1 e2)
/-- a list of the store is written -/
theorem write {l : Nat} {a : Addr} {xs ys : List D} {ws : List V} (R0 : Rep K μ h H) (ea : μ[l]? = some a) (ho : h[l]? = some (.lst xs)) (q : RepDs K (Live μ h) H ys ws) :
    Stp μ h H μ (h.set l (.lst ys)) (upd H a (.lst ws)) ∧ Rep K μ (h.set l (.lst ys)) (upd H a (.lst ws)) :=
  writeO R0 ea ho rfl fun st => ⟨ws, upd_same, RepDs.stp st R0 q⟩
end

theorem bnd_some {α β : Type} {x : M α} {f : α → M β} {h : Sto} {r : β × Sto} : bnd x f h = some r ↔ ∃ a h1, x h = some (a, h1) ∧ f a h1 = some r := by
  unfold bnd
  cases e : x h with
  | none => simp
  | some p =>
    obtain ⟨a, h1⟩ := p
    exact ⟨fun q => ⟨a, h1, rfl, q⟩, fun ⟨a', h1', e', q⟩ => by cases e'; exact q⟩
theorem ok_some {α : Type} {a b : α} {h h' : Sto} : ok a h = some (b, h') ↔ a = b ∧ h = h' := by simp [ok]
theorem opt_some {α : Type} {o : Option α} {b : α} {h h' : Sto} : opt o h = some (b, h') ↔ o = some b ∧ h = h' := by
  unfold opt
  cases o with
  | none => simp
  | some a => simp

/-! ### the frame's values -/
structure RepE (K : PySem.W.Frag) (μ : List Addr) (h : Sto) (H : Hp) (env : IT.Env) (σ : St) : Prop where
  len : env.length = σ.length
  get : ∀ (i : Nat) (r : R), env[i]? = some (some r) → ∃ v, σ[i]? = some (some v) ∧ RepR K μ h H r v
inductive RepRs (K : PySem.W.Frag) (μ : List Addr) (h : Sto) (H : Hp) : List R → List V → Prop where
  | nil : RepRs K μ h H [] []
  | cons {r : R} {v : V} {rs : List R} {vs : List V} : RepR K μ h H r v → RepRs K μ h H rs vs → RepRs K μ h H (r :: rs) (v :: vs)
section
variable {K : PySem.W.Frag} {μ μ' : List Addr} {h h' : Sto} {H H' : Hp}
theorem RepE.stp (s : Stp μ h H μ' h' H') (R0 : Rep K μ h H) {env : IT.Env} {σ : St} (q : RepE K μ h H env σ) : RepE K μ' h' H' env σ :=
  ⟨q.len, fun i r e => let ⟨v, e', z⟩ := q.get i r e; ⟨v, e', z.stp s R0⟩⟩
theorem RepRs.stp (s : Stp μ h H μ' h' H') (R0 : Rep K μ h H) {rs : List R} {vs : List V} (q : RepRs K μ h H rs vs) : RepRs K μ' h' H' rs vs := by
  induction q with
  | nil => exact .nil
  | cons a _ ih => exact .cons (a.stp s R0) ih
theorem RepRs.length {rs : List R} {vs : List V} (q : RepRs K μ h H rs vs) : rs.length = vs.length := by
  induction q with
  | nil => rfl
  | cons _ _ ih => simp [ih]
theorem RepE.set {env : IT.Env} {σ : St} (q : RepE K μ h H env σ) (i : Nat) {r : R} {v : V} (z : RepR K μ h H r v) : RepE K μ h H (env.set i (some r)) (σ.set i (some v)) := by
  refine ⟨by simp [q.len], fun j r' e => ?_⟩
  by_cases hj : j = i
  · subst hj
    have hl : j < env.length := by
      have := (List.getElem?_eq_some_iff.mp e).1
      simpa using this
    rw [List.getElem?_set_self hl] at e
    cases e
    exact ⟨v, by rw [List.getElem?_set_self (by rw [← q.len]; exact hl)], z⟩
  · rw [List.getElem?_set_ne (Ne.symm hj)] at e ⊢
    exact q.get j r' e
theorem rds_ok : ∀ {rs : List R} {vs : List V} {ds : List D} {h h' : Sto}, Rep K μ h H → RepRs K μ h H rs vs → rds rs h = some (ds, h') → h' = h ∧ Paired (RdD K (Live μ h) H) ds vs
  | [], _, ds, h, h', R0, .nil, e => by
    simp only [rds, ok_some] at e
    obtain ⟨rfl, rfl⟩ := e
    exact ⟨rfl, .nil⟩
  | r :: rs, _, ds, h, h', R0, .cons q qs, e => by
    simp only [rds, bnd_some, ok_some] at e
    obtain ⟨d, h1, e1, ds', h2, e2, rfl, rfl⟩ := e
    obtain ⟨rfl, z⟩ := rd_ok R0 q e1
    obtain ⟨rfl, zs⟩ := rds_ok R0 qs e2
    exact ⟨rfl, .cons z zs⟩
theorem fzs_ok : ∀ {rs : List R} {vs : List V} {ds : List D} {h h' : Sto}, Rep K μ h H → RepRs K μ h H rs vs → fzs rs h = some (ds, h') → Stp μ h H μ h' H ∧ Rep K μ h' H ∧ RepDs K (Live μ h') H ds vs
  | [], _, ds, h, h', R0, .nil, e => by
    simp only [fzs, ok_some] at e
    obtain ⟨rfl, rfl⟩ := e
    exact ⟨Stp.refl, R0, .nil⟩
  | r :: rs, _, ds, h, h', R0, .cons q qs, e => by
    simp only [fzs, bnd_some, ok_some] at e
    obtain ⟨d, h1, e1, ds', h2, e2, rfl, rfl⟩ := e
    obtain ⟨s1, R1, z⟩ := fz_ok R0 q e1
    obtain ⟨s2, R2, zs⟩ := fzs_ok R1 (qs.stp s1 R0) e2
    exact ⟨s1.trans s2, R2, .cons (z.stp s2 R1) zs⟩
end

/-! ### judgements -/
/-- m is done from the store h: what comes of it -/
inductive Post {α β : Type} (K : PySem.W.Frag) (μ : List Addr) (h : Sto) (H : Hp) (Rel : List Addr → Sto → Hp → α → β → Prop) (m : Option (α × Sto)) (Q : β → Hp → Prop) : Prop where
  | mk (r : α) (h' : Sto) (e : m = some (r, h')) (k : ∀ μ' H' v, Stp μ h H μ' h' H' → Rep K μ' h' H' → Rel μ' h' H' r v → Q v H')
inductive tE (K : PySem.W.Frag) (f : IT.Env → M R) (σ : St) (H : Hp) (Q : VK) : Prop where
  | mk (μ : List Addr) (h : Sto) (env : IT.Env) (R0 : Rep K μ h H) (re : RepE K μ h H env σ) (p : Post K μ h H (RepR K) (f env h) Q)
inductive tTv (K : PySem.W.Frag) (f : IT.Env → M Bool) (σ : St) (H : Hp) (Q : Bool → Hp → Prop) : Prop where
  | mk (μ : List Addr) (h : Sto) (env : IT.Env) (R0 : Rep K μ h H) (re : RepE K μ h H env σ) (p : Post K μ h H (fun _ _ _ a b => a = b) (f env h) Q)
inductive tAs (K : PySem.W.Frag) (f : IT.Env → M (List R)) (σ : St) (H : Hp) (Q : List V → Hp → Prop) : Prop where
  | mk (μ : List Addr) (h : Sto) (env : IT.Env) (R0 : Rep K μ h H) (re : RepE K μ h H env σ) (p : Post K μ h H (RepRs K) (f env h) Q)
/-- a fresh list -/
inductive tLs (K : PySem.W.Frag) (f : IT.Env → M (List D)) (σ : St) (H : Hp) (Q : VK) : Prop where
  | mk (μ : List Addr) (h : Sto) (env : IT.Env) (R0 : Rep K μ h H) (re : RepE K μ h H env σ) (xs : List D) (h' : Sto) (e : f env h = some (xs, h')) (k : ∀ μ' H' a vs, Stp μ h H μ' h' H' → Rep K μ' h' H' → RepDs K (Live μ' h') H' xs vs → H' a = none → Q (.ref a) (upd H' a (.lst vs)))
noncomputable abbrev IE (X : Cx) (e : Expr) (f : IT.Env → M R) : Prop := PE X e (tE X.K f)
noncomputable abbrev IT' (X : Cx) (e : Expr) (f : IT.Env → M Bool) : Prop := PT X e (tTv X.K f)
noncomputable abbrev IA (X : Cx) (es : List Expr) (f : IT.Env → M (List R)) : Prop := PA X es (tAs X.K f)
noncomputable abbrev IL (X : Cx) (e : Expr) (f : IT.Env → M (List D)) : Prop := PE X e (tLs X.K f)

theorem PE.imp {X : Cx} {e : Expr} {t t' : TE} (h : PE X e t) (i : ∀ σ H Q, t' σ H Q → t σ H Q) : PE X e t' := fun pins s σ H Q I q => h pins s σ H Q I (i σ H Q q)
theorem PT.imp {X : Cx} {e : Expr} {t t' : TT} (h : PT X e t) (i : ∀ σ H Q, t' σ H Q → t σ H Q) : PT X e t' := fun pins s σ H Q I q => h pins s σ H Q I (i σ H Q q)
theorem PA.imp {X : Cx} {e : List Expr} {t t' : TA} (h : PA X e t) (i : ∀ σ H Q, t' σ H Q → t σ H Q) : PA X e t' := fun pos pins s σ H Q I q => h pos pins s σ H Q I (i σ H Q q)

section
variable {X : Cx} {e a b c : Expr} {es : List Expr} {pos : Pos} {f g k : IT.Env → M R} {ft gt : IT.Env → M Bool}

theorem ie_con {v : V} {d : D} (h : PE X e (tC v)) (hd : ∀ A H, RepD X.K A H d v) : IE X e (fun _ => ok (.d d)) := by
  refine PE.imp h fun σ H Q q0 => ?_
  obtain ⟨μ, h, env, R0, re, r, h', e, k⟩ := q0
  obtain ⟨rfl, rfl⟩ := ok_some.mp e
  exact k μ H v Stp.refl R0 (hd _ _)
theorem ie_var {i : Nat} (h : PE X e (tVar i)) : IE X e (fun σ h => match σ[i]? with | some (some r) => some (r, h) | _ => none) := by
  refine PE.imp h fun σ H Q q0 => ?_
  obtain ⟨μ, h, env, R0, re, r, h', e, k⟩ := q0
  have e2 : env[i]? = some (some r) ∧ h = h' := by
    (try dsimp only at e)
    cases q : env[i]? with
    | none => rw [q] at e; cases e
    | some o =>
      cases o with
      | none => rw [q] at e; cases e
      | some r' => rw [q] at e; simp at e; exact ⟨by rw [e.1], e.2⟩
  obtain ⟨e3, rfl⟩ := e2
  obtain ⟨v, e4, z⟩ := re.get i r e3
  exact ⟨v, e4, k μ H v Stp.refl R0 z⟩

/-- a two-place operation -/
inductive OpIQ (K : PySem.W.Frag) (m : R → R → M R) (v u : V) (H : Hp) (Q : VK) : Prop where
  | mk (μ : List Addr) (h : Sto) (x y : R) (R0 : Rep K μ h H) (qx : RepR K μ h H x v) (qy : RepR K μ h H y u) (p : Post K μ h H (RepR K) (m x y h) Q)
noncomputable def OpI (X : Cx) (F : Value → Value → Sem Value) (m : R → R → M R) : Prop := OpR X F fun v u H Q => OpIQ X.K m v u H Q
theorem two {m : R → R → M R} {σ : St} {H : Hp} {Q : VK} (q : tE X.K (fun σ => bnd (f σ) fun x => bnd (g σ) fun y => m x y) σ H Q) :
    tE X.K f σ H fun v H1 => tE X.K g σ H1 fun u H2 => OpIQ X.K m v u H2 Q := by
  obtain ⟨μ, h, env, R0, re, r, h', e, k⟩ := q
  simp only [bnd_some] at e
  obtain ⟨x, h1, e1, y, h2, e2, e3⟩ := e
  exact ⟨μ, h, env, R0, re, x, h1, e1, fun μ1 H1 v s1 R1 q1 => ⟨μ1, h1, env, R1, re.stp s1 R0, y, h2, e2, fun μ2 H2 u s2 R2 q2 =>
    ⟨μ2, h2, x, y, R2, q1.stp s2 R1, q2, r, h', e3, fun μ3 H3 w s3 R3 q3 => k μ3 H3 w ((s1.trans s2).trans s3) R3 q3⟩⟩⟩
theorem ie_bin {op : Operator} {m : R → R → M R} (ho : OpI X (binaryOp op) m) (ha : IE X a f) (hb : IE X b g) : IE X (.BinOp a op b pos) (fun σ => bnd (f σ) fun x => bnd (g σ) fun y => m x y) :=
  PE.imp (pe_op ho ha hb) fun σ H Q q => two q
theorem ie_cmp {op : CmpOp} {m : R → R → M R} (ho : OpI X (compareOp op) m) (ha : IE X a f) (hb : IE X b g) (hm : behindInMarks op b = false) : IE X (.Compare a [op] [b] pos) (fun σ => bnd (f σ) fun x => bnd (g σ) fun y => m x y) :=
  PE.imp (pe_cmpR ho ha hb hm) fun σ H Q q => two q
/-- .. upon data -/
inductive OpDQ (K : PySem.W.Frag) (g : D → D → Option D) (v u : V) (H : Hp) (Q : VK) : Prop where
  | mk (μ : List Addr) (h : Sto) (a b z : D) (R0 : Rep K μ h H) (qa : RdD K (Live μ h) H a v) (qb : RdD K (Live μ h) H b u) (e : g a b = some z) (k : ∀ μ' H' w, Stp μ h H μ' h H' → Rep K μ' h H' → RepD K (Live μ' h) H' z w → Q w H')
noncomputable def OpD (X : Cx) (F : Value → Value → Sem Value) (g : D → D → Option D) : Prop := OpR X F fun v u H Q => OpDQ X.K g v u H Q
noncomputable def mD (g : D → D → Option D) (x y : R) : M R := bnd (rd x) fun x => bnd (rd y) fun y => bnd (opt (g x y)) fun z => ok (.d z)
theorem OpD.opI {F : Value → Value → Sem Value} {g : D → D → Option D} (h : OpD X F g) : OpI X F (mD g) := by
  intro pins s σ H v u v' u' Q I rv ru q
  obtain ⟨μ, h0, x, y, R0, qx, qy, r, h', e, k⟩ := q
  simp only [mD, bnd_some, ok_some, opt_some] at e
  obtain ⟨dx, h1, e1, dy, h2, e2, z, h3, ⟨e3, rfl⟩, rfl, rfl⟩ := e
  obtain ⟨rfl, zx⟩ := rd_ok R0 qx e1
  obtain ⟨rfl, zy⟩ := rd_ok R0 qy e2
  exact h pins s σ H v u v' u' Q I rv ru ⟨μ, _, dx, dy, z, R0, zx, zy, e3, fun μ' H' w st R1 qw => k μ' H' w st R1 qw⟩

/-! tests -/
theorem it_val (h : IE X e f) (he : ∀ whole, isTrue e X.env whole = (do let v ← whole; standAt e.pos; holding [v] (truthy v))) : IT' X e (fun σ => bnd (f σ) fun r => bnd (rd r) fun d => opt (tru d)) := by
  refine PT.imp (pt_truth h he) fun σ H Q q0 => ?_
  obtain ⟨μ, h, env, R0, re, t, h', e, k⟩ := q0
  simp only [bnd_some, opt_some] at e
  obtain ⟨r, h1, e1, d, h2, e2, e3, rfl⟩ := e
  refine ⟨μ, h, env, R0, re, r, h1, e1, fun μ1 H1 v s1 R1 q1 => ?_⟩
  obtain ⟨rfl, z⟩ := rd_ok R1 q1 e2
  refine ⟨t, ?_, k μ1 H1 t s1 R1 rfl⟩
  cases d with
  | non => simp only [RdD, RepD] at z; subst z; simp only [tru, Option.some.injEq] at e3; exact e3.symm
  | bl b => simp only [RdD, RepD] at z; subst z; simp only [tru, Option.some.injEq] at e3; exact e3.symm
  | int i => simp only [RdD, RepD] at z; subst z; simp only [tru, Option.some.injEq] at e3; exact e3.symm
  | str x =>
    simp only [RdD, RepD] at z
    subst z
    simp only [tru] at e3
    split at e3
    · rename_i hf
      simp only [Option.some.injEq] at e3
      refine ⟨by rw [toStr_len]; exact of_decide_eq_true hf, ?_⟩
      rw [← e3, toStr_len]
      cases x <;> simp
      omega
    · cases e3
  | tup xs =>
    simp only [RdD, RepD] at z
    obtain ⟨a, vs, rfl, q, zs⟩ := z
    simp only [tru, Option.some.injEq] at e3
    refine .inr (.inl ⟨vs, q, ?_⟩)
    rw [← e3]
    have := zs.length
    cases xs <;> cases vs <;> simp_all
  | lst xs =>
    obtain ⟨a, vs, rfl, q, zs⟩ := z
    simp only [tru, Option.some.injEq] at e3
    refine .inl ⟨vs, q, ?_⟩
    rw [← e3]
    have := zs.length
    cases xs <;> cases vs <;> simp_all
/-- a comparison -/
theorem it_cmp {op : CmpOp} {m : R → R → M R} (ho : OpI X (compareOp op) m) (ha : IE X a f) (hb : IE X b g) (hm : behindInMarks op b = false) (hbl : ∀ x y h r h', m x y h = some (r, h') → ∃ t, r = .d (.bl t)) :
    IT' X (.Compare a [op] [b] pos) (fun σ => bnd (bnd (f σ) fun x => bnd (g σ) fun y => m x y) fun r => bnd (rd r) fun d => opt (tru d)) := by
  refine PT.imp (pt_cmpR ho ha hb hm) fun σ H Q q0 => ?_
  obtain ⟨μ, h, env, R0, re, t, h', e, k⟩ := q0
  simp only [bnd_some, opt_some] at e
  obtain ⟨r, h1, ⟨x, h2, e1, y, h3, e2, e3⟩, d, h4, e4, e5, rfl⟩ := e
  obtain ⟨t', rfl⟩ := hbl _ _ _ _ _ e3
  simp only [rd, ok_some] at e4
  obtain ⟨rfl, rfl⟩ := e4
  simp only [tru, Option.some.injEq] at e5
  subst e5
  refine two (m := m) ⟨μ, h, env, R0, re, .d (.bl t'), h1, by simp only [bnd_some]; exact ⟨x, h2, e1, y, h3, e2, e3⟩, fun μ1 H1 v s1 R1 q1 => ?_⟩
  simp only [RepR, RepD] at q1
  subst q1
  exact ⟨t', rfl, k μ1 H1 t' s1 R1 rfl⟩
theorem it_and {rest : List Expr} {tb : TT} (ha : IT' X a ft) (hb : PW X (.BoolOp .And (b :: rest) pos) (tTv X.K gt)) : PW X (.BoolOp .And (a :: b :: rest) pos) (tTv X.K fun σ => bnd (ft σ) fun t => if t then gt σ else ok false) := by
  intro whole pins s σ H Q I q
  refine pw_and ha hb whole pins s σ H Q I ?_
  obtain ⟨μ, h, env, R0, re, t, h', e, k⟩ := q
  simp only [bnd_some] at e
  obtain ⟨u, h1, e1, e2⟩ := e
  refine ⟨μ, h, env, R0, re, u, h1, e1, fun μ1 H1 v s1 R1 hv => ?_⟩
  subst hv
  cases u with
  | true =>
    rw [if_pos rfl] at e2
    rw [if_pos rfl]
    exact ⟨μ1, h1, env, R1, re.stp s1 R0, t, h', e2, fun μ2 H2 v s2 R2 hv => k μ2 H2 v (s1.trans s2) R2 hv⟩
  | false =>
    rw [if_neg (by decide)] at e2
    rw [if_neg (by decide)]
    obtain ⟨rfl, rfl⟩ := ok_some.mp e2
    exact k μ1 H1 _ s1 R1 rfl
theorem it_or {rest : List Expr} (ha : IT' X a ft) (hb : PW X (.BoolOp .Or (b :: rest) pos) (tTv X.K gt)) : PW X (.BoolOp .Or (a :: b :: rest) pos) (tTv X.K fun σ => bnd (ft σ) fun t => if t then ok true else gt σ) := by
  intro whole pins s σ H Q I q
  refine pw_or ha hb whole pins s σ H Q I ?_
  obtain ⟨μ, h, env, R0, re, t, h', e, k⟩ := q
  simp only [bnd_some] at e
  obtain ⟨u, h1, e1, e2⟩ := e
  refine ⟨μ, h, env, R0, re, u, h1, e1, fun μ1 H1 v s1 R1 hv => ?_⟩
  subst hv
  cases u with
  | false =>
    rw [if_neg (by decide)] at e2
    rw [if_neg (by decide)]
    exact ⟨μ1, h1, env, R1, re.stp s1 R0, t, h', e2, fun μ2 H2 v s2 R2 hv => k μ2 H2 v (s1.trans s2) R2 hv⟩
  | true =>
    rw [if_pos rfl] at e2
    rw [if_pos rfl]
    obtain ⟨rfl, rfl⟩ := ok_some.mp e2
    exact k μ1 H1 _ s1 R1 rfl
theorem it_not (ha : IT' X a ft) : IT' X (.UnaryOp .Not a pos) (fun σ => bnd (ft σ) fun t => ok (!t)) := by
  refine PT.imp (pt_not ha) fun σ H Q q0 => ?_
  obtain ⟨μ, h, env, R0, re, t, h', e, k⟩ := q0
  simp only [bnd_some, ok_some] at e
  obtain ⟨u, h1, e1, rfl, rfl⟩ := e
  refine ⟨μ, h, env, R0, re, u, h1, e1, fun μ1 H1 v s1 R1 hv => ?_⟩
  subst hv
  exact k μ1 H1 _ s1 R1 rfl
/-! and, or, not as values; x if c else y -/
theorem ie_and {rest : List Expr} (ha : IE X a f) (hb : IE X (.BoolOp .And (b :: rest) pos) g) : IE X (.BoolOp .And (a :: b :: rest) pos) (fun σ => bnd (f σ) fun x => match x with | .d (.bl c) => if c then g σ else ok (.d (.bl false)) | _ => fun _ => none) := by
  refine PE.imp (pe_and ha hb) fun σ H Q q0 => ?_
  obtain ⟨μ, h, env, R0, re, r, h', e, k⟩ := q0
  simp only [bnd_some] at e
  obtain ⟨x, h1, e1, e2⟩ := e
  refine ⟨μ, h, env, R0, re, x, h1, e1, fun μ1 H1 v s1 R1 q1 => ?_⟩
  cases x with
  | loc l => cases e2
  | d d =>
    cases d with
    | bl c =>
      simp only [RepR, RepD] at q1
      refine ⟨c, q1, ?_⟩
      cases c with
      | true =>
        simp only [if_true] at e2 ⊢
        exact ⟨μ1, h1, env, R1, re.stp s1 R0, r, h', e2, fun μ2 H2 v s2 R2 hv => k μ2 H2 v (s1.trans s2) R2 hv⟩
      | false =>
        simp only [Bool.false_eq_true, if_false] at e2 ⊢
        obtain ⟨rfl, rfl⟩ := ok_some.mp e2
        exact k μ1 H1 _ s1 R1 (by simp only [RepR, RepD])
    | _ => cases e2
theorem ie_or {rest : List Expr} (ha : IE X a f) (hb : IE X (.BoolOp .Or (b :: rest) pos) g) : IE X (.BoolOp .Or (a :: b :: rest) pos) (fun σ => bnd (f σ) fun x => match x with | .d (.bl c) => if c then ok (.d (.bl true)) else g σ | _ => fun _ => none) := by
  refine PE.imp (pe_or ha hb) fun σ H Q q0 => ?_
  obtain ⟨μ, h, env, R0, re, r, h', e, k⟩ := q0
  simp only [bnd_some] at e
  obtain ⟨x, h1, e1, e2⟩ := e
  refine ⟨μ, h, env, R0, re, x, h1, e1, fun μ1 H1 v s1 R1 q1 => ?_⟩
  cases x with
  | loc l => cases e2
  | d d =>
    cases d with
    | bl c =>
      simp only [RepR, RepD] at q1
      refine ⟨c, q1, ?_⟩
      cases c with
      | false =>
        simp only [Bool.false_eq_true, if_false] at e2 ⊢
        exact ⟨μ1, h1, env, R1, re.stp s1 R0, r, h', e2, fun μ2 H2 v s2 R2 hv => k μ2 H2 v (s1.trans s2) R2 hv⟩
      | true =>
        simp only [if_true] at e2 ⊢
        obtain ⟨rfl, rfl⟩ := ok_some.mp e2
        exact k μ1 H1 _ s1 R1 (by simp only [RepR, RepD])
    | _ => cases e2
theorem truD_at {pins : List (Addr × Obj)} {σ : St} {H : Hp} {s : Shared} {A : Around} {A0 : Addr → Prop} {d : D} {v : V} {u : Value} {b : Bool} {Q : Bool → Shared → Prop} {E : Value → Shared → Prop} (I : Inv X pins σ H s) (q : RdD X.K A0 H d v) (r : RelV v u) (e : tru d = some b) (k : ∀ tk, Q b { s with toks := tk }) :
    wpAny (model X.prog X.w) A (truthy u) Q E s := by
  have hl := line63
  have hs : sizeLine = 16777216 := sizeLine_eq
  cases d with
  | non =>
    simp only [RdD, RepD] at q; subst q; cases r
    simp only [tru, Option.some.injEq] at e; subst e
    exact PyProof.Rows.truthy_none (k s.toks)
  | bl c =>
    simp only [RdD, RepD] at q; subst q; cases r
    simp only [tru, Option.some.injEq] at e; subst e
    exact wpAny_truthy_bool (k s.toks)
  | int i =>
    simp only [RdD, RepD] at q; subst q
    obtain ⟨t, rfl⟩ := r
    simp only [tru, Option.some.injEq] at e; subst e
    exact PySem.P.truthy_int (k s.toks)
  | str x =>
    simp only [RdD, RepD] at q; subst q
    obtain ⟨t, rfl⟩ := r
    simp only [tru] at e
    split at e
    · rename_i hf
      simp only [Option.some.injEq] at e
      have hx : x.length ≤ big := of_decide_eq_true hf
      unfold big at hx
      refine PySem.P.truthy_str (by rw [toStr_len]; omega) ?_
      have e2 : (((toStr x).length : Int) != 0) = b := by
        rw [← e, toStr_len]
        cases x <;> simp
        omega
      rw [e2]
      exact k _
    · cases e
  | tup xs =>
    simp only [RdD, RepD] at q
    obtain ⟨a, vs, rfl, q, zs⟩ := q
    cases r
    simp only [tru, Option.some.injEq] at e
    obtain ⟨its, ri, pl, hz⟩ := I.tuple q
    have hlen := ri.length
    have h1 := zs.length
    refine PyProof.Rows.truthy_tuple pl (by simp only [List.size_toArray]; omega) ?_
    have e2 : (!its.toArray.isEmpty) = b := by
      rw [isEmpty_of ri, ← e]
      clear hlen ri pl q hz
      cases xs <;> cases vs <;> first | rfl | (simp at h1)
    rw [e2]
    exact k _
  | lst xs =>
    obtain ⟨a, vs, rfl, q, zs⟩ := q
    cases r
    simp only [tru, Option.some.injEq] at e
    obtain ⟨its, ri, pl, hz⟩ := I.list q
    have hlen := ri.length
    have h1 := zs.length
    refine wpAny_truthy_list pl.isList (by simp only [List.size_toArray]; omega) ?_
    have e2 : (!its.toArray.isEmpty) = b := by
      rw [isEmpty_of ri, ← e]
      clear hlen ri pl q hz
      cases xs <;> cases vs <;> first | rfl | (simp at h1)
    rw [e2]
    exact k _
theorem ie_not (ha : IE X a f) : IE X (.UnaryOp .Not a pos) (fun σ => bnd (f σ) fun x => bnd (rd x) fun d => bnd (opt (tru d)) fun t => ok (.d (.bl (!t)))) := by
  intro pins s σ H Q I q0
  obtain ⟨μ, h, env, R0, re, r, h', e, k⟩ := q0
  simp only [bnd_some, opt_some, ok_some] at e
  obtain ⟨x, h1, e1, d, h2, e2, t, h3, ⟨e3, rfl⟩, rfl, rfl⟩ := e
  have z := ha pins s σ H (fun y H1 => ∃ A0 d, RdD X.K A0 H1 d y ∧ tru d = some t ∧ Q (.bl (!t)) H1) I ⟨μ, h, env, R0, re, x, h1, e1, fun μ1 H1 v s1 R1 q1 => by
    obtain ⟨rfl, z⟩ := rd_ok R1 q1 e2
    exact ⟨_, d, z, e3, k μ1 H1 _ s1 R1 (by simp only [RepR, RepD])⟩⟩
  refine PyProof.Rows.UnaryOp_ (thn z fun v s1 ⟨y, H1, I1, r1, A0, d', z1, z2, q1⟩ => PyProof.Rows.not_of ?_)
  exact truD_at I1 z1 r1 z2 fun tk => ⟨.bl (!t), H1, I1.tok _, rfl, q1⟩
theorem ie_neg (ha : IE X a f) : IE X (.UnaryOp .USub a pos) (fun σ => bnd (f σ) fun x => match x with | .d (.int i) => ok (.d (.int (-i))) | _ => fun _ => none) := by
  refine PE.imp (pe_un un_neg ha) fun σ H Q q0 => ?_
  obtain ⟨μ, h, env, R0, re, r, h', e, k⟩ := q0
  simp only [bnd_some] at e
  obtain ⟨x, h1, e1, e2⟩ := e
  refine ⟨μ, h, env, R0, re, x, h1, e1, fun μ1 H1 v s1 R1 q1 => ?_⟩
  cases x with
  | loc l => cases e2
  | d d =>
    cases d with
    | int i =>
      simp only [RepR, RepD] at q1
      obtain ⟨rfl, rfl⟩ := ok_some.mp e2
      exact ⟨i, q1, k μ1 H1 _ s1 R1 (by simp only [RepR, RepD])⟩
    | _ => cases e2
theorem ie_ife (hc : IT' X c ft) (ha : IE X a f) (hb : IE X b g) : IE X (.IfExp c a b pos) (fun σ => bnd (ft σ) fun t => if t then f σ else g σ) := by
  refine PE.imp (pe_ifExp hc ha hb) fun σ H Q q0 => ?_
  obtain ⟨μ, h, env, R0, re, r, h', e, k⟩ := q0
  simp only [bnd_some] at e
  obtain ⟨t, h1, e1, e2⟩ := e
  refine ⟨μ, h, env, R0, re, t, h1, e1, fun μ1 H1 v s1 R1 hv => ?_⟩
  subst hv
  cases t with
  | true =>
    simp only [if_true] at e2 ⊢
    exact ⟨μ1, h1, env, R1, re.stp s1 R0, r, h', e2, fun μ2 H2 v s2 R2 hv => k μ2 H2 v (s1.trans s2) R2 hv⟩
  | false =>
    simp only [Bool.false_eq_true, if_false] at e2 ⊢
    exact ⟨μ1, h1, env, R1, re.stp s1 R0, r, h', e2, fun μ2 H2 v s2 R2 hv => k μ2 H2 v (s1.trans s2) R2 hv⟩

/-! argument lists, tuples, lists -/
theorem ia_nil : IA X [] (fun _ => ok []) := by
  refine PA.imp pa_nil fun σ H Q q0 => ?_
  obtain ⟨μ, h, env, R0, re, r, h', e, k⟩ := q0
  obtain ⟨rfl, rfl⟩ := ok_some.mp e
  exact k μ H [] Stp.refl R0 .nil
theorem ia_cons {fs : IT.Env → M (List R)} (ha : IE X e f) (hr : IA X es fs) (hs : starEach (e :: es) X.env = (false, eval e X.env) :: starEach es X.env) : IA X (e :: es) (fun σ => bnd (f σ) fun r => bnd (fs σ) fun rs => ok (r :: rs)) := by
  refine PA.imp (pa_cons ha hr hs) fun σ H Q q0 => ?_
  obtain ⟨μ, h, env, R0, re, r, h', e, k⟩ := q0
  simp only [bnd_some, ok_some] at e
  obtain ⟨x, h1, e1, xs, h2, e2, rfl, rfl⟩ := e
  exact ⟨μ, h, env, R0, re, x, h1, e1, fun μ1 H1 v s1 R1 q1 => ⟨μ1, h1, env, R1, re.stp s1 R0, xs, h2, e2, fun μ2 H2 vs s2 R2 q2 => k μ2 H2 (v :: vs) (s1.trans s2) R2 (.cons (q1.stp s2 R1) q2)⟩⟩
theorem ie_tup {n : Nat} {fs : IT.Env → M (List R)} (h : IA X es fs) (hl : es.length ≤ 1000) (hf : ∀ σ h rs h', fs σ h = some (rs, h') → rs.length = es.length) : IE X (.Tuple es n pos) (fun σ => bnd (fs σ) fun rs => bnd (fzs rs) fun ds => ok (.d (.tup ds))) := by
  refine PE.imp (pe_tup h) fun σ H Q q0 => ?_
  obtain ⟨μ, h, env, R0, re, r, h', e, k⟩ := q0
  simp only [bnd_some, ok_some] at e
  obtain ⟨rs, h1, e1, ds, h2, e2, rfl, rfl⟩ := e
  refine ⟨μ, h, env, R0, re, rs, h1, e1, fun μ1 H1 vs s1 R1 q1 => ⟨?_, fun p hp => ?_⟩⟩
  · rw [← q1.length, hf _ _ _ _ e1]
    have : (1000 : Nat) ≤ sizeLine := by decide
    omega
  · obtain ⟨s2, R2, q2⟩ := fzs_ok R1 q1 e2
    have s3 : Stp μ1 h2 H1 μ1 h2 (upd H1 p (.tup vs)) := Stp.fresh hp
    refine k μ1 _ (.ref p) ((s1.trans s2).trans s3) (R2.fresh hp) ?_
    simp only [RepR, RepD]
    exact ⟨p, vs, rfl, SqT.of upd_same, RepDs.stp s3 R2 q2⟩
theorem il_disp {fs : IT.Env → M (List R)} (h : IA X es fs) (hl : es.length ≤ 1000) (hf : ∀ σ h rs h', fs σ h = some (rs, h') → rs.length = es.length) : IL X (.List es pos) (fun σ => bnd (fs σ) fun rs => fzs rs) := by
  refine PE.imp (pe_lst h) fun σ H Q q0 => ?_
  obtain ⟨μ, h, env, R0, re, ds, h', e, k⟩ := q0
  simp only [bnd_some] at e
  obtain ⟨rs, h1, e1, e2⟩ := e
  refine ⟨μ, h, env, R0, re, rs, h1, e1, fun μ1 H1 vs s1 R1 q1 => ⟨?_, fun p hp => ?_⟩⟩
  · rw [← q1.length, hf _ _ _ _ e1]
    have : (1000 : Nat) ≤ sizeLine := by decide
    omega
  · obtain ⟨s2, R2, q2⟩ := fzs_ok R1 q1 e2
    exact k μ1 H1 p vs (s1.trans s2) R2 q2 hp
theorem ie_lst {fl : IT.Env → M (List D)} (m : Bool) (h : IL X e fl) : IE X e (fun σ => bnd (fl σ) fun xs => if m then alloc xs else ok (.d (.lst xs))) := by
  refine PE.imp h fun σ H Q q0 => ?_
  obtain ⟨μ, h, env, R0, re, r, h', e, k⟩ := q0
  simp only [bnd_some] at e
  obtain ⟨xs, h1, e1, e2⟩ := e
  refine ⟨μ, h, env, R0, re, xs, h1, e1, fun μ1 H1 a vs s1 R1 q1 ha => ?_⟩
  cases m with
  | true =>
    simp only [if_true, alloc, Option.some.injEq, Prod.mk.injEq] at e2
    obtain ⟨rfl, rfl⟩ := e2
    refine k (μ1 ++ [a]) _ (.ref a) (s1.trans (Stp.alloc R1 ha)) (R1.alloc ha q1) ⟨a, ?_, rfl⟩
    rw [← R1.len]
    simp
  | false =>
    simp only [Bool.false_eq_true, if_false] at e2
    obtain ⟨rfl, rfl⟩ := ok_some.mp e2
    have s2 : Stp μ1 h1 H1 μ1 h1 (upd H1 a (.lst vs)) := Stp.fresh ha
    refine k μ1 _ (.ref a) (s1.trans s2) (R1.fresh ha) ?_
    simp only [RepR, RepD]
    refine ⟨a, vs, rfl, .inl ⟨fun l => ?_, .inl upd_same⟩, RepDs.stp s2 R1 q1⟩
    obtain ⟨ws, z, _⟩ := R1.liveAt l
    rw [ha] at z; cases z
end
end IT

set_option linter.all false
set_option maxHeartbeats 4000000
/-! Operations upon data. -/
namespace IT
open PySem PySem.Spec L2

/-! ### == -/
section
variable {K : PySem.W.Frag} {A0 : Addr → Prop} {H : Hp}
theorem str_beq' (x y : List Nat) : (toStr x == toStr y) = (x == y) := by
  by_cases e : x = y
  · subst e; simp
  · rw [beq_eq_false_iff_ne.mpr e, beq_eq_false_iff_ne.mpr (fun z => e (toStr_inj z))]

/-- a list or tuple as it stands -/
structure SeqAt' (X : Cx) (s : Shared) (H : Hp) : Prop where
  lst : ∀ a vs, SqL X.K H a vs → ∃ its : List Value, Vals vs its ∧ s.heap.IsList a its.toArray
  tup : ∀ a vs, SqT X.K H a vs → ∃ its : List Value, Vals vs its ∧ s.heap.IsTuple a its.toArray
theorem seqAt_of {X : Cx} {pins : List (Addr × Obj)} {σ : St} {s : Shared} (I : Inv X pins σ H s) : SeqAt' X s H :=
  ⟨fun a vs q => let ⟨its, r, p, _⟩ := I.list q; ⟨its, r, p.isList⟩, fun a vs q => let ⟨its, r, p, _⟩ := I.tuple q; ⟨its, r, p⟩⟩

theorem all_range {α : Type} (xs ys : List α) (f : α → α → Bool) (hl : xs.length = ys.length) (e : Nat → Bool) (he : ∀ (j : Nat) (x y : α), xs[j]? = some x → ys[j]? = some y → e j = f x y) :
    (List.range xs.length).all e = (xs.zip ys).all fun p => f p.1 p.2 := by
  rw [Bool.eq_iff_iff, List.all_eq_true, List.all_eq_true]
  constructor
  · intro h p hp
    obtain ⟨j, hj, e1⟩ := List.getElem_of_mem hp
    have hj' : j < xs.length ∧ j < ys.length := by simp at hj; omega
    have e2 : p = (xs[j]'hj'.1, ys[j]'hj'.2) := by rw [← e1, List.getElem_zip]
    rw [e2, ← he j _ _ (List.getElem?_eq_getElem hj'.1) (List.getElem?_eq_getElem hj'.2)]
    exact h j (by simpa using hj'.1)
  · intro h j hj
    have hj1 : j < xs.length := by simpa using hj
    have hj2 : j < ys.length := by omega
    rw [he j _ _ (List.getElem?_eq_getElem hj1) (List.getElem?_eq_getElem hj2)]
    refine h (xs[j], ys[j]) ?_
    rw [List.mem_iff_getElem]
    exact ⟨j, by simp; omega, by simp⟩
theorem eqbs_zip : ∀ xs ys : List D, xs.length = ys.length → D.eqbs xs ys = (xs.zip ys).all fun p => p.1.eqb p.2
  | [], [], _ => rfl
  | x :: xs, y :: ys, h => by
    simp only [D.eqbs, List.zip_cons_cons, List.all_cons]
    rw [eqbs_zip xs ys (by simpa using h)]
theorem eqbs_len : ∀ xs ys : List D, xs.length ≠ ys.length → D.eqbs xs ys = false
  | [], [], h => absurd rfl h
  | [], _ :: _, _ => rfl
  | _ :: _, [], _ => rfl
  | x :: xs, y :: ys, h => by
    simp only [D.eqbs]
    rw [eqbs_len xs ys (by simpa using h), Bool.and_false]
theorem vals_get {vs : List V} {its : List Value} (r : Vals vs its) {j : Nat} {v : V} (e : vs[j]? = some v) (h : j < its.length) : RelV v its[j] := by
  obtain ⟨u, e1, r1⟩ := r.get e
  rw [List.getElem?_eq_getElem h] at e1
  cases e1
  exact r1

mutual
theorem D.eqb_refl : ∀ x : D, x.eqb x = true
  | .non => rfl
  | .bl a => by simp [D.eqb]
  | .int a => by simp [D.eqb]
  | .str a => by simp [D.eqb]
  | .tup a => by simp only [D.eqb]; exact D.eqbs_refl a
  | .lst a => by simp only [D.eqb]; exact D.eqbs_refl a
theorem D.eqbs_refl : ∀ x : List D, D.eqbs x x = true
  | [] => rfl
  | a :: r => by simp only [D.eqbs, Bool.and_eq_true]; exact ⟨D.eqb_refl a, D.eqbs_refl r⟩
end
section
variable {X : Cx} {s : Shared}
theorem tup_inj (S : SeqAt' X s H) {a : Addr} {vs ws : List V} (q : SqT X.K H a vs) (q' : SqT X.K H a ws) : vs = ws := by
  obtain ⟨its, ri, o, h1, _, _, h2⟩ := S.tup a vs q
  obtain ⟨its', ri', o', h1', _, _, h2'⟩ := S.tup a ws q'
  rw [h1] at h1'; cases h1'; rw [h2] at h2'; cases h2'
  exact Vals.inj ri ri'
theorem lst_inj (S : SeqAt' X s H) {a : Addr} {vs ws : List V} (q : SqL X.K H a vs) (q' : SqL X.K H a ws) : vs = ws := by
  obtain ⟨its, ri, o, h1, _, _, h2⟩ := S.lst a vs q
  obtain ⟨its', ri', o', h1', _, _, h2'⟩ := S.lst a ws q'
  rw [h1] at h1'; cases h1'; rw [h2] at h2'; cases h2'
  exact Vals.inj ri ri'
theorem lst_tup (S : SeqAt' X s H) {a : Addr} {vs ws : List V} (q : SqL X.K H a vs) (q' : SqT X.K H a ws) : False := by
  obtain ⟨its, ri, p⟩ := S.lst a vs q
  obtain ⟨its', ri', p'⟩ := S.tup a ws q'
  exact SeqAt.ne_of_list_tuple p p' rfl
mutual
theorem RepD.inj (S : SeqAt' X s H) : ∀ (x y : D) (v : V), RepD X.K A0 H x v → RepD X.K A0 H y v → x = y
  | .non, y, v, qx, qy => by
    simp only [RepD] at qx; subst qx
    cases y <;> simp_all [RepD]
  | .bl c, y, v, qx, qy => by
    simp only [RepD] at qx; subst qx
    cases y <;> simp_all [RepD]
  | .int c, y, v, qx, qy => by
    simp only [RepD] at qx; subst qx
    cases y <;> simp_all [RepD]
  | .str c, y, v, qx, qy => by
    simp only [RepD] at qx; subst qx
    cases y with
    | str b => simp only [RepD, V.str.injEq] at qy; rw [toStr_inj qy]
    | _ => simp [RepD] at qy
  | .tup c, y, v, qx, qy => by
    simp only [RepD] at qx
    obtain ⟨a, vs, rfl, q, zs⟩ := qx
    cases y with
    | tup b =>
      simp only [RepD] at qy
      obtain ⟨a', vs', e, q', zs'⟩ := qy
      cases e
      have e2 := tup_inj S q q'
      subst e2
      rw [RepDs.inj S c b vs zs zs']
    | lst b =>
      simp only [RepD] at qy
      obtain ⟨a', vs', e, q', zs'⟩ := qy
      cases e
      exact (lst_tup S q'.sq q).elim
    | _ => simp [RepD] at qy
  | .lst c, y, v, qx, qy => by
    simp only [RepD] at qx
    obtain ⟨a, vs, rfl, q, zs⟩ := qx
    cases y with
    | lst b =>
      simp only [RepD] at qy
      obtain ⟨a', vs', e, q', zs'⟩ := qy
      cases e
      have e2 := lst_inj S q.sq q'.sq
      subst e2
      rw [RepDs.inj S c b vs zs zs']
    | tup b =>
      simp only [RepD] at qy
      obtain ⟨a', vs', e, q', zs'⟩ := qy
      cases e
      exact (lst_tup S q.sq q').elim
    | _ => simp [RepD] at qy
theorem RepDs.inj (S : SeqAt' X s H) : ∀ (x y : List D) (v : List V), RepDs X.K A0 H x v → RepDs X.K A0 H y v → x = y
  | [], y, v, qx, qy => by
    simp only [RepDs] at qx
    subst qx
    cases y with
    | nil => rfl
    | cons _ _ => have := qy.length; simp at this
  | x :: xs, y, v, qx, qy => by
    simp only [RepDs] at qx
    obtain ⟨w, ws, rfl, q1, q2⟩ := qx
    cases y with
    | nil => have := qy.length; simp at this
    | cons y ys =>
      simp only [RepDs] at qy
      obtain ⟨w', ws', e, q1', q2'⟩ := qy
      cases e
      rw [RepD.inj S x y w q1 q1', RepDs.inj S xs ys ws q2 q2']
end
end

/-- the pair of items at a place -/
noncomputable def pairAt (xs ys : List D) (j : Nat) : Bool := match xs[j]?, ys[j]? with
  | some x, some y => x.eqb y
  | _, _ => false

section
variable {X : Cx} {s : Shared}
mutual
theorem eqAt_D (S : SeqAt' X s H) : ∀ (x y : D) (A : Around) (v w : V) (u t : Value), RdD X.K A0 H x v → RdD X.K A0 H y w → RelV v u → RelV w t → A.units + min x.dep y.dep < cLine → SeqAt.EqAt A s u t (x.eqb y)
  | .non, y, A, v, w, u, t, qx, qy, ru, rt, hu => by
    simp only [RdD, RepD] at qx
    subst qx
    cases ru
    cases y with
    | non => simp only [RdD, RepD] at qy; subst qy; cases rt; exact SeqAt.EqAt.same _
    | bl b => simp only [RdD, RepD] at qy; subst qy; cases rt; exact SeqAt.EqAt.none_bool b
    | int b => simp only [RdD, RepD] at qy; subst qy; obtain ⟨t', rfl⟩ := rt; exact SeqAt.EqAt.none_int b t'
    | str b => simp only [RdD, RepD] at qy; subst qy; obtain ⟨t', rfl⟩ := rt; exact SeqAt.EqAt.none_str _ t'
    | tup b =>
      simp only [RdD, RepD] at qy
      obtain ⟨a, vs, rfl, q, _⟩ := qy
      cases rt
      obtain ⟨its, _, p⟩ := S.tup a vs q
      exact SeqAt.EqAt.none_tuple p (by omega)
    | lst b =>
      obtain ⟨a, vs, rfl, q, _⟩ := qy
      cases rt
      obtain ⟨its, _, p⟩ := S.lst a vs q
      exact SeqAt.EqAt.none_list p (by omega)
  | .bl c, y, A, v, w, u, t, qx, qy, ru, rt, hu => by
    simp only [RdD, RepD] at qx
    subst qx
    cases ru
    cases y with
    | non => simp only [RdD, RepD] at qy; subst qy; cases rt; exact SeqAt.EqAt.bool_none c
    | bl b => simp only [RdD, RepD] at qy; subst qy; cases rt; exact SeqAt.EqAt.bool_bool c b
    | int b => simp only [RdD, RepD] at qy; subst qy; obtain ⟨t', rfl⟩ := rt; exact SeqAt.EqAt.bool_int c b t'
    | str b => simp only [RdD, RepD] at qy; subst qy; obtain ⟨t', rfl⟩ := rt; exact SeqAt.EqAt.bool_str c _ t'
    | tup b =>
      simp only [RdD, RepD] at qy
      obtain ⟨a, vs, rfl, q, _⟩ := qy
      cases rt
      obtain ⟨its, _, p⟩ := S.tup a vs q
      exact SeqAt.EqAt.bool_tuple c p (by omega)
    | lst b =>
      obtain ⟨a, vs, rfl, q, _⟩ := qy
      cases rt
      obtain ⟨its, _, p⟩ := S.lst a vs q
      exact SeqAt.EqAt.bool_list c p (by omega)
  | .int c, y, A, v, w, u, t, qx, qy, ru, rt, hu => by
    simp only [RdD, RepD] at qx
    subst qx
    obtain ⟨u', rfl⟩ := ru
    cases y with
    | non => simp only [RdD, RepD] at qy; subst qy; cases rt; exact SeqAt.EqAt.int_none c u'
    | bl b => simp only [RdD, RepD] at qy; subst qy; cases rt; exact SeqAt.EqAt.int_bool c u' b
    | int b => simp only [RdD, RepD] at qy; subst qy; obtain ⟨t', rfl⟩ := rt; exact SeqAt.EqAt.int_int c u' b t'
    | str b => simp only [RdD, RepD] at qy; subst qy; obtain ⟨t', rfl⟩ := rt; exact SeqAt.EqAt.int_str c u' _ t'
    | tup b =>
      simp only [RdD, RepD] at qy
      obtain ⟨a, vs, rfl, q, _⟩ := qy
      cases rt
      obtain ⟨its, _, p⟩ := S.tup a vs q
      exact SeqAt.EqAt.int_tuple c u' p (by omega)
    | lst b =>
      obtain ⟨a, vs, rfl, q, _⟩ := qy
      cases rt
      obtain ⟨its, _, p⟩ := S.lst a vs q
      exact SeqAt.EqAt.int_list c u' p (by omega)
  | .str c, y, A, v, w, u, t, qx, qy, ru, rt, hu => by
    simp only [RdD, RepD] at qx
    subst qx
    obtain ⟨u', rfl⟩ := ru
    cases y with
    | non => simp only [RdD, RepD] at qy; subst qy; cases rt; exact SeqAt.EqAt.str_none _ u'
    | bl b => simp only [RdD, RepD] at qy; subst qy; cases rt; exact SeqAt.EqAt.str_bool _ u' b
    | int b => simp only [RdD, RepD] at qy; subst qy; obtain ⟨t', rfl⟩ := rt; exact SeqAt.EqAt.str_int _ u' b t'
    | str b =>
      simp only [RdD, RepD] at qy
      subst qy
      obtain ⟨t', rfl⟩ := rt
      have := SeqAt.EqAt.str_str (A := A) (s := s) (toStr c) u' (toStr b) t'
      rw [str_beq'] at this
      exact this
    | tup b =>
      simp only [RdD, RepD] at qy
      obtain ⟨a, vs, rfl, q, _⟩ := qy
      cases rt
      obtain ⟨its, _, p⟩ := S.tup a vs q
      exact SeqAt.EqAt.str_tuple _ u' p (by omega)
    | lst b =>
      obtain ⟨a, vs, rfl, q, _⟩ := qy
      cases rt
      obtain ⟨its, _, p⟩ := S.lst a vs q
      exact SeqAt.EqAt.str_list _ u' p (by omega)
  | .tup c, y, A, v, w, u, t, qx, qy, ru, rt, hu => by
    simp only [RdD, RepD] at qx
    obtain ⟨a, vs, rfl, q, zs⟩ := qx
    cases ru
    obtain ⟨its, ri, p⟩ := S.tup a vs q
    have hu0 : A.units < cLine := by omega
    cases y with
    | non => simp only [RdD, RepD] at qy; subst qy; cases rt; exact SeqAt.EqAt.tuple_none p hu0
    | bl b => simp only [RdD, RepD] at qy; subst qy; cases rt; exact SeqAt.EqAt.tuple_bool b p hu0
    | int b => simp only [RdD, RepD] at qy; subst qy; obtain ⟨t', rfl⟩ := rt; exact SeqAt.EqAt.tuple_int b t' p hu0
    | str b => simp only [RdD, RepD] at qy; subst qy; obtain ⟨t', rfl⟩ := rt; exact SeqAt.EqAt.tuple_str _ t' p hu0
    | lst b =>
      obtain ⟨a', vs', rfl, q', _⟩ := qy
      cases rt
      obtain ⟨its', _, p'⟩ := S.lst a' vs' q'
      exact SeqAt.EqAt.tuple_list p p' hu0
    | tup b =>
      simp only [RdD, RepD] at qy
      obtain ⟨a', vs', rfl, q', zs'⟩ := qy
      cases rt
      obtain ⟨its', ri', p'⟩ := S.tup a' vs' q'
      have key := pairs_D S c b A.in1 vs vs' its its' zs zs' ri ri' (by
        show A.units + 1 + _ < cLine
        simp only [D.dep] at hu
        omega)
      by_cases hab : a = a'
      · subst hab
        have e2 := tup_inj S q q'
        subst e2
        have e1 := RepDs.inj S c b vs zs zs'
        subst e1
        refine (show D.eqb (.tup c) (.tup c) = true from D.eqb_refl _) ▸ SeqAt.EqAt.same _
      · refine SeqAt.EqAt.of_refs hab ?_
        have := SeqAt.RcAt.tuples (e := pairAt c b) p p' hu0 (fun j h1 h2 => by
          have := key j (by simpa using h1) (by simpa using h2)
          simpa using this)
        have e3 : ((List.range (min its.toArray.size its'.toArray.size)).all (pairAt c b) && its.toArray.size == its'.toArray.size) = D.eqbs c b := by
          have l1 := zs.length
          have l2 := zs'.length
          have l3 := ri.length
          have l4 := ri'.length
          by_cases hl : c.length = b.length
          · have hm : min its.toArray.size its'.toArray.size = c.length := by simp; omega
            rw [hm, eqbs_zip c b hl, all_range c b (fun x y => x.eqb y) hl (pairAt c b) (fun j x y h1 h2 => by simp [pairAt, h1, h2])]
            have : (its.toArray.size == its'.toArray.size) = true := by simp; omega
            rw [this, Bool.and_true]
          · rw [eqbs_len c b hl]
            have : (its.toArray.size == its'.toArray.size) = false := by simp; omega
            rw [this, Bool.and_false]
        rw [e3] at this
        exact this
  | .lst c, y, A, v, w, u, t, qx, qy, ru, rt, hu => by
    obtain ⟨a, vs, rfl, q, zs⟩ := qx
    cases ru
    obtain ⟨its, ri, p⟩ := S.lst a vs q
    have hu0 : A.units < cLine := by omega
    cases y with
    | non => simp only [RdD, RepD] at qy; subst qy; cases rt; exact SeqAt.EqAt.list_none p hu0
    | bl b => simp only [RdD, RepD] at qy; subst qy; cases rt; exact SeqAt.EqAt.list_bool b p hu0
    | int b => simp only [RdD, RepD] at qy; subst qy; obtain ⟨t', rfl⟩ := rt; exact SeqAt.EqAt.list_int b t' p hu0
    | str b => simp only [RdD, RepD] at qy; subst qy; obtain ⟨t', rfl⟩ := rt; exact SeqAt.EqAt.list_str _ t' p hu0
    | tup b =>
      simp only [RdD, RepD] at qy
      obtain ⟨a', vs', rfl, q', _⟩ := qy
      cases rt
      obtain ⟨its', _, p'⟩ := S.tup a' vs' q'
      exact SeqAt.EqAt.list_tuple p p' hu0
    | lst b =>
      obtain ⟨a', vs', rfl, q', zs'⟩ := qy
      cases rt
      obtain ⟨its', ri', p'⟩ := S.lst a' vs' q'
      have key := pairs_D S c b A.in1 vs vs' its its' zs zs' ri ri' (by
        show A.units + 1 + _ < cLine
        simp only [D.dep] at hu
        omega)
      by_cases hab : a = a'
      · subst hab
        have e2 := lst_inj S q q'
        subst e2
        have e1 := RepDs.inj S c b vs zs zs'
        subst e1
        refine (show D.eqb (.lst c) (.lst c) = true from D.eqb_refl _) ▸ SeqAt.EqAt.same _
      · refine SeqAt.EqAt.of_refs hab ?_
        show SeqAt.RcAt A s _ _ (D.eqbs c b)
        have l1 := zs.length
        have l2 := zs'.length
        have l3 := ri.length
        have l4 := ri'.length
        by_cases hl : c.length = b.length
        · have := SeqAt.RcAt.lists (e := pairAt c b) p p' (by simp; omega) hu0 (fun j h1 h2 => by
            have := key j (by simpa using h1) (by simpa using h2)
            simpa using this)
          have hm : its.toArray.size = c.length := by simp; omega
          rw [hm, all_range c b (fun x y => x.eqb y) hl (pairAt c b) (fun j x y h1 h2 => by simp [pairAt, h1, h2]), ← eqbs_zip c b hl] at this
          exact this
        · rw [eqbs_len c b hl]
          exact SeqAt.RcAt.lists_lengths p p' (by simp; omega) hu0
theorem pairs_D (S : SeqAt' X s H) : ∀ (xs ys : List D) (A : Around) (vs ws : List V) (us ts : List Value), RepDs X.K A0 H xs vs → RepDs X.K A0 H ys ws → Vals vs us → Vals ws ts → A.units + min (D.deps xs) (D.deps ys) < cLine →
    ∀ (j : Nat) (h1 : j < us.length) (h2 : j < ts.length), SeqAt.EqAt A s us[j] ts[j] (pairAt xs ys j)
  | [], ys, A, vs, ws, us, ts, qx, qy, ru, rt, hu, j, h1, h2 => by
    have l1 := qx.length
    have l2 := ru.length
    rw [List.length_nil] at l1
    omega
  | x :: xs, ys, A, vs, ws, us, ts, qx, qy, ru, rt, hu, j, h1, h2 => by
    rw [RepDs] at qx
    obtain ⟨v, vs, rfl, qx1, qx2⟩ := qx
    cases ru with
    | cons ru1 ru2 =>
      cases ys with
      | nil =>
        have l1 := qy.length
        have l2 := rt.length
        rw [List.length_nil] at l1
        omega
      | cons y ys =>
        rw [RepDs] at qy
        obtain ⟨w, ws, rfl, qy1, qy2⟩ := qy
        cases rt with
        | cons rt1 rt2 =>
          simp only [D.deps] at hu
          cases j with
          | zero =>
            simp only [List.getElem_cons_zero, pairAt, List.getElem?_cons_zero]
            exact eqAt_D S x y A v w _ _ (RdD.of qx1) (RdD.of qy1) ru1 rt1 (by omega)
          | succ j =>
            simp only [List.getElem_cons_succ]
            have := pairs_D S xs ys A vs ws _ _ qx2 qy2 ru2 rt2 (by omega) j (by simpa using h1) (by simpa using h2)
            simpa only [pairAt, List.getElem?_cons_succ] using this
end
end
end
end IT

set_option linter.all false
set_option maxHeartbeats 4000000
set_option maxRecDepth 100000
/-! Texts: where one lies in another, what is between, what a slice takes. -/
namespace IT
open PySem PySem.Spec L2
open PySem.StrLaws Builtin.Str
theorem ssi (lo hi : Option Int) (n : Nat) : strSliceIndices lo hi 1 n = (List.range (HT.sIx n n hi - HT.sIx n 0 lo)).map fun k => HT.sIx n 0 lo + k := by
  have clip : ∀ v : Int, (max 0 (min (if v < 0 then v + (n : Int) else v) (n : Int))) = (((if v < 0 then (v + (n : Int)).toNat else min v.toNat n) : Nat) : Int) := by
    intro v
    by_cases hv : v < 0
    · simp only [if_pos hv]; omega
    · simp only [if_neg hv]; omega
  have rng : ∀ i j : Nat, sliceRange (i : Int) (j : Int) 1 = (List.range (j - i)).map fun k => i + k := by
    intro i j
    unfold sliceRange
    have h1 : (1 : Int) > 0 := by omega
    simp only [h1, if_true, Int.ediv_one]
    have e : (if (i : Int) < (j : Int) then (j : Int) - i + 1 - 1 else 0).toNat = j - i := by split <;> omega
    rw [e]
    refine List.map_congr_left fun k _ => ?_
    omega
  unfold strSliceIndices
  have h1 : (1 : Int) > 0 := by omega
  simp only [h1, if_true]
  cases lo with
  | none =>
    cases hi with
    | none => exact rng 0 n
    | some u => simp only [clip]; exact rng 0 _
  | some l =>
    cases hi with
    | none => simp only [clip]; exact rng _ n
    | some u => simp only [clip]; exact rng _ _
theorem pick_run (x : List Nat) (i : Nat) : ∀ k, i + k ≤ x.length → (((List.range k).map fun m => i + m).filterMap fun j => x[j]?) = (x.drop i).take k
  | 0, _ => by simp
  | k + 1, h => by
    rw [List.range_succ, List.map_append, List.filterMap_append, pick_run x i k (by omega), List.take_succ]
    congr 1
    have hx : i + k < x.length := by omega
    simp [List.getElem?_eq_getElem hx]
theorem slice_cut (x : List Nat) (lo hi : Option Int) : Txt.slice (toStr x) lo hi = toStr (cut x lo hi) := by
  have eI : ∀ n d o, sIx n d o = HT.sIx n d o := fun n d o => by cases o <;> rfl
  unfold Txt.slice cut
  rw [toStr_len, ssi, eI, eI]
  have h1 := HT.sIx_le x.length x.length (Nat.le_refl _) hi
  have h2 := HT.sIx_le x.length 0 (Nat.zero_le _) lo
  generalize HT.sIx x.length x.length hi = j at *
  generalize HT.sIx x.length 0 lo = i at *
  have e : ((List.map (fun k => i + k) (List.range (j - i))).filterMap fun k => (toStr x).cps[k]?) = (x.drop i).take (j - i) := by
    have := pick_run x i (j - i)
    by_cases hij : i ≤ j
    · simpa [toStr] using this (by omega)
    · have z : j - i = 0 := by omega
      rw [z]; simp
  split
  · rename_i hc
    have hl : j - i = x.length := by simpa using hc
    rw [hl]
    by_cases hn : x.length = 0
    · have : x = [] := List.length_eq_zero_iff.mp hn
      subst this
      simp
    · have : i = 0 := by omega
      subst this
      simp
  · rw [e]; rfl
end IT

set_option linter.all false
set_option maxHeartbeats 4000000
set_option maxRecDepth 100000
/-! list + list, list.extend: whatever the right list is. -/
namespace PySem
open Sem (wp)
open Builtin AutoSeq1
theorem it_list_add (l : Addr) (items : Array Value) (n : Nat) (dd : Option Addr) (sl : Array (Option Value)) (b : Addr) (items2 : Array Value) (n2 : Nat) (dd2 : Option Addr) (sl2 : Array (Option Value)) (hc0 : items.size + items2.size ≤ sizeLine) :
    Meets (Builtin.«list.__add__» ⟨[.ref l, .ref b], []⟩) (fun _ R s => s.heap.get? l = some { cls := .type "list", dict := dd, data := .seq items n, slots := sl } ∧ s.heap.get? b = some { cls := .type "list", dict := dd2, data := .seq items2 n2, slots := sl2 } ∧ R (.ok (.ret (Value.ref s.heap.objs.size))) { s with heap := s.heap.push { cls := Value.type "list", data := Data.seq (items ++ items2) } }) :=
  .of_wp fun prog w A R s h => by obtain ⟨hp, g, d, tk, os⟩ := s; obtain ⟨hl, hb, h⟩ := h; have f1 := idx_int; have f2 := sub_tuple_tuple; have f3 := sub_list_list; have f4 := sub_tuple_list; have f5 := sub_list_tuple; wp_walk using wpAny_loadPart' hl, wpAny_loadPart' hb; exact ⟨_, rfl, h⟩
theorem it_list_extend (l : Addr) (items : Array Value) (n : Nat) (b : Addr) (items2 : Array Value) (n2 : Nat) (dd2 : Option Addr) (sl2 : Array (Option Value)) (hc0 : ¬(!items.isEmpty && Builtin.List.listTooLong (items.size + items2.size)) = true) (hc1 : items.size ≤ sizeLine) (hs2 : items.size + items2.size ≤ sizeLine + 1) :
    Meets (Builtin.«list.extend» ⟨[.ref l, .ref b], []⟩) (fun _ R s => s.heap.get? l = some { cls := .type "list", dict := none, data := .seq items n, slots := #[] } ∧ s.heap.get? b = some { cls := .type "list", dict := dd2, data := .seq items2 n2, slots := sl2 } ∧ R (.ok (.ret Value.none)) { s with heap := s.heap.update l (Obj.mapSeq fun x => x ++ items2), toks := s.toks }) :=
  .of_wp fun prog w A R s h => by
    obtain ⟨hp, g, d, tk, os⟩ := s; obtain ⟨hl, hb, h⟩ := h; have f1 := idx_int; have f2 := sub_tuple_tuple; have f3 := sub_list_list; have f4 := sub_tuple_list; have f5 := sub_list_tuple;
    have hz' : (items ++ items2).size ≤ sizeLine + 1 := by rw [Array.size_append]; exact hs2
    wp_walk using (wpAny_updateSeq hl rfl (hz := hc1) (_hz' := hz')), wpAny_loadPart' hl, wpAny_loadPart' hb; exact ⟨_, rfl, h⟩
end PySem
namespace IT
open PySem PySem.Spec L2
section
variable {X : Cx}
theorem op_catL : OpR X (binaryOp .Add) (fun x y H Q => ∃ l b xs zs, x = .ref l ∧ y = .ref b ∧ SqL X.K H l xs ∧ SqL X.K H b zs ∧ xs.length + zs.length ≤ sizeLine ∧ ∀ p, H p = none → Q (.ref p) (upd H p (.lst (xs ++ zs)))) := by
  intro pins s σ H x y v u Q I rx ry h
  obtain ⟨l, b, xs, zs, rfl, rfl, hH, hB, hz, q⟩ := h
  cases rx
  cases ry
  obtain ⟨its, r, ⟨o, n, e, hc, hd, hs⟩, _⟩ := I.list hH
  obtain ⟨its2, r2, ⟨o2, n2, e2, hc2, hd2, hs2⟩, _⟩ := I.list hB
  have hl := r.length
  have hl2 := r2.length
  obtain ⟨cls, dd, data, sl⟩ := o
  obtain ⟨cls2, dd2, data2, sl2⟩ := o2
  simp only at hc hd hs hc2 hd2 hs2
  subst hc hd hs hc2 hd2 hs2
  refine concat_meets ⟨_, e, rfl⟩ ⟨_, e2, rfl⟩ noFill_list_add seq_list_add F.slot_list_add F.entry_list_add (F.args_list_add_2 _ _) (it_list_add l its.toArray n none sl b its2.toArray n2 none sl2 (by rw [List.size_toArray, List.size_toArray]; omega)) ⟨e, e2, ?_⟩
  have ea : its.toArray ++ its2.toArray = (its ++ its2).toArray := by simp
  rw [ea]
  exact ⟨.ref _, _, I.lnew (t' := s.toks) (r.append r2) (by rw [List.length_append]; omega), rfl, q _ I.fresh⟩
theorem mt_extendL : MtM X "list.extend" (fun x vs H Q => ∃ l b xs zs, x = .ref l ∧ vs = [.ref b] ∧ H l = some (.lst xs) ∧ SqL X.K H b zs ∧ xs.length + zs.length ≤ sizeLine ∧ Q .non (upd H l (.lst (xs ++ zs)))) := by
  intro pins s σ H x vs v us Q I rx rv h
  obtain ⟨l, b, xs, zs, rfl, rfl, hH, hB, hz, q⟩ := h
  cases rx
  obtain ⟨u, rfl, ru⟩ := rv.one
  cases ru
  obtain ⟨z, its, n, r, hl, e⟩ := I.lstM hH
  obtain ⟨its2, r2, ⟨o2, n2, e2, hc2, hd2, hs2⟩, _⟩ := I.list hB
  have hl2 := r2.length
  obtain ⟨cls2, dd2, data2, sl2⟩ := o2
  simp only at hc2 hd2 hs2
  subst hc2 hd2 hs2
  have hsz : its.toArray.size + its2.toArray.size ≤ sizeLine := by rw [List.size_toArray, List.size_toArray]; omega
  have hlong : ¬ (!its.toArray.isEmpty && Builtin.List.listTooLong (its.toArray.size + its2.toArray.size)) = true := by
    rw [notLongL hsz, Bool.and_false]
    exact Bool.false_ne_true
  refine call_meets F.slot_list_extend ⟨_, e, rfl⟩ F.entry_list_extend (F.args_list_extend_2 _ _)
    (it_list_extend l its.toArray n b its2.toArray n2 none sl2 hlong (by rw [List.size_toArray]; omega) (by omega)) ⟨e, e2, ?_⟩
  refine ⟨.non, _, I.lset (its' := its ++ its2) hH e (by simp) (r.append r2) ?_, rfl, q⟩
  rw [List.length_append]
  omega
end
end IT

set_option linter.all false
set_option maxHeartbeats 4000000
namespace IT
open PySem PySem.Spec L2
section
variable {A0 : Addr → Prop} {H : Hp} {X : Cx} {s : Shared}
theorem rcAt_D (S : SeqAt' X s H) (x y : D) (A : Around) (v w : V) (u t : Value) (qx : RdD X.K A0 H x v) (qy : RdD X.K A0 H y w) (ru : RelV v u) (rt : RelV w t) (hu : A.units + min x.dep y.dep < cLine) : SeqAt.RcAt A s u t (x.eqb y) := by
  cases x with
  | non =>
    simp only [RdD, RepD] at qx; subst qx
    cases ru
    cases y with
    | non => simp only [RdD, RepD] at qy; subst qy; cases rt; exact SeqAt.RcAt.none_none  
    | bl b => simp only [RdD, RepD] at qy; subst qy; cases rt; exact SeqAt.RcAt.none_bool  b
    | int b => simp only [RdD, RepD] at qy; subst qy; obtain ⟨t', rfl⟩ := rt; exact SeqAt.RcAt.none_int  b t'
    | str b => simp only [RdD, RepD] at qy; subst qy; obtain ⟨t', rfl⟩ := rt; exact SeqAt.RcAt.none_str  _ t'
    | tup b => (simp only [RdD, RepD] at qy; obtain ⟨a, vs, rfl, q, _⟩ := qy; cases rt; obtain ⟨its, _, p⟩ := S.tup a vs q; exact SeqAt.RcAt.none_tuple  p (by omega))
    | lst b => (obtain ⟨a, vs, rfl, q, _⟩ := qy; cases rt; obtain ⟨its, _, p⟩ := S.lst a vs q; exact SeqAt.RcAt.none_list  p (by omega))
  | bl c =>
    simp only [RdD, RepD] at qx; subst qx
    cases ru
    cases y with
    | non => simp only [RdD, RepD] at qy; subst qy; cases rt; exact SeqAt.RcAt.bool_none c 
    | bl b => simp only [RdD, RepD] at qy; subst qy; cases rt; exact SeqAt.RcAt.bool_bool c b
    | int b => simp only [RdD, RepD] at qy; subst qy; obtain ⟨t', rfl⟩ := rt; exact SeqAt.RcAt.bool_int c b t'
    | str b => simp only [RdD, RepD] at qy; subst qy; obtain ⟨t', rfl⟩ := rt; exact SeqAt.RcAt.bool_str c _ t'
    | tup b => (simp only [RdD, RepD] at qy; obtain ⟨a, vs, rfl, q, _⟩ := qy; cases rt; obtain ⟨its, _, p⟩ := S.tup a vs q; exact SeqAt.RcAt.bool_tuple c p (by omega))
    | lst b => (obtain ⟨a, vs, rfl, q, _⟩ := qy; cases rt; obtain ⟨its, _, p⟩ := S.lst a vs q; exact SeqAt.RcAt.bool_list c p (by omega))
  | int c =>
    simp only [RdD, RepD] at qx; subst qx
    obtain ⟨u', rfl⟩ := ru
    cases y with
    | non => simp only [RdD, RepD] at qy; subst qy; cases rt; exact SeqAt.RcAt.int_none c u' 
    | bl b => simp only [RdD, RepD] at qy; subst qy; cases rt; exact SeqAt.RcAt.int_bool c u' b
    | int b => simp only [RdD, RepD] at qy; subst qy; obtain ⟨t', rfl⟩ := rt; exact SeqAt.RcAt.int_int c u' b t'
    | str b => simp only [RdD, RepD] at qy; subst qy; obtain ⟨t', rfl⟩ := rt; exact SeqAt.RcAt.int_str c u' _ t'
    | tup b => (simp only [RdD, RepD] at qy; obtain ⟨a, vs, rfl, q, _⟩ := qy; cases rt; obtain ⟨its, _, p⟩ := S.tup a vs q; exact SeqAt.RcAt.int_tuple c u' p (by omega))
    | lst b => (obtain ⟨a, vs, rfl, q, _⟩ := qy; cases rt; obtain ⟨its, _, p⟩ := S.lst a vs q; exact SeqAt.RcAt.int_list c u' p (by omega))
  | str c =>
    simp only [RdD, RepD] at qx; subst qx
    obtain ⟨u', rfl⟩ := ru
    cases y with
    | non => simp only [RdD, RepD] at qy; subst qy; cases rt; exact SeqAt.RcAt.str_none _ u' 
    | bl b => simp only [RdD, RepD] at qy; subst qy; cases rt; exact SeqAt.RcAt.str_bool _ u' b
    | int b => simp only [RdD, RepD] at qy; subst qy; obtain ⟨t', rfl⟩ := rt; exact SeqAt.RcAt.str_int _ u' b t'
    | str b => simp only [RdD, RepD] at qy; subst qy; obtain ⟨t', rfl⟩ := rt; (have z := SeqAt.RcAt.str_str (A := A) (s := s) (toStr c) u' (toStr b) t'; rw [str_beq'] at z; exact z)
    | tup b => (simp only [RdD, RepD] at qy; obtain ⟨a, vs, rfl, q, _⟩ := qy; cases rt; obtain ⟨its, _, p⟩ := S.tup a vs q; exact SeqAt.RcAt.str_tuple _ u' p (by omega))
    | lst b => (obtain ⟨a, vs, rfl, q, _⟩ := qy; cases rt; obtain ⟨its, _, p⟩ := S.lst a vs q; exact SeqAt.RcAt.str_list _ u' p (by omega))
  | tup c =>
    simp only [RdD, RepD] at qx; obtain ⟨a, vs, rfl, q, zs⟩ := qx
    cases ru; have hu0 : A.units < cLine := by omega
    obtain ⟨its, ri, p⟩ := S.tup a vs q
    cases y with
    | non => simp only [RdD, RepD] at qy; subst qy; cases rt; exact SeqAt.RcAt.tuple_none  p hu0
    | bl b => simp only [RdD, RepD] at qy; subst qy; cases rt; exact SeqAt.RcAt.tuple_bool b p hu0
    | int b => simp only [RdD, RepD] at qy; subst qy; obtain ⟨t', rfl⟩ := rt; exact SeqAt.RcAt.tuple_int b t' p hu0
    | str b => simp only [RdD, RepD] at qy; subst qy; obtain ⟨t', rfl⟩ := rt; exact SeqAt.RcAt.tuple_str _ t' p hu0
    | lst b => (obtain ⟨a', vs', rfl, q', _⟩ := qy; cases rt; obtain ⟨its', _, p'⟩ := S.lst a' vs' q'; exact SeqAt.RcAt.tuple_list p p' hu0)
    | tup b =>
      simp only [RdD, RepD] at qy; obtain ⟨a', vs', rfl, q', zs'⟩ := qy
      cases rt; obtain ⟨its', ri', p'⟩ := S.tup a' vs' q'
      have key := pairs_D S c b A.in1 vs vs' its its' zs zs' ri ri' (by show A.units + 1 + _ < cLine; simp only [D.dep] at hu; omega)
      have l1 := zs.length; have l2 := zs'.length; have l3 := ri.length; have l4 := ri'.length
      show SeqAt.RcAt A s _ _ (D.eqbs c b)
      have := SeqAt.RcAt.tuples (e := pairAt c b) p p' hu0 (fun j h1 h2 => by have := key j (by simpa using h1) (by simpa using h2); simpa using this)
      have e3 : ((List.range (min its.toArray.size its'.toArray.size)).all (pairAt c b) && its.toArray.size == its'.toArray.size) = D.eqbs c b := by
        by_cases hl : c.length = b.length
        · have hm : min its.toArray.size its'.toArray.size = c.length := by simp; omega
          rw [hm, eqbs_zip c b hl, all_range c b (fun x y => x.eqb y) hl (pairAt c b) (fun j x y h1 h2 => by simp [pairAt, h1, h2])]
          have : (its.toArray.size == its'.toArray.size) = true := by simp; omega
          rw [this, Bool.and_true]
        · rw [eqbs_len c b hl]
          have : (its.toArray.size == its'.toArray.size) = false := by simp; omega
          rw [this, Bool.and_false]
      rw [e3] at this
      exact this
  | lst c =>
    obtain ⟨a, vs, rfl, q, zs⟩ := qx
    cases ru; have hu0 : A.units < cLine := by omega
    obtain ⟨its, ri, p⟩ := S.lst a vs q
    cases y with
    | non => simp only [RdD, RepD] at qy; subst qy; cases rt; exact SeqAt.RcAt.list_none  p hu0
    | bl b => simp only [RdD, RepD] at qy; subst qy; cases rt; exact SeqAt.RcAt.list_bool b p hu0
    | int b => simp only [RdD, RepD] at qy; subst qy; obtain ⟨t', rfl⟩ := rt; exact SeqAt.RcAt.list_int b t' p hu0
    | str b => simp only [RdD, RepD] at qy; subst qy; obtain ⟨t', rfl⟩ := rt; exact SeqAt.RcAt.list_str _ t' p hu0
    | tup b => (simp only [RdD, RepD] at qy; obtain ⟨a', vs', rfl, q', _⟩ := qy; cases rt; obtain ⟨its', _, p'⟩ := S.tup a' vs' q'; exact SeqAt.RcAt.list_tuple p p' hu0)
    | lst b =>
      obtain ⟨a', vs', rfl, q', zs'⟩ := qy
      cases rt; obtain ⟨its', ri', p'⟩ := S.lst a' vs' q'
      have key := pairs_D S c b A.in1 vs vs' its its' zs zs' ri ri' (by show A.units + 1 + _ < cLine; simp only [D.dep] at hu; omega)
      have l1 := zs.length; have l2 := zs'.length; have l3 := ri.length; have l4 := ri'.length
      show SeqAt.RcAt A s _ _ (D.eqbs c b)
      by_cases hl : c.length = b.length
      · have := SeqAt.RcAt.lists (e := pairAt c b) p p' (by simp; omega) hu0 (fun j h1 h2 => by have := key j (by simpa using h1) (by simpa using h2); simpa using this)
        have hm : its.toArray.size = c.length := by simp; omega
        rw [hm, all_range c b (fun x y => x.eqb y) hl (pairAt c b) (fun j x y h1 h2 => by simp [pairAt, h1, h2]), ← eqbs_zip c b hl] at this
        exact this
      · rw [eqbs_len c b hl]
        exact SeqAt.RcAt.lists_lengths p p' (by simp; omega) hu0
theorem rcNeAt_D (S : SeqAt' X s H) (x y : D) (A : Around) (v w : V) (u t : Value) (qx : RdD X.K A0 H x v) (qy : RdD X.K A0 H y w) (ru : RelV v u) (rt : RelV w t) (hu : A.units + min x.dep y.dep < cLine) : SeqAt.RcNeAt A s u t (!x.eqb y) := by
  cases x with
  | non =>
    simp only [RdD, RepD] at qx; subst qx
    cases ru
    cases y with
    | non => simp only [RdD, RepD] at qy; subst qy; cases rt; exact SeqAt.RcNeAt.none_none  
    | bl b => simp only [RdD, RepD] at qy; subst qy; cases rt; exact SeqAt.RcNeAt.none_bool  b
    | int b => simp only [RdD, RepD] at qy; subst qy; obtain ⟨t', rfl⟩ := rt; exact SeqAt.RcNeAt.none_int  b t'
    | str b => simp only [RdD, RepD] at qy; subst qy; obtain ⟨t', rfl⟩ := rt; exact SeqAt.RcNeAt.none_str  _ t'
    | tup b => (simp only [RdD, RepD] at qy; obtain ⟨a, vs, rfl, q, _⟩ := qy; cases rt; obtain ⟨its, _, p⟩ := S.tup a vs q; exact SeqAt.RcNeAt.none_tuple  p (by omega))
    | lst b => (obtain ⟨a, vs, rfl, q, _⟩ := qy; cases rt; obtain ⟨its, _, p⟩ := S.lst a vs q; exact SeqAt.RcNeAt.none_list  p (by omega))
  | bl c =>
    simp only [RdD, RepD] at qx; subst qx
    cases ru
    cases y with
    | non => simp only [RdD, RepD] at qy; subst qy; cases rt; exact SeqAt.RcNeAt.bool_none c 
    | bl b => simp only [RdD, RepD] at qy; subst qy; cases rt; exact SeqAt.RcNeAt.bool_bool c b
    | int b => simp only [RdD, RepD] at qy; subst qy; obtain ⟨t', rfl⟩ := rt; exact SeqAt.RcNeAt.bool_int c b t'
    | str b => simp only [RdD, RepD] at qy; subst qy; obtain ⟨t', rfl⟩ := rt; exact SeqAt.RcNeAt.bool_str c _ t'
    | tup b => (simp only [RdD, RepD] at qy; obtain ⟨a, vs, rfl, q, _⟩ := qy; cases rt; obtain ⟨its, _, p⟩ := S.tup a vs q; exact SeqAt.RcNeAt.bool_tuple c p (by omega))
    | lst b => (obtain ⟨a, vs, rfl, q, _⟩ := qy; cases rt; obtain ⟨its, _, p⟩ := S.lst a vs q; exact SeqAt.RcNeAt.bool_list c p (by omega))
  | int c =>
    simp only [RdD, RepD] at qx; subst qx
    obtain ⟨u', rfl⟩ := ru
    cases y with
    | non => simp only [RdD, RepD] at qy; subst qy; cases rt; exact SeqAt.RcNeAt.int_none c u' 
    | bl b => simp only [RdD, RepD] at qy; subst qy; cases rt; exact SeqAt.RcNeAt.int_bool c u' b
    | int b => simp only [RdD, RepD] at qy; subst qy; obtain ⟨t', rfl⟩ := rt; exact SeqAt.RcNeAt.int_int c u' b t'
    | str b => simp only [RdD, RepD] at qy; subst qy; obtain ⟨t', rfl⟩ := rt; exact SeqAt.RcNeAt.int_str c u' _ t'
    | tup b => (simp only [RdD, RepD] at qy; obtain ⟨a, vs, rfl, q, _⟩ := qy; cases rt; obtain ⟨its, _, p⟩ := S.tup a vs q; exact SeqAt.RcNeAt.int_tuple c u' p (by omega))
    | lst b => (obtain ⟨a, vs, rfl, q, _⟩ := qy; cases rt; obtain ⟨its, _, p⟩ := S.lst a vs q; exact SeqAt.RcNeAt.int_list c u' p (by omega))
  | str c =>
    simp only [RdD, RepD] at qx; subst qx
    obtain ⟨u', rfl⟩ := ru
    cases y with
    | non => simp only [RdD, RepD] at qy; subst qy; cases rt; exact SeqAt.RcNeAt.str_none _ u' 
    | bl b => simp only [RdD, RepD] at qy; subst qy; cases rt; exact SeqAt.RcNeAt.str_bool _ u' b
    | int b => simp only [RdD, RepD] at qy; subst qy; obtain ⟨t', rfl⟩ := rt; exact SeqAt.RcNeAt.str_int _ u' b t'
    | str b => simp only [RdD, RepD] at qy; subst qy; obtain ⟨t', rfl⟩ := rt; (have z := SeqAt.RcNeAt.str_str (A := A) (s := s) (toStr c) u' (toStr b) t'; rw [str_beq'] at z; exact z)
    | tup b => (simp only [RdD, RepD] at qy; obtain ⟨a, vs, rfl, q, _⟩ := qy; cases rt; obtain ⟨its, _, p⟩ := S.tup a vs q; exact SeqAt.RcNeAt.str_tuple _ u' p (by omega))
    | lst b => (obtain ⟨a, vs, rfl, q, _⟩ := qy; cases rt; obtain ⟨its, _, p⟩ := S.lst a vs q; exact SeqAt.RcNeAt.str_list _ u' p (by omega))
  | tup c =>
    simp only [RdD, RepD] at qx; obtain ⟨a, vs, rfl, q, zs⟩ := qx
    cases ru; have hu0 : A.units < cLine := by omega
    obtain ⟨its, ri, p⟩ := S.tup a vs q
    cases y with
    | non => simp only [RdD, RepD] at qy; subst qy; cases rt; exact SeqAt.RcNeAt.tuple_none  p hu0
    | bl b => simp only [RdD, RepD] at qy; subst qy; cases rt; exact SeqAt.RcNeAt.tuple_bool b p hu0
    | int b => simp only [RdD, RepD] at qy; subst qy; obtain ⟨t', rfl⟩ := rt; exact SeqAt.RcNeAt.tuple_int b t' p hu0
    | str b => simp only [RdD, RepD] at qy; subst qy; obtain ⟨t', rfl⟩ := rt; exact SeqAt.RcNeAt.tuple_str _ t' p hu0
    | lst b => (obtain ⟨a', vs', rfl, q', _⟩ := qy; cases rt; obtain ⟨its', _, p'⟩ := S.lst a' vs' q'; exact SeqAt.RcNeAt.tuple_list p p' hu0)
    | tup b =>
      simp only [RdD, RepD] at qy; obtain ⟨a', vs', rfl, q', zs'⟩ := qy
      cases rt; obtain ⟨its', ri', p'⟩ := S.tup a' vs' q'
      have key := pairs_D S c b A.in1 vs vs' its its' zs zs' ri ri' (by show A.units + 1 + _ < cLine; simp only [D.dep] at hu; omega)
      have l1 := zs.length; have l2 := zs'.length; have l3 := ri.length; have l4 := ri'.length
      show SeqAt.RcNeAt A s _ _ (!D.eqbs c b)
      have := SeqAt.RcNeAt.tuples (e := pairAt c b) p p' hu0 (fun j h1 h2 => by have := key j (by simpa using h1) (by simpa using h2); simpa using this)
      have e3 : ((List.range (min its.toArray.size its'.toArray.size)).all (pairAt c b) && its.toArray.size == its'.toArray.size) = D.eqbs c b := by
        by_cases hl : c.length = b.length
        · have hm : min its.toArray.size its'.toArray.size = c.length := by simp; omega
          rw [hm, eqbs_zip c b hl, all_range c b (fun x y => x.eqb y) hl (pairAt c b) (fun j x y h1 h2 => by simp [pairAt, h1, h2])]
          have : (its.toArray.size == its'.toArray.size) = true := by simp; omega
          rw [this, Bool.and_true]
        · rw [eqbs_len c b hl]
          have : (its.toArray.size == its'.toArray.size) = false := by simp; omega
          rw [this, Bool.and_false]
      rw [e3] at this
      exact this
  | lst c =>
    obtain ⟨a, vs, rfl, q, zs⟩ := qx
    cases ru; have hu0 : A.units < cLine := by omega
    obtain ⟨its, ri, p⟩ := S.lst a vs q
    cases y with
    | non => simp only [RdD, RepD] at qy; subst qy; cases rt; exact SeqAt.RcNeAt.list_none  p hu0
    | bl b => simp only [RdD, RepD] at qy; subst qy; cases rt; exact SeqAt.RcNeAt.list_bool b p hu0
    | int b => simp only [RdD, RepD] at qy; subst qy; obtain ⟨t', rfl⟩ := rt; exact SeqAt.RcNeAt.list_int b t' p hu0
    | str b => simp only [RdD, RepD] at qy; subst qy; obtain ⟨t', rfl⟩ := rt; exact SeqAt.RcNeAt.list_str _ t' p hu0
    | tup b => (simp only [RdD, RepD] at qy; obtain ⟨a', vs', rfl, q', _⟩ := qy; cases rt; obtain ⟨its', _, p'⟩ := S.tup a' vs' q'; exact SeqAt.RcNeAt.list_tuple p p' hu0)
    | lst b =>
      obtain ⟨a', vs', rfl, q', zs'⟩ := qy
      cases rt; obtain ⟨its', ri', p'⟩ := S.lst a' vs' q'
      have key := pairs_D S c b A.in1 vs vs' its its' zs zs' ri ri' (by show A.units + 1 + _ < cLine; simp only [D.dep] at hu; omega)
      have l1 := zs.length; have l2 := zs'.length; have l3 := ri.length; have l4 := ri'.length
      show SeqAt.RcNeAt A s _ _ (!D.eqbs c b)
      by_cases hl : c.length = b.length
      · have := SeqAt.RcNeAt.lists (e := pairAt c b) p p' (by simp; omega) hu0 (fun j h1 h2 => by have := key j (by simpa using h1) (by simpa using h2); simpa using this)
        have hm : its.toArray.size = c.length := by simp; omega
        rw [hm, all_range c b (fun x y => x.eqb y) hl (pairAt c b) (fun j x y h1 h2 => by simp [pairAt, h1, h2]), ← eqbs_zip c b hl] at this
        exact this
      · rw [eqbs_len c b hl]
        exact SeqAt.RcNeAt.lists_lengths p p' (by simp; omega) hu0
end

section
variable {X : Cx}
/-- () + t -/
theorem op_catT0 : OpR X (binaryOp .Add) (fun x y H Q => ∃ a b ys, x = .ref a ∧ y = .ref b ∧ SqT X.K H a [] ∧ SqT X.K H b ys ∧ Q (.ref b) H) := by
  intro pins s σ H x y v u Q I rx ry h
  obtain ⟨a, b, ys, rfl, rfl, ha, hb, q⟩ := h
  cases rx; cases ry
  obtain ⟨its, r1, p1, _⟩ := I.tuple ha
  obtain ⟨its2, r2, p2, _⟩ := I.tuple hb
  have hi : its = [] := r1.nil_iff.mpr rfl
  subst hi
  obtain ⟨⟨cls, dd, data, sl⟩, ho, hc, n, hd⟩ := id p1
  obtain ⟨⟨cls2, dd2, data2, sl2⟩, ho2, hc2, n2, hd2⟩ := id p2
  simp only at hc hd hc2 hd2
  subst hc hd hc2 hd2
  refine PySem.concat_meets ⟨_, ho, rfl⟩ ⟨_, ho2, rfl⟩ PySem.noFill_tuple_add PySem.seq_tuple_add PySem.F.slot_tuple_add PySem.F.entry_tuple_add (PySem.F.args_tuple_add_2 _ _) (PyProof.Rows.tuple_addW0 a b _ its2.toArray n n2 dd dd2 sl sl2 ?_) ⟨ho, ho2, ?_⟩
  · rfl
  · exact ⟨.ref b, H, I, rfl, q⟩
theorem bitAnd_nn {i j : Int} (h1 : 0 ≤ i) (h2 : 0 ≤ j) : Builtin.bitAnd i j = ((i.toNat &&& j.toNat : Nat) : Int) := by
  unfold Builtin.bitAnd
  rw [decide_eq_true h1, decide_eq_true h2]
theorem op_band' : OpD X (binaryOp .BitAnd) (bop .band) := by
  intro pins s σ H v u v' u' Q I rv ru q
  obtain ⟨μ, h, a, b, z, R0, qa, qb, e, k⟩ := q
  cases a with
  | int i =>
    cases b with
    | int j =>
      simp only [RdD, RepD] at qa qb
      (change (if _ = true then _ else _) = some _ at e; simp only [Bool.and_eq_true, decide_eq_true_eq] at e)
      split at e
      · rename_i hf
        cases e
        exact op_and pins s σ H v u v' u' Q I rv ru ⟨i, j, qa, qb, by show Q (V.int (Builtin.bitAnd i j)) H; rw [bitAnd_nn hf.1 hf.2]; exact k μ H _ Stp.refl R0 (by simp only [RepD])⟩
      · cases e
    | _ => exact noSome e
  | _ => cases b <;> exact noSome e
theorem op_add' : OpD X (binaryOp .Add) (bop .add) := by
  intro pins s σ H v u v' u' Q I rv ru q
  obtain ⟨μ, h, a, b, z, R0, qa, qb, e, k⟩ := q
  cases a with
  | int i =>
    cases b with
    | int j =>
      simp only [RdD, RepD] at qa qb
      replace e := Option.some.inj e
      subst e
      exact op_add pins s σ H v u v' u' Q I rv ru ⟨i, j, qa, qb, k μ H _ Stp.refl R0 (by simp only [RepD])⟩
    | _ => exact noSome e
  | str x =>
    cases b with
    | str y =>
      simp only [RdD, RepD] at qa qb
      change (if _ = true then _ else _) = some _ at e
      split at e
      · rename_i hf
        cases e
        exact op_add_str pins s σ H v u v' u' Q I rv ru ⟨toStr x, toStr y, qa, qb, by rw [toStr_len, toStr_len]; exact of_decide_eq_true hf, by rw [toStr_app]; exact k μ H _ Stp.refl R0 (by simp only [RepD])⟩
      · cases e
    | _ => exact noSome e
  | tup xs =>
    cases b with
    | tup ys =>
      simp only [RdD, RepD] at qa qb
      obtain ⟨p, vs, rfl, q1, z1⟩ := qa
      obtain ⟨p', vs', rfl, q2, z2⟩ := qb
      change (if _ = true then _ else _) = some _ at e
      split at e
      · rename_i hf
        cases e
        have l1 := z1.length
        have l2 := z2.length
        have hlen : xs.length + ys.length ≤ sizeLine := of_decide_eq_true hf
        by_cases hv : vs = []
        · subst hv
          have hx : xs = [] := by cases xs with | nil => rfl | cons _ _ => simp at l1
          subst hx
          exact op_catT0 pins s σ H _ _ v' u' Q I rv ru ⟨p, p', vs', rfl, rfl, q1, q2, k μ H _ Stp.refl R0 (by simp only [RepD]; exact ⟨p', vs', rfl, q2, z2⟩)⟩
        refine op_catT pins s σ H _ _ v' u' Q I rv ru ⟨p, p', vs, vs', rfl, rfl, q1, q2, hv, by omega, fun hn => ?_, fun _ r hr => ?_⟩
        · subst hn
          cases ys with
          | nil =>
            rw [List.append_nil] at k
            exact k μ H _ Stp.refl R0 (by simp only [RepD]; exact ⟨p, vs, rfl, q1, z1⟩)
          | cons _ _ => simp at l2
        · have s2 : Stp μ h H μ h (upd H r (.tup (vs ++ vs'))) := Stp.fresh hr
          refine k μ _ (.ref r) s2 (R0.fresh hr) ?_
          simp only [RepD]
          exact ⟨r, vs ++ vs', rfl, SqT.of upd_same, RepDs.stp s2 R0 (z1.app z2)⟩
      · cases e
    | _ => exact noSome e
  | lst xs =>
    cases b with
    | lst ys =>
      obtain ⟨p, vs, rfl, q1, z1⟩ := qa
      obtain ⟨p', vs', rfl, q2, z2⟩ := qb
      change (if _ = true then _ else _) = some _ at e
      split at e
      · rename_i hf
        cases e
        have l1 := z1.length
        have l2 := z2.length
        have hlen : xs.length + ys.length ≤ sizeLine := of_decide_eq_true hf
        refine op_catL pins s σ H _ _ v' u' Q I rv ru ⟨p, p', vs, vs', rfl, rfl, q1, q2, by omega, fun r hr => ?_⟩
        have s2 : Stp μ h H μ h (upd H r (.lst (vs ++ vs'))) := Stp.fresh hr
        refine k μ _ (.ref r) s2 (R0.fresh hr) ?_
        simp only [RepD]
        refine ⟨r, vs ++ vs', rfl, .inl ⟨fun l => ?_, .inl upd_same⟩, RepDs.stp s2 R0 (z1.app z2)⟩
        obtain ⟨ws, w, _⟩ := R0.liveAt l
        rw [hr] at w; cases w
      · cases e
    | _ => exact noSome e
  | _ => cases b <;> exact noSome e
theorem op_pow' : OpD X (binaryOp .Pow) (bop .pow) := by
  intro pins s σ H v u v' u' Q I rv ru q
  obtain ⟨μ, h, a, b, z, R0, qa, qb, e, k⟩ := q
  cases a with
  | int i =>
    cases b with
    | int j =>
      simp only [RdD, RepD] at qa qb
      change (if _ = true then _ else _) = some _ at e
      split at e
      · rename_i hf
        simp only [Bool.and_eq_true] at hf
        cases e
        exact op_pow pins s σ H v u v' u' Q I rv ru ⟨i, j, qa, qb, ⟨of_decide_eq_true hf.1.1, of_decide_eq_true hf.1.2, of_decide_eq_true hf.2⟩, k μ H _ Stp.refl R0 (by simp only [RepD])⟩
      · cases e
    | _ => exact noSome e
  | _ => cases b <;> exact noSome e
theorem op_fdiv' : OpD X (binaryOp .FloorDiv) (bop .fdiv) := by
  intro pins s σ H v u v' u' Q I rv ru q
  obtain ⟨μ, h, a, b, z, R0, qa, qb, e, k⟩ := q
  cases a with
  | int i =>
    cases b with
    | int j =>
      simp only [RdD, RepD] at qa qb
      change (if _ = true then _ else _) = some _ at e
      split at e
      · rename_i hf
        rw [Bool.and_eq_true] at hf
        cases e
        have h0 : (0 : Int) < j := of_decide_eq_true hf.1
        have h1 : j < 1000000000000000000000000000000000000000000000000000000000000 := of_decide_eq_true hf.2
        subst qa qb
        obtain ⟨t1, rfl⟩ := rv
        obtain ⟨t2, rfl⟩ := ru
        refine PyProof.Rows.floordiv_int (by omega) ?_ (.inl (PyProof.noPylong_of_log2 ?_))
        · have ef : i.fdiv j = i / j := Int.fdiv_eq_ediv_of_nonneg i (by omega)
          rw [ef]
          exact ⟨.int (i / j), H, I.tok _, ⟨_, rfl⟩, k μ H _ Stp.refl R0 (by simp only [RepD])⟩
        · have hj : j.natAbs < 2 ^ 200 := by
            omega
          have hj0 : j.natAbs ≠ 0 := by omega
          have := (Nat.log2_lt hj0).mpr hj
          omega
      · cases e
    | _ => exact noSome e
  | _ => cases b <;> exact noSome e
theorem op_mod' : OpD X (binaryOp .Mod) (bop .mod) := by
  intro pins s σ H v u v' u' Q I rv ru q
  obtain ⟨μ, h, a, b, z, R0, qa, qb, e, k⟩ := q
  cases a with
  | int i =>
    cases b with
    | int j =>
      simp only [RdD, RepD] at qa qb
      change (if _ = true then _ else _) = some _ at e
      split at e
      · rename_i hf
        cases e
        exact op_mod pins s σ H v u v' u' Q I rv ru ⟨i, j, qa, qb, of_decide_eq_true hf, k μ H _ Stp.refl R0 (by simp only [RepD])⟩
      · cases e
    | _ => exact noSome e
  | _ => cases b <;> exact noSome e

/-! comparisons -/
theorem op_eq' (hu : X.A.units + 64 < cLine) : OpD X (compareOp .Eq) (cop .eq) := by
  intro pins s σ H v u v' u' Q I rv ru q
  obtain ⟨μ, h, a, b, z, R0, qa, qb, e, k⟩ := q
  (delta cop at e; (try dsimp only at e))
  split at e
  · rename_i hf
    cases e
    have hd : min a.dep b.dep ≤ 60 := of_decide_eq_true hf
    exact rcAt_D (seqAt_of I) a b X.A v u v' u' qa qb rv ru (by omega) X.prog X.w X.xe _ ⟨.bl _, H, I, rfl, k μ H _ Stp.refl R0 (by simp only [RepD])⟩
  · cases e
theorem op_ne' (hu : X.A.units + 64 < cLine) : OpD X (compareOp .NotEq) (cop .ne) := by
  intro pins s σ H v u v' u' Q I rv ru q
  obtain ⟨μ, h, a, b, z, R0, qa, qb, e, k⟩ := q
  (delta cop at e; (try dsimp only at e))
  split at e
  · rename_i hf
    cases e
    have hd : min a.dep b.dep ≤ 60 := of_decide_eq_true hf
    exact rcNeAt_D (seqAt_of I) a b X.A v u v' u' qa qb rv ru (by omega) X.prog X.w X.xe _ ⟨.bl _, H, I, rfl, k μ H _ Stp.refl R0 (by simp only [RepD])⟩
  · cases e

theorem op_lt' : OpD X (compareOp .Lt) (cop .lt) := by
  intro pins s σ H v u v' u' Q I rv ru q
  obtain ⟨μ, h, a, b, z, R0, qa, qb, e, k⟩ := q
  cases a with
  | int i =>
    cases b with
    | int j =>
      simp only [RdD, RepD] at qa qb
      replace e := Option.some.inj e
      subst e
      exact op_lt pins s σ H v u v' u' Q I rv ru ⟨i, j, qa, qb, k μ H _ Stp.refl R0 (by simp only [RepD])⟩
    | _ => exact noSome e
  | _ => cases b <;> exact noSome e
theorem op_gt' : OpD X (compareOp .Gt) (cop .gt) := by
  intro pins s σ H v u v' u' Q I rv ru q
  obtain ⟨μ, h, a, b, z, R0, qa, qb, e, k⟩ := q
  cases a with
  | int i =>
    cases b with
    | int j =>
      simp only [RdD, RepD] at qa qb
      replace e := Option.some.inj e
      subst e
      exact op_gt pins s σ H v u v' u' Q I rv ru ⟨i, j, qa, qb, k μ H _ Stp.refl R0 (by simp only [RepD])⟩
    | _ => exact noSome e
  | _ => cases b <;> exact noSome e
theorem op_ge' : OpD X (compareOp .GtE) (cop .ge) := by
  intro pins s σ H v u v' u' Q I rv ru q
  obtain ⟨μ, h, a, b, z, R0, qa, qb, e, k⟩ := q
  cases a with
  | int i =>
    cases b with
    | int j =>
      simp only [RdD, RepD] at qa qb
      replace e := Option.some.inj e
      subst e
      exact op_ge pins s σ H v u v' u' Q I rv ru ⟨i, j, qa, qb, k μ H _ Stp.refl R0 (by simp only [RepD])⟩
    | _ => exact noSome e
  | _ => cases b <;> exact noSome e
theorem op_isin' (hu : X.A.units + 64 < cLine) : OpD X (compareOp .In) (cop .isin) := by
  intro pins s σ H v u v' u' Q I rv ru q
  obtain ⟨μ, h, a, b, z, R0, qa, qb, e, k⟩ := q
  have S := seqAt_of I
  (delta cop at e; (try dsimp only at e))
  -- what an item answers, read off the item
  have ans : ∀ (xs : List D) (ws : List V) (its : List Value), RepDs X.K (Live μ h) H xs ws → Vals ws its → a.dep ≤ 60 →
      ∃ f : Value → Bool, (∀ y, y ∈ its.toArray → SeqAt.EqAt X.A.in1 s y v' (f y)) ∧ its.toArray.any f = xs.any fun y => y.eqb a := by
    intro xs ws its q r hd
    classical
    refine ⟨fun y => decide (∃ (x : D) (w : V), RepD X.K (Live μ h) H x w ∧ RelV w y ∧ x.eqb a = true), fun y hy => ?_, ?_⟩
    · obtain ⟨j, hj, e1⟩ := List.getElem_of_mem (show y ∈ its by simpa using hy)
      have hj2 : j < ws.length := by rw [r.length]; exact hj
      obtain ⟨x, hx, qx⟩ := q.get' (List.getElem?_eq_getElem hj2)
      have rx : RelV ws[j] y := by
        have := vals_get r (List.getElem?_eq_getElem hj2) hj
        rw [e1] at this
        exact this
      have base : ∀ (x : D) (w : V), RepD X.K (Live μ h) H x w → RelV w y → SeqAt.EqAt X.A.in1 s y v' (x.eqb a) := fun x w qx rx =>
        eqAt_D S x a X.A.in1 w v y v' (RdD.of qx) qa rx rv (by show X.A.units + 1 + _ < cLine; omega)
      dsimp only
      by_cases hx' : ∃ (x : D) (w : V), RepD X.K (Live μ h) H x w ∧ RelV w y ∧ x.eqb a = true
      · rw [decide_eq_true hx']
        obtain ⟨x', w', q', r', e'⟩ := hx'
        rw [← e']
        exact base x' w' q' r'
      · rw [decide_eq_false hx']
        cases ex : x.eqb a with
        | true => exact absurd ⟨x, _, qx, rx, ex⟩ hx'
        | false => rw [← ex]; exact base x _ qx rx
    · rw [Bool.eq_iff_iff, List.any_eq_true, Array.any_eq_true']
      constructor
      · rintro ⟨y, hy, hf⟩
        obtain ⟨x', w', q', r', e'⟩ := of_decide_eq_true hf
        obtain ⟨j, hj, e1⟩ := List.getElem_of_mem (show y ∈ its by simpa using hy)
        have hj2 : j < ws.length := by rw [r.length]; exact hj
        obtain ⟨x, hx, qx⟩ := q.get' (List.getElem?_eq_getElem hj2)
        have rx : RelV ws[j] y := by
          have := vals_get r (List.getElem?_eq_getElem hj2) hj
          rw [e1] at this
          exact this
        have ew := RelV.inj rx r'
        refine ⟨x, List.mem_of_getElem? hx, ?_⟩
        rw [RepD.inj S x x' w' (ew ▸ qx) q']
        exact e'
      · rintro ⟨x, hx, ex⟩
        obtain ⟨j, hj, e1⟩ := List.getElem_of_mem hx
        obtain ⟨w, hw, qx⟩ := q.get (List.getElem?_eq_getElem hj)
        rw [e1] at qx
        obtain ⟨y, hy, ry⟩ := r.get hw
        exact ⟨y, by simpa using List.mem_of_getElem? hy, decide_eq_true ⟨x, w, qx, ry, ex⟩⟩
  cases b with
  | tup ys =>
    simp only [items] at e
    split at e
    · rename_i hf
      cases e
      simp only [RdD, RepD] at qb
      obtain ⟨p, vs, rfl, q1, z1⟩ := qb
      cases ru
      obtain ⟨its, r1, p1⟩ := S.tup p vs q1
      obtain ⟨f, hf1, hf2⟩ := ans ys vs its z1 r1 (of_decide_eq_true hf)
      exact SeqAt.in_tupleAt f p1 hf1 ⟨.bl _, H, I, rfl, by rw [hf2]; exact k μ H _ Stp.refl R0 (by simp only [RepD])⟩
    · cases e
  | lst ys =>
    simp only [items] at e
    split at e
    · rename_i hf
      cases e
      obtain ⟨p, vs, rfl, q1, z1⟩ := qb
      cases ru
      obtain ⟨its, r1, p1⟩ := S.lst p vs q1
      obtain ⟨f, hf1, hf2⟩ := ans ys vs its z1 r1 (of_decide_eq_true hf)
      exact SeqAt.in_listAt f p1 hf1 ⟨.bl _, H, I, rfl, by rw [hf2]; exact k μ H _ Stp.refl R0 (by simp only [RepD])⟩
    · cases e
  | _ => exact noSome e
end
end IT

set_option linter.all false
set_option maxHeartbeats 4000000
set_option maxRecDepth 100000
namespace PySem
open Sem (wp)
open Builtin
theorem it_noFill_tuple_mul : fillsNumberSlot (.type "tuple") "mul" = pure false :=
  fillsNumberSlot_seq (id := "tuple.__mul__") (r := some (.builtin "tuple.__rmul__")) F.slot_tuple_mul.lookup (by decide +kernel) F.slot_tuple_rmul.lookup (by decide +kernel)
theorem it_repeat_tuple : seqRepeat? (.type "tuple") = pure (some (.builtin "tuple.__mul__")) := by
  unfold seqRepeat?
  rw [seqSlot_of (T := "tuple") (name := "__mul__") (id := "tuple.__mul__") F.slot_tuple_mul.lookup (by decide +kernel), seqSlot_of (T := "tuple") (name := "__rmul__") (id := "tuple.__rmul__") F.slot_tuple_rmul.lookup (by decide +kernel)]
  rfl
theorem it_rmul_tuple (a : Int) (t : Tok) (l : Addr) (items : Array Value) (n : Nat) (dd : Option Addr) (sl : Array (Option Value)) :
    Meets (Builtin.«int.__rmul__» ⟨[.int a t, .ref l], []⟩) (fun _ R s => s.heap.get? l = some { cls := .type "tuple", dict := dd, data := .seq items n, slots := sl } ∧ R (.ok (.ret Value.notImplemented)) s) :=
  .of_wp fun prog w A R s h => by obtain ⟨hp, g, d, tk, os⟩ := s; obtain ⟨hl, h⟩ := h; wp_walk; exact ⟨_, rfl, h⟩
theorem it_tuple_mul1 (t : Tok) (l : Addr) (items : Array Value) (n : Nat) (dd : Option Addr) (sl : Array (Option Value)) :
    Meets (Builtin.«tuple.__mul__» ⟨[.ref l, .int 1 t], []⟩) (fun _ R s => s.heap.get? l = some { cls := .type "tuple", dict := dd, data := .seq items n, slots := sl } ∧ R (.ok (.ret (.ref l))) s) :=
  .of_wp fun prog w A R s h => by obtain ⟨hp, g, d, tk, os⟩ := s; obtain ⟨hl, h⟩ := h; wp_walk; exact ⟨_, rfl, h⟩
end PySem
namespace PySem
open Sem (wp)
open Builtin
theorem it_tuple_mul0 (t : Tok) (l : Addr) (items : Array Value) (n : Nat) (dd : Option Addr) (sl : Array (Option Value)) (hc : items.isEmpty = false) :
    Meets (Builtin.«tuple.__mul__» ⟨[.ref l, .int 0 t], []⟩) (fun _ R s => s.heap.get? l = some { cls := .type "tuple", dict := dd, data := .seq items n, slots := sl } ∧ R (.ok (.ret (.ref s.heap.objs.size))) { s with heap := s.heap.push { cls := .type "tuple", data := .seq #[] } }) :=
  .of_wp fun prog w A R s h => by obtain ⟨hp, g, d, tk, os⟩ := s; obtain ⟨hl, h⟩ := h; wp_walk; exact ⟨_, rfl, h⟩
theorem it_rep_fold (items : Array Value) : ∀ (m : Nat) (acc : Array Value), ((List.replicate m items).foldl (· ++ ·) acc).toList = acc.toList ++ (List.replicate m items.toList).flatten
  | 0, acc => by simp
  | m + 1, acc => by rw [List.replicate_succ, List.foldl_cons, it_rep_fold items m, List.replicate_succ, List.flatten_cons, Array.toList_append, List.append_assoc]
theorem it_rep_size (items : Array Value) (m : Nat) : ((List.replicate m items).foldl (· ++ ·) #[]).size = items.size * m := by
  rw [← Array.length_toList, it_rep_fold]
  induction m with
  | zero => simp
  | succ m ih =>
    rw [List.replicate_succ, List.flatten_cons, ← List.append_assoc]
    simp only [List.length_append, List.nil_append] at ih ⊢
    rw [Array.length_toList, Nat.mul_succ]
    omega
theorem it_tuple_muln (k : Int) (t : Tok) (l : Addr) (items : Array Value) (n : Nat) (dd : Option Addr) (sl : Array (Option Value)) (hc : items.isEmpty = false) (h1 : 1 < k) (h2 : k ≤ 16777216) (h3 : items.size * k.toNat ≤ sizeLine) :
    Meets (Builtin.«tuple.__mul__» ⟨[.ref l, .int k t], []⟩) (fun _ R s => s.heap.get? l = some { cls := .type "tuple", dict := dd, data := .seq items n, slots := sl } ∧ R (.ok (.ret (.ref s.heap.objs.size))) { s with heap := s.heap.push { cls := .type "tuple", data := .seq ((List.replicate k.toNat items).foldl (· ++ ·) #[]) } }) :=
  .of_wp fun prog w A R s h => by
    obtain ⟨hp, g, d, tk, os⟩ := s
    obtain ⟨hl, h⟩ := h
    have hk : (items.size : Int) * k = ((items.size * k.toNat : Nat) : Int) := by
      rw [Int.natCast_mul, Int.toNat_of_nonneg (by omega)]
    rw [sizeLine_eq] at h3
    have c1 : (decide (k < -(2 ^ 63)) || decide (k ≥ 2 ^ 63)) = false := by simp; omega
    have c2 : (items.isEmpty || k == 1) = false := by rw [hc]; simp; omega
    have c3 : (decide (k ≤ 0) || items.isEmpty) = false := by rw [hc]; simp; omega
    have c4 : ¬ ((items.size : Int) * k > (2 ^ 63 - 1) / 8) := by rw [hk]; omega
    have c5 : Tuple.tupleTooMany ((items.size : Int) * k) = false := by
      rw [hk]; unfold Tuple.tupleTooMany; rw [sizeLine_eq]; exact decide_eq_false (by omega)
    wp_walk
    rw [if_neg (by rw [c1]; decide)]
    wp_walk
    dsimp only
    rw [if_neg (by rw [c2]; decide)]
    rw [if_neg (by rw [c3]; decide)]
    rw [if_neg c4]
    rw [if_neg (by rw [c5]; decide)]
    wp_walk
    rw [if_neg (by rw [it_rep_size, sizeLine_eq]; omega)]
    wp_walk
    exact ⟨_, rfl, h⟩
end PySem

set_option linter.all false
set_option maxHeartbeats 4000000
set_option maxRecDepth 100000
namespace IT
open PySem PySem.Spec L2
section
variable {X : Cx}
theorem Vals.rep {xs : List V} {us : List Value} (r : Vals xs us) : ∀ m : Nat, Vals (List.replicate m xs).flatten (List.replicate m us).flatten
  | 0 => .nil
  | m + 1 => by rw [List.replicate_succ, List.replicate_succ, List.flatten_cons, List.flatten_cons]; exact r.append (Vals.rep r m)
theorem RepDs.rep {K : PySem.W.Frag} {A : Addr → Prop} {H : Hp} {xs : List D} {vs : List V} (q : RepDs K A H xs vs) : ∀ m : Nat, RepDs K A H (List.replicate m xs).flatten (List.replicate m vs).flatten
  | 0 => .nil
  | m + 1 => by rw [List.replicate_succ, List.replicate_succ, List.flatten_cons, List.flatten_cons]; exact q.app (RepDs.rep q m)
theorem rep_len {α : Type} (xs : List α) : ∀ m : Nat, (List.replicate m xs).flatten.length = xs.length * m
  | 0 => by simp
  | m + 1 => by rw [List.replicate_succ, List.flatten_cons, List.length_append, rep_len xs m, Nat.mul_succ, Nat.add_comm]
theorem op_mulT : OpR X (binaryOp .Mult) (fun x y H Q => ∃ p k xs, x = .ref p ∧ y = .int k ∧ SqT X.K H p xs ∧ xs ≠ [] ∧ ((k = 1 ∧ Q (.ref p) H) ∨ (k = 0 ∧ ∀ r, H r = none → Q (.ref r) (upd H r (.tup []))) ∨
    (1 < k ∧ k ≤ 16777216 ∧ xs.length * k.toNat ≤ sizeLine ∧ ∀ r, H r = none → Q (.ref r) (upd H r (.tup (List.replicate k.toNat xs).flatten))))) := by
  intro pins s σ H x y v u Q I rx ry q
  obtain ⟨p, k, xs, rfl, rfl, hq, hn, q⟩ := q
  cases rx
  obtain ⟨t, rfl⟩ := ry
  obtain ⟨its, r, pt, hz⟩ := I.tuple hq
  have hl := r.length
  obtain ⟨⟨cls, dd, data, sl⟩, ho, hc, n, hd⟩ := id pt
  simp only at hc hd
  subst hc hd
  have hne : its.toArray.isEmpty = false := by
    cases its with
    | nil => cases xs with
      | nil => exact absurd rfl hn
      | cons _ _ => simp at hl
    | cons _ _ => simp
  refine wpAny_binaryOp_repeat_ref (T := "tuple") (U := "int") (by decide) ⟨_, ho, rfl⟩ (fun s' => typeIs_int s' k t) it_noFill_tuple_mul F.fills_int_mul F.slot_int_rmul it_repeat_tuple F.slot_int_index.lookup
    (call_meets F.slot_int_rmul (typeIs_int s k t) F.entry_int_rmul (F.args_int_rmul_2 _ _) (it_rmul_tuple k t p its.toArray n dd sl)
      ⟨ho, rfl, ⟨_, ho, rfl⟩, ?_⟩)
  rcases q with ⟨rfl, q⟩ | ⟨rfl, q⟩ | ⟨k1, k2, k3, q⟩
  · exact call_meets F.slot_tuple_mul ⟨_, ho, rfl⟩ F.entry_tuple_mul (F.args_tuple_mul_2 _ _) (it_tuple_mul1 t p its.toArray n dd sl) ⟨ho, ⟨.ref p, H, I, rfl, q⟩⟩
  · refine call_meets F.slot_tuple_mul ⟨_, ho, rfl⟩ F.entry_tuple_mul (F.args_tuple_mul_2 _ _) (it_tuple_mul0 t p its.toArray n dd sl hne) ⟨ho, ?_⟩
    have hf : H s.heap.objs.size = none := I.hok.fresh (Nat.le_refl _)
    refine ⟨.ref s.heap.objs.size, upd H s.heap.objs.size (.tup []), I.laid (t' := s.toks) (fun b u e => Heap.get?_push_of_some _ e) (Nat.le_refl _) ?_, rfl, q _ hf⟩
    exact ⟨Nat.zero_le _, [], .nil, IsTupB.new _ _⟩
  · refine call_meets F.slot_tuple_mul ⟨_, ho, rfl⟩ F.entry_tuple_mul (F.args_tuple_mul_2 _ _) (it_tuple_muln k t p its.toArray n dd sl hne k1 k2 (by rw [List.size_toArray, ← hl]; exact k3)) ⟨ho, ?_⟩
    have hf : H s.heap.objs.size = none := I.hok.fresh (Nat.le_refl _)
    have e : (List.replicate k.toNat its.toArray).foldl (· ++ ·) #[] = ((List.replicate k.toNat its).flatten).toArray := by
      apply Array.ext'
      rw [it_rep_fold]
      simp
    rw [e]
    refine ⟨.ref s.heap.objs.size, upd H s.heap.objs.size (.tup (List.replicate k.toNat xs).flatten), I.laid (t' := s.toks) (fun b u e => Heap.get?_push_of_some _ e) (Nat.le_refl _) ?_, rfl, q _ hf⟩
    exact ⟨by rw [rep_len]; exact k3, _, Vals.rep r _, IsTupB.new _ _⟩
theorem op_mul' : OpD X (binaryOp .Mult) (bop .mul) := by
  intro pins s σ H v u v' u' Q I rv ru q
  obtain ⟨μ, h, a, b, z, R0, qa, qb, e, k⟩ := q
  cases a with
  | int i =>
    cases b with
    | int j =>
      simp only [RdD, RepD] at qa qb
      change (if _ = true then _ else _) = some _ at e
      split at e
      · rename_i hf
        cases e
        refine op_mul pins s σ H v u v' u' Q I rv ru ⟨i, j, qa, qb, ?_, k μ H _ Stp.refl R0 (by simp only [RepD])⟩
        rw [Bool.or_eq_true] at hf
        rcases hf with hf | hf
        · simp only [lim64, Bool.and_eq_true] at hf
          exact .inl ⟨of_decide_eq_true hf.1, of_decide_eq_true hf.2⟩
        · simp only [lim64, Bool.and_eq_true] at hf
          exact .inr ⟨of_decide_eq_true hf.1, of_decide_eq_true hf.2⟩
      · cases e
    | _ => exact noSome e
  | tup xs =>
    cases b with
    | int j =>
      simp only [RdD, RepD] at qa qb
      obtain ⟨p, vs, rfl, q1, z1⟩ := qa
      have l1 := z1.length
      change (if _ = true then _ else _) = some _ at e
      split at e
      · cases e
      · rename_i hne
        cases e
        simp only [Bool.or_eq_true, Bool.not_eq_true', not_or, decide_eq_true_eq] at hne
        obtain ⟨⟨⟨n1, n2⟩, n3⟩, n4⟩ := hne
        have n4 : fit (xs.length * j.toNat) = true := by simpa using n4
        have n4 : xs.length * j.toNat ≤ sizeLine := of_decide_eq_true n4
        have hn : vs ≠ [] := by
          rintro rfl
          cases xs with
          | nil => simp at n1
          | cons _ _ => simp at l1
        by_cases h0 : j = 0
        · subst h0
          refine op_mulT pins s σ H _ u v' u' Q I rv ru ⟨p, 0, vs, rfl, qb, q1, hn, .inr (.inl ⟨rfl, fun r hr => ?_⟩)⟩
          have s2 : Stp μ h H μ h (upd H r (.tup [])) := Stp.fresh hr
          refine k μ _ (.ref r) s2 (R0.fresh hr) ?_
          simp only [RepD]
          exact ⟨r, [], rfl, SqT.of upd_same, .nil⟩
        · by_cases h1 : j = 1
          · subst h1
            refine op_mulT pins s σ H _ u v' u' Q I rv ru ⟨p, 1, vs, rfl, qb, q1, hn, .inl ⟨rfl, k μ H _ Stp.refl R0 ?_⟩⟩
            simp only [RepD]
            rw [show (List.replicate (1 : Int).toNat xs).flatten = xs from by simp]
            exact ⟨p, vs, rfl, q1, z1⟩
          · refine op_mulT pins s σ H _ u v' u' Q I rv ru ⟨p, j, vs, rfl, qb, q1, hn, .inr (.inr ⟨by omega, by omega, by rw [← l1]; exact n4, fun r hr => ?_⟩)⟩
            have s2 : Stp μ h H μ h (upd H r (.tup (List.replicate j.toNat vs).flatten)) := Stp.fresh hr
            refine k μ _ (.ref r) s2 (R0.fresh hr) ?_
            simp only [RepD]
            exact ⟨r, _, rfl, SqT.of upd_same, RepDs.stp s2 R0 (RepDs.rep z1 _)⟩
    | _ => exact noSome e
  | _ => cases b <;> exact noSome e

theorem isNon_of {A0 : Addr → Prop} {H : Hp} {K : PySem.W.Frag} {a : D} {v : V} (q : RdD K A0 H a v) : decide (v = .non) = isNon a := by
  cases a with
  | non => simp only [RdD, RepD] at q; subst q; rfl
  | bl b => simp only [RdD, RepD] at q; subst q; rfl
  | int b => simp only [RdD, RepD] at q; subst q; rfl
  | str b => simp only [RdD, RepD] at q; subst q; rfl
  | tup b => simp only [RdD, RepD] at q; obtain ⟨p, vs, rfl, _⟩ := q; rfl
  | lst b => obtain ⟨p, vs, rfl, _⟩ := q; rfl
theorem op_isN' : OpD X (compareOp .Is) (cop .isN) := by
  intro pins s σ H v u v' u' Q I rv ru q
  obtain ⟨μ, h, a, b, z, R0, qa, qb, e, k⟩ := q
  cases b with
  | non =>
    simp only [RdD, RepD] at qb
    replace e := Option.some.inj e
    subst e
    exact op_isN pins s σ H v u v' u' Q I rv ru ⟨qb, by rw [isNon_of qa]; exact k μ H _ Stp.refl R0 (by simp only [RepD])⟩
  | bl c =>
    cases a with
    | bl d =>
      simp only [RdD, RepD] at qa qb
      replace e := Option.some.inj e
      subst e qa qb
      have e1 : v' = Value.bool d := rv
      have e2 : u' = Value.bool c := ru
      subst e1 e2
      exact PyProof.Rows.is_bool ⟨.bl (d == c), H, I, rfl, k μ H _ Stp.refl R0 (by simp only [RepD])⟩
    | _ => exact noSome e
  | _ => cases a <;> exact noSome e
theorem op_isnotN' : OpD X (compareOp .IsNot) (cop .isnotN) := by
  intro pins s σ H v u v' u' Q I rv ru q
  obtain ⟨μ, h, a, b, z, R0, qa, qb, e, k⟩ := q
  cases b with
  | non =>
    simp only [RdD, RepD] at qb
    replace e := Option.some.inj e
    subst e
    exact op_notN pins s σ H v u v' u' Q I rv ru ⟨qb, by rw [isNon_of qa]; exact k μ H _ Stp.refl R0 (by simp only [RepD])⟩
  | bl c =>
    cases a with
    | bl d =>
      simp only [RdD, RepD] at qa qb
      replace e := Option.some.inj e
      subst e qa qb
      have e1 : v' = Value.bool d := rv
      have e2 : u' = Value.bool c := ru
      subst e1 e2
      exact PyProof.Rows.isnot_bool ⟨.bl (d != c), H, I, rfl, k μ H _ Stp.refl R0 (by simp only [RepD])⟩
    | _ => exact noSome e
  | _ => cases a <;> exact noSome e

/-! ### an item, a slice -/
theorem atI_of {α : Type} {xs : List α} {i : Int} {x : α} (e : at' xs i = some x) : ∃ j, ixN xs.length i = some j ∧ xs[j]? = some x := by
  unfold at' at e
  cases q : ixn xs.length i with
  | none => rw [q] at e; cases e
  | some j => rw [q] at e; exact ⟨j, q, e⟩
theorem ix' : IxR X (fun v u H Q => ∃ μ h a b z, Rep X.K μ h H ∧ RdD X.K (Live μ h) H a v ∧ RdD X.K (Live μ h) H b u ∧ idxD a b = some z ∧ ∀ μ' H' w, Stp μ h H μ' h H' → Rep X.K μ' h H' → RepD X.K (Live μ' h) H' z w → Q w H') := by
  intro value slice pins s σ H v u v' u' Q I rv ru q hs
  obtain ⟨μ, h, a, b, z, R0, qa, qb, e, k⟩ := q
  cases a with
  | tup xs =>
    cases b with
    | int i =>
      simp only [RdD, RepD] at qa qb
      obtain ⟨p, vs, rfl, q1, z1⟩ := qa
      obtain ⟨j, e1, e2⟩ := atI_of (show at' xs i = some z from e)
      obtain ⟨w, e3, qw⟩ := z1.get e2
      refine ix_tup value slice pins s σ H _ u v' u' Q I rv ru ⟨p, vs, i, w, rfl, qb, q1, ?_, k μ H w Stp.refl R0 qw⟩ hs
      unfold atI
      rw [← z1.length, e1]
      exact e3
    | _ => exact noSome e
  | lst xs =>
    cases b with
    | int i =>
      simp only [RdD, RepD] at qb
      obtain ⟨p, vs, rfl, q1, z1⟩ := qa
      obtain ⟨j, e1, e2⟩ := atI_of (show at' xs i = some z from e)
      obtain ⟨w, e3, qw⟩ := z1.get e2
      refine ix_list value slice pins s σ H _ u v' u' Q I rv ru ⟨p, vs, i, w, rfl, qb, q1, ?_, k μ H w Stp.refl R0 qw⟩ hs
      unfold atI
      rw [← z1.length, e1]
      exact e3
    | _ => exact noSome e
  | str x =>
    cases b with
    | int i =>
      simp only [RdD, RepD] at qa qb
      (delta idxD at e; (try dsimp only at e))
      split at e
      · rename_i hf
        cases ec : at' x i with
        | none => rw [ec] at e; cases e
        | some c =>
          rw [ec] at e
          cases e
          obtain ⟨j, e1, e2⟩ := atI_of ec
          refine ix_str value slice pins s σ H _ u v' u' Q I rv ru ⟨toStr x, i, c, qa, qb, by rw [toStr_len]; exact of_decide_eq_true hf, ?_, k μ H _ Stp.refl R0 (by simp only [RepD]; rfl)⟩ hs
          show atI x i = some c
          unfold atI
          rw [e1]
          exact e2
      · cases e
    | _ => exact noSome e
  | _ => exact noSome e
theorem ie_idx {a b : Expr} {pos : Pos} {f g : IT.Env → M R} (ha : IE X a f) (hb : IE X b g) (hs : PlainIx b) : IE X (.Subscript a b pos) (fun σ => bnd (f σ) fun x => bnd (g σ) fun y => mD idxD x y) := by
  refine PE.imp (pe_ix ix' ha hb hs) fun σ H Q q => ?_
  obtain ⟨μ, h, env, R0, re, r, h', e, k⟩ := q
  simp only [mD, bnd_some, ok_some, opt_some] at e
  obtain ⟨x, h1, e1, y, h2, e2, dx, h3, e3, dy, h4, e4, z, h5, ⟨e5, rfl⟩, rfl, rfl⟩ := e
  refine ⟨μ, h, env, R0, re, x, h1, e1, fun μ1 H1 v s1 R1 q1 => ⟨μ1, h1, env, R1, re.stp s1 R0, y, h2, e2, fun μ2 H2 u s2 R2 q2 => ?_⟩⟩
  obtain ⟨rfl, zx⟩ := rd_ok R2 (q1.stp s2 R1) e3
  obtain ⟨rfl, zy⟩ := rd_ok R2 q2 e4
  exact ⟨μ2, _, dx, dy, z, R2, zx, zy, e5, fun μ3 H3 w s3 R3 q3 => k μ3 H3 w ((s1.trans s2).trans s3) R3 q3⟩
end
end IT

set_option linter.all false
set_option maxHeartbeats 4000000
set_option maxRecDepth 100000
namespace HT
open PySem PyProof.Rows
section
variable {prog : Program} {w : World} {A : Around} {E : Value → Shared → Prop} {s : Shared}
/-- t[a:b], the whole: t itself -/
theorem getItem_tuple_whole {t sl : Addr} {items : Array Value} {vl vu : Value} {lo hi : Option Int} {Q : Value → Shared → Prop} (ht : IsTup s.heap t items) (hs : s.heap.IsSliceOf sl vl vu .none) (pl : IsPart vl lo) (pu : IsPart vu hi)
    (hw : sIx items.size 0 lo = 0 ∧ sIx items.size items.size hi = items.size) (h : Q (.ref t) s) : wpAny (model prog w) A (getItem (.ref t) (.ref sl)) Q E s := by
  obtain ⟨os, hos, hcs, hds⟩ := id hs
  have hTs : s.TypeIs (.ref sl) "slice" := ⟨os, hos, hcs⟩
  unfold getItem
  try with_reducible refine wpAny_holding ?_
  first | refine wpAny_bind (wpAny_pure ?_) | skip
  refine wpAny_bind (wpAny_sequenceKey ht.typeIs (by decide) ?_)
  refine wpAny_bind (wpAny_callSpecial?_slot (name := Str.ofString "__getitem__") ht.typeIs PyProof.Rows.slot_tuple_getitem
    (wpAny_call_entry PyProof.Rows.slot_tuple_getitem ht.typeIs entry_tuple_getitem ?_ (args_tuple_getitem _ _)))
  show wpAny _ _ (Builtin.Tuple.tupleItemsOf (.ref t) >>= _) _ _ s
  refine wpAny_bind (tupleItemsOf_ ht ?_)
  refine wpAny_bind (wpAny_typeOf hTs ?_)
  rw [if_pos (by decide)]
  refine wpAny_bind (sliceApplied_gen hs pl pu ?_)
  have hyes : (((sIx items.size 0 lo : Nat) : Int) == 0 && (1 : Int) == 1 && (sIx items.size items.size hi - sIx items.size 0 lo) == items.size) = true := by
    rw [hw.1, hw.2]
    simp
  show wpAny _ _ (if (((sIx items.size 0 lo : Nat) : Int) == 0 && (1 : Int) == 1 && (sIx items.size items.size hi - sIx items.size 0 lo) == items.size) = true then _ else _) _ _ s
  rw [if_pos hyes]
  unfold Builtin.Tuple.tupleIsExact
  refine wpAny_bind (wpAny_bind (wpAny_typeOf ht.typeIs (wpAny_pure ?_)))
  rw [if_pos (by decide)]
  first
    | exact wpAny_bind (wpAny_rule (wpAny_pure ⟨_, rfl, wpAny_pure h⟩))
    | exact wpAny_bind (wpAny_rule (wpAny_bind (wpAny_pure (wpAny_pure ⟨_, rfl, wpAny_pure h⟩))))
    | exact wpAny_bind (wpAny_rule (wpAny_bind (wpAny_pure ⟨_, rfl, wpAny_pure h⟩)))
end
end HT
namespace IT
open PySem PySem.Spec L2
section
variable {X : Cx}
theorem sl_tupW : SlR X (fun x lo hi H Q => ∃ a xs, x = .ref a ∧ SqT X.K H a xs ∧ (HT.sIx xs.length 0 lo = 0 ∧ HT.sIx xs.length xs.length hi = xs.length) ∧ Q (.ref a) H) := by
  intro pins s σ H x v vl vu lo hi sl Q I rx hs pl pu h
  obtain ⟨a, xs, rfl, hx, hw, q⟩ := h
  cases rx
  obtain ⟨its, r, ht, hz⟩ := I.tuple hx
  have hlen : its.toArray.size = xs.length := by rw [List.size_toArray]; exact r.length.symm
  refine ⟨"tuple", _, PyProof.Rows.slot_tuple_getitem.lookup, ht.typeIs, ?_⟩
  exact HT.getItem_tuple_whole ht hs pl pu (by rw [hlen]; exact hw) ⟨.ref a, H, I, rfl, q⟩
theorem sIx_eq (n d : Nat) (o : Option Int) : sIx n d o = HT.sIx n d o := by cases o <;> rfl
theorem RepDs.cut {K : PySem.W.Frag} {A : Addr → Prop} {H : Hp} {xs : List D} {vs : List V} (q : RepDs K A H xs vs) (lo hi : Option Int) : RepDs K A H (IT.cut xs lo hi) (cutV vs lo hi) := by
  unfold IT.cut cutV
  rw [sIx_eq, sIx_eq, q.length]
  exact (q.drop _).take _
theorem sl' : SlR X (fun v lo hi H Q => ∃ μ h a z, Rep X.K μ h H ∧ RdD X.K (Live μ h) H a v ∧ cutD a lo hi = some z ∧ ∀ μ' H' w, Stp μ h H μ' h H' → Rep X.K μ' h H' → RepD X.K (Live μ' h) H' z w → Q w H') := by
  intro pins s σ H x v vl vu lo hi sl Q I rx hs pl pu q
  obtain ⟨μ, h, a, z, R0, qa, e, k⟩ := q
  cases a with
  | tup xs =>
    simp only [RdD, RepD] at qa
    obtain ⟨p, vs, rfl, q1, z1⟩ := qa
    cases e
    by_cases hw : HT.sIx vs.length 0 lo = 0 ∧ HT.sIx vs.length vs.length hi = vs.length
    · refine sl_tupW pins s σ H _ v vl vu lo hi sl Q I rx hs pl pu ⟨p, vs, rfl, q1, hw, k μ H _ Stp.refl R0 ?_⟩
      simp only [RepD]
      refine ⟨p, vs, rfl, q1, ?_⟩
      have e2 : cut xs lo hi = xs := by
        unfold cut
        rw [sIx_eq, sIx_eq, z1.length, hw.1, hw.2, List.drop_zero, Nat.sub_zero, ← z1.length, List.take_length]
      rw [e2]
      exact z1
    · refine sl_tup pins s σ H _ v vl vu lo hi sl Q I rx hs pl pu ⟨p, vs, rfl, q1, hw, fun r hr => ?_⟩
      have s2 : Stp μ h H μ h (upd H r (.tup (cutV vs lo hi))) := Stp.fresh hr
      refine k μ _ (.ref r) s2 (R0.fresh hr) ?_
      simp only [RepD]
      exact ⟨r, cutV vs lo hi, rfl, SqT.of upd_same, RepDs.stp s2 R0 (z1.cut lo hi)⟩
  | lst xs =>
    obtain ⟨p, vs, rfl, q1, z1⟩ := qa
    cases e
    refine sl_list pins s σ H _ v vl vu lo hi sl Q I rx hs pl pu ⟨p, vs, rfl, q1, fun r hr => ?_⟩
    have s2 : Stp μ h H μ h (upd H r (.lst (cutV vs lo hi))) := Stp.fresh hr
    refine k μ _ (.ref r) s2 (R0.fresh hr) ?_
    simp only [RepD]
    refine ⟨r, cutV vs lo hi, rfl, .inl ⟨fun l => ?_, .inl upd_same⟩, RepDs.stp s2 R0 (z1.cut lo hi)⟩
    obtain ⟨ws, w, _⟩ := R0.liveAt l
    rw [hr] at w; cases w
  | str xs =>
    (delta cutD at e; (try dsimp only at e))
    split at e
    · rename_i hf
      cases e
      simp only [RdD, RepD] at qa
      subst qa
      obtain ⟨t, rfl⟩ := (show ∃ t', v = Value.str (toStr xs) t' from rx)
      have hz : (toStr xs).length ≤ sizeLine := by rw [toStr_len]; exact of_decide_eq_true hf
      have fin : ∀ t' k', EP X pins σ Q (.str (Txt.slice (toStr xs) lo hi) t') { s with toks := k' } := fun t' k' => ⟨.str (Txt.slice (toStr xs) lo hi), H, I.tok _, ⟨_, rfl⟩, k μ H _ Stp.refl R0 (by rw [slice_cut]; simp only [RepD])⟩
      obtain ⟨os, hos, hcs, hds⟩ := id hs
      have part : ∀ {v : Value} {o : Option Int}, IsPart v o → ∃ p : Option (Int × Tok), v = partValue p ∧ p.map (·.1) = o := by
        intro v o p
        cases p with
        | none => exact ⟨none, rfl, rfl⟩
        | int i t => exact ⟨some (i, t), rfl, rfl⟩
      obtain ⟨p1, rfl, e1⟩ := part pl
      obtain ⟨p2, rfl, e2⟩ := part pu
      refine ⟨"str", _, PySem.F.slot_str_getitem.lookup, typeIs_str _ _ _, wpAny_getItem_str_slice (l := p1) (u := p2) (st := none) ⟨os, hos, hcs, hds⟩ rfl ?_⟩
      unfold sliceMade slicePicked
      rw [e1, e2]
      exact post_val_or_str ⟨Nat.le_trans (Txt.slice_le _ lo hi) hz, fin⟩
    · cases e
  | _ => cases e
/-- a slice's part -/
inductive tO (K : PySem.W.Frag) (f : IT.Env → M R) (σ : St) (H : Hp) (Q : Option Int → Hp → Prop) : Prop where
  | mk (μ : List Addr) (h : Sto) (env : IT.Env) (R0 : Rep K μ h H) (re : RepE K μ h H env σ) (d : D) (h' : Sto) (o : Option Int) (e : f env h = some (.d d, h')) (ep : part d = some o) (k : ∀ μ' H', Stp μ h H μ' h' H' → Rep K μ' h' H' → Q o H')
theorem PO.imp {oe : Option Expr} {t t' : TO} (h : PO X oe t) (i : ∀ σ H Q, t' σ H Q → t σ H Q) : PO X oe t' := fun pins s σ H Q I q => h pins s σ H Q I (i σ H Q q)
theorem io_none : PO X none (tO X.K fun _ => ok (.d .non)) := by
  refine PO.imp po_none fun σ H Q q0 => ?_
  obtain ⟨μ, h, env, R0, re, d, h', o, e, ep, k⟩ := q0
  simp only [ok_some, R.d.injEq] at e
  obtain ⟨rfl, rfl⟩ := e
  simp only [part, Option.some.injEq] at ep
  subst ep
  exact k μ H Stp.refl R0
theorem io_some {e : Expr} {f : IT.Env → M R} (h : IE X e f) : PO X (some e) (tO X.K f) := by
  intro pins s σ H Q I ⟨μ, h0, env, R0, re, d, h', o, ef, ep, k⟩
  rw [evalPart_some]
  refine thn (h pins s σ H (fun x H1 => (∃ i, x = .int i ∧ Q (some i) H1) ∨ (x = .non ∧ Q none H1)) I ⟨μ, h0, env, R0, re, .d d, h', ef, fun μ1 H1 v s1 R1 q1 => ?_⟩) fun u s1 ⟨x, H1, I1, r1, q1⟩ => ?_
  · cases d with
    | int i =>
      simp only [RepR, RepD] at q1
      simp only [part, Option.some.injEq] at ep
      subst ep
      exact .inl ⟨i, q1, k μ1 H1 s1 R1⟩
    | non =>
      simp only [RepR, RepD] at q1
      simp only [part, Option.some.injEq] at ep
      subst ep
      exact .inr ⟨q1, k μ1 H1 s1 R1⟩
    | _ => simp [part] at ep
  · rcases q1 with ⟨i, rfl, q⟩ | ⟨rfl, q⟩
    · obtain ⟨t, rfl⟩ := r1
      exact ⟨some i, H1, I1, .int i t, q⟩
    · cases r1
      exact ⟨none, H1, I1, .none, q⟩
theorem ie_sli {a : Expr} {lo hi : Option Expr} {p2 pos : Pos} {f g k : IT.Env → M R} (ha : IE X a f) (hl : PO X lo (tO X.K g)) (hu : PO X hi (tO X.K k)) : IE X (.Subscript a (.Slice lo hi none p2) pos)
    (fun σ => bnd (f σ) fun x => bnd (g σ) fun l => bnd (k σ) fun u => bnd (rd x) fun x => bnd (rd l) fun l => bnd (rd u) fun u => bnd (opt (sliD x l u)) fun z => ok (.d z)) := by
  refine PE.imp (pe_slice sl' ha hl hu) fun σ H Q q0 => ?_
  obtain ⟨μ, h, env, R0, re, r, h', e, kk⟩ := q0
  simp only [bnd_some, ok_some, opt_some] at e
  obtain ⟨x, h1, e1, l, h2, e2, u, h3, e3, dx, h4, e4, dl, h5, e5, du, h6, e6, z, h7, ⟨e7, rfl⟩, rfl, rfl⟩ := e
  (delta sliD at e7; (try dsimp only at e7))
  -- the parts are data
  have isd : ∀ (r : R) (d : D) (h h' : Sto), rd r h = some (d, h') → ∀ o, part d = some o → r = .d d ∧ h' = h := by
    intro r d h h' e o ep
    cases r with
    | d x => simp only [rd, ok_some] at e; exact ⟨by rw [e.1], e.2.symm⟩
    | loc l =>
      obtain ⟨o, _, _, rfl, _⟩ := rd_loc e
      simp [part] at ep
  cases pl : part dl with
  | none => rw [pl] at e7; cases e7
  | some lo' =>
    cases pu : part du with
    | none => rw [pl, pu] at e7; cases e7
    | some hi' =>
      rw [pl, pu] at e7
      replace e7 : cutD dx lo' hi' = some z := e7
      obtain ⟨rfl, hh5⟩ := isd l dl h4 h5 e5 lo' pl
      subst hh5
      obtain ⟨rfl, hh6⟩ := isd u du _ h6 e6 hi' pu
      subst hh6
      refine ⟨μ, h, env, R0, re, x, h1, e1, fun μ1 H1 v s1 R1 q1 => ⟨μ1, h1, env, R1, re.stp s1 R0, dl, h2, lo', e2, pl, fun μ2 H2 s2 R2 => ⟨μ2, h2, env, R2, re.stp (s1.trans s2) R0, du, h3, hi', e3, pu, fun μ3 H3 s3 R3 => ?_⟩⟩⟩
      obtain ⟨rfl, zx⟩ := rd_ok R3 ((q1.stp s2 R1).stp s3 R2) e4
      exact ⟨μ3, _, dx, z, R3, zx, e7, fun μ4 H4 w s4 R4 q4 => kk μ4 H4 w (((s1.trans s2).trans s3).trans s4) R4 q4⟩

/-! ### built-in functions upon data -/
inductive CallDQ (K : PySem.W.Frag) (g : List D → Option D) (vs : List V) (H : Hp) (Q : VK) : Prop where
  | mk (μ : List Addr) (h : Sto) (ds : List D) (z : D) (R0 : Rep K μ h H) (pr : Paired (RdD K (Live μ h) H) ds vs) (e : g ds = some z) (k : ∀ μ' H' w, Stp μ h H μ' h H' → Rep K μ' h H' → RepD K (Live μ' h) H' z w → Q w H')
noncomputable def CallD (X : Cx) (f : Value) (g : List D → Option D) : Prop := CallR X f fun vs H Q => CallDQ X.K g vs H Q
theorem bi_conv {t : Bi} {fs : IT.Env → M (List R)} {σ : St} {H : Hp} {Q : VK}
    (q : tE X.K (fun σ => bnd (fs σ) fun rs => bnd (rds rs) fun ds => bnd (opt (biD t ds)) fun z => ok (.d z)) σ H Q) :
    tAs X.K fs σ H fun vs H1 => CallDQ X.K (biD t) vs H1 Q := by
  obtain ⟨μ, h, env, R0, re, r, h', e, k⟩ := q
  simp only [bnd_some, ok_some, opt_some] at e
  obtain ⟨rs, h1, e1, ds, h2, e2, z, h3, ⟨e3, rfl⟩, rfl, rfl⟩ := e
  refine ⟨μ, h, env, R0, re, rs, h1, e1, fun μ1 H1 vs s1 R1 q1 => ?_⟩
  obtain ⟨rfl, zs⟩ := rds_ok R1 q1 e2
  exact ⟨μ1, _, ds, z, R1, zs, e3, fun μ2 H2 w s2 R2 q2 => k μ2 H2 w (s1.trans s2) R2 q2⟩
theorem call_len' : CallD X (.builtin "len") (biD .len) := by
  intro pins s σ H vs us Q I r q
  obtain ⟨μ, h, ds, z, R0, pr, e, k⟩ := q
  cases pr with
  | nil => exact noSome e
  | @cons d v ds vs qd pr =>
    cases pr with
    | cons _ _ => cases d <;> exact noSome e
    | nil =>
      cases d with
      | tup xs =>
        simp only [RdD, RepD] at qd
        obtain ⟨p, ws, rfl, q1, z1⟩ := qd
        replace e := Option.some.inj e
        subst e
        exact call_len pins s σ H _ us Q I r ⟨.ref p, ws.length, rfl, .inr ⟨ws, q1, rfl⟩, k μ H _ Stp.refl R0 (by simp only [RepD]; rw [z1.length])⟩
      | lst xs =>
        obtain ⟨p, ws, rfl, q1, z1⟩ := qd
        replace e := Option.some.inj e
        subst e
        exact call_len pins s σ H _ us Q I r ⟨.ref p, ws.length, rfl, .inl ⟨ws, q1, rfl⟩, k μ H _ Stp.refl R0 (by simp only [RepD]; rw [z1.length])⟩
      | str x =>
        simp only [RdD, RepD] at qd
        subst qd
        (delta biD at e; (try dsimp only at e))
        split at e
        · rename_i hf
          cases e
          exact call_len pins s σ H _ us Q I r ⟨.str (toStr x), x.length, rfl, ⟨by rw [toStr_len]; exact of_decide_eq_true hf, by rw [toStr_len]⟩, k μ H _ Stp.refl R0 (by simp only [RepD])⟩
        · cases e
      | _ => exact noSome e
theorem call_tuple' : CallD X (.type "tuple") (biD .tuple) := by
  intro pins s σ H vs us Q I r q
  obtain ⟨μ, h, ds, z, R0, pr, e, k⟩ := q
  cases pr with
  | nil => exact noSome e
  | @cons d v ds vs qd pr =>
    cases pr with
    | cons _ _ => cases d <;> exact noSome e
    | nil =>
      cases d with
      | tup xs =>
        simp only [RdD, RepD] at qd
        obtain ⟨p, ws, rfl, q1, z1⟩ := qd
        replace e := Option.some.inj e
        subst e
        exact call_tuple_of pins s σ H _ us Q I r ⟨p, ws, rfl, .inr ⟨q1, k μ H _ Stp.refl R0 (by simp only [RepD]; exact ⟨p, ws, rfl, q1, z1⟩)⟩⟩
      | lst xs =>
        obtain ⟨p, ws, rfl, q1, z1⟩ := qd
        replace e := Option.some.inj e
        subst e
        refine call_tuple_of pins s σ H _ us Q I r ⟨p, ws, rfl, .inl ⟨q1, fun l hl => ?_⟩⟩
        have s2 : Stp μ h H μ h (upd H l (.tup ws)) := Stp.fresh hl
        refine k μ _ (.ref l) s2 (R0.fresh hl) ?_
        simp only [RepD]
        exact ⟨l, ws, rfl, SqT.of upd_same, RepDs.stp s2 R0 z1⟩
      | _ => exact noSome e
theorem call_int' : CallD X (.type "int") (biD .int) := by
  intro pins s σ H vs us Q I r q
  obtain ⟨μ, h, ds, z, R0, pr, e, k⟩ := q
  cases pr with
  | nil => exact noSome e
  | @cons d v ds vs qd pr =>
    cases pr with
    | cons _ _ => cases d <;> exact noSome e
    | nil =>
      cases d with
      | bl b =>
        simp only [RdD, RepD] at qd
        subst qd
        replace e := Option.some.inj e
        subst e
        exact call_int1 pins s σ H _ us Q I r (.inr ⟨b, rfl, k μ H _ Stp.refl R0 (by simp only [RepD])⟩)
      | int i =>
        simp only [RdD, RepD] at qd
        subst qd
        replace e := Option.some.inj e
        subst e
        exact call_int1 pins s σ H _ us Q I r (.inl ⟨i, rfl, k μ H _ Stp.refl R0 (by simp only [RepD])⟩)
      | _ => exact noSome e
end
end IT

set_option linter.all false
set_option maxHeartbeats 4000000
set_option maxRecDepth 100000
namespace IT
open PySem PySem.Spec L2
section
variable {X : Cx}

/-! ### xs.append(e) -/
theorem Rep.placeL {K : PySem.W.Frag} {μ : List Addr} {h : Sto} {H : Hp} (R0 : Rep K μ h H) {l : Nat} {a : Addr} {o : Ob} (e : μ[l]? = some a) (ho : h[l]? = some o) (il : o.isL = true) : ∃ vs, H a = some (.lst vs) ∧ RepDs K (Live μ h) H o.items vs :=
  (R0.obj l a o e ho).isL il
theorem Rep.placeO {K : PySem.W.Frag} {μ : List Addr} {h : Sto} {H : Hp} (R0 : Rep K μ h H) {l : Nat} {a : Addr} (e : μ[l]? = some a) : ∃ o, h[l]? = some o := by
  have hl : l < h.length := by rw [← R0.len]; exact (List.getElem?_eq_some_iff.mp e).1
  exact ⟨h[l], List.getElem?_eq_getElem hl⟩
theorem ie_append {o e : Expr} {es : List Expr} {name : Str} {apos cpos : Pos} {f : IT.Env → M R} {fs : IT.Env → M (List R)} (ho : IE X o f) (ha : IA X (e :: es) fs) (hname : name = ("append" : Str))
    (hbase : attributeBase o name X.env (eval o X.env) = eval o X.env)
    (hfew : ((backTo cpos (starEach (e :: es) X.env)).all (fun x => !x.1) && (backToKw cpos (keywordEach [] X.env)).all (fun x => x.1.isSome)
      && decide ((e :: es).length + ([] : List Keyword).length + (if ([] : List Keyword).isEmpty then 0 else 1) < 30)) = true)
    (hline : (apos.endLine == cpos.line) = true) (hs : starEach (e :: es) X.env = (false, eval e X.env) :: starEach es X.env) (hplain : (backTo cpos (starEach es X.env)).any (·.1) = false) :
    IE X (.Call (.Attribute o name apos) (e :: es) [] cpos) (fun σ => bnd (f σ) fun x => bnd (isLst x) fun _ => bnd (fs σ) fun rs => meth .append x rs) := by
  subst hname
  refine PE.imp (pe_bm PySem.F.plainAttrs_list PySem.F.slot_list_append PySem.F.type_list_append mt_append ho ha hbase hfew hline hs hplain) fun σ H Q q0 => ?_
  obtain ⟨μ, h, env, R0, re, r, h', e, k⟩ := q0
  simp only [bnd_some] at e
  obtain ⟨x, h1, e1, _, h1', e0, rs, h2, e2, e3⟩ := e
  obtain ⟨l, o1, rfl, ho1, il1, rfl⟩ := isLst_some e0
  refine ⟨μ, h, env, R0, re, .loc l, _, e1, fun μ1 H1 v s1 R1 q1 => ?_⟩
  · skip
    obtain ⟨a, ea, rfl⟩ := q1
    obtain ⟨vs1, hH1, z1⟩ := R1.placeL ea ho1 il1
    refine ⟨.inl ⟨rfl, vs1, .inl (.inl hH1)⟩, μ1, _, env, R1, re.stp s1 R0, rs, h2, e2, fun μ2 H2 ws s2 R2 q2 => ?_⟩
    cases q2 with
    | nil => exact noSome e3
    | @cons rr w rs' ws' qr q2 =>
      cases q2 with
      | cons _ _ => exact noSome e3
      | nil =>
        (delta meth at e3; (try dsimp only at e3); simp only [bnd_some] at e3)
        obtain ⟨d, h3, e4, e5⟩ := e3
        obtain ⟨s3, R3, zd⟩ := fz_ok R2 qr e4
        have ea2 := s2.pre l a ea
        split at e5
        · rename_i xs hx
          split at e5
          · rename_i hlen
            simp only [Option.some.injEq, Prod.mk.injEq] at e5
            obtain ⟨rfl, rfl⟩ := e5
            obtain ⟨vs3, hH3, z3⟩ := R3.placeL ea2 hx rfl
            have hlen' : vs3.length < sizeLine := by
              have := z3.length
              have h4 : xs.length < big := of_decide_eq_true hlen
              have h5 : big = sizeLine := rfl
              simp only [Ob.items] at this
              omega
            refine ⟨a, vs3, w, rfl, rfl, hH3, hlen', ?_⟩
            obtain ⟨s4, R4⟩ := write R3 ea2 hx (z3.app (RepDs.one zd))
            exact k μ2 _ .non (((s1.trans s2).trans s3).trans s4) R4 (by simp only [RepR, RepD])
          · cases e5
        · cases e5

/-! ### calls of the text's own defs -/
noncomputable def spF (K : PySem.W.Frag) (np : Nat) (m : List R → M R) : Sp := fun vs H Q _ => vs.length = np ∧ ∃ μ h rs, Rep K μ h H ∧ RepRs K μ h H rs vs ∧ Post K μ h H (RepR K) (m rs h) Q
structure FunAt (X : Cx) (n : Nat) (x : Str) (np : Nat) (dfl : List D) (m : List R → M R) : Prop where
  ex : ∃ f fd ps dvs, FnOk X.prog X.w X.K X.mg X.base CX0 n f fd ps (spF X.K np m) ∧ X.mg x = some (.ref f) ∧ PySem.W.keepIn X.K (.ref f) = true ∧ (∀ A H, RepDs X.K A H dfl dvs) ∧ (∀ j, j ≤ dfl.length → ∃ ds, Binds X.K fd ps ds ∧ Vals (dvs.drop j) ds)
  fill : ∀ rs, m rs = m (fillD np dfl rs)
  len : ∀ rs h p, m rs h = some p → (fillD np dfl rs).length = np
theorem fill_short {np : Nat} {dfl : List D} {rs : List R} (h : rs.length + dfl.length < np) : fillD np dfl rs = rs := by unfold fillD; rw [if_pos h]
theorem fill_long {np : Nat} {dfl : List D} {rs : List R} (h : ¬ rs.length + dfl.length < np) : fillD np dfl rs = rs ++ (dfl.drop (rs.length + dfl.length - np)).map R.d := by unfold fillD; rw [if_neg h]
theorem RepRs.app {K : PySem.W.Frag} {μ : List Addr} {h : Sto} {H : Hp} {rs ss : List R} {vs ws : List V} (a : RepRs K μ h H rs vs) (b : RepRs K μ h H ss ws) : RepRs K μ h H (rs ++ ss) (vs ++ ws) := by
  induction a with
  | nil => exact b
  | cons q _ ih => exact .cons q ih
theorem RepDs.rs {K : PySem.W.Frag} {μ : List Addr} {h : Sto} {H : Hp} : ∀ {ds : List D} {vs : List V}, RepDs K (Live μ h) H ds vs → RepRs K μ h H (ds.map R.d) vs
  | [], vs, q => by simp only [RepDs] at q; subst q; exact .nil
  | x :: xs, vs, q => by
    simp only [RepDs] at q
    obtain ⟨v, r, rfl, h1, h2⟩ := q
    exact .cons h1 h2.rs
theorem ie_call {n np : Nat} {dfl : List D} {x : Str} {m : List R → M R} {e : Expr} {es : List Expr} {p pos : Pos} {fs : IT.Env → M (List R)} (hF : FunAt X n x np dfl m) (hr : Room n X.A) (hg : Gl X x) (ha : IA X (e :: es) fs) (hf : ∀ σ h rs h', fs σ h = some (rs, h') → rs.length = (e :: es).length)
    (hdb : (x == ("__debug__" : Str)) = false) (he : starEach (e :: es) X.env = (false, eval e X.env) :: starEach es X.env) (hpl : (backTo pos (starEach es X.env)).any (·.1) = false) :
    IE X (.Call (.Name x p) (e :: es) [] pos) (fun σ => bnd (fs σ) fun rs => m rs) := by
  obtain ⟨f, fd, ps, dvs, F, hm, hk, hd, hb⟩ := hF.ex
  by_cases hj : (e :: es).length + dfl.length - np ≤ dfl.length ∧ ¬ (e :: es).length + dfl.length < np
  · obtain ⟨hj, hj2⟩ := hj
    obtain ⟨ds, hb, hv⟩ := hb _ hj
    refine PE.imp (pe_call F hr hg hm hk hb hv pass0 ha hdb he hpl) fun σ H Q q0 => ?_
    obtain ⟨μ, h, env, R0, re, r, h', ee, k⟩ := q0
    simp only [bnd_some] at ee
    obtain ⟨rs, h1, e1, e2⟩ := ee
    refine ⟨μ, h, env, R0, re, rs, h1, e1, fun μ1 H1 vs s1 R1 q1 => ?_⟩
    have hlen := hF.len _ _ _ e2
    rw [hF.fill rs] at e2
    have qq : RepRs X.K μ1 h1 H1 (fillD np dfl rs) (vs ++ dvs.drop ((e :: es).length + dfl.length - np)) := by
      rw [fill_long (by rw [hf _ _ _ _ e1]; exact hj2), hf _ _ _ _ e1]
      exact q1.app (RepDs.drop _ (hd _ _)).rs
    exact ⟨by rw [← qq.length]; exact hlen, μ1, h1, fillD np dfl rs, R1, qq, r, h', e2, fun μ2 H2 v s2 R2 q2 => k μ2 H2 v (s1.trans s2) R2 q2⟩
  · obtain ⟨ds, hb, hv⟩ := hb dfl.length (Nat.le_refl _)
    refine PE.imp (pe_call F hr hg hm hk hb hv pass0 ha hdb he hpl) fun σ H Q q0 => ?_
    obtain ⟨μ, h, env, R0, re, r, h', ee, k⟩ := q0
    simp only [bnd_some] at ee
    obtain ⟨rs, h1, e1, e2⟩ := ee
    refine ⟨μ, h, env, R0, re, rs, h1, e1, fun μ1 H1 vs s1 R1 q1 => ?_⟩
    exfalso
    have hlen := hF.len _ _ _ e2
    have hrs := hf _ _ _ _ e1
    by_cases hs : rs.length + dfl.length < np
    · rw [fill_short hs] at hlen
      omega
    · rw [fill_long hs] at hlen
      simp only [List.length_append, List.length_map, List.length_drop] at hlen
      omega

/-! ### targets -/
inductive tG (K : PySem.W.Frag) (t : Tg) (v : V) (σ : St) (H : Hp) (Q : St → Hp → Prop) : Prop where
  | mk (μ : List Addr) (h : Sto) (env : IT.Env) (r : R) (env' : IT.Env) (R0 : Rep K μ h H) (re : RepE K μ h H env σ) (qr : RepR K μ h H r v) (e : bindT t r env h = some (env', h)) (k : ∀ σ', RepE K μ h H env' σ' → Q σ' H)
inductive tGs (K : PySem.W.Frag) (ts : List Tg) (vs : List V) (σ : St) (H : Hp) (Q : St → Hp → Prop) : Prop where
  | mk (μ : List Addr) (h : Sto) (env : IT.Env) (xs : List D) (env' : IT.Env) (R0 : Rep K μ h H) (re : RepE K μ h H env σ) (qr : RepDs K (Live μ h) H xs vs) (e : bindTs ts xs env h = some (env', h)) (k : ∀ σ', RepE K μ h H env' σ' → Q σ' H)
theorem PG.imp {tg : Expr} {t t' : TG} (h : PG X tg t) (i : ∀ v σ H Q, t' v σ H Q → t v σ H Q) : PG X tg t' := fun pins s σ H v u Q I r q => h pins s σ H v u Q I r (i v σ H Q q)
theorem PGs.imp {tg : List Expr} {t t' : TGs} (h : PGs X tg t) (i : ∀ v σ H Q, t' v σ H Q → t v σ H Q) : PGs X tg t' := fun pins s σ H v u Q I r q => h pins s σ H v u Q I r (i v σ H Q q)
theorem ig_name {i : Nat} {x : Str} {pos : Pos} (hN : X.N.Nodup) (hi : X.N[i]? = some x) (hx : Loc X.env.scope x) (hf : X.fn x = true ∨ X.env.scope.names.lookup x = some .local) : PG X (.Name x pos) (tG X.K (.name i)) := by
  refine PG.imp (pg_name hN hi hx hf) fun v σ H Q ⟨μ, h, env, r, env', R0, re, qr, e, k⟩ => ?_
  simp only [bindT, ok_some] at e
  obtain ⟨rfl, _⟩ := e
  exact k _ (re.set i qr)
theorem igs_nil : PGs X [] (tGs X.K []) := by
  refine PGs.imp pgs_nil fun vs σ H Q ⟨μ, h, env, xs, env', R0, re, qx, e, k⟩ => ?_
  cases xs with
  | nil =>
    simp only [RepDs] at qx
    simp only [bindTs, ok_some] at e
    obtain ⟨rfl, _⟩ := e
    exact ⟨qx, k σ re⟩
  | cons _ _ => exact noSome e
/-- a target never changes the store -/
theorem bindT_sto : ∀ (t : Tg) (r : R) (env env' : IT.Env) (h h' : Sto), bindT t r env h = some (env', h') → h' = h := by
  intro t
  refine Tg.rec (motive_1 := fun t => ∀ (r : R) (env env' : IT.Env) (h h' : Sto), bindT t r env h = some (env', h') → h' = h)
    (motive_2 := fun ts => ∀ (xs : List D) (env env' : IT.Env) (h h' : Sto), bindTs ts xs env h = some (env', h') → h' = h) ?_ ?_ ?_ ?_ t
  · intro i r env env' h h' e
    simp only [bindT, ok_some] at e
    exact e.2.symm
  · intro ts ih r env env' h h' e
    simp only [bindT, bnd_some] at e
    obtain ⟨d, h1, e1, e2⟩ := e
    have hh : h1 = h := by
      cases r with
      | d x => simp only [rd, ok_some] at e1; exact e1.2.symm
      | loc l =>
        exact (rd_loc e1).choose_spec.2.2.2
    subst hh
    cases d with
    | tup xs => exact ih xs env env' _ h' e2
    | _ => cases e2
  · intro xs env env' h h' e
    cases xs with
    | nil => simp only [bindTs, ok_some] at e; exact e.2.symm
    | cons _ _ => exact noSome e
  · intro t ts iht ihts xs env env' h h' e
    cases xs with
    | nil => exact noSome e
    | cons x xs =>
      simp only [bindTs, bnd_some] at e
      obtain ⟨env1, h1, e1, e2⟩ := e
      have := iht _ _ _ _ _ e1
      subst this
      exact ihts _ _ _ _ _ e2
theorem bindTs_len : ∀ (ts : List Tg) (xs : List D) (env env' : IT.Env) (h h' : Sto), bindTs ts xs env h = some (env', h') → xs.length = ts.length
  | [], [], _, _, _, _, _ => rfl
  | [], _ :: _, _, _, _, _, e => by exact noSome e
  | _ :: _, [], _, _, _, _, e => by exact noSome e
  | t :: ts, x :: xs, env, env', h, h', e => by
    simp only [bindTs, bnd_some] at e
    obtain ⟨env1, h2, e3, e4⟩ := e
    simp only [List.length_cons]
    rw [bindTs_len ts xs env1 env' h2 h' e4]
theorem igs_cons {e : Expr} {es : List Expr} {t : Tg} {ts : List Tg} (h1 : PG X e (tG X.K t)) (h2 : PGs X es (tGs X.K ts)) (hs : (assignEach (e :: es) X.env).map (·.2) = assign e X.env :: (assignEach es X.env).map (·.2)) : PGs X (e :: es) (tGs X.K (t :: ts)) := by
  refine PGs.imp (pgs_cons h1 h2 hs) fun vs σ H Q ⟨μ, h, env, xs, env', R0, re, qx, e, k⟩ => ?_
  cases xs with
  | nil => exact noSome e
  | cons x xs =>
    simp only [RepDs] at qx
    obtain ⟨v, r, rfl, q1, q2⟩ := qx
    simp only [bindTs, bnd_some] at e
    obtain ⟨env1, h1', e1, e2⟩ := e
    have := bindT_sto _ _ _ _ _ _ e1
    subst this
    refine ⟨v, r, rfl, μ, _, env, .d x, env1, R0, re, q1, e1, fun σ1 re1 => ⟨μ, _, env1, xs, env', R0, re1, q2, e2, k⟩⟩
theorem ig_tup {es : List Expr} {n : Nat} {pos : Pos} {ts : List Tg} (hc : X.calm = true) (h : PGs X es (tGs X.K ts)) (hl : es.length = ts.length) (hn : (assignEach es X.env).length = es.length) (hst : (assignEach es X.env).findIdx? (·.1) = none) : PG X (.Tuple es n pos) (tG X.K (.tup ts)) := by
  refine PG.imp (pg_tup (n := es.length) hc h hn hst) fun v σ H Q ⟨μ, h, env, r, env', R0, re, qr, e, k⟩ => ?_
  simp only [bindT, bnd_some] at e
  obtain ⟨d, h1, e1, e2⟩ := e
  obtain ⟨rfl, zd⟩ := rd_ok R0 qr e1
  cases d with
  | tup xs =>
    simp only [RdD, RepD] at zd
    obtain ⟨a, vs, rfl, q1, z1⟩ := zd
    refine ⟨a, vs, rfl, q1, ?_, μ, _, env, xs, env', R0, re, z1, e2, k⟩
    rw [← z1.length, hl]
    exact bindTs_len _ _ _ _ _ _ e2
  | _ => cases e2
/-! ### what a walk gives is bound -/
noncomputable def RepI (K : PySem.W.Frag) (μ : List Addr) (h : Sto) (H : Hp) : Ite → V → Prop
  | .r r, v => RepR K μ h H r v
  | .en i r, v => ∃ p w, v = .ref p ∧ H p = some (.tup [.int i, w]) ∧ RepR K μ h H r w
inductive tGI (K : PySem.W.Frag) (t : Tg) (v : V) (σ : St) (H : Hp) (Q : St → Hp → Prop) : Prop where
  | mk (μ : List Addr) (h : Sto) (env : IT.Env) (x : Ite) (env' : IT.Env) (R0 : Rep K μ h H) (re : RepE K μ h H env σ) (qx : RepI K μ h H x v) (e : bindI t x env h = some (env', h)) (k : ∀ σ', RepE K μ h H env' σ' → Q σ' H)
inductive tGe (K : PySem.W.Frag) (a b : Tg) (vs : List V) (σ : St) (H : Hp) (Q : St → Hp → Prop) : Prop where
  | mk (μ : List Addr) (h : Sto) (env : IT.Env) (i : Int) (r : R) (w : V) (env1 env' : IT.Env) (R0 : Rep K μ h H) (re : RepE K μ h H env σ) (ev : vs = [.int i, w]) (qr : RepR K μ h H r w) (e1 : bindT a (.d (.int i)) env h = some (env1, h)) (e2 : bindT b r env1 h = some (env', h)) (k : ∀ σ', RepE K μ h H env' σ' → Q σ' H)
theorem igs_e {ea eb : Expr} {a b : Tg} (ha : PG X ea (tG X.K a)) (hb : PG X eb (tG X.K b)) (h1 : (assignEach [ea, eb] X.env).map (·.2) = assign ea X.env :: (assignEach [eb] X.env).map (·.2)) (h2 : (assignEach [eb] X.env).map (·.2) = assign eb X.env :: (assignEach [] X.env).map (·.2)) : PGs X [ea, eb] (tGe X.K a b) := by
  refine PGs.imp (pgs_cons ha (pgs_cons hb pgs_nil h2) h1) fun vs σ H Q q0 => ?_
  obtain ⟨μ, h, env, i, r, w, env1, env', R0, re, rfl, qr, e1, e2, k⟩ := q0
  exact ⟨.int i, [w], rfl, μ, h, env, .d (.int i), env1, R0, re, by simp only [RepR, RepD], e1, fun σ1 re1 => ⟨w, [], rfl, μ, h, env1, r, env', R0, re1, qr, e2, fun σ2 re2 => ⟨rfl, k σ2 re2⟩⟩⟩
theorem bindI_sto {t : Tg} {x : Ite} {env env' : IT.Env} {h h' : Sto} (e : bindI t x env h = some (env', h')) : h' = h := by
  cases x with
  | r r => rw [bindI] at e; exact bindT_sto _ _ _ _ _ _ e
  | en i r =>
    match t, e with
    | .tup [a, b], e =>
      rw [bindI, bnd_some] at e
      obtain ⟨env1, h1, e1, e2⟩ := e
      have := bindT_sto _ _ _ _ _ _ e1
      subst this
      exact bindT_sto _ _ _ _ _ _ e2
    | .name _, e => exact noSome e
    | .tup [], e => exact noSome e
    | .tup [_], e => exact noSome e
    | .tup (_ :: _ :: _ :: _), e => exact noSome e
theorem igI_name {e : Expr} {i : Nat} (hg : PG X e (tG X.K (.name i))) : PG X e (tGI X.K (.name i)) := by
  refine PG.imp hg fun v σ H Q q0 => ?_
  obtain ⟨μ, h, env, x, env', R0, re, qx, eb, k⟩ := q0
  cases x with
  | r r => exact ⟨μ, h, env, r, env', R0, re, qx, by rw [bindI] at eb; exact eb, k⟩
  | en i r => exact noSome eb
theorem igI_tup {e : Expr} {ts : List Tg} (hn : ts.length ≠ 2) (hg : PG X e (tG X.K (.tup ts))) : PG X e (tGI X.K (.tup ts)) := by
  refine PG.imp hg fun v σ H Q q0 => ?_
  obtain ⟨μ, h, env, x, env', R0, re, qx, eb, k⟩ := q0
  cases x with
  | r r => exact ⟨μ, h, env, r, env', R0, re, qx, by rw [bindI] at eb; exact eb, k⟩
  | en i r =>
    match ts, hn, eb with
    | [], _, eb => exact noSome eb
    | [_], _, eb => exact noSome eb
    | [_, _], hn, _ => exact absurd rfl hn
    | _ :: _ :: _ :: _, _, eb => exact noSome eb
theorem igI_two {ea eb : Expr} {n : Nat} {pos : Pos} {a b : Tg} (hc : X.calm = true) (hs : PGs X [ea, eb] (tGs X.K [a, b])) (he : PGs X [ea, eb] (tGe X.K a b)) (hn : (assignEach [ea, eb] X.env).length = 2) (hst : (assignEach [ea, eb] X.env).findIdx? (·.1) = none) : PG X (.Tuple [ea, eb] n pos) (tGI X.K (.tup [a, b])) := by
  have both : PGs X [ea, eb] (fun vs σ H Q => tGs X.K [a, b] vs σ H Q ∨ tGe X.K a b vs σ H Q) := fun pins s σ H v u Q I r q => by
    rcases q with q | q
    · exact hs pins s σ H v u Q I r q
    · exact he pins s σ H v u Q I r q
  refine PG.imp (pg_tup (n := 2) hc both hn hst) fun v σ H Q q0 => ?_
  obtain ⟨μ, h, env, x, env', R0, re, qx, eb, k⟩ := q0
  cases x with
  | r r =>
    rw [bindI] at eb
    simp only [bindT, bnd_some] at eb
    obtain ⟨d, h1, e1, e2⟩ := eb
    obtain ⟨rfl, zd⟩ := rd_ok R0 qx e1
    cases d with
    | tup xs =>
      simp only [RdD, RepD] at zd
      obtain ⟨p, vs, rfl, q1, z1⟩ := zd
      refine ⟨p, vs, rfl, q1, ?_, .inl ⟨μ, _, env, xs, env', R0, re, z1, e2, k⟩⟩
      rw [← z1.length]
      exact bindTs_len _ _ _ _ _ _ e2
    | _ => cases e2
  | en i r =>
    obtain ⟨p, w, rfl, hp, qr⟩ := qx
    rw [bindI, bnd_some] at eb
    obtain ⟨env1, h1, e1, e2⟩ := eb
    have := bindT_sto _ _ _ _ _ _ e1
    subst this
    exact ⟨p, [.int i, w], rfl, SqT.of hp, rfl, .inr ⟨μ, _, env, i, r, w, env1, env', R0, re, rfl, qr, e1, e2, k⟩⟩
end
end IT

set_option linter.all false
set_option maxHeartbeats 4000000
set_option maxRecDepth 100000
namespace IT
open PySem PySem.Spec L2

/-! ### walking -/
structure Wlk (K : PySem.W.Frag) (J : L2.It) (w : Wk) (μ : List Addr) (h : Sto) (H : Hp) : Prop where
  go : ∀ μ1 h1 H1 (i : Nat) x, Stp μ h H μ1 h1 H1 → Rep K μ1 h1 H1 → stays w.l h h1 = true → w.xs[i]? = some x → J.go i H1 ∧ ∀ v H', J.yld i H1 v H' → Stp μ1 h1 H1 μ1 h1 H' ∧ Rep K μ1 h1 H' ∧ RepI K μ1 h1 H' x v
  stop : ∀ μ1 h1 H1, Stp μ h H μ1 h1 H1 → Rep K μ1 h1 H1 → stays w.l h h1 = true → J.stop w.xs.length H1
theorem dI_get {xs : List D} {i : Nat} {x : Ite} (e : (xs.map dI)[i]? = some x) : ∃ d, xs[i]? = some d ∧ x = .r (.d d) := by
  rw [List.getElem?_map, Option.map_eq_some_iff] at e
  obtain ⟨d, e1, e2⟩ := e
  exact ⟨d, e1, e2.symm⟩

section
variable {K : PySem.W.Frag} {μ : List Addr} {h : Sto} {H : Hp}
theorem wlk_list {a : Addr} {xs : List D} {vs : List V} (R0 : Rep K μ h H) (q : LsR K (Live μ h) H a vs) (z : RepDs K (Live μ h) H xs vs) : Wlk K (Itl K a) ⟨xs.map dI, none⟩ μ h H := by
  refine ⟨fun μ1 h1 H1 i x st R1 _ e => ?_, fun μ1 h1 H1 st R1 _ => ?_⟩
  · obtain ⟨d, ed, rfl⟩ := dI_get e
    have q1 := st.lsR q
    have z1 := RepDs.stp st R0 z
    obtain ⟨v, e1, z2⟩ := z1.get ed
    refine ⟨⟨vs, v, q1.sq, e1⟩, fun v' H' ⟨hH, hv⟩ => ?_⟩
    subst hH
    have := hv vs q1.sq
    rw [e1] at this
    cases this
    exact ⟨Stp.refl, R1, z2⟩
  · exact ⟨vs, (st.lsR q).sq, by rw [List.length_map, ← z.length]; exact Nat.le_refl _⟩
theorem wlk_tup {a : Addr} {xs : List D} {vs : List V} (R0 : Rep K μ h H) (q : SqT K H a vs) (z : RepDs K (Live μ h) H xs vs) : Wlk K (Itt K a) ⟨xs.map dI, none⟩ μ h H := by
  have qs : ∀ μ1 h1 H1, Stp μ h H μ1 h1 H1 → SqT K H1 a vs := fun μ1 h1 H1 st => q.imp (st.rdT R0 a vs) fun z => z
  refine ⟨fun μ1 h1 H1 i x st R1 _ e => ?_, fun μ1 h1 H1 st R1 _ => ?_⟩
  · obtain ⟨d, ed, rfl⟩ := dI_get e
    have q1 := qs _ _ _ st
    have z1 := RepDs.stp st R0 z
    obtain ⟨v, e1, z2⟩ := z1.get ed
    refine ⟨⟨vs, v, q1, e1⟩, fun v' H' ⟨hH, hv⟩ => ?_⟩
    subst hH
    have := hv vs q1
    rw [e1] at this
    cases this
    exact ⟨Stp.refl, R1, z2⟩
  · exact ⟨vs, qs _ _ _ st, by rw [List.length_map, ← z.length]; exact Nat.le_refl _⟩
theorem Ob.same_isL {o o' : Ob} (s : o.same o' = true) (il : o.isL = true) : o'.isL = true ∧ o'.items = o.items := by
  cases o with
  | lst xs => simp only [Ob.same, Bool.and_eq_true] at s; exact ⟨s.1, (D.sames_eq _ _ s.2).symm⟩
  | fro xs => simp only [Ob.same, Bool.and_eq_true] at s; exact ⟨s.1, (D.sames_eq _ _ s.2).symm⟩
  | ins _ _ => cases il
  | ols _ => cases il
theorem stays_eq {l : Nat} {h h1 : Sto} {o : Ob} (ho : h[l]? = some o) (s : stays (some l) h h1 = true) : ∃ o', h1[l]? = some o' ∧ o.same o' = true := by
  simp only [stays, ho] at s
  cases q : h1[l]? with
  | none => rw [q] at s; cases s
  | some o' => rw [q] at s; exact ⟨o', rfl, s⟩
theorem wlk_loc {a : Addr} {l : Nat} {o : Ob} (R0 : Rep K μ h H) (ea : μ[l]? = some a) (ho : h[l]? = some o) (il : o.isL = true) : Wlk K (Itl K a) ⟨o.items.map dI, some l⟩ μ h H := by
  refine ⟨fun μ1 h1 H1 i x st R1 sy e => ?_, fun μ1 h1 H1 st R1 sy => ?_⟩
  · obtain ⟨d, ed, rfl⟩ := dI_get e
    obtain ⟨o', ho', eo⟩ := stays_eq ho sy
    obtain ⟨il', eo⟩ := Ob.same_isL eo il
    obtain ⟨vs, q1, z1⟩ := R1.placeL (st.pre l a ea) ho' il'
    rw [eo] at z1
    obtain ⟨v, e1, z2⟩ := z1.get ed
    refine ⟨⟨vs, v, .inl (.inl q1), e1⟩, fun v' H' ⟨hH, hv⟩ => ?_⟩
    subst hH
    have := hv vs (.inl (.inl q1))
    rw [e1] at this
    cases this
    exact ⟨Stp.refl, R1, z2⟩
  · obtain ⟨o', ho', eo⟩ := stays_eq ho sy
    obtain ⟨il', eo⟩ := Ob.same_isL eo il
    obtain ⟨vs, q1, z1⟩ := R1.placeL (st.pre l a ea) ho' il'
    rw [eo] at z1
    exact ⟨vs, .inl (.inl q1), by rw [List.length_map, ← z1.length]; exact Nat.le_refl _⟩
theorem paired_get {α β : Type} {F : α → β → Prop} : ∀ {xs : List α} {ys : List β} {i : Nat} {x : α}, Paired F xs ys → xs[i]? = some x → ∃ y, ys[i]? = some y ∧ F x y
  | _, _, _, _, .nil, e => by simp at e
  | _, _, 0, _, .cons r _, e => by simp at e; subst e; exact ⟨_, rfl, r⟩
  | _, _, i + 1, x, .cons _ t, e => by
    obtain ⟨y, h1, h2⟩ := paired_get (i := i) (x := x) t (by simpa using e)
    exact ⟨y, by simpa using h1, h2⟩
/-- a list of instances -/
theorem wlk_ols {a : Addr} {l : Nat} {ls : List Nat} (R0 : Rep K μ h H) (ea : μ[l]? = some a) (ho : h[l]? = some (.ols ls)) : Wlk K (Itl K a) ⟨ls.map fun l => .r (.loc l), some l⟩ μ h H := by
  have at1 : ∀ μ1 h1 H1, Stp μ h H μ1 h1 H1 → Rep K μ1 h1 H1 → stays (some l) h h1 = true → ∃ vs, H1 a = some (.lst vs) ∧ Paired (fun (l : Nat) (v : V) => ∃ b, μ1[l]? = some b ∧ v = .ref b) ls vs := by
    intro μ1 h1 H1 st R1 sy
    obtain ⟨o', ho', eo⟩ := stays_eq ho sy
    cases o' with
    | ols ls' =>
      simp only [Ob.same] at eo
      have := eq_of_beq eo
      subst this
      exact R1.obj l a _ (st.pre l a ea) ho'
    | _ => cases eo
  refine ⟨fun μ1 h1 H1 i x st R1 sy e => ?_, fun μ1 h1 H1 st R1 sy => ?_⟩
  · rw [List.getElem?_map, Option.map_eq_some_iff] at e
    obtain ⟨k, e, rfl⟩ := e
    obtain ⟨vs, q1, z1⟩ := at1 _ _ _ st R1 sy
    obtain ⟨v, e1, b, eb, rfl⟩ := paired_get z1 e
    refine ⟨⟨vs, .ref b, .inl (.inl q1), e1⟩, fun v' H' ⟨hH, hv⟩ => ?_⟩
    subst hH
    have := hv vs (.inl (.inl q1))
    rw [e1] at this
    cases this
    exact ⟨Stp.refl, R1, b, eb, rfl⟩
  · obtain ⟨vs, q1, z1⟩ := at1 _ _ _ st R1 sy
    exact ⟨vs, .inl (.inl q1), by rw [List.length_map, ← z1.length]; exact Nat.le_refl _⟩
theorem intsD_get : ∀ (n : Nat) (lo : Int) (i : Nat) (x : D), (intsD lo n)[i]? = some x → i < n ∧ x = .int (lo + i)
  | 0, lo, i, x, e => by simp [intsD] at e
  | n + 1, lo, i, x, e => by
    cases i with
    | zero => simp [intsD] at e; exact ⟨by omega, by rw [← e]; simp⟩
    | succ i =>
      simp only [intsD, List.getElem?_cons_succ] at e
      obtain ⟨h1, h2⟩ := intsD_get n (lo + 1) i x e
      refine ⟨by omega, ?_⟩
      rw [h2]
      congr 1
      push_cast
      omega
theorem intsD_len : ∀ (n : Nat) (lo : Int), (intsD lo n).length = n
  | 0, _ => rfl
  | n + 1, lo => by simp [intsD, intsD_len n]
theorem wlk_rng (lo : Int) (n : Nat) : Wlk K (Itr lo n) ⟨(intsD lo n).map dI, none⟩ μ h H := by
  refine ⟨fun μ1 h1 H1 i x st R1 _ e => ?_, fun μ1 h1 H1 st R1 _ => ?_⟩
  · obtain ⟨d, ed, rfl⟩ := dI_get e
    obtain ⟨h1', rfl⟩ := intsD_get n lo i d ed
    exact ⟨h1', fun v H' ⟨hH, hv⟩ => by subst hH; exact ⟨Stp.refl, R1, by rw [hv]; simp only [RepI, RepR, RepD]⟩⟩
  · show n ≤ ((intsD lo n).map dI).length
    rw [List.length_map, intsD_len]
    exact Nat.le_refl _
end

inductive tI (K : PySem.W.Frag) (f : IT.Env → M Wk) (σ : St) (H : Hp) (R : It → Hp → Prop) : Prop where
  | mk (μ : List Addr) (h : Sto) (env : IT.Env) (R0 : Rep K μ h H) (re : RepE K μ h H env σ) (w : Wk) (h' : Sto) (e : f env h = some (w, h')) (k : ∀ μ' H' J, Stp μ h H μ' h' H' → Rep K μ' h' H' → Wlk K J w μ' h' H' → w.xs.length ≤ sizeLine → R J H')
section
variable {X : Cx} {tg : Expr}
theorem PI.imp {l : Expr} {t t' : TI} (h : PI X tg l t) (i : ∀ σ H R, t' σ H R → t σ H R) : PI X tg l t' := fun pins s σ H R I q => h pins s σ H R I (i σ H R q)
theorem pi_seq {l : Expr} {tl : TE} (hl : PE X l tl) : PI X tg l (fun σ H R => tl σ H fun x H1 => (∃ a xs, x = .ref a ∧ SqL X.K H1 a xs ∧ (xs.length ≤ sizeLine → R (Itl X.K a) H1)) ∨ (∃ a xs, x = .ref a ∧ SqT X.K H1 a xs ∧ (xs.length ≤ sizeLine → R (Itt X.K a) H1))) := by
  intro pins s σ H R I h
  refine thn (hl pins s σ H _ I h) fun v s1 ⟨x, H1, I1, r1, q1⟩ => ?_
  rcases q1 with ⟨a, xs, e, hq, q⟩ | ⟨a, xs, e, hq, q⟩
  · subst e
    cases r1
    obtain ⟨its, rv, p, hz⟩ := I1.list hq
    refine wpAny_pyIter_list p.isList ?_
    refine ⟨s1.heap.objs.size, [s1.heap.objs.size], _, _, H1, rfl, I1.kept (t' := s1.toks) fun b o e => Heap.get?_push_of_some _ e, turn_list a _, ⟨_, Heap.get?_push_size _ rfl, rfl, rfl⟩, fun b hb => ?_, q hz⟩
    have e : b = s1.heap.objs.size := by simpa using hb
    subst e
    exact I1.fpOk (Nat.le_refl _) (I1.hok.fresh (Nat.le_refl _))
  · subst e
    cases r1
    obtain ⟨its, rv, p, hz⟩ := I1.tuple hq
    refine wpAny_pyIter_tuple (show s1.heap.IsTuple a its.toArray from p) ?_
    refine ⟨s1.heap.objs.size, [s1.heap.objs.size], _, _, H1, rfl, I1.kept (t' := s1.toks) fun b o e => Heap.get?_push_of_some _ e, turn_tuple a _, ⟨_, Heap.get?_push_size _ rfl, rfl, rfl⟩, fun b hb => ?_, q hz⟩
    have e : b = s1.heap.objs.size := by simpa using hb
    subst e
    exact I1.fpOk (Nat.le_refl _) (I1.hok.fresh (Nat.le_refl _))
theorem olsOf_some {r : R} {o : Option (List Nat)} {h h' : Sto} (e : olsOf r h = some (o, h')) : h' = h ∧ match o with
    | some ls => ∃ l, r = .loc l ∧ h[l]? = some (.ols ls)
    | none => True := by
  cases r with
  | d x => simp only [olsOf, Option.some.injEq, Prod.mk.injEq] at e; obtain ⟨rfl, rfl⟩ := e; exact ⟨rfl, trivial⟩
  | loc l =>
    (delta olsOf at e; (try dsimp only at e))
    split at e
    · rename_i ls hl
      simp only [Option.some.injEq, Prod.mk.injEq] at e
      obtain ⟨rfl, rfl⟩ := e
      exact ⟨rfl, l, rfl, hl⟩
    · simp only [Option.some.injEq, Prod.mk.injEq] at e
      obtain ⟨rfl, rfl⟩ := e
      exact ⟨rfl, trivial⟩
/-- what a walk over the value may be -/
noncomputable def WkIs (K : PySem.W.Frag) (v : V) (w : Wk) (μ : List Addr) (h : Sto) (H : Hp) : Prop :=
  (∃ a vs, v = .ref a ∧ SqL K H a vs ∧ vs.length = w.xs.length ∧ Wlk K (Itl K a) w μ h H) ∨ (∃ a vs, v = .ref a ∧ SqT K H a vs ∧ vs.length = w.xs.length ∧ Wlk K (Itt K a) w μ h H)
theorem wk_ok {K : PySem.W.Frag} {μ : List Addr} {h h' : Sto} {H : Hp} {r : R} {v : V} {w : Wk} (R1 : Rep K μ h H) (q1 : RepR K μ h H r v) (e : wkAny r h = some (w, h')) : h' = h ∧ WkIs K v w μ h H := by
  (delta wkAny at e; simp only [bnd_some] at e)
  obtain ⟨o, h1, e1, e2⟩ := e
  obtain ⟨rfl, ho⟩ := olsOf_some e1
  cases o with
  | some ls =>
    obtain ⟨l, rfl, ho⟩ := ho
    obtain ⟨a, ea, rfl⟩ := q1
    simp only [ok_some] at e2
    obtain ⟨rfl, rfl⟩ := e2
    obtain ⟨vs, q2, z2⟩ := R1.obj l a _ ea ho
    exact ⟨rfl, .inl ⟨a, vs, rfl, .inl (.inl q2), by rw [List.length_map]; exact z2.length.symm, wlk_ols R1 ea ho⟩⟩
  | none =>
    simp only [bnd_some] at e2
    obtain ⟨d, h2, e3, e4⟩ := e2
    cases r with
    | loc l =>
      obtain ⟨a, ea, rfl⟩ := q1
      obtain ⟨o, ho, il, rfl, rfl⟩ := rd_loc e3
      obtain ⟨vs, q2, z2⟩ := R1.placeL ea ho il
      (delta wkOf items at e4; (try dsimp only at e4); simp only [ok_some] at e4)
      obtain ⟨rfl, rfl⟩ := e4
      exact ⟨rfl, .inl ⟨a, vs, rfl, .inl (.inl q2), by rw [List.length_map]; exact z2.length.symm, wlk_loc R1 ea ho il⟩⟩
    | d x =>
      simp only [rd, ok_some] at e3
      obtain ⟨rfl, rfl⟩ := e3
      cases x with
      | tup xs =>
        (delta wkOf items at e4; (try dsimp only at e4); simp only [ok_some] at e4)
        obtain ⟨rfl, rfl⟩ := e4
        simp only [RepR, RepD] at q1
        obtain ⟨a, vs, rfl, q2, z2⟩ := q1
        exact ⟨rfl, .inr ⟨a, vs, rfl, q2, by rw [List.length_map]; exact z2.length.symm, wlk_tup R1 q2 z2⟩⟩
      | lst xs =>
        (delta wkOf items at e4; (try dsimp only at e4); simp only [ok_some] at e4)
        obtain ⟨rfl, rfl⟩ := e4
        simp only [RepR, RepD] at q1
        obtain ⟨a, vs, rfl, q2, z2⟩ := q1
        exact ⟨rfl, .inl ⟨a, vs, rfl, q2.sq, by rw [List.length_map]; exact z2.length.symm, wlk_list R1 q2 z2⟩⟩
      | _ => exact noSome e4
theorem ii_seq {l : Expr} {f : IT.Env → M R} (hl : IE X l f) : PI X tg l (tI X.K fun σ => bnd (f σ) fun r => wkAny r) := by
  refine PI.imp (pi_seq hl) fun σ H R q0 => ?_
  obtain ⟨μ, h, env, R0, re, w, h', e, k⟩ := q0
  simp only [bnd_some] at e
  obtain ⟨r, h1, e1, e2⟩ := e
  refine ⟨μ, h, env, R0, re, r, h1, e1, fun μ1 H1 v s1 R1 q1 => ?_⟩
  obtain ⟨rfl, W⟩ := wk_ok R1 q1 e2
  rcases W with ⟨a, vs, rfl, q2, hl, W⟩ | ⟨a, vs, rfl, q2, hl, W⟩
  · exact .inl ⟨a, vs, rfl, q2, fun hz => k μ1 H1 _ s1 R1 W (by rw [← hl]; exact hz)⟩
  · exact .inr ⟨a, vs, rfl, q2, fun hz => k μ1 H1 _ s1 R1 W (by rw [← hl]; exact hz)⟩
theorem ii_rng {e : Expr} {p pos : Pos} {f : IT.Env → M R} (hg : Gl X "range") (hm : X.mg "range" = none) (ha : IE X e f) (hs : starEach [e] X.env = [(false, eval e X.env)]) : PI X tg (.Call (.Name "range" p) [e] [] pos) (tI X.K fun σ => bnd (f σ) fun r => rngOf r) := by
  refine PI.imp (pi_range1 hg hm (pa_cons ha pa_nil hs) hs) fun σ H R q0 => ?_
  obtain ⟨μ, h, env, R0, re, w, h', e, k⟩ := q0
  simp only [bnd_some] at e
  obtain ⟨r, h1, e1, e2⟩ := e
  refine ⟨μ, h, env, R0, re, r, h1, e1, fun μ1 H1 v s1 R1 q1 => ?_⟩
  (delta rngOf at e2; (try dsimp only at e2))
  split at e2
  · rename_i n
    split at e2
    · rename_i hb
      rw [Bool.and_eq_true] at hb
      obtain ⟨rfl, rfl⟩ := ok_some.mp e2
      simp only [RepR, RepD] at q1
      have h3 : n ≤ 16777216 := of_decide_eq_true hb.2
      exact ⟨n, by rw [q1], of_decide_eq_true hb.1, by omega, k μ1 H1 _ s1 R1 (wlk_rng 0 n.toNat) (by show ((intsD 0 n.toNat).map dI).length ≤ sizeLine; rw [List.length_map, intsD_len]; show n.toNat ≤ 16777216; omega)⟩
    · cases e2
  · cases e2
/-! ### statements -/
noncomputable def EndIs (K : PySem.W.Frag) (μ : List Addr) (h : Sto) (D : Ends) (fl : Fl) (σ : St) (H : Hp) : Prop := match fl with
  | .nx => D.nx σ H
  | .brk => D.bk σ H
  | .cnt => D.ct σ H
  | .ret r => ∀ v, RepR K μ h H r v → D.rt v H
inductive tS (K : PySem.W.Frag) (f : IT.Env → M (Fl × IT.Env)) (D : Ends) (σ : St) (H : Hp) : Prop where
  | mk (μ : List Addr) (h : Sto) (env : IT.Env) (R0 : Rep K μ h H) (re : RepE K μ h H env σ) (fl : Fl) (env' : IT.Env) (h' : Sto) (e : f env h = some ((fl, env'), h')) (k : ∀ μ' H' σ', Stp μ h H μ' h' H' → Rep K μ' h' H' → RepE K μ' h' H' env' σ' → EndIs K μ' h' D fl σ' H')
theorem PS.imp {st : Stmt} {t t' : TS} (h : PS X st t) (i : ∀ D σ H, t' D σ H → t D σ H) : PS X st t' := fun pins s σ H D I q => h pins s σ H D I (i D σ H q)
theorem PSs.imp {st : List Stmt} {t t' : TS} (h : PSs X st t) (i : ∀ D σ H, t' D σ H → t D σ H) : PSs X st t' := fun pins s σ H D I q => h pins s σ H D I (i D σ H q)
theorem is_ret {e : Expr} {pos : Pos} {f : IT.Env → M R} (he : IE X e f) : PS X (.Return (some e) pos) (tS X.K fun σ => bnd (f σ) fun r => ok (.ret r, σ)) := by
  refine PS.imp (ps_ret he) fun D σ H q0 => ?_
  obtain ⟨μ, h, env, R0, re, fl, env', h', e, k⟩ := q0
  simp only [bnd_some, ok_some, Prod.mk.injEq] at e
  obtain ⟨r, h1, e1, ⟨rfl, rfl⟩, rfl⟩ := e
  exact ⟨μ, h, env, R0, re, r, h1, e1, fun μ1 H1 v s1 R1 q1 => k μ1 H1 σ s1 R1 (re.stp s1 R0) v q1⟩
theorem is_exp {e : Expr} {pos : Pos} {f : IT.Env → M R} (he : IE X e f) (hs : swapsWith e none pos.line X.env = pure false) : PS X (.Expr e pos) (tS X.K fun σ => bnd (f σ) fun _ => ok (.nx, σ)) := by
  refine PS.imp (ps_expr he hs) fun D σ H q0 => ?_
  obtain ⟨μ, h, env, R0, re, fl, env', h', e, k⟩ := q0
  simp only [bnd_some, ok_some, Prod.mk.injEq] at e
  obtain ⟨r, h1, e1, ⟨rfl, rfl⟩, rfl⟩ := e
  exact ⟨μ, h, env, R0, re, r, h1, e1, fun μ1 H1 v s1 R1 q1 => k μ1 H1 σ s1 R1 (re.stp s1 R0)⟩
theorem is_asg {tge e : Expr} {pos : Pos} {t : Tg} {f : IT.Env → M R} (he : IE X e f) (hg : PG X tge (tG X.K t)) (hs : swapsWithSole [tge] e pos.line X.env = pure false) (hw : swappedStores [tge] e X.env = pure none) (h1 : (assignEach [tge] X.env).map (·.2) = [assign tge X.env]) :
    PS X (.Assign [tge] e pos) (tS X.K fun σ => bnd (f σ) fun r => bnd (bindT t r σ) fun σ' => ok (.nx, σ')) := by
  refine PS.imp (ps_asg he hg hs hw h1) fun D σ H q0 => ?_
  obtain ⟨μ, h, env, R0, re, fl, env', h', e, k⟩ := q0
  simp only [bnd_some, ok_some, Prod.mk.injEq] at e
  obtain ⟨r, h1, e1, env1, h2, e2, ⟨rfl, rfl⟩, rfl⟩ := e
  have := bindT_sto _ _ _ _ _ _ e2
  subst this
  exact ⟨μ, h, env, R0, re, r, _, e1, fun μ1 H1 v s1 R1 q1 => ⟨μ1, _, env, r, env1, R1, re.stp s1 R0, q1, e2, fun σ' re' => k μ1 H1 σ' s1 R1 re'⟩⟩
theorem is_if {c : Expr} {a b : List Stmt} {pos : Pos} {ft : IT.Env → M Bool} {fa fb : IT.Env → M (Fl × IT.Env)} (hc : IT' X c ft) (ha : PSs X a (tS X.K fa)) (hb : PSs X b (tS X.K fb)) :
    PS X (.If c a b pos) (tS X.K fun σ => bnd (ft σ) fun t => if t then fa σ else fb σ) := by
  refine PS.imp (ps_if hc ha hb) fun D σ H q0 => ?_
  obtain ⟨μ, h, env, R0, re, fl, env', h', e, k⟩ := q0
  simp only [bnd_some] at e
  obtain ⟨t, h1, e1, e2⟩ := e
  refine ⟨μ, h, env, R0, re, t, h1, e1, fun μ1 H1 v s1 R1 hv => ?_⟩
  subst hv
  cases t with
  | true =>
    simp only [if_true] at e2 ⊢
    exact ⟨μ1, h1, env, R1, re.stp s1 R0, fl, env', h', e2, fun μ2 H2 σ2 s2 R2 q2 => k μ2 H2 σ2 (s1.trans s2) R2 q2⟩
  | false =>
    simp only [Bool.false_eq_true, if_false] at e2 ⊢
    exact ⟨μ1, h1, env, R1, re.stp s1 R0, fl, env', h', e2, fun μ2 H2 σ2 s2 R2 q2 => k μ2 H2 σ2 (s1.trans s2) R2 q2⟩
theorem iss_nil : PSs X [] (tS X.K fun σ => ok (.nx, σ)) := by
  refine PSs.imp pss_nil fun D σ H q0 => ?_
  obtain ⟨μ, h, env, R0, re, fl, env', h', e, k⟩ := q0
  simp only [ok_some, Prod.mk.injEq] at e
  obtain ⟨⟨rfl, rfl⟩, rfl⟩ := e
  exact k μ H σ Stp.refl R0 re
theorem iss_cons {st : Stmt} {sts : List Stmt} {f g : IT.Env → M (Fl × IT.Env)} (h1 : PS X st (tS X.K f)) (h2 : PSs X sts (tS X.K g)) : PSs X (st :: sts) (tS X.K fun σ => bnd (f σ) fun p => match p.1 with | .nx => g p.2 | _ => ok p) := by
  refine PSs.imp (pss_cons h1 h2) fun D σ H q0 => ?_
  obtain ⟨μ, h, env, R0, re, fl, env', h', e, k⟩ := q0
  simp only [bnd_some] at e
  obtain ⟨⟨fl1, env1⟩, h1, e1, e2⟩ := e
  refine ⟨μ, h, env, R0, re, fl1, env1, h1, e1, fun μ1 H1 σ1 s1 R1 q1 => ?_⟩
  cases fl1 with
  | nx => exact ⟨μ1, h1, env1, R1, q1, fl, env', h', e2, fun μ2 H2 σ2 s2 R2 q2 => k μ2 H2 σ2 (s1.trans s2) R2 q2⟩
  | brk => simp only [ok_some, Prod.mk.injEq] at e2; obtain ⟨⟨rfl, rfl⟩, rfl⟩ := e2; exact k μ1 H1 σ1 s1 R1 q1
  | cnt => simp only [ok_some, Prod.mk.injEq] at e2; obtain ⟨⟨rfl, rfl⟩, rfl⟩ := e2; exact k μ1 H1 σ1 s1 R1 q1
  | ret r => simp only [ok_some, Prod.mk.injEq] at e2; obtain ⟨⟨rfl, rfl⟩, rfl⟩ := e2; exact k μ1 H1 σ1 s1 R1 q1
theorem Ob.same_refl {o : Ob} (n : ∀ c fs, o ≠ .ins c fs) : o.same o = true := by
  cases o with
  | lst xs => simp only [Ob.same, Ob.isL, Ob.items, Bool.true_and]; exact D.sames_refl _
  | fro xs => simp only [Ob.same, Ob.isL, Ob.items, Bool.true_and]; exact D.sames_refl _
  | ins c fs => exact absurd rfl (n c fs)
  | ols ls => simp only [Ob.same, beq_self_eq_true]
theorem Ob.same_trans {a b c : Ob} (h1 : a.same b = true) (h2 : b.same c = true) : a.same c = true := by
  cases a with
  | ins _ _ => cases h1
  | ols ls =>
    cases b with
    | ols ls' => simp only [Ob.same] at h1; have := eq_of_beq h1; subst this; exact h2
    | _ => cases h1
  | lst xs =>
    obtain ⟨i1, e1⟩ := Ob.same_isL h1 rfl
    obtain ⟨i2, e2⟩ := Ob.same_isL h2 i1
    simp only [Ob.same, i2, Bool.true_and]
    rw [e2, e1]
    exact D.sames_refl _
  | fro xs =>
    obtain ⟨i1, e1⟩ := Ob.same_isL h1 rfl
    obtain ⟨i2, e2⟩ := Ob.same_isL h2 i1
    simp only [Ob.same, i2, Bool.true_and]
    rw [e2, e1]
    exact D.sames_refl _
/-- the place that a walk leans on is a list -/
noncomputable def WlOk (w : Wk) (h : Sto) : Prop := ∀ i, w.l = some i → ∃ o, h[i]? = some o ∧ ∀ c fs, o ≠ .ins c fs
theorem stays_refl (l : Option Nat) (h : Sto) (hl : ∀ i, l = some i → ∃ o, h[i]? = some o ∧ ∀ c fs, o ≠ .ins c fs) : stays l h h = true := by
  cases l with
  | none => rfl
  | some i =>
    obtain ⟨o, ho, n⟩ := hl i rfl
    simp only [stays, ho]
    exact Ob.same_refl n
theorem stays_trans {l : Option Nat} {h h1 h2 : Sto} (a : stays l h h1 = true) (b : stays l h1 h2 = true) : stays l h h2 = true := by
  cases l with
  | none => rfl
  | some i =>
    simp only [stays] at a b ⊢
    cases e0 : h[i]? with
    | none => rw [e0] at a; cases a
    | some o0 =>
      cases e1 : h1[i]? with
      | none => rw [e0, e1] at a; cases a
      | some o1 =>
        cases e2 : h2[i]? with
        | none => rw [e1, e2] at b; cases b
        | some o2 =>
          rw [e0, e1] at a
          rw [e1, e2] at b
          exact Ob.same_trans a b
theorem is_for {iter : Expr} {body : List Stmt} {pos : Pos} {t : Tg} {fi : IT.Env → M Wk} {fb : IT.Env → M (Fl × IT.Env)} (hp : PassesOwn (model X.prog X.w) X.A X.env X.xe) (hc : X.calm = true) (hi : PI X tg iter (tI X.K fi)) (hg : PG X tg (tGI X.K t)) (hb : PSs X body (tS X.K fb))
    (hs : ∀ x, foldedSetIterable iter X.env x = pure x) (hwl : ∀ σ h w h', fi σ h = some (w, h') → WlOk w h') :
    PS X (.For tg iter body [] pos) (tS X.K fun σ => bnd (fi σ) fun w => loop w.l (fun x σ => bnd (bindI t x σ) fun σ' => fb σ') w.xs σ) := by
  refine PS.imp (ps_for hp hc hi hg hb hs) fun D σ H q0 => ?_
  obtain ⟨μ, h, env, R0, re, fl, env', h', e, k⟩ := q0
  simp only [bnd_some] at e
  obtain ⟨w, h1, e1, e2⟩ := e
  refine ⟨μ, h, env, R0, re, w, h1, e1, fun μ1 H1 J s1 R1 W1 _ => ?_⟩
  refine ⟨fun i m σ2 H2 => ∃ μ2 h2 env2, Stp μ1 h1 H1 μ2 h2 H2 ∧ stays w.l h1 h2 = true ∧ Rep X.K μ2 h2 H2 ∧ RepE X.K μ2 h2 H2 env2 σ2 ∧ i + m = w.xs.length ∧
      loop w.l (fun x σ => bnd (bindI t x σ) fun σ' => fb σ') (w.xs.drop i) env2 h2 = some ((fl, env'), h'), ⟨w.xs.length, μ1, h1, env, Stp.refl, stays_refl _ _ (hwl _ _ _ _ e1), R1, re.stp s1 R0, by omega, by rw [List.drop_zero]; exact e2⟩, ?_⟩
  rintro i m σ2 H2 ⟨μ2, h2, env2, s2, sy2, R2, re2, him, el⟩
  cases hx : w.xs[i]? with
  | none =>
    have hi' : w.xs.length ≤ i := by simpa using hx
    have hi2 : i = w.xs.length := by omega
    subst hi2
    rw [List.drop_of_length_le (Nat.le_refl _)] at el
    simp only [loop, ok_some, Prod.mk.injEq] at el
    obtain ⟨⟨rfl, rfl⟩, rfl⟩ := el
    exact .inl ⟨W1.stop μ2 h2 H2 s2 R2 sy2, k μ2 H2 σ2 (s1.trans s2) R2 re2⟩
  | some x =>
    have hil : i < w.xs.length := (List.getElem?_eq_some_iff.mp hx).1
    have hdrop : w.xs.drop i = x :: w.xs.drop (i + 1) := by
      rw [List.drop_eq_getElem_cons hil]
      have := (List.getElem?_eq_some_iff.mp hx).2
      rw [this]
    rw [hdrop] at el
    simp only [loop] at el
    obtain ⟨go, yld⟩ := W1.go μ2 h2 H2 i x s2 R2 sy2 hx
    cases ef : bnd (bindI t x env2) (fun σ' => fb σ') h2 with
    | none => rw [ef] at el; cases el
    | some p =>
      obtain ⟨⟨fl3, env3⟩, h3⟩ := p
      rw [ef] at el
      simp only [bnd_some] at ef
      obtain ⟨env4, h4, e4, e5⟩ := ef
      have := bindI_sto e4
      subst this
      refine .inr ⟨go, fun σ' H' => ∃ m', m' < m ∧ ∃ μ5 h5 env5, Stp μ1 h1 H1 μ5 h5 H' ∧ stays w.l h1 h5 = true ∧ Rep X.K μ5 h5 H' ∧ RepE X.K μ5 h5 H' env5 σ' ∧ (i + 1) + m' = w.xs.length ∧
        loop w.l (fun x σ => bnd (bindI t x σ) fun σ' => fb σ') (w.xs.drop (i + 1)) env5 h5 = some ((fl, env'), h'), fun σ' H' hN => hN, fun v H' hy => ?_⟩
      obtain ⟨sy, Ry, zx⟩ := yld v H' hy
      refine ⟨μ2, _, env2, x, env4, Ry, re2.stp sy R2, zx, e4, fun σ4 re4 => ⟨μ2, _, env4, Ry, re4, fl3, env3, h3, e5, fun μ5 H5 σ5 s5' R5 re5 => ?_⟩⟩
      have s5 := sy.trans s5'
      cases fl3 with
      | nx =>
        simp only at el
        split at el
        · rename_i sy5
          exact ⟨m - 1, by omega, μ5, h3, env3, s2.trans s5, stays_trans sy2 sy5, R5, re5, by omega, el⟩
        · cases el
      | cnt =>
        simp only at el
        split at el
        · rename_i sy5
          exact ⟨m - 1, by omega, μ5, h3, env3, s2.trans s5, stays_trans sy2 sy5, R5, re5, by omega, el⟩
        · cases el
      | brk =>
        simp only [Option.some.injEq, Prod.mk.injEq] at el
        obtain ⟨⟨rfl, rfl⟩, rfl⟩ := el
        exact k μ5 H5 σ5 ((s1.trans s2).trans s5) R5 re5
      | ret r =>
        simp only [Option.some.injEq, Prod.mk.injEq] at el
        obtain ⟨⟨rfl, rfl⟩, rfl⟩ := el
        exact k μ5 H5 σ5 ((s1.trans s2).trans s5) R5 re5
end
end IT

set_option linter.all false
set_option maxHeartbeats 4000000
set_option maxRecDepth 100000
/-! A list comprehension: its block has a frame of its own. -/
namespace PySem
section
variable {prog : Program} {w : World} {A : Around} {R : Result → Shared → Prop} {s : Shared}
theorem it_compLoop {elt target iter : Expr} {ifs : List Expr} {scope : Scope} {pos : Pos} {it acc : Value} {env : Env} (I : Nat → Shared → Prop)
    (turn : ∀ n s, I n s → wpAny (model prog w) A (pyNext it) (fun r s₁ => match r with
      | none => R (.ok .next) s₁
      | some v => wpAny (model prog w) A (letOwnedTupleGo target it v) (fun _ s₁' => wpAny (model prog w) A (assign target env v) (fun _ s₂ =>
          wpAny (model prog w) A (forIn ifs true fun c r => if r = true then do let ok ← isTrue c env (eval c env); pure (ForInStep.yield ok) else pure (ForInStep.yield r)) (fun ok s₃ =>
            if ok = true then wpAny (model prog w) A (eval elt env) (fun x s₄ =>
              wpAny (model prog w) A (call (.builtin "list.append") [acc, x]) (fun _ s₅ => ∃ m, m < n ∧ I m s₅) (fun _ _ => False) s₄) (fun _ _ => False) s₃
            else ∃ m, m < n ∧ I m s₃) (fun _ _ => False) s₂) (fun _ _ => False) s₁') (fun _ _ => False) s₁) (fun _ _ => False) s)
    (n : Nat) (h : I n s) :
    codeAny (model prog w) A (.compLoop (.ListComp elt [⟨target, iter, ifs, 0⟩] scope pos) 0 it acc env) R s := by
  refine codeAny_loop rfl I (fun n s hI => ?_) n h
  show wpAny _ A ((compTurn (.ListComp elt [⟨target, iter, ifs, 0⟩] scope pos) 0 it acc env).onRaise (fun x => do noteFrame x env; theTreesLotGoes x)) _ _ s
  refine wpAny_noted ?_
  rw [compTurn_list]
  refine wpAny_bind (wpAny_standAt (wpAny_bind (wpAny_mono (turn n s hI) (fun r s₁ h₁ => ?_) fun _ _ h' => h'.elim)))
  cases r with
  | none => exact wpAny_pure h₁
  | some v =>
    refine wpAny_bind (wpAny_mono h₁ (fun _ s₁' h₁' => ?_) fun _ _ h' => h'.elim)
    refine wpAny_bind (wpAny_mono h₁' (fun _ s₂ h₂ => wpAny_bind (wpAny_mono h₂ (fun ok s₃ h₃ => ?_) fun _ _ h' => h'.elim)) fun _ _ h' => h'.elim)
    cases ok with
    | false => exact wpAny_pure ⟨rfl, h₃⟩
    | true =>
      exact wpAny_bind (wpAny_bind (wpAny_mono h₃ (fun x s₄ h₄ => wpAny_bind (wpAny_mono h₄ (fun _ s₅ h₅ => wpAny_pure (wpAny_pure ⟨rfl, h₅⟩)) fun _ _ h' => h'.elim)) fun _ _ h' => h'.elim))
end
theorem it_closureFor {scope : Scope} {env : Env} (h : ∀ x ∈ scope.names, x.2 = .free → ∃ c, env.cells.lookup x.1 = some c) :
    ∃ cl, closureFor scope env = pure cl ∧ (∀ x c, cl.lookup x = some c → env.cells.lookup x = some c) ∧ ∀ x ∈ scope.names, x.2 = .free → ∃ c, cl.lookup x.1 = some c := by
  unfold closureFor
  have gen : ∀ (l : List (Str × NameKind)) (cs : List (Str × Addr)), (∀ x ∈ l, x.2 = .free → ∃ c, env.cells.lookup x.1 = some c) → (∀ x c, cs.lookup x = some c → env.cells.lookup x = some c) →
      ∃ cl, (forIn l cs fun (x : Str × NameKind) (r : List (Str × Addr)) => (if x.2 == .free then do let c ← cellOf env x.1; pure (ForInStep.yield ((x.1, c) :: r)) else pure (ForInStep.yield r) : Sem (ForInStep (List (Str × Addr))))) = pure cl ∧
        (∀ x c, cl.lookup x = some c → env.cells.lookup x = some c) ∧ (∀ x c, cs.lookup x = some c → ∃ c', cl.lookup x = some c') ∧ ∀ x ∈ l, x.2 = .free → ∃ c, cl.lookup x.1 = some c := by
    intro l
    induction l with
    | nil => intro cs _ h2; exact ⟨cs, rfl, h2, fun x c e => ⟨c, e⟩, fun x hx => absurd hx (by simp)⟩
    | cons y l ih =>
      intro cs h1 h2
      by_cases hy : y.2 = .free
      · obtain ⟨c, hc⟩ := h1 y (by simp) hy
        have hcell : cellOf env y.1 = pure c := by unfold cellOf; rw [hc]
        obtain ⟨cl, e, a1, a2, a3⟩ := ih ((y.1, c) :: cs) (fun x hx => h1 x (by simp [hx])) (fun x c' e => by
          rw [List.lookup_cons] at e
          split at e
          · rename_i hb
            cases e
            rw [eq_of_beq hb]
            exact hc
          · exact h2 x c' e)
        refine ⟨cl, ?_, a1, fun x c' e' => ?_, fun x hx hf => ?_⟩
        · rw [List.forIn_cons, if_pos (by rw [hy]; rfl), hcell]
          exact e
        · by_cases hb : (x == y.1) = true
          · exact a2 x c (by rw [List.lookup_cons, hb])
          · exact a2 x c' (by rw [List.lookup_cons]; simp only [Bool.not_eq_true] at hb; rw [hb]; exact e')
        · rcases List.mem_cons.mp hx with rfl | hx
          · exact a2 x.1 c (by rw [List.lookup_cons]; simp)
          · exact a3 x hx hf
      · obtain ⟨cl, e, a1, a2, a3⟩ := ih cs (fun x hx => h1 x (by simp [hx])) h2
        refine ⟨cl, ?_, a1, a2, fun x hx hf => ?_⟩
        · rw [List.forIn_cons, if_neg (by intro z; exact hy (eq_of_beq z))]
          exact e
        · rcases List.mem_cons.mp hx with rfl | hx
          · exact absurd hf hy
          · exact a3 x hx hf
  obtain ⟨cl, e, a1, _, a3⟩ := gen scope.names [] h (fun x c e => by simp at e)
  refine ⟨cl, ?_, a1, a3⟩
  show (forIn scope.names ([] : List (Str × Addr)) (fun (x : Str × NameKind) (r : List (Str × Addr)) => (if x.2 == .free then do let c ← cellOf env x.1; pure (ForInStep.yield ((x.1, c) :: r)) else pure (ForInStep.yield r) : Sem (ForInStep (List (Str × Addr))))) >>= fun cs => pure cs) = pure cl
  rw [e]
  rfl
end PySem

set_option linter.all false
set_option maxHeartbeats 4000000
set_option maxRecDepth 100000
namespace IT
open PySem PySem.Spec L2

noncomputable def clrS : List Nat → St → St
  | [], σ => σ
  | i :: r, σ => clrS r (σ.set i none)
theorem clrS_len : ∀ (own : List Nat) (σ : St), (clrS own σ).length = σ.length
  | [], _ => rfl
  | i :: r, σ => by simp [clrS, clrS_len r]
theorem clrS_sub : ∀ (own : List Nat) (σ : St) (i : Nat) (v : V), (clrS own σ)[i]? = some (some v) → σ[i]? = some (some v) ∧ i ∉ own
  | [], σ, i, v, e => ⟨e, by simp⟩
  | j :: r, σ, i, v, e => by
    obtain ⟨e1, n1⟩ := clrS_sub r (σ.set j none) i v e
    by_cases hij : i = j
    · subst hij
      rw [List.getElem?_set] at e1
      simp only [if_true] at e1
      split at e1 <;> cases e1
    · rw [List.getElem?_set_ne (Ne.symm hij)] at e1
      exact ⟨e1, by simp [hij, n1]⟩

noncomputable def blk (X : Cx) (N' : List Str) (s₂ : Shared) (H₂ : Hp) (cenv : PySem.Env) (fp : List Addr) (pins : List (Addr × Obj)) : Cx :=
  { X with N := N', s₀ := s₂, H₀ := H₂, env := cenv, outer := X.stack, ex := fp, fn := fun _ => false, pn := X.pn ++ pins }

/-- the tests of a comprehension -/
noncomputable def PTs (X : Cx) (ifs : List Expr) (t : TT) : Prop :=
  ∀ (pins : List (Addr × Obj)) (s : Shared) (σ : St) (H : Hp) (Q : Bool → Hp → Prop), Inv X pins σ H s → t σ H Q →
    wpAny (model X.prog X.w) X.A (forIn ifs true fun c r => if r = true then do let ok ← isTrue c X.env (eval c X.env); pure (ForInStep.yield ok) else pure (ForInStep.yield r)) (TP X pins σ Q) X.xe s
theorem pts_nil {X : Cx} : PTs X [] (fun _ H Q => Q true H) := fun pins s σ H Q I q => wpAny_tests_nil ⟨H, I, q⟩
theorem pts_one {X : Cx} {c : Expr} {t : TT} (h : PT X c t) : PTs X [c] t := fun pins s σ H Q I q => wpAny_tests_one (h pins s σ H Q I q)

noncomputable def tComp (wi : TI) (own : List Nat) (g : TG) (tc : TT) (te : TE) : TE := fun σ H Q => wi σ H fun J H1 => ∃ W : Nat → Nat → List V → Hp → Prop, (∃ m, W 0 m [] H1) ∧ ∀ i m vs H, W i m vs H →
  (J.stop i H ∧ vs.length ≤ sizeLine ∧ ∀ a, H a = none → Q (.ref a) (upd H a (.lst vs))) ∨
  (J.go i H ∧ vs.length < sizeLine ∧ ∀ x H', J.yld i H x H' → g x (clrS own σ) H' fun σ2 H2 => tc σ2 H2 fun b H3 => if b = true then te σ2 H3 fun v H4 => ∃ m', m' < m ∧ W (i + 1) m' (vs ++ [v]) H4 else ∃ m', m' < m ∧ W (i + 1) m' vs H3)

section
variable {X : Cx}
theorem vis_cl {scope : Scope} {cl : List (Str × Addr)} (hcell : ∀ y ∈ scope.names, y.2 ≠ .cell) (hcl2 : ∀ x ∈ scope.names, x.2 = .free → ∃ c, cl.lookup x.1 = some c) : ∀ x, Vis (relabel scope X.env) x → (relabel scope X.env).names.lookup x ≠ some .local → ∃ c, cl.lookup x = some c := by
  intro x hv hnl
  have : ∀ (l : List (Str × NameKind)), (∀ y ∈ l, y.2 ≠ .cell) → (∀ y ∈ l, y.2 = .free → ∃ c, cl.lookup y.1 = some c) → ∀ k, (k = .cell ∨ k = .free) →
      (l.map fun (n, k) => if (k == NameKind.free && X.env.scope.kind == .function && X.env.kindOf n == some .cell) then (n, NameKind.cell) else (n, k)).lookup x = some k → ∃ c, cl.lookup x = some c := by
    intro l
    induction l with
    | nil => intro _ _ k _ e; simp at e
    | cons y l ih =>
      intro h1 h2 k hkk e
      obtain ⟨n, kd⟩ := y
      rw [List.map_cons] at e
      by_cases hb : (kd == NameKind.free && X.env.scope.kind == .function && X.env.kindOf n == some .cell) = true
      · simp only [hb, if_true] at e
        rw [List.lookup_cons] at e
        split at e
        · rename_i hx
          rw [eq_of_beq hx]
          refine h2 (n, kd) (by simp) ?_
          rw [Bool.and_eq_true, Bool.and_eq_true] at hb
          exact eq_of_beq hb.1.1
        · exact ih (fun y hy => h1 y (by simp [hy])) (fun y hy => h2 y (by simp [hy])) k hkk e
      · simp only [hb] at e
        rw [List.lookup_cons] at e
        split at e
        · rename_i hx
          have e' : kd = k := by simpa using e
          subst e'
          rw [eq_of_beq hx]
          rcases hkk with z | z
          · exact absurd z (h1 (n, kd) (by simp))
          · exact h2 (n, kd) (by simp) z
        · exact ih (fun y hy => h1 y (by simp [hy])) (fun y hy => h2 y (by simp [hy])) k hkk e
  rcases hv with z | z | z
  · exact absurd z hnl
  · exact this scope.names hcell hcl2 .cell (.inl rfl) z
  · exact this scope.names hcell hcl2 .free (.inr rfl) z
/-- the block's context is good, and the state is as it wants at the start -/
theorem blk_inv {N' : List Str} {own : List Nat} {scope : Scope} {cl : List (Str × Addr)} {pins : List (Addr × Obj)} {σ : St} {H₂ : Hp} {s₂ : Shared} {fp : List Addr} {h₄ : Heap} {tk : Nat}
    (hkind : scope.kind = .function) (hcell : ∀ y ∈ scope.names, y.2 ≠ .cell)
    (hN : ∀ (i : Nat) (x : Str), N'[i]? = some x → Vis (relabel scope X.env) x → i ∈ own ∨ (X.N[i]? = some x ∧ (X.env.kindOf x = some .cell ∨ X.env.kindOf x = some .free) ∧ (relabel scope X.env).names.lookup x ≠ some .local))
    (hlen : N'.length = X.N.length) (hcl1 : ∀ x c, cl.lookup x = some c → X.env.cells.lookup x = some c) (hcl2 : ∀ x ∈ scope.names, x.2 = .free → ∃ c, cl.lookup x.1 = some c)
    (I : Inv X pins σ H₂ s₂) (hf : ∀ b ∈ fp, FpOk X pins H₂ b) (hex : ∀ b ∈ fp, b < s₂.heap.objs.size)
    (hk : ∀ b o, s₂.heap.get? b = some o → h₄.get? b = some o) (hns : ∃ m, h₄.Ns (s₂.heap.objs.size + 1) m) (hacc : h₄.get? s₂.heap.objs.size = some { cls := .type "list", data := .seq #[] }) :
    Inv (blk X N' s₂ H₂ (compEnvC scope cl (s₂.heap.objs.size + 1) X.env) fp pins) [(s₂.heap.objs.size, { cls := .type "list", data := .seq #[] })] (clrS own σ) H₂ { s₂ with heap := h₄, toks := tk } := by
  have fsub : ∀ b ∈ frs X.stack, b = X.env.locals ∨ b ∈ X.fs := fun b hb => List.mem_cons.mp (I.stkSub b hb)
  have fresh : ∀ b, s₂.heap.objs.size ≤ b → H₂ b = none := fun b hb => I.hok.fresh hb
  have flt : ∀ b ∈ frs X.stack, b < s₂.heap.objs.size := fun b hb => by
    obtain ⟨_, o, ho, _⟩ := I.stack.mem hb
    exact Heap.lt_size ho
  have vis_free := vis_cl (X := X) hcell hcl2
  refine ⟨⟨I.ok.mod, ?_, I.ok.glob, I.ok.blt, Nat.le_succ _, fun x y c e1 e2 => I.ok.inj x y c (hcl1 x c e1) (hcl1 y c e2), fun x hx => ?_, fun x c e => absurd (show false = true from e) Bool.false_ne_true, I.ok.hd, I.ok.frames, .inl rfl, fun b hb => ⟨?_, fun x c e => ?_⟩, I.bs, Nat.le_trans I.ok.bsz I.sz, fun b o e hb => ?_, fun b hb hb2 => ?_, I.stack, I.stkFree⟩,
    rfl, I.bare, Un.kept hk, ?_, fun x c e => ?_, fresh _ (Nat.le_succ _), fun x c e => I.freeC x c (hcl1 x c e), fun p hp => ?_, I.hok.kept hk, ?_⟩
  · exact hkind
  · rcases hx with z | z
    · exact vis_free x (.inr (.inl z)) (by
        have z' : (relabel scope X.env).names.lookup x = some .cell := z
        rw [z']; decide)
    · exact vis_free x (.inr (.inr z)) (by
        have z' : (relabel scope X.env).names.lookup x = some .free := z
        rw [z']; decide)
  · exact Nat.ne_of_lt (Nat.lt_succ_of_lt (hex b hb))
  · exact (hf b hb).2.2.2.2.1 x c (hcl1 x c e)
  · rcases (hf b hb).2.2.2.1 with z | z
    · exact I.ok.noex b o e z
    · have h1 : b < X.base.objs.size := Heap.lt_size e
      have h2 := I.ok.bsz
      exact absurd (Nat.lt_of_lt_of_le h1 (Nat.le_trans h2 z)) (Nat.lt_irrefl _)
  · rcases fsub b hb2 with z | z
    · exact (hf b hb).2.1 z
    · exact (hf b hb).2.2.1 z
  · obtain ⟨m, hm⟩ := hns
    obtain ⟨mX, _, hl⟩ := I.loc
    refine ⟨m, hm, fun i x v e1 e2 e3 => ?_⟩
    obtain ⟨e2', ni⟩ := clrS_sub own σ i v e2
    rcases hN i x e1 e3 with z | ⟨z, zk, nl⟩
    · exact absurd z ni
    · have vx : Vis X.env.scope x := by
        rcases zk with q | q
        · exact .inr (.inl q)
        · exact .inr (.inr q)
      obtain ⟨u, ru, lk⟩ := hl i x v z e2' vx
      refine ⟨u, ru, ?_⟩
      rcases lk with ⟨q, _⟩ | ⟨_, c, ec, hcv⟩
      · rcases zk with q' | q'
        · rw [q] at q'; cases q'
        · rw [q] at q'; cases q'
      · obtain ⟨c', ec'⟩ := vis_free x e3 nl
        have := hcl1 x c' ec'
        rw [ec] at this
        cases this
        refine .inr ⟨?_, c, ec', hcv.keeps hk⟩
        rcases e3 with q | q | q
        · exact absurd q nl
        · exact .inl q
        · exact .inr q
  · obtain ⟨v, q⟩ := I.cell x c (hcl1 x c e)
    exact ⟨v, q.keeps hk⟩
  · rcases List.mem_append.mp hp with z | z
    · obtain ⟨e1, e2, e3, e4, e5⟩ := I.pin p z
      refine ⟨hk _ _ e1, e2, Nat.ne_of_lt (Nat.lt_succ_of_lt (Heap.lt_size e1)), fun hb => ?_, e5⟩
      rcases fsub p.1 hb with q | q
      · exact e3 q
      · exact e4 q
    · have ep : p = (s₂.heap.objs.size, ({ cls := .type "list", data := .seq #[] } : Obj)) := by simpa using z
      subst ep
      exact ⟨hacc, fresh _ (Nat.le_refl _), Nat.ne_of_lt (Nat.lt_succ_self _), fun hb => absurd (flt _ hb) (Nat.lt_irrefl _), fun v q => by cases q⟩
  · show (clrS own σ).length = N'.length
    rw [clrS_len, hlen]
    exact I.len

/-- the next turn: the outer names are as they were -/
theorem blk_again {N' : List Str} {own : List Nat} {scope : Scope} {cl : List (Str × Addr)} {C : Addr} {pins pl : List (Addr × Obj)} {σ σ' : St} {H₂ H' : Hp} {s₂ s' : Shared} {fp : List Addr}
    (hcell : ∀ y ∈ scope.names, y.2 ≠ .cell)
    (hN : ∀ (i : Nat) (x : Str), N'[i]? = some x → Vis (relabel scope X.env) x → i ∈ own ∨ (X.N[i]? = some x ∧ (X.env.kindOf x = some .cell ∨ X.env.kindOf x = some .free) ∧ (relabel scope X.env).names.lookup x ≠ some .local))
    (hlen : N'.length = X.N.length) (hcl1 : ∀ x c, cl.lookup x = some c → X.env.cells.lookup x = some c) (hcl2 : ∀ x ∈ scope.names, x.2 = .free → ∃ c, cl.lookup x.1 = some c)
    (I : Inv X pins σ H₂ s₂) (hf : ∀ b ∈ fp, FpOk X pins H₂ b) (J : Inv (blk X N' s₂ H₂ (compEnvC scope cl C X.env) fp pins) pl σ' H' s') : Inv (blk X N' s₂ H₂ (compEnvC scope cl C X.env) fp pins) pl (clrS own σ) H' s' := by
  refine ⟨J.ok, J.os, J.bare, J.base, ?_, J.cell, J.free, J.freeC, J.pin, J.hok, ?_⟩
  · obtain ⟨m, hm, _⟩ := J.loc
    obtain ⟨mX, _, hl⟩ := I.loc
    refine ⟨m, hm, fun i x v e1 e2 e3 => ?_⟩
    obtain ⟨e2', ni⟩ := clrS_sub own σ i v e2
    rcases hN i x e1 e3 with z | ⟨z, zk, nl⟩
    · exact absurd z ni
    · have vx : Vis X.env.scope x := by
        rcases zk with q | q
        · exact .inr (.inl q)
        · exact .inr (.inr q)
      obtain ⟨u, ru, lk⟩ := hl i x v z e2' vx
      refine ⟨u, ru, ?_⟩
      rcases lk with ⟨q, _⟩ | ⟨_, c, ec, o, ho, hd⟩
      · rcases zk with q' | q'
        · rw [q] at q'; cases q'
        · rw [q] at q'; cases q'
      · obtain ⟨c', ec'⟩ := vis_cl (X := X) hcell hcl2 x e3 nl
        have := hcl1 x c' ec'
        rw [ec] at this
        cases this
        have hcv : s'.heap.IsCell c (some u) := by
          obtain ⟨sl, q⟩ := J.base.any ho (I.freeC x c ec) fun hb => (hf c hb).2.2.2.2.1 x c ec rfl
          exact ⟨_, q, hd⟩
        refine .inr ⟨?_, c, ec', hcv⟩
        rcases e3 with q | q | q
        · exact absurd q nl
        · exact .inl q
        · exact .inr q
  · show (clrS own σ).length = N'.length
    rw [clrS_len, hlen]
    exact I.len
/-- behind the block: the outer frame as it was, the new list tracked -/
theorem blk_back {N' : List Str} {cenv : PySem.Env} {pins pl : List (Addr × Obj)} {σ σ' : St} {H₂ H' : Hp} {s₂ s' : Shared} {fp : List Addr} {acc : Addr} {its : List Value} {n : Nat} {vs : List V}
    (I : Inv X pins σ H₂ s₂) (hf : ∀ b ∈ fp, FpOk X pins H₂ b) (J : Inv (blk X N' s₂ H₂ cenv fp pins) pl σ' H' s') (hacc : s₂.heap.objs.size ≤ acc) (hn : H' acc = none)
    (ho : s'.heap.get? acc = some { cls := .type "list", data := .seq its.toArray n }) (r : Vals vs its) (hz : vs.length ≤ sizeLine) : Inv X pins σ (upd H' acc (.lst vs)) s' := by
  have lt : ∀ b o, s₂.heap.get? b = some o → b ≠ acc := fun b o e z => absurd (Nat.lt_of_lt_of_le (Heap.lt_size e) (by rw [z]; exact hacc)) (Nat.lt_irrefl _)
  refine I.call' (ch := fp) J.os ⟨J.base.keep, J.base.slot, fun b o e n hx => ?_, J.base.there, fun b xs e => ?_, fun b o u e => ?_, fun b ps e => ?_⟩ (fun b u e => ?_) J.bare (fun b hb => ?_)
  · rw [upd_ne (lt b o e)]
    exact J.base.free b o e n hx
  · have := J.base.tups b xs e
    rw [upd_ne (ne_of_none this hn)]
    exact this
  · have := J.base.frzs b o u e
    rw [upd_ne (ne_of_none this hn)]
    exact this
  · obtain ⟨more, this⟩ := J.base.tbls b ps e
    refine ⟨more, ?_⟩
    rw [upd_ne (ne_of_none this hn)]
    exact this
  · by_cases hb : b = acc
    · subst hb
      rw [upd_same] at e
      cases e
      exact ⟨hz, its, n, r, ho⟩
    · rw [upd_ne hb] at e
      exact (J.hok b u e).stay (fun c o _ q => q) (fun c q => by rw [upd_ne (ne_of_none q hn)]; exact q) fun c xs q => by rw [upd_ne (ne_of_none q hn)]; exact q
  · obtain ⟨_, h1, _, h3, h4, h5⟩ := hf b hb
    exact ⟨h3, h1, h4, h5⟩
end
end IT

set_option linter.all false
set_option maxHeartbeats 4000000
set_option maxRecDepth 100000
namespace IT
open PySem PySem.Spec L2
section
variable {X : Cx}
/-- the block's frame, which is let go -/
structure Gone (X : Cx) (pins : List (Addr × Obj)) (H : Hp) (C : Addr) (s : Shared) : Prop where
  ns : ∃ m, s.heap.Ns C m
  free : H C = none
  loc : C ≠ X.env.locals
  fs : C ∉ X.fs
  new : X.s₀.heap.objs.size ≤ C
  cel : ∀ x c, X.env.cells.lookup x = some c → c ≠ C
  pin : ∀ p ∈ X.pn ++ pins, p.1 ≠ C
theorem comp_core {elt iter tg : Expr} {ifs : List Expr} {scope : Scope} {pos : Pos} {N' : List Str} {own : List Nat} {wi : TI} {g : TG} {tc : TT} {te : TE} {pins : List (Addr × Obj)} {s : Shared} {σ : St} {H : Hp} {Q : VK}
    {cl : List (Str × Addr)} {RR : Value → Addr → Result → Shared → Prop}
    (hx : X.xe = fun _ _ => False) (hc : X.calm = true) (hkind : scope.kind = .function) (hcell : ∀ y ∈ scope.names, y.2 ≠ .cell)
    (hN : ∀ (i : Nat) (x : Str), N'[i]? = some x → Vis (relabel scope X.env) x → i ∈ own ∨ (X.N[i]? = some x ∧ (X.env.kindOf x = some .cell ∨ X.env.kindOf x = some .free) ∧ (relabel scope X.env).names.lookup x ≠ some .local))
    (hlen : N'.length = X.N.length) (hcl1 : ∀ x c, cl.lookup x = some c → X.env.cells.lookup x = some c) (hcl2 : ∀ x ∈ scope.names, x.2 = .free → ∃ c, cl.lookup x.1 = some c)
    (hi : PI X tg iter wi)
    (hB : ∀ s₂ H₂ C fp, PG (blk X N' s₂ H₂ (compEnvC scope cl C X.env) fp pins) tg g ∧ PTs (blk X N' s₂ H₂ (compEnvC scope cl C X.env) fp pins) ifs tc ∧ PE (blk X N' s₂ H₂ (compEnvC scope cl C X.env) fp pins) elt te)
    (I : Inv X pins σ H s) (q : tComp wi own g tc te σ H Q)
    (hRR : ∀ a C s' H', Inv X pins σ H' s' → Q (.ref a) H' → Gone X pins H' C s' → RR (.ref a) C (.ok .next) s') :
    wpAny (model X.prog X.w) X.A (eval iter X.env) (fun x s₁ => wpAny (model X.prog X.w) X.A (pyIter x) (fun it s₂ => wpAny (model X.prog X.w) X.A (newList []) (fun acc s₃ =>
      wpAny (model X.prog X.w) X.A (newFunctionEnv scope X.env.globals cl [] X.env.qual none .none (some X.env)) (fun cenv s₄ =>
        codeAny (model X.prog X.w) X.A (.compStart (.ListComp elt [⟨tg, iter, ifs, 0⟩] scope pos) 0 it acc { cenv with scope := relabel scope X.env }) (RR acc cenv.locals) s₄) X.xe s₃) X.xe s₂) X.xe s₁) X.xe s := by
  refine thn (hi pins s σ H _ I q) fun v s1 h1 => thn h1 fun itv s2 h2 => ?_
  obtain ⟨it, fp, tn, J, H2, e, I2, T, st2, f2, W, ⟨m0, w0⟩, turn⟩ := h2
  subst e
  refine wpAny_newObj_type (wpAny_newFunctionEnv hcell (by intro y hy; simp at hy) (fun h₁ hns₁ hsb₁ => ?_) hkind)
  dsimp only at hns₁ hsb₁ ⊢
  generalize hG : s2.heap.push { cls := .type "list", dict := none, data := .seq ([] : List Value).toArray } = G at hns₁ hsb₁ ⊢
  have hGs : G.objs.size = s2.heap.objs.size + 1 := by rw [← hG, Heap.size_push]
  rw [hGs] at hns₁ hsb₁ ⊢
  have hold : ∀ b o, s2.heap.get? b = some o → h₁.get? b = some o := fun b o e => hsb₁.extBut b o (Nat.ne_of_lt (Nat.lt_succ_of_lt (Heap.lt_size e))) (Heap.get?_push_of_some _ (hG ▸ Heap.get?_push_of_some _ e))
  have hacc : h₁.get? s2.heap.objs.size = some { cls := .type "list", data := .seq #[] } := hsb₁.extBut _ _ (Nat.ne_of_lt (Nat.lt_succ_self _)) (Heap.get?_push_of_some _ (hG ▸ Heap.get?_push_size _ rfl))
  have hex : ∀ b ∈ fp, b < s2.heap.objs.size := fun b hb => by
    obtain ⟨o, ho, _⟩ := T.obj _ _ st2 b hb
    exact Heap.lt_size ho
  have J0 := blk_inv (X := X) (own := own) (tk := s2.toks + ([] : List (Str × Value)).length) hkind hcell hN hlen hcl1 hcl2 I2 f2 hex hold ⟨_, hns₁⟩ hacc
  have st4 : tn 0 h₁ := T.keep _ _ _ st2 fun b hb o e => hold b o e
  have frame : ∀ b ∈ frs X.stack, b ≠ X.env.locals → b ∈ X.fs := fun b hb hne => by
    rcases List.mem_cons.mp (I2.stkSub b hb) with z | z
    · exact absurd z hne
    · exact z
  -- the iterator's objects, in the block
  have stat : ∀ {H' : Hp} {pl : List (Addr × Obj)}, (∀ b ∈ fp, H' b = none) → (∀ p ∈ pl, ∀ b ∈ fp, p.1 ≠ b) → ∀ b ∈ fp, FpOk (blk X N' s2 H2 (compEnvC scope cl (s2.heap.objs.size + 1) X.env) fp pins) pl H' b := by
    intro H' pl hn hp b hb
    obtain ⟨g0, g1, g2, g3, g4, g5⟩ := f2 b hb
    refine ⟨hn b hb, Nat.ne_of_lt (Nat.lt_succ_of_lt (hex b hb)), fun hs => ?_, .inl hb, fun x c e => g4 x c (hcl1 x c e), fun p hpp => ?_⟩
    · exact g2 (frame b hs g1)
    · rcases List.mem_append.mp hpp with z | z
      · exact g5 p z
      · exact hp p z b hb
  have accne : ∀ b ∈ fp, s2.heap.objs.size ≠ b := fun b hb z => absurd (hex b hb) (by rw [← z]; exact Nat.lt_irrefl _)
  have loop : codeAny (model X.prog X.w) X.A (.compLoop (.ListComp elt [⟨tg, iter, ifs, 0⟩] scope pos) 0 (.ref it) (.ref s2.heap.objs.size) (compEnvC scope cl (s2.heap.objs.size + 1) X.env)) (RR (.ref s2.heap.objs.size) (s2.heap.objs.size + 1))
      { s2 with heap := h₁, toks := s2.toks + ([] : List (Str × Value)).length } := by
    refine it_compLoop (fun n s' => ∃ (i : Nat) (vs : List V) (H' : Hp) (its : List Value) (nn : Nat), Inv (blk X N' s2 H2 (compEnvC scope cl (s2.heap.objs.size + 1) X.env) fp pins) [(s2.heap.objs.size, { cls := .type "list", data := .seq its.toArray nn })] (clrS own σ) H' s' ∧ tn i s'.heap ∧
        (∀ b ∈ fp, H' b = none) ∧ Vals vs its ∧ W i n vs H') ?_ m0 ⟨0, [], H2, [], 0, J0, st4, fun b hb => (f2 b hb).1, .nil, w0⟩
    rintro n s3 ⟨i, vs, H3, its, nn, J3, st3, fr3, rv, w3⟩
    have pne : ∀ p ∈ [(s2.heap.objs.size, ({ cls := .type "list", data := .seq its.toArray nn } : Obj))], ∀ b ∈ fp, p.1 ≠ b := by
      intro p hp b hb
      have ep : p = (s2.heap.objs.size, ({ cls := .type "list", data := .seq its.toArray nn } : Obj)) := by simpa using hp
      rw [ep]
      exact accne b hb
    rcases turn i n vs H3 w3 with ⟨stop, hz, qn⟩ | ⟨go, hz, step⟩
    · refine wpAny_mono (T.done (blk X N' s2 H2 (compEnvC scope cl (s2.heap.objs.size + 1) X.env) fp pins) rfl rfl rfl hc i _ s3 _ H3 (fun _ _ => False) J3 (stat fr3 pne) st3 stop) (fun r s4 ⟨hr, I4⟩ => ?_) fun _ _ z => z
      subst hr
      obtain ⟨ea, na, _, _, _⟩ := I4.pin (s2.heap.objs.size, _) (List.mem_append_right _ (List.mem_singleton.mpr rfl))
      have I5 := blk_back (X := X) I2 f2 I4 (Nat.le_refl _) na ea rv hz
      obtain ⟨m, hm, _⟩ := I4.loc
      refine hRR _ _ s4 _ I5 (qn _ na) ⟨⟨m, hm⟩, ?_, ?_, fun hb => ?_, ?_, fun x c e => ?_, fun p hp => ?_⟩
      · rw [upd_ne (Nat.ne_of_gt (Nat.lt_succ_self _))]
        exact I4.free
      · exact Nat.ne_of_gt (Nat.lt_succ_of_lt I2.lt)
      · exact I2.nofs (Nat.le_succ _) hb
      · exact Nat.le_trans I2.sz (Nat.le_succ _)
      · obtain ⟨v, z⟩ := I2.cell x c e
        exact Nat.ne_of_lt (Nat.lt_succ_of_lt z.lt)
      · exact Nat.ne_of_lt (Nat.lt_succ_of_lt (Heap.lt_size (I2.pin p hp).1))
    · refine wpAny_mono (T.item (blk X N' s2 H2 (compEnvC scope cl (s2.heap.objs.size + 1) X.env) fp pins) rfl rfl rfl hc i _ s3 _ H3 (fun _ _ => False) J3 (stat fr3 pne) st3 go) (fun r s4 ⟨u, hr, h4⟩ => ?_) fun _ _ z => z
      subst hr
      refine wpAny_mono h4 (fun _ s5 ⟨x, H5, I5, r5, y5, st5, fr5⟩ => ?_) fun _ _ z => z
      have I5' := I5.pinned (stat fr5 pne) (T.obj _ _ st5)
      obtain ⟨hg, ht, he⟩ := hB s2 H2 (s2.heap.objs.size + 1) fp
      have nx : ∀ {e : Value} {s : Shared}, (blk X N' s2 H2 (compEnvC scope cl (s2.heap.objs.size + 1) X.env) fp pins).xe e s → False := fun z => by
        have z' : X.xe _ _ := z
        rw [hx] at z'
        exact z'
      refine wpAny_mono (hg _ s5 _ H5 x u _ I5' r5 (step x H5 y5)) (fun _ s6 ⟨σ6, H6, I6, q6⟩ => ?_) fun _ _ z => nx z
      refine wpAny_mono (ht _ s6 σ6 H6 _ I6 q6) (fun ok s7 ⟨H7, I7, q7⟩ => ?_) fun _ _ z => nx z
      have keepIt : ∀ {σ8 : St} {H8 : Hp} {s8 : Shared}, Inv (blk X N' s2 H2 (compEnvC scope cl (s2.heap.objs.size + 1) X.env) fp pins) ([(s2.heap.objs.size, ({ cls := .type "list", data := .seq its.toArray nn } : Obj))] ++ pinsAt fp s5.heap) σ8 H8 s8 →
          tn (i + 1) s8.heap ∧ ∀ b ∈ fp, H8 b = none := fun {σ8 H8 s8} I8 => by
        refine ⟨T.keep _ _ _ st5 fun b hb o e => (I8.pin (b, o) (List.mem_append_right _ (List.mem_append_right _ (mem_pinsAt hb e)))).1, fun b hb => ?_⟩
        obtain ⟨o, e, d⟩ := T.obj _ _ st5 b hb
        exact (I8.pin (b, o) (List.mem_append_right _ (List.mem_append_right _ (mem_pinsAt hb e)))).2.1
      cases ok with
      | false =>
        simp only [Bool.false_eq_true, if_false] at q7 ⊢
        obtain ⟨m', hm', w7⟩ := q7
        obtain ⟨k1, k2⟩ := keepIt I7
        exact ⟨m', hm', i + 1, vs, H7, its, nn, blk_again hcell hN hlen hcl1 hcl2 I2 f2 I7.unpinned, k1, k2, rv, w7⟩
      | true =>
        simp only [if_true] at q7 ⊢
        refine wpAny_mono (he _ s7 σ6 H7 _ I7 q7) (fun y s8 ⟨vy, H8, I8, r8, m', hm', w8⟩ => ?_) fun _ _ z => nx z
        obtain ⟨k1, k2⟩ := keepIt I8
        obtain ⟨ea, na, nl, nf, nd⟩ := I8.unpinned.pin (s2.heap.objs.size, _) (List.mem_append_right _ (List.mem_singleton.mpr rfl))
        have hl := rv.length
        refine call_meets F.slot_list_append ⟨_, ea, rfl⟩ F.entry_list_append (F.args_list_append_2 _ _) (PySem.list_append s2.heap.objs.size its.toArray nn y (by rw [List.size_toArray]; omega)) ⟨ea, ?_⟩
        have J8 := blk_again hcell hN hlen hcl1 hcl2 I2 f2 (I8.unpinned)
        have J8' : Inv (blk X N' s2 H2 (compEnvC scope cl (s2.heap.objs.size + 1) X.env) fp pins) [] (clrS own σ) H8 s8 := J8.pins_of fun p hp => absurd hp (by simp)
        have up := Heap.get?_update_self (Obj.mapSeq fun x_1 => x_1.push y) ea rfl
        obtain ⟨n', en⟩ : ∃ n', Obj.mapSeq (fun x_1 => x_1.push y) ({ cls := .type "list", data := .seq its.toArray nn } : Obj) = { cls := .type "list", data := .seq (its.toArray.push y) n' } := ⟨_, rfl⟩
        have J9 := J8'.turned (t' := s8.toks) (it := s2.heap.objs.size) (h' := s8.heap.update s2.heap.objs.size (Obj.mapSeq fun x_1 => x_1.push y)) (fun b o hb e => (Heap.get?_update_other _ _ (Ne.symm hb)).trans e) na nl (.inr (Nat.le_refl _))
          (fun x c e => by
            obtain ⟨v, z⟩ := I2.cell x c (hcl1 x c e)
            exact Nat.ne_of_lt z.lt)
          (fun p hp => by
            have hp' : p ∈ X.pn ++ pins := by simpa [blk] using hp
            exact Nat.ne_of_lt (Heap.lt_size (I2.pin p hp').1))
        refine ⟨m', hm', i + 1, vs ++ [vy], H8, its ++ [y], n', ?_, T.keep _ _ _ k1 fun b hb o e => (Heap.get?_update_other _ _ (accne b hb)).trans e, k2, rv.append (.cons r8 .nil), w8⟩
        refine J9.pins_of fun p hp => ?_
        have ep : p = (s2.heap.objs.size, ({ cls := .type "list", data := .seq (its ++ [y]).toArray n' } : Obj)) := by simpa using hp
        subst ep
        refine ⟨?_, na, nl, nf, fun v q => by cases q⟩
        show (s8.heap.update s2.heap.objs.size (Obj.mapSeq fun x_1 => x_1.push y)).get? s2.heap.objs.size = _
        rw [up]
        show some (Obj.mapSeq (fun x_1 => x_1.push y) ({ cls := .type "list", data := .seq its.toArray nn } : Obj)) = _
        rw [en]
        simp
  exact codeAny_compStart_list loop (T.self _ 0 _ _ _ st4 loop)
end
end IT

set_option linter.all false
set_option maxHeartbeats 4000000
set_option maxRecDepth 100000
namespace IT
open PySem PySem.Spec L2
section
variable {X : Cx}
/-- what is asked of a comprehension's scope and of its slots -/
structure CompOk (X : Cx) (scope : Scope) (N' : List Str) (own : List Nat) : Prop where
  kind : scope.kind = .function
  cell : ∀ y ∈ scope.names, y.2 ≠ .cell
  names : ∀ x ∈ scope.names, x.2 = .local → scope.names.lookup x.1 = some .local
  free : ∀ x ∈ scope.names, x.2 = .free → X.env.kindOf x.1 = some .cell ∨ X.env.kindOf x.1 = some .free
  slots : ∀ (i : Nat) (x : Str), N'[i]? = some x → Vis (relabel scope X.env) x → i ∈ own ∨ (X.N[i]? = some x ∧ (X.env.kindOf x = some .cell ∨ X.env.kindOf x = some .free) ∧ (relabel scope X.env).names.lookup x ≠ some .local)
  len : N'.length = X.N.length
theorem Gone.turned {pins : List (Addr × Obj)} {σ : St} {H : Hp} {C : Addr} {s : Shared} {h' : Heap} (g : Gone X pins H C s) (I : Inv X pins σ H s) (sb : Heap.SameBut C s.heap h') : Inv X pins σ H { s with heap := h' } :=
  I.turned (t' := s.toks) (fun b o hb e => (sb.2 b hb).trans e) g.free g.loc (.inr g.new) g.cel g.pin
theorem pe_comp {elt iter tg : Expr} {ifs : List Expr} {scope : Scope} {pos : Pos} {N' : List Str} {own : List Nat} {wi : TI} {g : TG} {tc : TT} {te : TE}
    (hx : X.xe = fun _ _ => False) (hc : X.calm = true) (K : CompOk X scope N' own) (hi : PI X tg iter wi)
    (hB : ∀ cl pins s₂ H₂ C fp, PG (blk X N' s₂ H₂ (compEnvC scope cl C X.env) fp pins) tg g ∧ PTs (blk X N' s₂ H₂ (compEnvC scope cl C X.env) fp pins) ifs tc ∧ PE (blk X N' s₂ H₂ (compEnvC scope cl C X.env) fp pins) elt te)
    (hs : ∀ x, foldedSetIterable iter X.env x = pure x) : PE X (.ListComp elt [⟨tg, iter, ifs, 0⟩] scope pos) (tComp wi own g tc te) := by
  intro pins s σ H Q I q
  obtain ⟨cl, hclos, hcl1, hcl2⟩ := it_closureFor (scope := scope) (env := X.env) (fun x hx hf => I.ok.has x.1 (K.free x hx hf))
  rw [eval_ListComp]
  refine wpAny_comprehension_free (use := none) rfl hs hclos K.kind K.names (comp_core hx hc K.kind K.cell K.slots K.len hcl1 hcl2 hi (hB cl pins) I q ?_)
  intro a C s' H' I' q' gn
  obtain ⟨m, hm⟩ := gn.ns
  exact ⟨m, hm, fun h' sb => ⟨.ref a, H', gn.turned I' sb, rfl, q'⟩⟩
theorem ps_asg_comp {elt iter tg : Expr} {ifs : List Expr} {scope : Scope} {pos spos py : Pos} {y : Str} {iy : Nat} {N' : List Str} {own : List Nat} {wi : TI} {g : TG} {tc : TT} {te : TE}
    (hx : X.xe = fun _ _ => False) (hc : X.calm = true) (K : CompOk X scope N' own) (hi : PI X tg iter wi)
    (hB : ∀ cl pins s₂ H₂ C fp, PG (blk X N' s₂ H₂ (compEnvC scope cl C X.env) fp pins) tg g ∧ PTs (blk X N' s₂ H₂ (compEnvC scope cl C X.env) fp pins) ifs tc ∧ PE (blk X N' s₂ H₂ (compEnvC scope cl C X.env) fp pins) elt te)
    (hs : ∀ x, foldedSetIterable iter X.env x = pure x) (hsw : swapsWith (.ListComp elt [⟨tg, iter, ifs, 0⟩] scope pos) (some (.Name y py)) spos.line X.env = pure true)
    (hg : PG X (.Name y py) (gName iy)) : PS X (.Assign [.Name y py] (.ListComp elt [⟨tg, iter, ifs, 0⟩] scope pos) spos) (tAsg (tComp wi own g tc te) (gName iy)) := by
  intro pins s σ H D I q
  obtain ⟨cl, hclos, hcl1, hcl2⟩ := it_closureFor (scope := scope) (env := X.env) (fun x hx hf => I.ok.has x.1 (K.free x hx hf))
  rw [exec_Assign_Name_used _ _ _ _ hsw]
  refine wpAny_bind (wpAny_standAt (wpAny_bind ?_))
  show wpAny _ X.A (do let _ ← comprehension (.ListComp elt [⟨tg, iter, ifs, 0⟩] scope pos) scope X.env _ (newList []) false (eval iter X.env) (some (assign (.Name y py) X.env))) _ _ s
  refine wpAny_bind (wpAny_mono (wpAny_comprehension_free (use := some (assign (.Name y py) X.env)) (Q := fun _ s' => SP X pins D .next s') rfl hs hclos K.kind K.names
    (comp_core hx hc K.kind K.cell K.slots K.len hcl1 hcl2 hi (hB cl pins) I q ?_)) (fun _ s' hq => wpAny_pure (wpAny_pure hq)) fun _ _ e => e)
  intro a C s' H' I' q' gn
  obtain ⟨m, o, es, ep, ho, hd, hr⟩ := id gn.ns
  have Ip : Inv X (pins ++ [(C, o)]) σ H' s' := I'.pins_of fun p hp => (List.mem_append.mp hp).elim (fun z => I'.pin p (List.mem_append_right _ z)) fun z => by
    have ep : p = (C, o) := by simpa using z
    subst ep
    exact ⟨ho, gn.free, gn.loc, gn.fs, fun v z => by rw [hd] at z; cases z⟩
  refine thn (hg _ s' σ H' (.ref a) (.ref a) _ Ip rfl q') fun _ s'' ⟨σ2, H2, I2, q2⟩ => ?_
  obtain ⟨e1, e2, _, _, _⟩ := I2.pin (C, o) (List.mem_append_right _ (List.mem_append_right _ (List.mem_singleton.mpr rfl)))
  have gn2 : Gone X pins H2 C s'' := ⟨⟨m, o, es, ep, e1, hd, hr⟩, e2, gn.loc, gn.fs, gn.new, gn.cel, gn.pin⟩
  exact ⟨m, ⟨o, es, ep, e1, hd, hr⟩, fun h' sb => ⟨σ2, H2, gn2.turned I2.unpinned sb, q2⟩⟩

/-! ### as the small language says -/
theorem RepE.clr {K : PySem.W.Frag} {μ : List Addr} {h : Sto} {H : Hp} : ∀ (own : List Nat) {env : IT.Env} {σ : St}, RepE K μ h H env σ → RepE K μ h H (clr own env) (clrS own σ)
  | [], env, σ, q => q
  | i :: r, env, σ, q => by
    refine RepE.clr r ⟨by simp [q.len], fun j rr e => ?_⟩
    by_cases hj : j = i
    · subst hj
      rw [List.getElem?_set] at e
      simp only [if_true] at e
      split at e <;> cases e
    · rw [List.getElem?_set_ne (Ne.symm hj)] at e ⊢
      exact q.get j rr e
/-- how what is kept of a turn stands -/
structure ElK {α : Type} (K : PySem.W.Frag) (kp : R → M α) (Rel : List Addr → Sto → Hp → α → V → Prop) : Prop where
  kp : ∀ {μ h H r v d h'}, Rep K μ h H → RepR K μ h H r v → kp r h = some (d, h') → Stp μ h H μ h' H ∧ Rep K μ h' H ∧ Rel μ h' H d v
  stp : ∀ {μ h H μ' h' H' d v}, Stp μ h H μ' h' H' → Rep K μ h H → Rel μ h H d v → Rel μ' h' H' d v
noncomputable def fTurnG {α : Type} (kp : R → M α) (t : Tg) (ft : IT.Env → M Bool) (fe : IT.Env → M R) (σ : IT.Env) (x : Ite) : M (Option α) :=
  bnd (bindI t x (clr t.slots σ)) fun σ' => bnd (ft σ') fun b => if b then bnd (fe σ') fun r => bnd (kp r) fun d => ok (some d) else ok none
noncomputable def tLsG {α : Type} (K : PySem.W.Frag) (Rel : List Addr → Sto → Hp → α → V → Prop) (f : IT.Env → M (List α)) : TE := fun σ H Q => ∃ μ h env, Rep K μ h H ∧ RepE K μ h H env σ ∧ ∃ xs h', f env h = some (xs, h') ∧
  ∀ μ' H' a vs, Stp μ h H μ' h' H' → Rep K μ' h' H' → Paired (Rel μ' h' H') xs vs → H' a = none → Q (.ref a) (upd H' a (.lst vs))
theorem paired_app {α β : Type} {F : α → β → Prop} : ∀ {xs xs' : List α} {ys ys' : List β}, Paired F xs ys → Paired F xs' ys' → Paired F (xs ++ xs') (ys ++ ys')
  | _, _, _, _, .nil, q => q
  | _, _, _, _, .cons r t, q => .cons r (paired_app t q)
theorem comp_readG {α : Type} {K : PySem.W.Frag} {kp : R → M α} {Rel : List Addr → Sto → Hp → α → V → Prop} (el : ElK K kp Rel) {t : Tg} {fi : IT.Env → M Wk} {ft : IT.Env → M Bool} {fe : IT.Env → M R} (hwl : ∀ σ h w h', fi σ h = some (w, h') → WlOk w h') {σ : St} {H : Hp} {Q : VK}
    (q : tLsG K Rel (fun σ => bnd (fi σ) fun w => turns w.l (fTurnG kp t ft fe σ) w.xs) σ H Q) : tComp (tI K fi) t.slots (tGI K t) (tTv K ft) (tE K fe) σ H Q := by
  obtain ⟨μ, h, env, R0, re, zs, h', e, k⟩ := q
  simp only [bnd_some] at e
  obtain ⟨w, h1, e1, e2⟩ := e
  refine ⟨μ, h, env, R0, re, w, h1, e1, fun μ1 H1 J s1 R1 W1 hz => ?_⟩
  refine ⟨fun i m vs H2 => ∃ μ2 h2 ys rest, Stp μ1 h1 H1 μ2 h2 H2 ∧ stays w.l h1 h2 = true ∧ Rep K μ2 h2 H2 ∧ Paired (Rel μ2 h2 H2) ys vs ∧ i + m = w.xs.length ∧ ys.length ≤ i ∧
      turns w.l (fTurnG kp t ft fe env) (w.xs.drop i) h2 = some (rest, h') ∧ ys ++ rest = zs, ⟨w.xs.length, μ1, h1, [], zs, Stp.refl, stays_refl _ _ (hwl _ _ _ _ e1), R1, .nil, by omega, Nat.le_refl _, by rw [List.drop_zero]; exact e2, rfl⟩, ?_⟩
  rintro i m vs H2 ⟨μ2, h2, ys, rest, s2, sy2, R2, zy, him, hyl, el', eys⟩
  have hl := zy.length
  cases hxx : w.xs[i]? with
  | none =>
    have hi' : w.xs.length ≤ i := by simpa using hxx
    have hi2 : i = w.xs.length := by omega
    subst hi2
    rw [List.drop_of_length_le (Nat.le_refl _)] at el'
    simp only [turns, ok_some] at el'
    obtain ⟨rfl, rfl⟩ := el'
    rw [List.append_nil] at eys
    subst eys
    exact .inl ⟨W1.stop μ2 h2 H2 s2 R2 sy2, by omega, fun a ha => k μ2 H2 a vs (s1.trans s2) R2 zy ha⟩
  | some x =>
    have hil : i < w.xs.length := (List.getElem?_eq_some_iff.mp hxx).1
    have hdrop : w.xs.drop i = x :: w.xs.drop (i + 1) := by
      rw [List.drop_eq_getElem_cons hil]
      have := (List.getElem?_eq_some_iff.mp hxx).2
      rw [this]
    rw [hdrop] at el'
    simp only [turns] at el'
    obtain ⟨go, yld⟩ := W1.go μ2 h2 H2 i x s2 R2 sy2 hxx
    cases ef : fTurnG kp t ft fe env x h2 with
    | none => rw [ef] at el'; cases el'
    | some p =>
      obtain ⟨od, h3⟩ := p
      rw [ef] at el'
      simp only [fTurnG, bnd_some] at ef
      obtain ⟨env4, h4, e4, tt, h5, e5, e6⟩ := ef
      have := bindI_sto e4
      subst this
      refine .inr ⟨go, by omega, fun v H' hy => ?_⟩
      obtain ⟨sY, RY, zx⟩ := yld v H' hy
      refine ⟨μ2, _, clr t.slots env, x, env4, RY, RepE.clr _ ((re.stp (s1.trans s2) R0).stp sY R2), zx, e4, fun σ4 re4 => ⟨μ2, _, env4, RY, re4, tt, h5, e5, fun μ5 H5 b s5' R5 hb => ?_⟩⟩
      have s5 := sY.trans s5'
      subst hb
      simp only at el'
      split at el'
      · rename_i sy3
        simp only [bnd_some, ok_some] at el'
        obtain ⟨rest', h6, el'', er, rfl⟩ := el'
        cases tt with
        | false =>
          simp only [Bool.false_eq_true, if_false, ok_some] at e6 ⊢
          obtain ⟨rfl, rfl⟩ := e6
          refine ⟨m - 1, by omega, μ5, _, ys, rest', s2.trans s5, stays_trans sy2 sy3, R5, L2.Paired.mapP zy fun d v z => el.stp s5 R2 z, by omega, by omega, el'', ?_⟩
          rw [← eys, ← er]
        | true =>
          simp only [if_true, bnd_some, ok_some] at e6 ⊢
          obtain ⟨r, h7, e7, d, h8, e8, rfl, rfl⟩ := e6
          refine ⟨μ5, h5, env4, R5, re4.stp s5' RY, r, h7, e7, fun μ6 H6 v6 s6 R6 q6 => ?_⟩
          obtain ⟨s7, R7, zd⟩ := el.kp R6 q6 e8
          refine ⟨m - 1, by omega, μ6, _, ys ++ [d], rest', ((s2.trans s5).trans s6).trans s7, stays_trans sy2 sy3, R7, paired_app (L2.Paired.mapP zy fun d v z => el.stp s7 R6 (el.stp s6 R5 (el.stp s5 R2 z))) (.cons zd .nil), by omega, by simp; omega, el'', ?_⟩
          rw [← eys, ← er]
          simp
      · cases el'
/-- data -/
theorem el_fz (K : PySem.W.Frag) : ElK K fz (fun μ h H d v => RepD K (Live μ h) H d v) := ⟨fz_ok, fun s r q => RepD.stp s r q⟩
/-- instances -/
theorem el_pl (K : PySem.W.Frag) : ElK K placeOf (fun μ h H l v => ∃ b, μ[l]? = some b ∧ v = .ref b) := by
  refine ⟨fun {μ h H r v d h'} R0 q e => ?_, fun s r ⟨b, e1, e2⟩ => ⟨b, s.pre _ _ e1, e2⟩⟩
  cases r with
  | d x => cases e
  | loc l =>
    (delta placeOf at e; (try dsimp only at e))
    split at e
    · simp only [Option.some.injEq, Prod.mk.injEq] at e
      obtain ⟨rfl, rfl⟩ := e
      exact ⟨Stp.refl, R0, q⟩
    · cases e
theorem repDs_of : ∀ {K : PySem.W.Frag} {A : Addr → Prop} {H : Hp} {xs : List D} {vs : List V}, Paired (RepD K A H) xs vs → RepDs K A H xs vs
  | _, _, _, _, _, .nil => .nil
  | _, _, _, _, _, .cons r t => .cons r (repDs_of t)
noncomputable def fTurn (t : Tg) (ft : IT.Env → M Bool) (fe : IT.Env → M R) (σ : IT.Env) (x : Ite) : M (Option D) := fTurnG fz t ft fe σ x
theorem comp_read {K : PySem.W.Frag} {t : Tg} {fi : IT.Env → M Wk} {ft : IT.Env → M Bool} {fe : IT.Env → M R} (hwl : ∀ σ h w h', fi σ h = some (w, h') → WlOk w h') {σ : St} {H : Hp} {Q : VK}
    (q : tLs K (fun σ => bnd (fi σ) fun w => turns w.l (fTurn t ft fe σ) w.xs) σ H Q) : tComp (tI K fi) t.slots (tGI K t) (tTv K ft) (tE K fe) σ H Q := by
  refine comp_readG (el_fz K) hwl ?_
  obtain ⟨μ, h, env, R0, re, zs, h', e, k⟩ := q
  exact ⟨μ, h, env, R0, re, zs, h', e, fun μ' H' a vs st R1 z ha => k μ' H' a vs st R1 (repDs_of z) ha⟩
end
end IT

set_option linter.all false
set_option maxHeartbeats 4000000
set_option maxRecDepth 100000
/-! while, isinstance, list(..), all, any, max, min, pop, clear. -/
namespace IT
open PySem PySem.Spec L2
section
variable {X : Cx}
theorem is_stuck {st : Stmt} : PS X st (tS X.K fun _ _ => none) := fun pins s σ H D I ⟨μ, h, env, R0, re, fl, env', h', e, k⟩ => by cases e
theorem ie_stuck {e : Expr} : IE X e (fun _ _ => none) := fun pins s σ H Q I ⟨μ, h, env, R0, re, r, h', e, k⟩ => by cases e
/-! ### list(x), list + list -/
/-! ### all, any, max, min -/
theorem bools_len : ∀ {xs : List D} {bs : List Bool}, boolsOf xs = some bs → bs.length = xs.length
  | [], bs, e => by simp only [boolsOf, Option.some.injEq] at e; subst e; rfl
  | x :: xs, bs, e => by
    simp only [boolsOf] at e
    split at e
    · split at e
      · rename_i es
        simp only [Option.some.injEq] at e
        subst e
        simp only [List.length_cons, bools_len es]
      · cases e
    · cases e
theorem bools_at : ∀ {xs : List D} {bs : List Bool} {i : Nat} {d : D}, boolsOf xs = some bs → xs[i]? = some d → ∃ b, bs[i]? = some b ∧ tru d = some b
  | [], bs, i, d, e, ed => by simp at ed
  | x :: xs, bs, i, d, e, ed => by
    simp only [boolsOf] at e
    split at e
    · rename_i b eb
      split at e
      · rename_i l es
        simp only [Option.some.injEq] at e
        subst e
        cases i with
        | zero =>
          simp only [List.getElem?_cons_zero, Option.some.injEq] at ed
          subst ed
          exact ⟨b, rfl, eb⟩
        | succ i =>
          obtain ⟨c, e1, e2⟩ := bools_at (i := i) (d := d) es (by simpa using ed)
          exact ⟨c, by simpa using e1, e2⟩
      · cases e
    · cases e
theorem range_all (bs : List Bool) : (List.range bs.length).all (fun i => bs.getD i false) = bs.all id := by
  rw [Bool.eq_iff_iff, List.all_eq_true, List.all_eq_true]
  constructor
  · intro h b hb
    obtain ⟨i, hi, e⟩ := List.getElem_of_mem hb
    have := h i (by simpa using hi)
    rw [List.getD_eq_getElem?_getD, List.getElem?_eq_getElem hi] at this
    simpa [e] using this
  · intro h i hi
    have hi' : i < bs.length := by simpa using hi
    rw [List.getD_eq_getElem?_getD, List.getElem?_eq_getElem hi']
    exact h _ (List.getElem_mem hi')
theorem range_any (bs : List Bool) : (List.range bs.length).any (fun i => bs.getD i false) = bs.any id := by
  rw [Bool.eq_iff_iff, List.any_eq_true, List.any_eq_true]
  constructor
  · rintro ⟨i, hi, h⟩
    have hi' : i < bs.length := by simpa using hi
    rw [List.getD_eq_getElem?_getD, List.getElem?_eq_getElem hi'] at h
    exact ⟨_, List.getElem_mem hi', by simpa using h⟩
  · rintro ⟨b, hb, h⟩
    obtain ⟨i, hi, e⟩ := List.getElem_of_mem hb
    refine ⟨i, by simpa using hi, ?_⟩
    rw [List.getD_eq_getElem?_getD, List.getElem?_eq_getElem hi]
    simpa [e] using h
/-- the truth of what a walk gives, where the state stays as it has to -/
noncomputable def TruthIn (prog : Program) (w : World) (A : Around) (Hs : Shared → Prop) (P : Nat → Value → Prop) (tr : Nat → Bool) : Prop :=
  ∀ i v (t : Shared) (Q : Bool → Shared → Prop) (E : Value → Shared → Prop), P i v → Hs t → (∀ tk, Q (tr i) { t with toks := tk }) → wpAny (model prog w) A (truthy v) Q E t
theorem drop_range {n i : Nat} (h : i < n) : (List.range n).drop i = i :: (List.range n).drop (i + 1) := by
  rw [List.drop_eq_getElem_cons (by simpa using h)]
  simp
section
variable {prog : Program} {w : World} {A : Around} {R : Result → Shared → Prop} {I : Addr} {fp wr : List Addr} {n : Nat} {P : Nat → Value → Prop} {St : Nat → Heap → Prop} {Hs : Shared → Prop}
theorem any_loopT (W : Walks prog w A.in1 I fp wr n P St) (tr : Nat → Bool) (hs : ∀ t h' tk, Hs t → (∀ b o, b ∉ wr → t.heap.get? b = some o → h'.get? b = some o) → Hs { t with heap := h', toks := tk }) (htr : TruthIn prog w A.in1 Hs P tr) (k : Nat) :
    ∀ (i : Nat) (t : Shared), n - i = k → i ≤ n → St i t.heap → Hs t →
      (∀ h' tk, (∀ b o, b ∉ wr → t.heap.get? b = some o → h'.get? b = some o) → R (.ok (.ret (.bool (((List.range n).drop i).any tr)))) { t with heap := h', toks := tk }) → codeAny (model prog w) A (.builtin "any.loop" ⟨[.ref I], []⟩) R t := by
  induction k with
  | zero =>
    intro i t hk hi st ht hR
    obtain rfl : i = n := by omega
    refine codeAny_builtin F.entry_any_loop ?_
    rw [Around.under_plainId F.plain_any_loop _]
    refine wpAny_bind (m := pyNext (.ref I)) (W.done t _ _ st fun h' tk e => wpAny_bind (wpAny_rule (wpAny_pure ?_)))
    have z := hR h' tk e
    rwa [List.drop_of_length_le (by simp)] at z
  | succ k ih =>
    intro i t hk hi st ht hR
    have hlt : i < n := by omega
    refine codeAny_builtin F.entry_any_loop ?_
    rw [Around.under_plainId F.plain_any_loop _]
    refine wpAny_bind (m := pyNext (.ref I)) (W.item i t _ _ hlt st fun v h' tk hP st' e => wpAny_bind (wpAny_holding (htr i v _ _ _ hP (hs t h' tk ht e) fun tk2 => wpAny_bind (wpAny_letGo ?_))))
    cases hb : tr i with
    | false =>
      simp only [Bool.false_eq_true, if_false]
      refine wpAny_pure ⟨plainId_quiet F.plain_any_loop _, ih (i + 1) _ (by omega) hlt st' (hs t h' tk2 ht e) fun h2 tk3 e2 => ?_⟩
      have z := hR h2 tk3 fun b o hbw eb => e2 b o hbw (e b o hbw eb)
      rwa [drop_range hlt, List.any_cons, hb, Bool.false_or] at z
    | true =>
      simp only [if_true]
      refine wpAny_bind (wpAny_rule (wpAny_pure ?_))
      have z := hR h' tk2 e
      rwa [drop_range hlt, List.any_cons, hb, Bool.true_or] at z
theorem all_loopT (W : Walks prog w A.in1 I fp wr n P St) (tr : Nat → Bool) (hs : ∀ t h' tk, Hs t → (∀ b o, b ∉ wr → t.heap.get? b = some o → h'.get? b = some o) → Hs { t with heap := h', toks := tk }) (htr : TruthIn prog w A.in1 Hs P tr) (k : Nat) :
    ∀ (i : Nat) (t : Shared), n - i = k → i ≤ n → St i t.heap → Hs t →
      (∀ h' tk, (∀ b o, b ∉ wr → t.heap.get? b = some o → h'.get? b = some o) → R (.ok (.ret (.bool (((List.range n).drop i).all tr)))) { t with heap := h', toks := tk }) → codeAny (model prog w) A (.builtin "all.loop" ⟨[.ref I], []⟩) R t := by
  induction k with
  | zero =>
    intro i t hk hi st ht hR
    obtain rfl : i = n := by omega
    refine codeAny_builtin F.entry_all_loop ?_
    rw [Around.under_plainId F.plain_all_loop _]
    refine wpAny_bind (m := pyNext (.ref I)) (W.done t _ _ st fun h' tk e => wpAny_bind (wpAny_rule (wpAny_pure ?_)))
    have z := hR h' tk e
    rwa [List.drop_of_length_le (by simp)] at z
  | succ k ih =>
    intro i t hk hi st ht hR
    have hlt : i < n := by omega
    refine codeAny_builtin F.entry_all_loop ?_
    rw [Around.under_plainId F.plain_all_loop _]
    refine wpAny_bind (m := pyNext (.ref I)) (W.item i t _ _ hlt st fun v h' tk hP st' e => wpAny_bind (wpAny_holding (htr i v _ _ _ hP (hs t h' tk ht e) fun tk2 => wpAny_bind (wpAny_letGo ?_))))
    cases hb : tr i with
    | true =>
      simp only [if_true]
      refine wpAny_pure ⟨plainId_quiet F.plain_all_loop _, ih (i + 1) _ (by omega) hlt st' (hs t h' tk2 ht e) fun h2 tk3 e2 => ?_⟩
      have z := hR h2 tk3 fun b o hbw eb => e2 b o hbw (e b o hbw eb)
      rwa [drop_range hlt, List.all_cons, hb, Bool.true_and] at z
    | false =>
      simp only [Bool.false_eq_true, if_false]
      refine wpAny_bind (wpAny_rule (wpAny_pure ?_))
      have z := hR h' tk2 e
      rwa [drop_range hlt, List.all_cons, hb, Bool.false_and] at z
end
theorem call_allany (hc : X.calm = true) (all : Bool) : CallD X (.builtin (if all then "all" else "any")) (biD (if all then .all else .any)) := by
  intro pins s σ H vs us Q I r q
  obtain ⟨μ, h, ds, z, R0, pr, e, k⟩ := q
  cases pr with
  | nil => cases all <;> exact noSome e
  | @cons d v ds vs qd pr =>
    cases pr with
    | cons _ _ => cases all <;> cases d <;> exact noSome e
    | nil =>
      cases d with
      | lst xs =>
        obtain ⟨p, ws, rfl, q1, z1⟩ := qd
        have eb : ∃ bs, boolsOf xs = some bs ∧ z = .bl (if all then bs.all id else bs.any id) := by
          cases hb : boolsOf xs with
          | none => cases all <;> (change (match boolsOf xs with | some bs => _ | none => _) = _ at e; rw [hb] at e; exact noSome e)
          | some bs => cases all <;> (change (match boolsOf xs with | some bs => _ | none => _) = _ at e; rw [hb] at e; exact ⟨bs, rfl, (Option.some.inj e).symm⟩)
        obtain ⟨bs, eb, rfl⟩ := eb
        obtain ⟨u, rfl, rx⟩ := vals1 r
        cases rx
        obtain ⟨its, ri, pl, hz⟩ := I.list q1
        have hl1 := z1.length
        have hl2 := ri.length
        have hl3 := bools_len eb
        have hne : p ≠ s.heap.objs.size := by
          obtain ⟨o, n, eo, _⟩ := id pl
          exact Nat.ne_of_lt (Heap.lt_size eo)
        have W := Walks.list (prog := X.prog) (w := X.w) (A := X.A.in1) (I.ok.hd hc) s.heap.objs.size p hne its.toArray
        let Hs : Shared → Prop := fun t => ∃ h' tk, t = { s with heap := h', toks := tk } ∧ ∀ a o, s.heap.get? a = some o → h'.get? a = some o
        have hs : ∀ t h' tk, Hs t → (∀ b o, b ∉ [s.heap.objs.size] → t.heap.get? b = some o → h'.get? b = some o) → Hs { t with heap := h', toks := tk } := by
          rintro t h' tk ⟨h1, tk1, rfl, e1⟩ e2
          exact ⟨h', tk, rfl, fun a o ea => e2 a o (by simp; exact Nat.ne_of_lt (Heap.lt_size ea)) (e1 a o ea)⟩
        have htr : TruthIn X.prog X.w X.A.in1 Hs (fun i v => its.toArray[i]? = some v) (fun i => bs.getD i false) := by
          rintro i v t Q1 E1 ei ⟨h1, tk1, rfl, e1⟩ hq
          have ei' : its[i]? = some v := by simpa using ei
          have hi : i < its.length := (List.getElem?_eq_some_iff.mp ei').1
          obtain ⟨d, ed⟩ : ∃ d, xs[i]? = some d := ⟨xs[i]'(by omega), List.getElem?_eq_getElem _⟩
          obtain ⟨b, e2, e3⟩ := bools_at eb ed
          obtain ⟨v2, e4, e5⟩ := z1.get ed
          have rv : RelV v2 v := by
            have := vals_get ri e4 hi
            rwa [(List.getElem?_eq_some_iff.mp ei').2] at this
          have e6 : bs.getD i false = b := by rw [List.getD_eq_getElem?_getD, e2]; rfl
          simp only [e6] at hq
          exact truD_at (I.kept (t' := tk1) e1) (RdD.of e5) rv e3 hq
        have st0 : (s.heap.push { cls := .type "list_iterator", data := .fields #[.ref p, .int 0 0] }).IsListIter s.heap.objs.size p 0 ∧ (s.heap.push { cls := .type "list_iterator", data := .fields #[.ref p, .int 0 0] }).IsList p its.toArray := by
          refine ⟨⟨_, Heap.get?_push_size _ rfl, rfl, rfl⟩, ?_⟩
          obtain ⟨o, eo, hcl, n, hd⟩ := pl.isList
          exact ⟨o, Heap.get?_push_of_some _ eo, hcl, n, hd⟩
        have hs0 : Hs { s with heap := s.heap.push { cls := .type "list_iterator", data := .fields #[.ref p, .int 0 0] } } := ⟨_, s.toks, rfl, fun a o ea => Heap.get?_push_of_some _ ea⟩
        have hsz : its.toArray.size = bs.length := by simp; omega
        have fin : ∀ (b : Bool) (h' : Heap) (tk : Nat), (∀ b o, b ∉ [s.heap.objs.size] → (s.heap.push { cls := .type "list_iterator", data := .fields #[.ref p, .int 0 0] }).get? b = some o → h'.get? b = some o) → Q (.bl b) H → EP X pins σ Q (.bool b) { s with heap := h', toks := tk } := by
          intro b h' tk hk q
          refine ⟨.bl b, H, I.kept (t' := tk) fun a o ea => hk a o (by simp; exact Nat.ne_of_lt (Heap.lt_size ea)) (Heap.get?_push_of_some _ ea), rfl, q⟩
        have hq := k μ H (.bl (if all then bs.all id else bs.any id)) Stp.refl R0 (by simp only [RepD])
        cases all with
        | true =>
          refine call_function_tree F.kind_all F.plain_all F.entry_all (F.args_all1 _) ?_
          unfold Builtin.«all»
          refine wpAny_bind (m := oneArg "all" _) (wpAny_pure (wpAny_bind (wpAny_pyIter_list pl.isList (wpAny_pure ⟨plainId_quiet F.plain_all_loop _, all_loopT W _ hs htr _ 0 _ rfl (Nat.zero_le _) st0 hs0 fun h' tk hk => ?_⟩))))
          rw [List.drop_zero, hsz, range_all]
          exact fin _ h' tk hk hq
        | false =>
          refine call_function_tree F.kind_any F.plain_any F.entry_any (F.args_any1 _) ?_
          unfold Builtin.«any»
          refine wpAny_bind (m := oneArg "any" _) (wpAny_pure (wpAny_bind (wpAny_pyIter_list pl.isList (wpAny_pure ⟨plainId_quiet F.plain_any_loop _, any_loopT W _ hs htr _ 0 _ rfl (Nat.zero_le _) st0 hs0 fun h' tk hk => ?_⟩))))
          rw [List.drop_zero, hsz, range_any]
          exact fin _ h' tk hk hq
      | _ => cases all <;> exact noSome e
theorem call_min' (hc : X.calm = true) : CallD X (.builtin "min") (biD .min) := by
  intro pins s σ H vs us Q I r q
  obtain ⟨μ, h, ds, z, R0, pr, e, k⟩ := q
  cases pr with
  | nil => exact noSome e
  | @cons d1 _ ds _ q1 pr =>
    cases pr with
    | nil => cases d1 <;> exact noSome e
    | @cons d2 _ ds _ q2 pr =>
      cases pr with
      | cons _ _ => cases d1 <;> cases d2 <;> exact noSome e
      | nil =>
        cases d1 with
        | int i =>
          cases d2 with
          | int j =>
            replace e := Option.some.inj e
            subst e
            simp only [RdD, RepD] at q1 q2
            subst q1 q2
            exact call_min2 hc pins s σ H _ us Q I r ⟨_, _, rfl, k μ H _ Stp.refl R0 (by simp only [RepD])⟩
          | _ => exact noSome e
        | _ => cases d2 <;> exact noSome e
end
end IT

set_option linter.all false
set_option maxHeartbeats 4000000
set_option maxRecDepth 100000
namespace IT
open PySem PySem.Spec L2
noncomputable def tyS : Ty → String
  | .int => "int"
  | .str => "str"
  | .bool => "bool"
  | .list => "list"
  | .tuple => "tuple"
section
variable {K : PySem.W.Frag}
theorem kit_non (t : Ty) : PySem.W.kitOne K (.type "NoneType") (.type (tyS t)) = some (isiD t .non) := by cases t <;> rfl
theorem kit_bl (t : Ty) (b : Bool) : PySem.W.kitOne K (.type "bool") (.type (tyS t)) = some (isiD t (.bl b)) := by cases t <;> rfl
theorem kit_int (t : Ty) (i : Int) : PySem.W.kitOne K (.type "int") (.type (tyS t)) = some (isiD t (.int i)) := by cases t <;> rfl
theorem kit_str (t : Ty) (x : List Nat) : PySem.W.kitOne K (.type "str") (.type (tyS t)) = some (isiD t (.str x)) := by cases t <;> rfl
theorem kit_tup (t : Ty) (x : List D) : PySem.W.kitOne K (.type "tuple") (.type (tyS t)) = some (isiD t (.tup x)) := by cases t <;> rfl
theorem kit_lst (t : Ty) (x : List D) : PySem.W.kitOne K (.type "list") (.type (tyS t)) = some (isiD t (.lst x)) := by cases t <;> rfl
end
section
variable {X : Cx}
theorem call_isi (t : Ty) : CallR X (.builtin "isinstance") (fun vs H Q => ∃ A d v, RdD X.K A H d v ∧ vs = [v, .ty (tyS t)] ∧ Q (.bl (isiD t d)) H) := by
  intro pins s σ H vs us Q I r q
  obtain ⟨A, d, v, qd, rfl, q⟩ := q
  cases r with
  | cons r1 r =>
    cases r with
    | cons r2 r =>
      cases r
      rename_i u1 u2
      have e2 : u2 = Value.type (tyS t) := r2
      subst e2
      have fin : ∀ tk : Nat, EP X pins σ Q (.bool (isiD t d)) { s with toks := tk } := fun tk => ⟨.bl (isiD t d), H, I.tok tk, rfl, q⟩
      cases d with
      | non =>
        simp only [RdD, RepD] at qd; subst qd
        have e1 : u1 = Value.none := r1
        subst e1
        exact PySem.W.kia_one PySem.W.kitx_none I.kIn True.intro (kit_non t) (fun z => nomatch z) fin
      | bl b =>
        simp only [RdD, RepD] at qd; subst qd
        have e1 : u1 = Value.bool b := r1
        subst e1
        exact PySem.W.kia_one PySem.W.kitx_bool I.kIn True.intro (kit_bl t b) (fun z => nomatch z) fin
      | int i =>
        simp only [RdD, RepD] at qd; subst qd
        obtain ⟨t', e1⟩ := (show ∃ t', u1 = Value.int i t' from r1)
        subst e1
        exact PySem.W.kia_one PySem.W.kitx_int I.kIn True.intro (kit_int t i) (fun z => nomatch z) fin
      | str x =>
        simp only [RdD, RepD] at qd; subst qd
        obtain ⟨t', e1⟩ := (show ∃ t', u1 = Value.str (toStr x) t' from r1)
        subst e1
        exact PySem.W.kia_one PySem.W.kitx_str I.kIn True.intro (kit_str t x) (fun z => nomatch z) fin
      | tup xs =>
        simp only [RdD, RepD] at qd
        obtain ⟨a, ws, rfl, q1, _⟩ := qd
        have e1 : u1 = Value.ref a := r1
        subst e1
        obtain ⟨its, ri, ⟨o, h1, h2, _⟩, hz⟩ := I.tuple q1
        exact PySem.W.kia_one PySem.W.kitx_tuple I.kIn ⟨o, h1, h2⟩ (kit_tup t xs) (fun z => nomatch z) fin
      | lst xs =>
        obtain ⟨a, ws, rfl, q1, _⟩ := qd
        have e1 : u1 = Value.ref a := r1
        subst e1
        obtain ⟨its, ri, ⟨o, n, h1, h2, _⟩, hz⟩ := I.list q1
        exact PySem.W.kia_one PySem.W.kitx_list I.kIn ⟨o, h1, h2⟩ (kit_lst t xs) (fun z => nomatch z) fin
theorem boot_ty (t : Ty) : bootBuiltins (Str.ofString (tyS t)) = some (.type (tyS t)) := by cases t <;> decide +kernel
theorem ie_isi {t : Ty} {e : Expr} {x : Str} {p p2 pos : Pos} {f : IT.Env → M R} (hg : Gl X "isinstance") (hm : X.mg "isinstance" = none) (he : IE X e f) (hx : x = Str.ofString (tyS t)) (hg2 : Gl X x) (hm2 : X.mg x = none) (hs : starEach [e, .Name x p2] X.env = [(false, eval e X.env), (false, eval (.Name x p2) X.env)]) :
    IE X (.Call (.Name "isinstance" p) [e, .Name x p2] [] pos) (fun σ => bnd (f σ) fun r => bnd (rd r) fun d => ok (.d (.bl (isiD t d)))) := by
  subst hx
  have hn : Str.ofString (tyS t) ≠ "__name__" := by cases t <;> decide
  have hdb : (Str.ofString (tyS t) == ("__debug__" : Str)) = false := by cases t <;> decide
  have h2 : PE X (.Name (Str.ofString (tyS t)) p2) (tC (.ty (tyS t))) := pe_bltn hg2 hm2 (boot_ty t) rfl hn hdb
  refine PE.imp (pe_callB (call_isi t) hg hm PyProof.Rows.boot_isinstance (pa_cons he (pa_cons h2 pa_nil rfl) hs) (by decide) (by decide) hs rfl) fun σ H Q q0 => ?_
  obtain ⟨μ, h, env, R0, re, r, h', e, k⟩ := q0
  simp only [bnd_some, ok_some] at e
  obtain ⟨r1, h1, e1, d, h2', e2, rfl, rfl⟩ := e
  refine ⟨μ, h, env, R0, re, r1, h1, e1, fun μ1 H1 v s1 R1 q1 => ?_⟩
  obtain ⟨rfl, z⟩ := rd_ok R1 q1 e2
  exact ⟨_, d, v, z, rfl, k μ1 H1 _ s1 R1 (by simp only [RepR, RepD])⟩

/-! ### pop, clear -/
theorem ie_clear {o : Expr} {name : Str} {apos cpos : Pos} {f : IT.Env → M R} (ho : IE X o f) (hname : name = ("clear" : Str)) (hbase : attributeBase o name X.env (eval o X.env) = eval o X.env) (hline : (apos.endLine == cpos.line) = true) :
    IE X (.Call (.Attribute o name apos) [] [] cpos) (fun σ => bnd (f σ) fun x => bnd (isLst x) fun _ => bnd (ok []) fun rs => meth .clear x rs) := by
  subst hname
  refine PE.imp (pe_bm0 PySem.F.plainAttrs_list PySem.F.slot_list_clear PySem.F.type_list_clear mt_clear ho hbase hline) fun σ H Q q0 => ?_
  obtain ⟨μ, h, env, R0, re, r, h', e, k⟩ := q0
  simp only [bnd_some, ok_some] at e
  obtain ⟨x, h1, e1, _, h1', e0, rs, h2, ⟨rfl, rfl⟩, e3⟩ := e
  obtain ⟨l, o1, rfl, ho1, il1, rfl⟩ := isLst_some e0
  refine ⟨μ, h, env, R0, re, .loc l, _, e1, fun μ1 H1 v s1 R1 q1 => ?_⟩
  · skip
    obtain ⟨a, ea, rfl⟩ := q1
    obtain ⟨vs1, hH1, z1⟩ := R1.placeL ea ho1 il1
    (delta meth at e3; (try dsimp only at e3))
    rw [ho1] at e3
    cases o1 with
    | fro xs => simp at e3
    | ins _ _ => cases il1
    | ols _ => cases il1
    | lst xs =>
      simp only [Option.some.injEq, Prod.mk.injEq] at e3
      obtain ⟨rfl, rfl⟩ := e3
      refine ⟨.inl ⟨rfl, vs1, .inl (.inl hH1)⟩, a, vs1, rfl, rfl, hH1, ?_⟩
      obtain ⟨s4, R4⟩ := write R1 ea ho1 (ys := []) (ws := []) .nil
      exact k μ1 _ .non (s1.trans s4) R4 (by simp only [RepR, RepD])
end
end IT

set_option linter.all false
set_option maxHeartbeats 4000000
set_option maxRecDepth 100000
/-! Methods of texts. -/
namespace IT
open PySem PySem.Spec L2
open PySem.StrLaws Builtin.Str
section
variable {X : Cx}
/-! ### o.m(es) upon texts -/
theorem ie_extend {o e : Expr} {es : List Expr} {name : Str} {apos cpos : Pos} {f : IT.Env → M R} {fs : IT.Env → M (List R)} (ho : IE X o f) (ha : IA X (e :: es) fs) (hname : name = ("extend" : Str))
    (hbase : attributeBase o name X.env (eval o X.env) = eval o X.env)
    (hfew : ((backTo cpos (starEach (e :: es) X.env)).all (fun x => !x.1) && (backToKw cpos (keywordEach [] X.env)).all (fun x => x.1.isSome)
      && decide ((e :: es).length + ([] : List Keyword).length + (if ([] : List Keyword).isEmpty then 0 else 1) < 30)) = true)
    (hline : (apos.endLine == cpos.line) = true) (hs : starEach (e :: es) X.env = (false, eval e X.env) :: starEach es X.env) (hplain : (backTo cpos (starEach es X.env)).any (·.1) = false) :
    IE X (.Call (.Attribute o name apos) (e :: es) [] cpos) (fun σ => bnd (f σ) fun x => bnd (isLst x) fun _ => bnd (fs σ) fun rs => meth .extend x rs) := by
  subst hname
  refine PE.imp (pe_bm PySem.F.plainAttrs_list PySem.F.slot_list_extend PySem.F.type_list_extend mt_extendL ho ha hbase hfew hline hs hplain) fun σ H Q q0 => ?_
  obtain ⟨μ, h, env, R0, re, r, h', e, k⟩ := q0
  simp only [bnd_some] at e
  obtain ⟨x, h1, e1, _, h1', e0, rs, h2, e2, e3⟩ := e
  obtain ⟨l, o1, rfl, ho1, il1, rfl⟩ := isLst_some e0
  refine ⟨μ, h, env, R0, re, .loc l, _, e1, fun μ1 H1 v s1 R1 q1 => ?_⟩
  · skip
    obtain ⟨a, ea, rfl⟩ := q1
    obtain ⟨vs1, hH1, z1⟩ := R1.placeL ea ho1 il1
    refine ⟨.inl ⟨rfl, vs1, .inl (.inl hH1)⟩, μ1, _, env, R1, re.stp s1 R0, rs, h2, e2, fun μ2 H2 ws s2 R2 q2 => ?_⟩
    cases q2 with
    | nil => exact noSome e3
    | @cons rr w rs' ws' qr q2 =>
      cases q2 with
      | cons _ _ => exact noSome e3
      | nil =>
        (delta meth at e3; (try dsimp only at e3); simp only [bnd_some] at e3)
        obtain ⟨d, h3, e4, e5⟩ := e3
        obtain ⟨rfl, zd⟩ := rd_ok R2 qr e4
        have ea2 := s2.pre l a ea
        cases d with
        | lst ys =>
          obtain ⟨b, vs2, rfl, sq, zz⟩ := zd
          simp only at e5
          split at e5
          · rename_i xs hx
            split at e5
            · rename_i hlen
              simp only [Option.some.injEq, Prod.mk.injEq] at e5
              obtain ⟨rfl, rfl⟩ := e5
              obtain ⟨vs3, hH3, z3⟩ := R2.placeL ea2 hx rfl
              have hlen' : vs3.length + vs2.length ≤ sizeLine := by
                have l3 := z3.length
                have l2 := zz.length
                have h4 : xs.length + ys.length ≤ big := of_decide_eq_true hlen
                have h5 : big = sizeLine := rfl
                simp only [Ob.items] at l3
                omega
              refine ⟨a, b, vs3, vs2, rfl, rfl, hH3, sq, hlen', ?_⟩
              obtain ⟨s4, R4⟩ := write R2 ea2 hx (z3.app zz)
              exact k μ2 _ .non ((s1.trans s2).trans s4) R4 (by simp only [RepR, RepD])
            · cases e5
          · cases e5
        | _ => cases e5
/-! ### xs.count(e), xs.index(e) -/
end
end IT

set_option linter.all false
set_option maxHeartbeats 4000000
set_option maxRecDepth 100000
/-! dict(pairs): a tuple of pairs. -/
namespace PySem
open Sem (wp)
open Builtin
section
variable {prog : Program} {w : World} {A : Around} {E : Value → Shared → Prop} {s : Shared}
end
end PySem

set_option linter.all false
set_option maxHeartbeats 4000000
set_option maxRecDepth 100000
namespace PySem
open Sem (wp)
open Builtin
section
variable {prog : Program} {w : World} {K : Type} [DecidableEq K] {knd : KeyKind prog w K} {A : Around} {E : Value → Shared → Prop} {R : Result → Shared → Prop}
end
end PySem

set_option linter.all false
set_option maxHeartbeats 4000000
set_option maxRecDepth 100000
/-! dict(pairs)[k], list(range(n)). -/
namespace IT
open PySem PySem.Spec L2
section
variable {X : Cx}
/-! ### list(range(n)) -/
end
end IT

set_option linter.all false
set_option maxHeartbeats 4000000
set_option maxRecDepth 100000
/-! Instances: attributes, methods, making; lists of instances; enumerate. -/
namespace IT
open PySem PySem.Spec L2
section
variable {X : Cx}
/-- how the attributes stand -/
noncomputable abbrev RelF (K : PySem.W.Frag) (μ : List Addr) (h : Sto) (H : Hp) : List (Str × R) → List (Str × V) → Prop := Paired fun p q => p.1 = q.1 ∧ RepR K μ h H p.2 q.2
theorem relF_lookup {K : PySem.W.Frag} {μ : List Addr} {h : Sto} {H : Hp} : ∀ {fs : List (Str × R)} {fs' : List (Str × V)} {f : Str} {r : R}, RelF K μ h H fs fs' → fs.lookup f = some r → ∃ v, fs'.lookup f = some v ∧ RepR K μ h H r v
  | _, _, _, _, .nil, e => by simp at e
  | _, _, f, r, .cons (a := a) (b := b) ⟨q1, q2⟩ t, e => by
    rw [List.lookup_cons] at e ⊢
    rw [← q1]
    split at e
    · rename_i hb
      cases e
      exact ⟨b.2, rfl, q2⟩
    · exact relF_lookup t e
theorem relF_none {K : PySem.W.Frag} {μ : List Addr} {h : Sto} {H : Hp} : ∀ {fs : List (Str × R)} {fs' : List (Str × V)} {f : Str}, RelF K μ h H fs fs' → fs.lookup f = none → fs'.lookup f = none
  | _, _, _, .nil, e => rfl
  | _, _, f, .cons (a := a) (b := b) ⟨q1, q2⟩ t, e => by
    rw [List.lookup_cons] at e ⊢
    rw [← q1]
    split at e
    · cases e
    · exact relF_none t e
theorem relF_put {K : PySem.W.Frag} {μ : List Addr} {h : Sto} {H : Hp} {f : Str} {r : R} {v : V} (q : RepR K μ h H r v) : ∀ {fs : List (Str × R)} {fs' : List (Str × V)}, RelF K μ h H fs fs' → RelF K μ h H (IT.putF f r fs) (L2.putF f v fs')
  | _, _, .nil => .cons ⟨rfl, q⟩ .nil
  | _, _, .cons (a := a) (b := b) ⟨q1, q2⟩ t => by
    obtain ⟨g, x⟩ := a
    obtain ⟨g', y⟩ := b
    simp only at q1 q2
    subst q1
    simp only [IT.putF, L2.putF]
    split
    · exact .cons ⟨rfl, q⟩ t
    · exact .cons ⟨rfl, q2⟩ (relF_put q t)
theorem mem_put {f : Str} {r : R} : ∀ {fs : List (Str × R)} {p : Str × R}, p ∈ IT.putF f r fs → p.1 = f ∨ p ∈ fs
  | [], p, h => by simp [IT.putF] at h; exact .inl (by rw [h])
  | (g, x) :: fs, p, h => by
    simp only [IT.putF] at h
    split at h
    · rename_i e
      rcases List.mem_cons.mp h with rfl | h
      · exact .inl e
      · exact .inr (List.mem_cons_of_mem _ h)
    · rcases List.mem_cons.mp h with rfl | h
      · exact .inr List.mem_cons_self
      · rcases mem_put h with e | e
        · exact .inl e
        · exact .inr (List.mem_cons_of_mem _ e)
theorem lookup_memF {f : Str} {r : R} : ∀ {fs : List (Str × R)}, fs.lookup f = some r → (f, r) ∈ fs
  | [], e => by simp at e
  | p :: l, e => by
    rw [List.lookup_cons] at e
    split at e
    · rename_i h
      have h := eq_of_beq h
      cases e
      rw [h]
      exact List.mem_cons_self
    · exact List.mem_cons_of_mem _ (lookup_memF e)
/-- o.f -/
theorem ie_fld {o : Expr} {f : Str} {pos : Pos} {g : IT.Env → M R} (ho : IE X o g) (hb : attributeBase o f X.env (eval o X.env) = eval o X.env) : IE X (.Attribute o f pos) (fun σ => bnd (g σ) fun x => getA x f) := by
  refine PE.imp (pe_fld ho hb) fun σ H Q q0 => ?_
  obtain ⟨μ, h, env, R0, re, r, h', e, k⟩ := q0
  simp only [bnd_some] at e
  obtain ⟨x, h1, e1, e2⟩ := e
  refine ⟨μ, h, env, R0, re, x, h1, e1, fun μ1 H1 v s1 R1 q1 => ?_⟩
  cases x with
  | d d => cases e2
  | loc l =>
    obtain ⟨a, ea, rfl⟩ := q1
    (delta getA at e2; (try dsimp only at e2))
    cases ho1 : h1[l]? with
    | none => rw [ho1] at e2; cases e2
    | some ob =>
      rw [ho1] at e2
      cases ob with
      | ins c fs =>
        simp only at e2
        cases el : fs.lookup f with
        | none => rw [el] at e2; cases e2
        | some r1 =>
          rw [el] at e2
          simp only [Option.some.injEq, Prod.mk.injEq] at e2
          obtain ⟨rfl, rfl⟩ := e2
          obtain ⟨C, dx, fs', ⟨_, cl, na⟩, eH, rel⟩ := R1.obj l a _ ea ho1
          obtain ⟨w, ew, qw⟩ := relF_lookup rel el
          exact ⟨a, C, dx, fs', w, rfl, eH, cl, na _ (lookup_memF el), ew, k μ1 H1 w s1 R1 qw⟩
      | _ => cases e2
theorem relF_len {K : PySem.W.Frag} {μ : List Addr} {h : Sto} {H : Hp} {fs : List (Str × R)} {fs' : List (Str × V)} (q : RelF K μ h H fs fs') : fs.length = fs'.length := Paired.length q
/-- an attribute is written -/
theorem writeA {K : PySem.W.Frag} {μ : List Addr} {h : Sto} {H : Hp} {l : Nat} {a C dx : Addr} {c f : Str} {fs : List (Str × R)} {fs' : List (Str × V)} {r : R} {v : V} (R0 : Rep K μ h H) (ea : μ[l]? = some a) (ho : h[l]? = some (.ins c fs))
    (hC : PySem.W.nsIn K mainGlobals c = some (some (.ref C)) ∧ Cls K C ∧ ∀ p ∈ fs, NoAttr K C p.1) (hn : NoAttr K C f) (rel : RelF K μ h H fs fs') (q : RepR K μ h H r v) :
    Stp μ h H μ (h.set l (.ins c (IT.putF f r fs))) (upd H a (.ins C dx (L2.putF f v fs'))) ∧ Rep K μ (h.set l (.ins c (IT.putF f r fs))) (upd H a (.ins C dx (L2.putF f v fs'))) :=
  writeO R0 ea ho rfl fun st => ⟨C, dx, _, ⟨hC.1, hC.2.1, fun p hp => by
    rcases mem_put hp with e | e
    · rw [e]; exact hn
    · exact hC.2.2 p e⟩, upd_same, L2.Paired.mapP (relF_put q rel) fun p q' ⟨z1, z2⟩ => ⟨z1, RepR.stp st R0 z2⟩⟩
/-- .. a new one, by the class -/
theorem is_setN {o e : Expr} {c f : Str} {pos pos' : Pos} {g k0 : IT.Env → M R} (he : IE X e g) (ho : IE X o k0) (hs : swapsWith e (some (.Attribute o f pos')) pos.line X.env = pure false)
    (hn : ∀ C, PySem.W.nsIn X.K mainGlobals c = some (some (.ref C)) → NoAttr X.K C f) :
    PS X (.Assign [.Attribute o f pos'] e pos) (tS X.K fun σ => bnd (g σ) fun r => bnd (k0 σ) fun x => bnd (setN x c f r) fun _ => ok (.nx, σ)) := by
  refine PS.imp (ps_fld ho he hs) fun D σ H q0 => ?_
  obtain ⟨μ, h, env, R0, re, fl, env', h', e, kk⟩ := q0
  simp only [bnd_some, ok_some, Prod.mk.injEq] at e
  obtain ⟨r, h1, e1, x, h2, e2, _, h3, e3, ⟨rfl, rfl⟩, rfl⟩ := e
  refine ⟨μ, h, env, R0, re, r, h1, e1, fun μ1 H1 v s1 R1 q1 => ⟨μ1, h1, env, R1, re.stp s1 R0, x, h2, e2, fun μ2 H2 u s2 R2 q2 => ?_⟩⟩
  cases x with
  | d d => cases e3
  | loc l =>
    obtain ⟨a, ea, rfl⟩ := q2
    simp only [setN] at e3
    cases ho1 : h2[l]? with
    | none => rw [ho1] at e3; cases e3
    | some ob =>
      rw [ho1] at e3
      cases ob with
      | ins c' fs =>
        simp only at e3
        split at e3
        · rename_i hc
          simp only [Option.some.injEq, Prod.mk.injEq] at e3
          obtain ⟨_, rfl⟩ := e3
          obtain ⟨rfl, hl⟩ := hc
          obtain ⟨C, dx, fs', hC, eH, rel⟩ := R2.obj l a _ ea ho1
          have hn := hn C hC.1
          have hl : fs'.length < 1000 := by rw [← relF_len rel]; omega
          obtain ⟨s3, R3⟩ := writeA (dx := dx) R2 ea ho1 hC hn rel (q1.stp s2 R1)
          exact ⟨a, C, dx, fs', rfl, eH, hC.2.1, hn, hl, kk μ2 _ σ ((s1.trans s2).trans s3) R3 (re.stp ((s1.trans s2).trans s3) R0)⟩
        · cases e3
      | _ => cases e3
/-! ### methods and making -/
theorem meth_eval {o : Expr} {name : Str} {apos pos : Pos} {args : List Expr} {env : PySem.Env} (hbase : attributeBase o name env (eval o env) = eval o env)
    (hfew : ((backTo pos (starEach args env)).all (fun x => !x.1) && (backToKw pos (keywordEach [] env)).all (fun x => x.1.isSome)
      && decide (args.length + ([] : List Keyword).length + (if ([] : List Keyword).isEmpty then 0 else 1) < 30)) = true)
    (hline : (apos.endLine == pos.line) = true) : eval (.Call (.Attribute o name apos) args [] pos) env = (do
      let ov ← eval o env
      standAt apos.atName
      let (f, first) ← holding [ov] (getMethod ov name (do return (← importBound o env).getD true))
      callWith pos f first (backTo pos (starEach args env)) (backToKw pos (keywordEach [] env))) := by
  rw [arm_eval_Call, hbase]
  have hform : methodCallForm (args.length + ([] : List Keyword).length) (backTo pos (starEach args env)) (backToKw pos (keywordEach [] env)) = true := hfew
  have hpos : methodCallPos true o env apos pos = pure pos := by unfold methodCallPos; simp [hline]
  unfold methodCall
  rw [hform]
  unfold calleeOf
  simp only [if_true, hpos]
  rfl
/-- a method of a class: the class's address, the def -/
structure MethAt (X : Cx) (n : Nat) (c m : Str) (np : Nat) (mm : List R → M R) : Prop where
  ex : ∃ C f fd ps, PySem.W.nsIn X.K mainGlobals c = some (some (.ref C)) ∧ Cls X.K C ∧ Meth X.K C m f ∧ FnOk X.prog X.w X.K X.mg X.base CX0 n f fd ps (spF X.K np mm) ∧ Binds X.K fd ps []
  len : ∀ rs h p, mm rs h = some p → rs.length = np
/-- a class that may be made, its __init__ -/
structure MakeAt (X : Cx) (n : Nat) (c : Str) (np : Nat) (mm : List R → M R) : Prop where
  ex : ∃ C f fd ps, X.mg c = some (.ref C) ∧ PySem.W.nsIn X.K mainGlobals c = some (some (.ref C)) ∧ Cls X.K C ∧ Mk X.K C f ∧ FnOk X.prog X.w X.K X.mg X.base CX0 n f fd ps (spF X.K np mm) ∧ Binds X.K fd ps []
  len : ∀ rs h p, mm rs h = some p → rs.length = np
theorem isA_some {x : R} {c m : Str} {u : Unit} {h h' : Sto} (e : isA x c m h = some (u, h')) : ∃ l fs, x = .loc l ∧ h[l]? = some (.ins c fs) ∧ fs.lookup m = none ∧ h' = h := by
  cases x with
  | d _ => cases e
  | loc l =>
    (delta isA at e; (try dsimp only at e))
    cases ho : h[l]? with
    | none => rw [ho] at e; cases e
    | some ob =>
      rw [ho] at e
      cases ob with
      | ins c' fs =>
        simp only at e
        split at e
        · rename_i hc
          simp only [Option.some.injEq, Prod.mk.injEq] at e
          obtain ⟨rfl, hm⟩ := hc
          exact ⟨l, fs, rfl, ho, Option.isNone_iff_eq_none.mp hm, e.2.symm⟩
        · cases e
      | _ => cases e
theorem ie_mc {n np : Nat} {c m : Str} {mm : List R → M R} {o e : Expr} {es : List Expr} {apos pos : Pos} {pl : Sem Bool} {g : IT.Env → M R} {fs : IT.Env → M (List R)} (hM : MethAt X n c m np mm) (hr : Room n X.A) (ho : IE X o g) (ha : IA X (e :: es) fs)
    (hst : starEach (e :: es) X.env = (false, eval e X.env) :: starEach es X.env) (hpl : (backTo pos (starEach es X.env)).any (·.1) = false)
    (ht : eval (.Call (.Attribute o m apos) (e :: es) [] pos) X.env = (do
      let ov ← eval o X.env
      standAt apos.atName
      let (f, first) ← holding [ov] (getMethod ov m pl)
      callWith pos f first (backTo pos (starEach (e :: es) X.env)) (backToKw pos (keywordEach [] X.env)))) :
    IE X (.Call (.Attribute o m apos) (e :: es) [] pos) (fun σ => bnd (g σ) fun x => bnd (isA x c m) fun _ => bnd (fs σ) fun rs => mm (x :: rs)) := by
  obtain ⟨C, f, fd, ps, hc, cl, hm, F, hb⟩ := hM.ex
  refine PE.imp (pe_meth ho cl hm F hr hb .nil pass0 ha hst hpl ht) fun σ H Q q0 => ?_
  obtain ⟨μ, h, env, R0, re, r, h', ee, k⟩ := q0
  simp only [bnd_some] at ee
  obtain ⟨x, h1, e1, _, h1', e0, rs, h2, e2, e3⟩ := ee
  obtain ⟨l, fs0, rfl, ho1, hnone, rfl⟩ := isA_some e0
  refine ⟨μ, h, env, R0, re, .loc l, _, e1, fun μ1 H1 v s1 R1 q1 => ?_⟩
  obtain ⟨a, ea, rfl⟩ := id q1
  obtain ⟨C', dx, fs', hC, eH, rel⟩ := R1.obj l a _ ea ho1
  have hCC : C' = C := by have := hC.1; rw [hc] at this; cases this; rfl
  subst hCC
  refine ⟨a, dx, fs', rfl, eH, relF_none rel hnone, μ1, _, env, R1, re.stp s1 R0, rs, h2, e2, fun μ2 H2 ws s2 R2 q2 => ?_⟩
  have hlen := hM.len _ _ _ e3
  have qq : RepRs X.K μ2 h2 H2 (.loc l :: rs) (.ref a :: (ws ++ [])) := .cons ⟨a, s2.pre l a ea, rfl⟩ (by rw [List.append_nil]; exact q2)
  exact ⟨by rw [← qq.length]; exact hlen, μ2, h2, .loc l :: rs, R2, qq, r, h', e3, fun μ3 H3 w s3 R3 q3 => k μ3 H3 w ((s1.trans s2).trans s3) R3 q3⟩
theorem ie_mc0 {n np : Nat} {c m : Str} {mm : List R → M R} {o : Expr} {apos pos : Pos} {pl : Sem Bool} {g : IT.Env → M R} (hM : MethAt X n c m np mm) (hr : Room n X.A) (ho : IE X o g)
    (ht : eval (.Call (.Attribute o m apos) [] [] pos) X.env = (do
      let ov ← eval o X.env
      standAt apos.atName
      let (f, first) ← holding [ov] (getMethod ov m pl)
      callWith pos f first (backTo pos (starEach [] X.env)) (backToKw pos (keywordEach [] X.env)))) :
    IE X (.Call (.Attribute o m apos) [] [] pos) (fun σ => bnd (g σ) fun x => bnd (isA x c m) fun _ => bnd (ok []) fun rs => mm (x :: rs)) := by
  obtain ⟨C, f, fd, ps, hc, cl, hm, F, hb⟩ := hM.ex
  refine PE.imp (pe_meth0 ho cl hm F hr hb .nil pass0 ht) fun σ H Q q0 => ?_
  obtain ⟨μ, h, env, R0, re, r, h', ee, k⟩ := q0
  simp only [bnd_some, ok_some] at ee
  obtain ⟨x, h1, e1, _, h1', e0, rs, h2, ⟨rfl, rfl⟩, e3⟩ := ee
  obtain ⟨l, fs0, rfl, ho1, hnone, rfl⟩ := isA_some e0
  refine ⟨μ, h, env, R0, re, .loc l, _, e1, fun μ1 H1 v s1 R1 q1 => ?_⟩
  obtain ⟨a, ea, rfl⟩ := id q1
  obtain ⟨C', dx, fs', hC, eH, rel⟩ := R1.obj l a _ ea ho1
  have hCC : C' = C := by have := hC.1; rw [hc] at this; cases this; rfl
  subst hCC
  refine ⟨a, dx, fs', rfl, eH, relF_none rel hnone, ?_⟩
  have hlen := hM.len _ _ _ e3
  have qq : RepRs X.K μ1 h1' H1 [.loc l] [.ref a] := .cons ⟨a, ea, rfl⟩ .nil
  exact ⟨by rw [← hlen]; rfl, μ1, _, [.loc l], R1, qq, r, h', e3, fun μ3 H3 w s3 R3 q3 => k μ3 H3 w (s1.trans s3) R3 q3⟩
/-- C(..) -/
theorem ie_make {n np : Nat} {c : Str} {mm : List R → M R} {e : Expr} {es : List Expr} {p pos : Pos} {fs : IT.Env → M (List R)} (hM : MakeAt X n c np mm) (hr : Room (n + 1) X.A) (hg : Gl X c) (ha : IA X (e :: es) fs)
    (hdb : (c == ("__debug__" : Str)) = false) (hst : starEach (e :: es) X.env = (false, eval e X.env) :: starEach es X.env) (hpl : (backTo pos (starEach es X.env)).any (·.1) = false) :
    IE X (.Call (.Name c p) (e :: es) [] pos) (fun σ => bnd (fs σ) fun rs => bnd (newA c) fun x => bnd (mm (x :: rs)) fun r => match r with
      | .d .non => ok x
      | _ => fun _ => none) := by
  obtain ⟨C, f, fd, ps, hmg, hc, cl, hm, F, hb⟩ := hM.ex
  refine PE.imp (pe_make hm F hr hg hmg hb .nil pass0 ha hdb hst hpl) fun σ H Q q0 => ?_
  obtain ⟨μ, h, env, R0, re, r, h', ee, k⟩ := q0
  simp only [bnd_some, newA, Option.some.injEq, Prod.mk.injEq] at ee
  obtain ⟨rs, h1, e1, x, h2, ⟨rfl, rfl⟩, r1, h3, e3, e4⟩ := ee
  refine ⟨μ, h, env, R0, re, rs, h1, e1, fun μ1 H1 vs s1 R1 q1 a dx na nd ne => ?_⟩
  have hlen := hM.len _ _ _ e3
  have sO : Stp μ1 h1 H1 μ1 h1 (upd H1 dx (.own a)) := Stp.fresh nd
  have RO : Rep X.K μ1 h1 (upd H1 dx (.own a)) := R1.fresh nd
  have na' : upd H1 dx (.own a) a = none := by rw [upd_ne (Ne.symm ne)]; exact na
  have sA : Stp μ1 h1 (upd H1 dx (.own a)) (μ1 ++ [a]) (h1 ++ [.ins c []]) (upd (upd H1 dx (.own a)) a (.ins C dx [])) := Stp.allocO RO na'
  have RA : Rep X.K (μ1 ++ [a]) (h1 ++ [.ins c []]) (upd (upd H1 dx (.own a)) a (.ins C dx [])) := RO.allocO na' ⟨C, dx, [], ⟨hc, cl, by simp⟩, upd_same, .nil⟩
  have sOA := sO.trans sA
  have hat : (μ1 ++ [a])[h1.length]? = some a := by rw [← R1.len]; simp
  have qq : RepRs X.K (μ1 ++ [a]) (h1 ++ [.ins c []]) (upd (upd H1 dx (.own a)) a (.ins C dx [])) (.loc h1.length :: rs) (.ref a :: (vs ++ [])) := .cons ⟨a, hat, rfl⟩ (by rw [List.append_nil]; exact q1.stp sOA R1)
  refine ⟨by rw [← qq.length]; exact hlen, _, _, .loc h1.length :: rs, RA, qq, r1, h3, e3, fun μ3 H3 w s3 R3 q3 => ?_⟩
  split at e4
  · simp only [ok_some] at e4
    obtain ⟨rfl, rfl⟩ := e4
    simp only [RepR, RepD] at q3
    exact ⟨q3, k μ3 H3 (.ref a) (s1.trans (sOA.trans s3)) R3 ⟨a, s3.pre _ _ hat, rfl⟩⟩
  · cases e4
/-! ### enumerate -/
/-- two records turn -/
theorem turned2 {pins : List (Addr × Obj)} {σ : St} {H : Hp} {s : Shared} {h' : Heap} {t' : Nat} {e it : Addr} (I : Inv X pins σ H s) (k : ∀ b o, b ≠ e → b ≠ it → s.heap.get? b = some o → h'.get? b = some o) (fe : FpOk X pins H e) (fi : FpOk X pins H it) : Inv X pins σ H { s with heap := h', toks := t' } := by
  obtain ⟨e0, e1, e2, e3, e4, e5⟩ := fe
  obtain ⟨i0, i1, i2, i3, i4, i5⟩ := fi
  have ne : ∀ b u, H b = some u → b ≠ e := fun b u q z => by rw [z, e0] at q; cases q
  have ni : ∀ b u, H b = some u → b ≠ it := fun b u q z => by rw [z, i0] at q; cases q
  have nc : ∀ b, b ∉ [e, it] → b ≠ e ∧ b ≠ it := fun b hb => ⟨fun z => hb (by simp [z]), fun z => hb (by simp [z])⟩
  refine I.step (g' := s.gens) (d' := s.drawn) (ch := [e, it]) (fun b hb => ?_) (fun b o _ _ hc q _ => k b o (nc b hc).1 (nc b hc).2 q) (fun b o _ _ hc q _ => ⟨o.slots, k b o (nc b hc).1 (nc b hc).2 q⟩) (fun _ _ _ _ n => n)
    (fun b o hc q => ⟨o, k b o (nc b hc).1 (nc b hc).2 q⟩) (fun _ _ q => q) (fun _ _ _ q => q) (fun b ps q => ⟨#[], by rw [q]; simp⟩) (fun m hm => ?_) (fun b u q => ?_) I.bare
  · rcases List.mem_cons.mp hb with z | z
    · subst z; exact ⟨e3, e1, e4, e5⟩
    · have z : b = it := by simpa using z
      subst z; exact ⟨i3, i1, i4, i5⟩
  · obtain ⟨o, es, ep, ho, r⟩ := hm
    exact ⟨o, es, ep, k _ o (Ne.symm e1) (Ne.symm i1) ho, r⟩
  · refine (I.hok b u q).stay (fun c v hc q' => k c v ?_ ?_ q') (fun _ q => q) fun _ _ q => q
    · rcases hc with z | z
      · rw [z]; exact ne b u q
      · exact ne c _ z
    · rcases hc with z | z
      · rw [z]; exact ni b u q
      · exact ni c _ z
/-- an object that is there is tracked -/
theorem track {pins : List (Addr × Obj)} {σ : St} {H : Hp} {s : Shared} {T : Addr} {o : HO} (I : Inv X pins σ H s) (f : FpOk X pins H T) (new : ObjOk X.prog X.w (upd H T o) s.heap T o) : Inv X pins σ (upd H T o) s := by
  obtain ⟨f0, f1, f2, f3, f4, f5⟩ := f
  have nT : ∀ b u, H b = some u → b ≠ T := fun b u q z => by rw [z, f0] at q; cases q
  refine I.step (g' := s.gens) (d' := s.drawn) (t' := s.toks) (h' := s.heap) (ch := [T]) (fun b hb => ?_) (fun b o _ _ hc q _ => q) (fun b o _ _ hc q _ => ⟨o.slots, q⟩) (fun b _ hb _ n => by rw [upd_ne (fun z => hb (by simp [z]))]; exact n)
    (fun b o hc q => ⟨o, q⟩) (fun b _ q => by rw [upd_ne (nT b _ q)]; exact q) (fun b _ _ q => by rw [upd_ne (nT b _ q)]; exact q) (fun b ps q => ⟨#[], by rw [upd_ne (nT b _ q), q]; simp⟩) (fun m hm => hm) (fun b u q => ?_) I.bare
  · have z : b = T := by simpa using hb
    subst z; exact ⟨f3, f1, f4, f5⟩
  · by_cases hb : b = T
    · subst hb; rw [upd_same] at q; cases q; exact new
    · rw [upd_ne hb] at q
      exact (I.hok b u q).stay (fun c v hc q' => q') (fun c q' => by rw [upd_ne (nT c _ q')]; exact q') fun c xs q' => by rw [upd_ne (nT c _ q')]; exact q'
noncomputable def Ien (K : PySem.W.Frag) (a : Addr) : L2.It := ⟨(Itl K a).go, fun i H v H' => ∃ p x, v = .ref p ∧ H p = none ∧ H' = upd H p (.tup [.int i, x]) ∧ ∀ xs, SqL K H a xs → xs[i]? = some x, (Itl K a).stop⟩
theorem turn_enum {P : Program} {w : World} {K : PySem.W.Frag} {elts : List Expr} {x1 : _} {tpos : Pos} (a e it : Addr) (hne : e ≠ it) : Turn P w K (.Tuple elts x1 tpos) (Ien K a) [e, it] e (fun i h => ∃ old, IsEnum h e it i old ∧ h.IsListIter it a i) where
  mem := by simp
  obj := fun i h st b hb => by
    obtain ⟨old, he, hit⟩ := st
    rcases List.mem_cons.mp hb with z | z
    · subst z; exact ⟨_, he, fun v z => by cases z⟩
    · have z : b = it := by simpa using z
      subst z
      obtain ⟨o, ho, c, d⟩ := hit
      exact ⟨o, ho, fun v z => by rw [d] at z; cases z⟩
  keep := fun i h h' st k => by
    obtain ⟨old, he, hit⟩ := st
    exact ⟨old, k e (by simp) _ he, hit.at fun o q => k it (by simp) o q⟩
  item := by
    intro X hP hw hK hc i pins s σ H E I hf st hg
    subst hP hw hK
    obtain ⟨old, he, hit⟩ := st
    obtain ⟨xs, x, hq, hx⟩ := hg
    obtain ⟨its, rv, p, hz⟩ := I.list hq
    obtain ⟨u, hu, ru⟩ := rv.get hx
    have fe := hf e (by simp)
    have fi := hf it (by simp)
    have fT : FpOk X pins H s.heap.objs.size := I.fpOk (Nat.le_refl _) (I.hok.fresh (Nat.le_refl _))
    have lte : e < s.heap.objs.size := Heap.lt_size he
    have lti : it < s.heap.objs.size := by obtain ⟨o, ho, _⟩ := id hit; exact Heap.lt_size ho
    refine wpAny_pyNext_enum_item he hit p.isList (x := u) (by simpa using hu) hne fun h1 ho1 hit1 hT hsz hk => ?_
    refine ⟨.ref s.heap.objs.size, rfl, wpAny_letOwnedTupleGo_enum (s := { s with heap := h1, toks := s.toks + 1 }) ho1 fun h2 he2 hs2 => ?_⟩
    have hk2 : ∀ b o, b ≠ e → b ≠ it → s.heap.get? b = some o → h2.get? b = some o := fun b o hb1 hb2 q => (hs2.2 b hb1).trans (hk b o hb1 hb2 q)
    have I1 : Inv X pins σ H { s with heap := h2, toks := s.toks + 1 } := turned2 I hk2 fe fi
    have hT2 : h2.get? s.heap.objs.size = some { cls := .type "tuple", data := .seq #[.int i s.toks, u] } := (hs2.2 _ (Nat.ne_of_gt lte)).trans hT
    have I2 : Inv X pins σ (upd H s.heap.objs.size (.tup [.int i, x])) { s with heap := h2, toks := s.toks + 1 } := track I1 fT ⟨show 2 ≤ sizeLine by decide, [.int i s.toks, u], .cons ⟨_, rfl⟩ (.cons ru .nil), ⟨_, hT2, rfl, _, rfl⟩, fun o q => by
      have q : h2.get? s.heap.objs.size = some o := q
      rw [hT2] at q; cases q; rfl⟩
    refine ⟨.ref s.heap.objs.size, _, I2, rfl, ⟨s.heap.objs.size, x, rfl, fT.1, rfl, fun ys hy => by rw [I.list_inj hy hq]; exact hx⟩, ⟨u, by simpa using he2, hit1.at fun o q => (hs2.2 it (Ne.symm hne)).trans q⟩, fun b hb => ?_⟩
    have hb' : b ≠ s.heap.objs.size := by
      rcases List.mem_cons.mp hb with z | z
      · rw [z]; exact Nat.ne_of_lt lte
      · have z : b = it := by simpa using z
        rw [z]; exact Nat.ne_of_lt lti
    rw [upd_ne hb']
    exact (hf b hb).1
  done := by
    intro X hP hw hK hc i pins s σ H E I hf st hg
    subst hP hw hK
    obtain ⟨old, he, hit⟩ := st
    obtain ⟨xs, hq, hx⟩ := hg
    obtain ⟨its, rv, p, hz⟩ := I.list hq
    obtain ⟨f0, f1, f2, f3, f4, f5⟩ := hf it (by simp)
    have hl := rv.length
    exact wpAny_pyNext_enum_end (I.ok.hd hc) he hit p.isList (by simp; omega) fun h' eb => ⟨rfl, I.turned (t' := s.toks) (fun b o hb q => eb b o hb q) f0 f1 f3 f4 f5⟩
  self := fun _ _ _ _ _ st h => by
    obtain ⟨old, he, _⟩ := st
    exact wpAny_pyIter_enum he h
theorem enu_get : ∀ (xs ys : List Ite) (k : Int) (i : Nat) (x : Ite), enuFrom k xs = some ys → ys[i]? = some x → ∃ r, xs[i]? = some (.r r) ∧ x = .en (k + i) r
  | [], ys, k, i, x, e, q => by simp [enuFrom] at e; subst e; simp at q
  | .en _ _ :: _, _, _, _, _, e, _ => by simp [enuFrom] at e
  | .r r :: t, ys, k, i, x, e, q => by
    simp only [enuFrom] at e
    cases et : enuFrom (k + 1) t with
    | none => rw [et] at e; cases e
    | some l =>
      rw [et] at e
      simp only [Option.some.injEq] at e
      subst e
      cases i with
      | zero => simp at q; subst q; exact ⟨r, rfl, by simp⟩
      | succ i =>
        obtain ⟨r', e1, e2⟩ := enu_get t l (k + 1) i x et (by simpa using q)
        exact ⟨r', by simpa using e1, by rw [e2]; congr 1; push_cast; omega⟩
theorem enu_len : ∀ (xs ys : List Ite) (k : Int), enuFrom k xs = some ys → ys.length = xs.length
  | [], ys, k, e => by simp [enuFrom] at e; subst e; rfl
  | .en _ _ :: _, _, _, e => by simp [enuFrom] at e
  | .r r :: t, ys, k, e => by
    simp only [enuFrom] at e
    cases et : enuFrom (k + 1) t with
    | none => rw [et] at e; cases e
    | some l =>
      rw [et] at e
      simp only [Option.some.injEq] at e
      subst e
      simp [enu_len t l (k + 1) et]
theorem wlk_enu {K : PySem.W.Frag} {a : Addr} {w : Wk} {ys : List Ite} {μ : List Addr} {h : Sto} {H : Hp} (W : Wlk K (Itl K a) w μ h H) (e : enuFrom 0 w.xs = some ys) : Wlk K (Ien K a) ⟨ys, w.l⟩ μ h H := by
  refine ⟨fun μ1 h1 H1 i x st R1 sy q => ?_, fun μ1 h1 H1 st R1 sy => ?_⟩
  · obtain ⟨r, e1, rfl⟩ := enu_get _ _ _ _ _ e q
    obtain ⟨go, yld⟩ := W.go μ1 h1 H1 i _ st R1 sy e1
    refine ⟨go, fun v H' ⟨p, x, hv, hp, hH, hx⟩ => ?_⟩
    subst hv hH
    obtain ⟨_, _, zr⟩ := yld x H1 ⟨rfl, hx⟩
    exact ⟨Stp.fresh hp, R1.fresh hp, p, x, rfl, by rw [upd_same]; simp, RepR.stp (Stp.fresh hp) R1 zr⟩
  · show (Itl K a).stop ys.length H1
    rw [enu_len _ _ _ e]
    exact W.stop μ1 h1 H1 st R1 sy
theorem pi_enu {l : Expr} {ta : TA} {elts : List Expr} {x1 : _} {tpos p pos : Pos} (hg : Gl X "enumerate") (hm : X.mg "enumerate" = none) (ha : PA X [l] ta) (hs : starEach [l] X.env = [(false, eval l X.env)]) :
    PI X (.Tuple elts x1 tpos) (.Call (.Name "enumerate" p) [l] [] pos) (fun σ H R => ta σ H fun vs H1 => ∃ a xs, vs = [.ref a] ∧ SqL X.K H1 a xs ∧ (xs.length ≤ sizeLine → R (Ien X.K a) H1)) := by
  intro pins s σ H R I h
  refine PyProof.Rows.Call_ (ld_blt I hg hm PyProof.Rows.boot_enumerate (PyProof.Rows.callWith_type1 (thn (ha pos pins s σ H _ I h) fun us s1 ⟨vs, H1, I1, r1, q1⟩ => ?_) hs rfl))
  obtain ⟨a, xs, rfl, hq, q⟩ := q1
  obtain ⟨u, rfl, rx⟩ := vals1 r1
  cases rx
  obtain ⟨its, rv, pl, hz⟩ := I1.list hq
  refine call_enumerate_list pl.isList fun h' he hit hsz hk => ?_
  refine wpAny_pyIter_enum (s := { s1 with heap := h' }) he ?_
  have I2 : Inv X pins σ H1 { s1 with heap := h' } := I1.kept (t' := s1.toks) hk
  refine ⟨s1.heap.objs.size + 1, [s1.heap.objs.size + 1, s1.heap.objs.size], _, _, H1, rfl, I2, turn_enum a _ _ (Nat.ne_of_gt (Nat.lt_succ_self _)), ⟨.none, he, hit⟩, fun b hb => ?_, q hz⟩
  rcases List.mem_cons.mp hb with z | z
  · subst z; exact I1.fpOk (Nat.le_succ _) (I1.hok.fresh (Nat.le_succ _))
  · have z : b = s1.heap.objs.size := by simpa using z
    subst z; exact I1.fpOk (Nat.le_refl _) (I1.hok.fresh (Nat.le_refl _))
theorem wk_okL {K : PySem.W.Frag} {μ : List Addr} {h h' : Sto} {H : Hp} {r : R} {v : V} {w : Wk} (il : isLs r = true) (R1 : Rep K μ h H) (q1 : RepR K μ h H r v) (e : wkAny r h = some (w, h')) : h' = h ∧ ∃ a vs, v = .ref a ∧ SqL K H a vs ∧ vs.length = w.xs.length ∧ Wlk K (Itl K a) w μ h H := by
  (delta wkAny at e; simp only [bnd_some] at e)
  obtain ⟨o, h1, e1, e2⟩ := e
  obtain ⟨rfl, ho⟩ := olsOf_some e1
  cases o with
  | some ls =>
    obtain ⟨l, rfl, ho⟩ := ho
    obtain ⟨a, ea, rfl⟩ := q1
    simp only [ok_some] at e2
    obtain ⟨rfl, rfl⟩ := e2
    obtain ⟨vs, q2, z2⟩ := R1.obj l a _ ea ho
    exact ⟨rfl, a, vs, rfl, .inl (.inl q2), by rw [List.length_map]; exact z2.length.symm, wlk_ols R1 ea ho⟩
  | none =>
    simp only [bnd_some] at e2
    obtain ⟨d, h2, e3, e4⟩ := e2
    cases r with
    | loc l =>
      obtain ⟨a, ea, rfl⟩ := q1
      obtain ⟨o, ho, il, rfl, rfl⟩ := rd_loc e3
      obtain ⟨vs, q2, z2⟩ := R1.placeL ea ho il
      (delta wkOf items at e4; (try dsimp only at e4); simp only [ok_some] at e4)
      obtain ⟨rfl, rfl⟩ := e4
      exact ⟨rfl, a, vs, rfl, .inl (.inl q2), by rw [List.length_map]; exact z2.length.symm, wlk_loc R1 ea ho il⟩
    | d x =>
      simp only [rd, ok_some] at e3
      obtain ⟨rfl, rfl⟩ := e3
      cases x with
      | lst xs =>
        (delta wkOf items at e4; (try dsimp only at e4); simp only [ok_some] at e4)
        obtain ⟨rfl, rfl⟩ := e4
        simp only [RepR, RepD] at q1
        obtain ⟨a, vs, rfl, q2, z2⟩ := q1
        exact ⟨rfl, a, vs, rfl, q2.sq, by rw [List.length_map]; exact z2.length.symm, wlk_list R1 q2 z2⟩
      | _ => cases il
theorem ii_enu {l : Expr} {elts : List Expr} {x1 : _} {tpos p pos : Pos} {f : IT.Env → M R} (hg : Gl X "enumerate") (hm : X.mg "enumerate" = none) (hl : IE X l f) (hs : starEach [l] X.env = [(false, eval l X.env)]) :
    PI X (.Tuple elts x1 tpos) (.Call (.Name "enumerate" p) [l] [] pos) (tI X.K fun σ => bnd (f σ) fun r => wkEnu r) := by
  refine PI.imp (pi_enu hg hm (pa_cons hl pa_nil hs) hs) fun σ H R q0 => ?_
  obtain ⟨μ, h, env, R0, re, w, h', e, k⟩ := q0
  simp only [bnd_some] at e
  obtain ⟨r, h1, e1, e2⟩ := e
  refine ⟨μ, h, env, R0, re, r, h1, e1, fun μ1 H1 v s1 R1 q1 => ?_⟩
  unfold wkEnu at e2
  split at e2
  · rename_i il
    simp only [bnd_some] at e2
    obtain ⟨w0, h2, e3, e4⟩ := e2
    obtain ⟨rfl, a, vs, rfl, q2, hl2, W⟩ := wk_okL il R1 q1 e3
    cases en : enuFrom 0 w0.xs with
    | none => rw [en] at e4; cases e4
    | some ys =>
      rw [en] at e4
      simp only [ok_some] at e4
      obtain ⟨rfl, rfl⟩ := e4
      exact ⟨a, vs, rfl, q2, fun hz => k μ1 H1 _ s1 R1 (wlk_enu W en) (by show ys.length ≤ sizeLine; rw [enu_len _ _ _ en, ← hl2]; exact hz)⟩
  · cases e2
/-! ### lists of instances -/
theorem ie_oix {a i : Expr} {pos : Pos} {f g : IT.Env → M R} (ha : IE X a f) (hi : IE X i g) (hs : PlainIx i) : IE X (.Subscript a i pos) (fun σ => bnd (f σ) fun x => bnd (g σ) fun y => bnd (olsOf x) fun o => match o, y with
    | some ls, .d (.int k) => match at' ls k with
      | some l => ok (.loc l)
      | none => fun _ => none
    | _, _ => fun _ => none) := by
  refine PE.imp (pe_ix ix_list ha hi hs) fun σ H Q q0 => ?_
  obtain ⟨μ, h, env, R0, re, r, h', e, k⟩ := q0
  simp only [bnd_some] at e
  obtain ⟨x, h1, e1, y, h2, e2, o, h3, e3, e4⟩ := e
  refine ⟨μ, h, env, R0, re, x, h1, e1, fun μ1 H1 v s1 R1 q1 => ⟨μ1, h1, env, R1, re.stp s1 R0, y, h2, e2, fun μ2 H2 u s2 R2 q2 => ?_⟩⟩
  obtain ⟨rfl, ho⟩ := olsOf_some e3
  split at e4
  · rename_i ls kk
    obtain ⟨l, rfl, ho⟩ := ho
    obtain ⟨p, ep, rfl⟩ := q1.stp s2 R1
    cases ea : at' ls kk with
    | none => rw [ea] at e4; cases e4
    | some j =>
      rw [ea] at e4
      simp only [ok_some] at e4
      obtain ⟨rfl, rfl⟩ := e4
      obtain ⟨vs, q3, z3⟩ := R2.obj l p _ ep ho
      obtain ⟨jj, f1, f2⟩ := atI_of ea
      obtain ⟨w, f3, b, eb, rfl⟩ := paired_get z3 f2
      simp only [RepR, RepD] at q2
      refine ⟨p, vs, kk, .ref b, rfl, q2, .inl (.inl q3), ?_, k μ2 H2 _ (s1.trans s2) R2 ⟨b, eb, rfl⟩⟩
      unfold atI
      rw [← z3.length, f1]
      exact f3
  · cases e4
/-- len(x), x a list of instances -/
theorem ie_olen {e : Expr} {p pos : Pos} {f : IT.Env → M R} (hg : Gl X "len") (hm : X.mg "len" = none) (he : IE X e f) (hs : starEach [e] X.env = [(false, eval e X.env)]) : IE X (.Call (.Name "len" p) [e] [] pos) (fun σ => bnd (f σ) fun x => bnd (olsOf x) fun o => match o with
    | some ls => ok (.d (.int ls.length))
    | none => fun _ => none) := by
  refine PE.imp (pe_callB call_len hg hm (by decide +kernel) (pa_cons he pa_nil hs) (by decide) (by decide) hs rfl) fun σ H Q q0 => ?_
  obtain ⟨μ, h, env, R0, re, r, h', e, k⟩ := q0
  simp only [bnd_some] at e
  obtain ⟨x, h1, e1, o, h2, e2, e3⟩ := e
  refine ⟨μ, h, env, R0, re, x, h1, e1, fun μ1 H1 v s1 R1 q1 => ?_⟩
  obtain ⟨rfl, ho⟩ := olsOf_some e2
  cases o with
  | none => cases e3
  | some ls =>
    simp only [ok_some] at e3
    obtain ⟨rfl, rfl⟩ := e3
    obtain ⟨l, rfl, ho⟩ := ho
    obtain ⟨a, ea, rfl⟩ := q1
    obtain ⟨vs, q3, z3⟩ := R1.obj l a _ ea ho
    exact ⟨.ref a, vs.length, rfl, .inl ⟨vs, .inl (.inl q3), rfl⟩, k μ1 H1 _ s1 R1 (by simp only [RepR, RepD]; rw [z3.length])⟩
end
end IT

set_option linter.all false
set_option maxHeartbeats 4000000
set_option maxRecDepth 100000
/-! Does the small language say what the text says? A look that can be reckoned. -/
namespace IT
open PySem PySem.Spec L2
theorem noT {P : Prop} (h : false = true) : P := by cases h
theorem noF {P : Prop} (h : true = false) : P := by cases h

/-- a class: its name, its __init__, its attributes, its methods -/
structure CInfo where
  name : Str
  init : Nat
  fields : List Str
  meths : List (Str × Nat)
structure Cst where
  N : List Str
  names : List (Str × NameKind)
  fns : List (Str × Nat × List D)
  globs : List (Str × D)
  top : Bool
  cls : List CInfo

noncomputable def notStar : Expr → Bool
  | .Starred _ _ => false
  | _ => true
noncomputable def visB (C : Cst) (x : Str) : Bool := match C.names.lookup x with
  | some .local => true
  | some .cell => true
  | some .free => true
  | _ => false
noncomputable def locB (C : Cst) (x : Str) : Bool := match C.names.lookup x with
  | some .local => true
  | some .cell => C.top
  | _ => false
noncomputable def globB (C : Cst) (x : Str) : Bool := match C.names.lookup x with
  | some .globalImplicit => true
  | _ => false
noncomputable def plainName (x : Str) : Bool := !(x == ("__debug__" : Str)) && !(x == ("__classdict__" : Str))
noncomputable def conB : D → Const → Bool
  | .non, .none => true
  | .bl b, .bool c => b == c
  | .int i, .int j => i == j
  | .str x, .str y => toStr x == y
  | _, _ => false
noncomputable def boB : Bo → Operator → Bool
  | .add, .Add => true
  | .mul, .Mult => true
  | .fdiv, .FloorDiv => true
  | .mod, .Mod => true
  | .pow, .Pow => true
  | .band, .BitAnd => true
  | _, _ => false
noncomputable def coB : Co → CmpOp → Bool
  | .eq, .Eq => true
  | .ne, .NotEq => true
  | .lt, .Lt => true
  | .gt, .Gt => true
  | .ge, .GtE => true
  | .isin, .In => true
  | .isN, .Is => true
  | .isnotN, .IsNot => true
  | _, _ => false
noncomputable def biS : Bi → Str
  | .len => "len"
  | .tuple => "tuple"
  | .int => "int"
  | .all => "all"
  | .any => "any"
  | .min => "min"
noncomputable def meS : Me → Str
  | .append => "append"
  | .pop => "pop"
  | .clear => "clear"
  | .extend => "extend"
/-- what is looked for (a smaller proof may leave some out) -/
noncomputable def biOn : Bi → Bool
  | .len => true
  | .tuple => true
  | .int => true
  | .all => true
  | .any => true
  | .min => true
noncomputable def meOn : Me → Bool
  | .append => true
  | .pop => false
  | .clear => true
  | .extend => true
noncomputable def baseB : Expr → Bool
  | .Call _ [] _ _ => false
  | _ => true
noncomputable def me0 : Me → Bool
  | .pop => true
  | .clear => true
  | _ => false
noncomputable def isName : Expr → Bool
  | .Name _ _ => true
  | _ => false
noncomputable def isSet : Expr → Bool
  | .Set _ _ _ => true
  | _ => false
noncomputable def isSlice : Expr → Bool
  | .Slice _ _ _ _ => true
  | _ => false
noncomputable def isNonCon : E → Bool
  | .con .non => true
  | _ => false
/-- its truth is its value's -/
noncomputable def plainTest : Expr → Bool
  | .UnaryOp .Not _ _ => false
  | .BoolOp _ _ _ => false
  | .IfExp _ _ _ _ => false
  | .Compare _ _ _ _ => false
  | _ => true
noncomputable def isCompare : Expr → Bool
  | .Compare _ _ _ _ => true
  | _ => false
noncomputable def mangle (x : Str) : Str := ("?" : Str) ++ x
noncomputable def relN (outer names : List (Str × NameKind)) : List (Str × NameKind) :=
  names.map fun (n, k) => if (k == NameKind.free && outer.lookup n == some .cell) then (n, .cell) else (n, k)
/-! the names of a target with their slots -/
mutual
noncomputable def tgNames : Tg → Expr → List (Nat × Str)
  | .name i, e => match e with
    | .Name x _ => [(i, x)]
    | _ => []
  | .tup ts, e => match e with
    | .Tuple xs _ _ => tgNamess ts xs
    | _ => []
noncomputable def tgNamess : List Tg → List Expr → List (Nat × Str)
  | [], _ => []
  | t :: ts, es => match es with
    | e :: es => tgNames t e ++ tgNamess ts es
    | [] => []
end
/-- the slots' names within a comprehension's block: its own ones as they are called there, outer ones of the same name hidden -/
noncomputable def blkN (N : List Str) (own : List (Nat × Str)) : List Str :=
  own.foldl (fun M p => M.set p.1 p.2) (N.map fun x => if own.any (fun p => p.2 == x) then mangle x else x)
noncomputable def blkC (C : Cst) (sc : Scope) (own : List (Nat × Str)) : Cst := { N := blkN C.N own, names := relN C.names sc.names, fns := C.fns, globs := C.globs, top := false, cls := C.cls }
noncomputable def slotB (C : Cst) (C' : Cst) (own : List Nat) (i : Nat) (x : Str) : Bool := match C'.names.lookup x with
  | some .local => own.contains i
  | some .cell | some .free => own.contains i || (C.N[i]? == some x && (C.names.lookup x == some .cell || C.names.lookup x == some .free))
  | _ => true
noncomputable def compB (C : Cst) (sc : Scope) (C' : Cst) (own : List Nat) : Bool :=
  sc.kind == .function && sc.names.all (fun y => y.2 != .cell) && sc.names.all (fun x => x.2 != .local || sc.names.lookup x.1 == some .local)
  && sc.names.all (fun x => x.2 != .free || C.names.lookup x.1 == some .cell || C.names.lookup x.1 == some .free)
  && (List.range C'.N.length).all (fun i => match C'.N[i]? with | some x => slotB C C' own i x | none => true)
  && C'.N.length == C.N.length && decide C'.N.Nodup
mutual
noncomputable def chkTg (C : Cst) : Tg → Expr → Bool
  | .name i, e => match e with
    | .Name x _ => C.N[i]? == some x && locB C x
    | _ => false
  | .tup ts, e => match e with
    | .Tuple xs _ _ => chkTgs C ts xs
    | _ => false
noncomputable def chkTgs (C : Cst) : List Tg → List Expr → Bool
  | [], es => match es with
    | [] => true
    | _ => false
  | t :: ts, es => match es with
    | e :: es => notStar e && chkTg C t e && chkTgs C ts es
    | [] => false
end
/-- enumerate is unpacked -/
noncomputable def enuB : I → Expr → Bool
  | .enu _, e => match e with
    | .Tuple _ _ _ => true
    | _ => false
  | _, _ => true
mutual
noncomputable def chkE : E → Cst → Expr → Bool
  | .con d, _, e => match e with
    | .Constant c _ _ => conB d c
    | _ => false
  | .var i, C, e => match e with
    | .Name x _ => C.N[i]? == some x && visB C x && plainName x
    | _ => false
  | .bin o a b, C, e => match e with
    | .BinOp l op r _ => boB o op && chkE a C l && chkE b C r
    | _ => false
  | .neg a, C, e => match e with
    | .UnaryOp .USub x _ => chkE a C x
    | _ => false
  | .cmp o a b, C, e => match e with
    | .Compare l [op] [r] _ => coB o op && chkE a C l && chkE b C r && !isSet r
    | _ => false
  | .and a b, C, e => match e with
    | .BoolOp .And (v :: w :: rest) pos => chkE a C v && (match rest with | [] => chkE b C w | y :: ys => chkE b C (.BoolOp .And (w :: y :: ys) pos))
    | _ => false
  | .or a b, C, e => match e with
    | .BoolOp .Or (v :: w :: rest) pos => chkE a C v && (match rest with | [] => chkE b C w | y :: ys => chkE b C (.BoolOp .Or (w :: y :: ys) pos))
    | _ => false
  | .not a, C, e => match e with
    | .UnaryOp .Not x _ => chkE a C x
    | _ => false
  | .ife c a b, C, e => match e with
    | .IfExp t x y _ => chkT c C t && chkE a C x && chkE b C y
    | _ => false
  | .tup es, C, e => match e with
    | .Tuple xs _ _ => chkEs es C xs && decide (xs.length ≤ 1000)
    | _ => false
  | .lst _ l, C, e => chkL l C e
  | .idx a i, C, e => match e with
    | .Subscript x y _ => chkE a C x && chkE i C y && !isSlice y
    | _ => false
  | .sli a lo hi, C, e => match e with
    | .Subscript x (.Slice l u none _) _ => chkE a C x && (match l with | none => isNonCon lo | some y => chkE lo C y) && (match u with | none => isNonCon hi | some y => chkE hi C y)
    | _ => false
  | .call f es, C, e => match e with
    | .Call (.Name x _) (v :: vs) [] _ => (match C.fns[f]? with | some p => p.1 == x | none => false) && globB C x && plainName x && chkEs es C (v :: vs)
    | _ => false
  | .bi b es, C, e => match e with
    | .Call (.Name x _) (v :: vs) [] _ => (biOn b && x == biS b) && globB C x && chkEs es C (v :: vs)
    | _ => false
  | .me m o es, C, e => match e with
      | .Call (.Attribute ov name apos) (v :: vs) [] cpos => (!me0 m && meOn m) && name == meS m && isName ov && chkE o C ov && chkEs es C (v :: vs) && apos.endLine == cpos.line && decide ((v :: vs).length < 20)
      | .Call (.Attribute ov name apos) [] [] cpos => (me0 m && meOn m) && name == meS m && isName ov && chkE o C ov && chkEs es C [] && apos.endLine == cpos.line
      | _ => false
  | .glo d, C, e => match e with
    | .Name x _ => (match C.globs.lookup x with | some d' => D.same d d' | none => false) && globB C x && plainName x
    | _ => false
  | .isi t a, C, e => match e with
    | .Call (.Name x _) [v, .Name y _] [] _ => x == ("isinstance" : Str) && globB C x && notStar v && chkE a C v && y == Str.ofString (tyS t) && globB C y
    | _ => false
  | .fld o f, C, e => match e with
    | .Attribute ov name _ => name == f && baseB ov && chkE o C ov
    | _ => false
  | .make c f es, C, e => match e with
    | .Call (.Name x _) (v :: vs) [] _ => x == c && (C.cls.any fun i => i.name == c && i.init == f) && globB C x && plainName x && chkEs es C (v :: vs)
    | _ => false
  | .mc c m f o es, C, e => match e with
    | .Call (.Attribute ov name apos) (v :: vs) [] cpos => name == m && (C.cls.any fun i => i.name == c && i.meths.contains (m, f)) && isName ov && chkE o C ov && chkEs es C (v :: vs) && apos.endLine == cpos.line && decide ((v :: vs).length < 20)
    | .Call (.Attribute ov name apos) [] [] cpos => name == m && (C.cls.any fun i => i.name == c && i.meths.contains (m, f)) && isName ov && chkE o C ov && chkEs es C [] && apos.endLine == cpos.line
    | _ => false
  | .lstO tg it cs el, C, e => match e with
    | .ListComp elt [g] sc _ => g.is_async == 0 && !isSet g.iter && compB C sc (blkC C sc (tgNames tg g.target)) tg.slots && (chkTg (blkC C sc (tgNames tg g.target)) tg g.target && enuB it g.target) && chkI it C g.iter
        && chkTs cs (blkC C sc (tgNames tg g.target)) g.ifs && chkE el (blkC C sc (tgNames tg g.target)) elt
    | _ => false
  | .oix a i, C, e => match e with
    | .Subscript x y _ => chkE a C x && chkE i C y && !isSlice y
    | _ => false
  | .olen a, C, e => match e with
    | .Call (.Name x _) [v] [] _ => x == ("len" : Str) && globB C x && notStar v && chkE a C v
    | _ => false
  | .stuck, _, _ => true
noncomputable def chkEs : List E → Cst → List Expr → Bool
  | [], _, es => match es with
    | [] => true
    | _ => false
  | a :: as, C, es => match es with
    | e :: es => notStar e && chkE a C e && chkEs as C es
    | [] => false
noncomputable def chkT : T → Cst → Expr → Bool
  | .val a, C, e => chkE a C e && (plainTest e || isCompare e)
  | .and a b, C, e => match e with
    | .BoolOp .And (v :: w :: rest) pos => chkT a C v && (match rest with | [] => chkT b C w | y :: ys => chkT b C (.BoolOp .And (w :: y :: ys) pos))
    | _ => false
  | .or a b, C, e => match e with
    | .BoolOp .Or (v :: w :: rest) pos => chkT a C v && (match rest with | [] => chkT b C w | y :: ys => chkT b C (.BoolOp .Or (w :: y :: ys) pos))
    | _ => false
  | .not a, C, e => match e with
    | .UnaryOp .Not x _ => chkT a C x
    | _ => false
noncomputable def chkTs : List T → Cst → List Expr → Bool
  | [], _, es => match es with
    | [] => true
    | _ => false
  | t :: ts, C, es => match es with
    | e :: es => chkT t C e && chkTs ts C es && es.isEmpty
    | [] => false
noncomputable def chkL : L → Cst → Expr → Bool
  | .disp es, C, e => match e with
    | .List xs _ => chkEs es C xs && decide (xs.length ≤ 1000)
    | _ => false
  | .comp tg it cs el, C, e => match e with
    | .ListComp elt [g] sc _ => g.is_async == 0 && !isSet g.iter && compB C sc (blkC C sc (tgNames tg g.target)) tg.slots && (chkTg (blkC C sc (tgNames tg g.target)) tg g.target && enuB it g.target) && chkI it C g.iter
        && chkTs cs (blkC C sc (tgNames tg g.target)) g.ifs && chkE el (blkC C sc (tgNames tg g.target)) elt
    | _ => false
noncomputable def chkI : I → Cst → Expr → Bool
  | .seq a, C, e => chkE a C e
  | .rng a, C, e => match e with
    | .Call (.Name x _) [v] [] _ => x == ("range" : Str) && globB C x && notStar v && chkE a C v
    | _ => false
  | .enu a, C, e => match e with
    | .Call (.Name x _) [v] [] _ => x == ("enumerate" : Str) && globB C x && notStar v && chkE a C v
    | _ => false
end
noncomputable def isComp : Expr → Bool
  | .ListComp _ _ _ _ => true
  | .SetComp _ _ _ _ => true
  | .DictComp _ _ _ _ _ => true
  | _ => false
noncomputable def isLstO : E → Bool
  | .lstO _ _ _ _ => true
  | _ => false
noncomputable def isTuple : Expr → Bool
  | .Tuple _ _ _ => true
  | .List _ _ => true
  | _ => false
mutual
noncomputable def chkS : S → Cst → Stmt → Bool
  | .asg tg a, C, st => match st with
    | .Assign [t] v pos => chkTg C tg t && notStar t && chkE a C v && !(isTuple t && isTuple v) && (!isComp v || (isComp v && isName t && !isLstO a))
    | _ => false
  | .setN c o f a, C, st => match st with
    | .Assign [.Attribute ov name _] v _ => name == f && (C.cls.any fun i => i.name == c && i.fields.contains f) && chkE a C v && chkE o C ov
    | _ => false
  | .exp a, C, st => match st with
    | .Expr v _ => chkE a C v && !isComp v
    | _ => false
  | .ife c a b, C, st => match st with
    | .If t x y _ => chkT c C t && chkSs a C x && chkSs b C y
    | _ => false
  | .for tg it body, C, st => match st with
    | .For t iter b [] _ => (chkTg C tg t && enuB it t) && chkI it C iter && chkSs body C b && !isSet iter
    | _ => false
  | .ret a, C, st => match st with
    | .Return (some v) _ => chkE a C v
    | _ => false
  | .brk, _, st => false
  | .cnt, _, st => false
  | .stuck, _, _ => true
noncomputable def chkSs : List S → Cst → List Stmt → Bool
  | [], _, sts => match sts with
    | [] => true
    | _ => false
  | s :: ss, C, sts => match sts with
    | st :: sts => chkS s C st && chkSs ss C sts
    | [] => false
end
end IT

set_option linter.all false
set_option maxHeartbeats 4000000
set_option maxRecDepth 100000
/-! Small facts of forms that the look asks for. -/
namespace IT
open PySem PySem.Spec L2

noncomputable def bltNames : List Str := ["len", "sum", "tuple", "int", "range", "all", "any", "max", "min", "list", "isinstance", "str", "bool", "dict", "enumerate"]
structure Good (Γ : Calls) (n : Nat) (C : Cst) (X : Cx) : Prop where
  nox : X.xe = fun _ _ => False
  calm : X.calm = true
  room : Room n X.A
  room1 : Room (n + 1) X.A
  kind : X.env.scope.kind = .function
  N : X.N = C.N
  nd : X.N.Nodup
  names : X.env.scope.names = C.names
  fn : C.top = true → ∀ x, X.fn x = true
  funs : ∀ (f : Nat) (p : Str × Nat × List D), C.fns[f]? = some p → FunAt X n p.1 p.2.1 p.2.2 (Γ f)
  blt : ∀ x ∈ bltNames, X.mg x = none
  glob : ∀ (x : Str) (d : D), C.globs.lookup x = some d → ∃ u v, X.mg x = some u ∧ RelV v u ∧ ∀ A H, RepD X.K A H d v
  makes : ∀ i ∈ C.cls, ∃ np, MakeAt X n i.name np (Γ i.init)
  meths : ∀ i ∈ C.cls, ∀ p ∈ i.meths, ∃ np, MethAt X n i.name p.1 np (Γ p.2)
  attrs : ∀ i ∈ C.cls, ∀ f ∈ i.fields, ∀ A, PySem.W.nsIn X.K mainGlobals i.name = some (some (.ref A)) → NoAttr X.K A f

theorem star_cons {e : Expr} {es : List Expr} {env : PySem.Env} (h : notStar e = true) : starEach (e :: es) env = (false, eval e env) :: starEach es env := by
  cases e <;> first | rfl | (first | exact noT h | exact noF h)
theorem chkEs_len : ∀ {as : List E} {C : Cst} {es : List Expr}, chkEs as C es = true → as.length = es.length
  | [], C, [], _ => rfl
  | [], C, _ :: _, h => by simp [chkEs] at h
  | a :: as, C, [], h => by simp [chkEs] at h
  | a :: as, C, e :: es, h => by
    simp only [chkEs, Bool.and_eq_true] at h
    simp [chkEs_len h.2]
theorem chkEs_star : ∀ {as : List E} {C : Cst} {es : List Expr}, chkEs as C es = true → ∀ e ∈ es, notStar e = true
  | [], C, [], _, e, he => by simp at he
  | [], C, _ :: _, h, _, _ => by simp [chkEs] at h
  | a :: as, C, [], h, _, _ => by simp [chkEs] at h
  | a :: as, C, e :: es, h, x, hx => by
    simp only [chkEs, Bool.and_eq_true] at h
    rcases List.mem_cons.mp hx with rfl | hx
    · exact h.1.1
    · exact chkEs_star h.2 x hx
theorem star_any {env : PySem.Env} {pos : Pos} : ∀ {es : List Expr}, (∀ e ∈ es, notStar e = true) → (backTo pos (starEach es env)).any (·.1) = false
  | [], _ => rfl
  | e :: es, h => by
    rw [star_cons (h e (by simp))]
    show (false || (backTo pos (starEach es env)).any (·.1)) = false
    rw [star_any fun x hx => h x (by simp [hx])]
    rfl
theorem star_all {env : PySem.Env} {pos : Pos} : ∀ {es : List Expr}, (∀ e ∈ es, notStar e = true) → (backTo pos (starEach es env)).all (fun x => !x.1) = true
  | [], _ => rfl
  | e :: es, h => by
    rw [star_cons (h e (by simp))]
    show (true && (backTo pos (starEach es env)).all (fun x => !x.1)) = true
    rw [star_all fun x hx => h x (by simp [hx])]
    rfl
theorem evs_len {Γ : Calls} : ∀ {es : List E} {σ : IT.Env} {h h' : Sto} {rs : List R}, evs Γ es σ h = some (rs, h') → rs.length = es.length
  | [], σ, h, h', rs, e => by
    simp only [evs, ok_some] at e
    rw [← e.1]; rfl
  | a :: as, σ, h, h', rs, e => by
    simp only [evs, bnd_some, ok_some] at e
    obtain ⟨r, h1, e1, rs', h2, e2, rfl, rfl⟩ := e
    simp [evs_len e2]

section
variable {Γ : Calls} {n : Nat} {C : Cst} {X : Cx} {x : Str}
theorem vis_of (G : Good Γ n C X) (h : visB C x = true) : Vis X.env.scope x := by
  unfold visB at h
  unfold Vis
  rw [G.names]
  split at h
  · rename_i e; exact .inl e
  · rename_i e; exact .inr (.inl e)
  · rename_i e; exact .inr (.inr e)
  · cases h
theorem loc_of (G : Good Γ n C X) (h : locB C x = true) : Loc X.env.scope x ∧ (X.fn x = true ∨ X.env.scope.names.lookup x = some .local) := by
  unfold locB at h
  unfold L2.Loc
  rw [G.names]
  split at h
  · rename_i e; exact ⟨.inl e, .inr e⟩
  · rename_i e; exact ⟨.inr e, .inl (G.fn h x)⟩
  · cases h
theorem gl_of (G : Good Γ n C X) (h : globB C x = true) : Gl X x := by
  unfold globB at h
  show X.env.scope.names.lookup x = _
  rw [G.names]
  split at h
  · rename_i e; exact e
  · cases h
theorem plain_of (h : plainName x = true) : (x == ("__debug__" : Str)) = false ∧ (x == ("__classdict__" : Str)) = false := by
  unfold plainName at h
  simpa using h
end

theorem opB {X : Cx} {o : Bo} {op : Operator} (h : boB o op = true) : OpD X (binaryOp op) (bop o) := by
  cases o <;> cases op <;> first | (exact noT h) | exact op_add' | exact op_mul' | exact op_fdiv' | exact op_mod' | exact op_pow' | exact op_band'
theorem coBe {X : Cx} {o : Co} {op : CmpOp} (hu : X.A.units + 64 < cLine) (h : coB o op = true) : OpD X (compareOp op) (cop o) := by
  cases o <;> cases op <;> first | (exact noT h) | exact op_eq' hu | exact op_ne' hu | exact op_lt' | exact op_gt' | exact op_ge' | exact op_isin' hu | exact op_isN' | exact op_isnotN'
theorem cop_bl {o : Co} {x y z : D} (h : cop o x y = some z) : ∃ t, z = .bl t := by
  cases o with
  | eq => (change (if _ then _ else _) = _ at h; split at h; exact ⟨_, (Option.some.inj h).symm⟩; exact noSome h)
  | ne => (change (if _ then _ else _) = _ at h; split at h; exact ⟨_, (Option.some.inj h).symm⟩; exact noSome h)
  | isin =>
    (delta cop at h; dsimp only at h)
    cases e : items y with
    | none => rw [e] at h; exact noSome h
    | some xs => rw [e] at h; dsimp only at h; split at h; exact ⟨_, (Option.some.inj h).symm⟩; exact noSome h
  | isN => cases x <;> cases y <;> first | exact noSome h | exact ⟨_, (Option.some.inj h).symm⟩
  | isnotN => cases x <;> cases y <;> first | exact noSome h | exact ⟨_, (Option.some.inj h).symm⟩
  | lt => cases x <;> cases y <;> first | exact noSome h | exact ⟨_, (Option.some.inj h).symm⟩
  | gt => cases x <;> cases y <;> first | exact noSome h | exact ⟨_, (Option.some.inj h).symm⟩
  | ge => cases x <;> cases y <;> first | exact noSome h | exact ⟨_, (Option.some.inj h).symm⟩
theorem mD_bl {o : Co} {x y r : R} {h h' : Sto} (e : mD (cop o) x y h = some (r, h')) : ∃ t, r = .d (.bl t) := by
  simp only [mD, bnd_some, ok_some, opt_some] at e
  obtain ⟨dx, h1, e1, dy, h2, e2, z, h3, ⟨e3, _⟩, rfl, _⟩ := e
  obtain ⟨t, rfl⟩ := cop_bl e3
  exact ⟨t, rfl⟩
theorem test_plain {e : Expr} {env : PySem.Env} (h : plainTest e = true) : ∀ whole, isTrue e env whole = (do let v ← whole; standAt e.pos; holding [v] (truthy v)) := by
  intro whole
  cases e with
  | UnaryOp op x p => cases op <;> first | rfl | (first | exact noT h | exact noF h)
  | BoolOp _ _ _ => first | exact noT h | exact noF h
  | IfExp _ _ _ _ => first | exact noT h | exact noF h
  | Compare _ _ _ _ => first | exact noT h | exact noF h
  | _ => rfl
theorem base_ok {o : Expr} {env : PySem.Env} {name : Str} (h : baseB o = true) : attributeBase o name env (eval o env) = eval o env := by
  unfold attributeBase
  split
  · cases h
  · rfl
theorem base_name {o : Expr} {env : PySem.Env} {name : Str} (h : isName o = true) : attributeBase o name env (eval o env) = eval o env := by
  cases o <;> first | rfl | (first | exact noT h | exact noF h)
theorem plain_ix {e : Expr} (h : isSlice e = false) : PlainIx e := by
  intro o i
  cases e <;> first | rfl | (first | exact noT h | exact noF h)
theorem no_fold {e : Expr} {env : PySem.Env} (h : isSet e = false) : ∀ x, foldedSetIterable e env x = pure x := by
  intro x
  cases e <;> first | rfl | (first | exact noT h | exact noF h)
theorem no_mark {e : Expr} {op : CmpOp} (h : isSet e = false) : behindInMarks op e = false := by
  cases e <;> first | rfl | (first | exact noT h | exact noF h)
theorem no_swap {t v : Expr} {l : Nat} {env : PySem.Env} (h : isComp v = false) : swapsWithSole [t] v l env = pure false := by
  cases v <;> first | rfl | (first | exact noT h | exact noF h)
theorem no_swapN {v : Expr} {l : Nat} {env : PySem.Env} (h : isComp v = false) : swapsWith v none l env = pure false := by
  cases v <;> first | rfl | (first | exact noT h | exact noF h)
theorem no_stores {t v : Expr} {env : PySem.Env} (h : (isTuple t && isTuple v) = false) : swappedStores [t] v env = pure none := by
  cases t with
  | Tuple a b c => cases v <;> first | rfl | (first | exact noT h | exact noF h)
  | List a b => cases v <;> first | rfl | (first | exact noT h | exact noF h)
  | _ => rfl
theorem asg_one {t : Expr} {env : PySem.Env} (h : notStar t = true) : (assignEach [t] env).map (·.2) = [assign t env] := by
  cases t <;> first | rfl | (first | exact noT h | exact noF h)
theorem asg_cons {t : Expr} {ts : List Expr} {env : PySem.Env} (h : notStar t = true) : assignEach (t :: ts) env = (false, assign t env) :: assignEach ts env := by
  cases t <;> first | rfl | (first | exact noT h | exact noF h)
theorem asg_len {env : PySem.Env} : ∀ {ts : List Expr}, (∀ e ∈ ts, notStar e = true) → (assignEach ts env).length = ts.length ∧ (assignEach ts env).findIdx? (·.1) = none
  | [], _ => ⟨rfl, rfl⟩
  | t :: ts, h => by
    obtain ⟨h1, h2⟩ := asg_len (env := env) (ts := ts) fun x hx => h x (by simp [hx])
    rw [asg_cons (h t (by simp))]
    refine ⟨by simp [h1], ?_⟩
    rw [List.findIdx?_cons]
    simp [h2]
theorem con_ok {X : Cx} {d : D} {c : Const} {k : Nat} {pos : Pos} (h : conB d c = true) : IE X (.Constant c k pos) (fun _ => ok (.d d)) := by
  cases d with
  | non => cases c <;> first | (exact noT h) | exact ie_con pe_non (by intro _ _; simp only [RepD])
  | bl b =>
    cases c with
    | bool c => obtain rfl := eq_of_beq h; exact ie_con pe_bl (by intro _ _; simp only [RepD])
    | _ => exact noT h
  | int b =>
    cases c with
    | int c => obtain rfl := eq_of_beq h; exact ie_con pe_int (by intro _ _; simp only [RepD])
    | _ => exact noT h
  | str b =>
    cases c with
    | str c => obtain rfl := eq_of_beq h; exact ie_con pe_str (by intro _ _; simp only [RepD])
    | _ => exact noT h
  | _ => cases c <;> exact noT h

/-! targets -/
theorem tg_star {C : Cst} : ∀ {ts : List Tg} {es : List Expr}, chkTgs C ts es = true → (∀ e ∈ es, notStar e = true) ∧ es.length = ts.length
  | [], [], _ => ⟨by simp, rfl⟩
  | [], _ :: _, h => by simp [chkTgs] at h
  | _ :: _, [], h => by simp [chkTgs] at h
  | t :: ts, e :: es, h => by
    simp only [chkTgs, Bool.and_eq_true] at h
    obtain ⟨h1, h2⟩ := tg_star h.2
    refine ⟨fun x hx => ?_, by simp [h2]⟩
    rcases List.mem_cons.mp hx with rfl | hx
    · exact h.1.1
    · exact h1 x hx
mutual
theorem okTg {Γ : Calls} {n : Nat} {C : Cst} {X : Cx} (G : Good Γ n C X) : ∀ (t : Tg) (e : Expr), chkTg C t e = true → PG X e (tG X.K t)
  | .name i, e, h => by
    cases e with
    | Name x pos =>
      simp only [chkTg, Bool.and_eq_true] at h
      obtain ⟨h1, h2⟩ := loc_of G h.2
      exact ig_name G.nd (by rw [G.N]; exact eq_of_beq h.1) h1 h2
    | _ => simp [chkTg] at h
  | .tup ts, e, h => by
    cases e with
    | Tuple xs k pos =>
      have h : chkTgs C ts xs = true := by simpa [chkTg] using h
      obtain ⟨h1, h2⟩ := tg_star h
      obtain ⟨h3, h4⟩ := asg_len (env := X.env) h1
      exact ig_tup G.calm (okTgs G ts xs h) h2 h3 h4
    | _ => simp [chkTg] at h
theorem okTgs {Γ : Calls} {n : Nat} {C : Cst} {X : Cx} (G : Good Γ n C X) : ∀ (ts : List Tg) (es : List Expr), chkTgs C ts es = true → PGs X es (tGs X.K ts)
  | [], es, h => by
    cases es with
    | nil => exact igs_nil
    | cons _ _ => simp [chkTgs] at h
  | t :: ts, es, h => by
    cases es with
    | nil => simp [chkTgs] at h
    | cons e es =>
      simp only [chkTgs, Bool.and_eq_true] at h
      exact igs_cons (okTg G t e h.1.2) (okTgs G ts es h.2) (by rw [asg_cons h.1.1]; rfl)
end
/-- what a walk gives is bound -/
theorem okTgI {Γ : Calls} {n : Nat} {C : Cst} {X : Cx} (G : Good Γ n C X) (t : Tg) (e : Expr) (h : chkTg C t e = true) : PG X e (tGI X.K t) := by
  cases t with
  | name i => exact igI_name (okTg G _ _ h)
  | tup ts =>
    by_cases hl : ts.length = 2
    · match ts, hl, h with
      | [a, b], _, h =>
        cases e with
        | Tuple xs k pos =>
          have h : chkTgs C [a, b] xs = true := by simpa [chkTg] using h
          match xs, h with
          | [x, y], h =>
            obtain ⟨h1, h2⟩ := tg_star h
            obtain ⟨h3, h4⟩ := asg_len (env := X.env) h1
            have hs := okTgs G [a, b] [x, y] h
            simp only [chkTgs, Bool.and_eq_true] at h
            exact igI_two G.calm hs (igs_e (okTg G a x h.1.2) (okTg G b y h.2.1.2) (by rw [asg_cons h.1.1]; rfl) (by rw [asg_cons h.2.1.1]; rfl)) h3 h4
          | [], h => simp [chkTgs] at h
          | [_], h => simp [chkTgs] at h
          | _ :: _ :: _ :: _, h => simp [chkTgs] at h
        | _ => simp [chkTg] at h
    · exact igI_tup hl (okTg G _ _ h)
theorem wkAny_loc {r : R} {w : Wk} {h h' : Sto} (e : wkAny r h = some (w, h')) : WlOk w h' := by
  (delta wkAny at e; simp only [bnd_some] at e)
  obtain ⟨o, h1, e1, e2⟩ := e
  obtain ⟨rfl, ho⟩ := olsOf_some e1
  cases o with
  | some ls =>
    obtain ⟨l, rfl, ho⟩ := ho
    simp only [ok_some] at e2
    obtain ⟨rfl, rfl⟩ := e2
    intro i hi
    cases hi
    exact ⟨_, ho, fun c fs z => by cases z⟩
  | none =>
    simp only [bnd_some] at e2
    obtain ⟨d, h2, e3, e4⟩ := e2
    cases r with
    | loc l =>
      obtain ⟨o, ho, il, rfl, rfl⟩ := rd_loc e3
      (delta wkOf items at e4; (try dsimp only at e4); simp only [ok_some] at e4)
      obtain ⟨rfl, rfl⟩ := e4
      intro i hi
      cases hi
      exact ⟨o, ho, fun c fs z => by rw [z] at il; cases il⟩
    | d x =>
      have : w.l = none := by
        (delta wkOf at e4; (try dsimp only at e4))
        cases hi : items d with
        | none =>
          rw [hi] at e4; cases e4
        | some xs => rw [hi] at e4; obtain ⟨rfl, rfl⟩ := ok_some.mp e4; rfl
      intro i hi
      rw [this] at hi
      cases hi
theorem evI_loc {Γ : Calls} {it : I} {σ : IT.Env} {h h' : Sto} {w : Wk} (e : evI Γ it σ h = some (w, h')) : WlOk w h' := by
  cases it with
  | seq a =>
    simp only [evI, bnd_some] at e
    obtain ⟨r, h1, e1, e2⟩ := e
    exact wkAny_loc e2
  | enu a =>
    simp only [evI, bnd_some] at e
    obtain ⟨r, h1, e1, e2⟩ := e
    unfold wkEnu at e2
    split at e2
    · simp only [bnd_some] at e2
      obtain ⟨w0, h2, e3, e4⟩ := e2
      have := wkAny_loc e3
      cases en : enuFrom 0 w0.xs with
      | none => rw [en] at e4; cases e4
      | some l => rw [en] at e4; obtain ⟨rfl, rfl⟩ := ok_some.mp e4; exact this
    · cases e2
  | rng a =>
    simp only [evI, bnd_some] at e
    obtain ⟨r, h1, e1, e2⟩ := e
    (delta rngOf at e2; (try dsimp only at e2))
    intro i el
    split at e2
    · split at e2
      · obtain ⟨rfl, rfl⟩ := ok_some.mp e2; cases el
      · cases e2
    · cases e2
end IT

set_option linter.all false
set_option maxHeartbeats 4000000
set_option maxRecDepth 100000
/-! What the look finds, the text does. -/
namespace IT
open PySem PySem.Spec L2

section
variable {Γ : Calls} {n : Nat} {C : Cst} {X : Cx}
theorem rel_names (G : Good Γ n C X) (sc : Scope) : (relabel sc X.env).names = relN C.names sc.names := by
  unfold relabel relN
  show sc.names.map _ = sc.names.map _
  refine List.map_congr_left fun p _ => ?_
  obtain ⟨m, k⟩ := p
  have e1 : X.env.kindOf m = C.names.lookup m := by
    show X.env.scope.names.lookup m = _
    rw [G.names]
  simp only [G.kind, e1]
  have e2 : (ScopeKind.function == ScopeKind.function) = true := rfl
  rw [e2, Bool.and_true]
theorem Good.blk (G : Good Γ n C X) {sc : Scope} {own : List (Nat × Str)} {os : List Nat} (h : compB C sc (blkC C sc own) os = true) (cl : List (Str × Addr)) (pins : List (Addr × Obj)) (s₂ : Shared) (H₂ : Hp) (Cc : Addr) (fp : List Addr) :
    Good Γ n (blkC C sc own) (blk X (blkC C sc own).N s₂ H₂ (compEnvC sc cl Cc X.env) fp pins) := by
  unfold compB at h
  simp only [Bool.and_eq_true] at h
  obtain ⟨⟨⟨⟨⟨⟨hk, _⟩, _⟩, _⟩, _⟩, _⟩, hnd⟩ := h
  refine ⟨G.nox, G.calm, G.room, G.room1, ?_, rfl, of_decide_eq_true hnd, rel_names G sc, fun z => absurd z (by show ¬ (false = true); decide), fun f x e => ⟨(G.funs f x e).ex, (G.funs f x e).fill, (G.funs f x e).len⟩, G.blt, G.glob, fun i hi => let ⟨np, z⟩ := G.makes i hi; ⟨np, z.ex, z.len⟩, fun i hi p hp => let ⟨np, z⟩ := G.meths i hi p hp; ⟨np, z.ex, z.len⟩, G.attrs⟩
  show (relabel sc X.env).kind = _
  have : sc.kind = .function := by cases e : sc.kind <;> rw [e] at hk <;> first | rfl | (exact absurd hk (by decide))
  exact this
theorem comp_ok (G : Good Γ n C X) {sc : Scope} {own : List (Nat × Str)} {os : List Nat} (h : compB C sc (blkC C sc own) os = true) : CompOk X sc (blkC C sc own).N os := by
  unfold compB at h
  simp only [Bool.and_eq_true] at h
  obtain ⟨⟨⟨⟨⟨⟨hk, hc⟩, hn⟩, hf⟩, hs⟩, hl⟩, hnd⟩ := h
  have ke : ∀ m, X.env.kindOf m = C.names.lookup m := fun m => by
    show X.env.scope.names.lookup m = _
    rw [G.names]
  refine ⟨?_, ?_, ?_, ?_, ?_, ?_⟩
  · cases e : sc.kind <;> rw [e] at hk <;> first | rfl | (exact absurd hk (by decide))
  · intro y hy z
    have := List.all_eq_true.mp hc y hy
    rw [z] at this
    exact absurd this (by decide)
  · intro x hx z
    have := List.all_eq_true.mp hn x hx
    rw [z] at this
    have e2 : (NameKind.local != NameKind.local) = false := by decide
    rw [e2, Bool.false_or] at this
    exact eq_of_beq this
  · intro x hx z
    have := List.all_eq_true.mp hf x hx
    rw [z] at this
    have e2 : (NameKind.free != NameKind.free) = false := by decide
    rw [e2, Bool.false_or, Bool.or_eq_true] at this
    rw [ke]
    rcases this with q | q
    · exact .inl (eq_of_beq q)
    · exact .inr (eq_of_beq q)
  · intro i x e v
    have hi : i < (blkC C sc own).N.length := (List.getElem?_eq_some_iff.mp e).1
    have := List.all_eq_true.mp hs i (by simpa using hi)
    rw [e] at this
    simp only [slotB] at this
    unfold Vis at v
    rw [rel_names G sc] at v ⊢
    have en : (blkC C sc own).names = relN C.names sc.names := rfl
    rw [en] at this
    rw [G.N, ke]
    rcases v with v | v | v
    · rw [v] at this
      exact .inl (by simpa using this)
    · rw [v] at this
      simp only [Bool.or_eq_true, Bool.and_eq_true] at this
      rcases this with q | ⟨q, q2⟩
      · exact .inl (by simpa using q)
      · refine .inr ⟨eq_of_beq q, ?_, by rw [v]; decide⟩
        rcases q2 with q2 | q2
        · exact .inl (eq_of_beq q2)
        · exact .inr (eq_of_beq q2)
    · rw [v] at this
      simp only [Bool.or_eq_true, Bool.and_eq_true] at this
      rcases this with q | ⟨q, q2⟩
      · exact .inl (by simpa using q)
      · refine .inr ⟨eq_of_beq q, ?_, by rw [v]; decide⟩
        rcases q2 with q2 | q2
        · exact .inl (eq_of_beq q2)
        · exact .inr (eq_of_beq q2)
  · rw [G.N]
    exact eq_of_beq hl
end
/-- a comprehension as it stands -/
noncomputable def CompIs (Γ : Calls) (X : Cx) (tg : Tg) (it : I) (cs : List T) (el : E) (e : Expr) : Prop :=
  ∃ elt gt gi gifs sc pos N', e = .ListComp elt [⟨gt, gi, gifs, 0⟩] sc pos ∧ CompOk X sc N' tg.slots ∧ PI X gt gi (tI X.K (evI Γ it)) ∧
    (∀ cl pins s₂ H₂ C fp, PG (blk X N' s₂ H₂ (compEnvC sc cl C X.env) fp pins) gt (tGI X.K tg) ∧ PTs (blk X N' s₂ H₂ (compEnvC sc cl C X.env) fp pins) gifs (tTv X.K (tvs Γ cs)) ∧ PE (blk X N' s₂ H₂ (compEnvC sc cl C X.env) fp pins) elt (tE X.K (ev Γ el))) ∧
    ∀ x, foldedSetIterable gi X.env x = pure x
theorem CompIs.read {Γ : Calls} {K : PySem.W.Frag} {tg : Tg} {it : I} {cs : List T} {el : E} {σ : St} {H : Hp} {Q : VK} (q : tLs K (evL Γ (.comp tg it cs el)) σ H Q) : tComp (tI K (evI Γ it)) tg.slots (tGI K tg) (tTv K (tvs Γ cs)) (tE K (ev Γ el)) σ H Q := by
  have e : evL Γ (.comp tg it cs el) = fun σ => bnd (evI Γ it σ) fun w => turns w.l (fTurn tg (tvs Γ cs) (ev Γ el) σ) w.xs := by
    funext σ
    rfl
  rw [e] at q
  exact comp_read (fun σ h w h' e => evI_loc e) q
theorem CompIs.il {Γ : Calls} {X : Cx} {tg : Tg} {it : I} {cs : List T} {el : E} {e : Expr} (hx : X.xe = fun _ _ => False) (hc : X.calm = true) (h : CompIs Γ X tg it cs el e) : IL X e (evL Γ (.comp tg it cs el)) := by
  obtain ⟨elt, gt, gi, gifs, sc, pos, N', rfl, ok, hi, hB, hs⟩ := h
  exact PE.imp (pe_comp hx hc ok hi hB hs) fun σ H Q q => CompIs.read q
/-- .. of instances -/
theorem CompIs.io {Γ : Calls} {X : Cx} {tg : Tg} {it : I} {cs : List T} {el : E} {e : Expr} (hx : X.xe = fun _ _ => False) (hc : X.calm = true) (h : CompIs Γ X tg it cs el e) : IE X e (ev Γ (.lstO tg it cs el)) := by
  obtain ⟨elt, gt, gi, gifs, sc, pos, N', rfl, ok, hi, hB, hs⟩ := h
  refine PE.imp (pe_comp hx hc ok hi hB hs) fun σ H Q q0 => ?_
  refine comp_readG (el_pl X.K) (fun σ h w h' e => evI_loc e) ?_
  obtain ⟨μ, h, env, R0, re, r, h', e, k⟩ := q0
  replace e : (bnd (evI Γ it env) fun w => bnd (turns w.l (fun x => bnd (bindI tg x (clr tg.slots env)) fun σ' => bnd (tvs Γ cs σ') fun t => if t then bnd (ev Γ el σ') fun r => bnd (placeOf r) fun d => IT.ok (some d) else IT.ok none) w.xs) fun ls => allocO ls) h = some (r, h') := e
  simp only [bnd_some, allocO, Option.some.injEq, Prod.mk.injEq] at e
  obtain ⟨w, h1, e1, ls, h2, e2, rfl, rfl⟩ := e
  refine ⟨μ, h, env, R0, re, ls, h2, bnd_some.mpr ⟨w, h1, e1, e2⟩, fun μ1 H1 a vs s1 R1 z ha => ?_⟩
  have st : Stp μ1 h2 H1 (μ1 ++ [a]) (h2 ++ [.ols ls]) (upd H1 a (.lst vs)) := Stp.allocO R1 ha
  refine k (μ1 ++ [a]) _ (.ref a) (s1.trans st) (R1.allocO ha ⟨vs, upd_same, L2.Paired.mapP z fun l v ⟨b, eb, ev⟩ => ⟨b, st.pre l b eb, ev⟩⟩) ⟨a, ?_, rfl⟩
  rw [← R1.len]
  simp
theorem lst_conv {K : PySem.W.Frag} {fl : IT.Env → M (List D)} {m : Bool} {σ : St} {H : Hp} {Q : VK} (q : tE K (fun σ => bnd (fl σ) fun xs => if m then alloc xs else ok (.d (.lst xs))) σ H Q) : tLs K fl σ H Q := by
  obtain ⟨μ, h, env, R0, re, r, h', e, k⟩ := q
  simp only [bnd_some] at e
  obtain ⟨xs, h1, e1, e2⟩ := e
  refine ⟨μ, h, env, R0, re, xs, h1, e1, fun μ1 H1 a vs s1 R1 q1 ha => ?_⟩
  cases m with
  | true =>
    simp only [if_true, alloc, Option.some.injEq, Prod.mk.injEq] at e2
    obtain ⟨rfl, rfl⟩ := e2
    refine k (μ1 ++ [a]) _ (.ref a) (s1.trans (Stp.alloc R1 ha)) (R1.alloc ha q1) ⟨a, ?_, rfl⟩
    rw [← R1.len]
    simp
  | false =>
    simp only [Bool.false_eq_true, if_false] at e2
    obtain ⟨rfl, rfl⟩ := ok_some.mp e2
    have s2 : Stp μ1 h1 H1 μ1 h1 (upd H1 a (.lst vs)) := Stp.fresh ha
    refine k μ1 _ (.ref a) (s1.trans s2) (R1.fresh ha) ?_
    simp only [RepR, RepD]
    refine ⟨a, vs, rfl, .inl ⟨fun l => ?_, .inl upd_same⟩, RepDs.stp s2 R1 q1⟩
    obtain ⟨ws, z, _⟩ := R1.liveAt l
    rw [ha] at z; cases z
theorem tLs.imp {K : PySem.W.Frag} {fl : IT.Env → M (List D)} {σ : St} {H : Hp} {Q Q' : VK} (q : tLs K fl σ H Q) (i : ∀ v H, Q v H → Q' v H) : tLs K fl σ H Q' := by
  obtain ⟨μ, h, env, R0, re, xs, h', e, k⟩ := q
  exact ⟨μ, h, env, R0, re, xs, h', e, fun μ' H' a vs s1 R1 q1 ha => i _ _ (k μ' H' a vs s1 R1 q1 ha)⟩
theorem gname_conv {K : PySem.W.Frag} {i : Nat} {v : V} {σ : St} {H : Hp} {Q : St → Hp → Prop} (q : tG K (.name i) v σ H Q) : gName i v σ H Q := by
  obtain ⟨μ, h, env, r, env', R0, re, qr, e, k⟩ := q
  simp only [bindT, ok_some] at e
  obtain ⟨rfl, _⟩ := e
  exact k _ (re.set i qr)
theorem asg_conv {K : PySem.W.Frag} {t : Tg} {f : IT.Env → M R} {D : Ends} {σ : St} {H : Hp} (q : tS K (fun σ => bnd (f σ) fun r => bnd (bindT t r σ) fun σ' => ok (.nx, σ')) D σ H) : tE K f σ H fun x H1 => tG K t x σ H1 D.nx := by
  obtain ⟨μ, h, env, R0, re, fl, env', h', e, k⟩ := q
  simp only [bnd_some, ok_some, Prod.mk.injEq] at e
  obtain ⟨r, h1, e1, env1, h2, e2, ⟨rfl, rfl⟩, rfl⟩ := e
  have := bindT_sto _ _ _ _ _ _ e2
  subst this
  exact ⟨μ, h, env, R0, re, r, _, e1, fun μ1 H1 v s1 R1 q1 => ⟨μ1, _, env, r, env1, R1, re.stp s1 R0, q1, e2, fun σ' re' => k μ1 H1 σ' s1 R1 re'⟩⟩
noncomputable def isBool : Expr → Bool
  | .BoolOp _ _ _ => true
  | _ => false
theorem bi_ok {Γ : Calls} {n : Nat} {C : Cst} {X : Cx} (G : Good Γ n C X) {b : Bi} {x : Str} {e : Expr} {es : List Expr} {p pos : Pos} {fs : IT.Env → M (List R)} (ho : biOn b = true) (hx : x = biS b) (hg : Gl X x) (ha : IA X (e :: es) fs)
    (he : starEach (e :: es) X.env = (false, eval e X.env) :: starEach es X.env) (hpl : (backTo pos (starEach es X.env)).any (·.1) = false) : IE X (.Call (.Name x p) (e :: es) [] pos) (fun σ => bnd (fs σ) fun rs => bnd (rds rs) fun ds => bnd (opt (biD b ds)) fun z => ok (.d z)) := by
  subst hx
  cases b with
  | len => exact PE.imp (pe_callB call_len' hg (G.blt _ (by decide)) PySem.boot_len ha (by decide) (by decide) he hpl) fun σ H Q q => bi_conv q
  | tuple => exact PE.imp (pe_callTy call_tuple' hg (G.blt _ (by decide)) PyProof.Rows.boot_tuple ha (by decide) (by decide) he hpl) fun σ H Q q => bi_conv q
  | all => exact PE.imp (pe_callB (call_allany G.calm true) hg (G.blt _ (by decide)) PyProof.Rows.boot_all ha (by decide) (by decide) he hpl) fun σ H Q q => bi_conv q
  | any => exact PE.imp (pe_callB (call_allany G.calm false) hg (G.blt _ (by decide)) PyProof.Rows.boot_any ha (by decide) (by decide) he hpl) fun σ H Q q => bi_conv q
  | min => exact PE.imp (pe_callB (call_min' G.calm) hg (G.blt _ (by decide)) PyProof.Rows.boot_min ha (by decide) (by decide) he hpl) fun σ H Q q => bi_conv q
  | int => exact PE.imp (pe_callTy call_int' hg (G.blt _ (by decide)) PyProof.Rows.boot_int ha (by decide) (by decide) he hpl) fun σ H Q q => bi_conv q
end IT

set_option linter.all false
set_option maxHeartbeats 4000000
set_option maxRecDepth 100000
namespace IT
open PySem PySem.Spec L2
theorem val_1 {a : E} {C : Cst} {e : Expr} (h : chkT (.val a) C e = true) : chkE a C e = true := by
  unfold chkT at h
  rw [Bool.and_eq_true] at h
  exact h.1
theorem val_plain {Γ : Calls} {a : E} {C : Cst} {e : Expr} {X : Cx} (k : IE X e (ev Γ a)) (h : chkT (.val a) C e = true) (hn : ∀ l ops rs pos, e ≠ .Compare l ops rs pos) : IT' X e (tv Γ (.val a)) ∧ (isBool e = true → PW X e (tTv X.K (tv Γ (.val a)))) := by
  unfold chkT at h
  rw [Bool.and_eq_true, Bool.or_eq_true] at h
  have hp : plainTest e = true := by
    rcases h.2 with z | z
    · exact z
    · cases e <;> first | (exact noT z) | exact absurd rfl (hn _ _ _ _)
  refine ⟨it_val k (test_plain hp), fun z => ?_⟩
  cases e <;> first | (exact noT z) | (first | exact noT hp | exact noF hp)
mutual
theorem okE {Γ : Calls} {n : Nat} : ∀ (a : E) (C : Cst) (e : Expr) (X : Cx), chkE a C e = true → Good Γ n C X → IE X e (ev Γ a)
  | .con d, C, e, X, h, G => by
    cases e with
    | Constant c k pos => exact con_ok (d := d) (by simpa only [chkE] using h)
    | _ => exact noT h
  | .var i, C, e, X, h, G => by
    cases e with
    | Name x pos =>
      simp only [chkE, Bool.and_eq_true] at h
      obtain ⟨h1, h2⟩ := plain_of h.2
      exact ie_var (pe_var (by rw [G.N]; exact eq_of_beq h.1.1) (vis_of G h.1.2) h1 h2)
    | _ => exact noT h
  | .bin o a b, C, e, X, h, G => by
    cases e with
    | BinOp l op r pos =>
      simp only [chkE, Bool.and_eq_true] at h
      exact ie_bin (m := mD (bop o)) (OpD.opI (opB h.1.1)) (okE a C l X h.1.2 G) (okE b C r X h.2 G)
    | _ => exact noT h
  | .neg a, C, e, X, h, G => by
    unfold chkE at h
    split at h
    · exact ie_neg (okE a C _ X h G)
    · cases h
  | .cmp o a b, C, e, X, h, G => by
    unfold chkE at h
    split at h
    · simp only [Bool.and_eq_true, Bool.not_eq_true'] at h
      exact ie_cmp (m := mD (cop o)) (OpD.opI (coBe G.room.units h.1.1.1)) (okE a C _ X h.1.1.2 G) (okE b C _ X h.1.2 G) (no_mark h.2)
    · cases h
  | .and a b, C, e, X, h, G => by
    unfold chkE at h
    split at h
    · rename_i v w rest pos
      simp only [Bool.and_eq_true] at h
      cases rest with
      | nil => exact ie_and (okE a C v X h.1 G) (pe_one (okE b C w X h.2 G))
      | cons y ys => exact ie_and (okE a C v X h.1 G) (okE b C _ X h.2 G)
    · cases h
  | .or a b, C, e, X, h, G => by
    unfold chkE at h
    split at h
    · rename_i v w rest pos
      simp only [Bool.and_eq_true] at h
      cases rest with
      | nil => exact ie_or (okE a C v X h.1 G) (pe_one (okE b C w X h.2 G))
      | cons y ys => exact ie_or (okE a C v X h.1 G) (okE b C _ X h.2 G)
    · cases h
  | .not a, C, e, X, h, G => by
    unfold chkE at h
    split at h
    · exact ie_not (okE a C _ X h G)
    · cases h
  | .ife c a b, C, e, X, h, G => by
    unfold chkE at h
    split at h
    · simp only [Bool.and_eq_true] at h
      exact ie_ife (okT c C _ X h.1.1 G).1 (okE a C _ X h.1.2 G) (okE b C _ X h.2 G)
    · cases h
  | .tup es, C, e, X, h, G => by
    unfold chkE at h
    split at h
    · simp only [Bool.and_eq_true] at h
      exact ie_tup (okEs es C _ X h.1 G) (of_decide_eq_true h.2) (fun σ h0 rs h' e => by rw [evs_len e]; exact chkEs_len h.1)
    · cases h
  | .lst m l, C, e, X, h, G => by
    cases l with
    | disp es => exact ie_lst m (okL (.disp es) C e X (by simpa only [chkE] using h) G)
    | comp tg it cs el => exact ie_lst m (CompIs.il G.nox G.calm (okL (.comp tg it cs el) C e X (by simpa only [chkE] using h) G))
  | .idx a i, C, e, X, h, G => by
    unfold chkE at h
    split at h
    · simp only [Bool.and_eq_true, Bool.not_eq_true'] at h
      exact ie_idx (okE a C _ X h.1.1 G) (okE i C _ X h.1.2 G) (plain_ix h.2)
    · cases h
  | .sli a lo hi, C, e, X, h, G => by
    unfold chkE at h
    split at h
    · rename_i x l u p2 pos
      simp only [Bool.and_eq_true] at h
      have non : ∀ {z : E}, isNonCon z = true → PO X none (tO X.K (ev Γ z)) := by
        intro z hz
        unfold isNonCon at hz
        split at hz
        · exact io_none
        · cases hz
      have hl : PO X l (tO X.K (ev Γ lo)) := by
        cases l with
        | none => exact non h.1.2
        | some y => exact io_some (okE lo C y X h.1.2 G)
      have hu : PO X u (tO X.K (ev Γ hi)) := by
        cases u with
        | none => exact non h.2
        | some y => exact io_some (okE hi C y X h.2 G)
      exact ie_sli (okE a C x X h.1.1 G) hl hu
    · cases h
  | .call f es, C, e, X, h, G => by
    unfold chkE at h
    split at h
    · rename_i x p v vs pos
      simp only [Bool.and_eq_true] at h
      have st := chkEs_star h.2
      cases hp : C.fns[f]? with
      | none => rw [hp] at h; simp at h
      | some q =>
        rw [hp] at h
        have hx := eq_of_beq h.1.1.1
        subst hx
        exact ie_call (G.funs f q hp) G.room (gl_of G h.1.1.2) (okEs es C _ X h.2 G) (fun σ h0 rs h' e => by rw [evs_len e]; exact chkEs_len h.2) (plain_of h.1.2).1 (star_cons (st v (by simp))) (star_any fun y hy => st y (by simp [hy]))
    · cases h
  | .bi b es, C, e, X, h, G => by
    unfold chkE at h
    split at h
    · rename_i x p v vs pos
      simp only [Bool.and_eq_true] at h
      have st := chkEs_star h.2
      exact bi_ok G h.1.1.1 (eq_of_beq h.1.1.2) (gl_of G h.1.2) (okEs es C _ X h.2 G) (star_cons (st v (by simp))) (star_any fun y hy => st y (by simp [hy]))
    · cases h
  | .me m o es, C, e, X, h, G => by
    unfold chkE at h
    split at h
    · rename_i ov name apos v vs cpos
      simp only [Bool.and_eq_true] at h
      obtain ⟨⟨⟨⟨⟨⟨h0, h1⟩, h2⟩, h3⟩, h4⟩, h5⟩, h6⟩ := h
      have st := chkEs_star h4
      have h7 : (v :: vs).length < 20 := of_decide_eq_true h6
      have few : ((backTo cpos (starEach (v :: vs) X.env)).all (fun x => !x.1) && (backToKw cpos (keywordEach [] X.env)).all (fun x => x.1.isSome) && decide ((v :: vs).length + ([] : List Keyword).length + (if ([] : List Keyword).isEmpty then 0 else 1) < 30)) = true := by
        rw [star_all st]
        simp only [List.length_nil, List.isEmpty_nil, if_true, Bool.true_and, Bool.and_eq_true]
        exact ⟨rfl, decide_eq_true (by omega)⟩
      cases m with
      | append => exact ie_append (okE o C ov X h3 G) (okEs es C _ X h4 G) (eq_of_beq h1) (base_name h2) few h5 (star_cons (st v (by simp))) (star_any fun y hy => st y (by simp [hy]))
      | extend => exact ie_extend (okE o C ov X h3 G) (okEs es C _ X h4 G) (eq_of_beq h1) (base_name h2) few h5 (star_cons (st v (by simp))) (star_any fun y hy => st y (by simp [hy]))
      | pop => exact noT h0.1
      | clear => exact noT h0.1
    · rename_i ov name apos cpos
      simp only [Bool.and_eq_true] at h
      obtain ⟨⟨⟨⟨⟨h0, h1⟩, h2⟩, h3⟩, h4⟩, h5⟩ := h
      cases es with
      | cons _ _ => simp [chkEs] at h4
      | nil =>
        cases m with
        | append => exact noT h0.1
        | extend => exact noT h0.1
        | pop => simp [meOn] at h0
        | clear => exact ie_clear (okE o C ov X h3 G) (eq_of_beq h1) (base_name h2) h5
    · cases h
  | .glo d, C, e, X, h, G => by
    unfold chkE at h
    split at h
    · rename_i x pos
      simp only [Bool.and_eq_true] at h
      obtain ⟨⟨h1, h2⟩, h3⟩ := h
      cases hd : C.globs.lookup x with
      | none => rw [hd] at h1; cases h1
      | some d' =>
        rw [hd] at h1
        have e := D.same_eq _ _ h1
        subst e
        obtain ⟨u, v, e1, e2, e3⟩ := G.glob x d hd
        exact ie_con (pe_glob (gl_of G h2) e1 e2 (plain_of h3).1) e3
    · cases h
  | .isi t a, C, e, X, h, G => by
    unfold chkE at h
    split at h
    · rename_i x p v y p2 pos
      simp only [Bool.and_eq_true] at h
      obtain ⟨⟨⟨⟨⟨h1, h2⟩, h3⟩, h4⟩, h5⟩, h6⟩ := h
      have hx := eq_of_beq h1
      subst hx
      have hy := eq_of_beq h5
      have hb : y ∈ bltNames := by rw [hy]; cases t <;> decide
      exact ie_isi (gl_of G h2) (G.blt _ (by decide)) (okE a C v X h4 G) hy (gl_of G h6) (G.blt _ hb) (by rw [star_cons h3]; rfl)
    · cases h
  | .fld o f, C, e, X, h, G => by
    unfold chkE at h
    split at h
    · simp only [Bool.and_eq_true] at h
      obtain ⟨⟨h1, h2⟩, h3⟩ := h
      have hx := eq_of_beq h1
      subst hx
      exact ie_fld (okE o C _ X h3 G) (base_ok h2)
    · cases h
  | .make c f es, C, e, X, h, G => by
    unfold chkE at h
    split at h
    · rename_i x p v vs pos
      simp only [Bool.and_eq_true, List.any_eq_true] at h
      obtain ⟨⟨⟨⟨h1, i, hi, h2, h2'⟩, h3⟩, h4⟩, h5⟩ := h
      have hx := eq_of_beq h1
      subst hx
      have hn := eq_of_beq h2
      have hf := eq_of_beq h2'
      obtain ⟨np, M⟩ := G.makes i hi
      rw [hn, hf] at M
      have st := chkEs_star h5
      exact ie_make M G.room1 (gl_of G h3) (okEs es C _ X h5 G) (plain_of h4).1 (star_cons (st v (by simp))) (star_any fun y hy => st y (by simp [hy]))
    · cases h
  | .mc c m f o es, C, e, X, h, G => by
    unfold chkE at h
    split at h
    · rename_i ov name apos v vs cpos
      simp only [Bool.and_eq_true, List.any_eq_true] at h
      obtain ⟨⟨⟨⟨⟨⟨h1, i, hi, h2, h2'⟩, h3⟩, h4⟩, h5⟩, h6⟩, h7⟩ := h
      have hx := eq_of_beq h1
      subst hx
      have hn := eq_of_beq h2
      obtain ⟨np, M⟩ := G.meths i hi _ (List.contains_iff_mem.mp h2')
      rw [hn] at M
      have st := chkEs_star h5
      have h7 : (v :: vs).length < 20 := of_decide_eq_true h7
      have few : ((backTo cpos (starEach (v :: vs) X.env)).all (fun x => !x.1) && (backToKw cpos (keywordEach [] X.env)).all (fun x => x.1.isSome) && decide ((v :: vs).length + ([] : List Keyword).length + (if ([] : List Keyword).isEmpty then 0 else 1) < 30)) = true := by
        rw [star_all st]
        simp only [List.length_nil, List.isEmpty_nil, if_true, Bool.true_and, Bool.and_eq_true]
        exact ⟨rfl, decide_eq_true (by omega)⟩
      exact ie_mc M G.room (okE o C _ X h4 G) (okEs es C _ X h5 G) (star_cons (st v (by simp))) (star_any fun y hy => st y (by simp [hy])) (meth_eval (base_name h3) few h6)
    · rename_i ov name apos cpos
      simp only [Bool.and_eq_true, List.any_eq_true] at h
      obtain ⟨⟨⟨⟨⟨h1, i, hi, h2, h2'⟩, h3⟩, h4⟩, h5⟩, h6⟩ := h
      have hx := eq_of_beq h1
      subst hx
      have hn := eq_of_beq h2
      obtain ⟨np, M⟩ := G.meths i hi _ (List.contains_iff_mem.mp h2')
      rw [hn] at M
      cases es with
      | cons _ _ => simp [chkEs] at h5
      | nil => exact ie_mc0 M G.room (okE o C _ X h4 G) (meth_eval (base_name h3) (by rfl) h6)
    · cases h
  | .lstO tg it cs el, C, e, X, h, G => by
    unfold chkE at h
    split at h
    · rename_i elt g sc pos
      obtain ⟨gt, gi, gifs, ga⟩ := g
      simp only [Bool.and_eq_true, Bool.not_eq_true'] at h
      obtain ⟨⟨⟨⟨⟨⟨h1, h2⟩, h3⟩, h4, h4'⟩, h5⟩, h6⟩, h7⟩ := h
      have ea : ga = 0 := by simpa using h1
      subst ea
      refine CompIs.io G.nox G.calm ⟨elt, gt, gi, gifs, sc, pos, (blkC C sc (tgNames tg gt)).N, rfl, comp_ok G h3, okI it C gi X h5 G gt h4', fun cl pins s₂ H₂ Cc fp => ?_, no_fold h2⟩
      have G' := G.blk h3 cl pins s₂ H₂ Cc fp
      exact ⟨okTgI G' tg gt h4, okTs cs _ gifs _ h6 G', okE el _ elt _ h7 G'⟩
    · cases h
  | .oix a i, C, e, X, h, G => by
    unfold chkE at h
    split at h
    · simp only [Bool.and_eq_true, Bool.not_eq_true'] at h
      exact ie_oix (okE a C _ X h.1.1 G) (okE i C _ X h.1.2 G) (plain_ix h.2)
    · cases h
  | .olen a, C, e, X, h, G => by
    unfold chkE at h
    split at h
    · rename_i x p v pos
      simp only [Bool.and_eq_true] at h
      have hx := eq_of_beq h.1.1.1
      subst hx
      exact ie_olen (gl_of G h.1.1.2) (G.blt _ (by decide)) (okE a C v X h.2 G) (star_cons h.1.2)
    · cases h
  | .stuck, C, e, X, h, G => ie_stuck
theorem okEs {Γ : Calls} {n : Nat} : ∀ (as : List E) (C : Cst) (es : List Expr) (X : Cx), chkEs as C es = true → Good Γ n C X → IA X es (evs Γ as)
  | [], C, es, X, h, G => by
    cases es with
    | nil => exact ia_nil
    | cons _ _ => simp [chkEs] at h
  | a :: as, C, es, X, h, G => by
    cases es with
    | nil => simp [chkEs] at h
    | cons e es =>
      simp only [chkEs, Bool.and_eq_true] at h
      exact ia_cons (okE a C e X h.1.2 G) (okEs as C es X h.2 G) (star_cons h.1.1)
theorem okT {Γ : Calls} {n : Nat} : ∀ (t : T) (C : Cst) (e : Expr) (X : Cx), chkT t C e = true → Good Γ n C X → IT' X e (tv Γ t) ∧ (isBool e = true → PW X e (tTv X.K (tv Γ t)))
  | .val (.cmp o a b), C, e, X, h, G => by
    unfold chkT at h
    rw [Bool.and_eq_true] at h
    obtain ⟨h, h'⟩ := h
    unfold chkE at h
    split at h
    · simp only [Bool.and_eq_true, Bool.not_eq_true'] at h
      exact ⟨it_cmp (m := mD (cop o)) (OpD.opI (coBe G.room.units h.1.1.1)) (okE a C _ X h.1.1.2 G) (okE b C _ X h.1.2 G) (no_mark h.2) (fun x y h0 r h1 e => mD_bl e), fun z => by first | exact noT z | exact noF z⟩
    · cases h
  | .val (.con d), C, e, X, h, G => val_plain (okE (.con d) C e X (val_1 h) G) h (by intro l ops rs pos z; subst z; exact noT (val_1 h))
  | .val (.var i), C, e, X, h, G => val_plain (okE (.var i) C e X (val_1 h) G) h (by intro l ops rs pos z; subst z; exact noT (val_1 h))
  | .val (.bin o a b), C, e, X, h, G => val_plain (okE (.bin o a b) C e X (val_1 h) G) h (by intro l ops rs pos z; subst z; exact noT (val_1 h))
  | .val (.neg a), C, e, X, h, G => val_plain (okE (.neg a) C e X (val_1 h) G) h (by intro l ops rs pos z; subst z; exact noT (val_1 h))
  | .val (.and a b), C, e, X, h, G => val_plain (okE (.and a b) C e X (val_1 h) G) h (by intro l ops rs pos z; subst z; exact noT (val_1 h))
  | .val (.or a b), C, e, X, h, G => val_plain (okE (.or a b) C e X (val_1 h) G) h (by intro l ops rs pos z; subst z; exact noT (val_1 h))
  | .val (.not a), C, e, X, h, G => val_plain (okE (.not a) C e X (val_1 h) G) h (by intro l ops rs pos z; subst z; exact noT (val_1 h))
  | .val (.ife c a b), C, e, X, h, G => val_plain (okE (.ife c a b) C e X (val_1 h) G) h (by intro l ops rs pos z; subst z; exact noT (val_1 h))
  | .val (.tup es), C, e, X, h, G => val_plain (okE (.tup es) C e X (val_1 h) G) h (by intro l ops rs pos z; subst z; exact noT (val_1 h))
  | .val (.idx a i), C, e, X, h, G => val_plain (okE (.idx a i) C e X (val_1 h) G) h (by intro l ops rs pos z; subst z; exact noT (val_1 h))
  | .val (.sli a lo hi), C, e, X, h, G => val_plain (okE (.sli a lo hi) C e X (val_1 h) G) h (by intro l ops rs pos z; subst z; exact noT (val_1 h))
  | .val (.call f es), C, e, X, h, G => val_plain (okE (.call f es) C e X (val_1 h) G) h (by intro l ops rs pos z; subst z; exact noT (val_1 h))
  | .val (.bi b es), C, e, X, h, G => val_plain (okE (.bi b es) C e X (val_1 h) G) h (by intro l ops rs pos z; subst z; exact noT (val_1 h))
  | .val (.lst m l), C, e, X, h, G => val_plain (okE (.lst m l) C e X (val_1 h) G) h (by intro _ ops rs pos z; subst z; cases l <;> simp [chkT, chkE, chkL] at h)
  | .val (.me m o es), C, e, X, h, G => val_plain (okE (.me m o es) C e X (val_1 h) G) h (by intro l ops rs pos z; subst z; exact noT (val_1 h))
  | .val (.glo d), C, e, X, h, G => val_plain (okE (.glo d) C e X (val_1 h) G) h (by intro l ops rs pos z; subst z; exact noT (val_1 h))
  | .val (.isi t a), C, e, X, h, G => val_plain (okE (.isi t a) C e X (val_1 h) G) h (by intro l ops rs pos z; subst z; exact noT (val_1 h))
  | .val (.fld o f), C, e, X, h, G => val_plain (okE (.fld o f) C e X (val_1 h) G) h (by intro l ops rs pos z; subst z; exact noT (val_1 h))
  | .val (.make c f es), C, e, X, h, G => val_plain (okE (.make c f es) C e X (val_1 h) G) h (by intro l ops rs pos z; subst z; exact noT (val_1 h))
  | .val (.mc c m f o es), C, e, X, h, G => val_plain (okE (.mc c m f o es) C e X (val_1 h) G) h (by intro l ops rs pos z; subst z; exact noT (val_1 h))
  | .val (.lstO tg it cs el), C, e, X, h, G => val_plain (okE (.lstO tg it cs el) C e X (val_1 h) G) h (by intro l ops rs pos z; subst z; exact noT (val_1 h))
  | .val (.oix a i), C, e, X, h, G => val_plain (okE (.oix a i) C e X (val_1 h) G) h (by intro l ops rs pos z; subst z; exact noT (val_1 h))
  | .val (.olen a), C, e, X, h, G => val_plain (okE (.olen a) C e X (val_1 h) G) h (by intro l ops rs pos z; subst z; exact noT (val_1 h))
  | .val .stuck, C, e, X, h, G => by
    refine ⟨fun pins s σ H Q I q => ?_, fun _ whole pins s σ H Q I q => ?_⟩
    · obtain ⟨μ, h, env, R0, re, t, h', e, k⟩ := q
      cases e
    · obtain ⟨μ, h, env, R0, re, t, h', e, k⟩ := q
      cases e
  | .and a b, C, e, X, h, G => by
    unfold chkT at h
    split at h
    · rename_i v w rest pos
      simp only [Bool.and_eq_true] at h
      have key : PW X (.BoolOp .And (v :: w :: rest) pos) (tTv X.K (tv Γ (.and a b))) := by
        cases rest with
        | nil => exact it_and (tb := fun _ _ _ => True) (okT a C v X h.1 G).1 (pw_and1 (okT b C w X h.2 G).1)
        | cons y ys => exact it_and (tb := fun _ _ _ => True) (okT a C v X h.1 G).1 ((okT b C _ X h.2 G).2 rfl)
      exact ⟨key.pt, fun _ => key⟩
    · cases h
  | .or a b, C, e, X, h, G => by
    unfold chkT at h
    split at h
    · rename_i v w rest pos
      simp only [Bool.and_eq_true] at h
      have key : PW X (.BoolOp .Or (v :: w :: rest) pos) (tTv X.K (tv Γ (.or a b))) := by
        cases rest with
        | nil => exact it_or (okT a C v X h.1 G).1 (pw_or1 (okT b C w X h.2 G).1)
        | cons y ys => exact it_or (okT a C v X h.1 G).1 ((okT b C _ X h.2 G).2 rfl)
      exact ⟨key.pt, fun _ => key⟩
    · cases h
  | .not a, C, e, X, h, G => by
    unfold chkT at h
    split at h
    · exact ⟨it_not (okT a C _ X h G).1, fun z => by first | exact noT z | exact noF z⟩
    · cases h
theorem okTs {Γ : Calls} {n : Nat} : ∀ (ts : List T) (C : Cst) (es : List Expr) (X : Cx), chkTs ts C es = true → Good Γ n C X → PTs X es (tTv X.K (tvs Γ ts))
  | [], C, es, X, h, G => by
    cases es with
    | nil =>
      intro pins s σ H Q I ⟨μ, h0, env, R0, re, t, h', e, k⟩
      simp only [tvs, ok_some] at e
      obtain ⟨rfl, rfl⟩ := e
      exact pts_nil pins s σ H Q I (k μ H true Stp.refl R0 rfl)
    | cons _ _ => simp [chkTs] at h
  | t :: ts, C, es, X, h, G => by
    cases es with
    | nil => simp [chkTs] at h
    | cons e es =>
      simp only [chkTs, Bool.and_eq_true] at h
      obtain ⟨⟨h1, h2⟩, h3⟩ := h
      cases es with
      | cons _ _ => simp at h3
      | nil =>
        cases ts with
        | cons _ _ => simp [chkTs] at h2
        | nil =>
          intro pins s σ H Q I ⟨μ, h0, env, R0, re, t', h', e, k⟩
          simp only [tvs, bnd_some] at e
          obtain ⟨t1, h1', e1, e2⟩ := e
          refine pts_one (okT t C _ X h1 G).1 pins s σ H Q I ⟨μ, h0, env, R0, re, t1, h1', e1, fun μ1 H1 b s1 R1 hb => ?_⟩
          subst hb
          cases t1 with
          | true =>
            simp only [if_true, ok_some] at e2
            obtain ⟨rfl, rfl⟩ := e2
            exact k μ1 H1 _ s1 R1 rfl
          | false =>
            simp only [Bool.false_eq_true, if_false, ok_some] at e2
            obtain ⟨rfl, rfl⟩ := e2
            exact k μ1 H1 _ s1 R1 rfl
theorem okL {Γ : Calls} {n : Nat} : ∀ (l : L) (C : Cst) (e : Expr) (X : Cx), chkL l C e = true → Good Γ n C X → match l with
    | .disp es => IL X e (evL Γ (.disp es))
    | .comp tg it cs el => CompIs Γ X tg it cs el e
  | .disp es, C, e, X, h, G => by
    unfold chkL at h
    split at h
    · simp only [Bool.and_eq_true] at h
      exact il_disp (okEs es C _ X h.1 G) (of_decide_eq_true h.2) (fun σ h0 rs h' e => by rw [evs_len e]; exact chkEs_len h.1)
    · cases h
  | .comp tg it cs el, C, e, X, h, G => by
    unfold chkL at h
    split at h
    · rename_i elt g sc pos
      obtain ⟨gt, gi, gifs, ga⟩ := g
      simp only [Bool.and_eq_true, Bool.not_eq_true'] at h
      obtain ⟨⟨⟨⟨⟨⟨h1, h2⟩, h3⟩, h4, h4'⟩, h5⟩, h6⟩, h7⟩ := h
      have ea : ga = 0 := by simpa using h1
      subst ea
      refine ⟨elt, gt, gi, gifs, sc, pos, (blkC C sc (tgNames tg gt)).N, rfl, comp_ok G h3, okI it C gi X h5 G gt h4', fun cl pins s₂ H₂ Cc fp => ?_, no_fold h2⟩
      have G' := G.blk h3 cl pins s₂ H₂ Cc fp
      exact ⟨okTgI G' tg gt h4, okTs cs _ gifs _ h6 G', okE el _ elt _ h7 G'⟩
    · cases h
theorem okI {Γ : Calls} {n : Nat} : ∀ (it : I) (C : Cst) (e : Expr) (X : Cx), chkI it C e = true → Good Γ n C X → ∀ tg, enuB it tg = true → PI X tg e (tI X.K (evI Γ it))
  | .seq a, C, e, X, h, G, tg, _ => ii_seq (okE a C e X (by simpa only [chkI] using h) G)
  | .enu a, C, e, X, h, G, tg, ht => by
    unfold chkI at h
    split at h
    · rename_i x p v pos
      simp only [Bool.and_eq_true] at h
      obtain ⟨⟨⟨h1, h2⟩, h3⟩, h4⟩ := h
      have hx := eq_of_beq h1
      subst hx
      cases tg with
      | Tuple es k tp => exact ii_enu (gl_of G h2) (G.blt _ (by decide)) (okE a C v X h4 G) (star_cons h3)
      | _ => first | exact noT ht | exact noF ht
    · cases h
  | .rng a, C, e, X, h, G, tg, _ => by
    unfold chkI at h
    split at h
    · rename_i x p v pos
      simp only [Bool.and_eq_true] at h
      have hx := eq_of_beq h.1.1.1
      subst hx
      exact ii_rng (gl_of G h.1.1.2) (G.blt _ (by decide)) (okE a C v X h.2 G) (star_cons h.1.2)
    · cases h
end
end IT

set_option linter.all false
set_option maxHeartbeats 4000000
set_option maxRecDepth 100000
namespace IT
open PySem PySem.Spec L2
theorem asg_comp {Γ : Calls} {n : Nat} {C : Cst} {X : Cx} (G : Good Γ n C X) {tg : Tg} {a : E} {t v : Expr} {pos : Pos} (h1 : chkTg C tg t = true) (h3 : chkE a C v = true) (h2 : notStar t = true) (h4 : (isTuple t && isTuple v) = false) (hc : isComp v = true) (hn : isName t = true) (hO : isLstO a = false) :
    PS X (.Assign [t] v pos) (tS X.K fun σ => bnd (ev Γ a σ) fun r => bnd (bindT tg r σ) fun σ' => ok (.nx, σ')) := by
  have g := okTg G tg t h1
  cases t with
  | Name y py =>
    cases tg with
    | tup ts => simp [chkTg] at h1
    | name iy =>
      cases v with
      | ListComp elt gens sc cpos =>
        have hb : ∃ b, swapsWith (.ListComp elt gens sc cpos) (some (.Name y py)) pos.line X.env = pure b := ⟨_, rfl⟩
        obtain ⟨b, hb⟩ := hb
        cases b with
        | false => exact is_asg (okE a C _ X h3 G) g hb (no_stores h4) (asg_one h2)
        | true =>
          cases a with
          | lst m l =>
            cases l with
            | disp es => simp [chkE, chkL] at h3
            | comp tg2 it cs el =>
              obtain ⟨elt', gt, gi, gifs, sc', pos', N', e, ok, hi, hB, hs⟩ := okL (Γ := Γ) (n := n) (.comp tg2 it cs el) C _ X (by simpa only [chkE] using h3) G
              cases e
              simp only [chkTg, Bool.and_eq_true] at h1
              obtain ⟨l1, l2⟩ := loc_of G h1.2
              refine PS.imp (ps_asg_comp G.nox G.calm ok hi hB hs hb (pg_name G.nd (by rw [G.N]; exact eq_of_beq h1.1) l1 l2)) fun D σ H q => ?_
              have q1 := asg_conv q
              have q2 := lst_conv (fl := evL Γ (.comp tg2 it cs el)) (m := m) q1
              exact CompIs.read (q2.imp fun v H1 z => gname_conv z)
          | me m o es => simp [chkE] at h3
          | lstO tg it c el => first | exact noT hO | exact noF hO
          | stuck => exact fun pins s σ H D I ⟨μ, h, env, R0, re, fl, env', h', e, k⟩ => by cases e
          | _ => simp [chkE] at h3
      | SetComp _ _ _ _ =>
        cases a with
        | lst m l => cases l <;> simp [chkE, chkL] at h3
        | me m o es => simp [chkE] at h3
        | stuck => exact fun pins s σ H D I ⟨μ, h, env, R0, re, fl, env', h', e, k⟩ => by cases e
        | _ => simp [chkE] at h3
      | DictComp _ _ _ _ _ =>
        cases a with
        | lst m l => cases l <;> simp [chkE, chkL] at h3
        | me m o es => simp [chkE] at h3
        | stuck => exact fun pins s σ H D I ⟨μ, h, env, R0, re, fl, env', h', e, k⟩ => by cases e
        | _ => simp [chkE] at h3
      | _ => first | exact noT hc | exact noF hc
  | _ => first | exact noT hn | exact noF hn
theorem swA {v ov : Expr} {name : Str} {p2 : Pos} {l : Nat} {env : PySem.Env} : swapsWith v (some (.Attribute ov name p2)) l env = pure false := by
  cases v <;> rfl
mutual
theorem okS {Γ : Calls} {n : Nat} : ∀ (s : S) (C : Cst) (st : Stmt) (X : Cx), chkS s C st = true → Good Γ n C X → PS X st (tS X.K (ex Γ s))
  | .asg tg a, C, st, X, h, G => by
    unfold chkS at h
    split at h
    · rename_i t v pos
      simp only [Bool.and_eq_true, Bool.not_eq_true', Bool.or_eq_true] at h
      obtain ⟨⟨⟨⟨h1, h2⟩, h3⟩, h4⟩, h5⟩ := h
      rcases h5 with h5 | h5
      · exact is_asg (okE a C v X h3 G) (okTg G tg t h1) (no_swap h5) (no_stores h4) (asg_one h2)
      · exact asg_comp G h1 h3 h2 h4 h5.1.1 h5.1.2 h5.2
    · cases h
  | .setN c o f a, C, st, X, h, G => by
    unfold chkS at h
    split at h
    · rename_i ov name p2 v pos
      simp only [Bool.and_eq_true, List.any_eq_true] at h
      obtain ⟨⟨⟨h1, i, hi, h2, h2'⟩, h3⟩, h4⟩ := h
      have hx := eq_of_beq h1
      subst hx
      have hn := eq_of_beq h2
      exact is_setN (okE a C v X h3 G) (okE o C ov X h4 G) (swA) fun A hA => G.attrs i hi _ (List.contains_iff_mem.mp h2') A (by rw [hn]; exact hA)
    · cases h
  | .exp a, C, st, X, h, G => by
    unfold chkS at h
    split at h
    · simp only [Bool.and_eq_true, Bool.not_eq_true'] at h
      exact is_exp (okE a C _ X h.1 G) (no_swapN h.2)
    · cases h
  | .ife c a b, C, st, X, h, G => by
    unfold chkS at h
    split at h
    · simp only [Bool.and_eq_true] at h
      exact is_if (okT c C _ X h.1.1 G).1 (okSs a C _ X h.1.2 G) (okSs b C _ X h.2 G)
    · cases h
  | .for tg it body, C, st, X, h, G => by
    unfold chkS at h
    split at h
    · simp only [Bool.and_eq_true, Bool.not_eq_true'] at h
      obtain ⟨⟨⟨⟨h1, h1'⟩, h2⟩, h3⟩, h4⟩ := h
      exact is_for (by rw [G.nox]; exact PassesOwn.never) G.calm (okI it C _ X h2 G _ h1') (okTgI G tg _ h1) (okSs body C _ X h3 G) (no_fold h4) (fun σ h w h' e => evI_loc e)
    · cases h
  | .ret a, C, st, X, h, G => by
    unfold chkS at h
    split at h
    · exact is_ret (okE a C _ X h G)
    · cases h
  | .brk, C, st, X, h, G => by simp [chkS] at h
  | .cnt, C, st, X, h, G => by simp [chkS] at h
  | .stuck, C, st, X, h, G => is_stuck
theorem okSs {Γ : Calls} {n : Nat} : ∀ (ss : List S) (C : Cst) (sts : List Stmt) (X : Cx), chkSs ss C sts = true → Good Γ n C X → PSs X sts (tS X.K (exs Γ ss))
  | [], C, sts, X, h, G => by
    cases sts with
    | nil => exact iss_nil
    | cons _ _ => simp [chkSs] at h
  | s :: ss, C, sts, X, h, G => by
    cases sts with
    | nil => simp [chkSs] at h
    | cons st sts =>
      simp only [chkSs, Bool.and_eq_true] at h
      exact iss_cons (okS s C st X h.1 G) (okSs ss C sts X h.2 G)
end
end IT

set_option linter.all false
set_option maxHeartbeats 4000000
set_option maxRecDepth 100000
/-! The defs of a text, all of them, by the number of calls that may lie one within the other. -/
namespace IT
open PySem PySem.Spec L2

section
variable {K : PySem.W.Frag} {μ μ' : List Addr} {h h' : Sto} {H H' : Hp}
theorem RepDs.less {A A' : Addr → Prop} (i : ∀ a, A' a → A a) {x : List D} {v : List V} (q : RepDs K A H x v) : RepDs K A' H x v := RepDs.mono (fun _ _ z => z) (fun _ _ n z => ⟨fun l => n (i _ l), z⟩) x v q
theorem RepD.less {A A' : Addr → Prop} (i : ∀ a, A' a → A a) {x : D} {v : V} (q : RepD K A H x v) : RepD K A' H x v := RepD.mono (fun _ _ z => z) (fun _ _ n z => ⟨fun l => n (i _ l), z⟩) x v q
theorem pre_take (st : Stp μ h H μ' h' H') (R0 : Rep K μ h H) : μ'.take h.length = μ := by
  have hl := R0.len
  refine List.ext_getElem? fun i => ?_
  by_cases hi : i < μ.length
  · rw [List.getElem?_take_of_lt (by omega), st.pre i μ[i] (List.getElem?_eq_getElem hi), List.getElem?_eq_getElem hi]
  · rw [List.getElem?_eq_none (by simp; omega), List.getElem?_eq_none (by omega)]
theorem live_take {n : Nat} : ∀ a, Live (μ'.take n) (h'.take n) a → Live μ' h' a := by
  rintro a ⟨i, o, e1, e2, e3⟩
  have hi : i < n := by
    have := (List.getElem?_eq_some_iff.mp e1).1
    simp at this
    omega
  rw [List.getElem?_take_of_lt hi] at e1 e2
  exact ⟨i, o, e1, e2, e3⟩
/-! the places that an object names -/
noncomputable def R.locs : R → List Nat
  | .d _ => []
  | .loc l => [l]
noncomputable def Ob.locs : Ob → List Nat
  | .lst _ => []
  | .fro _ => []
  | .ols ls => ls
  | .ins _ fs => (fs.map fun p => R.locs p.2).flatten
theorem paired_mem {α β : Type} {F : α → β → Prop} : ∀ {xs : List α} {ys : List β} {x : α}, Paired F xs ys → x ∈ xs → ∃ y, F x y
  | _, _, _, .nil, h => by simp at h
  | _, _, x, .cons r t, h => by
    rcases List.mem_cons.mp h with rfl | h
    · exact ⟨_, r⟩
    · exact paired_mem t h
theorem paired_on {α β : Type} {F G : α → β → Prop} : ∀ {xs : List α} {ys : List β}, Paired F xs ys → (∀ x ∈ xs, ∀ y, F x y → G x y) → Paired G xs ys
  | _, _, .nil, _ => .nil
  | _, _, .cons r t, f => .cons (f _ (by simp) _ r) (paired_on t fun x hx => f x (by simp [hx]))
theorem repO_locs {a : Addr} {o : Ob} (q : RepO K μ h H a o) : ∀ l ∈ o.locs, l < μ.length := by
  intro l hl
  cases o with
  | lst _ => simp [Ob.locs] at hl
  | fro _ => simp [Ob.locs] at hl
  | ols ls =>
    obtain ⟨vs, _, z⟩ := q
    obtain ⟨v, b, eb, _⟩ := paired_mem z hl
    exact (List.getElem?_eq_some_iff.mp eb).1
  | ins c fs =>
    obtain ⟨C, dx, fs', _, _, z⟩ := q
    simp only [Ob.locs, List.mem_flatten, List.mem_map] at hl
    obtain ⟨_, ⟨p, hp, rfl⟩, hl⟩ := hl
    obtain ⟨q', _, qr⟩ := paired_mem z hp
    cases hr : p.2 with
    | d x => rw [hr] at hl; simp [R.locs] at hl
    | loc k =>
      rw [hr] at hl qr
      simp [R.locs] at hl
      subst hl
      obtain ⟨b, eb, _⟩ := qr
      exact (List.getElem?_eq_some_iff.mp eb).1
theorem repO_less {μ2 : List Addr} {h2 : Sto} {a : Addr} {o : Ob} (q : RepO K μ' h' H' a o) (lv : ∀ b, Live μ2 h2 b → Live μ' h' b) (cl : ∀ l ∈ o.locs, ∀ b, μ'[l]? = some b → μ2[l]? = some b) : RepO K μ2 h2 H' a o := by
  cases o with
  | lst xs => obtain ⟨vs, e, z⟩ := q; exact ⟨vs, e, z.less lv⟩
  | fro xs => obtain ⟨vs, e, z⟩ := q; exact ⟨vs, e, z.less lv⟩
  | ols ls => obtain ⟨vs, e, z⟩ := q; exact ⟨vs, e, paired_on z fun l hl v ⟨b, eb, ev⟩ => ⟨b, cl l hl b eb, ev⟩⟩
  | ins c fs =>
    obtain ⟨C, dx, fs', hC, e, z⟩ := q
    refine ⟨C, dx, fs', hC, e, paired_on z fun p hp q' ⟨e1, qr⟩ => ⟨e1, ?_⟩⟩
    cases hr : p.2 with
    | d x => rw [hr] at qr; exact RepD.less lv qr
    | loc k =>
      rw [hr] at qr
      obtain ⟨b, eb, ev⟩ := qr
      refine ⟨b, cl k ?_ b eb, ev⟩
      simp only [Ob.locs, List.mem_flatten, List.mem_map]
      exact ⟨_, ⟨p, hp, rfl⟩, by rw [hr]; simp [R.locs]⟩
theorem R.same_eq {x y : R} (e : x.same y = true) : x = y := by
  cases x with
  | d x =>
    cases y with
    | d y => rw [D.same_eq x y e]
    | loc _ => cases e
  | loc l =>
    cases y with
    | d _ => cases e
    | loc k => simp only [R.same] at e; rw [eq_of_beq e]
theorem fsSame_eq : ∀ {fs gs : List (Str × R)}, fsSame fs gs = true → fs = gs
  | [], [], _ => rfl
  | [], _ :: _, e => by simp [fsSame] at e
  | (f, x) :: r, [], e => by simp [fsSame] at e
  | (f, x) :: r, (g, y) :: t, e => by
    simp only [fsSame, Bool.and_eq_true] at e
    obtain ⟨⟨e1, e2⟩, e3⟩ := e
    rw [eq_of_beq e1, R.same_eq e2, fsSame_eq e3]
theorem objs_locs : ∀ {h h1 : Sto} {i : Nat} {o1 : Ob}, objs h h1 = true → h1[i]? = some o1 → i < h.length → ∃ o, h[i]? = some o ∧ o1.locs = o.locs
  | [], _, _, _, _, _, hi => by simp at hi
  | o :: h, [], _, _, e, _, _ => by simp [objs] at e
  | o :: h, o1 :: t, 0, x, e, ex, _ => by
    simp only [List.getElem?_cons_zero, Option.some.injEq] at ex
    subst ex
    refine ⟨o, rfl, ?_⟩
    simp only [objs, Bool.and_eq_true] at e
    have e := e.1
    cases o <;> cases o1 <;> simp only [Bool.false_eq_true] at e <;> try rfl
    · simp only [Bool.and_eq_true] at e
      rw [fsSame_eq e.2]
      rfl
    · simp only [Ob.locs]
      rw [eq_of_beq e]
  | o :: h, o1 :: t, i + 1, x, e, ex, hi => by
    simp only [objs, Bool.and_eq_true] at e
    obtain ⟨o', e1, e2⟩ := objs_locs (i := i) e.2 (by simpa using ex) (by simpa using hi)
    exact ⟨o', by simpa using e1, e2⟩
theorem stp_take (st : Stp μ h H μ' h' H') (R0 : Rep K μ h H) (R1 : Rep K μ' h' H') : Stp μ h H μ (h'.take h.length) H' := by
  refine ⟨fun _ _ e => e, st.keep, fun a l => st.live a (live_take (n := h.length) a ?_)⟩
  rw [pre_take st R0]
  exact l
/-- at a def's end what it made is forgotten, but the list that it gives back -/
theorem fin0_ok {keep : Bool} {r r2 : R} {v : V} {h2 : Sto} (st : Stp μ h H μ' h' H') (R0 : Rep K μ h H) (R1 : Rep K μ' h' H') (ob : objs h h' = true) (q : RepR K μ' h' H' r v) (e : fin0 h.length keep r h' = some (r2, h2)) :
    ∃ μ2, Stp μ h H μ2 h2 H' ∧ Rep K μ2 h2 H' ∧ RepR K μ2 h2 H' r2 v := by
  have st1 := stp_take st R0 R1
  have lv : ∀ a, Live μ (h'.take h.length) a → Live μ' h' a := fun a l => live_take (n := h.length) a (by rw [pre_take st R0]; exact l)
  have hlen := R0.len
  have at1 : ∀ (l : Nat) (b : Addr), l < h.length → μ'[l]? = some b → μ[l]? = some b := fun l b hl eb => by
    rw [← pre_take st R0, List.getElem?_take_of_lt hl]; exact eb
  have small : ∀ (i : Nat) (o : Ob), i < h.length → h'[i]? = some o → ∀ l ∈ o.locs, l < h.length := by
    intro i o hi ho l hl
    obtain ⟨o0, e0, el⟩ := objs_locs ob ho hi
    rw [el] at hl
    have hi' : i < μ.length := by omega
    have := repO_locs (R0.obj i μ[i] o0 (List.getElem?_eq_getElem hi') e0) l hl
    omega
  have R2 : Rep K μ (h'.take h.length) H' := by
    have hl' : (h'.take h.length).length = h.length := by
      have := R1.len
      have h3 : μ.length ≤ μ'.length := by rw [← pre_take st R0, List.length_take]; exact Nat.min_le_right _ _
      simp; omega
    refine ⟨by rw [hl']; exact hlen, R0.nd, fun i a o e1 e2 => ?_⟩
    have hi : i < h.length := by rw [← hlen]; exact (List.getElem?_eq_some_iff.mp e1).1
    rw [List.getElem?_take_of_lt hi] at e2
    exact repO_less (R1.obj i a o (st.pre i a e1) e2) lv fun l hl b eb => at1 l b (small i o hi e2 l hl) eb
  cases r with
  | d x =>
    simp only [fin0, Option.some.injEq, Prod.mk.injEq] at e
    obtain ⟨rfl, rfl⟩ := e
    exact ⟨μ, st1, R2, RepD.less lv q⟩
  | loc l =>
    obtain ⟨a, ea, rfl⟩ := q
    simp only [fin0] at e
    by_cases hl : l < h.length
    · rw [if_pos hl] at e
      simp only [Option.some.injEq, Prod.mk.injEq] at e
      obtain ⟨rfl, rfl⟩ := e
      exact ⟨μ, st1, R2, a, at1 l a hl ea, rfl⟩
    · rw [if_neg hl] at e
      obtain ⟨o, ho⟩ := R1.placeO ea
      rw [ho] at e
      -- the list stands apart from the kept ones
      have apart : a ∉ μ := by
        intro hm
        obtain ⟨i, hi, ei⟩ := List.getElem_of_mem hm
        have := nodup_at R1.nd (st.pre i a (by rw [List.getElem?_eq_getElem hi, ei])) ea
        omega
      have data : ∀ xs, o.isL = true → o.items = xs → ∃ μ2, Stp μ h H μ2 (h'.take h.length) H' ∧ Rep K μ2 (h'.take h.length) H' ∧ RepR K μ2 (h'.take h.length) H' (.d (.lst xs)) (.ref a) := by
        rintro xs il rfl
        obtain ⟨vs, hH, z⟩ := R1.placeL ea ho il
        refine ⟨μ, st1, R2, ?_⟩
        simp only [RepR, RepD]
        refine ⟨a, vs, rfl, .inl ⟨?_, .inl hH⟩, z.less lv⟩
        rintro ⟨i, ys, e1, e2, _⟩
        exact apart (List.mem_of_getElem? e1)
      cases o with
      | ins _ _ => cases e
      | ols _ => cases e
      | fro xs =>
        simp only [Option.some.injEq, Prod.mk.injEq] at e
        obtain ⟨rfl, rfl⟩ := e
        exact data xs rfl rfl
      | lst xs =>
        cases keep with
        | false =>
          simp only [Bool.false_eq_true, if_false, Option.some.injEq, Prod.mk.injEq] at e
          obtain ⟨rfl, rfl⟩ := e
          exact data xs rfl rfl
        | true =>
          simp only [if_true, Option.some.injEq, Prod.mk.injEq] at e
          obtain ⟨rfl, rfl⟩ := e
          obtain ⟨vs, hH, z⟩ := R1.placeL ea ho rfl
          have hl2 : (h'.take h.length).length = μ.length := by rw [← R2.len]
          have lv2 : ∀ b, Live (μ ++ [a]) (h'.take h.length ++ [.lst xs]) b → Live μ' h' b := by
            intro b l2
            rcases (live_app R2.len).mp l2 with w | ⟨rfl, _⟩
            · exact lv b w
            · exact ⟨l, _, ea, ho, rfl⟩
          refine ⟨μ ++ [a], ⟨fun i b e => ?_, st.keep, fun b l2 => st.live b (lv2 b l2)⟩, ⟨by simp [hl2], ?_, fun i b o e1 e2 => ?_⟩, a, ?_, rfl⟩
          · rw [List.getElem?_append_left (List.getElem?_eq_some_iff.mp e).1]; exact e
          · rw [List.nodup_append]
            refine ⟨R0.nd, by simp, fun b hb c hc => ?_⟩
            simp at hc
            subst hc
            rintro rfl
            exact apart hb
          · by_cases hi : i < μ.length
            · rw [List.getElem?_append_left hi] at e1
              rw [List.getElem?_append_left (by omega)] at e2
              have hi2 : i < h.length := by omega
              rw [List.getElem?_take_of_lt hi2] at e2
              refine repO_less (R1.obj i b o (st.pre i b e1) e2) lv2 fun k hk c ec => ?_
              have hk2 := small i o hi2 e2 k hk
              rw [List.getElem?_append_left (by omega)]
              exact at1 k c hk2 ec
            · rw [List.getElem?_append_right (by omega)] at e1
              rw [List.getElem?_append_right (by omega)] at e2
              have hz : i - μ.length = 0 := by
                cases hk : i - μ.length with
                | zero => rfl
                | succ k => rw [hk] at e1; simp at e1
              rw [hl2, hz] at e2
              rw [hz] at e1
              simp at e1 e2
              subst e1 e2
              exact ⟨vs, hH, z.less lv2⟩
          · rw [hlen.symm]
            simp
theorem fin_ok {all keep : Bool} {r r2 : R} {v : V} {h2 : Sto} (st : Stp μ h H μ' h' H') (R0 : Rep K μ h H) (R1 : Rep K μ' h' H') (q : RepR K μ' h' H' r v) (e : fin h all keep r h' = some (r2, h2)) :
    ∃ μ2, Stp μ h H μ2 h2 H' ∧ Rep K μ2 h2 H' ∧ RepR K μ2 h2 H' r2 v := by
  unfold fin at e
  cases all with
  | true =>
    simp only [if_true, Option.some.injEq, Prod.mk.injEq] at e
    obtain ⟨rfl, rfl⟩ := e
    exact ⟨μ', st, R1, q⟩
  | false =>
    simp only [Bool.false_eq_true, if_false] at e
    split at e
    · rename_i ob
      exact fin0_ok st R0 R1 ob q e
    · cases e
end

/-- a def of the text, whatever its defaults -/
structure Fun2 (K : PySem.W.Frag) (x qual : Str) (st : Stmt) (f : Addr) (fd : FuncData) : Prop where
  ex : ∃ (oc : Value) (od : Option Addr) (dV kV doc pm : Value) (an : Option Addr) (cdv ct : Value) (osl : Array (Option Value)),
    fd = PySem.W.fnOf x qual (defArgs st) (defBody st) (defScope st) dV kV doc pm an cdv ct ∧ K.lookup f = some ⟨oc, od, .func fd, osl⟩ ∧ PySem.W.codeIn K cdv qual = true
  kp : PySem.W.keepIn K (.ref f) = true
section
variable {P : Program} {w : World} {K : PySem.W.Frag} {mg : Str → Option Value} {base : Heap}
theorem Fun2.ok {x qual : Str} {st : Stmt} {f : Addr} {fd : FuncData} {N ps : List Str} {k : Nat} {sp : Sp} (F : Fun2 K x qual st f fd) (S : FnScope N ps (defScope st)) (len : ∀ vs H Q E, sp vs H Q E → vs.length = ps.length)
    (hbody : ∀ (cdv : Value) (A : Around) (outer : List PySem.Env) (s : Shared) (H : Hp) (vs : List V) (Q : VK) (E : XK), Room k (A.deeper (PyProof.Rows.envOfC qual (defScope st) s.heap.objs.size f cdv)) → sp vs H Q E →
      ∃ t, PSs (cxOf CX0 P w K mg base N qual (defScope st) f cdv A outer s H E).nox (defBody st) t ∧ t { nx := fun _ H' => Q .non H', rt := Q } (L2.start N vs) H) : FnOk P w K mg base CX0 (k + 1) f fd ps sp := by
  obtain ⟨oc, od, dV, kV, doc, pm, an, cdv, ct, osl, rfl, lk, hcd⟩ := F.ex
  refine fn_of lk hcd S len fun A outer s H vs Q E hr hsp => ?_
  obtain ⟨t, h, q⟩ := hbody cdv A outer s H vs Q E hr hsp
  exact ⟨t, h.nox, q⟩
theorem fun2_mk {x qual : Str} {st : Stmt} {f : Addr} {oc : Value} {od an : Option Addr} {osl : Array (Option Value)} {dV kV doc pm cdv ct : Value} (l : K.lookup f = some ⟨oc, od, .func (PySem.W.fnOf x qual (defArgs st) (defBody st) (defScope st) dV kV doc pm an cdv ct), osl⟩)
    (c : PySem.W.codeIn K cdv qual = true) (k : PySem.W.keepIn K (.ref f) = true) : Fun2 K x qual st f (PySem.W.fnOf x qual (defArgs st) (defBody st) (defScope st) dV kV doc pm an cdv ct) := ⟨⟨oc, od, dV, kV, doc, pm, an, cdv, ct, osl, rfl, l, c⟩, k⟩
end
/-- a def of the text as the list of bodies has it -/
structure DefAt (K : PySem.W.Frag) (fns : List (Str × Nat × List D)) (cls : List CInfo) (Pr : List F) (globs : List (Str × D)) (fi : Nat) (x qual : Str) (st : Stmt) (f : Addr) (fd : FuncData) (N ps : List Str) (B : F) : Prop where
  at' : Pr[fi]? = some B
  fn : Fun2 K x qual st f fd
  sc : FnScope N ps (defScope st)
  np : B.np = ps.length
  ns : B.ns = N.length
  bi : ∃ dvs, (∀ A H, RepDs K A H B.dfl dvs) ∧ ∀ j, j ≤ B.dfl.length → ∃ ds, Binds K fd ps ds ∧ Vals (dvs.drop j) ds
  chk : chkSs B.body ⟨N, (defScope st).names, fns, globs, true, cls⟩ (defBody st) = true
/-- the whole text: its defs, how they are reached, its classes -/
structure Txt (K : PySem.W.Frag) (mg : Str → Option Value) (fns : List (Str × Nat × List D)) (cls : List CInfo) (Pr : List F) (globs : List (Str × D)) (addr : Nat → Addr) (fdOf : Nat → FuncData) (psOf : Nat → List Str) : Prop where
  defs : ∀ fi B, Pr[fi]? = some B → ∃ x qual st N, DefAt K fns cls Pr globs fi x qual st (addr fi) (fdOf fi) N (psOf fi) B
  blt : ∀ x ∈ bltNames, mg x = none
  glob : ∀ (x : Str) (d : D), globs.lookup x = some d → ∃ u v, mg x = some u ∧ RelV v u ∧ ∀ A H, RepD K A H d v
  funs : ∀ fi p, fns[fi]? = some p → mg p.1 = some (.ref (addr fi)) ∧ ∃ B, Pr[fi]? = some B ∧ B.np = p.2.1 ∧ B.dfl = p.2.2
  makes : ∀ i ∈ cls, ∃ C B, mg i.name = some (.ref C) ∧ PySem.W.nsIn K mainGlobals i.name = some (some (.ref C)) ∧ Cls K C ∧ Mk K C (addr i.init) ∧ Pr[i.init]? = some B ∧ B.dfl = []
  meths : ∀ i ∈ cls, ∀ p ∈ i.meths, ∃ C B, PySem.W.nsIn K mainGlobals i.name = some (some (.ref C)) ∧ Cls K C ∧ Meth K C p.1 (addr p.2) ∧ Pr[p.2]? = some B ∧ B.dfl = []
  attrs : ∀ i ∈ cls, ∀ f ∈ i.fields, ∀ A, PySem.W.nsIn K mainGlobals i.name = some (some (.ref A)) → NoAttr K A f
section
variable {P : Program} {w : World} {K : PySem.W.Frag} {mg : Str → Option Value} {base : Heap} {fns : List (Str × Nat × List D)} {cls : List CInfo} {Pr : List F} {globs : List (Str × D)} {addr : Nat → Addr} {fdOf : Nat → FuncData} {psOf : Nat → List Str}
theorem fill_full {np : Nat} {dfl : List D} {rs : List R} (h : np ≤ rs.length) : fillD np dfl rs = rs := by
  rw [fill_long (by omega), List.drop_eq_nil_of_le (by omega)]
  simp
theorem fill_fill {np : Nat} {dfl : List D} {rs : List R} : fillD np dfl (fillD np dfl rs) = fillD np dfl rs := by
  by_cases hs : rs.length + dfl.length < np
  · rw [fill_short hs, fill_short hs]
  · refine fill_full ?_
    rw [fill_long hs]
    simp only [List.length_append, List.length_map, List.length_drop]
    omega
theorem callF_fill {m fi : Nat} {B : F} (e0 : Pr[fi]? = some B) (rs : List R) : callF Pr m fi rs = callF Pr m fi (fillD B.np B.dfl rs) := by
  cases m with
  | zero => rfl
  | succ m =>
    funext h
    rw [callF_succ, callF_succ]
    simp only [e0]
    rw [fill_fill]
theorem callF_len {m fi : Nat} {B : F} {rs : List R} {h : Sto} {p : R × Sto} (e0 : Pr[fi]? = some B) (e : callF Pr (m + 1) fi rs h = some p) : (fillD B.np B.dfl rs).length = B.np := by
  rw [callF_succ] at e
  simp only [e0] at e
  split at e
  · assumption
  · cases e
theorem RepRs.env {μ : List Addr} {h : Sto} {H : Hp} {rs : List R} {vs : List V} (q : RepRs K μ h H rs vs) (i : Nat) (r : R) (e : (rs.map some)[i]? = some (some r)) : ∃ v, (vs.map some)[i]? = some (some v) ∧ RepR K μ h H r v := by
  induction q generalizing i with
  | nil => simp at e
  | @cons r' v rs vs q1 _ ih =>
    cases i with
    | zero => simp at e; subst e; exact ⟨v, rfl, q1⟩
    | succ i =>
      simp only [List.map_cons, List.getElem?_cons_succ] at e ⊢
      exact ih i e
theorem callF_len0 {m fi : Nat} {B : F} {rs : List R} {h : Sto} {p : R × Sto} (e0 : Pr[fi]? = some B) (ed : B.dfl = []) (e : callF Pr m fi rs h = some p) : rs.length = B.np := by
  cases m with
  | zero => cases e
  | succ m =>
    have := callF_len e0 e
    rw [ed] at this
    have ef : fillD B.np [] rs = rs := by
      unfold fillD
      split
      · rfl
      · simp
    rwa [ef] at this
theorem callF_len' {m fi : Nat} {B : F} {rs : List R} {h : Sto} {p : R × Sto} (e0 : Pr[fi]? = some B) (e : callF Pr m fi rs h = some p) : (fillD B.np B.dfl rs).length = B.np := by
  cases m with
  | zero => cases e
  | succ m => exact callF_len e0 e
theorem def_ok {m fi : Nat} {x qual : Str} {st : Stmt} {f : Addr} {fd : FuncData} {N ps : List Str} {B : F} (T : Txt K mg fns cls Pr globs addr fdOf psOf) (Dd : DefAt K fns cls Pr globs fi x qual st f fd N ps B)
    (ih : ∀ g B, Pr[g]? = some B → FnOk P w K mg base CX0 (2 * m) (addr g) (fdOf g) (psOf g) (spF K (psOf g).length (callF Pr m g))) : FnOk P w K mg base CX0 (2 * m + 2) f fd ps (spF K ps.length (callF Pr (m + 1) fi)) := by
  refine Dd.fn.ok (k := 2 * m + 1) Dd.sc (fun vs H Q E h => ?_) (fun cdv A outer s H vs Q E hr h => ?_)
  · exact h.1
  · have G : Good (callF Pr m) (2 * m) ⟨N, (defScope st).names, fns, globs, true, cls⟩ (cxOf CX0 P w K mg base N qual (defScope st) f cdv A outer s H E).nox := by
      refine ⟨rfl, rfl, hr.mono (by omega), hr, Dd.sc.kind, rfl, Dd.sc.nd, rfl, fun _ _ => rfl, fun g y e => ?_, T.blt, T.glob, fun i hi => ?_, fun i hi p hp => ?_, T.attrs⟩
      · obtain ⟨e1, B', e2, e3, e4⟩ := T.funs g y e
        obtain ⟨x', q', st', N', d'⟩ := T.defs g B' e2
        obtain ⟨dvs, b1, b2⟩ := d'.bi
        rw [← e3, ← e4]
        have := ih g B' e2
        rw [← d'.np] at this
        exact ⟨⟨addr g, fdOf g, psOf g, dvs, this, e1, d'.fn.kp, b1, b2⟩, callF_fill d'.at', fun rs h p e => callF_len' d'.at' e⟩
      · obtain ⟨C, B', e1, e2, e3, e4, e5, e6⟩ := T.makes i hi
        obtain ⟨x', q', st', N', d'⟩ := T.defs _ B' e5
        obtain ⟨dvs, b1, b2⟩ := d'.bi
        have := ih _ B' e5
        rw [← d'.np] at this
        obtain ⟨ds, c1, c2⟩ := b2 0 (Nat.zero_le _)
        have hd : ds = [] := by
          have hv : dvs = [] := by
            have := b1 (fun _ => False) (fun _ => none)
            rw [e6] at this
            simpa [RepDs] using this
          rw [hv] at c2
          cases c2
          rfl
        subst hd
        exact ⟨B'.np, ⟨C, addr i.init, fdOf i.init, psOf i.init, e1, e2, e3, e4, this, c1⟩, fun rs h p e => callF_len0 d'.at' e6 e⟩
      · obtain ⟨C, B', e2, e3, e4, e5, e6⟩ := T.meths i hi p hp
        obtain ⟨x', q', st', N', d'⟩ := T.defs _ B' e5
        obtain ⟨dvs, b1, b2⟩ := d'.bi
        have := ih _ B' e5
        rw [← d'.np] at this
        obtain ⟨ds, c1, c2⟩ := b2 0 (Nat.zero_le _)
        have hd : ds = [] := by
          have hv : dvs = [] := by
            have := b1 (fun _ => False) (fun _ => none)
            rw [e6] at this
            simpa [RepDs] using this
          rw [hv] at c2
          cases c2
          rfl
        subst hd
        exact ⟨B'.np, ⟨C, addr p.2, fdOf p.2, psOf p.2, e2, e3, e4, this, c1⟩, fun rs h p e => callF_len0 d'.at' e6 e⟩
    refine ⟨_, okSs B.body _ (defBody st) _ Dd.chk G, ?_⟩
    obtain ⟨hv0, μ, h0, rs, R0, qr, r, h', e, k⟩ := h
    have hl0 : rs.length = B.np := by rw [qr.length, hv0, Dd.np]
    have ef : fillD B.np B.dfl rs = rs := fill_full (by omega)
    rw [callF_succ] at e
    simp only [Dd.at'] at e
    rw [ef, if_pos hl0] at e
    have hpl : ps.length ≤ N.length := by have := congrArg List.length Dd.sc.pre; rw [List.length_take] at this; omega
    have re : RepE K μ h0 H (rs.map some ++ List.replicate (B.ns - B.np) none) (L2.start N vs) := by
      have hv := qr.length
      have h1 := Dd.np
      have h2 := Dd.ns
      refine ⟨?_, fun i r e => ?_⟩
      · unfold L2.start
        simp
        omega
      · by_cases hi : i < rs.length
        · rw [List.getElem?_append_left (by simpa using hi)] at e
          obtain ⟨v, e1, z⟩ := qr.env i r e
          refine ⟨v, ?_, z⟩
          unfold L2.start
          rw [List.getElem?_append_left (by simp; omega)]
          exact e1
        · rw [List.getElem?_append_right (by simpa using hi), List.getElem?_replicate] at e
          split at e <;> cases e
    cases eb : exs (callF Pr m) B.body (rs.map some ++ List.replicate (B.ns - B.np) none) h0 with
    | none => rw [eb] at e; cases e
    | some p =>
      obtain ⟨⟨fl, env'⟩, h1⟩ := p
      rw [eb] at e
      refine ⟨μ, h0, _, R0, re, fl, env', h1, eb, fun μ' H' σ' st1 R1 _ => ?_⟩
      cases fl with
      | ret r1 =>
        intro v qv
        obtain ⟨μ2, st2, R2, q2⟩ := fin_ok st1 R0 R1 qv e
        exact k μ2 H' v st2 R2 q2
      | nx =>
        obtain ⟨μ2, st2, R2, q2⟩ := fin_ok (v := .non) st1 R0 R1 (by simp only [RepR, RepD]) e
        exact k μ2 H' .non st2 R2 q2
      | brk => cases e
      | cnt => cases e
theorem none_left {fi np : Nat} {f : Addr} {fd : FuncData} {ps : List Str} : FnOk P w K mg base CX0 0 f fd ps (spF K np (callF Pr 0 fi)) := by
  refine ⟨fun vs H Q E h => ?_, fun A outer s H args us vs Q E hr e0 hb r h => ?_⟩
  · obtain ⟨_, μ, h0, rs, R0, qr, r, h', e, k⟩ := h
    cases e
  · obtain ⟨_, μ, h0, rs, R0, qr, r, h', e, k⟩ := h
    cases e
theorem all_fns (T : Txt K mg fns cls Pr globs addr fdOf psOf) : ∀ m fi B, Pr[fi]? = some B → FnOk P w K mg base CX0 (2 * m) (addr fi) (fdOf fi) (psOf fi) (spF K (psOf fi).length (callF Pr m fi))
  | 0, fi, B, e => none_left
  | m + 1, fi, B, e => by
    obtain ⟨x, q, st, N, d⟩ := T.defs fi B e
    exact def_ok T d fun g B' e' => all_fns T m g B' e'
end
/-- the script, as it comes in -/
theorem ints_rep {K : PySem.W.Frag} {A : Addr → Prop} {H : Hp} : ∀ ns : List Int, RepDs K A H (ns.map D.int) (ns.map V.int)
  | [] => .nil
  | n :: r => .cons (by simp only [RepD]) (ints_rep r)
theorem sp_script {K : PySem.W.Frag} {m : List R → M R} {H : Hp} {a : Addr} {ns : List Int} {E : XK} (hS : SqL K H a (ns.map V.int)) (e : m [.d (.lst (ns.map .int))] [] = some (.d (.bl true), [])) : spF K 1 m [.ref a] H (fun v _ => v = .bl true) E := by
  have nl : ∀ b, ¬ Live [] [] b := by
    rintro b ⟨i, xs, e1, _⟩
    simp at e1
  refine ⟨rfl, [], [], [.d (.lst (ns.map .int))], ⟨rfl, by simp, fun i a o e1 _ => by simp at e1⟩, .cons ?_ .nil, _, _, e, fun μ' H' v st R1 q => ?_⟩
  · simp only [RepR, RepD]
    refine ⟨a, ns.map V.int, rfl, ?_, ints_rep ns⟩
    rcases hS with z | z
    · exact .inl ⟨nl a, z⟩
    · exact .inr z
  · simpa only [RepR, RepD] using q
theorem us1 {P : List Value → Prop} (h : ∀ a0, P [a0]) : ∀ us : List Value, us.length = 1 → P us
  | [a0], _ => h a0
theorem us2 {P : List Value → Prop} (h : ∀ a0 a1, P [a0, a1]) : ∀ us : List Value, us.length = 2 → P us
  | [a0, a1], _ => h a0 a1
theorem us3 {P : List Value → Prop} (h : ∀ a0 a1 a2, P [a0, a1, a2]) : ∀ us : List Value, us.length = 3 → P us
  | [a0, a1, a2], _ => h a0 a1 a2
theorem us4 {P : List Value → Prop} (h : ∀ a0 a1 a2 a3, P [a0, a1, a2, a3]) : ∀ us : List Value, us.length = 4 → P us
  | [a0, a1, a2, a3], _ => h a0 a1 a2 a3
/-- a fact for each place of a list -/
inductive Idx {α : Type} (Q : Nat → α → Prop) : Nat → List α → Prop where
  | nil {i : Nat} : Idx Q i []
  | cons {i : Nat} {x : α} {r : List α} : Q i x → Idx Q (i + 1) r → Idx Q i (x :: r)
theorem Idx.get {α : Type} {Q : Nat → α → Prop} : ∀ {l : List α} {i : Nat}, Idx Q i l → ∀ {n : Nat} {x : α}, l[n]? = some x → Q (i + n) x
  | _, _, .nil, _, _, e => by simp at e
  | _, i, .cons q r, 0, _, e => by cases e; exact q
  | _, i, .cons q r, n + 1, _, e => by
    have := Idx.get r (n := n) (by simpa using e)
    rwa [Nat.add_assoc, Nat.add_comm 1] at this
theorem Idx.get0 {α : Type} {Q : Nat → α → Prop} {l : List α} (h : Idx Q 0 l) {n : Nat} {x : α} (e : l[n]? = some x) : Q n x := by
  have := h.get e
  rwa [Nat.zero_add] at this
theorem nodfl {K : PySem.W.Frag} {fd : FuncData} {ps : List Str} (h : Binds K fd ps []) : ∃ dvs, (∀ A H, RepDs K A H [] dvs) ∧ ∀ j, j ≤ 0 → ∃ ds, Binds K fd ps ds ∧ Vals (dvs.drop j) ds :=
  ⟨[], fun _ _ => .nil, fun j hj => by
    obtain rfl : j = 0 := by omega
    exact ⟨[], h, .nil⟩⟩
open PySem.W in
theorem toX {q : Program} {loose : List Str} {XP : (Str → Option Value) → Heap → Prop} {as : List Addr} {K : Params → Frag} {n t : Nat} {r : RowW} {d : DefRec} {kwd : List (Str × Expr)} {run : Value → List Value → Sem Value} (e : ∀ P, as = (K P).map (·.1))
    (h : WalkO q loose XP (InK K) r d kwd run) : WalkX q loose XP (X.obsZ as) (X.valZ K n t) r d kwd run := by
  intro w s₀ s₁ mg mb G y a o pm cd doc dV kV h1 h2 h3 h4 h5 h6 args vals as' L
  exact h w s₀ s₁ mg mb G (InK.keeps w _ _ (X.z_facts e y).2.1 L.keeps) a o pm cd doc dV kV h1 h2 h3 h4 h5 h6 args vals as'
end IT

set_option linter.all false
namespace K22
open IT
/- _wall (0): 0 k -/
noncomputable def b_wall : List S := [
  .stuck]
/- hand_row (1): 0 table, 1 state, 2 event -/
noncomputable def b_hand_row : List S := [
  .ret (.call 3 [(.var 0), (.tup [(.con (.str [104, 97, 110, 100])), (.var 1), (.var 2)])])]
/- house_row (2): 0 table, 1 state, 2 kind, 3 last, 4 row -/
noncomputable def b_house_row : List S := [
  .asg (.name 4) (.call 3 [(.var 0), (.tup [(.con (.str [104, 111, 117, 115, 101])), (.var 1), (.var 2), (.con (.str [97, 110, 121]))])]),
  .ife (.val (.cmp .isN (.var 4) (.con .non))) [.asg (.name 4) (.call 3 [(.var 0), (.tup [(.con (.str [104, 111, 117, 115, 101])), (.var 1), (.var 2), (.ife (.val (.var 3)) (.con (.str [108, 97, 115, 116])) (.con (.str [109, 111, 114, 101])))])])] [],
  .ret (.var 4)]
/- row_for (3): 0 table, 1 head, 2 row -/
noncomputable def b_row_for : List S := [
  .for (.name 2) (.seq (.idx (.var 0) (.con (.int 2)))) [.ife (.val (.cmp .eq (.sli (.var 2) (.con .non) (.bi .len [(.var 1)])) (.var 1))) [.ret (.var 2)] []],
  .ret (.con .non)]
/- is_wait (4): 0 row -/
noncomputable def b_is_wait : List S := [
  .ret (.and (.cmp .isnotN (.var 0) (.con .non)) (.cmp .eq (.idx (.var 0) (.neg (.con (.int 1)))) (.glo (.tup [(.tup [(.str [119, 97, 105, 116])])]))))]
/- comers (5): 0 way, 1 order -/
noncomputable def b_comers : List S := [
  .ret (.ife (.val (.var 1)) (.sli (.var 0) (.con .non) (.con (.int 1))) (.var 0))]
/- may_be_done (6): 0 table, 1 hall, 2 deed -/
noncomputable def b_may_be_done : List S := [
  .ife (.or (.val (.cmp .lt (.idx (.var 2) (.con (.int 1))) (.con (.int 0)))) (.val (.cmp .ge (.idx (.var 2) (.con (.int 1))) (.olen (.fld (.var 1) "lines"))))) [.ret (.con (.bl false))] [],
  .ife (.val (.cmp .eq (.idx (.var 2) (.con (.int 0))) (.con (.str [97, 115, 107])))) [.ret (.and (.cmp .isin (.idx (.var 2) (.con (.int 2))) (.glo (.tup [(.str [114, 101, 97, 100]), (.str [119, 114, 105, 116, 101]), (.str [100, 114, 111, 112])]))) (.cmp .isnotN (.call 8 [(.var 0), (.var 1), (.var 2)]) (.con .non)))] [],
  .ife (.or (.val (.cmp .lt (.idx (.var 2) (.con (.int 2))) (.con (.int 0)))) (.val (.cmp .ge (.idx (.var 2) (.con (.int 2))) (.bi .len [(.call 7 [(.var 1), (.var 2)])])))) [.ret (.con (.bl false))] [],
  .ret (.not (.call 4 [(.call 8 [(.var 0), (.var 1), (.var 2)])]))]
/- way_of (7): 0 hall, 1 deed, 2 line -/
noncomputable def b_way_of : List S := [
  .asg (.name 2) (.oix (.fld (.var 0) "lines") (.idx (.var 1) (.con (.int 1)))),
  .ret (.ife (.val (.cmp .eq (.idx (.var 1) (.con (.int 0))) (.con (.str [116, 97, 107, 101])))) (.fld (.var 2) "to") (.fld (.var 2) "back"))]
/- row_for_deed (8): 0 table, 1 hall, 2 deed, 3 state, 4 kind -/
noncomputable def b_row_for_deed : List S := [
  .asg (.name 3) (.fld (.oix (.fld (.var 1) "lines") (.idx (.var 2) (.con (.int 1)))) "state"),
  .ife (.val (.cmp .eq (.idx (.var 2) (.con (.int 0))) (.con (.str [97, 115, 107])))) [.ret (.call 1 [(.var 0), (.var 3), (.idx (.var 2) (.con (.int 2)))])] [],
  .asg (.name 4) (.idx (.idx (.call 7 [(.var 1), (.var 2)]) (.idx (.var 2) (.con (.int 2)))) (.con (.int 0))),
  .ife (.val (.cmp .eq (.idx (.var 2) (.con (.int 0))) (.con (.str [116, 97, 107, 101])))) [.ret (.call 1 [(.var 0), (.var 3), (.var 4)])] [],
  .ret (.call 2 [(.var 0), (.fld (.var 1) "state"), (.var 4), (.not (.mc "Hall" "other_sharers" 24 (.var 1) [(.idx (.var 2) (.con (.int 1)))]))])]
/- may (9): 0 table, 1 standing, 2 order, 3 hall, 4 deeds, 5 hand, 6 line, 7 ?1?deed -/
noncomputable def b_may : List S := [
  .asg (.name 3) (.make "Hall" 22 [(.var 1)]),
  .asg (.name 4) (.lst true (.disp [])),
  .for (.tup [(.name 5), (.name 6)]) (.enu (.fld (.var 3) "lines")) [.exp (.me .extend (.var 4) [(.call 10 [(.var 5)])]), .exp (.me .extend (.var 4) [(.call 11 [(.con (.str [116, 97, 107, 101])), (.var 5), (.fld (.var 6) "to"), (.var 2)])]), .exp (.me .extend (.var 4) [(.call 11 [(.con (.str [103, 101, 116])), (.var 5), (.fld (.var 6) "back"), (.var 2)])])],
  .ret (.lst true (.comp (.name 7) (.seq (.var 4)) [(.val (.call 6 [(.var 0), (.var 3), (.var 7)]))] (.var 7)))]
/- asks_of (10): 0 hand -/
noncomputable def b_asks_of : List S := [
  .ret (.lst false (.disp [(.tup [(.con (.str [97, 115, 107])), (.var 0), (.con (.str [114, 101, 97, 100]))]), (.tup [(.con (.str [97, 115, 107])), (.var 0), (.con (.str [119, 114, 105, 116, 101])), (.con (.int 0))]), (.tup [(.con (.str [97, 115, 107])), (.var 0), (.con (.str [100, 114, 111, 112]))])]))]
/- letters_of (11): 0 word, 1 hand, 2 way, 3 order, 4 ?1?number -/
noncomputable def b_letters_of : List S := [
  .ret (.lst false (.comp (.name 4) (.rng (.bi .len [(.call 5 [(.var 2), (.var 3)])])) [] (.tup [(.var 0), (.var 1), (.var 4)])))]
/- stuck (12): 0 table, 1 standing, 2 order, 3 ?1?line, 4 ?2?deed -/
noncomputable def b_stuck : List S := [
  .ife (.not (.val (.bi .any [(.lst false (.comp (.name 3) (.seq (.idx (.var 1) (.con (.int 3)))) [] (.bin .add (.idx (.var 3) (.con (.int 3))) (.idx (.var 3) (.con (.int 4))))))]))) [.ret (.con (.bl false))] [],
  .ret (.bi .all [(.lst false (.comp (.name 4) (.seq (.call 9 [(.var 0), (.var 1), (.var 2)])) [] (.cmp .eq (.idx (.var 4) (.con (.int 0))) (.con (.str [97, 115, 107])))))])]
/- _law_cell_at (13): 0 _law_script, 1 _law_k -/
noncomputable def b_w_cell_at : List S := [
  .ife (.val (.cmp .lt (.var 1) (.bi .len [(.var 0)]))) [.ret (.idx (.var 0) (.var 1))] [],
  .ret (.con (.int 0))]
/- _law_digits (14): 0 _law_cell, 1 _law_size, 2 _law_many, 3 _law_found, 4 _law_mix, 5 _law_rest, 6 _law_k -/
noncomputable def b_w_digits : List S := [
  .asg (.name 3) (.lst true (.disp [])),
  .asg (.name 4) (.bin .mod (.bin .mul (.bin .add (.var 0) (.con (.int 1))) (.con (.int 48271))) (.con (.int 2147483647))),
  .asg (.name 5) (.bin .fdiv (.var 0) (.con (.int 2))),
  .for (.name 6) (.rng (.var 2)) [.asg (.name 4) (.bin .mod (.bin .mul (.bin .add (.bin .add (.var 4) (.bin .mul (.con (.int 7919)) (.var 6))) (.con (.int 1))) (.bin .add (.bin .fdiv (.var 4) (.con (.int 1009))) (.con (.int 69621)))) (.con (.int 2147483647))), .exp (.me .append (.var 3) [(.idx (.lst false (.disp [(.bin .mod (.bin .fdiv (.var 4) (.con (.int 7))) (.var 1)), (.bin .mod (.var 5) (.var 1))])) (.bi .int [(.and (.cmp .eq (.bin .mod (.var 0) (.con (.int 2))) (.con (.int 0))) (.cmp .gt (.var 5) (.con (.int 0))))]))]), .asg (.name 5) (.bin .fdiv (.var 5) (.var 1))],
  .ret (.var 3)]
/- _law_table (15): 0 _law_cell, 1 _law_ds, 2 _law_hands, 3 _law_rows, 4 _law_k, 5 _law_event, 6 _law_state, 7 _law_whens, 8 _law_when, 9 ?1?_law_k -/
noncomputable def b_w_table : List S := [
  .asg (.name 1) (.call 14 [(.var 0), (.con (.int 16)), (.con (.int 24))]),
  .asg (.name 2) (.bi .tuple [(.lst false (.comp (.name 9) (.rng (.con (.int 3))) [] (.tup [(.idx (.lst false (.disp [(.con (.str [97])), (.con (.str [98])), (.con (.str [99]))])) (.var 9)), (.idx (.lst false (.disp [(.con (.str [110, 111, 110, 101])), (.con (.str [114, 101, 97, 100])), (.con (.str [119, 114, 105, 116, 101]))])) (.bin .mod (.idx (.var 1) (.var 9)) (.con (.int 3))))])))]),
  .asg (.name 3) (.lst true (.disp [])),
  .for (.name 4) (.rng (.con (.int 15))) [.asg (.name 5) (.idx (.lst false (.disp [(.con (.str [114, 101, 97, 100])), (.con (.str [119, 114, 105, 116, 101])), (.con (.str [100, 114, 111, 112])), (.con (.str [109])), (.con (.str [110]))])) (.bin .mod (.var 4) (.con (.int 5)))), .ife (.val (.cmp .gt (.bin .mod (.idx (.var 1) (.bin .add (.con (.int 3)) (.var 4))) (.con (.int 4))) (.con (.int 0)))) [.exp (.me .append (.var 3) [(.tup [(.con (.str [104, 97, 110, 100])), (.idx (.lst false (.disp [(.con (.str [97])), (.con (.str [98])), (.con (.str [99]))])) (.bin .fdiv (.var 4) (.con (.int 5)))), (.var 5), (.idx (.lst false (.disp [(.con (.str [97])), (.con (.str [98])), (.con (.str [99]))])) (.bin .mod (.bin .fdiv (.idx (.var 1) (.bin .add (.con (.int 3)) (.var 4))) (.con (.int 4))) (.con (.int 3)))), (.tup [])])])] []],
  .for (.name 4) (.rng (.con (.int 4))) [.asg (.name 6) (.idx (.lst false (.disp [(.con (.str [104])), (.con (.str [107]))])) (.bin .fdiv (.var 4) (.con (.int 2)))), .asg (.name 7) (.idx (.lst false (.disp [(.lst false (.disp [(.con (.str [97, 110, 121]))])), (.lst false (.disp [(.con (.str [108, 97, 115, 116])), (.con (.str [109, 111, 114, 101]))])), (.lst false (.disp [(.con (.str [119, 97, 105, 116]))])), (.lst false (.disp [(.con (.str [119, 97, 105, 116]))])), (.lst false (.disp [(.con (.str [108, 97, 115, 116]))])), (.lst false (.disp [(.con (.str [109, 111, 114, 101]))])), (.lst false (.disp [])), (.lst false (.disp [(.con (.str [119, 97, 105, 116]))]))])) (.bin .mod (.idx (.var 1) (.bin .add (.con (.int 18)) (.var 4))) (.con (.int 8)))), .for (.name 8) (.seq (.var 7)) [.ife (.val (.cmp .eq (.var 8) (.con (.str [119, 97, 105, 116])))) [.exp (.me .append (.var 3) [(.tup [(.con (.str [104, 111, 117, 115, 101])), (.var 6), (.idx (.lst false (.disp [(.con (.str [109])), (.con (.str [110]))])) (.bin .mod (.var 4) (.con (.int 2)))), (.con (.str [97, 110, 121])), (.con (.str [104])), (.tup [(.tup [(.con (.str [119, 97, 105, 116]))])])])])] [.exp (.me .append (.var 3) [(.tup [(.con (.str [104, 111, 117, 115, 101])), (.var 6), (.idx (.lst false (.disp [(.con (.str [109])), (.con (.str [110]))])) (.bin .mod (.var 4) (.con (.int 2)))), (.var 8), (.con (.str [107])), (.tup [(.tup [(.con (.str [107, 101, 101, 112]))])])])])]]],
  .ret (.tup [(.var 2), (.tup [(.con (.str [104])), (.con (.str [107]))]), (.bi .tuple [(.var 3)])])]
/- _law_line (16): 0 _law_cell, 1 _law_last, 2 _law_ds, 3 _law_some, 4 _law_to, 5 _law_back -/
noncomputable def b_w_line : List S := [
  .asg (.name 2) (.call 14 [(.var 0), (.con (.int 64)), (.con (.int 4))]),
  .asg (.name 3) (.tup [(.tup [(.con (.str [109])), (.con .non)]), (.tup [(.con (.str [110])), (.var 1)]), (.tup [(.con (.str [109])), (.var 1)]), (.tup [(.con (.str [110])), (.con .non)])]),
  .asg (.name 4) (.sli (.sli (.var 3) (.bin .mod (.idx (.var 2) (.con (.int 1))) (.con (.int 3))) (.bin .add (.bin .mod (.idx (.var 2) (.con (.int 1))) (.con (.int 3))) (.bin .mod (.bin .fdiv (.idx (.var 2) (.con (.int 1))) (.con (.int 3))) (.con (.int 3))))) (.con .non) (.con (.int 2))),
  .asg (.name 5) (.sli (.sli (.var 3) (.bin .mod (.idx (.var 2) (.con (.int 2))) (.con (.int 3))) (.bin .add (.bin .mod (.idx (.var 2) (.con (.int 2))) (.con (.int 3))) (.bin .mod (.bin .fdiv (.idx (.var 2) (.con (.int 2))) (.con (.int 3))) (.con (.int 3))))) (.con .non) (.con (.int 2))),
  .ife (.val (.cmp .eq (.bin .mod (.bin .fdiv (.idx (.var 2) (.con (.int 3))) (.con (.int 4))) (.con (.int 3))) (.con (.int 0)))) [.asg (.name 4) (.tup [])] [],
  .ret (.tup [(.idx (.lst false (.disp [(.con (.str [97])), (.con (.str [98])), (.con (.str [99]))])) (.bin .mod (.idx (.var 2) (.con (.int 0))) (.con (.int 3)))), (.con .non), (.con (.int 0)), (.var 4), (.var 5), (.bin .mod (.idx (.var 2) (.con (.int 3))) (.con (.int 4)))])]
/- _law_has (17): 0 _law_table_here, 1 _law_state, 2 _law_event, 3 ?1?_law_row -/
noncomputable def b_w_has : List S := [
  .ret (.cmp .ne (.lst false (.comp (.name 3) (.seq (.idx (.var 0) (.con (.int 2)))) [(.val (.cmp .eq (.sli (.var 3) (.con .non) (.con (.int 3))) (.tup [(.con (.str [104, 97, 110, 100])), (.var 1), (.var 2)])))] (.var 3))) (.lst false (.disp [])))]
/- _law_waits (18): 0 _law_table_here, 1 _law_house, 2 _law_kind -/
noncomputable def b_w_waits : List S := [
  .ret (.cmp .isin (.tup [(.con (.str [104, 111, 117, 115, 101])), (.var 1), (.var 2), (.con (.str [97, 110, 121])), (.con (.str [104])), (.tup [(.tup [(.con (.str [119, 97, 105, 116]))])])]) (.idx (.var 0) (.con (.int 2))))]
/- _law_due (19): 0 _law_table_here, 1 _law_standing, 2 _law_order, 3 _law_due_here, 4 _law_k, 5 _law_line_here, 6 _law_event, 7 _law_most, 8 _law_at -/
noncomputable def b_w_due : List S := [
  .asg (.name 3) (.lst true (.disp [])),
  .for (.name 4) (.rng (.bi .len [(.idx (.var 1) (.con (.int 3)))])) [.asg (.name 5) (.idx (.idx (.var 1) (.con (.int 3))) (.var 4)), .for (.name 6) (.seq (.lst false (.disp [(.con (.str [114, 101, 97, 100])), (.con (.str [119, 114, 105, 116, 101])), (.con (.str [100, 114, 111, 112]))]))) [.ife (.val (.call 17 [(.var 0), (.idx (.var 5) (.con (.int 0))), (.var 6)])) [.exp (.me .append (.var 3) [(.bin .add (.tup [(.con (.str [97, 115, 107])), (.var 4), (.var 6)]) (.bin .mul (.tup [(.con (.int 0))]) (.bi .int [(.cmp .eq (.var 6) (.con (.str [119, 114, 105, 116, 101])))])))])] []], .asg (.name 7) (.idx (.lst false (.disp [(.con (.int 2)), (.con (.int 1))])) (.bi .int [(.var 2)])), .for (.name 8) (.rng (.bi .min [(.var 7), (.bi .len [(.idx (.var 5) (.con (.int 3)))])])) [.exp (.me .append (.var 3) [(.tup [(.con (.str [116, 97, 107, 101])), (.var 4), (.var 8)])])], .for (.name 8) (.rng (.bi .min [(.var 7), (.bi .len [(.idx (.var 5) (.con (.int 4)))])])) [.ife (.not (.val (.call 18 [(.var 0), (.idx (.var 1) (.con (.int 0))), (.idx (.idx (.idx (.var 5) (.con (.int 4))) (.var 8)) (.con (.int 0)))]))) [.exp (.me .append (.var 3) [(.tup [(.con (.str [103, 101, 116])), (.var 4), (.var 8)])])] []]],
  .ret (.var 3)]
/- law (20): 0 _law_script, 1 _law_table_here, 2 _law_many, 3 _law_last, 4 _law_free, 5 _law_lines, 6 _law_k, 7 _law_line_here, 8 _law_house, 9 _law_standing, 10 _law_order, 11 _law_due_here, 12 _law_found, 13 _law_letters, 14 _law_there, 15 _law_word, 16 ?1?_law_deed, 17 ?2?_law_line_here -/
noncomputable def b_law : List S := [
  .asg (.name 1) (.call 15 [(.call 13 [(.var 0), (.con (.int 0))])]),
  .asg (.name 2) (.bin .add (.con (.int 1)) (.bin .mod (.call 13 [(.var 0), (.con (.int 1))]) (.con (.int 5)))),
  .asg (.name 3) (.tup [(.con (.int 2)), (.bin .mod (.call 13 [(.var 0), (.con (.int 1))]) (.bin .pow (.con (.int 10)) (.con (.int 40))))]),
  .asg (.name 4) (.bin .mod (.bin .fdiv (.call 13 [(.var 0), (.con (.int 1))]) (.con (.int 5))) (.con (.int 8))),
  .asg (.name 5) (.lst true (.disp [])),
  .for (.name 6) (.rng (.var 2)) [.asg (.name 7) (.call 16 [(.call 13 [(.var 0), (.bin .add (.con (.int 2)) (.var 6))]), (.var 3)]), .ife (.val (.cmp .eq (.var 4) (.con (.int 0)))) [.asg (.name 7) (.bin .add (.bin .add (.sli (.var 7) (.con .non) (.con (.int 3))) (.tup [(.tup [])])) (.sli (.var 7) (.con (.int 4)) (.con .non)))] [], .exp (.me .append (.var 5) [(.var 7)])],
  .for (.name 8) (.seq (.lst false (.disp [(.con (.str [104])), (.con (.str [107]))]))) [.asg (.name 9) (.tup [(.var 8), (.var 3), (.var 3), (.bi .tuple [(.var 5)])]), .for (.name 10) (.seq (.lst false (.disp [(.con (.bl true)), (.con (.bl false))]))) [.asg (.name 11) (.call 19 [(.var 1), (.var 9), (.var 10)]), .asg (.name 12) (.call 9 [(.var 1), (.var 9), (.var 10)]), .asg (.name 13) (.lst false (.comp (.name 16) (.seq (.var 11)) [(.val (.cmp .ne (.idx (.var 16) (.con (.int 0))) (.con (.str [97, 115, 107]))))] (.var 16))), .asg (.name 14) (.lst false (.comp (.name 17) (.seq (.var 5)) [(.or (.val (.cmp .ne (.idx (.var 17) (.con (.int 3))) (.tup []))) (.val (.cmp .ne (.idx (.var 17) (.con (.int 4))) (.tup []))))] (.var 17))), .ife (.or (.not (.val (.isi .list (.var 12)))) (.val (.cmp .ne (.var 12) (.var 11)))) [.ret (.con (.bl false))] [], .exp (.me .clear (.var 12) []), .asg (.name 15) (.call 12 [(.var 1), (.var 9), (.var 10)]), .ife (.or (.not (.val (.isi .bool (.var 15)))) (.val (.cmp .ne (.var 15) (.and (.cmp .ne (.var 14) (.lst false (.disp []))) (.cmp .eq (.var 13) (.lst false (.disp []))))))) [.ret (.con (.bl false))] []], .ife (.val (.cmp .ne (.call 9 [(.var 1), (.var 9)]) (.call 19 [(.var 1), (.var 9), (.con (.bl true))]))) [.ret (.con (.bl false))] [], .ife (.val (.cmp .ne (.call 12 [(.var 1), (.var 9)]) (.call 12 [(.var 1), (.var 9), (.con (.bl true))]))) [.ret (.con (.bl false))] []],
  .ret (.con (.bl true))]
/- OpenLine.__init__ (21): 0 self, 1 line -/
noncomputable def b_m_OpenLine_init : List S := [
  .setN "OpenLine" (.var 0) "state" (.idx (.var 1) (.con (.int 0))),
  .setN "OpenLine" (.var 0) "value" (.idx (.var 1) (.con (.int 1))),
  .setN "OpenLine" (.var 0) "want" (.idx (.var 1) (.con (.int 2))),
  .setN "OpenLine" (.var 0) "to" (.idx (.var 1) (.con (.int 3))),
  .setN "OpenLine" (.var 0) "back" (.idx (.var 1) (.con (.int 4))),
  .setN "OpenLine" (.var 0) "flags" (.idx (.var 1) (.con (.int 5)))]
/- Hall.__init__ (22): 0 self, 1 standing, 2 ?1?line -/
noncomputable def b_m_Hall_init : List S := [
  .setN "Hall" (.var 0) "state" (.idx (.var 1) (.con (.int 0))),
  .setN "Hall" (.var 0) "store" (.idx (.var 1) (.con (.int 1))),
  .setN "Hall" (.var 0) "last" (.idx (.var 1) (.con (.int 2))),
  .setN "Hall" (.var 0) "lines" (.lstO (.name 2) (.seq (.idx (.var 1) (.con (.int 3)))) [] (.make "OpenLine" 21 [(.var 2)])),
  .setN "Hall" (.var 0) "answer" (.con .non),
  .setN "Hall" (.var 0) "broken" (.con .non)]
/- Hall.hands_with (23): 0 self, 1 flag, 2 ?1?hand, 3 ?1?line -/
noncomputable def b_m_Hall_hands_with : List S := [
  .ret (.lst false (.comp (.tup [(.name 2), (.name 3)]) (.enu (.fld (.var 0) "lines")) [(.val (.bin .band (.fld (.var 3) "flags") (.var 1)))] (.var 2)))]
/- Hall.other_sharers (24): 0 self, 1 sender, 2 ?1?hand -/
noncomputable def b_m_Hall_other_sharers : List S := [
  .ret (.lst false (.comp (.name 2) (.seq (.mc "Hall" "hands_with" 23 (.var 0) [(.glo (.int 1))])) [(.val (.cmp .ne (.var 2) (.var 1)))] (.var 2)))]
noncomputable def P : List F := [⟨1, 1, b_wall, false, [], false⟩, ⟨3, 3, b_hand_row, false, [], false⟩, ⟨4, 5, b_house_row, false, [], false⟩, ⟨2, 3, b_row_for, false, [], false⟩, ⟨1, 1, b_is_wait, false, [], false⟩, ⟨2, 2, b_comers, false, [], false⟩, ⟨3, 3, b_may_be_done, false, [], false⟩, ⟨2, 3, b_way_of, false, [], false⟩, ⟨3, 5, b_row_for_deed, false, [], false⟩, ⟨3, 8, b_may, true, [(.bl true)], false⟩, ⟨1, 1, b_asks_of, false, [], false⟩, ⟨4, 5, b_letters_of, false, [], false⟩, ⟨3, 5, b_stuck, false, [(.bl true)], false⟩, ⟨2, 2, b_w_cell_at, false, [], false⟩, ⟨3, 7, b_w_digits, false, [], false⟩, ⟨1, 10, b_w_table, false, [], false⟩, ⟨2, 6, b_w_line, false, [], false⟩, ⟨3, 4, b_w_has, false, [], false⟩, ⟨3, 3, b_w_waits, false, [], false⟩, ⟨3, 9, b_w_due, false, [], false⟩, ⟨1, 18, b_law, false, [], false⟩, ⟨2, 2, b_m_OpenLine_init, false, [], true⟩, ⟨2, 3, b_m_Hall_init, false, [], true⟩, ⟨2, 4, b_m_Hall_hands_with, false, [], false⟩, ⟨2, 3, b_m_Hall_other_sharers, false, [], false⟩]
end K22

set_option linter.all false
set_option maxRecDepth 10000
namespace K22
open IT
noncomputable abbrev Lt := List Nat × D
noncomputable def letD (p : Lt) : D := .tup [.str p.1, p.2]
structure Ln where
  st : List Nat
  to : List Lt
  back : List Lt
  fl : Int
noncomputable def lnD (l : Ln) : D := .tup [.str l.st, .non, .int 0, .tup (l.to.map letD), .tup (l.back.map letD), .int l.fl]
noncomputable def opnF (l : Ln) : List (PySem.Str × R) := [("state", .d (.str l.st)), ("value", .d .non), ("want", .d (.int 0)), ("to", .d (.tup (l.to.map letD))), ("back", .d (.tup (l.back.map letD))), ("flags", .d (.int l.fl))]
noncomputable def halF (s : List Nat) (a b : D) (q : Nat) : List (PySem.Str × R) := [("state", .d (.str s)), ("store", .d a), ("last", .d b), ("lines", .loc q), ("answer", .d .non), ("broken", .d .non)]
theorem ha_os {s : List Nat} {a b : D} {q : Nat} : (halF s a b q).lookup ("other_sharers" : PySem.Str) = none := rfl
theorem ha_hw {s : List Nat} {a b : D} {q : Nat} : (halF s a b q).lookup ("hands_with" : PySem.Str) = none := rfl
theorem open_call (n : Nat) {h : Sto} {l : Ln} {Q : R → Sto → Prop} (k : Q (.d .non) (h ++ [.ins "OpenLine" (opnF l)])) : Ok (callF P (n + 1) 21 [.loc h.length, .d (lnD l)] (h ++ [.ins "OpenLine" []])) Q := by
  refine cl (F := ⟨2, 2, b_m_OpenLine_init, false, [], true⟩) rfl rfl rfl ?_
  refine st sto_get ⟨rfl, (by decide : 0 < 900), ?_⟩
  rw [sto_set]
  refine st sto_get ⟨rfl, (by decide : 1 < 900), ?_⟩
  rw [sto_set]
  refine st sto_get ⟨rfl, (by decide : 2 < 900), ?_⟩
  rw [sto_set]
  refine st sto_get ⟨rfl, (by decide : 3 < 900), ?_⟩
  rw [sto_set]
  refine st sto_get ⟨rfl, (by decide : 4 < 900), ?_⟩
  rw [sto_set]
  refine st sto_get ⟨rfl, (by decide : 5 < 900), ?_⟩
  rw [sto_set]
  exact fin_all.mpr k
/-- the places of the lines, from the place p on -/
noncomputable def olsAt (p : Nat) (n : Nat) : List Nat := (List.range n).map (p + ·)
/-- what Hall(standing) lays -/
noncomputable def halS (p : Nat) (s : List Nat) (a b : D) (ls : List Ln) : Sto := .ins "Hall" (halF s a b (p + 1 + ls.length)) :: (ls.map fun l => .ins "OpenLine" (opnF l)) ++ [.ols (olsAt (p + 1) ls.length)]
noncomputable def stdD (s : List Nat) (a b : D) (ls : List Ln) : D := .tup [.str s, a, b, .tup (ls.map lnD)]
theorem hall_call (n : Nat) {h : Sto} {s : List Nat} {a b : D} {ls : List Ln} {Q : R → Sto → Prop} (k : Q (.d .non) (h ++ halS h.length s a b ls)) : Ok (callF P (n + 2) 22 [.loc h.length, .d (stdD s a b ls)] (h ++ [.ins "Hall" []])) Q := by
  refine cl (F := ⟨2, 3, b_m_Hall_init, false, [], true⟩) rfl rfl rfl ?_
  refine st sto_get ⟨rfl, (by decide : 0 < 900), ?_⟩
  rw [sto_set]
  refine st sto_get ⟨rfl, (by decide : 1 < 900), ?_⟩
  rw [sto_set]
  refine st sto_get ⟨rfl, (by decide : 2 < 900), ?_⟩
  rw [sto_set]
  refine ask ?_
  rw [List.map_map]
  refine turns_wpG (g := dI ∘ lnD) (fun i ys h' => i ≤ ls.length ∧ ys = olsAt (h.length + 1) i ∧ h' = h ++ .ins "Hall" [("state", .d (.str s)), ("store", .d a), ("last", .d b)] :: ((ls.take i).map fun l => .ins "OpenLine" (opnF l))) ?_ ?_ ⟨by omega, rfl, rfl⟩
  · rintro i l ys h' hl ⟨hi, rfl, rfl⟩
    have hi2 : i < ls.length := (List.getElem?_eq_some_iff.mp hl).1
    have e1 : h ++ .ins "Hall" [("state", .d (.str s)), ("store", .d a), ("last", .d b)] :: ((ls.take (i + 1)).map fun l => Ob.ins "OpenLine" (opnF l)) = (h ++ .ins "Hall" [("state", .d (.str s)), ("store", .d a), ("last", .d b)] :: ((ls.take i).map fun l => Ob.ins "OpenLine" (opnF l))) ++ [.ins "OpenLine" (opnF l)] := by
      rw [List.take_add_one, hl]
      simp
    have e2 : (h ++ .ins "Hall" [("state", .d (.str s)), ("store", .d a), ("last", .d b)] :: ((ls.take i).map fun l => Ob.ins "OpenLine" (opnF l))).length = h.length + 1 + i := by
      simp
      omega
    rw [e1]
    generalize (h ++ .ins "Hall" [("state", .d (.str s)), ("store", .d a), ("last", .d b)] :: ((ls.take i).map fun l => Ob.ins "OpenLine" (opnF l))) = h1 at e2 ⊢
    refine go ?_
    refine ask (open_call n ⟨rfl, ?_⟩)
    refine st sto_get ?_
    refine ⟨rfl, by omega, ?_, rfl⟩
    rw [e2]
    unfold olsAt
    rw [List.range_succ, List.map_append]
    rfl
  · rintro ys h' ⟨hi, rfl, rfl⟩
    rw [List.take_length]
    (conv => whnf)
    simp only [List.append_assoc, List.cons_append, List.length_append, List.length_cons, List.length_map]
    refine st sto_get ⟨rfl, (by decide : 3 < 900), ?_⟩
    rw [sto_set]
    refine st sto_get ⟨rfl, (by decide : 4 < 900), ?_⟩
    rw [sto_set]
    refine st sto_get ⟨rfl, (by decide : 5 < 900), ?_⟩
    rw [sto_set]
    refine fin_all.mpr ?_
    have e : halS h.length s a b ls = .ins "Hall" (halF s a b (h.length + (ls.length + 1))) :: ((ls.map fun l => Ob.ins "OpenLine" (opnF l)) ++ [.ols (olsAt (h.length + 1) ls.length)]) := by
      unfold halS
      rw [show h.length + 1 + ls.length = h.length + (ls.length + 1) by omega]
      rfl
    rw [e] at k
    exact k
/-- an instance of Hall at p -/
noncomputable def HallAt (h : Sto) (p : Nat) (s : List Nat) (ls : List Ln) : Prop := ∃ a b q, h[p]? = some (.ins "Hall" (halF s a b q)) ∧ h[q]? = some (.ols (olsAt (p + 1) ls.length)) ∧ ∀ i l, ls[i]? = some l → h[p + 1 + i]? = some (.ins "OpenLine" (opnF l))
theorem olsAt_get {p n : Nat} {i : Int} (h0 : 0 ≤ i) (h1 : i < n) : at' (olsAt p n) i = some (p + i.toNat) := by
  unfold at' ixn olsAt
  simp only [List.length_map, List.length_range, if_pos h0, if_pos h1]
  rw [List.getElem?_map, List.getElem?_range (by omega)]
  rfl
theorem hallS_at {h t : Sto} {s : List Nat} {a b : D} {ls : List Ln} : HallAt (h ++ halS h.length s a b ls ++ t) h.length s ls := by
  unfold halS
  refine ⟨a, b, h.length + 1 + ls.length, ?_, ?_, fun i l e => ?_⟩
  · rw [List.append_assoc, List.getElem?_append_right (Nat.le_refl _), Nat.sub_self]
    rfl
  · rw [List.append_assoc, List.getElem?_append_right (by omega), show h.length + 1 + ls.length - h.length = ls.length + 1 by omega]
    simp
  · have hi : i < ls.length := (List.getElem?_eq_some_iff.mp e).1
    rw [List.append_assoc, List.getElem?_append_right (by omega), show h.length + 1 + i - h.length = i + 1 by omega]
    simp only [List.cons_append, List.getElem?_cons_succ, List.append_assoc]
    rw [List.getElem?_append_left (by simpa using hi), List.getElem?_map, e]
    rfl
noncomputable abbrev kask : List Nat := [97, 115, 107]
noncomputable abbrev ktake : List Nat := [116, 97, 107, 101]
noncomputable abbrev kget : List Nat := [103, 101, 116]
noncomputable abbrev khand : List Nat := [104, 97, 110, 100]
noncomputable abbrev khouse : List Nat := [104, 111, 117, 115, 101]
noncomputable abbrev kany : List Nat := [97, 110, 121]
noncomputable abbrev klast : List Nat := [108, 97, 115, 116]
noncomputable abbrev kmore : List Nat := [109, 111, 114, 101]
noncomputable def deedD (w : List Nat) (k : Int) (x : D) (t : List D) : D := .tup (.str w :: .int k :: x :: t)
/-- the letters on a way -/
noncomputable def wayOf (w : List Nat) (l : Ln) : List Lt := if w = ktake then l.to else l.back
theorem way_call (n : Nat) {h : Sto} {p : Nat} {s : List Nat} {ls : List Ln} {w : List Nat} {k : Nat} {x : D} {t : List D} {l : Ln} {Q : R → Sto → Prop} (H : HallAt h p s ls) (el : ls[k]? = some l) (kq : Q (.d (.tup ((wayOf w l).map letD))) h) : Ok (callF P (n + 1) 7 [.loc p, .d (deedD w k x t)] h) Q := by
  refine cl (F := ⟨2, 3, b_way_of, false, [], false⟩) rfl rfl rfl ?_
  obtain ⟨a, b, q, e1, e2, e3⟩ := H
  have hk : k < ls.length := (List.getElem?_eq_some_iff.mp el).1
  have e4 := e3 k l el
  refine st e1 ?_
  refine st idx_t1 ?_
  refine st e2 ?_
  refine st (olsAt_get (by omega) (by omega)) ?_
  refine st idx_t0 ?_
  refine br (fun c => ?_) (fun c => ?_)
  · have c' : w = ktake := eq_of_beq c
    refine st e4 ?_
    refine f0 ?_
    unfold wayOf at kq
    rwa [if_pos c'] at kq
  · have c' : ¬ w = ktake := ne_of_beq_false c
    refine st e4 ?_
    refine f0 ?_
    unfold wayOf at kq
    rwa [if_neg c'] at kq
/-- rows that begin so -/
noncomputable def begins (hd : List D) : D → Bool
  | .tup r => D.eqbs (r.take hd.length) hd
  | _ => false
noncomputable def isT : D → Bool
  | .tup _ => true
  | _ => false
noncomputable def firstR (rows : List D) (hd : List D) : Option D := rows.find? (begins hd)
noncomputable def optD : Option D → D
  | some d => d
  | none => .non
theorem rowfor_call (n : Nat) {h : Sto} {x y : D} {rows hd : List D} {Q : R → Sto → Prop} (ht : ∀ r ∈ rows, isT r = true) (hdep : (D.tup hd).dep ≤ 60) (kq : Q (.d (optD (firstR rows hd))) h) : Ok (callF P (n + 1) 3 [.d (.tup [x, y, .tup rows]), .d (.tup hd)] h) Q := by
  refine cl (F := ⟨2, 3, b_row_for, false, [], false⟩) rfl rfl rfl ?_
  refine ask (loop_wp (fun i σ h' => h' = h ∧ firstR rows hd = firstR (rows.drop i) hd ∧ ∃ v, σ = [some (.d (.tup [x, y, .tup rows])), some (.d (.tup hd)), v]) ?_ ?_ ⟨rfl, rfl, none, rfl⟩)
  · rintro i r σ h' hr ⟨rfl, hf, v, rfl⟩
    have hi := (List.getElem?_eq_some_iff.mp hr).1
    have hd1 : rows.drop i = r :: rows.drop (i + 1) := by
      rw [List.drop_eq_getElem_cons hi, (List.getElem?_eq_some_iff.mp hr).2]
    rw [hd1] at hf
    have tr := ht r (List.mem_of_getElem? hr)
    cases r with
    | tup r =>
      refine gb ?_
      (conv => whnf)
      rw [cutN]
      refine st (cop_eqO (cmpOkR hdep)) ?_
      refine br (fun c => ?_) (fun c => ?_)
      · (conv => whnf)
        rw [hf] at kq
        unfold firstR at kq
        rw [List.find?_cons_of_pos (by unfold begins; exact c)] at kq
        exact f0 kq
      · (conv => whnf)
        rw [hf]
        unfold firstR
        rw [List.find?_cons_of_neg (p := begins hd) (a := D.tup r) (show ¬ D.eqbs (r.take hd.length) hd = true by intro z; cases c.symm.trans z)]
        exact ⟨rfl, rfl, rfl, _, rfl⟩
    | _ => simp [isT] at tr
  · rintro σ h' ⟨rfl, hf, v, rfl⟩
    (conv => whnf)
    rw [List.drop_eq_nil_of_le (Nat.le_refl _)] at hf
    rw [hf] at kq
    exact f0 kq
theorem dep3 {a b c : List Nat} : (D.tup [.str a, .str b, .str c]).dep ≤ 60 := by simp [D.dep, D.deps]
theorem dep4 {a b c d : List Nat} : (D.tup [.str a, .str b, .str c, .str d]).dep ≤ 60 := by simp [D.dep, D.deps]
noncomputable def handR (rows : List D) (s e : List Nat) : Option D := firstR rows [.str khand, .str s, .str e]
theorem handrow_call (n : Nat) {h : Sto} {x y : D} {rows : List D} {s e : List Nat} {Q : R → Sto → Prop} (ht : ∀ r ∈ rows, isT r = true) (kq : Q (.d (optD (handR rows s e))) h) : Ok (callF P (n + 2) 1 [.d (.tup [x, y, .tup rows]), .d (.str s), .d (.str e)] h) Q := by
  refine cl (F := ⟨3, 3, b_hand_row, false, [], false⟩) rfl rfl rfl ?_
  exact ask (rowfor_call n ht dep3 (f0 kq))
noncomputable def houseR (rows : List D) (s m : List Nat) (last : Bool) : Option D := (firstR rows [.str khouse, .str s, .str m, .str kany]).or (firstR rows [.str khouse, .str s, .str m, .str (if last then klast else kmore)])
theorem find_T {rows hd : List D} {r : D} (ht : ∀ r ∈ rows, isT r = true) (e : firstR rows hd = some r) : isT r = true := ht r (List.mem_of_find?_eq_some e)
theorem isT_non {r : D} (h : isT r = true) : isNon r = false := by cases r <;> simp [isT] at h; rfl
theorem houserow_call (n : Nat) {h : Sto} {x y : D} {rows : List D} {s m : List Nat} {last : Bool} {Q : R → Sto → Prop} (ht : ∀ r ∈ rows, isT r = true) (kq : Q (.d (optD (houseR rows s m last))) h) : Ok (callF P (n + 2) 2 [.d (.tup [x, y, .tup rows]), .d (.str s), .d (.str m), .d (.bl last)] h) Q := by
  refine cl (F := ⟨4, 5, b_house_row, false, [], false⟩) rfl rfl rfl ?_
  unfold houseR at kq
  refine ask (rowfor_call n ht dep4 ?_)
  (conv => whnf)
  cases e : firstR rows [.str khouse, .str s, .str m, .str kany] with
  | some r =>
    rw [e] at kq
    refine br (fun c => ?_) (fun c => ?_)
    · cases (isT_non (find_T ht e)).symm.trans c
    · exact f0 kq
  | none =>
    rw [e] at kq
    refine br (fun c => ?_) (fun c => ?_) <;> subst c <;> (conv => whnf) <;> exact ask (rowfor_call n ht dep4 (f0 kq))
noncomputable def shB (l : Ln) : Bool := ((l.fl.toNat &&& 1 : Nat) : Int) != 0
noncomputable def shares (ls : List Ln) : List D := (nums 0 ls).filterMap fun p => if shB p.2 then some (.int p.1) else none
theorem enu_ols {p : Nat} {ls : List Ln} : enuFrom 0 ((olsAt p ls.length).map fun l => Ite.r (.loc l)) = some ((nums 0 ls).map fun x => Ite.en x.1 (.loc (p + x.1.toNat))) := by
  have gen : ∀ (ls : List Ln) (i : Nat), enuFrom (i : Int) (((List.range' i ls.length).map (p + ·)).map fun l => Ite.r (.loc l)) = some ((nums (i : Int) ls).map fun x => Ite.en x.1 (.loc (p + x.1.toNat))) := by
    intro ls
    induction ls with
    | nil => intro i; rfl
    | cons l ls ih =>
      intro i
      have := ih (i + 1)
      push_cast at this
      simp only [List.length_cons, List.range'_succ, List.map_cons, enuFrom, this, nums, Int.toNat_natCast]
  unfold olsAt
  rw [List.range_eq_range']
  exact gen ls 0
theorem nums_mem {ls : List Ln} {x : Int × Ln} (h : x ∈ nums 0 ls) : 0 ≤ x.1 ∧ x.1 < ls.length ∧ ls[x.1.toNat]? = some x.2 := by
  obtain ⟨j, hj, e⟩ := List.getElem_of_mem h
  obtain ⟨h1, h2⟩ := nums_at ls 0 j x (by rw [List.getElem?_eq_getElem hj, e])
  have h3 := (List.getElem?_eq_some_iff.mp h2).1
  rw [show x.1.toNat = j by omega]
  exact ⟨by omega, by omega, h2⟩
theorem handswith_call (n : Nat) {h : Sto} {p : Nat} {s : List Nat} {ls : List Ln} {Q : R → Sto → Prop} (H : HallAt h p s ls) (hf : ∀ l ∈ ls, 0 ≤ l.fl) (kq : Q (.d (.lst (shares ls))) h) : Ok (callF P (n + 1) 23 [.loc p, .d (.int 1)] h) Q := by
  refine cl (F := ⟨2, 4, b_m_Hall_hands_with, false, [], false⟩) rfl rfl rfl ?_
  obtain ⟨a, b, q, e1, e2, e3⟩ := H
  refine st e1 ?_
  refine st e2 ?_
  refine st enu_ols ?_
  refine ask (turns_filtG (g := fun x => if shB x.2 then some (.int x.1) else none) (fun x hx => ?_) (stays_ols e2 e2) ?_)
  · obtain ⟨h1, h2, h3⟩ := nums_mem hx
    have e4 := e3 _ _ h3
    have h4 := hf _ (List.mem_of_getElem? h3)
    refine gc ?_
    refine st e4 ?_
    refine st (bop_band h4 (show (0 : Int) ≤ 1 by decide)) ?_
    refine br (fun c => ?_) (fun c => ?_)
    · (conv => whnf)
      exact ⟨(if_pos (show shB x.2 = true from c)).symm, rfl⟩
    · (conv => whnf)
      exact ⟨(if_neg (show ¬ shB x.2 = true by intro z; cases c.symm.trans z)).symm, rfl⟩
  · exact f0 kq
theorem others_call (n : Nat) {h : Sto} {p : Nat} {s : List Nat} {ls : List Ln} {k : Int} {Q : R → Sto → Prop} (H : HallAt h p s ls) (hf : ∀ l ∈ ls, 0 ≤ l.fl) (kq : ∀ xs, Q (.d (.lst xs)) h) : Ok (callF P (n + 2) 24 [.loc p, .d (.int k)] h) Q := by
  refine cl (F := ⟨2, 3, b_m_Hall_other_sharers, false, [], false⟩) rfl rfl rfl ?_
  obtain ⟨a, b, q, e1, e2, e3⟩ := id H
  refine st e1 ⟨rfl, ha_hw, ?_⟩
  refine ask (handswith_call n H hf ?_)
  refine ask (turns_filt (g := fun x => if !(x.eqb (.int k)) then some x else none) (fun x hx => ?_) stays_none ?_)
  · refine gc ?_
    refine st (cop_neO (cmpOkR (show (D.int k).dep ≤ 60 by simp [D.dep]))) ?_
    refine br (fun c => ?_) (fun c => ?_)
    · (conv => whnf)
      exact ⟨(if_pos c).symm, rfl⟩
    · (conv => whnf)
      exact ⟨(if_neg (by intro z; cases c.symm.trans z)).symm, rfl⟩
  · exact f0 (kq _)
end K22

set_option linter.all false
set_option maxRecDepth 10000
namespace K22
open IT
theorem rfd_ask (n : Nat) {h : Sto} {p k : Nat} {s : List Nat} {ls : List Ln} {l : Ln} {x y : D} {rows t : List D} {ev : List Nat} {Q : R → Sto → Prop} (H : HallAt h p s ls) (el : ls[k]? = some l) (ht : ∀ r ∈ rows, isT r = true) (kq : Q (.d (optD (handR rows l.st ev))) h) :
    Ok (callF P (n + 3) 8 [.d (.tup [x, y, .tup rows]), .loc p, .d (deedD kask k (.str ev) t)] h) Q := by
  refine cl (F := ⟨3, 5, b_row_for_deed, false, [], false⟩) rfl rfl rfl ?_
  obtain ⟨a, b, q, e1, e2, e3⟩ := id H
  have hk : k < ls.length := (List.getElem?_eq_some_iff.mp el).1
  have e4 := e3 k l el
  refine st e1 ?_
  refine st idx_t1 ?_
  refine st e2 ?_
  refine st (olsAt_get (by omega) (by omega)) ?_
  refine st e4 ?_
  refine st idx_t0 ?_
  refine st idx_t2 ?_
  exact ask (handrow_call (n) ht (f0 kq))
theorem rfd_way (n : Nat) {h : Sto} {p k j : Nat} {s : List Nat} {ls : List Ln} {l : Ln} {lt : Lt} {x y : D} {rows t : List D} {w : List Nat} {Q : R → Sto → Prop} (H : HallAt h p s ls) (hf : ∀ l ∈ ls, 0 ≤ l.fl) (el : ls[k]? = some l) (ht : ∀ r ∈ rows, isT r = true) (hw : w = ktake ∨ w = kget) (ej : (wayOf w l)[j]? = some lt)
    (k1 : w = ktake → Q (.d (optD (handR rows l.st lt.1))) h) (k2 : w = kget → ∀ last, Q (.d (optD (houseR rows s lt.1 last))) h) :
    Ok (callF P (n + 3) 8 [.d (.tup [x, y, .tup rows]), .loc p, .d (deedD w k (.int j) t)] h) Q := by
  refine cl (F := ⟨3, 5, b_row_for_deed, false, [], false⟩) rfl rfl rfl ?_
  obtain ⟨a, b, q, e1, e2, e3⟩ := id H
  have hk : k < ls.length := (List.getElem?_eq_some_iff.mp el).1
  have e4 := e3 k l el
  have e5 : idxD (.tup ((wayOf w l).map letD)) (.int j) = some (letD lt) := idx_tup (by omega) (by rw [Int.toNat_natCast, List.getElem?_map, ej]; rfl)
  refine st e1 ?_
  refine st idx_t1 ?_
  refine st e2 ?_
  refine st (olsAt_get (by omega) (by omega)) ?_
  refine st e4 ?_
  refine st idx_t0 ?_
  rcases hw with rfl | rfl
  · refine ask (way_call (n + 1) (t := t) (x := .int j) H el ?_)
    refine st idx_t2 ?_
    refine st e5 ?_
    refine st idx_t0 ?_
    exact ask (handrow_call n ht (f0 (k1 rfl)))
  · refine ask (way_call (n + 1) (t := t) (x := .int j) H el ?_)
    refine st idx_t2 ?_
    refine st e5 ?_
    refine st idx_t0 ?_
    refine st e1 ?_
    refine st e1 ⟨rfl, ha_os, ?_⟩
    refine st idx_t1 ?_
    refine ask (others_call n H hf fun xs => ?_)
    exact ask (houserow_call n ht (f0 (k2 rfl _)))
theorem optD_non {o : Option D} (ho : ∀ r, o = some r → isT r = true) : isNon (optD o) = o.isNone := by
  cases o with
  | none => rfl
  | some r => exact isT_non (ho r rfl)
noncomputable abbrev kread : List Nat := [114, 101, 97, 100]
noncomputable abbrev kwrite : List Nat := [119, 114, 105, 116, 101]
noncomputable abbrev kdrop : List Nat := [100, 114, 111, 112]
noncomputable abbrev kwait : List Nat := [119, 97, 105, 116]
noncomputable def waits : D := .tup [.tup [.str kwait]]
theorem mbd_ask (n : Nat) {h : Sto} {p k : Nat} {s : List Nat} {ls : List Ln} {l : Ln} {x y : D} {rows t : List D} {ev : List Nat} {Q : R → Sto → Prop} (H : HallAt h p s ls) (el : ls[k]? = some l) (ht : ∀ r ∈ rows, isT r = true) (he : ev = kread ∨ ev = kwrite ∨ ev = kdrop) (kq : Q (.d (.bl (handR rows l.st ev).isSome)) h) :
    Ok (callF P (n + 4) 6 [.d (.tup [x, y, .tup rows]), .loc p, .d (deedD kask k (.str ev) t)] h) Q := by
  refine cl (F := ⟨3, 3, b_may_be_done, false, [], false⟩) rfl rfl rfl ?_
  obtain ⟨a, b, q, e1, e2, e3⟩ := id H
  have hk : k < ls.length := (List.getElem?_eq_some_iff.mp el).1
  have ln : (olsAt (p + 1) ls.length).length = ls.length := by simp [olsAt]
  have e5 : ([D.str [114, 101, 97, 100], D.str [119, 114, 105, 116, 101], D.str [100, 114, 111, 112]].any fun y => y.eqb (.str ev)) = true := by
    rcases he with rfl | rfl | rfl <;> rfl
  refine st idx_t1 ?_
  refine st idx_t1 ?_
  refine st e1 ?_
  refine st e2 ?_
  refine br (fun c => absurd (of_decide_eq_true c) (show ¬ ((olsAt (p + 1) ls.length).length : Int) ≤ (k : Int) by rw [ln]; omega)) (fun _ => ?_)
  refine st idx_t0 ?_
  refine st idx_t2 ?_
  refine br (fun _ => ?_) (fun c => absurd (e5.symm.trans c) (by decide))
  refine ask (rfd_ask n H el ht ?_)
  refine f0 ?_
  rw [optD_non (o := handR rows l.st ev) (fun r e => find_T ht e), show (!(handR rows l.st ev).isNone) = (handR rows l.st ev).isSome by cases handR rows l.st ev <;> rfl]
  exact kq
/-- the acts of a row, the last of it -/
noncomputable def lastD : D → D
  | .tup xs => match xs.getLast? with
    | some x => x
    | none => .non
  | _ => .non
noncomputable def full : D → Bool
  | .tup xs => !xs.isEmpty
  | _ => false
theorem full_T {r : D} (h : full r = true) : isT r = true := by cases r <;> simp [full] at h; rfl
theorem idx_end {r : D} (h : full r = true) : idxD r (.int (-1)) = some (lastD r) := by
  cases r with
  | tup xs =>
    simp only [full] at h
    rcases List.eq_nil_or_concat xs with rfl | ⟨ys, y, rfl⟩
    · simp at h
    · rw [List.concat_eq_append]
      simp only [idxD, lastD, at_last, List.getLast?_append, List.getLast?_singleton, Option.or]
  | _ => simp [full] at h
noncomputable def goes : Option D → Bool
  | none => true
  | some r => !(lastD r).eqb waits
theorem iswait_call (n : Nat) {h : Sto} {o : Option D} {Q : R → Sto → Prop} (ho : ∀ r, o = some r → full r = true) (kq : Q (.d (.bl (!goes o))) h) : Ok (callF P (n + 1) 4 [.d (optD o)] h) Q := by
  refine cl (F := ⟨1, 1, b_is_wait, false, [], false⟩) rfl rfl rfl ?_
  (conv => whnf)
  cases o with
  | none =>
    exact f0 kq
  | some r =>
    have fr := ho r rfl
    refine br (fun c => ?_) (fun c => ?_)
    · refine st (idx_end fr) ?_
      refine st (cop_eqO (cmpOkR (show (D.tup [.tup [.str [119, 97, 105, 116]]]).dep ≤ 60 by simp [D.dep, D.deps]))) ?_
      refine f0 ?_
      simp only [goes, Bool.not_not] at kq
      exact kq
    · have e : (!isNon r) = true := by rw [isT_non (full_T fr)]; rfl
      exact absurd (e.symm.trans c) (by decide)
theorem mbd_way (n : Nat) {h : Sto} {p k j : Nat} {s : List Nat} {ls : List Ln} {l : Ln} {lt : Lt} {x y : D} {rows t : List D} {w : List Nat} {Q : R → Sto → Prop} (H : HallAt h p s ls) (hf : ∀ l ∈ ls, 0 ≤ l.fl) (el : ls[k]? = some l) (ht : ∀ r ∈ rows, full r = true) (hw : w = ktake ∨ w = kget) (ej : (wayOf w l)[j]? = some lt)
    (k1 : w = ktake → Q (.d (.bl (goes (handR rows l.st lt.1)))) h) (k2 : w = kget → ∀ last, Q (.d (.bl (goes (houseR rows s lt.1 last)))) h) :
    Ok (callF P (n + 4) 6 [.d (.tup [x, y, .tup rows]), .loc p, .d (deedD w k (.int j) t)] h) Q := by
  refine cl (F := ⟨3, 3, b_may_be_done, false, [], false⟩) rfl rfl rfl ?_
  obtain ⟨a, b, q, e1, e2, e3⟩ := id H
  have hk : k < ls.length := (List.getElem?_eq_some_iff.mp el).1
  have hj : j < (wayOf w l).length := (List.getElem?_eq_some_iff.mp ej).1
  have ln : (olsAt (p + 1) ls.length).length = ls.length := by simp [olsAt]
  have ht2 : ∀ r ∈ rows, isT r = true := fun r hr => full_T (ht r hr)
  have hr1 : ∀ r, handR rows l.st lt.1 = some r → full r = true := fun r e => ht r (List.mem_of_find?_eq_some e)
  have hr2 : ∀ last r, houseR rows s lt.1 last = some r → full r = true := by
    intro last r e
    unfold houseR at e
    rcases Option.or_eq_some_iff.mp e with e | ⟨_, e⟩ <;> exact ht r (List.mem_of_find?_eq_some e)
  have hne : (D.str w).eqb (.str kask) = false := by rcases hw with rfl | rfl <;> rfl
  refine st idx_t1 ?_
  refine st idx_t1 ?_
  refine st e1 ?_
  refine st e2 ?_
  refine br (fun c => absurd (of_decide_eq_true c) (show ¬ ((olsAt (p + 1) ls.length).length : Int) ≤ (k : Int) by rw [ln]; omega)) (fun _ => ?_)
  refine st idx_t0 ?_
  refine br (fun c => absurd (hne.symm.trans c) (by decide)) (fun _ => ?_)
  refine st idx_t2 ?_
  refine st idx_t2 ?_
  refine ask (way_call (n + 2) (t := t) (x := .int j) H el ?_)
  (conv => whnf)
  rw [List.length_map]
  refine br (fun c => absurd (of_decide_eq_true c) (show ¬ (((wayOf w l).length : Int) ≤ (j : Int)) by omega)) (fun _ => ?_)
  refine ask (rfd_way n (t := t) H hf el ht2 hw ej (fun c => ?_) fun c last => ?_)
  · refine ask (iswait_call (n + 2) hr1 ?_)
    refine f0 ?_
    rw [Bool.not_not]
    exact k1 c
  · refine ask (iswait_call (n + 2) (hr2 last) ?_)
    refine f0 ?_
    rw [Bool.not_not]
    exact k2 c last
end K22

set_option linter.all false
set_option maxRecDepth 10000
namespace K22
open IT
theorem intsD_range (m : Nat) : intsD 0 m = (List.range m).map fun i : Nat => D.int (i : Int) := by
  refine List.ext_getElem? fun i => ?_
  by_cases hi : i < m
  · have h1 : i < (intsD 0 m).length := by rw [intsD_len']; exact hi
    have := intsD_at m 0 i _ (List.getElem?_eq_getElem h1)
    rw [List.getElem?_eq_getElem h1, this.2, List.getElem?_map, List.getElem?_range hi]
    simp
  · rw [List.getElem?_eq_none (by rw [intsD_len']; omega), List.getElem?_eq_none (by simp; omega)]
theorem asks_call (n : Nat) {h : Sto} {k : Int} {Q : R → Sto → Prop} (kq : Q (.d (.lst [deedD kask k (.str kread) [], deedD kask k (.str kwrite) [.int 0], deedD kask k (.str kdrop) []])) h) : Ok (callF P (n + 1) 10 [.d (.int k)] h) Q := by
  refine cl (F := ⟨1, 1, b_asks_of, false, [], false⟩) rfl rfl rfl ?_
  exact f0 kq
/-- the letters that may come -/
noncomputable def tk (o : Bool) (w : List Lt) : List Lt := if o then w.take 1 else w
noncomputable def lettersD (w : List Nat) (k : Int) (m : Nat) : List D := (List.range m).map fun j : Nat => deedD w k (.int j) []
theorem map_some {α β : Type} {g : α → β} : ∀ xs : List α, xs.filterMap (fun x => some (g x)) = xs.map g
  | [] => rfl
  | x :: xs => by rw [List.filterMap_cons, List.map_cons, map_some xs]
theorem comers_call (n : Nat) {h : Sto} {l : List Lt} {o : Bool} {Q : R → Sto → Prop} (kq : Q (.d (.tup ((tk o l).map letD))) h) : Ok (callF P (n + 1) 5 [.d (.tup (l.map letD)), .d (.bl o)] h) Q := by
  refine cl (F := ⟨2, 2, b_comers, false, [], false⟩) rfl rfl rfl ?_
  cases o with
  | true =>
    (conv => whnf)
    rw [cut_to (show (0 : Int) ≤ 1 by decide), ← List.map_take]
    exact f0 kq
  | false =>
    exact f0 kq
theorem letters_call (n : Nat) {h : Sto} {w : List Nat} {k : Int} {l : List Lt} {o : Bool} {Q : R → Sto → Prop} (hs : l.length ≤ 2) (kq : Q (.d (.lst (lettersD w k (tk o l).length))) h) : Ok (callF P (n + 2) 11 [.d (.str w), .d (.int k), .d (.tup (l.map letD)), .d (.bl o)] h) Q := by
  refine cl (F := ⟨4, 5, b_letters_of, false, [], false⟩) rfl rfl rfl ?_
  have h1 : (tk o l).length ≤ 2 := by unfold tk; split; rw [List.length_take]; omega; omega
  refine ask (comers_call n ?_)
  (conv => whnf)
  rw [List.length_map]
  refine ⟨⟨by omega, by omega⟩, ask ?_⟩
  rw [Int.toNat_natCast, intsD_range, List.map_map]
  refine turns_filtG (g := fun j : Nat => some (deedD w k (.int j) [])) (fun j hj => ?_) stays_none ?_
  · refine gc ?_
    (conv => whnf)
    exact ⟨rfl, rfl⟩
  · rw [map_some]
    exact f0 kq
/-- deeds and whether they may be done -/
noncomputable def candL (rows : List D) (g : List Nat → Bool) (o : Bool) (k : Int) (l : Ln) : List (D × Bool) :=
  [(deedD kask k (.str kread) [], (handR rows l.st kread).isSome), (deedD kask k (.str kwrite) [.int 0], (handR rows l.st kwrite).isSome), (deedD kask k (.str kdrop) [], (handR rows l.st kdrop).isSome)]
  ++ (List.range (tk o l.to).length).map (fun j : Nat => (deedD ktake k (.int j) [], true))
  ++ (List.range (tk o l.back).length).map (fun j : Nat => (deedD kget k (.int j) [], match l.back[j]? with | some lt => g lt.1 | none => true))
noncomputable def cands (rows : List D) (g : List Nat → Bool) (o : Bool) (ls : List Ln) : List (D × Bool) := ((nums 0 ls).map fun p => candL rows g o p.1 p.2).flatten
noncomputable def dues (rows : List D) (g : List Nat → Bool) (o : Bool) (ls : List Ln) : List D := ((cands rows g o ls).filter (·.2)).map (·.1)
structure Tab (s : List Nat) (rows : List D) (g : List Nat → Bool) : Prop where
  full : ∀ r ∈ rows, full r = true
  hand : ∀ st e, goes (handR rows st e) = true
  house : ∀ m last, (m = [109] ∨ m = [110]) → goes (houseR rows s m last) = g m
structure Lns (ls : List Ln) : Prop where
  fl : ∀ l ∈ ls, 0 ≤ l.fl
  to : ∀ l ∈ ls, l.to.length ≤ 2
  back : ∀ l ∈ ls, l.back.length ≤ 2
  few : ls.length ≤ 5
  kd : ∀ l ∈ ls, ∀ p ∈ l.back, p.1 = [109] ∨ p.1 = [110]
theorem tk_le {o : Bool} {w : List Lt} {j : Nat} (h : j < (tk o w).length) : j < w.length := by
  unfold tk at h
  split at h
  · rw [List.length_take] at h; omega
  · exact h
theorem cand_ok (n : Nat) {h : Sto} {p : Nat} {s : List Nat} {rows : List D} {g : List Nat → Bool} {ls : List Ln} {x y : D} {o : Bool} {c : D × Bool} {Q : R → Sto → Prop} (H : HallAt h p s ls) (T : Tab s rows g) (L : Lns ls) (hc : c ∈ cands rows g o ls) (kq : Q (.d (.bl c.2)) h) :
    Ok (callF P (n + 4) 6 [.d (.tup [x, y, .tup rows]), .loc p, .d c.1] h) Q := by
  unfold cands at hc
  obtain ⟨cs, hcs, hc⟩ := List.mem_flatten.mp hc
  obtain ⟨q, hq, rfl⟩ := List.mem_map.mp hcs
  obtain ⟨h1, h2, h3⟩ := nums_mem hq
  obtain ⟨k, hk⟩ : ∃ k : Nat, q.1 = k := ⟨q.1.toNat, by omega⟩
  rw [hk, Int.toNat_natCast] at h3
  have hm := List.mem_of_getElem? h3
  have ht : ∀ r ∈ rows, isT r = true := fun r hr => full_T (T.full r hr)
  unfold candL at hc
  rw [hk] at hc
  simp only [List.mem_append, List.mem_cons, List.not_mem_nil, or_false, List.mem_map, List.mem_range] at hc
  rcases hc with ((rfl | rfl | rfl) | ⟨j, hj, rfl⟩) | ⟨j, hj, rfl⟩
  · exact mbd_ask n H h3 ht (.inl rfl) kq
  · exact mbd_ask n H h3 ht (.inr (.inl rfl)) kq
  · exact mbd_ask n H h3 ht (.inr (.inr rfl)) kq
  · have hj2 := tk_le hj
    refine mbd_way n (lt := q.2.to[j]) H L.fl h3 T.full (.inl rfl) (by unfold wayOf; rw [if_pos rfl]; exact List.getElem?_eq_getElem hj2) (fun _ => ?_) (fun e => absurd e (by decide))
    rw [T.hand]
    exact kq
  · have hj2 := tk_le hj
    refine mbd_way n (lt := q.2.back[j]) H L.fl h3 T.full (.inr rfl) (by unfold wayOf; rw [if_neg (by decide)]; exact List.getElem?_eq_getElem hj2) (fun e => absurd e (by decide)) (fun _ last => ?_)
    rw [T.house _ _ (L.kd _ hm _ (List.getElem_mem hj2))]
    simp only [List.getElem?_eq_getElem hj2] at kq
    exact kq
end K22

set_option linter.all false
set_option maxRecDepth 10000
namespace K22
open IT
theorem candL_len {rows : List D} {g : List Nat → Bool} {o : Bool} {k : Int} {l : Ln} (h1 : l.to.length ≤ 2) (h2 : l.back.length ≤ 2) : (candL rows g o k l).length ≤ 7 := by
  have t : ∀ w : List Lt, (tk o w).length ≤ w.length := by
    intro w; unfold tk; split
    · rw [List.length_take]; omega
    · omega
  have := t l.to
  have := t l.back
  unfold candL
  simp
  omega
noncomputable def candsTo (rows : List D) (g : List Nat → Bool) (o : Bool) (ls : List Ln) (i : Nat) : List (D × Bool) := (((nums 0 ls).take i).map fun p => candL rows g o p.1 p.2).flatten
theorem candsTo_len {rows : List D} {g : List Nat → Bool} {o : Bool} {ls : List Ln} (L : Lns ls) (i : Nat) : (candsTo rows g o ls i).length ≤ 7 * i := by
  induction i with
  | zero => simp [candsTo]
  | succ i ih =>
    unfold candsTo at ih ⊢
    rw [List.take_add_one]
    cases e : (nums 0 ls)[i]? with
    | none => simp at ih ⊢; omega
    | some p =>
      have hm := (nums_mem (List.mem_of_getElem? e)).2.2
      have hm := List.mem_of_getElem? hm
      have := candL_len (rows := rows) (g := g) (o := o) (k := p.1) (L.to _ hm) (L.back _ hm)
      simp only [Option.toList, List.map_append, List.flatten_append, List.length_append, List.map_cons, List.map_nil, List.flatten_cons, List.flatten_nil, List.append_nil]
      omega
theorem keep_eq {cs : List (D × Bool)} : cs.filterMap (fun c => if c.2 then some c.1 else none) = (cs.filter (·.2)).map (·.1) := by
  induction cs with
  | nil => rfl
  | cons c cs ih =>
    rw [List.filterMap_cons, List.filter_cons]
    cases hc : c.2 <;> simp [hc, ih]
theorem fin_newL {xs : List D} {l : Nat} {h t : Sto} {Q : R → Sto → Prop} (hl : h.length ≤ l) (e : (h ++ t)[l]? = some (.lst xs)) (q : Q (.loc h.length) (h ++ [.lst xs])) : Ok (fin h false true (.loc l) (h ++ t)) Q := by
  simp only [fin, Bool.false_eq_true, if_false, objs_app, if_true, fin0, e, show ¬ (l < h.length) by omega, sto_take, ok_some']
  exact q
theorem may_core (n : Nat) {h : Sto} {s : List Nat} {a b : D} {ls : List Ln} {rows : List D} {g : List Nat → Bool} {x y : D} {o : Bool} {rs : List R} {Q : R → Sto → Prop} (T : Tab s rows g) (L : Lns ls) (er : fillD 3 [.bl true] rs = [.d (.tup [x, y, .tup rows]), .d (stdD s a b ls), .d (.bl o)]) (kq : Q (.loc h.length) (h ++ [.lst (dues rows g o ls)])) :
    Ok (callF P (n + 5) 9 rs h) Q := by
  refine cd (F := ⟨3, 8, b_may, true, [.bl true], false⟩) rfl er rfl ?_
  (conv => whnf)
  refine ask (hall_call (n + 2) ⟨rfl, ?_⟩)
  have HB : ∀ t, HallAt (h ++ halS h.length s a b ls ++ t) h.length s ls := fun t => hallS_at
  have hlen : h.length ≤ (h ++ halS h.length s a b ls).length := by simp
  obtain ⟨B, hB⟩ : ∃ B, B = h ++ halS h.length s a b ls := ⟨_, rfl⟩
  rw [← hB] at HB hlen ⊢
  obtain ⟨a1, b1, q, e1, e2, e3⟩ := HB [.lst []]
  (conv => whnf)
  refine st e1 ?_
  (conv => whnf)
  refine st e2 ?_
  (conv => whnf)
  refine st enu_ols ?_
  (conv => whnf)
  refine ask ?_
  have hq : ∀ t, (B ++ [.lst t])[q]? = some (.ols (olsAt (h.length + 1) ls.length)) := by
    intro t
    have hq1 : q < B.length := by
      by_cases c : q < B.length
      · exact c
      · rw [List.getElem?_append_right (by omega)] at e2
        cases hz : q - B.length with
        | zero => rw [hz] at e2; simp at e2
        | succ z => rw [hz] at e2; simp at e2
    rw [List.getElem?_append_left hq1] at e2 ⊢
    exact e2
  have hl : ∀ t i l, ls[i]? = some l → (B ++ [.lst t])[h.length + 1 + i]? = some (.ins "OpenLine" (opnF l)) := by
    intro t i l el
    obtain ⟨_, _, _, _, _, e⟩ := HB [.lst t]
    exact e i l el
  refine loopNG (fun i σ h' => i ≤ ls.length ∧ h' = B ++ [.lst ((candsTo rows g o ls i).map (·.1))] ∧ ∃ v5 v6, σ = [some (R.d (D.tup [x, y, D.tup rows])), some (R.d (stdD s a b ls)), some (R.d (D.bl o)), some (R.loc h.length), some (R.loc B.length), v5, v6, none]) ?_ ?_ ⟨by omega, rfl, none, none, rfl⟩
  · rintro i z σ h' hz ⟨hi, rfl, v5, v6, rfl⟩
    obtain ⟨z1, z2⟩ := nums_at ls 0 i z hz
    have hi2 : i < ls.length := (List.getElem?_eq_some_iff.mp z2).1
    have hm := List.mem_of_getElem? z2
    have hlen := candsTo_len (rows := rows) (g := g) (o := o) L i
    have hfew := L.few
    have ez : z.1.toNat = i := by omega
    have es : candsTo rows g o ls (i + 1) = candsTo rows g o ls i ++ candL rows g o z.1 z.2 := by
      unfold candsTo
      rw [List.take_add_one, hz]
      simp
    have h7 := candL_len (rows := rows) (g := g) (o := o) (k := z.1) (L.to _ hm) (L.back _ hm)
    have ec : (candL rows g o z.1 z.2).map (·.1) = [deedD kask z.1 (.str kread) [], deedD kask z.1 (.str kwrite) [.int 0], deedD kask z.1 (.str kdrop) []] ++ lettersD ktake z.1 (tk o z.2.to).length ++ lettersD kget z.1 (tk o z.2.back).length := by
      unfold candL lettersD
      simp [Function.comp_def]
    have h8 : (tk o z.2.to).length ≤ 2 ∧ (tk o z.2.back).length ≤ 2 := by
      have t : ∀ w : List Lt, (tk o w).length ≤ w.length := by
        intro w; unfold tk; split
        · rw [List.length_take]; omega
        · omega
      exact ⟨Nat.le_trans (t _) (L.to _ hm), Nat.le_trans (t _) (L.back _ hm)⟩
    have fitOf : ∀ m : Nat, m ≤ 1000 → fit m = true := fun m hm => decide_eq_true (by unfold big; omega)
    have hl' : ∀ t, (B ++ [Ob.lst t])[h.length + 1 + z.1.toNat]? = some (.ins "OpenLine" (opnF z.2)) := fun t => by rw [ez]; exact hl t i z.2 z2
    refine gb ?_
    (conv => whnf)
    refine st sto_get ?_
    (conv => whnf)
    refine ask (asks_call (n + 3) ?_)
    (conv => whnf)
    refine st sto_get ⟨fitOf _ (by simp; omega), ?_⟩
    rw [sto_set]
    (conv => whnf)
    refine st sto_get ?_
    (conv => whnf)
    refine st (hl' _) ?_
    (conv => whnf)
    refine ask (letters_call (n + 2) (L.to _ hm) ?_)
    (conv => whnf)
    refine st sto_get ⟨fitOf _ (by simp [lettersD]; omega), ?_⟩
    rw [sto_set]
    (conv => whnf)
    refine st sto_get ?_
    (conv => whnf)
    refine st (hl' _) ?_
    (conv => whnf)
    refine ask (letters_call (n + 2) (L.back _ hm) ?_)
    (conv => whnf)
    refine st sto_get ⟨fitOf _ (by simp [lettersD]; omega), ?_⟩
    rw [sto_set]
    refine ⟨rfl, stays_ols (hq _) (hq _), by omega, ?_, _, _, rfl⟩
    rw [es, List.map_append, ec]
    simp only [List.append_assoc]
  · rintro σ h' ⟨hi, rfl, v5, v6, rfl⟩
    have ea : candsTo rows g o ls (nums 0 ls).length = cands rows g o ls := by unfold candsTo cands; rw [List.take_length]
    rw [ea]
    (conv => whnf)
    refine st sto_get ?_
    (conv => whnf)
    refine ask ?_
    rw [List.map_map]
    refine turns_filtG (d := dI ∘ fun c : D × Bool => c.1) (g := fun c => if c.2 then some c.1 else none) (fun c hc => ?_) (stays_self sto_get) ?_
    · refine gc ?_
      (conv => whnf)
      refine ask (cand_ok n (HB _) T L hc ?_)
      (conv => whnf)
      refine br (fun e => ?_) (fun e => ?_)
      · (conv => whnf)
        exact ⟨(if_pos e).symm, rfl⟩
      · (conv => whnf)
        exact ⟨(if_neg (by intro z; cases e.symm.trans z)).symm, rfl⟩
    · rw [keep_eq]
      (conv => whnf)
      subst hB
      have e : (h ++ halS h.length s a b ls ++ ([Ob.lst ((cands rows g o ls).map fun x => x.1)] ++ [Ob.lst (((cands rows g o ls).filter fun x => x.2).map fun x => x.1)]))[(h ++ halS h.length s a b ls).length + 1]? = some (.lst (dues rows g o ls)) := by
        rw [List.getElem?_append_right (by omega), Nat.add_sub_cancel_left]
        rfl
      rw [List.append_assoc] at e
      rw [List.length_append (as := h ++ halS h.length s a b ls)]
      simp only [List.append_assoc]
      exact fin_newL (by simp; omega) e kq
noncomputable def isAsk : D → Bool
  | .tup (.str w :: _) => w == kask
  | _ => false
noncomputable def moving (ls : List Ln) : Bool := ls.any fun l => !(l.to ++ l.back).isEmpty
noncomputable def stuckB (ds : List D) (ls : List Ln) : Bool := moving ls && ds.all isAsk
theorem due_form {rows : List D} {g : List Nat → Bool} {o : Bool} {ls : List Ln} {d : D} (h : d ∈ dues rows g o ls) : ∃ w k x t, d = deedD w k x t := by
  unfold dues cands candL at h
  obtain ⟨c, hc, rfl⟩ := List.mem_map.mp h
  obtain ⟨hc, _⟩ := List.mem_filter.mp hc
  obtain ⟨cs, hcs, hc⟩ := List.mem_flatten.mp hc
  obtain ⟨q, hq, rfl⟩ := List.mem_map.mp hcs
  simp only [List.mem_append, List.mem_cons, List.not_mem_nil, or_false, List.mem_map, List.mem_range] at hc
  rcases hc with ((rfl | rfl | rfl) | ⟨j, hj, rfl⟩) | ⟨j, hj, rfl⟩ <;> exact ⟨_, _, _, _, rfl⟩
theorem bools_map {α : Type} {f : α → D} {t : α → Bool} : ∀ {xs : List α}, (∀ x ∈ xs, tru (f x) = some (t x)) → boolsOf (xs.map f) = some (xs.map t)
  | [], _ => rfl
  | x :: xs, h => by
    have e := bools_map (xs := xs) fun y hy => h y (List.mem_cons_of_mem _ hy)
    simp only [List.map_cons, boolsOf, h x (by simp), e]
theorem stuck_core (n : Nat) {h : Sto} {s : List Nat} {a b : D} {ls : List Ln} {rows : List D} {g : List Nat → Bool} {x y : D} {o : Bool} {rs : List R} {Q : R → Sto → Prop} (T : Tab s rows g) (L : Lns ls) (er : fillD 3 [.bl true] rs = [.d (.tup [x, y, .tup rows]), .d (stdD s a b ls), .d (.bl o)]) (kq : Q (.d (.bl (stuckB (dues rows g o ls) ls))) h) :
    Ok (callF P (n + 6) 12 rs h) Q := by
  refine cd (F := ⟨3, 5, b_stuck, false, [.bl true], false⟩) rfl er rfl ?_
  (conv => whnf)
  refine ask ?_
  rw [List.map_map]
  refine turns_filtG (d := dI ∘ lnD) (g := fun l => some (.tup ((l.to ++ l.back).map letD))) (fun l hl => ?_) stays_none ?_
  · have h1 := L.to l hl
    have h2 := L.back l hl
    refine gc ?_
    (conv => whnf)
    refine st (bop_addT' (show fit ((l.to.map letD).length + (l.back.map letD).length) = true from decide_eq_true (by unfold big; simp; omega))) ?_
    rw [← List.map_append]
    exact ⟨rfl, rfl⟩
  · rw [map_some]
    have eb : biD .any [.lst (ls.map fun l => .tup ((l.to ++ l.back).map letD))] = some (.bl (moving ls)) := by
      have e := bools_map (xs := ls) (f := fun l : Ln => D.tup ((l.to ++ l.back).map letD)) (t := fun l => !(l.to ++ l.back).isEmpty) fun l hl => by
        simp only [tru]
        cases l.to ++ l.back <;> rfl
      show (match boolsOf (ls.map fun l => D.tup ((l.to ++ l.back).map letD)) with | some bs => some (D.bl (bs.any id)) | none => none) = _
      rw [e]
      show some (D.bl ((ls.map _).any id)) = _
      rw [List.any_map]
      rfl
    (conv => whnf)
    refine st eb ?_
    (conv => whnf)
    refine br (fun c => ?_) (fun c => ?_)
    · (conv => whnf)
      refine f0 ?_
      unfold stuckB at kq
      have c : (!moving ls) = true := c
      rw [show moving ls = false by simpa using c, Bool.false_and] at kq
      exact kq
    · (conv => whnf)
      refine ask (may_core n T L rfl ?_)
      (conv => whnf)
      refine st sto_get ?_
      (conv => whnf)
      refine ask (turns_filt (g := fun d => some (.bl (isAsk d))) (fun d hd => ?_) (stays_self sto_get) ?_)
      · obtain ⟨w, k, z, t, rfl⟩ := due_form hd
        refine gc ?_
        (conv => whnf)
        refine st idx_t0 ?_
        exact ⟨rfl, rfl⟩
      · rw [map_some]
        have e := bools_map (xs := dues rows g o ls) (f := fun d => D.bl (isAsk d)) (t := isAsk) fun d _ => rfl
        have eb2 : biD .all [.lst ((dues rows g o ls).map fun d => .bl (isAsk d))] = some (.bl ((dues rows g o ls).all isAsk)) := by
          show (match boolsOf ((dues rows g o ls).map fun d => D.bl (isAsk d)) with | some bs => some (D.bl (bs.all id)) | none => none) = _
          rw [e]
          show some (D.bl ((List.map _ _).all id)) = _
          rw [List.all_map]
          rfl
        (conv => whnf)
        refine st eb2 ?_
        refine fa ?_
        unfold stuckB at kq
        have c : (!moving ls) = false := c
        rw [show moving ls = true by simpa using c, Bool.true_and] at kq
        exact kq
end K22

set_option linter.all false
namespace K22
open IT
theorem cell_call (n : Nat) {h : Sto} {ns : List Int} {i : Int} {Q : R → Sto → Prop} (c : 0 ≤ i) (k : ∀ c, Q (.d (.int c)) h) : Ok (callF P (n + 1) 13 [.d (.lst (ns.map .int)), .d (.int i)] h) Q := by
  refine cl (F := ⟨2, 2, b_w_cell_at, false, [], false⟩) rfl rfl rfl ?_
  refine br (fun t => ?_) (fun t => ?_)
  · have t : i < ((ns.map D.int).length : Int) := of_decide_eq_true t
    rw [List.length_map] at t
    have t2 : i.toNat < ns.length := by omega
    refine st (a := .int (ns[i.toNat]'t2)) (idx_lst c (by rw [List.getElem?_map, List.getElem?_eq_getElem t2]; rfl)) ?_
    exact f0 (k _)
  · exact f0 (k _)
/-- one digit: of the mixed number, or of the rest -/
theorem dig_ix2 {x y : Int} {z : Int} {b : Bool} (h0 : 0 < z) : ∃ d, idxD (.lst [.int (x % z), .int (y % z)]) (.int (if b = true then 1 else 0)) = some (.int d) ∧ 0 ≤ d ∧ d < z := by
  cases b
  · exact ⟨_, rfl, Int.emod_nonneg _ (by omega), Int.emod_lt_of_pos _ h0⟩
  · exact ⟨_, rfl, Int.emod_nonneg _ (by omega), Int.emod_lt_of_pos _ h0⟩
theorem ints_add {ds : List Int} {d z : Int} (hd : ∀ d ∈ ds, 0 ≤ d ∧ d < z) (d0 : 0 ≤ d) (d1 : d < z) : ∀ y ∈ ds ++ [d], 0 ≤ y ∧ y < z := by
  intro y hy
  rcases List.mem_append.mp hy with y1 | y1
  · exact hd y y1
  · simp at y1; subst y1; exact ⟨d0, d1⟩
/-- digits of a cell -/
theorem digits_call (n : Nat) {h : Sto} {c z m : Int} {Q : R → Sto → Prop} (h0 : 0 < z) (h1 : z < 1000000) (m0 : 0 ≤ m) (m1 : m ≤ 100)
    (k : ∀ ds : List Int, ds.length = m.toNat → (∀ d ∈ ds, 0 ≤ d ∧ d < z) → Q (.d (.lst (ds.map .int))) h) : Ok (callF P (n + 1) 14 [.d (.int c), .d (.int z), .d (.int m)] h) Q := by
  refine cl (F := ⟨3, 7, b_w_digits, false, [], false⟩) rfl rfl rfl ?_
  have hz : z < 1000000000000000000000000000000000000000000000000000000000000 := by omega
  have em : ∀ x : Int, bop .mul (.int x) (.int 48271) = some (.int (x * 48271)) := fun x => bop_mul (by rw [lim64_of (a := 48271) (by decide) (by decide)]; simp)
  refine st (em _) ?_
  (conv => whnf)
  refine ⟨⟨by omega, by omega⟩, ?_⟩
  refine ask (loopN (fun i σ h' => i ≤ m.toNat ∧ ∃ (ds : List Int) (mix rest : Int) (v6 : Option R), h' = h ++ [.lst (ds.map .int)] ∧ ds.length = i ∧ (∀ d ∈ ds, 0 ≤ d ∧ d < z) ∧ 0 ≤ mix ∧ mix < 2147483647 ∧
    σ = [some (R.d (.int c)), some (.d (.int z)), some (.d (.int m)), some (.loc h.length), some (.d (.int mix)), some (.d (.int rest)), v6]) ?_ ?_
    ⟨by omega, [], _, _, none, rfl, rfl, by simp, Int.emod_nonneg _ (by decide), Int.emod_lt_of_pos _ (by decide), rfl⟩)
  · rintro i x σ h' hx ⟨hi, ds, mix, rest, v6, rfl, hl, hd, g0, g1, rfl⟩
    obtain ⟨hi2, rfl⟩ := intsD_at _ _ _ _ hx
    have hb : (ds.map D.int).length < big := by unfold big; rw [List.length_map]; omega
    have f1 : 0 ≤ (mix + 7919 * (0 + (i : Int)) + 1) * (mix / 1009 + 69621) % 2147483647 := Int.emod_nonneg _ (by decide)
    have f2 : (mix + 7919 * (0 + (i : Int)) + 1) * (mix / 1009 + 69621) % 2147483647 < 2147483647 := Int.emod_lt_of_pos _ (by decide)
    refine gb ?_
    refine st (bop_mulL (by omega) (by omega)) ?_
    (conv => whnf)
    generalize (mix + 7919 * (0 + (i : Int)) + 1) * (mix / 1009 + 69621) % 2147483647 = mix' at f1 f2 ⊢
    refine st sto_get ?_
    refine st (bop_mod h0) ?_
    refine st (bop_mod h0) ?_
    refine br (fun _ => ?_) (fun _ => ?_)
    · (conv => whnf)
      obtain ⟨d, e, d0, d1⟩ := dig_ix2 (x := mix' / 7) (y := rest) (b := decide (0 < rest)) h0
      refine st e ?_
      refine st sto_get ⟨hb, ?_⟩
      rw [sto_set]
      refine st (bop_fdiv h0 hz) ?_
      exact ⟨rfl, rfl, by omega, ds ++ [d], mix', _, _, by simp, by simp [hl], ints_add hd d0 d1, f1, f2, rfl⟩
    · refine st sto_get ⟨hb, ?_⟩
      rw [sto_set]
      refine st (bop_fdiv h0 hz) ?_
      exact ⟨rfl, rfl, by omega, ds ++ [_], mix', _, _, by rw [List.map_append]; rfl, by simp [hl], ints_add hd (Int.emod_nonneg _ (by omega)) (Int.emod_lt_of_pos _ h0), f1, f2, rfl⟩
  · rintro σ h' ⟨hi, ds, mix, rest, v6, rfl, hl, hd, g0, g1, rfl⟩
    rw [intsD_len'] at hl
    exact fin_new (k ds hl hd)
end K22

set_option linter.all false
set_option maxRecDepth 10000
namespace K22
open IT
noncomputable abbrev kkeep : List Nat := [107, 101, 101, 112]
noncomputable def handRow (p : List Nat × List Nat × List Nat) : D := .tup [.str khand, .str p.1, .str p.2.1, .str p.2.2, .tup []]
noncomputable def waitRow (s m : List Nat) : D := .tup [.str khouse, .str s, .str m, .str kany, .str [104], .tup [.tup [.str kwait]]]
noncomputable def keepRow (s m w : List Nat) : D := .tup [.str khouse, .str s, .str m, .str w, .str [107], .tup [.tup [.str kkeep]]]
noncomputable def rowW (s m w : List Nat) : D := if w == kwait then waitRow s m else keepRow s m w
noncomputable def W8 : List (List (List Nat)) := [[kany], [klast, kmore], [kwait], [kwait], [klast], [kmore], [], [kwait]]
noncomputable def stO (i : Nat) : List Nat := if i < 2 then [104] else [107]
noncomputable def kiO (i : Nat) : List Nat := if i % 2 = 0 then [109] else [110]
noncomputable def houseRows (k x : Nat) : List D := (W8.getD x []).map (rowW (stO k) (kiO k))
noncomputable def houseFrom (k : Nat) : List Nat → List D
  | [] => []
  | x :: l => houseRows k x ++ houseFrom (k + 1) l
theorem houseFrom_app : ∀ (l : List Nat) (k x : Nat), houseFrom k (l ++ [x]) = houseFrom k l ++ houseRows (k + l.length) x
  | [], k, x => by simp [houseFrom]
  | y :: l, k, x => by
    simp only [List.cons_append, houseFrom, houseFrom_app l (k + 1) x, List.append_assoc, List.length_cons]
    rw [show k + 1 + l.length = k + (l.length + 1) by omega]
structure TabOf (rows : List D) : Prop where
  ex : ∃ (hs : List (List Nat × List Nat × List Nat)) (a b c d : Nat), rows = hs.map handRow ++ houseFrom 0 [a, b, c, d] ∧ a < 8 ∧ b < 8 ∧ c < 8 ∧ d < 8
theorem houseRows_len (k x : Nat) : (houseRows k x).length ≤ 2 := by
  unfold houseRows
  rw [List.length_map]
  by_cases h : x < 8
  · have : ∀ x : Fin 8, (W8.getD x []).length ≤ 2 := by decide
    exact this ⟨x, h⟩
  · rw [List.getD_eq_getElem?_getD, List.getElem?_eq_none (by show 8 ≤ x; omega)]
    simp
theorem houseFrom_len : ∀ (l : List Nat) (k : Nat), (houseFrom k l).length ≤ 2 * l.length
  | [], k => by simp [houseFrom]
  | x :: l, k => by
    have h1 := houseRows_len k x
    have h2 := houseFrom_len l (k + 1)
    simp only [houseFrom, List.length_append, List.length_cons]
    omega
theorem abc_ix {i : Int} (h0 : 0 ≤ i) (h1 : i < 3) : ∃ x, idxD (.lst [.str [97], .str [98], .str [99]]) (.int i) = some (.str x) := by
  obtain ⟨n, rfl⟩ : ∃ n : Nat, i = n := ⟨i.toNat, by omega⟩
  match n, h1 with
  | 0, _ => exact ⟨_, rfl⟩
  | 1, _ => exact ⟨_, rfl⟩
  | 2, _ => exact ⟨_, rfl⟩
  | n + 3, h => omega
theorem ev_ix {i : Int} (h0 : 0 ≤ i) (h1 : i < 5) : ∃ x, idxD (.lst [.str [114, 101, 97, 100], .str [119, 114, 105, 116, 101], .str [100, 114, 111, 112], .str [109], .str [110]]) (.int i) = some (.str x) := by
  obtain ⟨n, rfl⟩ : ∃ n : Nat, i = n := ⟨i.toNat, by omega⟩
  match n, h1 with
  | 0, _ => exact ⟨_, rfl⟩
  | 1, _ => exact ⟨_, rfl⟩
  | 2, _ => exact ⟨_, rfl⟩
  | 3, _ => exact ⟨_, rfl⟩
  | 4, _ => exact ⟨_, rfl⟩
  | n + 5, h => omega
theorem right_ix {i : Int} (h0 : 0 ≤ i) (h1 : i < 3) : ∃ x, idxD (.lst [.str [110, 111, 110, 101], .str [114, 101, 97, 100], .str [119, 114, 105, 116, 101]]) (.int i) = some (.str x) := by
  obtain ⟨n, rfl⟩ : ∃ n : Nat, i = n := ⟨i.toNat, by omega⟩
  match n, h1 with
  | 0, _ => exact ⟨_, rfl⟩
  | 1, _ => exact ⟨_, rfl⟩
  | 2, _ => exact ⟨_, rfl⟩
  | n + 3, h => omega
theorem dig_ix {ds : List Int} {i : Nat} {z : Int} (hd : ∀ d ∈ ds, 0 ≤ d ∧ d < z) (h : i < ds.length) : ∃ d, idxD (.lst (ds.map .int)) (.int i) = some (.int d) ∧ 0 ≤ d ∧ d < z := by
  refine ⟨ds[i], idx_lst (by omega) (by rw [Int.toNat_natCast, List.getElem?_map, List.getElem?_eq_getElem h]; rfl), hd _ (List.getElem_mem h)⟩
theorem table_call (n : Nat) {h : Sto} {c : Int} {Q : R → Sto → Prop} (k : ∀ x y rows, TabOf rows → Q (.d (.tup [x, y, .tup rows])) h) : Ok (callF P (n + 2) 15 [.d (.int c)] h) Q := by
  refine cl (F := ⟨1, 10, b_w_table, false, [], false⟩) rfl rfl rfl ?_
  refine ask (digits_call n (by decide) (by decide) (by decide) (by decide) fun ds hl hd => ?_)
  have hl : ds.length = 24 := hl
  (conv => whnf)
  refine ⟨⟨by decide, by decide⟩, ask (turns_wp (fun i ys h' => h' = h) ?_ ?_ rfl)⟩
  · rintro i x ys h' hx rfl
    obtain ⟨hi, rfl⟩ := intsD_at _ _ _ _ hx
    have hi : i < 3 := hi
    obtain ⟨s, e1⟩ := abc_ix (i := 0 + (i : Int)) (by omega) (by omega)
    obtain ⟨d, e2, d0, d1⟩ := dig_ix (i := i) hd (by omega)
    rw [show (i : Int) = 0 + (i : Int) by omega] at e2
    obtain ⟨r, e3⟩ := right_ix (i := d % 3) (Int.emod_nonneg _ (by decide)) (Int.emod_lt_of_pos _ (by decide))
    refine gc ?_
    refine st e1 ?_
    refine st e2 ?_
    refine st e3 ?_
    exact ⟨rfl, rfl⟩
  · rintro ys h' rfl
    (conv => whnf)
    refine ⟨⟨by decide, by decide⟩, ask (loopN (fun i σ g => i ≤ 15 ∧ ∃ (hs : List (List Nat × List Nat × List Nat)) (v4 v5 : Option R), hs.length ≤ i ∧ g = h' ++ [.lst (hs.map handRow)] ∧ σ = [some (R.d (D.int c)), some (R.d (D.lst (ds.map .int))), some (R.d (D.tup ys)), some (R.loc h'.length), v4, v5, none, none, none, none]) ?_ ?_ ⟨by omega, [], none, none, by simp, rfl, rfl⟩)⟩
    · rintro i x σ g hx ⟨hi, hs, v4, v5, hn, rfl, rfl⟩
      obtain ⟨hi2, rfl⟩ := intsD_at _ _ _ _ hx
      have hi2 : i < 15 := hi2
      obtain ⟨e, e1⟩ := ev_ix (i := (0 + (i : Int)) % 5) (by omega) (by omega)
      obtain ⟨d, e2, d0, d1⟩ := dig_ix (i := 3 + i) hd (by omega)
      rw [show ((3 + i : Nat) : Int) = 3 + (0 + (i : Int)) by push_cast; omega] at e2
      obtain ⟨s, e3⟩ := abc_ix (i := (0 + (i : Int)) / 5) (by omega) (by omega)
      obtain ⟨t, e4⟩ := abc_ix (i := d / 4 % 3) (by omega) (by omega)
      have hb : (hs.map handRow).length < big := by unfold big; rw [List.length_map]; omega
      refine gb ?_
      refine st e1 ?_
      refine st e2 ?_
      refine br (fun _ => ?_) (fun _ => ?_)
      · refine st sto_get ?_
        refine st e3 ?_
        refine st e2 ?_
        refine st e4 ?_
        refine st sto_get ⟨hb, ?_⟩
        rw [sto_set]
        exact ⟨rfl, rfl, by omega, hs ++ [(s, e, t)], _, _, by simp; omega, by rw [List.map_append]; rfl, rfl⟩
      · (conv => whnf)
        exact ⟨rfl, rfl, by omega, hs, _, _, by omega, rfl, rfl⟩
    · rintro σ g ⟨hi, hs, v4, v5, hn, rfl, rfl⟩
      have hn : hs.length ≤ 15 := hn
      (conv => whnf)
      refine ⟨⟨by decide, by decide⟩, ask (loopN (fun i σ g => i ≤ 4 ∧ ∃ (l : List Nat) (v4 v6 v7 v8 : Option R), l.length = i ∧ (∀ x ∈ l, x < 8) ∧ g = h' ++ [.lst (hs.map handRow ++ houseFrom 0 l)] ∧ σ = [some (R.d (D.int c)), some (R.d (D.lst (ds.map .int))), some (R.d (D.tup ys)), some (R.loc h'.length), v4, v5, v6, v7, v8, none]) ?_ ?_ ⟨by omega, [], v4, none, none, none, rfl, by simp, by simp [houseFrom], rfl⟩)⟩
      · rintro i x σ g hx ⟨hi, l, v4, v6, v7, v8, hll, hl8, rfl, rfl⟩
        obtain ⟨hi2, rfl⟩ := intsD_at _ _ _ _ hx
        have hi2 : i < 4 := hi2
        obtain ⟨d, e2, d0, d1⟩ := dig_ix (i := 18 + i) hd (by omega)
        rw [show ((18 + i : Nat) : Int) = 18 + (0 + (i : Int)) by push_cast; omega] at e2
        have e1 : idxD (.lst [.str [104], .str [107]]) (.int ((0 + (i : Int)) / 2)) = some (.str (stO i)) := by
          match i, hi2 with
          | 0, _ => rfl
          | 1, _ => rfl
          | 2, _ => rfl
          | 3, _ => rfl
          | n + 4, h => omega
        have e3 : idxD (.lst [.str [109], .str [110]]) (.int ((0 + (i : Int)) % 2)) = some (.str (kiO i)) := by
          match i, hi2 with
          | 0, _ => rfl
          | 1, _ => rfl
          | 2, _ => rfl
          | 3, _ => rfl
          | n + 4, h => omega
        obtain ⟨j, hj, hj8⟩ : ∃ j : Nat, d % 8 = j ∧ j < 8 := ⟨(d % 8).toNat, by omega, by omega⟩
        have e4 : idxD (.lst [.lst [.str [97, 110, 121]], .lst [.str [108, 97, 115, 116], .str [109, 111, 114, 101]], .lst [.str [119, 97, 105, 116]], .lst [.str [119, 97, 105, 116]], .lst [.str [108, 97, 115, 116]], .lst [.str [109, 111, 114, 101]], .lst [], .lst [.str [119, 97, 105, 116]]]) (.int (d % 8)) = some (.lst ((W8.getD j []).map .str)) := by
          rw [hj]
          refine idx_lst (by omega) ?_
          rw [Int.toNat_natCast]
          match j, hj8 with
          | 0, _ => rfl
          | 1, _ => rfl
          | 2, _ => rfl
          | 3, _ => rfl
          | 4, _ => rfl
          | 5, _ => rfl
          | 6, _ => rfl
          | 7, _ => rfl
          | n + 8, h => omega
        have hfl := houseFrom_len l 0
        have hw2 : (W8.getD j []).length ≤ 2 := by
          have : ∀ x : Fin 8, (W8.getD x []).length ≤ 2 := by decide
          exact this ⟨j, hj8⟩
        refine gb ?_
        refine st e1 ?_
        refine st e2 ?_
        refine st e4 ?_
        (conv => whnf)
        rw [List.map_map]
        refine ask (loopNG (fun m σ g => m ≤ (W8.getD j []).length ∧ ∃ (v8 : Option R), g = h' ++ [.lst (hs.map handRow ++ houseFrom 0 l ++ ((W8.getD j []).take m).map (rowW (stO i) (kiO i)))] ∧ σ = [some (R.d (D.int c)), some (R.d (D.lst (ds.map .int))), some (R.d (D.tup ys)), some (R.loc h'.length), some (R.d (D.int (0 + (i : Int)))), v5, some (R.d (.str (stO i))), some (R.d (.lst ((W8.getD j []).map .str))), v8, none]) ?_ ?_ ⟨by omega, v8, by simp, rfl⟩)
        · rintro m w σ g hw ⟨hm, v8, rfl, rfl⟩
          have hm2 := (List.getElem?_eq_some_iff.mp hw).1
          have ht : (W8.getD j []).take (m + 1) = (W8.getD j []).take m ++ [w] := by rw [List.take_add_one, hw]; rfl
          have hb : (hs.map handRow ++ houseFrom 0 l ++ ((W8.getD j []).take m).map (rowW (stO i) (kiO i))).length < big := by
            unfold big
            simp only [List.length_append, List.length_map, List.length_take]
            omega
          have es : ∀ r, rowW (stO i) (kiO i) w = r → ∃ v8', h' ++ [Ob.lst (hs.map handRow ++ houseFrom 0 l ++ ((W8.getD j []).take m).map (rowW (stO i) (kiO i)) ++ [r])] = h' ++ [.lst (hs.map handRow ++ houseFrom 0 l ++ ((W8.getD j []).take (m + 1)).map (rowW (stO i) (kiO i)))] ∧ v8' = some (R.d (.str w)) := by
            intro r hr
            refine ⟨_, ?_, rfl⟩
            rw [ht, List.map_append, ← List.append_assoc, ← hr]
            rfl
          refine gb ?_
          refine br (fun t => ?_) (fun t => ?_)
          · refine st sto_get ?_
            refine st e3 ?_
            refine st sto_get ⟨hb, ?_⟩
            rw [sto_set]
            obtain ⟨_, e5, rfl⟩ := es (waitRow (stO i) (kiO i)) (by unfold rowW; exact if_pos t)
            exact ⟨rfl, rfl, by omega, _, e5, rfl⟩
          · refine st sto_get ?_
            refine st e3 ?_
            refine st sto_get ⟨hb, ?_⟩
            rw [sto_set]
            obtain ⟨_, e5, rfl⟩ := es (keepRow (stO i) (kiO i) w) (by unfold rowW; exact if_neg (by intro z; cases t.symm.trans z))
            exact ⟨rfl, rfl, by omega, _, e5, rfl⟩
        · rintro σ g ⟨hm, v8, rfl, rfl⟩
          (conv => whnf)
          refine ⟨rfl, rfl, by omega, l ++ [j], _, _, _, _, by simp [hll], ?_, ?_, rfl⟩
          · intro x hx
            rcases List.mem_append.mp hx with h1 | h1
            · exact hl8 x h1
            · simp at h1; omega
          · rw [houseFrom_app, List.take_length, Nat.zero_add, hll, List.append_assoc]
            rfl
      · rintro σ g ⟨hi, l, v4, v6, v7, v8, hll, hl8, rfl, rfl⟩
        refine st sto_get ?_
        refine fa ?_
        have hll : l.length = 4 := hll
        match l, hll, hl8 with
        | [a, b, c, d], _, h8 => exact k _ _ _ ⟨hs, a, b, c, d, rfl, h8 a (by simp), h8 b (by simp), h8 c (by simp), h8 d (by simp)⟩
end K22

set_option linter.all false
set_option maxRecDepth 10000
namespace K22
open IT
noncomputable def waitsB (rows : List D) (s m : List Nat) : Bool := rows.any fun y => y.eqb (waitRow s m)
theorem hand_house {p : List Nat × List Nat × List Nat} {t : List D} : begins (.str khouse :: t) (handRow p) = false := by
  simp [begins, handRow, D.eqbs, D.eqb]
theorem find_hands {hs : List (List Nat × List Nat × List Nat)} {t : List D} : (hs.map handRow).find? (begins (.str khouse :: t)) = none := by
  rw [List.find?_eq_none]
  intro r hr
  obtain ⟨p, _, rfl⟩ := List.mem_map.mp hr
  rw [hand_house]
  decide
theorem any_hands {hs : List (List Nat × List Nat × List Nat)} {s m : List Nat} : (hs.map handRow).any (fun y => y.eqb (waitRow s m)) = false := by
  rw [List.any_eq_false]
  intro r hr
  obtain ⟨p, _, rfl⟩ := List.mem_map.mp hr
  simp [handRow, waitRow, D.eqb, D.eqbs]
theorem other_find : ∀ (k k' : Fin 4) (x : Fin 8) (i : Fin 3), k ≠ k' → ((houseRows k' x).find? (begins [.str khouse, .str (stO k), .str (kiO k), .str ([kany, klast, kmore].getD i [])])).isNone = true := by decide +kernel
theorem other_any : ∀ (k k' : Fin 4) (x : Fin 8), k ≠ k' → ((houseRows k' x).any fun y => y.eqb (waitRow (stO k) (kiO k))) = false := by decide +kernel
theorem own_ok : ∀ (k : Fin 4) (x : Fin 8) (last : Bool), goes (((houseRows k x).find? (begins [.str khouse, .str (stO k), .str (kiO k), .str kany])).or ((houseRows k x).find? (begins [.str khouse, .str (stO k), .str (kiO k), .str (if last then klast else kmore)]))) = !((houseRows k x).any fun y => y.eqb (waitRow (stO k) (kiO k))) := by decide +kernel
theorem own_find {a b c d : Nat} (ha : a < 8) (hb : b < 8) (hc : c < 8) (hd : d < 8) (k : Fin 4) (i : Fin 3) : (houseFrom 0 [a, b, c, d]).find? (begins [.str khouse, .str (stO k), .str (kiO k), .str ([kany, klast, kmore].getD i [])]) = (houseRows k ([a, b, c, d].getD k 0)).find? (begins [.str khouse, .str (stO k), .str (kiO k), .str ([kany, klast, kmore].getD i [])]) := by
  have o : ∀ (k' : Fin 4) (x : Nat), x < 8 → k ≠ k' → (houseRows k' x).find? (begins [.str khouse, .str (stO k), .str (kiO k), .str ([kany, klast, kmore].getD i [])]) = none := fun k' x hx hk => Option.isNone_iff_eq_none.mp (other_find k k' ⟨x, hx⟩ i hk)
  generalize begins [.str khouse, .str (stO k), .str (kiO k), .str ([kany, klast, kmore].getD i [])] = p at o ⊢
  have o0 : k ≠ 0 → (houseRows 0 a).find? p = none := o 0 a ha
  have o1 : k ≠ 1 → (houseRows 1 b).find? p = none := o 1 b hb
  have o2 : k ≠ 2 → (houseRows 2 c).find? p = none := o 2 c hc
  have o3 : k ≠ 3 → (houseRows 3 d).find? p = none := o 3 d hd
  clear o
  have e : (houseFrom 0 [a, b, c, d]).find? p = ((houseRows 0 a).find? p).or (((houseRows 1 b).find? p).or (((houseRows 2 c).find? p).or ((houseRows 3 d).find? p))) := by
    simp only [houseFrom, List.find?_append, List.find?_nil, Nat.zero_add, Nat.reduceAdd, Option.or_none]
  rw [e]
  match k, o0, o1, o2, o3 with
  | 0, o0, o1, o2, o3 => rw [o1 (by decide), o2 (by decide), o3 (by decide)]; simp
  | 1, o0, o1, o2, o3 => rw [o0 (by decide), o2 (by decide), o3 (by decide)]; simp
  | 2, o0, o1, o2, o3 => rw [o0 (by decide), o1 (by decide), o3 (by decide)]; simp
  | 3, o0, o1, o2, o3 => rw [o0 (by decide), o1 (by decide), o2 (by decide)]; rfl
theorem own_any {a b c d : Nat} (ha : a < 8) (hb : b < 8) (hc : c < 8) (hd : d < 8) (k : Fin 4) : ((houseFrom 0 [a, b, c, d]).any fun y => y.eqb (waitRow (stO k) (kiO k))) = (houseRows k ([a, b, c, d].getD k 0)).any fun y => y.eqb (waitRow (stO k) (kiO k)) := by
  have o : ∀ (k' : Fin 4) (x : Nat), x < 8 → k ≠ k' → ((houseRows k' x).any fun y => y.eqb (waitRow (stO k) (kiO k))) = false := fun k' x hx hk => other_any k k' ⟨x, hx⟩ hk
  generalize (fun y : D => y.eqb (waitRow (stO k) (kiO k))) = p at o ⊢
  have o0 : k ≠ 0 → (houseRows 0 a).any p = false := o 0 a ha
  have o1 : k ≠ 1 → (houseRows 1 b).any p = false := o 1 b hb
  have o2 : k ≠ 2 → (houseRows 2 c).any p = false := o 2 c hc
  have o3 : k ≠ 3 → (houseRows 3 d).any p = false := o 3 d hd
  clear o
  have e : (houseFrom 0 [a, b, c, d]).any p = ((houseRows 0 a).any p || ((houseRows 1 b).any p || ((houseRows 2 c).any p || (houseRows 3 d).any p))) := by
    simp only [houseFrom, List.any_append, List.any_nil, Nat.zero_add, Nat.reduceAdd, Bool.or_false]
  rw [e]
  match k, o0, o1, o2, o3 with
  | 0, o0, o1, o2, o3 => rw [o1 (by decide), o2 (by decide), o3 (by decide)]; simp
  | 1, o0, o1, o2, o3 => rw [o0 (by decide), o2 (by decide), o3 (by decide)]; simp
  | 2, o0, o1, o2, o3 => rw [o0 (by decide), o1 (by decide), o3 (by decide)]; simp
  | 3, o0, o1, o2, o3 => rw [o0 (by decide), o1 (by decide), o2 (by decide)]; rfl
theorem house_form : ∀ {l : List Nat} {k : Nat} {r : D}, r ∈ houseFrom k l → ∃ t, r = .tup (.str khouse :: t)
  | [], k, r, h => by simp [houseFrom] at h
  | x :: l, k, r, h => by
    simp only [houseFrom, List.mem_append] at h
    rcases h with h | h
    · obtain ⟨w, _, rfl⟩ := List.mem_map.mp h
      unfold rowW
      split
      · exact ⟨_, rfl⟩
      · exact ⟨_, rfl⟩
    · exact house_form h
theorem sm_ix {s m : List Nat} (hs : s = [104] ∨ s = [107]) (hm : m = [109] ∨ m = [110]) : ∃ k : Fin 4, stO k = s ∧ kiO k = m := by
  rcases hs with rfl | rfl <;> rcases hm with rfl | rfl
  · exact ⟨0, rfl, rfl⟩
  · exact ⟨1, rfl, rfl⟩
  · exact ⟨2, rfl, rfl⟩
  · exact ⟨3, rfl, rfl⟩
theorem tab_of {rows : List D} {s : List Nat} (T : TabOf rows) (hs : s = [104] ∨ s = [107]) : Tab s rows (fun m => !waitsB rows s m) := by
  obtain ⟨hz, a, b, c, d, rfl, ha, hb, hc, hd⟩ := T.ex
  have key : ∀ r ∈ hz.map handRow ++ houseFrom 0 [a, b, c, d], (∃ p, r = handRow p) ∨ ∃ t, r = .tup (.str khouse :: t) := by
    intro r hr
    rcases List.mem_append.mp hr with hr | hr
    · obtain ⟨p, _, rfl⟩ := List.mem_map.mp hr
      exact .inl ⟨p, rfl⟩
    · exact .inr (house_form hr)
  refine ⟨fun r hr => ?_, fun st e => ?_, fun m last hm => ?_⟩
  · rcases key r hr with ⟨p, rfl⟩ | ⟨t, rfl⟩ <;> rfl
  · cases er : handR (hz.map handRow ++ houseFrom 0 [a, b, c, d]) st e with
    | none => rfl
    | some r =>
      have h1 := List.mem_of_find?_eq_some er
      have h2 := List.find?_some er
      rcases key r h1 with ⟨p, rfl⟩ | ⟨t, rfl⟩
      · rfl
      · simp [begins, D.eqbs, D.eqb] at h2
  · obtain ⟨k, rfl, rfl⟩ := sm_ix hs hm
    unfold houseR firstR waitsB
    simp only [List.find?_append, List.any_append, find_hands, any_hands, Option.none_or, Bool.false_or]
    have hx : [a, b, c, d].getD k 0 < 8 := by
      match k with
      | 0 => exact ha
      | 1 => exact hb
      | 2 => exact hc
      | 3 => exact hd
    have f0 := own_find ha hb hc hd k 0
    have f1 := own_find ha hb hc hd k (if last then 1 else 2)
    have e1 : ([kany, klast, kmore].getD ((if last then 1 else 2 : Fin 3) : Nat) []) = (if last then klast else kmore) := by cases last <;> rfl
    rw [e1] at f1
    rw [own_any ha hb hc hd k]
    have := own_ok k ⟨_, hx⟩ last
    rw [← this]
    congr 1
    exact congr (congrArg Option.or f0) f1
end K22

set_option linter.all false
set_option maxRecDepth 10000
namespace K22
open IT
structure GoodL (l : Ln) : Prop where
  fl : 0 ≤ l.fl
  to : l.to.length ≤ 2
  back : l.back.length ≤ 2
  kd : ∀ p ∈ l.back, p.1 = [109] ∨ p.1 = [110]
theorem cut_map {α β : Type} {f : α → β} {xs : List α} {a b : Option Int} : cut (xs.map f) a b = (cut xs a b).map f := by
  unfold cut
  simp only [List.length_map, List.map_take, List.map_drop]
theorem cut_mem {α : Type} {xs : List α} {a b : Option Int} {x : α} (h : x ∈ cut xs a b) : x ∈ xs := List.mem_of_mem_drop (List.mem_of_mem_take h)
noncomputable def some4 (v : D) : List Lt := [([109], .non), ([110], v), ([109], v), ([110], .non)]
theorem some4_kd {v : D} {p : Lt} (h : p ∈ some4 v) : p.1 = [109] ∨ p.1 = [110] := by
  simp only [some4, List.mem_cons, List.not_mem_nil, or_false] at h
  rcases h with rfl | rfl | rfl | rfl <;> simp
theorem line_call (n : Nat) {h : Sto} {c : Int} {v : D} {Q : R → Sto → Prop} (k : ∀ l, GoodL l → Q (.d (lnD l)) h) : Ok (callF P (n + 2) 16 [.d (.int c), .d v] h) Q := by
  refine cl (F := ⟨2, 6, b_w_line, false, [], false⟩) rfl rfl rfl ?_
  refine ask (digits_call n (by decide) (by decide) (by decide) (by decide) fun ds hl hd => ?_)
  have hl : ds.length = 4 := hl
  obtain ⟨d0, d1, d2, d3, rfl⟩ : ∃ a b c d, ds = [a, b, c, d] := by
    match ds, hl with
    | [a, b, c, d], _ => exact ⟨a, b, c, d, rfl⟩
  have h3 := hd d3 (by simp)
  obtain ⟨s, e1⟩ := abc_ix (i := d0 % 3) (Int.emod_nonneg _ (by decide)) (Int.emod_lt_of_pos _ (by decide))
  have es : ∀ a b : Int, cut (cut [.tup [.str [109], .non], .tup [.str [110], v], .tup [.str [109], v], .tup [.str [110], .non]] (some a) (some b)) none (some 2) = ((cut (some4 v) (some a) (some b)).take 2).map letD := by
    intro a b
    rw [cut_to (by decide), show [D.tup [.str [109], .non], .tup [.str [110], v], .tup [.str [109], v], .tup [.str [110], .non]] = (some4 v).map letD from rfl, cut_map, List.map_take]
    rfl
  have bk : ∀ a b : Int, ((cut (some4 v) (some a) (some b)).take 2).length ≤ 2 := fun a b => by rw [List.length_take]; omega
  have kd : ∀ a b : Int, ∀ p ∈ (cut (some4 v) (some a) (some b)).take 2, p.1 = [109] ∨ p.1 = [110] := fun a b p hp => some4_kd (cut_mem (List.mem_of_mem_take hp))
  (conv => whnf)
  rw [es, es]
  refine br (fun _ => ?_) (fun _ => ?_)
  · refine st e1 ?_
    refine f0 ?_
    exact k ⟨s, [], (cut (some4 v) (some (d2 % 3)) (some (d2 % 3 + d2 / 3 % 3))).take 2, d3 % 4⟩ ⟨Int.emod_nonneg _ (by decide), by simp, bk _ _, kd _ _⟩
  · refine st e1 ?_
    refine f0 ?_
    exact k ⟨s, (cut (some4 v) (some (d1 % 3)) (some (d1 % 3 + d1 / 3 % 3))).take 2, (cut (some4 v) (some (d2 % 3)) (some (d2 % 3 + d2 / 3 % 3))).take 2, d3 % 4⟩ ⟨Int.emod_nonneg _ (by decide), bk _ _, bk _ _, kd _ _⟩
theorem find_filter {p : D → Bool} : ∀ xs : List D, (xs.find? p).isSome = !(xs.filter p).isEmpty
  | [] => rfl
  | x :: xs => by
    rw [List.find?_cons, List.filter_cons]
    cases hp : p x
    · simpa using find_filter xs
    · simp
theorem eqbs_nil {xs : List D} : D.eqbs xs [] = xs.isEmpty := by cases xs <;> rfl
theorem has_call (n : Nat) {h : Sto} {x y : D} {rows : List D} {st' e : List Nat} {Q : R → Sto → Prop} (ht : ∀ r ∈ rows, isT r = true) (k : Q (.d (.bl (handR rows st' e).isSome)) h) : Ok (callF P (n + 1) 17 [.d (.tup [x, y, .tup rows]), .d (.str st'), .d (.str e)] h) Q := by
  refine cl (F := ⟨3, 4, b_w_has, false, [], false⟩) rfl rfl rfl ?_
  refine ask (turns_filt (g := fun r => if begins [.str khand, .str st', .str e] r then some r else none) (fun r hr => ?_) stays_none ?_)
  · have tr := ht r hr
    cases r with
    | tup r =>
      refine gc ?_
      (conv => whnf)
      rw [cut_to (show (0 : Int) ≤ 3 by decide)]
      refine st (cop_eqO (cmpOkR dep3)) ?_
      refine br (fun c => ?_) (fun c => ?_)
      · (conv => whnf)
        exact ⟨(if_pos (show begins [.str khand, .str st', .str e] (.tup r) = true from c)).symm, rfl⟩
      · (conv => whnf)
        exact ⟨(if_neg (show ¬ begins [.str khand, .str st', .str e] (.tup r) = true by intro z; cases c.symm.trans z)).symm, rfl⟩
    | _ => simp [isT] at tr
  · have e1 : rows.filterMap (fun r => if begins [.str khand, .str st', .str e] r then some r else none) = rows.filter (begins [.str khand, .str st', .str e]) := by
      clear k ht
      induction rows with
      | nil => rfl
      | cons r rows ih =>
        rw [List.filterMap_cons, List.filter_cons]
        cases hb : begins [.str khand, .str st', .str e] r <;> simp [ih]
    rw [e1]
    refine st (cop_neO (cmpOkR (show (D.lst []).dep ≤ 60 by decide))) ?_
    refine f0 ?_
    unfold handR firstR at k
    rw [find_filter] at k
    rw [D.eqb, eqbs_nil]
    exact k
theorem waits_call (n : Nat) {h : Sto} {x y : D} {rows : List D} {s m : List Nat} {Q : R → Sto → Prop} (k : Q (.d (.bl (waitsB rows s m))) h) : Ok (callF P (n + 1) 18 [.d (.tup [x, y, .tup rows]), .d (.str s), .d (.str m)] h) Q := by
  refine cl (F := ⟨3, 3, b_w_waits, false, [], false⟩) rfl rfl rfl ?_
  exact f0 k
end K22

set_option linter.all false
set_option maxRecDepth 10000
namespace K22
open IT
/-- those that may be done -/
noncomputable def pick (cs : List (D × Bool)) : List D := (cs.filter (·.2)).map (·.1)
theorem pick_app {a b : List (D × Bool)} : pick (a ++ b) = pick a ++ pick b := by unfold pick; rw [List.filter_append, List.map_append]
theorem pick_len {a : List (D × Bool)} : (pick a).length ≤ a.length := by unfold pick; rw [List.length_map]; exact List.length_filter_le _ _
theorem pick_one {c : D × Bool} : pick [c] = if c.2 then [c.1] else [] := by unfold pick; cases hc : c.2 <;> simp [hc]
noncomputable def askC (rows : List D) (k : Int) (l : Ln) (e : List Nat) : D × Bool := (deedD kask k (.str e) (if e == kwrite then [.int 0] else []), (handR rows l.st e).isSome)
noncomputable def takeC (k : Int) (j : Nat) : D × Bool := (deedD ktake k (.int j) [], true)
noncomputable def getC (g : List Nat → Bool) (k : Int) (l : Ln) (j : Nat) : D × Bool := (deedD kget k (.int j) [], match l.back[j]? with | some lt => g lt.1 | none => true)
theorem candL_eq {rows : List D} {g : List Nat → Bool} {o : Bool} {k : Int} {l : Ln} : candL rows g o k l = [kread, kwrite, kdrop].map (askC rows k l) ++ (List.range (tk o l.to).length).map (takeC k) ++ (List.range (tk o l.back).length).map (getC g k l) := rfl
theorem tk_min {o : Bool} {w : List Lt} (h : w.length ≤ 2) : (if (w.length : Int) < (if o then 1 else 2) then (w.length : Int) else (if o then 1 else 2)) = ((tk o w).length : Int) := by
  unfold tk
  cases o
  · simp only [Bool.false_eq_true, if_false]
    split <;> omega
  · simp only [if_true, List.length_take]
    split <;> omega
theorem due_call (n : Nat) {h : Sto} {s : List Nat} {a b : D} {ls : List Ln} {rows : List D} {x y : D} {o : Bool} {Q : R → Sto → Prop} (ht : ∀ r ∈ rows, isT r = true) (L : Lns ls) (kq : Q (.d (.lst (dues rows (fun m => !waitsB rows s m) o ls))) h) :
    Ok (callF P (n + 2) 19 [.d (.tup [x, y, .tup rows]), .d (stdD s a b ls), .d (.bl o)] h) Q := by
  refine cl (F := ⟨3, 9, b_w_due, false, [], false⟩) rfl rfl rfl ?_
  have hfew := L.few
  have i3 : idxD (stdD s a b ls) (.int 3) = some (.tup (ls.map lnD)) := idx_tup (by decide) rfl
  have i0 : idxD (stdD s a b ls) (.int 0) = some (.str s) := idx_tup (by decide) rfl
  obtain ⟨g, hg⟩ : ∃ g, g = fun m => !waitsB rows s m := ⟨_, rfl⟩
  rw [← hg] at kq
  (conv => whnf)
  rw [List.length_map]
  refine ⟨⟨by omega, by omega⟩, ask ?_⟩
  rw [Int.toNat_natCast]
  refine loopN (fun i σ h' => i ≤ ls.length ∧ ∃ v4 v5 v6 v7 v8, h' = h ++ [.lst (pick (candsTo rows g o ls i))] ∧ σ = [some (R.d (D.tup [x, y, D.tup rows])), some (R.d (stdD s a b ls)), some (R.d (D.bl o)), some (R.loc h.length), v4, v5, v6, v7, v8]) ?_ ?_ ⟨by omega, none, none, none, none, none, rfl, rfl⟩
  · rintro i z σ h' hz ⟨hi, v4, v5, v6, v7, v8, rfl, rfl⟩
    obtain ⟨hi2, rfl⟩ := intsD_at _ _ _ _ hz
    obtain ⟨l, el⟩ : ∃ l, ls[i]? = some l := ⟨ls[i], List.getElem?_eq_getElem hi2⟩
    have hm := List.mem_of_getElem? el
    have il : idxD (.tup (ls.map lnD)) (.int (0 + (i : Int))) = some (lnD l) := idx_tup (by omega) (by rw [show (0 + (i : Int)).toNat = i by omega, List.getElem?_map, el]; rfl)
    have hcl := candsTo_len (rows := rows) (g := g) (o := o) L i
    have hpl := pick_len (a := candsTo rows g o ls i)
    have ez : (nums 0 ls)[i]? = some (0 + (i : Int), l) := by
      have hn : i < (nums 0 ls).length := by rw [nums_len]; exact hi2
      obtain ⟨h1, h2⟩ := nums_at ls 0 i _ (List.getElem?_eq_getElem hn)
      rw [List.getElem?_eq_getElem hn]
      congr 1
      rw [el] at h2
      exact Prod.ext h1 (Option.some.inj h2).symm
    have es : pick (candsTo rows g o ls (i + 1)) = pick (candsTo rows g o ls i) ++ pick (candL rows g o (0 + (i : Int)) l) := by
      rw [← pick_app]
      congr 1
      unfold candsTo
      rw [List.take_add_one, ez]
      simp
    have hb : (pick (candsTo rows g o ls i)).length ≤ 35 := by omega
    rw [es, candL_eq, pick_app, pick_app]
    generalize pick (candsTo rows g o ls i) = base at hb ⊢
    have h1 := L.to l hm
    have h2 := L.back l hm
    have im : idxD (.lst [.int 2, .int 1]) (.int (if o = true then 1 else 0)) = some (.int (if o then 1 else 2)) := by cases o <;> rfl
    generalize hk : 0 + (i : Int) = k at il ⊢
    refine gb ?_
    refine st il ?_
    refine ask (loopNG (g := fun e => dI (.str e)) (xs := [kread, kwrite, kdrop]) (fun j σ h' => j ≤ 3 ∧ ∃ v6, h' = h ++ [.lst (base ++ pick (([kread, kwrite, kdrop].take j).map (askC rows k l)))] ∧ σ = [some (R.d (D.tup [x, y, D.tup rows])), some (R.d (stdD s a b ls)), some (R.d (D.bl o)), some (R.loc h.length), some (R.d (D.int k)), some (R.d (lnD l)), v6, v7, v8]) ?_ ?_ ⟨by omega, v6, by simp [pick], rfl⟩)
    · rintro j e σ h' he ⟨hj, v6, rfl, rfl⟩
      have hj2 : j < 3 := (List.getElem?_eq_some_iff.mp he).1
      have ht2 : [kread, kwrite, kdrop].take (j + 1) = [kread, kwrite, kdrop].take j ++ [e] := by rw [List.take_add_one, he]; rfl
      have hp := pick_len (a := ([kread, kwrite, kdrop].take j).map (askC rows k l))
      have hb2 : (base ++ pick (([kread, kwrite, kdrop].take j).map (askC rows k l))).length < big := by
        unfold big
        rw [List.length_map, List.length_take] at hp
        rw [List.length_append]
        omega
      have em : ∀ t : Bool, bop .mul (.tup [.int 0]) (.int (if t = true then 1 else 0)) = some (.tup (if t then [.int 0] else [])) := by intro t; cases t <;> rfl
      have ea : ∀ t : Bool, bop .add (.tup [.str [97, 115, 107], .int k, .str e]) (.tup (if t = true then [.int 0] else [])) = some (deedD kask k (.str e) (if t then [.int 0] else [])) := by intro t; cases t <;> rfl
      refine gb ?_
      refine ask (has_call n ht ?_)
      refine br (fun c => ?_) (fun c => ?_)
      · refine st sto_get ?_
        refine st (em _) ?_
        refine st (ea _) ?_
        refine st sto_get ⟨hb2, ?_⟩
        rw [sto_set]
        refine ⟨rfl, rfl, by omega, _, ?_, rfl⟩
        rw [ht2, List.map_append, pick_app, ← List.append_assoc]
        have : pick ([e].map (askC rows k l)) = [deedD kask k (.str e) (if e == kwrite then [.int 0] else [])] := by simp [pick, askC, c]
        rw [this]
        rfl
      · (conv => whnf)
        refine ⟨rfl, rfl, by omega, _, ?_, rfl⟩
        rw [ht2, List.map_append, pick_app, ← List.append_assoc]
        have : pick ([e].map (askC rows k l)) = [] := by simp [pick, askC, c]
        rw [this, List.append_nil]
    · rintro σ h' ⟨hj, v6, rfl, rfl⟩
      rw [show [kread, kwrite, kdrop].take [kread, kwrite, kdrop].length = [kread, kwrite, kdrop] from rfl]
      generalize hb'' : base ++ pick ([kread, kwrite, kdrop].map (askC rows k l)) = base2
      have hb2 : base2.length ≤ 38 := by
        rw [← hb'', List.length_append]
        have h3 : (pick ([kread, kwrite, kdrop].map (askC rows k l))).length ≤ 3 := Nat.le_trans pick_len (by simp)
        omega
      have tkl : ∀ w : List Lt, w.length ≤ 2 → (tk o w).length ≤ 2 := by
        intro w hw; unfold tk; split
        · rw [List.length_take]; omega
        · omega
      have t1 := tkl l.to h1
      have t2 := tkl l.back h2
      refine st im ?_
      (conv => whnf)
      rw [List.length_map, tk_min h1]
      refine ⟨⟨by omega, by omega⟩, ask ?_⟩
      rw [Int.toNat_natCast]
      refine loopN (fun j σ h' => j ≤ 2 ∧ ∃ v8, h' = h ++ [.lst (base2 ++ pick ((List.range j).map (takeC k)))] ∧ σ = [some (R.d (D.tup [x, y, D.tup rows])), some (R.d (stdD s a b ls)), some (R.d (D.bl o)), some (R.loc h.length), some (R.d (D.int k)), some (R.d (lnD l)), v6, some (R.d (D.int (if o = true then 1 else 2))), v8]) ?_ ?_ ⟨by omega, v8, by simp [pick], rfl⟩
      · rintro j z σ h' hz2 ⟨hj, v8, rfl, rfl⟩
        obtain ⟨hj2, rfl⟩ := intsD_at _ _ _ _ hz2
        have hp := pick_len (a := (List.range j).map (takeC k))
        have hb3 : (base2 ++ pick ((List.range j).map (takeC k))).length < big := by
          unfold big
          rw [List.length_map, List.length_range] at hp
          rw [List.length_append]
          omega
        refine gb ?_
        refine st sto_get ?_
        refine st sto_get ⟨hb3, ?_⟩
        rw [sto_set]
        refine ⟨rfl, rfl, by omega, _, ?_, rfl⟩
        rw [List.range_succ, List.map_append, pick_app, ← List.append_assoc]
        have : pick ([j].map (takeC k)) = [deedD ktake k (.int (0 + (j : Int))) []] := by simp [pick, takeC]
        rw [this]
        rfl
      · rintro σ h' ⟨hj, v8, rfl, rfl⟩
        rw [intsD_len']
        generalize hb' : base2 ++ pick ((List.range (tk o l.to).length).map (takeC k)) = base3
        have hb3 : base3.length ≤ 40 := by
          rw [← hb', List.length_append]
          have h3 : (pick ((List.range (tk o l.to).length).map (takeC k))).length ≤ 2 := Nat.le_trans pick_len (by simpa using t1)
          omega
        (conv => whnf)
        rw [List.length_map, tk_min h2]
        refine ⟨⟨by omega, by omega⟩, ask ?_⟩
        rw [Int.toNat_natCast]
        refine loopN (fun j σ h' => j ≤ 2 ∧ ∃ v8, h' = h ++ [.lst (base3 ++ pick ((List.range j).map (getC g k l)))] ∧ σ = [some (R.d (D.tup [x, y, D.tup rows])), some (R.d (stdD s a b ls)), some (R.d (D.bl o)), some (R.loc h.length), some (R.d (D.int k)), some (R.d (lnD l)), v6, some (R.d (D.int (if o = true then 1 else 2))), v8]) ?_ ?_ ⟨by omega, v8, by simp [pick], rfl⟩
        · rintro j z σ h' hz2 ⟨hj, v8, rfl, rfl⟩
          obtain ⟨hj2, rfl⟩ := intsD_at _ _ _ _ hz2
          have hjb := tk_le hj2
          obtain ⟨lt, elt⟩ : ∃ lt, l.back[j]? = some lt := ⟨l.back[j], List.getElem?_eq_getElem hjb⟩
          have ilt : idxD (.tup (l.back.map letD)) (.int (0 + (j : Int))) = some (letD lt) := idx_tup (by omega) (by rw [show (0 + (j : Int)).toNat = j by omega, List.getElem?_map, elt]; rfl)
          have hp := pick_len (a := (List.range j).map (getC g k l))
          have hb4 : (base3 ++ pick ((List.range j).map (getC g k l))).length < big := by
            unfold big
            rw [List.length_map, List.length_range] at hp
            rw [List.length_append]
            omega
          have eg : (getC g k l j).2 = !waitsB rows s lt.1 := by
            show (match l.back[j]? with | some lt => g lt.1 | none => true) = _
            rw [elt, hg]
          refine gb ?_
          refine st ilt ?_
          refine ask (waits_call n ?_)
          refine br (fun c => ?_) (fun c => ?_)
          · refine st sto_get ?_
            refine st sto_get ⟨hb4, ?_⟩
            rw [sto_set]
            refine ⟨rfl, rfl, by omega, _, ?_, rfl⟩
            rw [List.range_succ, List.map_append, pick_app, ← List.append_assoc]
            have eg := eg.trans c
            have : pick ([j].map (getC g k l)) = [deedD kget k (.int (0 + (j : Int))) []] := by
              rw [show [j].map (getC g k l) = [getC g k l j] from rfl, pick_one, eg]
              simp [getC]
            rw [this]
            rfl
          · (conv => whnf)
            refine ⟨rfl, rfl, by omega, _, ?_, rfl⟩
            rw [List.range_succ, List.map_append, pick_app, ← List.append_assoc]
            have eg := eg.trans c
            have : pick ([j].map (getC g k l)) = [] := by
              rw [show [j].map (getC g k l) = [getC g k l j] from rfl, pick_one, eg]
              rfl
            rw [this, List.append_nil]
        · rintro σ h' ⟨hj, v8, rfl, rfl⟩
          rw [intsD_len']
          (conv => whnf)
          refine ⟨rfl, rfl, by omega, _, _, _, _, _, ?_, rfl⟩
          rw [← hb', ← hb'']
          simp only [List.append_assoc]
  · rintro σ h' ⟨hi, v4, v5, v6, v7, v8, rfl, rfl⟩
    rw [intsD_len'] at hi ⊢
    have ea : candsTo rows g o ls ls.length = cands rows g o ls := by unfold candsTo cands; rw [← nums_len ls 0, List.take_length]
    rw [ea]
    exact fin_new kq
end K22

set_option linter.all false
set_option maxRecDepth 10000
namespace K22
open IT
theorem deps_le {m : Nat} : ∀ {xs : List D}, (∀ x ∈ xs, x.dep ≤ m) → D.deps xs ≤ m
  | [], _ => by simp [D.deps]
  | x :: xs, h => by
    have h1 := h x (by simp)
    have h2 := deps_le fun y hy => h y (List.mem_cons_of_mem x hy)
    simp only [D.deps]
    omega
theorem due_dep {rows : List D} {g : List Nat → Bool} {o : Bool} {ls : List Ln} : (D.lst (dues rows g o ls)).dep ≤ 60 := by
  have h1 : D.deps (dues rows g o ls) ≤ 5 := by
    refine deps_le fun d h => ?_
    unfold dues cands candL at h
    obtain ⟨c, hc, rfl⟩ := List.mem_map.mp h
    obtain ⟨hc, _⟩ := List.mem_filter.mp hc
    obtain ⟨cs, hcs, hc⟩ := List.mem_flatten.mp hc
    obtain ⟨q, hq, rfl⟩ := List.mem_map.mp hcs
    simp only [List.mem_append, List.mem_cons, List.not_mem_nil, or_false, List.mem_map, List.mem_range] at hc
    rcases hc with ((rfl | rfl | rfl) | ⟨j, hj, rfl⟩) | ⟨j, hj, rfl⟩ <;> simp [deedD, D.dep, D.deps]
  simp only [D.dep]
  omega
theorem ne_self {xs : List D} {a : D} (h : (D.lst xs).dep ≤ 60) : cop .ne (.lst xs) (.lst xs) = some (.bl false) := by
  rw [cop_neO (cmpOkR h), D.eqb_rfl]
  rfl
noncomputable def thereD (ls : List Ln) : List D := ls.filterMap fun l => if (!(l.to.map letD).isEmpty || !(l.back.map letD).isEmpty) then some (lnD l) else none
noncomputable def lettsD (ds : List D) : List D := ds.filterMap fun d => if !isAsk d then some d else none
theorem there_ok {ls : List Ln} : (!(thereD ls).isEmpty) = moving ls := by
  unfold thereD moving
  induction ls with
  | nil => rfl
  | cons l ls ih =>
    rw [List.filterMap_cons, List.any_cons]
    have e : (!(l.to.map letD).isEmpty || !(l.back.map letD).isEmpty) = !(l.to ++ l.back).isEmpty := by
      cases l.to <;> cases l.back <;> rfl
    rw [e]
    cases hc : (l.to ++ l.back).isEmpty <;> simp [ih, hc]
    rw [← ih]
    simp
theorem letts_ok {ds : List D} : (lettsD ds).isEmpty = ds.all isAsk := by
  unfold lettsD
  induction ds with
  | nil => rfl
  | cons d ds ih =>
    rw [List.filterMap_cons, List.all_cons]
    cases hc : isAsk d <;> simp [hc]
    rw [← ih]
    simp
theorem law_call {ns : List Int} : Ok (callF P 8 20 [.d (.lst (ns.map .int))] []) fun r h => r = .d (.bl true) ∧ h = [] := by
  refine cl (F := ⟨1, 18, b_law, false, [], false⟩) rfl rfl rfl ?_
  refine ask (cell_call 6 (by decide) fun c0 => ?_)
  refine ask (table_call 5 fun x y rows T => ?_)
  refine ask (cell_call 6 (by decide) fun c1 => ?_)
  refine ask (cell_call 6 (by decide) fun c2 => ?_)
  refine ask (cell_call 6 (by decide) fun c3 => ?_)
  (conv => whnf)
  have m0 : 1 ≤ 1 + c1 % 5 ∧ 1 + c1 % 5 ≤ 5 := by omega
  generalize 1 + c1 % 5 = many at m0 ⊢
  generalize c2 % 10 ^ Int.toNat 40 = vv
  generalize c3 / 5 % 8 = free
  refine ⟨⟨by omega, by omega⟩, ask ?_⟩
  refine loopN (fun i σ h' => i ≤ 5 ∧ ∃ (ls : List Ln) (v6 v7 : Option R), ls.length = i ∧ (∀ l ∈ ls, GoodL l) ∧ h' = [.lst (ls.map lnD)] ∧ σ = [some (R.d (.lst (ns.map .int))), some (R.d (.tup [x, y, .tup rows])), some (R.d (.int many)), some (R.d (.tup [.int 2, .int vv])), some (R.d (.int free)), some (R.loc 0), v6, v7, none, none, none, none, none, none, none, none, none, none]) ?_ ?_ ⟨by omega, [], none, none, rfl, by simp, rfl, rfl⟩
  · rintro i z σ h' hz ⟨hi, ls, v6, v7, hl, hg, rfl, rfl⟩
    obtain ⟨hi2, rfl⟩ := intsD_at _ _ _ _ hz
    have hi3 : i < 5 := by omega
    have hb : (ls.map lnD).length < big := by unfold big; rw [List.length_map]; omega
    have mem : ∀ l', GoodL l' → ∀ l ∈ ls ++ [l'], GoodL l := by
      intro l' gl' z hz
      rcases List.mem_append.mp hz with h1 | h1
      · exact hg z h1
      · simp at h1; subst h1; exact gl'
    refine gb ?_
    refine ask (cell_call 6 (by omega) fun c4 => ?_)
    refine ask (line_call 5 fun l gl => ?_)
    refine br (fun _ => ?_) (fun _ => ?_)
    · (conv => whnf)
      exact ⟨hb, rfl, rfl, by omega, ls ++ [⟨l.st, [], l.back, l.fl⟩], _, _, by simp [hl], mem _ ⟨gl.fl, by simp, gl.back, gl.kd⟩, by rw [List.map_append]; rfl, rfl⟩
    · (conv => whnf)
      exact ⟨hb, rfl, rfl, by omega, ls ++ [l], _, _, by simp [hl], mem _ gl, by rw [List.map_append]; rfl, rfl⟩
  · rintro σ h' ⟨hi, ls, v6, v7, hl, hg, rfl, rfl⟩
    rw [intsD_len'] at hi hl
    have L : Lns ls := ⟨fun l h => (hg l h).fl, fun l h => (hg l h).to, fun l h => (hg l h).back, by omega, fun l h => (hg l h).kd⟩
    have ht : ∀ r ∈ rows, isT r = true := fun r hr => full_T ((tab_of T (.inl rfl)).full r hr)
    refine ask (loopNG (g := fun s => dI (.str s)) (xs := [[104], [107]]) (fun i σ h' => ∃ (t : Sto) (v8 v9 v10 v11 v12 v13 v14 v15 : Option R), h' = .lst (ls.map lnD) :: t ∧ σ = [some (R.d (.lst (ns.map .int))), some (R.d (.tup [x, y, .tup rows])), some (R.d (.int many)), some (R.d (.tup [.int 2, .int vv])), some (R.d (.int free)), some (R.loc 0), v6, v7, v8, v9, v10, v11, v12, v13, v14, v15, none, none]) ?_ ?_ ⟨[], none, none, none, none, none, none, none, none, rfl, rfl⟩)
    · rintro i s σ h' hs ⟨t, v8, v9, v10, v11, v12, v13, v14, v15, rfl, rfl⟩
      have hs2 : s = [104] ∨ s = [107] := by
        have := List.mem_of_getElem? hs
        simpa using this
      have TT := tab_of T hs2
      refine gb ?_
      refine ask (loopNG (g := fun o => dI (.bl o)) (xs := [true, false]) (fun i σ h' => ∃ (t : Sto) (v10 v11 v12 v13 v14 v15 : Option R), h' = .lst (ls.map lnD) :: t ∧ σ = [some (R.d (.lst (ns.map .int))), some (R.d (.tup [x, y, .tup rows])), some (R.d (.int many)), some (R.d (.tup [.int 2, .int vv])), some (R.d (.int free)), some (R.loc 0), v6, v7, some (R.d (.str s)), some (R.d (stdD s (.tup [.int 2, .int vv]) (.tup [.int 2, .int vv]) ls)), v10, v11, v12, v13, v14, v15, none, none]) ?_ ?_ ⟨t, v10, v11, v12, v13, v14, v15, rfl, rfl⟩)
      · rintro j o σ h' ho ⟨t, v10, v11, v12, v13, v14, v15, rfl, rfl⟩
        refine gb ?_
        refine ask (due_call 5 ht L ?_)
        refine ask (may_core 2 TT L rfl ?_)
        refine ask (turns_filt (g := fun d => if !isAsk d then some d else none) (fun d hd => ?_) stays_none ?_)
        · obtain ⟨w, k, z, t', rfl⟩ := due_form hd
          refine gc ?_
          refine st idx_t0 ?_
          refine br (fun c => ?_) (fun c => ?_)
          · (conv => whnf)
            exact ⟨(if_pos c).symm, rfl⟩
          · (conv => whnf)
            exact ⟨(if_neg (by intro q; cases c.symm.trans q)).symm, rfl⟩
        · refine ask ?_
          rw [List.map_map]
          refine turns_filtG (d := dI ∘ lnD) (g := fun l => if (!(l.to.map letD).isEmpty || !(l.back.map letD).isEmpty) then some (lnD l) else none) (fun l hl => ?_) (stays_self rfl) ?_
          · have ce : ∀ xs : List D, cop .ne (.tup xs) (.tup []) = some (.bl (!xs.isEmpty)) := by
              intro xs
              rw [cop_neO (cmpOkR (show (D.tup []).dep ≤ 60 by decide)), D.eqb, eqbs_nil]
            refine gc ?_
            refine st (ce _) ?_
            refine br (fun c => ?_) (fun c => ?_)
            · (conv => whnf)
              exact ⟨(if_pos (by rw [c]; rfl)).symm, rfl⟩
            · refine st (ce _) ?_
              refine br (fun d => ?_) (fun d => ?_)
              · (conv => whnf)
                exact ⟨(if_pos (by rw [c, d]; rfl)).symm, rfl⟩
              · (conv => whnf)
                exact ⟨(if_neg (by intro q; rw [c, d] at q; cases q)).symm, rfl⟩
          · have e1 := there_ok (ls := ls)
            have e2 := letts_ok (ds := dues rows (fun m => !waitsB rows s m) o ls)
            unfold thereD at e1
            unfold lettsD at e2
            have c1 : ∀ xs : List D, cop .ne (.lst xs) (.lst []) = some (.bl (!xs.isEmpty)) := by
              intro xs
              rw [cop_neO (cmpOkR (show (D.lst []).dep ≤ 60 by decide)), D.eqb, eqbs_nil]
            have c2 : ∀ xs : List D, cop .eq (.lst xs) (.lst []) = some (.bl xs.isEmpty) := by
              intro xs
              rw [cop_eqO (cmpOkR (show (D.lst []).dep ≤ 60 by decide)), D.eqb, eqbs_nil]
            refine st sto_get ?_
            refine st sto_get ?_
            refine st (ne_self (a := .non) due_dep) ?_
            refine st sto_get ?_
            refine st sto_get ?_
            rw [sto_set]
            refine ask (stuck_core 1 TT L rfl ?_)
            refine st (c1 _) ?_
            rw [e1]
            refine br (fun c => ?_) (fun c => ?_)
            · refine st (c2 _) ?_
              rw [e2]
              refine bf ?_ ?_
              · rw [show stuckB (dues rows (fun m => !waitsB rows s m) o ls) ls = (dues rows (fun m => !waitsB rows s m) o ls).all isAsk by unfold stuckB; rw [c, Bool.true_and], D.eqb_rfl]
                rfl
              · (conv => whnf)
                exact ⟨rfl, rfl, _, _, _, _, _, _, _, rfl, rfl⟩
            · refine bf ?_ ?_
              · rw [show stuckB (dues rows (fun m => !waitsB rows s m) o ls) ls = false by unfold stuckB; rw [c, Bool.false_and]]
                rfl
              · (conv => whnf)
                exact ⟨rfl, rfl, _, _, _, _, _, _, _, rfl, rfl⟩
      · rintro σ h' ⟨t, v10, v11, v12, v13, v14, v15, rfl, rfl⟩
        refine ask (may_core 2 (o := true) TT L rfl ?_)
        refine ask (due_call 5 ht L ?_)
        refine st sto_get ?_
        refine st (ne_self (a := .non) due_dep) ?_
        refine ask (stuck_core 1 (o := true) TT L rfl ?_)
        refine ask (stuck_core 1 TT L rfl ?_)
        refine bf (by rw [D.eqb_rfl]; rfl) ?_
        (conv => whnf)
        exact ⟨rfl, rfl, _, _, _, _, _, _, _, _, _, rfl, rfl⟩
    · rintro σ h' ⟨t, v8, v9, v10, v11, v12, v13, v14, v15, rfl, rfl⟩
      exact fd rfl ⟨rfl, rfl⟩
theorem law_done {ns : List Int} (hl : ns.length ≤ 63) : callF P 8 20 [.d (.lst (ns.map .int))] [] = some (.d (.bl true), []) := law_call.eq
end K22

set_option linter.all false
set_option maxRecDepth 100000
set_option maxHeartbeats 8000000
namespace K22
open PySem PySem.Spec L2 IT
noncomputable def fns : List (Str × Nat × List D) := [("_wall", 1, []), ("hand_row", 3, []), ("house_row", 4, []), ("row_for", 2, []), ("is_wait", 1, []), ("comers", 2, []), ("may_be_done", 3, []), ("way_of", 2, []), ("row_for_deed", 3, []), ("may", 3, [(.bl true)]), ("asks_of", 1, []), ("letters_of", 4, []), ("stuck", 3, [(.bl true)]), ("_law_cell_at", 2, []), ("_law_digits", 3, []), ("_law_table", 1, []), ("_law_line", 2, []), ("_law_has", 3, []), ("_law_waits", 3, []), ("_law_due", 3, []), ("law", 1, [])]
noncomputable def cls : List CInfo := [⟨"OpenLine", 21, ["state", "value", "want", "to", "back", "flags"], []⟩, ⟨"Hall", 22, ["state", "store", "last", "lines", "answer", "broken"], [("hands_with", 23), ("other_sharers", 24)]⟩]
noncomputable def globs : List (Str × D) := [("ASKS", (.tup [(.str [114, 101, 97, 100]), (.str [119, 114, 105, 116, 101]), (.str [100, 114, 111, 112])])), ("SHARES", (.int 1)), ("WAITS", (.tup [(.tup [(.str [119, 97, 105, 116])])]))]
noncomputable def s_wall : Stmt := PySem.Challenge.pw_copyclerk_k22_what_may_be_done.main.body.getD 0 (.Pass ⟨0, 0, 0, 0⟩)
noncomputable def n_wall : List Str := ["k"]
noncomputable def p_wall : List Str := ["k"]
theorem c_wall : chkSs b_wall ⟨n_wall, (defScope s_wall).names, fns, globs, true, cls⟩ (defBody s_wall) = true := by decide +kernel
theorem t_wall : FnScope n_wall p_wall (defScope s_wall) := ⟨rfl, rfl, rfl, by decide +kernel, rfl, by decide +kernel, by decide +kernel⟩
noncomputable def s_hand_row : Stmt := PySem.Challenge.pw_copyclerk_k22_what_may_be_done.main.body.getD 4 (.Pass ⟨0, 0, 0, 0⟩)
noncomputable def n_hand_row : List Str := ["table", "state", "event"]
noncomputable def p_hand_row : List Str := ["table", "state", "event"]
theorem c_hand_row : chkSs b_hand_row ⟨n_hand_row, (defScope s_hand_row).names, fns, globs, true, cls⟩ (defBody s_hand_row) = true := by decide +kernel
theorem t_hand_row : FnScope n_hand_row p_hand_row (defScope s_hand_row) := ⟨rfl, rfl, rfl, by decide +kernel, rfl, by decide +kernel, by decide +kernel⟩
noncomputable def s_house_row : Stmt := PySem.Challenge.pw_copyclerk_k22_what_may_be_done.main.body.getD 5 (.Pass ⟨0, 0, 0, 0⟩)
noncomputable def n_house_row : List Str := ["table", "state", "kind", "last", "row"]
noncomputable def p_house_row : List Str := ["table", "state", "kind", "last"]
theorem c_house_row : chkSs b_house_row ⟨n_house_row, (defScope s_house_row).names, fns, globs, true, cls⟩ (defBody s_house_row) = true := by decide +kernel
theorem t_house_row : FnScope n_house_row p_house_row (defScope s_house_row) := ⟨rfl, rfl, rfl, by decide +kernel, rfl, by decide +kernel, by decide +kernel⟩
noncomputable def s_row_for : Stmt := PySem.Challenge.pw_copyclerk_k22_what_may_be_done.main.body.getD 6 (.Pass ⟨0, 0, 0, 0⟩)
noncomputable def n_row_for : List Str := ["table", "head", "row"]
noncomputable def p_row_for : List Str := ["table", "head"]
theorem c_row_for : chkSs b_row_for ⟨n_row_for, (defScope s_row_for).names, fns, globs, true, cls⟩ (defBody s_row_for) = true := by decide +kernel
theorem t_row_for : FnScope n_row_for p_row_for (defScope s_row_for) := ⟨rfl, rfl, rfl, by decide +kernel, rfl, by decide +kernel, by decide +kernel⟩
noncomputable def s_is_wait : Stmt := PySem.Challenge.pw_copyclerk_k22_what_may_be_done.main.body.getD 7 (.Pass ⟨0, 0, 0, 0⟩)
noncomputable def n_is_wait : List Str := ["row"]
noncomputable def p_is_wait : List Str := ["row"]
theorem c_is_wait : chkSs b_is_wait ⟨n_is_wait, (defScope s_is_wait).names, fns, globs, true, cls⟩ (defBody s_is_wait) = true := by decide +kernel
theorem t_is_wait : FnScope n_is_wait p_is_wait (defScope s_is_wait) := ⟨rfl, rfl, rfl, by decide +kernel, rfl, by decide +kernel, by decide +kernel⟩
noncomputable def s_comers : Stmt := PySem.Challenge.pw_copyclerk_k22_what_may_be_done.main.body.getD 12 (.Pass ⟨0, 0, 0, 0⟩)
noncomputable def n_comers : List Str := ["way", "order"]
noncomputable def p_comers : List Str := ["way", "order"]
theorem c_comers : chkSs b_comers ⟨n_comers, (defScope s_comers).names, fns, globs, true, cls⟩ (defBody s_comers) = true := by decide +kernel
theorem t_comers : FnScope n_comers p_comers (defScope s_comers) := ⟨rfl, rfl, rfl, by decide +kernel, rfl, by decide +kernel, by decide +kernel⟩
noncomputable def s_may_be_done : Stmt := PySem.Challenge.pw_copyclerk_k22_what_may_be_done.main.body.getD 14 (.Pass ⟨0, 0, 0, 0⟩)
noncomputable def n_may_be_done : List Str := ["table", "hall", "deed"]
noncomputable def p_may_be_done : List Str := ["table", "hall", "deed"]
theorem c_may_be_done : chkSs b_may_be_done ⟨n_may_be_done, (defScope s_may_be_done).names, fns, globs, true, cls⟩ (defBody s_may_be_done) = true := by decide +kernel
theorem t_may_be_done : FnScope n_may_be_done p_may_be_done (defScope s_may_be_done) := ⟨rfl, rfl, rfl, by decide +kernel, rfl, by decide +kernel, by decide +kernel⟩
noncomputable def s_way_of : Stmt := PySem.Challenge.pw_copyclerk_k22_what_may_be_done.main.body.getD 15 (.Pass ⟨0, 0, 0, 0⟩)
noncomputable def n_way_of : List Str := ["hall", "deed", "line"]
noncomputable def p_way_of : List Str := ["hall", "deed"]
theorem c_way_of : chkSs b_way_of ⟨n_way_of, (defScope s_way_of).names, fns, globs, true, cls⟩ (defBody s_way_of) = true := by decide +kernel
theorem t_way_of : FnScope n_way_of p_way_of (defScope s_way_of) := ⟨rfl, rfl, rfl, by decide +kernel, rfl, by decide +kernel, by decide +kernel⟩
noncomputable def s_row_for_deed : Stmt := PySem.Challenge.pw_copyclerk_k22_what_may_be_done.main.body.getD 16 (.Pass ⟨0, 0, 0, 0⟩)
noncomputable def n_row_for_deed : List Str := ["table", "hall", "deed", "state", "kind"]
noncomputable def p_row_for_deed : List Str := ["table", "hall", "deed"]
theorem c_row_for_deed : chkSs b_row_for_deed ⟨n_row_for_deed, (defScope s_row_for_deed).names, fns, globs, true, cls⟩ (defBody s_row_for_deed) = true := by decide +kernel
theorem t_row_for_deed : FnScope n_row_for_deed p_row_for_deed (defScope s_row_for_deed) := ⟨rfl, rfl, rfl, by decide +kernel, rfl, by decide +kernel, by decide +kernel⟩
noncomputable def s_may : Stmt := PySem.Challenge.pw_copyclerk_k22_what_may_be_done.main.body.getD 18 (.Pass ⟨0, 0, 0, 0⟩)
noncomputable def n_may : List Str := ["table", "standing", "order", "hall", "deeds", "hand", "line", "?1?deed"]
noncomputable def p_may : List Str := ["table", "standing", "order"]
theorem c_may : chkSs b_may ⟨n_may, (defScope s_may).names, fns, globs, true, cls⟩ (defBody s_may) = true := by decide +kernel
theorem t_may : FnScope n_may p_may (defScope s_may) := ⟨rfl, rfl, rfl, by decide +kernel, rfl, by decide +kernel, by decide +kernel⟩
noncomputable def s_asks_of : Stmt := PySem.Challenge.pw_copyclerk_k22_what_may_be_done.main.body.getD 19 (.Pass ⟨0, 0, 0, 0⟩)
noncomputable def n_asks_of : List Str := ["hand"]
noncomputable def p_asks_of : List Str := ["hand"]
theorem c_asks_of : chkSs b_asks_of ⟨n_asks_of, (defScope s_asks_of).names, fns, globs, true, cls⟩ (defBody s_asks_of) = true := by decide +kernel
theorem t_asks_of : FnScope n_asks_of p_asks_of (defScope s_asks_of) := ⟨rfl, rfl, rfl, by decide +kernel, rfl, by decide +kernel, by decide +kernel⟩
noncomputable def s_letters_of : Stmt := PySem.Challenge.pw_copyclerk_k22_what_may_be_done.main.body.getD 20 (.Pass ⟨0, 0, 0, 0⟩)
noncomputable def n_letters_of : List Str := ["word", "hand", "way", "order", "?1?number"]
noncomputable def p_letters_of : List Str := ["word", "hand", "way", "order"]
theorem c_letters_of : chkSs b_letters_of ⟨n_letters_of, (defScope s_letters_of).names, fns, globs, true, cls⟩ (defBody s_letters_of) = true := by decide +kernel
theorem t_letters_of : FnScope n_letters_of p_letters_of (defScope s_letters_of) := ⟨rfl, rfl, rfl, by decide +kernel, rfl, by decide +kernel, by decide +kernel⟩
noncomputable def s_stuck : Stmt := PySem.Challenge.pw_copyclerk_k22_what_may_be_done.main.body.getD 21 (.Pass ⟨0, 0, 0, 0⟩)
noncomputable def n_stuck : List Str := ["table", "standing", "order", "?1?line", "?2?deed"]
noncomputable def p_stuck : List Str := ["table", "standing", "order"]
theorem c_stuck : chkSs b_stuck ⟨n_stuck, (defScope s_stuck).names, fns, globs, true, cls⟩ (defBody s_stuck) = true := by decide +kernel
theorem t_stuck : FnScope n_stuck p_stuck (defScope s_stuck) := ⟨rfl, rfl, rfl, by decide +kernel, rfl, by decide +kernel, by decide +kernel⟩
noncomputable def s_w_cell_at : Stmt := PySem.Challenge.pw_copyclerk_k22_what_may_be_done.main.body.getD 23 (.Pass ⟨0, 0, 0, 0⟩)
noncomputable def n_w_cell_at : List Str := ["_law_script", "_law_k"]
noncomputable def p_w_cell_at : List Str := ["_law_script", "_law_k"]
theorem c_w_cell_at : chkSs b_w_cell_at ⟨n_w_cell_at, (defScope s_w_cell_at).names, fns, globs, true, cls⟩ (defBody s_w_cell_at) = true := by decide +kernel
theorem t_w_cell_at : FnScope n_w_cell_at p_w_cell_at (defScope s_w_cell_at) := ⟨rfl, rfl, rfl, by decide +kernel, rfl, by decide +kernel, by decide +kernel⟩
noncomputable def s_w_digits : Stmt := PySem.Challenge.pw_copyclerk_k22_what_may_be_done.main.body.getD 24 (.Pass ⟨0, 0, 0, 0⟩)
noncomputable def n_w_digits : List Str := ["_law_cell", "_law_size", "_law_many", "_law_found", "_law_mix", "_law_rest", "_law_k"]
noncomputable def p_w_digits : List Str := ["_law_cell", "_law_size", "_law_many"]
theorem c_w_digits : chkSs b_w_digits ⟨n_w_digits, (defScope s_w_digits).names, fns, globs, true, cls⟩ (defBody s_w_digits) = true := by decide +kernel
theorem t_w_digits : FnScope n_w_digits p_w_digits (defScope s_w_digits) := ⟨rfl, rfl, rfl, by decide +kernel, rfl, by decide +kernel, by decide +kernel⟩
noncomputable def s_w_table : Stmt := PySem.Challenge.pw_copyclerk_k22_what_may_be_done.main.body.getD 25 (.Pass ⟨0, 0, 0, 0⟩)
noncomputable def n_w_table : List Str := ["_law_cell", "_law_ds", "_law_hands", "_law_rows", "_law_k", "_law_event", "_law_state", "_law_whens", "_law_when", "?1?_law_k"]
noncomputable def p_w_table : List Str := ["_law_cell"]
theorem c_w_table : chkSs b_w_table ⟨n_w_table, (defScope s_w_table).names, fns, globs, true, cls⟩ (defBody s_w_table) = true := by decide +kernel
theorem t_w_table : FnScope n_w_table p_w_table (defScope s_w_table) := ⟨rfl, rfl, rfl, by decide +kernel, rfl, by decide +kernel, by decide +kernel⟩
noncomputable def s_w_line : Stmt := PySem.Challenge.pw_copyclerk_k22_what_may_be_done.main.body.getD 26 (.Pass ⟨0, 0, 0, 0⟩)
noncomputable def n_w_line : List Str := ["_law_cell", "_law_last", "_law_ds", "_law_some", "_law_to", "_law_back"]
noncomputable def p_w_line : List Str := ["_law_cell", "_law_last"]
theorem c_w_line : chkSs b_w_line ⟨n_w_line, (defScope s_w_line).names, fns, globs, true, cls⟩ (defBody s_w_line) = true := by decide +kernel
theorem t_w_line : FnScope n_w_line p_w_line (defScope s_w_line) := ⟨rfl, rfl, rfl, by decide +kernel, rfl, by decide +kernel, by decide +kernel⟩
noncomputable def s_w_has : Stmt := PySem.Challenge.pw_copyclerk_k22_what_may_be_done.main.body.getD 27 (.Pass ⟨0, 0, 0, 0⟩)
noncomputable def n_w_has : List Str := ["_law_table_here", "_law_state", "_law_event", "?1?_law_row"]
noncomputable def p_w_has : List Str := ["_law_table_here", "_law_state", "_law_event"]
theorem c_w_has : chkSs b_w_has ⟨n_w_has, (defScope s_w_has).names, fns, globs, true, cls⟩ (defBody s_w_has) = true := by decide +kernel
theorem t_w_has : FnScope n_w_has p_w_has (defScope s_w_has) := ⟨rfl, rfl, rfl, by decide +kernel, rfl, by decide +kernel, by decide +kernel⟩
noncomputable def s_w_waits : Stmt := PySem.Challenge.pw_copyclerk_k22_what_may_be_done.main.body.getD 28 (.Pass ⟨0, 0, 0, 0⟩)
noncomputable def n_w_waits : List Str := ["_law_table_here", "_law_house", "_law_kind"]
noncomputable def p_w_waits : List Str := ["_law_table_here", "_law_house", "_law_kind"]
theorem c_w_waits : chkSs b_w_waits ⟨n_w_waits, (defScope s_w_waits).names, fns, globs, true, cls⟩ (defBody s_w_waits) = true := by decide +kernel
theorem t_w_waits : FnScope n_w_waits p_w_waits (defScope s_w_waits) := ⟨rfl, rfl, rfl, by decide +kernel, rfl, by decide +kernel, by decide +kernel⟩
noncomputable def s_w_due : Stmt := PySem.Challenge.pw_copyclerk_k22_what_may_be_done.main.body.getD 29 (.Pass ⟨0, 0, 0, 0⟩)
noncomputable def n_w_due : List Str := ["_law_table_here", "_law_standing", "_law_order", "_law_due_here", "_law_k", "_law_line_here", "_law_event", "_law_most", "_law_at"]
noncomputable def p_w_due : List Str := ["_law_table_here", "_law_standing", "_law_order"]
theorem c_w_due : chkSs b_w_due ⟨n_w_due, (defScope s_w_due).names, fns, globs, true, cls⟩ (defBody s_w_due) = true := by decide +kernel
theorem t_w_due : FnScope n_w_due p_w_due (defScope s_w_due) := ⟨rfl, rfl, rfl, by decide +kernel, rfl, by decide +kernel, by decide +kernel⟩
noncomputable def s_law : Stmt := PySem.Challenge.pw_copyclerk_k22_what_may_be_done.main.body.getD 30 (.Pass ⟨0, 0, 0, 0⟩)
noncomputable def n_law : List Str := ["_law_script", "_law_table_here", "_law_many", "_law_last", "_law_free", "_law_lines", "_law_k", "_law_line_here", "_law_house", "_law_standing", "_law_order", "_law_due_here", "_law_found", "_law_letters", "_law_there", "_law_word", "?1?_law_deed", "?2?_law_line_here"]
noncomputable def p_law : List Str := ["_law_script"]
theorem c_law : chkSs b_law ⟨n_law, (defScope s_law).names, fns, globs, true, cls⟩ (defBody s_law) = true := by decide +kernel
theorem t_law : FnScope n_law p_law (defScope s_law) := ⟨rfl, rfl, rfl, by decide +kernel, rfl, by decide +kernel, by decide +kernel⟩
noncomputable def s_m_OpenLine_init : Stmt := inClass (PySem.Challenge.pw_copyclerk_k22_what_may_be_done.main.body.getD 10 (.Pass ⟨0, 0, 0, 0⟩)) 0
noncomputable def n_m_OpenLine_init : List Str := ["self", "line"]
noncomputable def p_m_OpenLine_init : List Str := ["self", "line"]
theorem c_m_OpenLine_init : chkSs b_m_OpenLine_init ⟨n_m_OpenLine_init, (defScope s_m_OpenLine_init).names, fns, globs, true, cls⟩ (defBody s_m_OpenLine_init) = true := by decide +kernel
theorem t_m_OpenLine_init : FnScope n_m_OpenLine_init p_m_OpenLine_init (defScope s_m_OpenLine_init) := ⟨rfl, rfl, rfl, by decide +kernel, rfl, by decide +kernel, by decide +kernel⟩
noncomputable def s_m_Hall_init : Stmt := inClass (PySem.Challenge.pw_copyclerk_k22_what_may_be_done.main.body.getD 11 (.Pass ⟨0, 0, 0, 0⟩)) 0
noncomputable def n_m_Hall_init : List Str := ["self", "standing", "?1?line"]
noncomputable def p_m_Hall_init : List Str := ["self", "standing"]
theorem c_m_Hall_init : chkSs b_m_Hall_init ⟨n_m_Hall_init, (defScope s_m_Hall_init).names, fns, globs, true, cls⟩ (defBody s_m_Hall_init) = true := by decide +kernel
theorem t_m_Hall_init : FnScope n_m_Hall_init p_m_Hall_init (defScope s_m_Hall_init) := ⟨rfl, rfl, rfl, by decide +kernel, rfl, by decide +kernel, by decide +kernel⟩
noncomputable def s_m_Hall_hands_with : Stmt := inClass (PySem.Challenge.pw_copyclerk_k22_what_may_be_done.main.body.getD 11 (.Pass ⟨0, 0, 0, 0⟩)) 7
noncomputable def n_m_Hall_hands_with : List Str := ["self", "flag", "?1?hand", "?1?line"]
noncomputable def p_m_Hall_hands_with : List Str := ["self", "flag"]
theorem c_m_Hall_hands_with : chkSs b_m_Hall_hands_with ⟨n_m_Hall_hands_with, (defScope s_m_Hall_hands_with).names, fns, globs, true, cls⟩ (defBody s_m_Hall_hands_with) = true := by decide +kernel
theorem t_m_Hall_hands_with : FnScope n_m_Hall_hands_with p_m_Hall_hands_with (defScope s_m_Hall_hands_with) := ⟨rfl, rfl, rfl, by decide +kernel, rfl, by decide +kernel, by decide +kernel⟩
noncomputable def s_m_Hall_other_sharers : Stmt := inClass (PySem.Challenge.pw_copyclerk_k22_what_may_be_done.main.body.getD 11 (.Pass ⟨0, 0, 0, 0⟩)) 8
noncomputable def n_m_Hall_other_sharers : List Str := ["self", "sender", "?1?hand"]
noncomputable def p_m_Hall_other_sharers : List Str := ["self", "sender"]
theorem c_m_Hall_other_sharers : chkSs b_m_Hall_other_sharers ⟨n_m_Hall_other_sharers, (defScope s_m_Hall_other_sharers).names, fns, globs, true, cls⟩ (defBody s_m_Hall_other_sharers) = true := by decide +kernel
theorem t_m_Hall_other_sharers : FnScope n_m_Hall_other_sharers p_m_Hall_other_sharers (defScope s_m_Hall_other_sharers) := ⟨rfl, rfl, rfl, by decide +kernel, rfl, by decide +kernel, by decide +kernel⟩
theorem all_mk {l : PySem.W.OpenLaw} {w : World} {K : PySem.W.Frag} {h : Heap} {mg : Str → Option Value} {fa f1 f2 f3 f4 f5 f6 f7 f8 f9 f10 f11 f12 f13 f14 f15 f16 f17 f18 f19 f20 f21 f22 f23 f24 f25 ga0 ga1 ga2 dT10 dT13 C_OpenLine C_Hall : Addr} (X : K.In h) (G : h.Ns mainGlobals mg) (hfa : mg "law" = some (.ref fa))
    {od1 an1 od2 an2 od3 an3 od4 an4 od5 an5 od6 an6 od7 an7 od8 an8 od9 an9 od10 an10 od11 an11 od12 an12 od13 an13 od14 an14 od15 an15 od16 an16 od17 an17 od18 an18 od19 an19 od20 an20 od21 an21 od22 an22 od23 an23 od24 an24 od25 an25 wd10 wd13 : Option Addr} {sl1 sl2 sl3 sl4 sl5 sl6 sl7 sl8 sl9 sl10 sl11 sl12 sl13 sl14 sl15 sl16 sl17 sl18 sl19 sl20 sl21 sl22 sl23 sl24 sl25 gs1 gs2 gs3 ws10 ws13 : Array (Option Value)} {oc1 kV1 dc1 pm1 cd1 ct1 oc2 kV2 dc2 pm2 cd2 ct2 oc3 kV3 dc3 pm3 cd3 ct3 oc4 kV4 dc4 pm4 cd4 ct4 oc5 kV5 dc5 pm5 cd5 ct5 oc6 kV6 dc6 pm6 cd6 ct6 oc7 kV7 dc7 pm7 cd7 ct7 oc8 kV8 dc8 pm8 cd8 ct8 oc9 kV9 dc9 pm9 cd9 ct9 oc10 kV10 dc10 pm10 cd10 ct10 oc11 kV11 dc11 pm11 cd11 ct11 oc12 kV12 dc12 pm12 cd12 ct12 oc13 kV13 dc13 pm13 cd13 ct13 oc14 kV14 dc14 pm14 cd14 ct14 oc15 kV15 dc15 pm15 cd15 ct15 oc16 kV16 dc16 pm16 cd16 ct16 oc17 kV17 dc17 pm17 cd17 ct17 oc18 kV18 dc18 pm18 cd18 ct18 oc19 kV19 dc19 pm19 cd19 ct19 oc20 kV20 dc20 pm20 cd20 ct20 oc21 kV21 dc21 pm21 cd21 ct21 oc22 kV22 dc22 pm22 cd22 ct22 oc23 kV23 dc23 pm23 cd23 ct23 oc24 kV24 dc24 pm24 cd24 ct24 oc25 kV25 dc25 pm25 cd25 ct25 : Value}
    {tk0 tk1 tk2 tk3 tk4 : Tok}
    {gn1 gn2 gn3 wn10 wn13 : Nat}
    (a1 : PySem.W.nsIn K mainGlobals "_wall" = some (some (.ref f1)))
    (l1 : K.lookup f1 = some ⟨oc1, od1, .func (PySem.W.fnOf "_wall" "_wall" (defArgs s_wall) (defBody s_wall) (defScope s_wall) .none kV1 dc1 pm1 an1 cd1 ct1), sl1⟩) (c1 : PySem.W.codeIn K cd1 "_wall" = true) (k1 : PySem.W.keepIn K (.ref f1) = true)
    (a2 : PySem.W.nsIn K mainGlobals "hand_row" = some (some (.ref f2)))
    (l2 : K.lookup f2 = some ⟨oc2, od2, .func (PySem.W.fnOf "hand_row" "hand_row" (defArgs s_hand_row) (defBody s_hand_row) (defScope s_hand_row) .none kV2 dc2 pm2 an2 cd2 ct2), sl2⟩) (c2 : PySem.W.codeIn K cd2 "hand_row" = true) (k2 : PySem.W.keepIn K (.ref f2) = true)
    (a3 : PySem.W.nsIn K mainGlobals "house_row" = some (some (.ref f3)))
    (l3 : K.lookup f3 = some ⟨oc3, od3, .func (PySem.W.fnOf "house_row" "house_row" (defArgs s_house_row) (defBody s_house_row) (defScope s_house_row) .none kV3 dc3 pm3 an3 cd3 ct3), sl3⟩) (c3 : PySem.W.codeIn K cd3 "house_row" = true) (k3 : PySem.W.keepIn K (.ref f3) = true)
    (a4 : PySem.W.nsIn K mainGlobals "row_for" = some (some (.ref f4)))
    (l4 : K.lookup f4 = some ⟨oc4, od4, .func (PySem.W.fnOf "row_for" "row_for" (defArgs s_row_for) (defBody s_row_for) (defScope s_row_for) .none kV4 dc4 pm4 an4 cd4 ct4), sl4⟩) (c4 : PySem.W.codeIn K cd4 "row_for" = true) (k4 : PySem.W.keepIn K (.ref f4) = true)
    (a5 : PySem.W.nsIn K mainGlobals "is_wait" = some (some (.ref f5)))
    (l5 : K.lookup f5 = some ⟨oc5, od5, .func (PySem.W.fnOf "is_wait" "is_wait" (defArgs s_is_wait) (defBody s_is_wait) (defScope s_is_wait) .none kV5 dc5 pm5 an5 cd5 ct5), sl5⟩) (c5 : PySem.W.codeIn K cd5 "is_wait" = true) (k5 : PySem.W.keepIn K (.ref f5) = true)
    (a6 : PySem.W.nsIn K mainGlobals "comers" = some (some (.ref f6)))
    (l6 : K.lookup f6 = some ⟨oc6, od6, .func (PySem.W.fnOf "comers" "comers" (defArgs s_comers) (defBody s_comers) (defScope s_comers) .none kV6 dc6 pm6 an6 cd6 ct6), sl6⟩) (c6 : PySem.W.codeIn K cd6 "comers" = true) (k6 : PySem.W.keepIn K (.ref f6) = true)
    (a7 : PySem.W.nsIn K mainGlobals "may_be_done" = some (some (.ref f7)))
    (l7 : K.lookup f7 = some ⟨oc7, od7, .func (PySem.W.fnOf "may_be_done" "may_be_done" (defArgs s_may_be_done) (defBody s_may_be_done) (defScope s_may_be_done) .none kV7 dc7 pm7 an7 cd7 ct7), sl7⟩) (c7 : PySem.W.codeIn K cd7 "may_be_done" = true) (k7 : PySem.W.keepIn K (.ref f7) = true)
    (a8 : PySem.W.nsIn K mainGlobals "way_of" = some (some (.ref f8)))
    (l8 : K.lookup f8 = some ⟨oc8, od8, .func (PySem.W.fnOf "way_of" "way_of" (defArgs s_way_of) (defBody s_way_of) (defScope s_way_of) .none kV8 dc8 pm8 an8 cd8 ct8), sl8⟩) (c8 : PySem.W.codeIn K cd8 "way_of" = true) (k8 : PySem.W.keepIn K (.ref f8) = true)
    (a9 : PySem.W.nsIn K mainGlobals "row_for_deed" = some (some (.ref f9)))
    (l9 : K.lookup f9 = some ⟨oc9, od9, .func (PySem.W.fnOf "row_for_deed" "row_for_deed" (defArgs s_row_for_deed) (defBody s_row_for_deed) (defScope s_row_for_deed) .none kV9 dc9 pm9 an9 cd9 ct9), sl9⟩) (c9 : PySem.W.codeIn K cd9 "row_for_deed" = true) (k9 : PySem.W.keepIn K (.ref f9) = true)
    (a10 : PySem.W.nsIn K mainGlobals "may" = some (some (.ref f10)))
    (l10 : K.lookup f10 = some ⟨oc10, od10, .func (PySem.W.fnOf "may" "may" (defArgs s_may) (defBody s_may) (defScope s_may) (.ref dT10) kV10 dc10 pm10 an10 cd10 ct10), sl10⟩) (c10 : PySem.W.codeIn K cd10 "may" = true) (k10 : PySem.W.keepIn K (.ref f10) = true)
    (a11 : PySem.W.nsIn K mainGlobals "asks_of" = some (some (.ref f11)))
    (l11 : K.lookup f11 = some ⟨oc11, od11, .func (PySem.W.fnOf "asks_of" "asks_of" (defArgs s_asks_of) (defBody s_asks_of) (defScope s_asks_of) .none kV11 dc11 pm11 an11 cd11 ct11), sl11⟩) (c11 : PySem.W.codeIn K cd11 "asks_of" = true) (k11 : PySem.W.keepIn K (.ref f11) = true)
    (a12 : PySem.W.nsIn K mainGlobals "letters_of" = some (some (.ref f12)))
    (l12 : K.lookup f12 = some ⟨oc12, od12, .func (PySem.W.fnOf "letters_of" "letters_of" (defArgs s_letters_of) (defBody s_letters_of) (defScope s_letters_of) .none kV12 dc12 pm12 an12 cd12 ct12), sl12⟩) (c12 : PySem.W.codeIn K cd12 "letters_of" = true) (k12 : PySem.W.keepIn K (.ref f12) = true)
    (a13 : PySem.W.nsIn K mainGlobals "stuck" = some (some (.ref f13)))
    (l13 : K.lookup f13 = some ⟨oc13, od13, .func (PySem.W.fnOf "stuck" "stuck" (defArgs s_stuck) (defBody s_stuck) (defScope s_stuck) (.ref dT13) kV13 dc13 pm13 an13 cd13 ct13), sl13⟩) (c13 : PySem.W.codeIn K cd13 "stuck" = true) (k13 : PySem.W.keepIn K (.ref f13) = true)
    (a14 : PySem.W.nsIn K mainGlobals "_law_cell_at" = some (some (.ref f14)))
    (l14 : K.lookup f14 = some ⟨oc14, od14, .func (PySem.W.fnOf "_law_cell_at" "_law_cell_at" (defArgs s_w_cell_at) (defBody s_w_cell_at) (defScope s_w_cell_at) .none kV14 dc14 pm14 an14 cd14 ct14), sl14⟩) (c14 : PySem.W.codeIn K cd14 "_law_cell_at" = true) (k14 : PySem.W.keepIn K (.ref f14) = true)
    (a15 : PySem.W.nsIn K mainGlobals "_law_digits" = some (some (.ref f15)))
    (l15 : K.lookup f15 = some ⟨oc15, od15, .func (PySem.W.fnOf "_law_digits" "_law_digits" (defArgs s_w_digits) (defBody s_w_digits) (defScope s_w_digits) .none kV15 dc15 pm15 an15 cd15 ct15), sl15⟩) (c15 : PySem.W.codeIn K cd15 "_law_digits" = true) (k15 : PySem.W.keepIn K (.ref f15) = true)
    (a16 : PySem.W.nsIn K mainGlobals "_law_table" = some (some (.ref f16)))
    (l16 : K.lookup f16 = some ⟨oc16, od16, .func (PySem.W.fnOf "_law_table" "_law_table" (defArgs s_w_table) (defBody s_w_table) (defScope s_w_table) .none kV16 dc16 pm16 an16 cd16 ct16), sl16⟩) (c16 : PySem.W.codeIn K cd16 "_law_table" = true) (k16 : PySem.W.keepIn K (.ref f16) = true)
    (a17 : PySem.W.nsIn K mainGlobals "_law_line" = some (some (.ref f17)))
    (l17 : K.lookup f17 = some ⟨oc17, od17, .func (PySem.W.fnOf "_law_line" "_law_line" (defArgs s_w_line) (defBody s_w_line) (defScope s_w_line) .none kV17 dc17 pm17 an17 cd17 ct17), sl17⟩) (c17 : PySem.W.codeIn K cd17 "_law_line" = true) (k17 : PySem.W.keepIn K (.ref f17) = true)
    (a18 : PySem.W.nsIn K mainGlobals "_law_has" = some (some (.ref f18)))
    (l18 : K.lookup f18 = some ⟨oc18, od18, .func (PySem.W.fnOf "_law_has" "_law_has" (defArgs s_w_has) (defBody s_w_has) (defScope s_w_has) .none kV18 dc18 pm18 an18 cd18 ct18), sl18⟩) (c18 : PySem.W.codeIn K cd18 "_law_has" = true) (k18 : PySem.W.keepIn K (.ref f18) = true)
    (a19 : PySem.W.nsIn K mainGlobals "_law_waits" = some (some (.ref f19)))
    (l19 : K.lookup f19 = some ⟨oc19, od19, .func (PySem.W.fnOf "_law_waits" "_law_waits" (defArgs s_w_waits) (defBody s_w_waits) (defScope s_w_waits) .none kV19 dc19 pm19 an19 cd19 ct19), sl19⟩) (c19 : PySem.W.codeIn K cd19 "_law_waits" = true) (k19 : PySem.W.keepIn K (.ref f19) = true)
    (a20 : PySem.W.nsIn K mainGlobals "_law_due" = some (some (.ref f20)))
    (l20 : K.lookup f20 = some ⟨oc20, od20, .func (PySem.W.fnOf "_law_due" "_law_due" (defArgs s_w_due) (defBody s_w_due) (defScope s_w_due) .none kV20 dc20 pm20 an20 cd20 ct20), sl20⟩) (c20 : PySem.W.codeIn K cd20 "_law_due" = true) (k20 : PySem.W.keepIn K (.ref f20) = true)
    (a21 : PySem.W.nsIn K mainGlobals "law" = some (some (.ref f21)))
    (l21 : K.lookup f21 = some ⟨oc21, od21, .func (PySem.W.fnOf "law" "law" (defArgs s_law) (defBody s_law) (defScope s_law) .none kV21 dc21 pm21 an21 cd21 ct21), sl21⟩) (c21 : PySem.W.codeIn K cd21 "law" = true) (k21 : PySem.W.keepIn K (.ref f21) = true)
    (a22 : PySem.W.findIn K (.ref C_OpenLine) "__init__" = some (some (.ref f22))) (i22 : PySem.W.isFn K (.ref f22) = true)
    (l22 : K.lookup f22 = some ⟨oc22, od22, .func (PySem.W.fnOf "__init__" "OpenLine.__init__" (defArgs s_m_OpenLine_init) (defBody s_m_OpenLine_init) (defScope s_m_OpenLine_init) .none kV22 dc22 pm22 an22 cd22 ct22), sl22⟩) (c22 : PySem.W.codeIn K cd22 "OpenLine.__init__" = true) (k22 : PySem.W.keepIn K (.ref f22) = true)
    (a23 : PySem.W.findIn K (.ref C_Hall) "__init__" = some (some (.ref f23))) (i23 : PySem.W.isFn K (.ref f23) = true)
    (l23 : K.lookup f23 = some ⟨oc23, od23, .func (PySem.W.fnOf "__init__" "Hall.__init__" (defArgs s_m_Hall_init) (defBody s_m_Hall_init) (defScope s_m_Hall_init) .none kV23 dc23 pm23 an23 cd23 ct23), sl23⟩) (c23 : PySem.W.codeIn K cd23 "Hall.__init__" = true) (k23 : PySem.W.keepIn K (.ref f23) = true)
    (a24 : PySem.W.findIn K (.ref C_Hall) "hands_with" = some (some (.ref f24))) (i24 : PySem.W.isFn K (.ref f24) = true)
    (l24 : K.lookup f24 = some ⟨oc24, od24, .func (PySem.W.fnOf "hands_with" "Hall.hands_with" (defArgs s_m_Hall_hands_with) (defBody s_m_Hall_hands_with) (defScope s_m_Hall_hands_with) .none kV24 dc24 pm24 an24 cd24 ct24), sl24⟩) (c24 : PySem.W.codeIn K cd24 "Hall.hands_with" = true) (k24 : PySem.W.keepIn K (.ref f24) = true)
    (a25 : PySem.W.findIn K (.ref C_Hall) "other_sharers" = some (some (.ref f25))) (i25 : PySem.W.isFn K (.ref f25) = true)
    (l25 : K.lookup f25 = some ⟨oc25, od25, .func (PySem.W.fnOf "other_sharers" "Hall.other_sharers" (defArgs s_m_Hall_other_sharers) (defBody s_m_Hall_other_sharers) (defScope s_m_Hall_other_sharers) .none kV25 dc25 pm25 an25 cd25 ct25), sl25⟩) (c25 : PySem.W.codeIn K cd25 "Hall.other_sharers" = true) (k25 : PySem.W.keepIn K (.ref f25) = true)
    (x_OpenLine : PySem.W.nsIn K mainGlobals "OpenLine" = some (some (.ref C_OpenLine))) (pg_OpenLine : PySem.W.plainGet K C_OpenLine Str.empty = true) (hd_OpenLine : PySem.W.hasDictIn K C_OpenLine = true) (po_OpenLine : PySem.W.plainOver K C_OpenLine = true) (sa_OpenLine : PySem.W.findIn K (.ref C_OpenLine) "__setattr__" = some (some (.builtin "object.__setattr__"))) (mk_OpenLine : PySem.W.makesIn K C_OpenLine = true) (kc_OpenLine : PySem.W.keepIn K (.ref C_OpenLine) = true)
    (n_OpenLine_state : PySem.W.findIn K (.ref C_OpenLine) "state" = some none)
    (n_OpenLine_value : PySem.W.findIn K (.ref C_OpenLine) "value" = some none)
    (n_OpenLine_want : PySem.W.findIn K (.ref C_OpenLine) "want" = some none)
    (n_OpenLine_to : PySem.W.findIn K (.ref C_OpenLine) "to" = some none)
    (n_OpenLine_back : PySem.W.findIn K (.ref C_OpenLine) "back" = some none)
    (n_OpenLine_flags : PySem.W.findIn K (.ref C_OpenLine) "flags" = some none)
    (x_Hall : PySem.W.nsIn K mainGlobals "Hall" = some (some (.ref C_Hall))) (pg_Hall : PySem.W.plainGet K C_Hall Str.empty = true) (hd_Hall : PySem.W.hasDictIn K C_Hall = true) (po_Hall : PySem.W.plainOver K C_Hall = true) (sa_Hall : PySem.W.findIn K (.ref C_Hall) "__setattr__" = some (some (.builtin "object.__setattr__"))) (mk_Hall : PySem.W.makesIn K C_Hall = true) (kc_Hall : PySem.W.keepIn K (.ref C_Hall) = true)
    (n_Hall_state : PySem.W.findIn K (.ref C_Hall) "state" = some none)
    (n_Hall_store : PySem.W.findIn K (.ref C_Hall) "store" = some none)
    (n_Hall_last : PySem.W.findIn K (.ref C_Hall) "last" = some none)
    (n_Hall_lines : PySem.W.findIn K (.ref C_Hall) "lines" = some none)
    (n_Hall_answer : PySem.W.findIn K (.ref C_Hall) "answer" = some none)
    (n_Hall_broken : PySem.W.findIn K (.ref C_Hall) "broken" = some none)
    (y1 : K.lookup ga0 = some ⟨.type "tuple", none, .seq #[(.str (PySem.Str.ofString "read") tk0), (.str (PySem.Str.ofString "write") tk1), (.str (PySem.Str.ofString "drop") tk2)] gn1, gs1⟩)
    (x0 : PySem.W.nsIn K mainGlobals "ASKS" = some (some (.ref ga0)))
    (x1 : PySem.W.nsIn K mainGlobals "SHARES" = some (some (.int 1 tk3)))
    (y2 : K.lookup ga1 = some ⟨.type "tuple", none, .seq #[(.str (PySem.Str.ofString "wait") tk4)] gn2, gs2⟩)
    (y3 : K.lookup ga2 = some ⟨.type "tuple", none, .seq #[(.ref ga1)] gn3, gs3⟩)
    (x2 : PySem.W.nsIn K mainGlobals "WAITS" = some (some (.ref ga2)))
    (w10 : K.lookup dT10 = some ⟨.type "tuple", wd10, .seq #[(.bool true)] wn10, ws10⟩)
    (w13 : K.lookup dT13 = some ⟨.type "tuple", wd13, .seq #[(.bool true)] wn13, ws13⟩)
    (z1 : PySem.W.nsIn K mainGlobals "len" = some none)
    (z2 : PySem.W.nsIn K mainGlobals "sum" = some none)
    (z3 : PySem.W.nsIn K mainGlobals "tuple" = some none)
    (z4 : PySem.W.nsIn K mainGlobals "int" = some none)
    (z5 : PySem.W.nsIn K mainGlobals "range" = some none)
    (z6 : PySem.W.nsIn K mainGlobals "all" = some none)
    (z7 : PySem.W.nsIn K mainGlobals "any" = some none)
    (z8 : PySem.W.nsIn K mainGlobals "max" = some none)
    (z9 : PySem.W.nsIn K mainGlobals "min" = some none)
    (z10 : PySem.W.nsIn K mainGlobals "list" = some none)
    (z11 : PySem.W.nsIn K mainGlobals "isinstance" = some none)
    (z12 : PySem.W.nsIn K mainGlobals "str" = some none)
    (z13 : PySem.W.nsIn K mainGlobals "bool" = some none)
    (z14 : PySem.W.nsIn K mainGlobals "dict" = some none)
    (z15 : PySem.W.nsIn K mainGlobals "enumerate" = some none)
    : ∃ fd : FuncData, (∀ (s : Shared) (v : Value), BindsTo s fd ⟨[v], []⟩ [("_law_script", v)]) ∧ ∀ base : Heap, K.In base → base.Ns mainGlobals mg → FnOk l.prog w K mg base CX0 16 fa fd ["_law_script"] (spF K 1 (callF P 8 20)) := by
  have e := hfa.symm.trans (PySem.W.mg_of X G a21)
  cases e
  have F1 := fun2_mk (st := s_wall) l1 c1 k1
  have b1 := nodfl (K := K) (ps := p_wall) (.all (fd := PySem.W.fnOf "_wall" "_wall" (defArgs s_wall) (defBody s_wall) (defScope s_wall) .none kV1 dc1 pm1 an1 cd1 ct1) (us1 fun _ => rfl))
  have d1 : DefAt K fns cls P globs 0 "_wall" "_wall" s_wall f1 _ n_wall p_wall _ := ⟨rfl, F1, t_wall, rfl, rfl, b1, c_wall⟩
  have F2 := fun2_mk (st := s_hand_row) l2 c2 k2
  have b2 := nodfl (K := K) (ps := p_hand_row) (.all (fd := PySem.W.fnOf "hand_row" "hand_row" (defArgs s_hand_row) (defBody s_hand_row) (defScope s_hand_row) .none kV2 dc2 pm2 an2 cd2 ct2) (us3 fun _ _ _ => rfl))
  have d2 : DefAt K fns cls P globs 1 "hand_row" "hand_row" s_hand_row f2 _ n_hand_row p_hand_row _ := ⟨rfl, F2, t_hand_row, rfl, rfl, b2, c_hand_row⟩
  have F3 := fun2_mk (st := s_house_row) l3 c3 k3
  have b3 := nodfl (K := K) (ps := p_house_row) (.all (fd := PySem.W.fnOf "house_row" "house_row" (defArgs s_house_row) (defBody s_house_row) (defScope s_house_row) .none kV3 dc3 pm3 an3 cd3 ct3) (us4 fun _ _ _ _ => rfl))
  have d3 : DefAt K fns cls P globs 2 "house_row" "house_row" s_house_row f3 _ n_house_row p_house_row _ := ⟨rfl, F3, t_house_row, rfl, rfl, b3, c_house_row⟩
  have F4 := fun2_mk (st := s_row_for) l4 c4 k4
  have b4 := nodfl (K := K) (ps := p_row_for) (.all (fd := PySem.W.fnOf "row_for" "row_for" (defArgs s_row_for) (defBody s_row_for) (defScope s_row_for) .none kV4 dc4 pm4 an4 cd4 ct4) (us2 fun _ _ => rfl))
  have d4 : DefAt K fns cls P globs 3 "row_for" "row_for" s_row_for f4 _ n_row_for p_row_for _ := ⟨rfl, F4, t_row_for, rfl, rfl, b4, c_row_for⟩
  have F5 := fun2_mk (st := s_is_wait) l5 c5 k5
  have b5 := nodfl (K := K) (ps := p_is_wait) (.all (fd := PySem.W.fnOf "is_wait" "is_wait" (defArgs s_is_wait) (defBody s_is_wait) (defScope s_is_wait) .none kV5 dc5 pm5 an5 cd5 ct5) (us1 fun _ => rfl))
  have d5 : DefAt K fns cls P globs 4 "is_wait" "is_wait" s_is_wait f5 _ n_is_wait p_is_wait _ := ⟨rfl, F5, t_is_wait, rfl, rfl, b5, c_is_wait⟩
  have F6 := fun2_mk (st := s_comers) l6 c6 k6
  have b6 := nodfl (K := K) (ps := p_comers) (.all (fd := PySem.W.fnOf "comers" "comers" (defArgs s_comers) (defBody s_comers) (defScope s_comers) .none kV6 dc6 pm6 an6 cd6 ct6) (us2 fun _ _ => rfl))
  have d6 : DefAt K fns cls P globs 5 "comers" "comers" s_comers f6 _ n_comers p_comers _ := ⟨rfl, F6, t_comers, rfl, rfl, b6, c_comers⟩
  have F7 := fun2_mk (st := s_may_be_done) l7 c7 k7
  have b7 := nodfl (K := K) (ps := p_may_be_done) (.all (fd := PySem.W.fnOf "may_be_done" "may_be_done" (defArgs s_may_be_done) (defBody s_may_be_done) (defScope s_may_be_done) .none kV7 dc7 pm7 an7 cd7 ct7) (us3 fun _ _ _ => rfl))
  have d7 : DefAt K fns cls P globs 6 "may_be_done" "may_be_done" s_may_be_done f7 _ n_may_be_done p_may_be_done _ := ⟨rfl, F7, t_may_be_done, rfl, rfl, b7, c_may_be_done⟩
  have F8 := fun2_mk (st := s_way_of) l8 c8 k8
  have b8 := nodfl (K := K) (ps := p_way_of) (.all (fd := PySem.W.fnOf "way_of" "way_of" (defArgs s_way_of) (defBody s_way_of) (defScope s_way_of) .none kV8 dc8 pm8 an8 cd8 ct8) (us2 fun _ _ => rfl))
  have d8 : DefAt K fns cls P globs 7 "way_of" "way_of" s_way_of f8 _ n_way_of p_way_of _ := ⟨rfl, F8, t_way_of, rfl, rfl, b8, c_way_of⟩
  have F9 := fun2_mk (st := s_row_for_deed) l9 c9 k9
  have b9 := nodfl (K := K) (ps := p_row_for_deed) (.all (fd := PySem.W.fnOf "row_for_deed" "row_for_deed" (defArgs s_row_for_deed) (defBody s_row_for_deed) (defScope s_row_for_deed) .none kV9 dc9 pm9 an9 cd9 ct9) (us3 fun _ _ _ => rfl))
  have d9 : DefAt K fns cls P globs 8 "row_for_deed" "row_for_deed" s_row_for_deed f9 _ n_row_for_deed p_row_for_deed _ := ⟨rfl, F9, t_row_for_deed, rfl, rfl, b9, c_row_for_deed⟩
  have F10 := fun2_mk (st := s_may) l10 c10 k10
  have b10 : ∃ dvs, (∀ A H, RepDs K A H [(.bl true)] dvs) ∧ ∀ j, j ≤ 1 → ∃ ds, Binds K _ p_may ds ∧ Vals (dvs.drop j) ds := ⟨[(V.bl true)], fun _ _ => (.cons (by simp only [RepD]) .nil), fun j hj => by
    have fdE := (PySem.W.fnOf "may" "may" (defArgs s_may) (defBody s_may) (defScope s_may) (.ref dT10) kV10 dc10 pm10 an10 cd10 ct10)
    match j, hj with
    | 0, _ => exact ⟨[(.bool true)], fun s us hK hl => match us, (show us.length = 2 by simpa [p_may] using hl) with | [_, _], _ => BindsTo.of_defaults (fd := PySem.W.fnOf "may" "may" (defArgs s_may) (defBody s_may) (defScope s_may) (.ref dT10) kV10 dc10 pm10 an10 cd10 ct10) rfl (hK _ _ w10) rfl rfl rfl, (.cons rfl .nil)⟩
    | 1, _ => exact ⟨[], fun s us hK hl => match us, (show us.length = 3 by simpa [p_may] using hl) with | [_, _, _], _ => BindsTo.of_defaults (fd := PySem.W.fnOf "may" "may" (defArgs s_may) (defBody s_may) (defScope s_may) (.ref dT10) kV10 dc10 pm10 an10 cd10 ct10) rfl (hK _ _ w10) rfl rfl rfl, .nil⟩
    | j + 2, hj => omega⟩
  have d10 : DefAt K fns cls P globs 9 "may" "may" s_may f10 _ n_may p_may _ := ⟨rfl, F10, t_may, rfl, rfl, b10, c_may⟩
  have F11 := fun2_mk (st := s_asks_of) l11 c11 k11
  have b11 := nodfl (K := K) (ps := p_asks_of) (.all (fd := PySem.W.fnOf "asks_of" "asks_of" (defArgs s_asks_of) (defBody s_asks_of) (defScope s_asks_of) .none kV11 dc11 pm11 an11 cd11 ct11) (us1 fun _ => rfl))
  have d11 : DefAt K fns cls P globs 10 "asks_of" "asks_of" s_asks_of f11 _ n_asks_of p_asks_of _ := ⟨rfl, F11, t_asks_of, rfl, rfl, b11, c_asks_of⟩
  have F12 := fun2_mk (st := s_letters_of) l12 c12 k12
  have b12 := nodfl (K := K) (ps := p_letters_of) (.all (fd := PySem.W.fnOf "letters_of" "letters_of" (defArgs s_letters_of) (defBody s_letters_of) (defScope s_letters_of) .none kV12 dc12 pm12 an12 cd12 ct12) (us4 fun _ _ _ _ => rfl))
  have d12 : DefAt K fns cls P globs 11 "letters_of" "letters_of" s_letters_of f12 _ n_letters_of p_letters_of _ := ⟨rfl, F12, t_letters_of, rfl, rfl, b12, c_letters_of⟩
  have F13 := fun2_mk (st := s_stuck) l13 c13 k13
  have b13 : ∃ dvs, (∀ A H, RepDs K A H [(.bl true)] dvs) ∧ ∀ j, j ≤ 1 → ∃ ds, Binds K _ p_stuck ds ∧ Vals (dvs.drop j) ds := ⟨[(V.bl true)], fun _ _ => (.cons (by simp only [RepD]) .nil), fun j hj => by
    have fdE := (PySem.W.fnOf "stuck" "stuck" (defArgs s_stuck) (defBody s_stuck) (defScope s_stuck) (.ref dT13) kV13 dc13 pm13 an13 cd13 ct13)
    match j, hj with
    | 0, _ => exact ⟨[(.bool true)], fun s us hK hl => match us, (show us.length = 2 by simpa [p_stuck] using hl) with | [_, _], _ => BindsTo.of_defaults (fd := PySem.W.fnOf "stuck" "stuck" (defArgs s_stuck) (defBody s_stuck) (defScope s_stuck) (.ref dT13) kV13 dc13 pm13 an13 cd13 ct13) rfl (hK _ _ w13) rfl rfl rfl, (.cons rfl .nil)⟩
    | 1, _ => exact ⟨[], fun s us hK hl => match us, (show us.length = 3 by simpa [p_stuck] using hl) with | [_, _, _], _ => BindsTo.of_defaults (fd := PySem.W.fnOf "stuck" "stuck" (defArgs s_stuck) (defBody s_stuck) (defScope s_stuck) (.ref dT13) kV13 dc13 pm13 an13 cd13 ct13) rfl (hK _ _ w13) rfl rfl rfl, .nil⟩
    | j + 2, hj => omega⟩
  have d13 : DefAt K fns cls P globs 12 "stuck" "stuck" s_stuck f13 _ n_stuck p_stuck _ := ⟨rfl, F13, t_stuck, rfl, rfl, b13, c_stuck⟩
  have F14 := fun2_mk (st := s_w_cell_at) l14 c14 k14
  have b14 := nodfl (K := K) (ps := p_w_cell_at) (.all (fd := PySem.W.fnOf "_law_cell_at" "_law_cell_at" (defArgs s_w_cell_at) (defBody s_w_cell_at) (defScope s_w_cell_at) .none kV14 dc14 pm14 an14 cd14 ct14) (us2 fun _ _ => rfl))
  have d14 : DefAt K fns cls P globs 13 "_law_cell_at" "_law_cell_at" s_w_cell_at f14 _ n_w_cell_at p_w_cell_at _ := ⟨rfl, F14, t_w_cell_at, rfl, rfl, b14, c_w_cell_at⟩
  have F15 := fun2_mk (st := s_w_digits) l15 c15 k15
  have b15 := nodfl (K := K) (ps := p_w_digits) (.all (fd := PySem.W.fnOf "_law_digits" "_law_digits" (defArgs s_w_digits) (defBody s_w_digits) (defScope s_w_digits) .none kV15 dc15 pm15 an15 cd15 ct15) (us3 fun _ _ _ => rfl))
  have d15 : DefAt K fns cls P globs 14 "_law_digits" "_law_digits" s_w_digits f15 _ n_w_digits p_w_digits _ := ⟨rfl, F15, t_w_digits, rfl, rfl, b15, c_w_digits⟩
  have F16 := fun2_mk (st := s_w_table) l16 c16 k16
  have b16 := nodfl (K := K) (ps := p_w_table) (.all (fd := PySem.W.fnOf "_law_table" "_law_table" (defArgs s_w_table) (defBody s_w_table) (defScope s_w_table) .none kV16 dc16 pm16 an16 cd16 ct16) (us1 fun _ => rfl))
  have d16 : DefAt K fns cls P globs 15 "_law_table" "_law_table" s_w_table f16 _ n_w_table p_w_table _ := ⟨rfl, F16, t_w_table, rfl, rfl, b16, c_w_table⟩
  have F17 := fun2_mk (st := s_w_line) l17 c17 k17
  have b17 := nodfl (K := K) (ps := p_w_line) (.all (fd := PySem.W.fnOf "_law_line" "_law_line" (defArgs s_w_line) (defBody s_w_line) (defScope s_w_line) .none kV17 dc17 pm17 an17 cd17 ct17) (us2 fun _ _ => rfl))
  have d17 : DefAt K fns cls P globs 16 "_law_line" "_law_line" s_w_line f17 _ n_w_line p_w_line _ := ⟨rfl, F17, t_w_line, rfl, rfl, b17, c_w_line⟩
  have F18 := fun2_mk (st := s_w_has) l18 c18 k18
  have b18 := nodfl (K := K) (ps := p_w_has) (.all (fd := PySem.W.fnOf "_law_has" "_law_has" (defArgs s_w_has) (defBody s_w_has) (defScope s_w_has) .none kV18 dc18 pm18 an18 cd18 ct18) (us3 fun _ _ _ => rfl))
  have d18 : DefAt K fns cls P globs 17 "_law_has" "_law_has" s_w_has f18 _ n_w_has p_w_has _ := ⟨rfl, F18, t_w_has, rfl, rfl, b18, c_w_has⟩
  have F19 := fun2_mk (st := s_w_waits) l19 c19 k19
  have b19 := nodfl (K := K) (ps := p_w_waits) (.all (fd := PySem.W.fnOf "_law_waits" "_law_waits" (defArgs s_w_waits) (defBody s_w_waits) (defScope s_w_waits) .none kV19 dc19 pm19 an19 cd19 ct19) (us3 fun _ _ _ => rfl))
  have d19 : DefAt K fns cls P globs 18 "_law_waits" "_law_waits" s_w_waits f19 _ n_w_waits p_w_waits _ := ⟨rfl, F19, t_w_waits, rfl, rfl, b19, c_w_waits⟩
  have F20 := fun2_mk (st := s_w_due) l20 c20 k20
  have b20 := nodfl (K := K) (ps := p_w_due) (.all (fd := PySem.W.fnOf "_law_due" "_law_due" (defArgs s_w_due) (defBody s_w_due) (defScope s_w_due) .none kV20 dc20 pm20 an20 cd20 ct20) (us3 fun _ _ _ => rfl))
  have d20 : DefAt K fns cls P globs 19 "_law_due" "_law_due" s_w_due f20 _ n_w_due p_w_due _ := ⟨rfl, F20, t_w_due, rfl, rfl, b20, c_w_due⟩
  have F21 := fun2_mk (st := s_law) l21 c21 k21
  have b21 := nodfl (K := K) (ps := p_law) (.all (fd := PySem.W.fnOf "law" "law" (defArgs s_law) (defBody s_law) (defScope s_law) .none kV21 dc21 pm21 an21 cd21 ct21) (us1 fun _ => rfl))
  have d21 : DefAt K fns cls P globs 20 "law" "law" s_law fa _ n_law p_law _ := ⟨rfl, F21, t_law, rfl, rfl, b21, c_law⟩
  have F22 := fun2_mk (st := s_m_OpenLine_init) l22 c22 k22
  have b22 := nodfl (K := K) (ps := p_m_OpenLine_init) (.all (fd := PySem.W.fnOf "__init__" "OpenLine.__init__" (defArgs s_m_OpenLine_init) (defBody s_m_OpenLine_init) (defScope s_m_OpenLine_init) .none kV22 dc22 pm22 an22 cd22 ct22) (us2 fun _ _ => rfl))
  have d22 : DefAt K fns cls P globs 21 "__init__" "OpenLine.__init__" s_m_OpenLine_init f22 _ n_m_OpenLine_init p_m_OpenLine_init _ := ⟨rfl, F22, t_m_OpenLine_init, rfl, rfl, b22, c_m_OpenLine_init⟩
  have F23 := fun2_mk (st := s_m_Hall_init) l23 c23 k23
  have b23 := nodfl (K := K) (ps := p_m_Hall_init) (.all (fd := PySem.W.fnOf "__init__" "Hall.__init__" (defArgs s_m_Hall_init) (defBody s_m_Hall_init) (defScope s_m_Hall_init) .none kV23 dc23 pm23 an23 cd23 ct23) (us2 fun _ _ => rfl))
  have d23 : DefAt K fns cls P globs 22 "__init__" "Hall.__init__" s_m_Hall_init f23 _ n_m_Hall_init p_m_Hall_init _ := ⟨rfl, F23, t_m_Hall_init, rfl, rfl, b23, c_m_Hall_init⟩
  have F24 := fun2_mk (st := s_m_Hall_hands_with) l24 c24 k24
  have b24 := nodfl (K := K) (ps := p_m_Hall_hands_with) (.all (fd := PySem.W.fnOf "hands_with" "Hall.hands_with" (defArgs s_m_Hall_hands_with) (defBody s_m_Hall_hands_with) (defScope s_m_Hall_hands_with) .none kV24 dc24 pm24 an24 cd24 ct24) (us2 fun _ _ => rfl))
  have d24 : DefAt K fns cls P globs 23 "hands_with" "Hall.hands_with" s_m_Hall_hands_with f24 _ n_m_Hall_hands_with p_m_Hall_hands_with _ := ⟨rfl, F24, t_m_Hall_hands_with, rfl, rfl, b24, c_m_Hall_hands_with⟩
  have F25 := fun2_mk (st := s_m_Hall_other_sharers) l25 c25 k25
  have b25 := nodfl (K := K) (ps := p_m_Hall_other_sharers) (.all (fd := PySem.W.fnOf "other_sharers" "Hall.other_sharers" (defArgs s_m_Hall_other_sharers) (defBody s_m_Hall_other_sharers) (defScope s_m_Hall_other_sharers) .none kV25 dc25 pm25 an25 cd25 ct25) (us2 fun _ _ => rfl))
  have d25 : DefAt K fns cls P globs 24 "other_sharers" "Hall.other_sharers" s_m_Hall_other_sharers f25 _ n_m_Hall_other_sharers p_m_Hall_other_sharers _ := ⟨rfl, F25, t_m_Hall_other_sharers, rfl, rfl, b25, c_m_Hall_other_sharers⟩
  have blt : ∀ x ∈ bltNames, mg x = none := by
    intro x hx
    simp only [bltNames, List.mem_cons, List.not_mem_nil, or_false] at hx
    rcases hx with rfl | rfl | rfl | rfl | rfl | rfl | rfl | rfl | rfl | rfl | rfl | rfl | rfl | rfl | rfl
    · exact PySem.W.mg_none_of X G z1
    · exact PySem.W.mg_none_of X G z2
    · exact PySem.W.mg_none_of X G z3
    · exact PySem.W.mg_none_of X G z4
    · exact PySem.W.mg_none_of X G z5
    · exact PySem.W.mg_none_of X G z6
    · exact PySem.W.mg_none_of X G z7
    · exact PySem.W.mg_none_of X G z8
    · exact PySem.W.mg_none_of X G z9
    · exact PySem.W.mg_none_of X G z10
    · exact PySem.W.mg_none_of X G z11
    · exact PySem.W.mg_none_of X G z12
    · exact PySem.W.mg_none_of X G z13
    · exact PySem.W.mg_none_of X G z14
    · exact PySem.W.mg_none_of X G z15
  have gl : ∀ (x : Str) (d : D), globs.lookup x = some d → ∃ u v, mg x = some u ∧ RelV v u ∧ ∀ A H, RepD K A H d v := by
    intro x d e
    unfold globs at e
    rw [List.lookup_cons] at e
    split at e
    · rename_i hx
      have hx := eq_of_beq hx
      subst hx
      cases e
      exact ⟨_, (V.ref ga0), PySem.W.mg_of X G x0, rfl, fun A H => by simp only [RepD]; exact ⟨ga0, [(V.str (PySem.Str.ofString "read")), (V.str (PySem.Str.ofString "write")), (V.str (PySem.Str.ofString "drop"))], rfl, .inr ⟨_, _, _, y1, rfl, rfl, rfl, by show 3 ≤ sizeLine; decide, (.cons ⟨_, rfl⟩ (.cons ⟨_, rfl⟩ (.cons ⟨_, rfl⟩ .nil)))⟩, (.cons (by simp only [RepD]; rfl) (.cons (by simp only [RepD]; rfl) (.cons (by simp only [RepD]; rfl) .nil)))⟩⟩
    rw [List.lookup_cons] at e
    split at e
    · rename_i hx
      have hx := eq_of_beq hx
      subst hx
      cases e
      exact ⟨_, (V.int 1), PySem.W.mg_of X G x1, ⟨_, rfl⟩, fun A H => by simp only [RepD]⟩
    rw [List.lookup_cons] at e
    split at e
    · rename_i hx
      have hx := eq_of_beq hx
      subst hx
      cases e
      exact ⟨_, (V.ref ga2), PySem.W.mg_of X G x2, rfl, fun A H => by simp only [RepD]; exact ⟨ga2, [(V.ref ga1)], rfl, .inr ⟨_, _, _, y3, rfl, rfl, rfl, by show 1 ≤ sizeLine; decide, (.cons rfl .nil)⟩, (.cons (by simp only [RepD]; exact ⟨ga1, [(V.str (PySem.Str.ofString "wait"))], rfl, .inr ⟨_, _, _, y2, rfl, rfl, rfl, by show 1 ≤ sizeLine; decide, (.cons ⟨_, rfl⟩ .nil)⟩, (.cons (by simp only [RepD]; rfl) .nil)⟩) .nil)⟩⟩
    cases e
  let addr : Nat → Addr := fun n => [f1, f2, f3, f4, f5, f6, f7, f8, f9, f10, f11, f12, f13, f14, f15, f16, f17, f18, f19, f20, fa, f22, f23, f24, f25].getD n 0
  let psOf : Nat → List Str := fun n => [p_wall, p_hand_row, p_house_row, p_row_for, p_is_wait, p_comers, p_may_be_done, p_way_of, p_row_for_deed, p_may, p_asks_of, p_letters_of, p_stuck, p_w_cell_at, p_w_digits, p_w_table, p_w_line, p_w_has, p_w_waits, p_w_due, p_law, p_m_OpenLine_init, p_m_Hall_init, p_m_Hall_hands_with, p_m_Hall_other_sharers].getD n []
  let fdOf : Nat → FuncData := fun n => [(PySem.W.fnOf "_wall" "_wall" (defArgs s_wall) (defBody s_wall) (defScope s_wall) .none kV1 dc1 pm1 an1 cd1 ct1), (PySem.W.fnOf "hand_row" "hand_row" (defArgs s_hand_row) (defBody s_hand_row) (defScope s_hand_row) .none kV2 dc2 pm2 an2 cd2 ct2), (PySem.W.fnOf "house_row" "house_row" (defArgs s_house_row) (defBody s_house_row) (defScope s_house_row) .none kV3 dc3 pm3 an3 cd3 ct3), (PySem.W.fnOf "row_for" "row_for" (defArgs s_row_for) (defBody s_row_for) (defScope s_row_for) .none kV4 dc4 pm4 an4 cd4 ct4), (PySem.W.fnOf "is_wait" "is_wait" (defArgs s_is_wait) (defBody s_is_wait) (defScope s_is_wait) .none kV5 dc5 pm5 an5 cd5 ct5), (PySem.W.fnOf "comers" "comers" (defArgs s_comers) (defBody s_comers) (defScope s_comers) .none kV6 dc6 pm6 an6 cd6 ct6), (PySem.W.fnOf "may_be_done" "may_be_done" (defArgs s_may_be_done) (defBody s_may_be_done) (defScope s_may_be_done) .none kV7 dc7 pm7 an7 cd7 ct7), (PySem.W.fnOf "way_of" "way_of" (defArgs s_way_of) (defBody s_way_of) (defScope s_way_of) .none kV8 dc8 pm8 an8 cd8 ct8), (PySem.W.fnOf "row_for_deed" "row_for_deed" (defArgs s_row_for_deed) (defBody s_row_for_deed) (defScope s_row_for_deed) .none kV9 dc9 pm9 an9 cd9 ct9), (PySem.W.fnOf "may" "may" (defArgs s_may) (defBody s_may) (defScope s_may) (.ref dT10) kV10 dc10 pm10 an10 cd10 ct10), (PySem.W.fnOf "asks_of" "asks_of" (defArgs s_asks_of) (defBody s_asks_of) (defScope s_asks_of) .none kV11 dc11 pm11 an11 cd11 ct11), (PySem.W.fnOf "letters_of" "letters_of" (defArgs s_letters_of) (defBody s_letters_of) (defScope s_letters_of) .none kV12 dc12 pm12 an12 cd12 ct12), (PySem.W.fnOf "stuck" "stuck" (defArgs s_stuck) (defBody s_stuck) (defScope s_stuck) (.ref dT13) kV13 dc13 pm13 an13 cd13 ct13), (PySem.W.fnOf "_law_cell_at" "_law_cell_at" (defArgs s_w_cell_at) (defBody s_w_cell_at) (defScope s_w_cell_at) .none kV14 dc14 pm14 an14 cd14 ct14), (PySem.W.fnOf "_law_digits" "_law_digits" (defArgs s_w_digits) (defBody s_w_digits) (defScope s_w_digits) .none kV15 dc15 pm15 an15 cd15 ct15), (PySem.W.fnOf "_law_table" "_law_table" (defArgs s_w_table) (defBody s_w_table) (defScope s_w_table) .none kV16 dc16 pm16 an16 cd16 ct16), (PySem.W.fnOf "_law_line" "_law_line" (defArgs s_w_line) (defBody s_w_line) (defScope s_w_line) .none kV17 dc17 pm17 an17 cd17 ct17), (PySem.W.fnOf "_law_has" "_law_has" (defArgs s_w_has) (defBody s_w_has) (defScope s_w_has) .none kV18 dc18 pm18 an18 cd18 ct18), (PySem.W.fnOf "_law_waits" "_law_waits" (defArgs s_w_waits) (defBody s_w_waits) (defScope s_w_waits) .none kV19 dc19 pm19 an19 cd19 ct19), (PySem.W.fnOf "_law_due" "_law_due" (defArgs s_w_due) (defBody s_w_due) (defScope s_w_due) .none kV20 dc20 pm20 an20 cd20 ct20), (PySem.W.fnOf "law" "law" (defArgs s_law) (defBody s_law) (defScope s_law) .none kV21 dc21 pm21 an21 cd21 ct21), (PySem.W.fnOf "__init__" "OpenLine.__init__" (defArgs s_m_OpenLine_init) (defBody s_m_OpenLine_init) (defScope s_m_OpenLine_init) .none kV22 dc22 pm22 an22 cd22 ct22), (PySem.W.fnOf "__init__" "Hall.__init__" (defArgs s_m_Hall_init) (defBody s_m_Hall_init) (defScope s_m_Hall_init) .none kV23 dc23 pm23 an23 cd23 ct23), (PySem.W.fnOf "hands_with" "Hall.hands_with" (defArgs s_m_Hall_hands_with) (defBody s_m_Hall_hands_with) (defScope s_m_Hall_hands_with) .none kV24 dc24 pm24 an24 cd24 ct24), (PySem.W.fnOf "other_sharers" "Hall.other_sharers" (defArgs s_m_Hall_other_sharers) (defBody s_m_Hall_other_sharers) (defScope s_m_Hall_other_sharers) .none kV25 dc25 pm25 an25 cd25 ct25)].getD n (PySem.W.fnOf "_wall" "_wall" (defArgs s_wall) (defBody s_wall) (defScope s_wall) .none kV1 dc1 pm1 an1 cd1 ct1)
  have T : Txt K mg fns cls P globs addr fdOf psOf := by
    refine ⟨fun fi B e => ?_, blt, gl, fun fi p e => ?_, ?_, ?_, ?_⟩
    · refine Idx.get0 (Q := fun fi B => ∃ x qual st N, DefAt K fns cls P globs fi x qual st (addr fi) (fdOf fi) N (psOf fi) B) ?_ e
      exact .cons ⟨_, _, _, _, d1⟩ (.cons ⟨_, _, _, _, d2⟩ (.cons ⟨_, _, _, _, d3⟩ (.cons ⟨_, _, _, _, d4⟩ (.cons ⟨_, _, _, _, d5⟩ (.cons ⟨_, _, _, _, d6⟩ (.cons ⟨_, _, _, _, d7⟩ (.cons ⟨_, _, _, _, d8⟩ (.cons ⟨_, _, _, _, d9⟩ (.cons ⟨_, _, _, _, d10⟩ (.cons ⟨_, _, _, _, d11⟩ (.cons ⟨_, _, _, _, d12⟩ (.cons ⟨_, _, _, _, d13⟩ (.cons ⟨_, _, _, _, d14⟩ (.cons ⟨_, _, _, _, d15⟩ (.cons ⟨_, _, _, _, d16⟩ (.cons ⟨_, _, _, _, d17⟩ (.cons ⟨_, _, _, _, d18⟩ (.cons ⟨_, _, _, _, d19⟩ (.cons ⟨_, _, _, _, d20⟩ (.cons ⟨_, _, _, _, d21⟩ (.cons ⟨_, _, _, _, d22⟩ (.cons ⟨_, _, _, _, d23⟩ (.cons ⟨_, _, _, _, d24⟩ (.cons ⟨_, _, _, _, d25⟩ .nil))))))))))))))))))))))))
    · refine Idx.get0 (Q := fun fi p => mg p.1 = some (Value.ref (addr fi)) ∧ ∃ B, P[fi]? = some B ∧ B.np = p.2.1 ∧ B.dfl = p.2.2) ?_ e
      exact .cons ⟨PySem.W.mg_of X G a1, _, rfl, rfl, rfl⟩ (.cons ⟨PySem.W.mg_of X G a2, _, rfl, rfl, rfl⟩ (.cons ⟨PySem.W.mg_of X G a3, _, rfl, rfl, rfl⟩ (.cons ⟨PySem.W.mg_of X G a4, _, rfl, rfl, rfl⟩ (.cons ⟨PySem.W.mg_of X G a5, _, rfl, rfl, rfl⟩ (.cons ⟨PySem.W.mg_of X G a6, _, rfl, rfl, rfl⟩ (.cons ⟨PySem.W.mg_of X G a7, _, rfl, rfl, rfl⟩ (.cons ⟨PySem.W.mg_of X G a8, _, rfl, rfl, rfl⟩ (.cons ⟨PySem.W.mg_of X G a9, _, rfl, rfl, rfl⟩ (.cons ⟨PySem.W.mg_of X G a10, _, rfl, rfl, rfl⟩ (.cons ⟨PySem.W.mg_of X G a11, _, rfl, rfl, rfl⟩ (.cons ⟨PySem.W.mg_of X G a12, _, rfl, rfl, rfl⟩ (.cons ⟨PySem.W.mg_of X G a13, _, rfl, rfl, rfl⟩ (.cons ⟨PySem.W.mg_of X G a14, _, rfl, rfl, rfl⟩ (.cons ⟨PySem.W.mg_of X G a15, _, rfl, rfl, rfl⟩ (.cons ⟨PySem.W.mg_of X G a16, _, rfl, rfl, rfl⟩ (.cons ⟨PySem.W.mg_of X G a17, _, rfl, rfl, rfl⟩ (.cons ⟨PySem.W.mg_of X G a18, _, rfl, rfl, rfl⟩ (.cons ⟨PySem.W.mg_of X G a19, _, rfl, rfl, rfl⟩ (.cons ⟨PySem.W.mg_of X G a20, _, rfl, rfl, rfl⟩ (.cons ⟨PySem.W.mg_of X G a21, _, rfl, rfl, rfl⟩ .nil))))))))))))))))))))
    · intro ci hc
      unfold cls at hc
      simp only [List.mem_cons, List.not_mem_nil, or_false] at hc
      rcases hc with rfl | rfl
      · exact ⟨C_OpenLine, _, PySem.W.mg_of X G x_OpenLine, x_OpenLine, ⟨pg_OpenLine, hd_OpenLine, po_OpenLine, sa_OpenLine⟩, ⟨mk_OpenLine, a22, i22, kc_OpenLine⟩, rfl, rfl⟩
      · exact ⟨C_Hall, _, PySem.W.mg_of X G x_Hall, x_Hall, ⟨pg_Hall, hd_Hall, po_Hall, sa_Hall⟩, ⟨mk_Hall, a23, i23, kc_Hall⟩, rfl, rfl⟩
    · intro ci hc
      unfold cls at hc
      simp only [List.mem_cons, List.not_mem_nil, or_false] at hc
      rcases hc with rfl | rfl
      · intro pm hp
        simp at hp
      · intro pm hp
        simp only [List.mem_cons, List.not_mem_nil, or_false] at hp
        rcases hp with rfl | rfl
        · exact ⟨C_Hall, _, x_Hall, ⟨pg_Hall, hd_Hall, po_Hall, sa_Hall⟩, ⟨a24, i24, k24⟩, rfl, rfl⟩
        · exact ⟨C_Hall, _, x_Hall, ⟨pg_Hall, hd_Hall, po_Hall, sa_Hall⟩, ⟨a25, i25, k25⟩, rfl, rfl⟩
    · intro ci hc
      unfold cls at hc
      simp only [List.mem_cons, List.not_mem_nil, or_false] at hc
      rcases hc with rfl | rfl
      · intro fl hf A hA
        cases (x_OpenLine.symm.trans hA)
        simp only [List.mem_cons, List.not_mem_nil, or_false] at hf
        rcases hf with rfl | rfl | rfl | rfl | rfl | rfl
        · exact n_OpenLine_state
        · exact n_OpenLine_value
        · exact n_OpenLine_want
        · exact n_OpenLine_to
        · exact n_OpenLine_back
        · exact n_OpenLine_flags
      · intro fl hf A hA
        cases (x_Hall.symm.trans hA)
        simp only [List.mem_cons, List.not_mem_nil, or_false] at hf
        rcases hf with rfl | rfl | rfl | rfl | rfl | rfl
        · exact n_Hall_state
        · exact n_Hall_store
        · exact n_Hall_last
        · exact n_Hall_lines
        · exact n_Hall_answer
        · exact n_Hall_broken
  exact ⟨(PySem.W.fnOf "law" "law" (defArgs s_law) (defBody s_law) (defScope s_law) .none kV21 dc21 pm21 an21 cd21 ct21), fun s v => .of_eq rfl, fun base _ _ => all_fns T 8 20 _ rfl⟩
theorem walk {l : PySem.W.OpenLaw} {q : Program} {loose : List Str} {XP : (Str → Option Value) → Heap → Prop} {YP : World → Heap → Prop} {d : DefRec} {K : Params → PySem.W.Frag} (hn : l.most = some 63) (hdf : d.params.defaults = [])
    (hY : ∀ (w : World) (h : Heap), YP w h → (K w.params).In h)
    (F : ∀ (w : World) (mg : Str → Option Value) (fa : Addr) (h : Heap), (K w.params).In h → h.Ns mainGlobals mg → mg d.name = some (.ref fa) →
      ∃ fd : FuncData, (∀ (s : Shared) (u : Value), BindsTo s fd ⟨[u], []⟩ [("_law_script", u)]) ∧ ∀ base : Heap, (K w.params).In base → base.Ns mainGlobals mg → FnOk l.prog w (K w.params) mg base CX0 16 fa fd ["_law_script"] (spF (K w.params) 1 (callF P 8 20))) :
    PySem.W.WalkO q loose XP YP l.row.toRowW d [] (fun f vs => PySem.call f vs) :=
  L2.walk_of (n := 63) (k := 16) (x := "_law_script") (CX := fun _ => CX0) (sp := fun w => spF (K w.params) 1 (callF P 8 20)) hn (by decide) hdf ⟨rfl, by decide, by decide⟩ hY F
    (fun _ _ a ns hl _ hS => sp_script hS (law_done hl)) fun _ _ _ _ _ z => z
end K22

open PySem PySem.W PyProof.Rows
set_option maxRecDepth 100000 in
set_option maxHeartbeats 0 in
theorem PySem.Challenge.cw_copyclerk_k22_what_may_be_done_holds : PySem.Challenge.rw_copyclerk_k22_what_may_be_done.Holds := by
  w_on; o_law; z_head; (case hw => w_witness2)
  k_fill
  refine IT.toX (fun _ => rfl) (K22.walk (l := PySem.Challenge.rw_copyclerk_k22_what_may_be_done) rfl rfl (fun w h Y => Y) ?F)
  case F =>
    intro w mg fa h KX G hmg
    refine' K22.all_mk KX G hmg ?a1 ?l1 ?c1 ?k1 ?a2 ?l2 ?c2 ?k2 ?a3 ?l3 ?c3 ?k3 ?a4 ?l4 ?c4 ?k4 ?a5 ?l5 ?c5 ?k5 ?a6 ?l6 ?c6 ?k6 ?a7 ?l7 ?c7 ?k7 ?a8 ?l8 ?c8 ?k8 ?a9 ?l9 ?c9 ?k9 ?a10 ?l10 ?c10 ?k10 ?a11 ?l11 ?c11 ?k11 ?a12 ?l12 ?c12 ?k12 ?a13 ?l13 ?c13 ?k13 ?a14 ?l14 ?c14 ?k14 ?a15 ?l15 ?c15 ?k15 ?a16 ?l16 ?c16 ?k16 ?a17 ?l17 ?c17 ?k17 ?a18 ?l18 ?c18 ?k18 ?a19 ?l19 ?c19 ?k19 ?a20 ?l20 ?c20 ?k20 ?a21 ?l21 ?c21 ?k21 ?a22 ?i22 ?l22 ?c22 ?k22 ?a23 ?i23 ?l23 ?c23 ?k23 ?a24 ?i24 ?l24 ?c24 ?k24 ?a25 ?i25 ?l25 ?c25 ?k25 ?x_OpenLine ?pg_OpenLine ?hd_OpenLine ?po_OpenLine ?sa_OpenLine ?mk_OpenLine ?kc_OpenLine ?n_OpenLine_state ?n_OpenLine_value ?n_OpenLine_want ?n_OpenLine_to ?n_OpenLine_back ?n_OpenLine_flags ?x_Hall ?pg_Hall ?hd_Hall ?po_Hall ?sa_Hall ?mk_Hall ?kc_Hall ?n_Hall_state ?n_Hall_store ?n_Hall_last ?n_Hall_lines ?n_Hall_answer ?n_Hall_broken ?y1 ?x0 ?x1 ?y2 ?y3 ?x2 ?w10 ?w13 ?z1 ?z2 ?z3 ?z4 ?z5 ?z6 ?z7 ?z8 ?z9 ?z10 ?z11 ?z12 ?z13 ?z14 ?z15
    (case x_OpenLine => k_is)
    (case x_Hall => k_is)
    (case a1 => k_is)
    (case l1 => k_is)
    (case c1 => k_is)
    (case k1 => k_is)
    (case a2 => k_is)
    (case l2 => k_is)
    (case c2 => k_is)
    (case k2 => k_is)
    (case a3 => k_is)
    (case l3 => k_is)
    (case c3 => k_is)
    (case k3 => k_is)
    (case a4 => k_is)
    (case l4 => k_is)
    (case c4 => k_is)
    (case k4 => k_is)
    (case a5 => k_is)
    (case l5 => k_is)
    (case c5 => k_is)
    (case k5 => k_is)
    (case a6 => k_is)
    (case l6 => k_is)
    (case c6 => k_is)
    (case k6 => k_is)
    (case a7 => k_is)
    (case l7 => k_is)
    (case c7 => k_is)
    (case k7 => k_is)
    (case a8 => k_is)
    (case l8 => k_is)
    (case c8 => k_is)
    (case k8 => k_is)
    (case a9 => k_is)
    (case l9 => k_is)
    (case c9 => k_is)
    (case k9 => k_is)
    (case a10 => k_is)
    (case l10 => k_is)
    (case c10 => k_is)
    (case k10 => k_is)
    (case a11 => k_is)
    (case l11 => k_is)
    (case c11 => k_is)
    (case k11 => k_is)
    (case a12 => k_is)
    (case l12 => k_is)
    (case c12 => k_is)
    (case k12 => k_is)
    (case a13 => k_is)
    (case l13 => k_is)
    (case c13 => k_is)
    (case k13 => k_is)
    (case a14 => k_is)
    (case l14 => k_is)
    (case c14 => k_is)
    (case k14 => k_is)
    (case a15 => k_is)
    (case l15 => k_is)
    (case c15 => k_is)
    (case k15 => k_is)
    (case a16 => k_is)
    (case l16 => k_is)
    (case c16 => k_is)
    (case k16 => k_is)
    (case a17 => k_is)
    (case l17 => k_is)
    (case c17 => k_is)
    (case k17 => k_is)
    (case a18 => k_is)
    (case l18 => k_is)
    (case c18 => k_is)
    (case k18 => k_is)
    (case a19 => k_is)
    (case l19 => k_is)
    (case c19 => k_is)
    (case k19 => k_is)
    (case a20 => k_is)
    (case l20 => k_is)
    (case c20 => k_is)
    (case k20 => k_is)
    (case a21 => k_is)
    (case l21 => k_is)
    (case c21 => k_is)
    (case k21 => k_is)
    (case a22 => k_is)
    (case i22 => k_is)
    (case l22 => k_is)
    (case c22 => k_is)
    (case k22 => k_is)
    (case a23 => k_is)
    (case i23 => k_is)
    (case l23 => k_is)
    (case c23 => k_is)
    (case k23 => k_is)
    (case a24 => k_is)
    (case i24 => k_is)
    (case l24 => k_is)
    (case c24 => k_is)
    (case k24 => k_is)
    (case a25 => k_is)
    (case i25 => k_is)
    (case l25 => k_is)
    (case c25 => k_is)
    (case k25 => k_is)
    (case pg_OpenLine => k_is)
    (case hd_OpenLine => k_is)
    (case po_OpenLine => k_is)
    (case sa_OpenLine => k_is)
    (case mk_OpenLine => k_is)
    (case kc_OpenLine => k_is)
    (case n_OpenLine_state => k_is)
    (case n_OpenLine_value => k_is)
    (case n_OpenLine_want => k_is)
    (case n_OpenLine_to => k_is)
    (case n_OpenLine_back => k_is)
    (case n_OpenLine_flags => k_is)
    (case pg_Hall => k_is)
    (case hd_Hall => k_is)
    (case po_Hall => k_is)
    (case sa_Hall => k_is)
    (case mk_Hall => k_is)
    (case kc_Hall => k_is)
    (case n_Hall_state => k_is)
    (case n_Hall_store => k_is)
    (case n_Hall_last => k_is)
    (case n_Hall_lines => k_is)
    (case n_Hall_answer => k_is)
    (case n_Hall_broken => k_is)
    (case x0 => k_is)
    (case y1 => k_is)
    (case x1 => k_is)
    (case x2 => k_is)
    (case y3 => k_is)
    (case y2 => k_is)
    (case w10 => k_is)
    (case w13 => k_is)
    (case z1 => k_is)
    (case z2 => k_is)
    (case z3 => k_is)
    (case z4 => k_is)
    (case z5 => k_is)
    (case z6 => k_is)
    (case z7 => k_is)
    (case z8 => k_is)
    (case z9 => k_is)
    (case z10 => k_is)
    (case z11 => k_is)
    (case z12 => k_is)
    (case z13 => k_is)
    (case z14 => k_is)
    (case z15 => k_is)

