import PyProof.Rows.All
import Wide.All
import OpenK.AllK
import Wide.FinOn
import Lean
import PyProof.EqAt
import PyProof.EqKinds
import PyProof.TupleCall
import PySem.Challenge.RW_leasttariff_k02_whole_alone
import PyProof.Rows.SortRunsK
import KE.KSortTup
import KE.KSortKey
import KE.KLam
set_option Elab.async false
set_option linter.all false
set_option maxRecDepth 100000
/-! THE HAND LAYER, for ints, bools, texts, own classes, LISTS and tuples (index, slices, in, append, pop ..), calls, loops. Paste it whole ahead of your own text; what your proof does not reach may be deleted. -/
namespace L2
open PySem PySem.Spec PyProof.Rows

/-- a key: an int or a str -/
abbrev Key := Sum Int Str
def keyIs : Key → Value → Bool
  | .inl k, v => Value.isInt k v
  | .inr x, v => Value.isStrOf x v
def keyH (w : World) : Key → Int
  | .inl k => hashInt k
  | .inr x => hashStr w x
theorem keyIs_shape : ∀ {k : Key} {v : Value}, keyIs k v = true → (∃ i t, k = Sum.inl i ∧ v = Value.int i t) ∨ (∃ x t, k = Sum.inr x ∧ v = Value.str x t)
  | .inl i, v, h => by
    obtain ⟨t, e⟩ := Value.isInt_shape (k := i) (v := v) h
    exact .inl ⟨i, t, rfl, e⟩
  | .inr x, v, h => by
    obtain ⟨t, e⟩ := Value.isStrOf_shape (x := x) (v := v) h
    exact .inr ⟨x, t, rfl, e⟩
theorem key_ll (a b : Int) : decide ((Sum.inl a : Key) = Sum.inl b) = (a == b) := by
  by_cases e : a = b
  · subst e; simp
  · have h : ¬ (Sum.inl a : Key) = Sum.inl b := fun q => e (Sum.inl.inj q)
    rw [decide_eq_false h]
    exact (beq_eq_false_iff_ne.mpr e).symm
theorem key_rr (a b : Str) : decide ((Sum.inr a : Key) = Sum.inr b) = decide (a = b) := by
  by_cases e : a = b
  · subst e; simp
  · have h : ¬ (Sum.inr a : Key) = Sum.inr b := fun q => e (Sum.inr.inj q)
    rw [decide_eq_false h, decide_eq_false e]
theorem key_lr (a : Int) (b : Str) : decide ((Sum.inl a : Key) = Sum.inr b) = false := decide_eq_false (fun q => nomatch q)
theorem key_rl (a : Str) (b : Int) : decide ((Sum.inr a : Key) = Sum.inl b) = false := decide_eq_false (fun q => nomatch q)

def mixKind (prog : Program) (w : World) : PySem.KeyKind prog w Key where
  is := keyIs
  hash := keyH w
  inj := fun v a b ha hb => by
    rcases keyIs_shape ha with ⟨i, t, rfl, rfl⟩ | ⟨x, t, rfl, rfl⟩
    · rcases keyIs_shape hb with ⟨j, u, rfl, e⟩ | ⟨y, u, rfl, e⟩
      · injection e with e1 _; rw [e1]
      · exact nomatch e
    · rcases keyIs_shape hb with ⟨j, u, rfl, e⟩ | ⟨y, u, rfl, e⟩
      · exact nomatch e
      · injection e with e1 _; rw [e1]
  byValue := fun k v h => by
    rcases keyIs_shape h with ⟨i, t, rfl, rfl⟩ | ⟨x, t, rfl, rfl⟩ <;> rfl
  pyHash := fun hv h => by
    rcases keyIs_shape hv with ⟨i, t, rfl, rfl⟩ | ⟨x, t, rfl, rfl⟩
    · exact wpAny_pyHash_int h
    · exact wpAny_pyHash_str h
  eqBool := fun hu hv h => by
    rcases keyIs_shape hu with ⟨i, t, rfl, rfl⟩ | ⟨x, t, rfl, rfl⟩
    · rcases keyIs_shape hv with ⟨j, u, rfl, rfl⟩ | ⟨y, u, rfl, rfl⟩
      · rw [key_ll] at h; exact wpAny_eqBool_int h
      · rw [key_lr] at h; exact SeqAt.EqAt.int_str i t y u _ _ _ _ h
    · rcases keyIs_shape hv with ⟨j, u, rfl, rfl⟩ | ⟨y, u, rfl, rfl⟩
      · rw [key_rl] at h; exact SeqAt.EqAt.str_int x t j u _ _ _ _ h
      · rw [key_rr] at h; exact wpAny_eqBool_str h
  «strs» := fun k x t v h => by
    rcases keyIs_shape h with ⟨i, u, rfl, e⟩ | ⟨y, u, rfl, e⟩
    · exact nomatch e
    · injection e with e1 _
      subst e1
      cases v <;> rfl

end L2

namespace L2
open PySem PySem.Spec PyProof.Rows

/-- a value, without the heap -/
inductive V where
  | non | bl (b : Bool) | int (i : Int) | str (x : Str) | byt (b : Array UInt8) | flt (b : UInt64) | ref (a : Addr) | ty (n : String)
  deriving DecidableEq

def RelV : V → Value → Prop
  | .non, u => u = Value.none
  | .bl b, u => u = Value.bool b
  | .int i, u => ∃ t, u = Value.int i t
  | .str x, u => ∃ t, u = Value.str x t
  | .byt b, u => ∃ t, u = Value.bytes b t
  | .flt b, u => ∃ t, u = Value.float b t
  | .ref a, u => u = Value.ref a
  | .ty n, u => u = Value.type n

abbrev Vals : List V → List Value → Prop := Paired RelV
theorem Vals.length {xs : List V} {us : List Value} (r : Vals xs us) : xs.length = us.length := Paired.length r
theorem Vals.get : ∀ {xs : List V} {us : List Value} {i : Nat} {x : V}, Vals xs us → xs[i]? = some x → ∃ u, us[i]? = some u ∧ RelV x u
  | _, _, _, _, .nil, e => by simp at e
  | _, _, 0, _, .cons r _, e => by simp at e; subst e; exact ⟨_, rfl, r⟩
  | _, _, i + 1, x, .cons _ t, e => by
    obtain ⟨u, h1, h2⟩ := Vals.get (i := i) (x := x) t (by simpa using e)
    exact ⟨u, by simpa using h1, h2⟩
theorem Vals.append : ∀ {xs ys : List V} {us ws : List Value}, Vals xs us → Vals ys ws → Vals (xs ++ ys) (us ++ ws)
  | _, _, _, _, .nil, s => s
  | _, _, _, _, .cons r t, s => .cons r (Vals.append t s)
theorem Vals.take : ∀ {xs : List V} {us : List Value} (n : Nat), Vals xs us → Vals (xs.take n) (us.take n)
  | _, _, 0, _ => .nil
  | _, _, _ + 1, .nil => .nil
  | _, _, n + 1, .cons r t => .cons r (Vals.take n t)
theorem Vals.drop : ∀ {xs : List V} {us : List Value} (n : Nat), Vals xs us → Vals (xs.drop n) (us.drop n)
  | _, _, 0, r => r
  | _, _, _ + 1, .nil => .nil
  | _, _, n + 1, .cons _ t => Vals.drop n t
theorem Vals.none_of : ∀ {xs : List V} {us : List Value} {i : Nat}, Vals xs us → xs[i]? = none → us[i]? = none := fun {xs us i} r e => by
  have h1 := r.length
  have h2 : xs.length ≤ i := List.getElem?_eq_none_iff.mp e
  exact List.getElem?_eq_none_iff.mpr (by omega)

def RelO : Option V → Option Value → Prop
  | some v, some u => RelV v u
  | none, none => True
  | _, _ => False
def KV {κ : Type} : List (κ × V) → List (κ × Value) → Prop := Paired fun (p : κ × V) (q : κ × Value) => p.1 = q.1 ∧ RelV p.2 q.2

/-- a key of a dict (00_mix): an int or a text -/
def kV : Key → V
  | .inl i => .int i
  | .inr x => .str x

/-- what stands at a tracked address -/
inductive HO where
  /-- a list -/
  | lst (xs : List V)
  /-- a tuple (never changes) -/
  | tup (xs : List V)
  /-- a dict whose keys are ints and texts; one whose keys are tuples of ints and texts (the empty one is both) -/
  | dK (kvs : List (Key × V)) | dT (kvs : List (List Key × V))
  /-- a set of ints: its members, its size -/
  | set (S : Int → Bool) (n : Nat)
  /-- an instance of the class at C, its dict at dx, its attributes -/
  | ins (C dx : Addr) (fs : List (Str × V))
  /-- the dict of the instance at x -/
  | own (x : Addr)
  /-- the dict of an exception -/
  | xd (fs : List (Str × V))
  /-- a bound method, f of x -/
  | met (f x : Addr)
  /-- a range object lo, lo + 1, .. below hi -/
  | rng (lo hi : Int)
  /-- a thing that is known to the object (the script; a dict while a loop walks it): read, never written while it is so -/
  | frz (o : Obj) (u : HO)
  /-- a code object's table -/
  | tbl (ps : Array Value)
  /-- any other thing, by what is true of its one object (a def of one's own: SetO a S n := HO.ext fun h => ..) -/
  | ext (φ : Heap → Prop)

abbrev Hp := Addr → Option HO
def upd (H : Hp) (a : Addr) (o : HO) : Hp := fun b => if b = a then some o else H b
theorem upd_same {H : Hp} {a : Addr} {o : HO} : upd H a o a = some o := by unfold upd; rw [if_pos rfl]
theorem upd_ne {H : Hp} {a b : Addr} {o : HO} (h : b ≠ a) : upd H a o b = H b := by unfold upd; rw [if_neg h]
theorem upd_upd {H : Hp} {a : Addr} {o u : HO} : upd (upd H a o) a u = upd H a u := by
  funext b; unfold upd; split <;> rfl
/-- two objects of different content stand apart -/
theorem ne_of {H : Hp} {a b : Addr} {o u : HO} (h : H a = some o) (h' : H b = some u) (d : o ≠ u) : a ≠ b := by
  intro e; subst e; rw [h] at h'; exact d (Option.some.inj h')
theorem ne_of_none {H : Hp} {a b : Addr} {o : HO} (h : H a = some o) (h' : H b = none) : a ≠ b := by
  intro e; subst e; rw [h] at h'; cases h'

section
variable (P : Program) (w : World)
def ObjOk (H : Hp) (h : Heap) (a : Addr) : HO → Prop
  | .lst xs => xs.length ≤ sizeLine ∧ ∃ (its : List Value) (n : Nat), Vals xs its ∧ h.get? a = some { cls := .type "list", data := .seq its.toArray n }
  | .tup xs => xs.length ≤ sizeLine ∧ ∃ its : List Value, Vals xs its ∧ IsTup h a its.toArray
  | .dK kvs => kvs.length ≤ sizeLine ∧ (a == sysModules) = false ∧ ∃ vs, KV kvs vs ∧ h.DictOf (mixKind P w) a vs
  | .dT kvs => kvs.length ≤ sizeLine ∧ (a == sysModules) = false ∧ ∃ xs : List (List Key × Addr × Value),
      Paired (fun (p : List Key × V) (q : List Key × Addr × Value) => p.1 = q.1 ∧ H q.2.1 = some (.tup (p.1.map kV)) ∧ RelV p.2 q.2.2) kvs xs ∧
      ∃ o es ep, h.get? a = some o ∧ o.ExactDict ∧ o.data = .dict es ep ∧ es.toList = xs.map (entryOfKey (tupleKind (mixKind P w))) ∧ (xs.map (·.1)).Nodup
  | .set S n => h.SetOf (intKind P w) a S n
  | .ins C dx fs => H dx = some (.own a) ∧ fs.length ≤ 1000 ∧ dx ≠ a ∧ h.get? a = some (PySem.W.instObj C dx) ∧
      ∃ mA, h.Ns1 dx mA ∧ (∀ f, RelO (fs.lookup f) (mA f)) ∧ PySem.Within mA (fs.map (·.1))
  | .own _ => ∃ o, h.get? a = some o
  | .xd fs => ∃ mA, h.Ns1 a mA ∧ ∀ f, RelO (fs.lookup f) (mA f)
  | .rng lo hi => ∃ t u v, h.get? a = some { cls := .type "range", data := .fields #[.int lo t, .int hi u, .int 1 v] }
  | .frz o u => h.get? a = some o ∧ ObjOk H h a u
  | .tbl ps => h.get? a = some { cls := .none, data := .fields ps }
  | .met f x => h.get? a = some (PySem.W.methodObj (.ref f) (.ref x))
  | .ext φ => φ h ∧ (∃ o, h.get? a = some o) ∧ ∀ h1 h2 : Heap, φ h1 → (∀ o, h1.get? a = some o → h2.get? a = some o) → φ h2
/-- the abstract heap is held -/
def HOk (H : Hp) (h : Heap) : Prop := ∀ a o, H a = some o → ObjOk P w H h a o
end

section
variable {P : Program} {w : World} {H H' : Hp} {h h' : Heap} {a : Addr} {o : HO}
theorem ObjOk.lt (x : ObjOk P w H h a o) : a < h.objs.size := by
  cases o with
  | lst xs => obtain ⟨_, _, _, _, e⟩ := x; exact Heap.lt_size e
  | tup xs => obtain ⟨_, _, _, p⟩ := x; exact p.lt
  | dK kvs => obtain ⟨_, _, _, _, o, _, _, e, _⟩ := x; exact Heap.lt_size e
  | dT kvs => obtain ⟨_, _, _, _, o, _, _, e, _⟩ := x; exact Heap.lt_size e
  | set S n => obtain ⟨o, _, _, _, e, _⟩ := x; exact Heap.lt_size e
  | ins C dx fs => obtain ⟨_, _, _, e, _⟩ := x; exact Heap.lt_size e
  | own y => obtain ⟨_, e⟩ := x; exact Heap.lt_size e
  | xd fs => obtain ⟨_, ⟨_, _, _, e, _⟩, _⟩ := x; exact Heap.lt_size e
  | rng lo hi => obtain ⟨_, _, _, e⟩ := x; exact Heap.lt_size e
  | frz ob u => obtain ⟨e, _⟩ := x; exact Heap.lt_size e
  | tbl ps => exact Heap.lt_size (show h.get? a = some _ from x)
  | met f y => exact Heap.lt_size (show h.get? a = some _ from x)
  | ext φ => obtain ⟨_, ⟨_, e⟩, _⟩ := x; exact Heap.lt_size e
theorem Paired.mapP {α β : Type} {F G : α → β → Prop} : ∀ {l₁ : List α} {l₂ : List β}, Paired F l₁ l₂ → (∀ a b, F a b → G a b) → Paired G l₁ l₂
  | _, _, .nil, _ => .nil
  | _, _, .cons r t, f => .cons (f _ _ r) (Paired.mapP t f)
theorem Paired.imp' {α β : Type} {F G : α → β → Prop} (f : ∀ a b, F a b → G a b) {l₁ : List α} {l₂ : List β} (r : Paired F l₁ l₂) : Paired G l₁ l₂ := Paired.mapP r f
/-- what an object's description leans on: its own object, its own dict, the tuples -/
theorem ObjOk.stay (x : ObjOk P w H h a o) (k : ∀ b u, (b = a ∨ H b = some (.own a)) → h.get? b = some u → h'.get? b = some u)
    (ho : ∀ b, H b = some (.own a) → H' b = some (.own a)) (ht : ∀ b xs, H b = some (.tup xs) → H' b = some (.tup xs)) : ObjOk P w H' h' a o := by
  induction o with
  | lst xs => obtain ⟨z, its, n, r, e⟩ := x; exact ⟨z, its, n, r, k _ _ (.inl rfl) e⟩
  | tup xs => obtain ⟨z, its, r, ob, e, c⟩ := x; exact ⟨z, its, r, ob, k _ _ (.inl rfl) e, c⟩
  | dK kvs => obtain ⟨z, y, vs, r, ob, es, ep, e, c⟩ := x; exact ⟨z, y, vs, r, ob, es, ep, k _ _ (.inl rfl) e, c⟩
  | dT kvs =>
    obtain ⟨z, y, xs, r, ob, es, ep, e, c⟩ := x
    exact ⟨z, y, xs, Paired.mapP r fun p q z => ⟨z.1, ht _ _ z.2.1, z.2.2⟩, ob, es, ep, k _ _ (.inl rfl) e, c⟩
  | set S n => obtain ⟨ob, es, ep, t, e, c⟩ := x; exact ⟨ob, es, ep, t, k _ _ (.inl rfl) e, c⟩
  | ins C dx fs =>
    obtain ⟨d, z, ne, e, mA, ⟨od, es, ep, e2, c⟩, r⟩ := x
    exact ⟨ho _ d, z, ne, k _ _ (.inl rfl) e, mA, ⟨od, es, ep, k _ _ (.inr d) e2, c⟩, r⟩
  | own y => obtain ⟨ob, e⟩ := x; exact ⟨ob, k _ _ (.inl rfl) e⟩
  | xd fs => obtain ⟨mA, ⟨od, es, ep, e, c⟩, r⟩ := x; exact ⟨mA, ⟨od, es, ep, k _ _ (.inl rfl) e, c⟩, r⟩
  | rng lo hi => obtain ⟨t, u, v, e⟩ := x; exact ⟨t, u, v, k _ _ (.inl rfl) e⟩
  | frz ob u ih => obtain ⟨e, q⟩ := x; exact ⟨k _ _ (.inl rfl) e, ih q⟩
  | tbl ps =>
    have e : h.get? a = some { cls := .none, data := .fields ps } := x
    show h'.get? a = some { cls := .none, data := .fields ps }
    exact k a _ (.inl rfl) e
  | met f y =>
    have e : h.get? a = some (PySem.W.methodObj (.ref f) (.ref y)) := x
    show h'.get? a = some (PySem.W.methodObj (.ref f) (.ref y))
    exact k a _ (.inl rfl) e
  | ext φ => obtain ⟨p, ⟨o, e⟩, st⟩ := x; exact ⟨st _ _ p fun o q => k _ _ (.inl rfl) q, ⟨o, k _ _ (.inl rfl) e⟩, st⟩
theorem HOk.lt (x : HOk P w H h) (e : H a = some o) : a < h.objs.size := (x a o e).lt
theorem HOk.fresh (x : HOk P w H h) (e : h.objs.size ≤ a) : H a = none := by
  cases q : H a with
  | none => rfl
  | some u => exact absurd (Nat.lt_of_lt_of_le (x.lt q) e) (Nat.lt_irrefl _)
/-- every object of the heap is kept -/
theorem HOk.kept (x : HOk P w H h) (k : ∀ b u, h.get? b = some u → h'.get? b = some u) : HOk P w H h' := fun a o e =>
  (x a o e).stay (fun b u _ q => k b u q) (fun _ q => q) fun _ _ q => q
/-- a new object is laid and tracked -/
theorem HOk.laid (x : HOk P w H h) (k : ∀ b u, h.get? b = some u → h'.get? b = some u) (hp : h.objs.size ≤ a) (new : ObjOk P w (upd H a o) h' a o) : HOk P w (upd H a o) h' := fun b u e => by
  have hn := x.fresh hp
  by_cases hb : b = a
  · subst hb; rw [upd_same] at e; cases e; exact new
  · rw [upd_ne hb] at e
    exact (x b u e).stay (fun c v _ q => k c v q) (fun c q => by rw [upd_ne (ne_of_none q hn)]; exact q) fun c xs q => by rw [upd_ne (ne_of_none q hn)]; exact q
end

/-- what may be read as u: it is u, or a known u -/
def Rd (H : Hp) (a : Addr) (u : HO) : Prop := H a = some u ∨ ∃ o, H a = some (.frz o u)
theorem Rd.ok {P : Program} {w : World} {H : Hp} {h : Heap} {a : Addr} {u : HO} (r : Rd H a u) (x : HOk P w H h) : ObjOk P w H h a u := by
  rcases r with r | ⟨o, r⟩
  · exact x a u r
  · obtain ⟨_, q⟩ := x a _ r
    exact q
/-- what may be written -/
def Mut : Option HO → Prop
  | some (.lst _) => True
  | some (.dK _) => True
  | some (.dT _) => True
  | some (.set _ _) => True
  | some (.ins _ _ _) => True
  | some (.ext _) => True
  | _ => False
section
variable {P : Program} {w : World} {H : Hp} {h h' : Heap} {x e : Addr} {o' : HO}
/-- the object at e is changed: x itself, or the dict of the instance x -/
theorem HOk.write (ok : HOk P w H h) (mu : Mut (H x)) (he : e = x ∨ H e = some (.own x)) (k : ∀ b u, b ≠ e → h.get? b = some u → h'.get? b = some u) (heo : ∃ u, h'.get? e = some u)
    (new : ObjOk P w (upd H x o') h' x o') : HOk P w (upd H x o') h' := fun b u q => by
  have nown : ∀ c y, H c = some (.own y) → c ≠ x := fun c y r z => by subst z; rw [r] at mu; exact mu
  have ntup : ∀ c xs, H c = some (.tup xs) → c ≠ x := fun c xs r z => by subst z; rw [r] at mu; exact mu
  by_cases hb : b = x
  · subst hb; rw [upd_same] at q; cases q; exact new
  · rw [upd_ne hb] at q
    by_cases hbe : b = e
    · have q' : H b = some (.own x) := by
        rcases he with z | z
        · exact absurd (hbe.trans z) hb
        · rw [hbe]; exact z
      rw [q] at q'; cases q'
      obtain ⟨v, hv⟩ := heo
      exact ⟨v, by rw [hbe]; exact hv⟩
    · refine (ok b u q).stay (fun c v hc r => k c v ?_ r) (fun c r => by rw [upd_ne (nown c b r)]; exact r) fun c xs r => by rw [upd_ne (ntup c xs r)]; exact r
      rcases hc with rfl | hc
      · exact hbe
      · rintro rfl
        rcases he with z | z
        · exact nown c b hc z
        · rw [hc] at z; cases z; exact hb rfl
end

/-! ### kept unless tracked; of the frames at fs (the callers') the slots may change (an exception that passes writes there); of the records at ex (iterators) nothing is said -/
structure Un (fs ex : List Addr) (H H' : Hp) (h h' : Heap) : Prop where
  keep : ∀ b o, h.get? b = some o → H b = none → b ∉ fs → b ∉ ex → h'.get? b = some o
  slot : ∀ b o, h.get? b = some o → H b = none → b ∈ fs → b ∉ ex → ∃ sl, h'.get? b = some { o with slots := sl }
  free : ∀ b o, h.get? b = some o → H b = none → b ∉ ex → H' b = none
  there : ∀ b o, h.get? b = some o → b ∉ ex → ∃ o', h'.get? b = some o'
  tups : ∀ b xs, H b = some (.tup xs) → H' b = some (.tup xs)
  frzs : ∀ b o u, H b = some (.frz o u) → H' b = some (.frz o u)
  tbls : ∀ b ps, H b = some (.tbl ps) → ∃ more, H' b = some (.tbl (ps ++ more))
section
variable {fs fs' ex ex' : List Addr} {H H1 H2 : Hp} {h h1 h2 h' : Heap} {a x e : Addr} {o : HO}
theorem Un.any (u : Un fs ex H H1 h h1) {b : Addr} {ob : Obj} (q : h.get? b = some ob) (n : H b = none) (hx : b ∉ ex) : ∃ sl, h1.get? b = some { ob with slots := sl } := by
  by_cases hb : b ∈ fs
  · exact u.slot b ob q n hb hx
  · exact ⟨ob.slots, u.keep b ob q n hb hx⟩
theorem Un.kept (k : ∀ b u, h.get? b = some u → h'.get? b = some u) : Un fs ex H H h h' :=
  ⟨fun b ob q _ _ _ => k b ob q, fun b ob q _ _ _ => ⟨ob.slots, k b ob q⟩, fun _ _ _ n _ => n, fun b ob q _ => ⟨ob, k b ob q⟩, fun _ _ q => q, fun _ _ _ q => q, fun _ ps q => ⟨#[], by rw [q]; simp⟩⟩
theorem Un.refl : Un fs ex H H h h := Un.kept fun _ _ q => q
theorem Un.laid (k : ∀ b u, h.get? b = some u → h'.get? b = some u) (hp : h.objs.size ≤ a) (hn : H a = none) : Un fs ex H (upd H a o) h h' where
  keep := fun b u q _ _ _ => k b u q
  slot := fun b u q _ _ _ => ⟨u.slots, k b u q⟩
  free := fun b u q n _ => by rw [upd_ne (Nat.ne_of_lt (Nat.lt_of_lt_of_le (Heap.lt_size q) hp))]; exact n
  there := fun b u q _ => ⟨u, k b u q⟩
  tups := fun b xs q => by rw [upd_ne (ne_of_none q hn)]; exact q
  frzs := fun b u xs q => by rw [upd_ne (ne_of_none q hn)]; exact q
  tbls := fun b ps q => ⟨#[], by rw [upd_ne (ne_of_none q hn), q]; simp⟩
theorem Un.write (mu : Mut (H x)) (he : e = x ∨ H e = some (.own x)) (k : ∀ b u, b ≠ e → h.get? b = some u → h'.get? b = some u) (heo : ∃ u, h'.get? e = some u) : Un fs ex H (upd H x o) h h' := by
  have hx : ∀ b, H b = none → b ≠ x := fun b n z => by subst z; rw [n] at mu; exact mu
  have hb : ∀ b, H b = none → b ≠ e := fun b n z => by
    subst z
    rcases he with r | r
    · exact hx b n r
    · rw [n] at r; cases r
  have hm : ∀ b u, H b = some u → ¬ Mut (some u) → b ≠ x := fun b u q nm z => by subst z; rw [q] at mu; exact nm mu
  refine ⟨fun b u q n _ _ => k b u (hb b n) q, fun b u q n _ _ => ⟨u.slots, k b u (hb b n) q⟩, fun b u q n _ => by rw [upd_ne (hx b n)]; exact n, fun b u q _ => ?_,
    fun b xs q => by rw [upd_ne (hm b _ q fun z => z)]; exact q, fun b u xs q => by rw [upd_ne (hm b _ q fun z => z)]; exact q, fun b ps q => ⟨#[], by rw [upd_ne (hm b _ q fun z => z), q]; simp⟩⟩
  by_cases hbe : b = e
  · subst hbe; exact heo
  · exact ⟨u, k b u hbe q⟩
end

/-! ### the heap without what is tracked -/
def trk (h : Heap) (H : Hp) : List Addr := (List.range h.objs.size).filter fun a => (H a).isSome
def hidT (h : Heap) (H : Hp) : Heap := PySem.W.hideAll h (trk h H)
theorem hidT_size (h : Heap) (H : Hp) : (hidT h H).objs.size = h.objs.size := PySem.W.hideAll_size _ _
theorem hidT_get {h : Heap} {H : Hp} {b : Addr} {o : Obj} (e : h.get? b = some o) (n : H b = none) : (hidT h H).get? b = some o :=
  PySem.W.hideAll_get _ e fun hm => by
    have q : (H b).isSome = true := (List.mem_filter.mp hm).2
    rw [n] at q; simp at q
theorem of_hidT {h : Heap} {H : Hp} {b : Addr} {o : Obj} (e : (hidT h H).get? b = some o) : h.get? b = some o ∧ H b = none := by
  have e' : h.get? b = some o := PySem.W.of_hideAll (trk h H) e
  refine ⟨e', ?_⟩
  cases q : H b with
  | none => rfl
  | some x =>
    have hm : b ∈ trk h H := List.mem_filter.mpr ⟨List.mem_range.mpr (Heap.lt_size e'), by simp [q]⟩
    have z : (hidT h H).get? b = none := PySem.W.hideAll_none (trk h H) hm
    rw [z] at e; cases e

/-! ### OpenK's ledger, filled with every new object but one -/
end L2

namespace L2
open PySem PySem.Spec PyProof.Rows

/-- the module's facts, over the base: the heap at the law's entry without what is tracked there -/
structure Mod (K : PySem.W.Frag) (mg : Str → Option Value) (base : Heap) : Prop where
  kin : K.In base
  glob : base.Ns mainGlobals mg
  blt : ∃ mb, base.Ns builtinsNs mb ∧ ∀ x : Str, x ≠ "__name__" → mb x = bootBuiltins x
  nolimit : base.NoLimit

/-- the context: a def's body (or a comprehension's block) running. base: fixed through the whole law; s₀, H₀: the entry; outer: the frames whose slots others may change (a def's callers); stack: all frames that run;
   ex: iterators that were made ahead of the entry and are walked here (a comprehension's); fn: the names whose cells were made at the entry (a def: all; a comprehension's block: its own); calm: not within an except suite; pn: pins that every state bears; xe: what is wanted of an exception that leaves the code -/
structure Cx where
  prog : Program
  w : World
  K : PySem.W.Frag
  mg : Str → Option Value
  base : Heap
  A : Around
  N : List Str
  s₀ : Shared
  H₀ : Hp
  env : Env
  outer : List Env
  stack : List Env
  ex : List Addr
  fn : Str → Bool
  calm : Bool
  pn : List (Addr × Obj)
  xe : Value → Shared → Prop
/-- the callers' frames -/
def frs (l : List Env) : List Addr := l.filterMap (·.frame)
abbrev Cx.fs (X : Cx) : List Addr := frs X.outer

def Vis (sc : Scope) (x : Str) : Prop := sc.names.lookup x = some .local ∨ sc.names.lookup x = some .cell ∨ sc.names.lookup x = some .free
def Loc (sc : Scope) (x : Str) : Prop := sc.names.lookup x = some .local ∨ sc.names.lookup x = some .cell
def Look (env : Env) (h : Heap) (m : Str → Option Value) (x : Str) (u : Value) : Prop :=
  (env.kindOf x = some .local ∧ m x = some u) ∨ ((env.kindOf x = some .cell ∨ env.kindOf x = some .free) ∧ ∃ c, env.cells.lookup x = some c ∧ h.IsCell c (some u))

structure Cx.Ok (X : Cx) : Prop where
  mod : Mod X.K X.mg X.base
  kind : X.env.scope.kind = .function
  glob : X.env.globals = mainGlobals
  blt : X.env.builtins = builtinsNs
  above : X.s₀.heap.objs.size ≤ X.env.locals
  inj : ∀ x y c, X.env.cells.lookup x = some c → X.env.cells.lookup y = some c → x = y
  has : ∀ x, (X.env.kindOf x = some .cell ∨ X.env.kindOf x = some .free) → ∃ c, X.env.cells.lookup x = some c
  cab : ∀ x c, X.fn x = true → X.env.cells.lookup x = some c → X.s₀.heap.objs.size ≤ c
  hd : X.calm = true → X.A.handled = none
  frames : X.A.frames = some X.stack
  stk : X.stack = X.outer ∨ (X.stack = X.env :: X.outer ∧ X.env.frame = some X.env.locals)
  exf : ∀ b ∈ X.ex, b ≠ X.env.locals ∧ ∀ x c, X.env.cells.lookup x = some c → c ≠ b
  bs : ∀ b o, X.base.get? b = some o → X.s₀.heap.get? b = some o ∧ X.H₀ b = none
  bsz : X.base.objs.size ≤ X.s₀.heap.objs.size
  noex : ∀ b o, X.base.get? b = some o → b ∉ X.ex
  exfs : ∀ b ∈ X.ex, b ∉ X.fs
  funs : X.s₀.heap.FunFrames X.base X.outer
  frf : ∀ b ∈ X.fs, X.H₀ b = none

structure Inv (X : Cx) (pins : List (Addr × Obj)) (σ : List (Option V)) (H : Hp) (s : Shared) : Prop where
  ok : X.Ok
  os : s.os = X.s₀.os
  bare : AllBare s.gens
  base : Un X.fs X.ex X.H₀ H X.s₀.heap s.heap
  loc : ∃ m, s.heap.Ns X.env.locals m ∧ ∀ (i : Nat) (x : Str) (v : V), X.N[i]? = some x → σ[i]? = some (some v) → Vis X.env.scope x → ∃ u, RelV v u ∧ Look X.env s.heap m x u
  cell : ∀ x c, X.env.cells.lookup x = some c → ∃ v, s.heap.IsCell c v
  free : H X.env.locals = none
  freeC : ∀ x c, X.env.cells.lookup x = some c → H c = none
  pin : ∀ p ∈ X.pn ++ pins, s.heap.get? p.1 = some p.2 ∧ H p.1 = none ∧ p.1 ≠ X.env.locals ∧ p.1 ∉ X.fs ∧ ∀ v, p.2.data ≠ .cell v
  hok : HOk X.prog X.w H s.heap
  len : σ.length = X.N.length

section
variable {X : Cx} {pins : List (Addr × Obj)} {σ : List (Option V)} {H H' : Hp} {s : Shared} {h' : Heap}

theorem Cx.Ok.nofr (ok : X.Ok) {b : Addr} {o : Obj} (e : X.base.get? b = some o) : b ∉ X.fs := fun hb => by
  have := (ok.funs.mem hb).1
  rw [e] at this; cases this
theorem Inv.bs (I : Inv X pins σ H s) : ∀ b o, X.base.get? b = some o → s.heap.get? b = some o ∧ H b = none := fun b o e =>
  ⟨I.base.keep b o (I.ok.bs b o e).1 (I.ok.bs b o e).2 (I.ok.nofr e) (I.ok.noex b o e), I.base.free b o (I.ok.bs b o e).1 (I.ok.bs b o e).2 (I.ok.noex b o e)⟩
theorem Inv.bk (I : Inv X pins σ H s) : ∀ b o, X.base.get? b = some o → s.heap.get? b = some o := fun b o e => (I.bs b o e).1
theorem Inv.mod (I : Inv X pins σ H s) : Mod X.K X.mg X.base := I.ok.mod
theorem Inv.kIn (I : Inv X pins σ H s) : X.K.In s.heap := I.ok.mod.kin.keeps I.bk
theorem Inv.nolimit (I : Inv X pins σ H s) : s.heap.NoLimit := I.ok.mod.nolimit.keeps I.bk
/-- the frame over the base: for OpenK's rules (K.In X.base is I.mod.kin) -/
theorem Inv.fr (I : Inv X pins σ H s) : ∃ m, Fr X.base X.env.locals s.heap m :=
  let ⟨m, hn, _⟩ := I.loc
  ⟨m, hn, I.bk, Nat.le_trans I.ok.bsz I.ok.above⟩
theorem Inv.lt (I : Inv X pins σ H s) : X.env.locals < s.heap.objs.size := let ⟨_, hn, _⟩ := I.loc; hn.lt
theorem Inv.sz (I : Inv X pins σ H s) : X.s₀.heap.objs.size ≤ s.heap.objs.size := Nat.le_trans I.ok.above (Nat.le_of_lt I.lt)
theorem Inv.nofs (I : Inv X pins σ H s) {a : Addr} (h : s.heap.objs.size ≤ a) : a ∉ X.fs := fun hb => by
  obtain ⟨_, o, ho, _⟩ := I.ok.funs.mem hb
  exact absurd (Nat.lt_of_lt_of_le (Heap.lt_size ho) (Nat.le_trans I.sz h)) (Nat.lt_irrefl _)
theorem Inv.cne (I : Inv X pins σ H s) : ∀ x c, X.env.cells.lookup x = some c → c ≠ X.env.locals := fun x c e z => by
  obtain ⟨v, o, ho, hd⟩ := I.cell x c e
  obtain ⟨m, ⟨o', es, ep, ho', hd', _⟩, _⟩ := I.loc
  rw [z, ho'] at ho; cases ho; rw [hd'] at hd; cases hd
theorem Inv.funs (I : Inv X pins σ H s) : s.heap.FunFrames X.base X.outer := by
  have all : ∀ (l : List Env), (∀ b ∈ frs l, b ∈ X.fs) → X.s₀.heap.FunFrames X.base l → s.heap.FunFrames X.base l := by
    intro l
    induction l with
    | nil => intro _ _; trivial
    | cons env r ih =>
      intro hs hl
      obtain ⟨hk, ⟨L, o, hf, hn, ho, hd⟩, hr⟩ := hl
      have hL : L ∈ X.fs := hs L (by unfold frs; rw [List.filterMap_cons, hf]; exact List.mem_cons_self)
      obtain ⟨sl, e⟩ := I.base.slot L o ho (I.ok.frf L hL) hL fun z => I.ok.exfs L z hL
      exact ⟨hk, ⟨L, _, hf, hn, e, hd⟩, ih (fun b hb => hs b (by unfold frs; rw [List.filterMap_cons, hf]; exact List.mem_cons_of_mem _ hb)) hr⟩
  exact all X.outer (fun _ hb => hb) I.ok.funs

/-- the frames that run, for a call -/
theorem Inv.stack (I : Inv X pins σ H s) : s.heap.FunFrames X.base X.stack := by
  rcases I.ok.stk with e | ⟨e, hf⟩
  · rw [e]; exact I.funs
  · rw [e]
    obtain ⟨m, hn, _⟩ := I.loc
    refine .cons (by rw [I.ok.kind]; decide) hf hn ?_ I.funs
    exact Heap.get?_none_of_le (Nat.le_trans I.ok.bsz I.ok.above)
theorem Inv.stkSub (I : Inv X pins σ H s) : ∀ b ∈ frs X.stack, b ∈ X.env.locals :: X.fs := fun b hb => by
  rcases I.ok.stk with e | ⟨e, hf⟩
  · rw [e] at hb; exact List.mem_cons_of_mem _ hb
  · rw [e] at hb
    unfold frs at hb
    rw [List.filterMap_cons, hf] at hb
    exact hb
theorem Inv.stkFree (I : Inv X pins σ H s) : ∀ b ∈ frs X.stack, H b = none := fun b hb => by
  rcases List.mem_cons.mp (I.stkSub b hb) with e | hb
  · rw [e]; exact I.free
  · obtain ⟨_, o, ho, _⟩ := I.ok.funs.mem hb
    exact I.base.free b o ho (I.ok.frf b hb) fun z => I.ok.exfs b z hb

/-- THE STEP: the untracked objects but the frame and the records at ch are kept (the callers' frames up to slots), the frame's map is kept, the new abstract heap is held -/
theorem Inv.step {g' : Array GenState} {t' : Nat} {d' : Drawn} {ch : List Addr} (I : Inv X pins σ H s)
    (hch : ∀ b ∈ ch, (b ∈ X.ex ∨ X.s₀.heap.objs.size ≤ b) ∧ b ≠ X.env.locals ∧ (∀ x c, X.env.cells.lookup x = some c → c ≠ b) ∧ ∀ p ∈ X.pn ++ pins, p.1 ≠ b)
    (keep : ∀ b o, b ≠ X.env.locals → b ∉ X.fs → b ∉ ch → s.heap.get? b = some o → H b = none → h'.get? b = some o)
    (slot : ∀ b o, b ≠ X.env.locals → b ∈ X.fs → b ∉ ch → s.heap.get? b = some o → H b = none → ∃ sl, h'.get? b = some { o with slots := sl }) (free : ∀ b o, b ∉ ch → s.heap.get? b = some o → H b = none → H' b = none)
    (there : ∀ b o, b ∉ ch → s.heap.get? b = some o → ∃ o', h'.get? b = some o')
    (tups : ∀ b xs, H b = some (.tup xs) → H' b = some (.tup xs)) (frzs : ∀ b o u, H b = some (.frz o u) → H' b = some (.frz o u)) (tbls : ∀ b ps, H b = some (.tbl ps) → ∃ more, H' b = some (.tbl (ps ++ more)))
    (ns : ∀ m, s.heap.Ns X.env.locals m → h'.Ns X.env.locals m) (hok : HOk X.prog X.w H' h') (hg : AllBare g') :
    Inv X pins σ H' { s with heap := h', gens := g', drawn := d', toks := t' } := by
  have neL : ∀ b o, X.s₀.heap.get? b = some o → b ≠ X.env.locals := fun b o e => Nat.ne_of_lt (Nat.lt_of_lt_of_le (Heap.lt_size e) I.ok.above)
  have neC : ∀ b o, X.s₀.heap.get? b = some o → b ∉ X.ex → b ∉ ch := fun b o e hx hb => by
    rcases (hch b hb).1 with z | z
    · exact hx z
    · exact absurd (Nat.lt_of_lt_of_le (Heap.lt_size e) z) (Nat.lt_irrefl _)
  have cellK : ∀ x c, X.env.cells.lookup x = some c → ∀ v, s.heap.IsCell c v → h'.IsCell c v := fun x c e v ⟨o, ho, hd⟩ => by
    have nch : c ∉ ch := fun z => (hch c z).2.2.1 x c e rfl
    by_cases hc : c ∈ X.fs
    · obtain ⟨sl, q⟩ := slot c o (I.cne x c e) hc nch ho (I.freeC x c e)
      exact ⟨_, q, hd⟩
    · exact ⟨o, keep c o (I.cne x c e) hc nch ho (I.freeC x c e), hd⟩
  refine ⟨I.ok, I.os, hg, ⟨fun b o e n hb hx => ?_, fun b o e n hb hx => ?_, fun b o e n hx => ?_, fun b o e hx => ?_, fun b xs e => tups b xs (I.base.tups b xs e), fun b o xs e => frzs b o xs (I.base.frzs b o xs e), fun b ps e => ?_⟩, ?_, fun x c e => ?_, ?_, fun x c e => ?_, fun p hp => ?_, hok, I.len⟩
  · exact keep b o (neL b o e) hb (neC b o e hx) (I.base.keep b o e n hb hx) (I.base.free b o e n hx)
  · obtain ⟨sl, e1⟩ := I.base.slot b o e n hb hx
    obtain ⟨sl', e2⟩ := slot b _ (neL b o e) hb (neC b o e hx) e1 (I.base.free b o e n hx)
    exact ⟨sl', e2⟩
  · obtain ⟨o', e1⟩ := I.base.there b o e hx
    exact free b o' (neC b o e hx) e1 (I.base.free b o e n hx)
  · obtain ⟨o', e1⟩ := I.base.there b o e hx
    exact there b o' (neC b o e hx) e1
  · obtain ⟨m1, e1⟩ := I.base.tbls b ps e
    obtain ⟨m2, e2⟩ := tbls b _ e1
    exact ⟨m1 ++ m2, by rw [e2, Array.append_assoc]⟩
  · obtain ⟨m, hn, hl⟩ := I.loc
    refine ⟨m, ns m hn, fun i x v e1 e2 e3 => ?_⟩
    obtain ⟨u, r, l⟩ := hl i x v e1 e2 e3
    refine ⟨u, r, ?_⟩
    rcases l with l | ⟨k, c, e, z⟩
    · exact .inl l
    · exact .inr ⟨k, c, e, cellK x c e _ z⟩
  · obtain ⟨v, z⟩ := I.cell x c e
    exact ⟨v, cellK x c e v z⟩
  · obtain ⟨m, ⟨o, _, _, ho, _⟩, _⟩ := I.loc
    exact free _ o (fun z => (hch _ z).2.1 rfl) ho I.free
  · obtain ⟨v, o, ho, hd⟩ := I.cell x c e
    exact free c o (fun z => (hch c z).2.2.1 x c e rfl) ho (I.freeC x c e)
  · obtain ⟨e, n, ne, nf, d⟩ := I.pin p hp
    have nch : p.1 ∉ ch := fun z => (hch p.1 z).2.2.2 p hp rfl
    exact ⟨keep p.1 p.2 ne nf nch e n, free p.1 p.2 nch e n, ne, nf, d⟩
/-- .. where the frame's own object is kept too -/
theorem Inv.un {t' : Nat} (I : Inv X pins σ H s) (u : Un X.fs [] H H' s.heap h') (hok : HOk X.prog X.w H' h') : Inv X pins σ H' { s with heap := h', toks := t' } := by
  obtain ⟨m, ⟨o, es, ep, ho, r⟩, _⟩ := id I.loc
  obtain ⟨sl, hL⟩ := u.any ho I.free (by simp)
  exact I.step (g' := s.gens) (d' := s.drawn) (ch := []) (fun _ z => nomatch z) (fun b o _ hb _ e n => u.keep b o e n hb (by simp)) (fun b o _ hb _ e n => u.slot b o e n hb (by simp)) (fun b o _ e n => u.free b o e n (by simp)) (fun b o _ e => u.there b o e (by simp)) u.tups u.frzs u.tbls (fun m' hm => by
    obtain ⟨o', es', ep', ho', r'⟩ := hm
    rw [ho] at ho'; cases ho'
    exact ⟨_, es', ep', hL, r'⟩) hok I.bare
/-- behind a call (or a comprehension's block): the slots of this frame may have changed too, the records at ch may have turned -/
theorem Inv.call {g' : Array GenState} {t' : Nat} {d' : Drawn} {ch : List Addr} (I : Inv X pins σ H s) (u : Un (frs X.stack) ch H H' s.heap h') (hok : HOk X.prog X.w H' h') (hg : AllBare g')
    (hch : ∀ b ∈ ch, (b ∈ X.ex ∨ X.s₀.heap.objs.size ≤ b) ∧ b ≠ X.env.locals ∧ (∀ x c, X.env.cells.lookup x = some c → c ≠ b) ∧ ∀ p ∈ X.pn ++ pins, p.1 ≠ b) :
    Inv X pins σ H' { s with heap := h', gens := g', drawn := d', toks := t' } := by
  obtain ⟨m, ⟨o, es, ep, ho, r⟩, _⟩ := id I.loc
  obtain ⟨sl, hL⟩ := u.any ho I.free fun z => (hch _ z).2.1 rfl
  exact I.step (ch := ch) hch (fun b o hL hb hc e n => u.keep b o e n (fun z => (List.mem_cons.mp (I.stkSub b z)).elim hL hb) hc) (fun b o _ _ hc e n => u.any e n hc) (fun b o hc e n => u.free b o e n hc) (fun b o hc e => u.there b o e hc) u.tups u.frzs u.tbls (fun m' hm => by
    obtain ⟨o', es', ep', ho', r'⟩ := hm
    rw [ho] at ho'; cases ho'
    exact ⟨_, es', ep', hL, r'⟩) hok hg
/-- an untracked record of ours (an iterator) has turned -/
theorem Inv.turned {t' : Nat} {it : Addr} (I : Inv X pins σ H s) (k : ∀ b o, b ≠ it → s.heap.get? b = some o → h'.get? b = some o) (hn : H it = none) (hL : it ≠ X.env.locals)
    (h1 : it ∈ X.ex ∨ X.s₀.heap.objs.size ≤ it) (h2 : ∀ x c, X.env.cells.lookup x = some c → c ≠ it) (h3 : ∀ p ∈ X.pn ++ pins, p.1 ≠ it) : Inv X pins σ H { s with heap := h', toks := t' } := by
  have nit : ∀ b u, H b = some u → b ≠ it := fun b u e z => by rw [z, hn] at e; cases e
  refine I.step (g' := s.gens) (d' := s.drawn) (ch := [it]) (fun b hb => ?_) (fun b o _ _ hc e _ => k b o (fun z => hc (by simp [z])) e) (fun b o _ _ hc e _ => ⟨o.slots, k b o (fun z => hc (by simp [z])) e⟩) (fun _ _ _ _ n => n)
    (fun b o hc e => ⟨o, k b o (fun z => hc (by simp [z])) e⟩) (fun _ _ e => e) (fun _ _ _ e => e) (fun b ps e => ⟨#[], by rw [e]; simp⟩) (fun m hm => ?_) (fun b u e => ?_) I.bare
  · have e : b = it := by simpa using hb
    subst e
    exact ⟨h1, hL, h2, h3⟩
  · obtain ⟨o, es, ep, ho, r⟩ := hm
    exact ⟨o, es, ep, k _ o (Ne.symm hL) ho, r⟩
  · refine (I.hok b u e).stay (fun c v hc q => k c v ?_ q) (fun _ q => q) fun _ _ q => q
    rcases hc with z | z
    · rw [z]; exact nit b u e
    · exact nit c _ z
theorem Inv.tok (I : Inv X pins σ H s) (t : Nat) : Inv X pins σ H { s with toks := t } := I.un (h' := s.heap) (t' := t) Un.refl I.hok
/-- all objects kept -/
theorem Inv.kept {t' : Nat} (I : Inv X pins σ H s) (k : ∀ b u, s.heap.get? b = some u → h'.get? b = some u) : Inv X pins σ H { s with heap := h', toks := t' } := I.un (Un.kept k) (I.hok.kept k)
/-- a new object laid and tracked -/
theorem Inv.laid {a : Addr} {o : HO} {t' : Nat} (I : Inv X pins σ H s) (k : ∀ b u, s.heap.get? b = some u → h'.get? b = some u) (hp : s.heap.objs.size ≤ a) (new : ObjOk X.prog X.w (upd H a o) h' a o) :
    Inv X pins σ (upd H a o) { s with heap := h', toks := t' } := I.un (Un.laid k hp (I.hok.fresh hp)) (I.hok.laid k hp new)
/-- an object written -/
theorem Inv.write {x e : Addr} {o : HO} {t' : Nat} (I : Inv X pins σ H s) (mu : Mut (H x)) (he : e = x ∨ H e = some (.own x)) (k : ∀ b u, b ≠ e → s.heap.get? b = some u → h'.get? b = some u) (heo : ∃ u, h'.get? e = some u)
    (new : ObjOk X.prog X.w (upd H x o) h' x o) : Inv X pins σ (upd H x o) { s with heap := h', toks := t' } := I.un (Un.write mu he k heo) (I.hok.write mu he k heo new)
/-- forgetting slots, pins -/
theorem Inv.weak {σ' : List (Option V)} (I : Inv X pins σ H s) (hl : σ'.length = σ.length) (w : ∀ (i : Nat) v, σ'[i]? = some (some v) → σ[i]? = some (some v)) : Inv X pins σ' H s :=
  ⟨I.ok, I.os, I.bare, I.base, let ⟨m, hn, hl'⟩ := I.loc; ⟨m, hn, fun i x v e1 e2 e3 => hl' i x v e1 (w i v e2) e3⟩, I.cell, I.free, I.freeC, I.pin, I.hok, hl.trans I.len⟩
theorem Inv.pins_of {pins' : List (Addr × Obj)} (I : Inv X pins σ H s) (h : ∀ p ∈ pins', s.heap.get? p.1 = some p.2 ∧ H p.1 = none ∧ p.1 ≠ X.env.locals ∧ p.1 ∉ X.fs ∧ ∀ v, p.2.data ≠ .cell v) : Inv X pins' σ H s :=
  ⟨I.ok, I.os, I.bare, I.base, I.loc, I.cell, I.free, I.freeC, fun p hp => (List.mem_append.mp hp).elim (fun z => I.pin p (List.mem_append_left _ z)) (h p), I.hok, I.len⟩

theorem nodup_ix {N : List Str} (hN : N.Nodup) {i j : Nat} {x : Str} (a : N[i]? = some x) (b : N[j]? = some x) : i = j := by
  obtain ⟨h1, e1⟩ := List.getElem?_eq_some_iff.mp a
  obtain ⟨h2, e2⟩ := List.getElem?_eq_some_iff.mp b
  exact (List.getElem_inj hN).mp (e1.trans e2.symm)

/-- a name is stored; what changed -/
theorem store_ok2 {M : Model} {A : Around} {E : Value → Shared → Prop} {i : Nat} {x : Str} {v : V} {u : Value} {Q : Unit → Shared → Prop} (I : Inv X pins σ H s) (hN : X.N.Nodup) (hi : X.N[i]? = some x) (hx : Loc X.env.scope x) (r : RelV v u)
    (h : ∀ s', Inv X pins (σ.set i (some v)) H s' → (∃ a, Heap.SameBut a s.heap s'.heap ∧ (a = X.env.locals ∨ X.env.cells.lookup x = some a)) → Q () s') (hf : X.fn x = true ∨ X.env.scope.names.lookup x = some .local := by first | exact .inl rfl | exact .inr rfl | assumption) : wpAny M A (storeName X.env x u) Q E s := by
  obtain ⟨m, hn, hl⟩ := id I.loc
  have hcls : (X.env.scope.kind == .class || (X.env.scope.kind == .module && X.env.locals != X.env.globals)) = false := by rw [I.ok.kind]; rfl
  have hiσ : i < σ.length := by rw [I.len]; exact (List.getElem?_eq_some_iff.mp hi).1
  have cne := I.cne
  have tracked : ∀ {a : Addr} {h' : Heap}, (∃ o, s.heap.get? a = some o ∧ H a = none) → Heap.SameBut a s.heap h' → HOk X.prog X.w H h' := fun {a h'} ha hs b ob e => by
    obtain ⟨_, _, hfree⟩ := ha
    refine (I.hok b ob e).stay (fun c w' hc q => (hs.2 c ?_).trans q) (fun _ q => q) fun _ _ q => q
    rintro rfl
    rcases hc with rfl | hc
    · rw [hfree] at e; cases e
    · rw [hfree] at hc; cases hc
  rcases hx with hk | hk
  · refine wpAny_storeName_local hk hn (fun h' hn' hs => ?_) hcls
    obtain ⟨oL, _, _, hoL, _⟩ := id hn
    refine h _ ⟨I.ok, I.os, I.bare, ⟨fun b o e n hb hx => ?_, fun b o e n hb hx => ?_, I.base.free, fun b o e hx => ?_, I.base.tups, I.base.frzs, I.base.tbls⟩, ⟨_, hn', fun j y v' e1 e2 e3 => ?_⟩, fun y c e => ?_, I.free, I.freeC, fun p hp => ?_, tracked ⟨oL, hoL, I.free⟩ hs, by simpa using I.len⟩ ⟨_, hs, .inl rfl⟩
    · exact (hs.2 b (Nat.ne_of_lt (Nat.lt_of_lt_of_le (Heap.lt_size e) I.ok.above))).trans (I.base.keep b o e n hb hx)
    · obtain ⟨sl, e1⟩ := I.base.slot b o e n hb hx
      exact ⟨sl, (hs.2 b (Nat.ne_of_lt (Nat.lt_of_lt_of_le (Heap.lt_size e) I.ok.above))).trans e1⟩
    · obtain ⟨o', e1⟩ := I.base.there b o e hx
      exact ⟨o', (hs.2 b (Nat.ne_of_lt (Nat.lt_of_lt_of_le (Heap.lt_size e) I.ok.above))).trans e1⟩
    · by_cases hj : j = i
      · subst hj
        rw [hi] at e1; cases e1
        rw [List.getElem?_set_self hiσ] at e2
        cases e2
        exact ⟨u, r, .inl ⟨hk, by simp⟩⟩
      · rw [List.getElem?_set_ne (Ne.symm hj)] at e2
        obtain ⟨u', r', q⟩ := hl j y v' e1 e2 e3
        refine ⟨u', r', ?_⟩
        rcases q with ⟨k, e⟩ | ⟨k, c, e, z⟩
        · refine .inl ⟨k, ?_⟩
          have : y ≠ x := fun e => hj (nodup_ix hN e1 (e ▸ hi))
          simp [this, e]
        · exact .inr ⟨k, c, e, z.sameBut hs (cne y c e)⟩
    · obtain ⟨w', z⟩ := I.cell y c e
      exact ⟨w', z.sameBut hs (cne y c e)⟩
    · obtain ⟨e, n, ne, nf, d⟩ := I.pin p hp
      exact ⟨(hs.2 p.1 ne).trans e, n, ne, nf, d⟩
  · have hfn : X.fn x = true := by
      rcases hf with z | z
      · exact z
      · rw [z] at hk; cases hk
    obtain ⟨c, hc⟩ := I.ok.has x (.inl hk)
    obtain ⟨w', z⟩ := I.cell x c hc
    refine wpAny_storeName_cell I.ok.kind hk hc z (fun h' hc' hs => ?_)
    obtain ⟨oc, hoc, hocd⟩ := id z
    refine h { s with heap := h' } ⟨I.ok, I.os, I.bare, ⟨fun b o e n hb hx => ?_, fun b o e n hb hx => ?_, I.base.free, fun b o e hx => ?_, I.base.tups, I.base.frzs, I.base.tbls⟩, ⟨m, hn.sameBut hs (Ne.symm (cne x c hc)), fun j y v' e1 e2 e3 => ?_⟩, fun y c' e => ?_, I.free, I.freeC, fun p hp => ?_, tracked ⟨oc, hoc, I.freeC x c hc⟩ hs, by simpa using I.len⟩ ⟨c, hs, .inr hc⟩
    · exact (hs.2 b (Nat.ne_of_lt (Nat.lt_of_lt_of_le (Heap.lt_size e) (I.ok.cab x c hfn hc)))).trans (I.base.keep b o e n hb hx)
    · obtain ⟨sl, e1⟩ := I.base.slot b o e n hb hx
      exact ⟨sl, (hs.2 b (Nat.ne_of_lt (Nat.lt_of_lt_of_le (Heap.lt_size e) (I.ok.cab x c hfn hc)))).trans e1⟩
    · obtain ⟨o', e1⟩ := I.base.there b o e hx
      exact ⟨o', (hs.2 b (Nat.ne_of_lt (Nat.lt_of_lt_of_le (Heap.lt_size e) (I.ok.cab x c hfn hc)))).trans e1⟩
    · by_cases hj : j = i
      · subst hj
        rw [hi] at e1; cases e1
        rw [List.getElem?_set_self hiσ] at e2
        cases e2
        exact ⟨u, r, .inr ⟨.inl hk, c, hc, hc'⟩⟩
      · rw [List.getElem?_set_ne (Ne.symm hj)] at e2
        obtain ⟨u', r', q⟩ := hl j y v' e1 e2 e3
        refine ⟨u', r', ?_⟩
        rcases q with q | ⟨k, c', e, z'⟩
        · exact .inl q
        · refine .inr ⟨k, c', e, z'.sameBut hs ?_⟩
          rintro rfl
          exact hj (nodup_ix hN e1 (I.ok.inj _ _ _ e hc ▸ hi))
    · by_cases hcc : c' = c
      · subst hcc; exact ⟨_, hc'⟩
      · obtain ⟨w2, z2⟩ := I.cell y c' e
        exact ⟨w2, z2.sameBut hs hcc⟩
    · obtain ⟨e, n, ne, nf, d⟩ := I.pin p hp
      refine ⟨(hs.2 p.1 ?_).trans e, n, ne, nf, d⟩
      intro q
      rw [q, hoc] at e
      have q' : oc = p.2 := Option.some.inj e
      exact d w' (by rw [← q']; exact hocd)
theorem store_ok {M : Model} {A : Around} {E : Value → Shared → Prop} {i : Nat} {x : Str} {v : V} {u : Value} {Q : Unit → Shared → Prop} (I : Inv X pins σ H s) (hN : X.N.Nodup) (hi : X.N[i]? = some x) (hx : Loc X.env.scope x) (r : RelV v u)
    (h : ∀ s', Inv X pins (σ.set i (some v)) H s' → Q () s') (hf : X.fn x = true ∨ X.env.scope.names.lookup x = some .local := by first | exact .inl rfl | exact .inr rfl | assumption) : wpAny M A (storeName X.env x u) Q E s :=
  store_ok2 I hN hi hx r (fun s' I' _ => h s' I') hf
/-- behind a call or a block, the state as it is -/
theorem Inv.call' {s' : Shared} {ch : List Addr} (I : Inv X pins σ H s) (ho : s'.os = s.os) (u : Un (frs X.stack) ch H H' s.heap s'.heap) (hok : HOk X.prog X.w H' s'.heap) (hg : AllBare s'.gens)
    (hch : ∀ b ∈ ch, (b ∈ X.ex ∨ X.s₀.heap.objs.size ≤ b) ∧ b ≠ X.env.locals ∧ (∀ x c, X.env.cells.lookup x = some c → c ≠ b) ∧ ∀ p ∈ X.pn ++ pins, p.1 ≠ b) : Inv X pins σ H' s' := by
  obtain ⟨h', g', d', t', o'⟩ := s'
  have e : o' = s.os := ho
  subst e
  exact I.call (g' := g') (t' := t') (d' := d') u hok hg hch
end

/-! ### the judgements -/
/-- an exception: its class, its own dict's address (where it has one), the abstract heap behind it -/
abbrev XK := Value → Option Addr → Hp → Prop
abbrev St := List (Option V)
abbrev VK := V → Hp → Prop
/-- an expression's reading; a test's; an argument list's -/
abbrev TE := St → Hp → VK → Prop
abbrev TT := St → Hp → (Bool → Hp → Prop) → Prop
abbrev TA := St → Hp → (List V → Hp → Prop) → Prop
/-- what is wanted behind a statement -/
structure Ends where
  nx : St → Hp → Prop
  rt : VK
  bk : St → Hp → Prop := fun _ _ => False
  ct : St → Hp → Prop := fun _ _ => False
abbrev TS := Ends → St → Hp → Prop

def EP (X : Cx) (pins : List (Addr × Obj)) (σ : St) (Q : VK) (u : Value) (s' : Shared) : Prop := ∃ v H', Inv X pins σ H' s' ∧ RelV v u ∧ Q v H'
def TP (X : Cx) (pins : List (Addr × Obj)) (σ : St) (Q : Bool → Hp → Prop) (b : Bool) (s' : Shared) : Prop := ∃ H', Inv X pins σ H' s' ∧ Q b H'
def AP (X : Cx) (pins : List (Addr × Obj)) (σ : St) (Q : List V → Hp → Prop) (us : List Value) (s' : Shared) : Prop := ∃ vs H', Inv X pins σ H' s' ∧ Vals vs us ∧ Q vs H'
def SP (X : Cx) (pins : List (Addr × Obj)) (D : Ends) (f : Flow) (s' : Shared) : Prop :=
  match f with
  | .next => ∃ σ' H', Inv X pins σ' H' s' ∧ D.nx σ' H'
  | .brk => ∃ σ' H', Inv X pins σ' H' s' ∧ D.bk σ' H'
  | .cont => ∃ σ' H', Inv X pins σ' H' s' ∧ D.ct σ' H'
  | .ret u => ∃ v σ' H', Inv X pins σ' H' s' ∧ RelV v u ∧ D.rt v H'

def PE (X : Cx) (e : Expr) (t : TE) : Prop :=
  ∀ (pins : List (Addr × Obj)) (s : Shared) (σ : St) (H : Hp) (Q : VK), Inv X pins σ H s → t σ H Q → wpAny (model X.prog X.w) X.A (eval e X.env) (EP X pins σ Q) X.xe s
def PT (X : Cx) (e : Expr) (t : TT) : Prop :=
  ∀ (pins : List (Addr × Obj)) (s : Shared) (σ : St) (H : Hp) (Q : Bool → Hp → Prop), Inv X pins σ H s → t σ H Q → wpAny (model X.prog X.w) X.A (isTrue e X.env (eval e X.env)) (TP X pins σ Q) X.xe s
/-- a test whatever its 'whole' is (and, or) -/
def PW (X : Cx) (e : Expr) (t : TT) : Prop :=
  ∀ (whole : Sem Value) (pins : List (Addr × Obj)) (s : Shared) (σ : St) (H : Hp) (Q : Bool → Hp → Prop), Inv X pins σ H s → t σ H Q → wpAny (model X.prog X.w) X.A (isTrue e X.env whole) (TP X pins σ Q) X.xe s
theorem PW.pt {X : Cx} {e : Expr} {t : TT} (h : PW X e t) : PT X e t := h _
/-- an argument list (no star), from the left -/
def PA (X : Cx) (es : List Expr) (t : TA) : Prop :=
  ∀ (pos : Pos) (pins : List (Addr × Obj)) (s : Shared) (σ : St) (H : Hp) (Q : List V → Hp → Prop), Inv X pins σ H s → t σ H Q → wpAny (model X.prog X.w) X.A (spliced (backTo pos (starEach es X.env))) (AP X pins σ Q) X.xe s
def PS (X : Cx) (st : Stmt) (t : TS) : Prop :=
  ∀ (pins : List (Addr × Obj)) (s : Shared) (σ : St) (H : Hp) (D : Ends), Inv X pins σ H s → t D σ H → wpAny (model X.prog X.w) X.A (exec st X.env) (SP X pins D) X.xe s
def PSs (X : Cx) (st : List Stmt) (t : TS) : Prop :=
  ∀ (pins : List (Addr × Obj)) (s : Shared) (σ : St) (H : Hp) (D : Ends), Inv X pins σ H s → t D σ H → wpAny (model X.prog X.w) X.A (execs st X.env) (SP X pins D) X.xe s
/-- weaken the end -/
theorem thn {α : Type} {t : Sem α} {Q Q' : α → Shared → Prop} {M : Model} {A : Around} {E : Value → Shared → Prop} {s : Shared} (h : wpAny M A t Q E s) (hQ : ∀ a s, Q a s → Q' a s) : wpAny M A t Q' E s := wpAny_mono h hQ fun _ _ x => x
end L2

namespace L2
open PySem PySem.Spec PyProof.Rows
section
variable {X : Cx}

/-- two expressions in a row -/
theorem bin {a b : Expr} {ta tb : TE} (ha : PE X a ta) (hb : PE X b tb) {pins : List (Addr × Obj)} {s : Shared} {σ : St} {H : Hp} {R : V → V → Hp → Prop} (I : Inv X pins σ H s) (h : ta σ H fun x H1 => tb σ H1 fun y H2 => R x y H2)
    {α : Type} {Q : α → Shared → Prop} {f : Value → Value → Sem α}
    (hf : ∀ v u s2 x y H2, Inv X pins σ H2 s2 → RelV x v → RelV y u → R x y H2 → wpAny (model X.prog X.w) X.A (f v u) Q X.xe s2) :
    wpAny (model X.prog X.w) X.A (eval a X.env) (fun v s₁ => wpAny (model X.prog X.w) X.A (eval b X.env) (fun u s₂ => wpAny (model X.prog X.w) X.A (f v u) Q X.xe s₂) X.xe s₁) X.xe s := by
  refine thn (ha pins s σ H _ I h) fun v s1 ⟨x, H1, I1, r1, q1⟩ => ?_
  refine thn (hb pins s1 σ H1 _ I1 q1) fun u s2 ⟨y, H2, I2, r2, q2⟩ => ?_
  exact hf v u s2 x y H2 I2 r1 r2 q2

/-! ### names and constants -/
def tVar (i : Nat) : TE := fun σ H Q => ∃ v, σ[i]? = some (some v) ∧ Q v H
def tC (v : V) : TE := fun _ H Q => Q v H
theorem pe_var {i : Nat} {x : Str} {pos : Pos} (hN : X.N[i]? = some x) (hv : Vis X.env.scope x) (hd : (x == ("__debug__" : Str)) = false := by decide) (hcd : (x == ("__classdict__" : Str)) = false := by decide) : PE X (.Name x pos) (tVar i) := by
  intro pins s σ H Q I h
  obtain ⟨v, e, h⟩ := h
  obtain ⟨m, hn, hl⟩ := I.loc
  obtain ⟨u, r, l⟩ := hl i x v hN e hv
  have fin : EP X pins σ Q u s := ⟨v, H, I, r, h⟩
  rcases l with ⟨hk, hm⟩ | ⟨hk, c, hc, hcell⟩
  · exact wpAny_Name (wpAny_loadName_local I.ok.kind hk hn hm fin) hd
  · rcases hk with hk | hk
    · exact wpAny_Name (wpAny_loadName_cell I.ok.kind hk hc hcell fin) hd
    · exact wpAny_Name (wpAny_loadName_free I.ok.kind hk hc hcell fin hcd) hd
theorem pe_int {i j pos} : PE X (.Constant (.int i) j pos) (tC (.int i)) := fun _ _ _ H _ I h => wpAny_Constant_int ⟨.int i, H, I.tok _, ⟨_, rfl⟩, h⟩
theorem pe_bl {b j pos} : PE X (.Constant (.bool b) j pos) (tC (.bl b)) := fun _ _ _ H _ I h => Constant_bool ⟨.bl b, H, I, rfl, h⟩
theorem pe_non {j pos} : PE X (.Constant .none j pos) (tC .non) := fun _ _ _ H _ I h => Constant_none ⟨.non, H, I, rfl, h⟩

/-- a global name of the def -/
def Gl (X : Cx) (x : Str) : Prop := X.env.kindOf x = some .globalImplicit
theorem ld_glob {E : Value → Shared → Prop} {pins : List (Addr × Obj)} {s : Shared} {σ : St} {H : Hp} {x : Str} {u : Value} {pos : Pos} {Q : Value → Shared → Prop} (I : Inv X pins σ H s) (hg : Gl X x) (hm : X.mg x = some u) (h : Q u s)
    (hd : (x == ("__debug__" : Str)) = false := by decide) : wpAny (model X.prog X.w) X.A (eval (.Name x pos) X.env) Q E s :=
  Calls.Name_function_global I.ok.kind hg (Calls.loadGlobal_global (by rw [I.ok.glob]; exact I.mod.glob.keeps I.bk) hm h) hd
theorem ld_blt {E : Value → Shared → Prop} {pins : List (Addr × Obj)} {s : Shared} {σ : St} {H : Hp} {x : Str} {u : Value} {pos : Pos} {Q : Value → Shared → Prop} (I : Inv X pins σ H s) (hg : Gl X x) (hm : X.mg x = none) (hv : bootBuiltins x = some u) (h : Q u s)
    (hn : x ≠ "__name__" := by decide) (hd : (x == ("__debug__" : Str)) = false := by decide) : wpAny (model X.prog X.w) X.A (eval (.Name x pos) X.env) Q E s := by
  obtain ⟨mb, h1, h2⟩ := I.mod.blt
  exact Calls.Name_function_global I.ok.kind hg (Calls.loadGlobal_builtin (by rw [I.ok.glob]; exact I.mod.glob.keeps I.bk) hm (by rw [I.ok.blt]; exact h1.keeps I.bk) ((h2 x hn).trans hv) h) hd
/-- a module's constant, a class, a function, as a value -/
theorem pe_glob {x : Str} {v : V} {u : Value} {pos : Pos} (hg : Gl X x) (hm : X.mg x = some u) (r : RelV v u) (hd : (x == ("__debug__" : Str)) = false := by decide) : PE X (.Name x pos) (tC v) :=
  fun _ _ _ H _ I h => ld_glob I hg hm ⟨v, H, I, r, h⟩ hd
theorem pe_bltn {x : Str} {v : V} {u : Value} {pos : Pos} (hg : Gl X x) (hm : X.mg x = none) (hv : bootBuiltins x = some u) (r : RelV v u) (hn : x ≠ "__name__" := by decide) (hd : (x == ("__debug__" : Str)) = false := by decide) : PE X (.Name x pos) (tC v) :=
  fun _ _ _ H _ I h => ld_blt I hg hm hv ⟨v, H, I, r, h⟩ hn hd

/-! ### arithmetic -/
variable {a b : Expr} {ta tb : TE} {pos : Pos}

/-! ### comparisons -/
def PC (X : Cx) (op : CmpOp) (a b : Expr) (t : TE) : Prop :=
  ∀ (pins : List (Addr × Obj)) (s : Shared) (σ : St) (H : Hp) (Q : VK), Inv X pins σ H s → t σ H Q →
    wpAny (model X.prog X.w) X.A (eval a X.env) (fun v s₁ => wpAny (model X.prog X.w) X.A (eval b X.env) (fun u s₂ => wpAny (model X.prog X.w) X.A (compareOp op v u) (EP X pins σ Q) X.xe s₂) X.xe s₁) X.xe s
/-- a comparison as a value, as a test -/
def tB (t : TE) : TT := fun σ H Q => t σ H fun x H1 => ∃ c, x = .bl c ∧ Q c H1
theorem pt_cmp {op : CmpOp} {t : TE} (h : PC X op a b t) (h1 : behindInMarks op b = false := by first | exact nobehind _ (by decide) (by decide) | rfl) : PT X (.Compare a [op] [b] pos) (tB t) := by
  intro pins s σ H Q I hw
  refine wpAny_isTrue_Compare1 (thn (h pins s σ H _ I hw) fun v s1 h1 => thn h1 fun u s2 h2 => thn h2 fun c s3 ⟨x, H1, I1, r1, q1⟩ => ?_) h1
  obtain ⟨d, rfl, q⟩ := q1
  cases r1
  exact wpAny_truthy_bool ⟨H1, I1, q⟩
/-- an expression whose value is a bool, as a test -/
theorem pt_val {e : Expr} {t : TE} (h : PE X e t) (he : ∀ whole, isTrue e X.env whole = (do let v ← whole; standAt e.pos; holding [v] (truthy v)) := by intro _; rfl) : PT X e (tB t) := by
  intro pins s σ H Q I hw
  refine isTrue_plain (thn (h pins s σ H _ I hw) fun v s1 ⟨x, H1, I1, r1, q1⟩ => ?_) (he _)
  obtain ⟨d, rfl, q⟩ := q1
  cases r1
  exact wpAny_truthy_bool ⟨H1, I1, q⟩

/-! ### and, or, not -/
variable {tA tB' : TT} {rest : List Expr}
def tAnd (t u : TT) : TT := fun σ H Q => t σ H fun c H1 => if c = true then u σ H1 Q else Q false H1
def tOr (t u : TT) : TT := fun σ H Q => t σ H fun c H1 => if c = true then Q true H1 else u σ H1 Q
def tNot (t : TT) : TT := fun σ H Q => t σ H fun c H1 => Q (!c) H1
theorem pw_and1 (ha : PT X a tA) : PW X (.BoolOp .And [a] pos) tA := by
  intro wh pins s σ H Q I h
  refine isTrue_and (thn (ha pins s σ H Q I h) fun c s1 e => ?_)
  cases c with
  | true => exact isTrue_and_nil e
  | false => exact e
theorem pw_or1 (ha : PT X a tA) : PW X (.BoolOp .Or [a] pos) tA := by
  intro wh pins s σ H Q I h
  refine isTrue_or (thn (ha pins s σ H Q I h) fun c s1 e => ?_)
  cases c with
  | false => exact isTrue_or_nil e
  | true => exact e
theorem pw_and (ha : PT X a tA) (hb : PW X (.BoolOp .And (b :: rest) pos) tB') : PW X (.BoolOp .And (a :: b :: rest) pos) (tAnd tA tB') := by
  intro wh pins s σ H Q I h
  refine isTrue_and (thn (ha pins s σ H _ I h) fun c s1 ⟨H1, I1, q1⟩ => ?_)
  cases c with
  | true => exact hb wh pins s1 σ H1 Q I1 q1
  | false => exact ⟨H1, I1, q1⟩
theorem pw_or (ha : PT X a tA) (hb : PW X (.BoolOp .Or (b :: rest) pos) tB') : PW X (.BoolOp .Or (a :: b :: rest) pos) (tOr tA tB') := by
  intro wh pins s σ H Q I h
  refine isTrue_or (thn (ha pins s σ H _ I h) fun c s1 ⟨H1, I1, q1⟩ => ?_)
  cases c with
  | true => exact ⟨H1, I1, q1⟩
  | false => exact hb wh pins s1 σ H1 Q I1 q1
theorem pt_not (ha : PT X a tA) : PT X (.UnaryOp .Not a pos) (tNot tA) := by
  intro pins s σ H Q I h
  exact isTrue_not (ha pins s σ H (fun c H1 => Q (!c) H1) I h)
/-- .. as values (bools) -/
def tAndV (ta tb : TE) : TE := fun σ H Q => ta σ H fun x H1 => ∃ c, x = .bl c ∧ if c = true then tb σ H1 Q else Q (.bl false) H1
def tNotV (ta : TE) : TE := fun σ H Q => ta σ H fun x H1 => ∃ c, x = .bl c ∧ Q (.bl (!c)) H1
theorem pe_one {op} {t : TE} (h : PE X a t) : PE X (.BoolOp op [a] pos) t := fun pins s σ H Q I hw => BoolOp_one (h pins s σ H Q I hw)
theorem pe_and (ha : PE X a ta) (hb : PE X (.BoolOp .And (b :: rest) pos) tb) : PE X (.BoolOp .And (a :: b :: rest) pos) (tAndV ta tb) := by
  intro pins s σ H Q I h
  refine BoolOp_and (thn (ha pins s σ H _ I h) fun v s1 ⟨x, H1, I1, r1, q1⟩ => ?_)
  obtain ⟨c, rfl, q1⟩ := q1
  cases r1
  refine wpAny_truthy_bool ?_
  cases c with
  | true => exact hb pins s1 σ H1 Q I1 q1
  | false => exact ⟨.bl false, H1, I1, rfl, q1⟩
theorem pe_not (ha : PE X a ta) : PE X (.UnaryOp .Not a pos) (tNotV ta) := by
  intro pins s σ H Q I h
  refine UnaryOp_ (thn (ha pins s σ H _ I h) fun v s1 ⟨x, H1, I1, r1, q1⟩ => ?_)
  obtain ⟨c, rfl, q1⟩ := q1
  cases r1
  exact not_of (wpAny_truthy_bool ⟨.bl (!c), H1, I1, rfl, q1⟩)
/-- a if t else b -/
def tIf (t : TT) (ta tb : TE) : TE := fun σ H Q => t σ H fun c H1 => if c = true then ta σ H1 Q else tb σ H1 Q
theorem pe_ifExp {c : Expr} (hc : PT X c tA) (ha : PE X a ta) (hb : PE X b tb) : PE X (.IfExp c a b pos) (tIf tA ta tb) := by
  intro pins s σ H Q I h
  refine wpAny_IfExp (thn (hc pins s σ H _ I h) fun d s1 ⟨H1, I1, q1⟩ => ?_)
  cases d with
  | true => exact ha pins s1 σ H1 Q I1 q1
  | false => exact hb pins s1 σ H1 Q I1 q1
end
end L2

namespace L2
open PySem PySem.Spec PyProof.Rows

/-! ### a list, a tuple that is read: tracked, frozen, or an object of the module -/
def SqL (K : PySem.W.Frag) (H : Hp) (a : Addr) (xs : List V) : Prop :=
  Rd H a (.lst xs) ∨
    ∃ (o : Obj) (its : Array Value) (n : Nat), K.lookup a = some o ∧ o.cls = .type "list" ∧ o.dict = none ∧ o.data = .seq its n ∧ its.size ≤ sizeLine ∧ Vals xs its.toList
def SqT (K : PySem.W.Frag) (H : Hp) (a : Addr) (xs : List V) : Prop :=
  Rd H a (.tup xs) ∨
    ∃ (o : Obj) (its : Array Value) (n : Nat), K.lookup a = some o ∧ o.cls = .type "tuple" ∧ o.data = .seq its n ∧ its.size ≤ sizeLine ∧ Vals xs its.toList
def absV : Value → Option V
  | .none => some .non
  | .bool b => some (.bl b)
  | .int i _ => some (.int i)
  | .str x _ => some (.str x)
  | .bytes b _ => some (.byt b)
  | .float b _ => some (.flt b)
  | .ref a => some (.ref a)
  | .type n => some (.ty n)
  | _ => none
theorem RelV.abs {x : V} {u : Value} (r : RelV x u) : absV u = some x := by
  cases x with
  | non => cases r; rfl
  | bl _ => cases r; rfl
  | int _ => obtain ⟨t, rfl⟩ := r; rfl
  | str _ => obtain ⟨t, rfl⟩ := r; rfl
  | byt _ => obtain ⟨t, rfl⟩ := r; rfl
  | flt _ => obtain ⟨t, rfl⟩ := r; rfl
  | ref _ => cases r; rfl
  | ty _ => cases r; rfl
theorem RelV.inj {x y : V} {u : Value} (r : RelV x u) (q : RelV y u) : x = y := Option.some.inj (r.abs.symm.trans q.abs)
theorem Vals.inj : ∀ {xs ys : List V} {us : List Value}, Vals xs us → Vals ys us → xs = ys
  | _, _, _, .nil, .nil => rfl
  | _, _, _, .cons r t, .cons r' t' => by rw [r.inj r', Vals.inj t t']
section
variable {X : Cx} {pins : List (Addr × Obj)} {σ : St} {H : Hp} {s : Shared} {a : Addr} {xs ys : List V}
theorem SqL.of {K : PySem.W.Frag} (h : H a = some (.lst xs)) : SqL K H a xs := .inl (.inl h)
theorem SqT.of {K : PySem.W.Frag} (h : H a = some (.tup xs)) : SqT K H a xs := .inl (.inl h)
theorem Inv.list (I : Inv X pins σ H s) (h : SqL X.K H a xs) : ∃ its : List Value, Vals xs its ∧ PlainL s.heap a its.toArray ∧ xs.length ≤ sizeLine := by
  rcases h with h | ⟨o, its, n, hk, hc, hd, hs, hz, r⟩
  · obtain ⟨z, its, n, r, e⟩ := h.ok I.hok
    exact ⟨its, r, ⟨_, n, e, rfl, rfl, rfl⟩, z⟩
  · refine ⟨its.toList, r, ⟨o, n, I.kIn a o hk, hc, hd, by simpa using hs⟩, ?_⟩
    have e := r.length
    simp only [Array.length_toList] at e
    omega
theorem Inv.tuple (I : Inv X pins σ H s) (h : SqT X.K H a xs) : ∃ its : List Value, Vals xs its ∧ IsTup s.heap a its.toArray ∧ xs.length ≤ sizeLine := by
  rcases h with h | ⟨o, its, n, hk, hc, hs, hz, r⟩
  · obtain ⟨z, its, r, p⟩ := h.ok I.hok
    exact ⟨its, r, p, z⟩
  · refine ⟨its.toList, r, ⟨o, I.kIn a o hk, hc, n, by simpa using hs⟩, ?_⟩
    have e := r.length
    simp only [Array.length_toList] at e
    omega
theorem Inv.list_inj (I : Inv X pins σ H s) (h : SqL X.K H a xs) (h' : SqL X.K H a ys) : xs = ys := by
  obtain ⟨its, r, ⟨o, n, e, _, _, d⟩, _⟩ := I.list h
  obtain ⟨its', r', ⟨o', n', e', _, _, d'⟩, _⟩ := I.list h'
  rw [e] at e'; cases e'
  rw [d] at d'
  injection d' with d1 _
  have : its = its' := by simpa using congrArg Array.toList d1
  subst this
  exact r.inj r'
theorem Inv.tuple_inj (I : Inv X pins σ H s) (h : SqT X.K H a xs) (h' : SqT X.K H a ys) : xs = ys := by
  obtain ⟨its, r, ⟨o, e, _, n, d⟩, _⟩ := I.tuple h
  obtain ⟨its', r', ⟨o', e', _, n', d'⟩, _⟩ := I.tuple h'
  rw [e] at e'; cases e'
  rw [d] at d'
  injection d' with d1 _
  have : its = its' := by simpa using congrArg Array.toList d1
  subst this
  exact r.inj r'
end

/-! ### another wish about exceptions -/
abbrev Cx.wish (X : Cx) (E : Value → Shared → Prop) : Cx := { X with xe := E }
/-- no exception leaves -/
abbrev Cx.nox (X : Cx) : Cx := X.wish fun _ _ => False
theorem Cx.Ok.wish {X : Cx} (ok : X.Ok) (E : Value → Shared → Prop) : (X.wish E).Ok :=
  ⟨ok.mod, ok.kind, ok.glob, ok.blt, ok.above, ok.inj, ok.has, ok.cab, ok.hd, ok.frames, ok.stk, ok.exf, ok.bs, ok.bsz, ok.noex, ok.exfs, ok.funs, ok.frf⟩
theorem Cx.Ok.unwish {X : Cx} {E : Value → Shared → Prop} (ok : (X.wish E).Ok) : X.Ok :=
  ⟨ok.mod, ok.kind, ok.glob, ok.blt, ok.above, ok.inj, ok.has, ok.cab, ok.hd, ok.frames, ok.stk, ok.exf, ok.bs, ok.bsz, ok.noex, ok.exfs, ok.funs, ok.frf⟩
section
variable {X : Cx} {pins : List (Addr × Obj)} {σ : St} {H : Hp} {s : Shared} {E : Value → Shared → Prop}
theorem Inv.wish (I : Inv X pins σ H s) (E : Value → Shared → Prop) : Inv (X.wish E) pins σ H s := ⟨I.ok.wish E, I.os, I.bare, I.base, I.loc, I.cell, I.free, I.freeC, I.pin, I.hok, I.len⟩
theorem Inv.unwish (I : Inv (X.wish E) pins σ H s) : Inv X pins σ H s := ⟨I.ok.unwish, I.os, I.bare, I.base, I.loc, I.cell, I.free, I.freeC, I.pin, I.hok, I.len⟩
theorem SP.unwish {D : Ends} {f : Flow} {s' : Shared} (h : SP (X.wish E) pins D f s') : SP X pins D f s' := by
  cases f with
  | next => obtain ⟨σ', H', I, q⟩ := h; exact ⟨σ', H', I.unwish, q⟩
  | brk => obtain ⟨σ', H', I, q⟩ := h; exact ⟨σ', H', I.unwish, q⟩
  | cont => obtain ⟨σ', H', I, q⟩ := h; exact ⟨σ', H', I.unwish, q⟩
  | ret u => obtain ⟨v, σ', H', I, r, q⟩ := h; exact ⟨v, σ', H', I.unwish, r, q⟩
theorem PSs.nox {st : List Stmt} {t : TS} (h : PSs X.nox st t) : PSs X st t := fun pins s σ H D I hw =>
  wpAny_mono (h pins s σ H D (I.wish _) hw) (fun _ _ q => q.unwish) fun _ _ z => False.elim z
end

/-! ### blocks and small statements -/
section
variable {X : Cx} {st : Stmt} {rest : List Stmt} {t u : TS} {e : Expr} {te : TE} {pos : Pos}
def tNext : TS := fun D σ H => D.nx σ H
def tSeq (t u : TS) : TS := fun D σ H => t { D with nx := u D } σ H
theorem pss_nil : PSs X [] tNext := fun _ _ σ H _ I h => wpAny_execs_nil ⟨σ, H, I, h⟩
theorem pss_cons (h1 : PS X st t) (h2 : PSs X rest u) : PSs X (st :: rest) (tSeq t u) := by
  intro pins s σ H D I h
  refine wpAny_execs_cons (thn (h1 pins s σ H { D with nx := u D } I h) fun f s1 q => ?_)
  cases f with
  | next =>
    obtain ⟨σ', H', I', q⟩ := q
    exact h2 pins s1 σ' H' D I' q
  | ret v => exact q
  | brk => exact q
  | cont => exact q
theorem pss_one (h1 : PS X st t) : PSs X [st] t := by
  intro pins s σ H D I h
  refine wpAny_execs_cons (thn (h1 pins s σ H D I h) fun f s1 q => ?_)
  cases f with
  | next => exact wpAny_execs_nil q
  | ret v => exact q
  | brk => exact q
  | cont => exact q
/-- in a def's body nothing is shown -/
theorem Inv.quiet {pins : List (Addr × Obj)} {σ : St} {H : Hp} {s : Shared} (I : Inv X pins σ H s) : interactive X.env = false := by simp [interactive, I.ok.kind]
/-- an expression whose value is dropped -/
def tDrop (te : TE) : TS := fun D σ H => te σ H fun _ H1 => D.nx σ H1
theorem ps_expr (he : PE X e te) (hs : swapsWith e none pos.line X.env = pure false := by rfl) : PS X (.Expr e pos) (tDrop te) := by
  intro pins s σ H D I h
  exact wpAny_Expr_any (thn (he pins s σ H _ I h) fun v s1 ⟨x, H1, I1, r1, q1⟩ => ⟨σ, H1, I1, q1⟩) I.quiet hs
def tRet (te : TE) : TS := fun D σ H => te σ H D.rt
theorem ps_ret (he : PE X e te) : PS X (.Return (some e) pos) (tRet te) := by
  intro pins s σ H D I h
  exact wpAny_Return_some (thn (he pins s σ H _ I h) fun v s1 ⟨x, H1, I1, r1, q1⟩ => ⟨x, σ, H1, I1, r1, q1⟩)
def tIfS (c : TT) (t u : TS) : TS := fun D σ H => c σ H fun b H1 => if b = true then t D σ H1 else u D σ H1
theorem ps_if {c : Expr} {a b : List Stmt} {tc : TT} (hc : PT X c tc) (ha : PSs X a t) (hb : PSs X b u) : PS X (.If c a b pos) (tIfS tc t u) := by
  intro pins s σ H D I h
  refine wpAny_If (thn (hc pins s σ H _ I h) fun d s1 ⟨H1, I1, q1⟩ => ?_)
  cases d with
  | true => exact ha pins s1 σ H1 D I1 q1
  | false => exact hb pins s1 σ H1 D I1 q1
/-- code that the proof never comes to -/
def tNever : TS := fun _ _ _ => False
theorem pss_never {sts : List Stmt} : PSs X sts tNever := fun _ _ _ _ _ _ h => h.elim
end

/-! ### targets -/
abbrev TG := V → St → Hp → (St → Hp → Prop) → Prop
abbrev TGs := List V → St → Hp → (St → Hp → Prop) → Prop
def PG (X : Cx) (target : Expr) (t : TG) : Prop :=
  ∀ (pins : List (Addr × Obj)) (s : Shared) (σ : St) (H : Hp) (v : V) (u : Value) (Q : St → Hp → Prop), Inv X pins σ H s → RelV v u → t v σ H Q →
    wpAny (model X.prog X.w) X.A (assign target X.env u) (fun _ s' => ∃ σ' H', Inv X pins σ' H' s' ∧ Q σ' H') X.xe s
/-- several targets, one after another -/
def PGs (X : Cx) (ts : List Expr) (t : TGs) : Prop :=
  ∀ (pins : List (Addr × Obj)) (s : Shared) (σ : St) (H : Hp) (vs : List V) (us : List Value) (Q : St → Hp → Prop), Inv X pins σ H s → Vals vs us → t vs σ H Q →
    wpAny (model X.prog X.w) X.A (assignInOrder ((assignEach ts X.env).map (·.2)) us) (fun _ s' => ∃ σ' H', Inv X pins σ' H' s' ∧ Q σ' H') X.xe s
section
variable {X : Cx} {pos : Pos}
def gName (i : Nat) : TG := fun v σ H Q => Q (σ.set i (some v)) H
theorem pg_name {i : Nat} {x : Str} (hN : X.N.Nodup) (hi : X.N[i]? = some x) (hx : Loc X.env.scope x) (hf : X.fn x = true ∨ X.env.scope.names.lookup x = some .local := by first | exact .inl rfl | exact .inr rfl | assumption) : PG X (.Name x pos) (gName i) := by
  intro pins s σ H v u Q I r h
  exact wpAny_assign_Name (store_ok I hN hi hx r (fun s' I' => ⟨_, H, I', h⟩) hf)
def gNil : TGs := fun vs σ H Q => vs = [] ∧ Q σ H
def gCons (t : TG) (u : TGs) : TGs := fun vs σ H Q => ∃ v r, vs = v :: r ∧ t v σ H fun σ' H' => u r σ' H' Q
theorem pgs_nil : PGs X [] gNil := by
  intro pins s σ H vs us Q I r h
  obtain ⟨e, h⟩ := h
  subst e
  cases r
  exact assignInOrder_nil ⟨σ, H, I, h⟩
theorem pgs_cons {e : Expr} {es : List Expr} {t : TG} {u : TGs} (h1 : PG X e t) (h2 : PGs X es u)
    (hs : (assignEach (e :: es) X.env).map (·.2) = assign e X.env :: (assignEach es X.env).map (·.2) := by rfl) : PGs X (e :: es) (gCons t u) := by
  intro pins s σ H vs us Q I r h
  obtain ⟨v, vr, e1, h⟩ := h
  subst e1
  cases r with
  | cons r rr =>
    rw [hs]
    refine assignInOrder_cons (thn (h1 pins s σ H _ _ _ I r h) fun _ s1 ⟨σ1, H1, I1, q1⟩ => ?_)
    exact h2 pins s1 σ1 H1 _ _ Q I1 rr q1
/-- (a, b, ..) = a tuple of that length -/
def gTup (K : PySem.W.Frag) (n : Nat) (t : TGs) : TG := fun v σ H Q => ∃ a xs, v = .ref a ∧ SqT K H a xs ∧ xs.length = n ∧ t xs σ H Q
theorem pg_tup {es : List Expr} {k : Nat} {t : TGs} {n : Nat} (hc : X.calm = true) (h : PGs X es t)
    (hn : (assignEach es X.env).length = n := by rfl) (hst : (assignEach es X.env).findIdx? (·.1) = none := by rfl) : PG X (.Tuple es k pos) (gTup X.K n t) := by
  intro pins s σ H v u Q I r hw
  obtain ⟨a, xs, e1, hq, hl, hw⟩ := hw
  subst e1
  cases r
  obtain ⟨its, rv, ht, hz⟩ := I.tuple hq
  refine assign_Tuple_tuple (I.ok.hd hc) ht (by simp [hn, ← hl, rv.length]) hst fun h' hx => ?_
  have I1 : Inv X pins σ H { s with heap := h' } := I.kept (t' := s.toks) fun b o e => hx b o (Nat.ne_of_lt (Heap.lt_size e)) e
  exact h pins _ σ H xs _ Q I1 (by simpa using rv) hw
/-- target = value -/
def tAsg (te : TE) (g : TG) : TS := fun D σ H => te σ H fun x H1 => g x σ H1 D.nx
theorem ps_asg {tg e : Expr} {te : TE} {g : TG} (he : PE X e te) (hg : PG X tg g) (hs : swapsWithSole [tg] e pos.line X.env = pure false := by rfl) (hw : swappedStores [tg] e X.env = pure none := by rfl)
    (h1 : (assignEach [tg] X.env).map (·.2) = [assign tg X.env] := by rfl) : PS X (.Assign [tg] e pos) (tAsg te g) := by
  intro pins s σ H D I h
  refine wpAny_Assign_stores (thn (he pins s σ H _ I h) fun v s1 ⟨x, H1, I1, r1, q1⟩ => ?_) hs hw
  rw [h1]
  exact thn (hg pins s1 σ H1 x v _ I1 r1 q1) fun _ s2 q => q
/-- name = value -/
theorem ps_set {i : Nat} {x : Str} {e : Expr} {te : TE} {pos' : Pos} (hN : X.N.Nodup) (hi : X.N[i]? = some x) (hx : Loc X.env.scope x) (he : PE X e te) (hs : swapsWith e (some (.Name x pos')) pos.line X.env = pure false := by rfl) (hf : X.fn x = true ∨ X.env.scope.names.lookup x = some .local := by first | exact .inl rfl | exact .inr rfl | assumption) :
    PS X (.Assign [.Name x pos'] e pos) (tAsg te (gName i)) := by
  intro pins s σ H D I h
  refine wpAny_Assign_Name (thn (he pins s σ H _ I h) fun v s1 ⟨y, H1, I1, r1, q1⟩ => ?_) hs
  exact store_ok I1 hN hi hx r1 (fun s2 I2 => ⟨_, H1, I2, q1⟩) hf
/-- a, b = x, y with plain local names: stored from the right; the pair itself is not tracked (the opening rows as in PyProof/Rows/TupAssign.lean:23) -/
def tPar (i j : Nat) (ta : TA) : TS := fun D σ H => ta σ H fun vs H1 => ∃ v w, vs = [v, w] ∧ D.nx ((σ.set i (some v)).set j (some w)) H1
theorem ps_par {i j : Nat} {x y : Str} {a b : Expr} {ta : TA} {px py pt : Pos} {kt k2 pt2} (hc : X.calm = true) (hN : X.N.Nodup) (hi : X.N[i]? = some x) (hj : X.N[j]? = some y) (hij : i ≠ j)
    (hx : X.env.scope.names.lookup x = some .local) (hy : X.env.scope.names.lookup y = some .local) (ha : PA X [a, b] ta)
    (hw : swappedStores [.Tuple [.Name x px, .Name y py] kt pt] (.Tuple [a, b] k2 pt2) X.env = pure (some [x, y]))
    (hs : swapsWithSole [.Tuple [.Name x px, .Name y py] kt pt] (.Tuple [a, b] k2 pt2) pos.line X.env = pure false := by rfl) :
    PS X (.Assign [.Tuple [.Name x px, .Name y py] kt pt] (.Tuple [a, b] k2 pt2) pos) (tPar i j ta) := by
  intro pins s σ H D I h
  rw [exec_Assign_arm]
  refine wpAny_bind (wpAny_standAt ?_)
  rw [hs]
  refine wpAny_bind (wpAny_pure ?_)
  rw [if_neg (by decide)]
  refine wpAny_bind (Tuple_ (thn (ha _ pins s σ H _ I h) fun us s1 ⟨vs, H1, I1, r1, q1⟩ => ?_))
  obtain ⟨v, w, e1, q1⟩ := q1
  subst e1
  obtain ⟨u1, u2, rfl, rv, rw'⟩ : ∃ u1 u2, us = [u1, u2] ∧ RelV v u1 ∧ RelV w u2 := by
    cases r1 with
    | cons p q =>
      cases q with
      | cons p' q' =>
        cases q'
        exact ⟨_, _, rfl, p, p'⟩
  refine wpAny_newObj_type ?_ (by show 2 ≤ sizeLine; decide)
  have I2 : Inv X pins σ H1 { s1 with heap := s1.heap.push { cls := .type "tuple", data := .seq [u1, u2].toArray } } := I1.kept (t' := s1.toks) fun b o e => Heap.get?_push_of_some _ e
  rw [hw]
  refine wpAny_bind (wpAny_pure ?_)
  show wpAny (model X.prog X.w) X.A (do rule "assign.swapped-stores"; let items ← unpackItems (.ref s1.heap.objs.size) 2 none; assignInOrder [fun v => bindName X.env y v, fun v => bindName X.env x v] items.reverse; pure Flow.next) _ _ _
  refine wpAny_bind (wpAny_rule (wpAny_bind (unpackItems_tuple (items := #[u1, u2]) (I.ok.hd hc) (IsTup.new s1.heap _) fun h' hx' => ?_)))
  have I3 := I2.kept (h' := h') (t' := s1.toks) fun b o e => hx' b o (Nat.ne_of_lt (Heap.lt_size e)) e
  show wpAny _ _ (assignInOrder [fun v => bindName X.env y v, fun v => bindName X.env x v] [u2, u1] >>= fun _ => pure Flow.next) _ _ _
  refine wpAny_bind (assignInOrder_cons (wpAny_bindName (store_ok I3 hN hj (.inl hy) rw' (fun s2 I4 => ?_) (.inr hy))))
  refine assignInOrder_cons (wpAny_bindName (store_ok I4 hN hi (.inl hx) rv (fun s3 I5 => assignInOrder_nil (wpAny_pure ?_)) (.inr hx)))
  rw [List.set_comm _ _ (Ne.symm hij)] at I5
  exact ⟨_, H1, I5, q1⟩
end

/-! ### while -/
section
variable {X : Cx} {pos : Pos}
/-- the invariant W with its measure -/
def tWhile (c : TT) (tb : TS) : TS := fun D σ H => ∃ W : Nat → St → Hp → Prop, (∃ m, W m σ H) ∧ ∀ m σ H, W m σ H →
  c σ H fun b H1 => if b = true then ∃ N : St → Hp → Prop, (∀ σ' H', N σ' H' → ∃ m', m' < m ∧ W m' σ' H') ∧ tb { D with nx := N, ct := N, bk := D.nx } σ H1 else D.nx σ H1
theorem ps_while {c : Expr} {body : List Stmt} {tc : TT} {tb : TS} (hp : PassesOwn (model X.prog X.w) X.A X.env X.xe) (hc : PT X c tc) (hb : PSs X body tb) : PS X (.While c body [] pos) (tWhile tc tb) := by
  intro pins s σ H D I h
  obtain ⟨W, ⟨m0, w0⟩, turn⟩ := h
  refine wpAny_While (codeAny_whileLoop (fun n s' => ∃ σ' H', Inv X pins σ' H' s' ∧ W n σ' H') ?_ m0 ⟨σ, H, I, w0⟩)
  rintro n s1 ⟨σ1, H1, I1, w1⟩
  refine wpAny_passesOwn hp (thn (hc pins s1 σ1 H1 _ I1 (turn n σ1 H1 w1)) fun b s2 ⟨H2, I2, q2⟩ => ?_)
  cases b with
  | true =>
    obtain ⟨N, hN, q2⟩ := q2
    rw [if_pos rfl]
    refine wpAny_passesOwn hp (thn (hb pins s2 σ1 H2 _ I2 q2) fun f s3 q3 => ?_)
    cases f with
    | next =>
      obtain ⟨σ3, H3, I3, n3⟩ := q3
      obtain ⟨m', hm, w3⟩ := hN σ3 H3 n3
      exact ⟨m', hm, σ3, H3, I3, w3⟩
    | cont =>
      obtain ⟨σ3, H3, I3, n3⟩ := q3
      obtain ⟨m', hm, w3⟩ := hN σ3 H3 n3
      exact ⟨m', hm, σ3, H3, I3, w3⟩
    | brk => exact q3
    | ret v => exact q3
  | false =>
    rw [if_neg Bool.false_ne_true]
    exact wpAny_execs_nil ⟨σ1, H2, I2, q2⟩
end

/-! ### what a loop or a comprehension walks -/
/-- at turn i: it yields x (the heap may grow), or it stops -/
structure It where
  go : Nat → Hp → Prop
  yld : Nat → Hp → V → Hp → Prop
  stop : Nat → Hp → Prop
/-- the iterator's own objects may turn: they are not the frame's, not pinned, younger than the entry (or a comprehension's own) -/
def FpOk (X : Cx) (pins : List (Addr × Obj)) (H : Hp) (b : Addr) : Prop :=
  H b = none ∧ b ≠ X.env.locals ∧ b ∉ X.fs ∧ (b ∈ X.ex ∨ X.s₀.heap.objs.size ≤ b) ∧ (∀ x c, X.env.cells.lookup x = some c → c ≠ b) ∧ ∀ p ∈ X.pn ++ pins, p.1 ≠ b
theorem Inv.fpOk {X : Cx} {pins : List (Addr × Obj)} {σ : St} {H H' : Hp} {s : Shared} {b : Addr} (I : Inv X pins σ H s) (hb : s.heap.objs.size ≤ b) (hn : H' b = none) : FpOk X pins H' b := by
  refine ⟨hn, Nat.ne_of_gt (Nat.lt_of_lt_of_le I.lt hb), I.nofs hb, .inr (Nat.le_trans I.sz hb), fun x c e z => ?_, fun p hp z => ?_⟩
  · obtain ⟨v, q⟩ := I.cell x c e
    exact absurd (Nat.lt_of_lt_of_le q.lt (by rw [z]; exact hb)) (Nat.lt_irrefl _)
  · exact absurd (Nat.lt_of_lt_of_le (Heap.lt_size (I.pin p hp).1) (by rw [z]; exact hb)) (Nat.lt_irrefl _)
structure Turn (P : Program) (w : World) (K : PySem.W.Frag) (tg : Expr) (J : It) (fp : List Addr) (it : Addr) (tn : Nat → Heap → Prop) : Prop where
  mem : it ∈ fp
  obj : ∀ i h, tn i h → ∀ b ∈ fp, ∃ o, h.get? b = some o ∧ ∀ v, o.data ≠ .cell v
  keep : ∀ i h h', tn i h → (∀ b ∈ fp, ∀ o, h.get? b = some o → h'.get? b = some o) → tn i h'
  item : ∀ (X : Cx), X.prog = P → X.w = w → X.K = K → X.calm = true → ∀ (i : Nat) (pins : List (Addr × Obj)) (s : Shared) (σ : St) (H : Hp) (E : Value → Shared → Prop), Inv X pins σ H s → (∀ b ∈ fp, FpOk X pins H b) → tn i s.heap → J.go i H →
    wpAny (model P w) X.A (pyNext (.ref it)) (fun r s1 => ∃ u, r = some u ∧
      wpAny (model P w) X.A (letOwnedTupleGo tg (.ref it) u) (fun _ s2 => ∃ x H', Inv X pins σ H' s2 ∧ RelV x u ∧ J.yld i H x H' ∧ tn (i + 1) s2.heap ∧ ∀ b ∈ fp, H' b = none) E s1) E s
  done : ∀ (X : Cx), X.prog = P → X.w = w → X.K = K → X.calm = true → ∀ (i : Nat) (pins : List (Addr × Obj)) (s : Shared) (σ : St) (H : Hp) (E : Value → Shared → Prop), Inv X pins σ H s → (∀ b ∈ fp, FpOk X pins H b) → tn i s.heap → J.stop i H →
    wpAny (model P w) X.A (pyNext (.ref it)) (fun r s1 => r = none ∧ Inv X pins σ H s1) E s
  self : ∀ (A : Around) (i : Nat) (s : Shared) (Q : Value → Shared → Prop) (E : Value → Shared → Prop), tn i s.heap → Q (.ref it) s → wpAny (model P w) A (pyIter (.ref it)) Q E s
abbrev TI := St → Hp → (It → Hp → Prop) → Prop
/-- an iterator has come -/
def PIE (X : Cx) (pins : List (Addr × Obj)) (σ : St) (tg : Expr) (R : It → Hp → Prop) (itv : Value) (s2 : Shared) : Prop :=
  ∃ (it : Addr) (fp : List Addr) (tn : Nat → Heap → Prop) (J : It) (H' : Hp), itv = .ref it ∧ Inv X pins σ H' s2 ∧ Turn X.prog X.w X.K tg J fp it tn ∧ tn 0 s2.heap ∧ (∀ b ∈ fp, FpOk X pins H' b) ∧ R J H'
def PI (X : Cx) (tg iter : Expr) (wi : TI) : Prop :=
  ∀ (pins : List (Addr × Obj)) (s : Shared) (σ : St) (H : Hp) (R : It → Hp → Prop), Inv X pins σ H s → wi σ H R →
    wpAny (model X.prog X.w) X.A (eval iter X.env) (fun v s1 => wpAny (model X.prog X.w) X.A (pyIter v) (PIE X pins σ tg R) X.xe s1) X.xe s

/-- the step ahead of the store is nothing for an iterator that keeps no tuple -/
theorem go_of {M : Model} {A : Around} {E : Value → Shared → Prop} {s : Shared} {tg : Expr} {it : Addr} {u : Value} {o : Obj} {n : String} {vs : Array Value} {Q : Unit → Shared → Prop} (ho : s.heap.get? it = some o) (hc : o.cls = .type n) (hd : o.data = .fields vs)
    (hn : ["enumerate", "zip", "dict_itemiterator", "dict_reverseitemiterator", "odict_iterator", "itertools.zip_longest", "itertools.pairwise"].contains n = false) (hQ : Q () s) : wpAny M A (letOwnedTupleGo tg (.ref it) u) Q E s := by
  unfold letOwnedTupleGo
  cases tg <;> first
    | exact wpAny_pure hQ
    | (cases u <;> first
        | exact wpAny_pure hQ
        | (refine wpAny_bind (wpAny_load ho ?_)
           rw [hc, hd]
           show wpAny M A (if (["enumerate", "zip", "dict_itemiterator", "dict_reverseitemiterator", "odict_iterator", "itertools.zip_longest", "itertools.pairwise"].contains n && vs[0]? == some (rawInt _)) = true then _ else _) Q E s
           rw [if_neg (by intro h; rw [hn, Bool.false_and] at h; cases h)]
           exact wpAny_pure hQ))

/-- the list at a, as it stands at each turn (a loop may append to it) -/
def Itl (K : PySem.W.Frag) (a : Addr) : It :=
  ⟨fun i H => ∃ xs x, SqL K H a xs ∧ xs[i]? = some x, fun i H x H' => H' = H ∧ ∀ xs, SqL K H a xs → xs[i]? = some x, fun i H => ∃ xs, SqL K H a xs ∧ xs.length ≤ i⟩
def Itt (K : PySem.W.Frag) (a : Addr) : It :=
  ⟨fun i H => ∃ xs x, SqT K H a xs ∧ xs[i]? = some x, fun i H x H' => H' = H ∧ ∀ xs, SqT K H a xs → xs[i]? = some x, fun i H => ∃ xs, SqT K H a xs ∧ xs.length ≤ i⟩
/-- lo, lo + 1, .. (n of them) -/
def Itr (lo : Int) (n : Nat) : It := ⟨fun i _ => i < n, fun i H x H' => H' = H ∧ x = .int (lo + i), fun i _ => n ≤ i⟩
theorem turn_list {P : Program} {w : World} {K : PySem.W.Frag} {tg : Expr} (a it : Addr) : Turn P w K tg (Itl K a) [it] it (fun i h => h.IsListIter it a i) where
  mem := by simp
  obj := fun i h st b hb => by
    have e : b = it := by simpa using hb
    subst e
    obtain ⟨o, e, c, d⟩ := st
    exact ⟨o, e, fun v z => by rw [d] at z; cases z⟩
  keep := fun i h h' st k => st.at fun o e => k it (by simp) o e
  item := by
    intro X hP hw hK hc i pins s σ H E I hf st hg
    subst hP hw hK
    obtain ⟨xs, x, hq, hx⟩ := hg
    obtain ⟨its, rv, p, hz⟩ := I.list hq
    obtain ⟨u, hu, ru⟩ := rv.get hx
    obtain ⟨f0, f1, f2, f3, f4, f5⟩ := hf it (by simp)
    refine wpAny_pyNext_list_item st p.isList (x := u) (by simpa using hu) fun h' st' sb => ?_
    have I1 : Inv X pins σ H { s with heap := h' } := I.turned (t' := s.toks) (fun b o hb e => (sb.2 b hb).trans e) f0 f1 f3 f4 f5
    obtain ⟨o, e, c, d⟩ := id st'
    exact ⟨u, rfl, go_of (s := { s with heap := h' }) e c d (by decide) ⟨x, H, I1, ru, ⟨rfl, fun ys hy => by rw [I.list_inj hy hq]; exact hx⟩, st', fun b hb => (hf b hb).1⟩⟩
  done := by
    intro X hP hw hK hc i pins s σ H E I hf st hg
    subst hP hw hK
    obtain ⟨xs, hq, hx⟩ := hg
    obtain ⟨its, rv, p, hz⟩ := I.list hq
    obtain ⟨f0, f1, f2, f3, f4, f5⟩ := hf it (by simp)
    have hl := rv.length
    exact wpAny_pyNext_list_end (I.ok.hd hc) st p.isList (by simp; omega) fun h' eb => ⟨rfl, I.turned (t' := s.toks) (fun b o hb e => eb b o hb e) f0 f1 f3 f4 f5⟩
  self := fun _ _ _ _ _ st h => wpAny_pyIter_listiter st h
theorem turn_tuple {P : Program} {w : World} {K : PySem.W.Frag} {tg : Expr} (a it : Addr) : Turn P w K tg (Itt K a) [it] it (fun i h => h.IsTupleIter it a i) where
  mem := by simp
  obj := fun i h st b hb => by
    have e : b = it := by simpa using hb
    subst e
    obtain ⟨o, e, c, d⟩ := st
    exact ⟨o, e, fun v z => by rw [d] at z; cases z⟩
  keep := fun i h h' st k => st.at fun o e => k it (by simp) o e
  item := by
    intro X hP hw hK hc i pins s σ H E I hf st hg
    subst hP hw hK
    obtain ⟨xs, x, hq, hx⟩ := hg
    obtain ⟨its, rv, p, hz⟩ := I.tuple hq
    obtain ⟨u, hu, ru⟩ := rv.get hx
    obtain ⟨f0, f1, f2, f3, f4, f5⟩ := hf it (by simp)
    refine wpAny_pyNext_tuple_item st (show s.heap.IsTuple a its.toArray from p) (x := u) (by simpa using hu) fun h' st' sb => ?_
    have I1 : Inv X pins σ H { s with heap := h' } := I.turned (t' := s.toks) (fun b o hb e => (sb.2 b hb).trans e) f0 f1 f3 f4 f5
    obtain ⟨o, e, c, d⟩ := id st'
    exact ⟨u, rfl, go_of (s := { s with heap := h' }) e c d (by decide) ⟨x, H, I1, ru, ⟨rfl, fun ys hy => by rw [I.tuple_inj hy hq]; exact hx⟩, st', fun b hb => (hf b hb).1⟩⟩
  done := by
    intro X hP hw hK hc i pins s σ H E I hf st hg
    subst hP hw hK
    obtain ⟨xs, hq, hx⟩ := hg
    obtain ⟨its, rv, p, hz⟩ := I.tuple hq
    obtain ⟨f0, f1, f2, f3, f4, f5⟩ := hf it (by simp)
    have hl := rv.length
    exact wpAny_pyNext_tuple_end (I.ok.hd hc) st (show s.heap.IsTuple a its.toArray from p) (by simp; omega) fun h' eb => ⟨rfl, I.turned (t' := s.toks) (fun b o hb e => eb b o hb e) f0 f1 f3 f4 f5⟩
  self := fun _ _ _ _ _ st h => wpAny_pyIter_tupleiter st h
theorem turn_range {P : Program} {w : World} {K : PySem.W.Frag} {tg : Expr} (it : Addr) (lo : Int) (n : Nat) : Turn P w K tg (Itr lo n) [it] it (fun i h => IsRangeIter h it (lo + (i : Nat) * 1) ((n : Int) - (i : Nat)) 1) where
  mem := by simp
  obj := fun i h st b hb => by
    have e : b = it := by simpa using hb
    subst e
    exact ⟨_, st, fun v z => by
      have z' : Data.fields _ = Data.cell v := z
      cases z'⟩
  keep := fun i h h' st k => k it (by simp) _ st
  item := by
    intro X hP hw hK hc i pins s σ H E I hf st hg
    subst hP hw hK
    obtain ⟨f0, f1, f2, f3, f4, f5⟩ := hf it (by simp)
    have W := Walks.range (prog := X.prog) (w := X.w) (I.ok.hd hc) it lo 1 n
    refine W.item i s _ _ hg st fun v h' tk hv st' kk => ?_
    obtain ⟨t, rfl⟩ := hv
    have I1 : Inv X pins σ H { s with heap := h', toks := tk } := I.turned (fun b o hb e => kk b o (by simpa using hb) e) f0 f1 f3 f4 f5
    refine ⟨_, rfl, go_of (s := { s with heap := h', toks := tk }) (n := "range_iterator") st' rfl rfl (by decide) ⟨.int (lo + i), H, I1, ⟨t, ?_⟩, ⟨rfl, rfl⟩, st', fun b hb => (hf b hb).1⟩⟩
    rw [Int.mul_one]
  done := by
    intro X hP hw hK hc i pins s σ H E I hf st hg
    subst hP hw hK
    obtain ⟨f0, f1, f2, f3, f4, f5⟩ := hf it (by simp)
    exact wpAny_pyNext_range_end (I.ok.hd hc) st (by have : n ≤ i := hg; omega) fun h' eb => ⟨rfl, I.turned (t' := s.toks) (fun b o hb e => eb b o hb e) f0 f1 f3 f4 f5⟩
  self := fun _ _ _ _ _ st h => wpAny_pyIter_rangeiter st h
end L2

namespace L2
open PySem PySem.Spec PyProof.Rows
section
variable {X : Cx} {tg : Expr}
def iList (K : PySem.W.Frag) (tl : TE) : TI := fun σ H R => tl σ H fun x H1 => ∃ a, x = .ref a ∧ (∃ xs, SqL K H1 a xs) ∧ R (Itl K a) H1
def iTup (K : PySem.W.Frag) (tl : TE) : TI := fun σ H R => tl σ H fun x H1 => ∃ a, x = .ref a ∧ (∃ xs, SqT K H1 a xs) ∧ R (Itt K a) H1
theorem pi_list {l : Expr} {tl : TE} (hl : PE X l tl) : PI X tg l (iList X.K tl) := by
  intro pins s σ H R I h
  refine thn (hl pins s σ H _ I h) fun v s1 ⟨x, H1, I1, r1, q1⟩ => ?_
  obtain ⟨a, e, ⟨xs, hq⟩, q⟩ := q1
  subst e
  cases r1
  obtain ⟨its, rv, p, hz⟩ := I1.list hq
  refine wpAny_pyIter_list p.isList ?_
  refine ⟨s1.heap.objs.size, [s1.heap.objs.size], _, _, H1, rfl, I1.kept (t' := s1.toks) fun b o e => Heap.get?_push_of_some _ e, turn_list a _, ⟨_, Heap.get?_push_size _ rfl, rfl, rfl⟩, fun b hb => ?_, q⟩
  have e : b = s1.heap.objs.size := by simpa using hb
  subst e
  exact I1.fpOk (Nat.le_refl _) (I1.hok.fresh (Nat.le_refl _))
theorem pi_tup {l : Expr} {tl : TE} (hl : PE X l tl) : PI X tg l (iTup X.K tl) := by
  intro pins s σ H R I h
  refine thn (hl pins s σ H _ I h) fun v s1 ⟨x, H1, I1, r1, q1⟩ => ?_
  obtain ⟨a, e, ⟨xs, hq⟩, q⟩ := q1
  subst e
  cases r1
  obtain ⟨its, rv, p, hz⟩ := I1.tuple hq
  refine wpAny_pyIter_tuple (show s1.heap.IsTuple a its.toArray from p) ?_
  refine ⟨s1.heap.objs.size, [s1.heap.objs.size], _, _, H1, rfl, I1.kept (t' := s1.toks) fun b o e => Heap.get?_push_of_some _ e, turn_tuple a _, ⟨_, Heap.get?_push_size _ rfl, rfl, rfl⟩, fun b hb => ?_, q⟩
  have e : b = s1.heap.objs.size := by simpa using hb
  subst e
  exact I1.fpOk (Nat.le_refl _) (I1.hok.fresh (Nat.le_refl _))
/-- a range object just made, walked -/
theorem range_it {pins : List (Addr × Obj)} {σ : St} {H : Hp} {s : Shared} {R : It → Hp → Prop} {E : Value → Shared → Prop} {lo hi : Int} {t u v : Tok} {tk : Nat} (I : Inv X pins σ H s) (h1 : -(2 ^ 62) ≤ lo) (h2 : lo < 2 ^ 62) (h3 : -(2 ^ 62) ≤ hi) (h4 : hi < 2 ^ 62)
    (q : R (Itr lo (hi - lo).toNat) H) : wpAny (model X.prog X.w) X.A (pyIter (.ref s.heap.objs.size)) (PIE X pins σ tg R) E { s with heap := s.heap.push { cls := .type "range", data := .fields #[.int lo t, .int hi u, .int 1 v] }, toks := tk } := by
  refine wpAny_pyIter_range (IsRange.new ..) (small_one h1 h2 h3 h4) ?_
  have I1 : Inv X pins σ H { s with heap := s.heap.push { cls := .type "range", data := .fields #[.int lo t, .int hi u, .int 1 v] }, toks := tk } := I.kept fun b o e => Heap.get?_push_of_some _ e
  refine ⟨(s.heap.push { cls := .type "range", data := .fields #[.int lo t, .int hi u, .int 1 v] }).objs.size, [(s.heap.push { cls := .type "range", data := .fields #[.int lo t, .int hi u, .int 1 v] }).objs.size], _, _, H, rfl,
    I1.kept (t' := tk) fun b o e => Heap.get?_push_of_some _ e, turn_range _ lo (hi - lo).toNat, ?_, fun b hb => ?_, q⟩
  · have e1 : lo + ((0 : Nat) : Int) * 1 = lo := by simp
    have e2 : (((hi - lo).toNat : Nat) : Int) - ((0 : Nat) : Int) = Builtin.Range.rangeSize lo hi 1 := by rw [rangeSize_one]; split <;> omega
    show IsRangeIter _ _ (lo + ((0 : Nat) : Int) * 1) ((((hi - lo).toNat : Nat) : Int) - ((0 : Nat) : Int)) 1
    rw [e1, e2]
    exact Heap.get?_push_size _ rfl
  · have e : b = (s.heap.push { cls := .type "range", data := .fields #[.int lo t, .int hi u, .int 1 v] }).objs.size := by simpa using hb
    subst e
    exact I1.fpOk (Nat.le_refl _) (I1.hok.fresh (Nat.le_refl _))
def iRng1 (ta : TA) : TI := fun σ H R => ta σ H fun vs H1 => ∃ j : Int, vs = [.int j] ∧ -(2 ^ 62) ≤ j ∧ j < 2 ^ 62 ∧ R (Itr 0 j.toNat) H1
theorem pi_range1 {a : Expr} {ta : TA} {p pos : Pos} (hg : Gl X "range") (hm : X.mg "range" = none) (ha : PA X [a] ta) (hs : starEach [a] X.env = [(false, eval a X.env)] := by rfl) : PI X tg (.Call (.Name "range" p) [a] [] pos) (iRng1 ta) := by
  intro pins s σ H R I h
  refine Call_ (ld_blt I hg hm boot_range (PyProof.Rows.callWith_type1 (thn (ha pos pins s σ H _ I h) fun us s1 ⟨vs, H1, I1, r1, q1⟩ => ?_) hs rfl))
  obtain ⟨j, e, q1, q2, q⟩ := q1
  subst e
  cases r1 with
  | cons r rr =>
    cases rr
    obtain ⟨t, rfl⟩ := r
    exact call_range_1 (range_it I1 (by omega) (by omega) q1 q2 (by simpa using q))

/-! ### for -/
/-- W: the invariant by the turn and a measure; N: what the body is to reach -/
def tFor (wi : TI) (g : TG) (tb : TS) : TS := fun D σ H => wi σ H fun J H1 => ∃ W : Nat → Nat → St → Hp → Prop, (∃ m, W 0 m σ H1) ∧ ∀ i m σ H, W i m σ H →
  (J.stop i H ∧ D.nx σ H) ∨ (J.go i H ∧ ∃ N : St → Hp → Prop, (∀ σ' H', N σ' H' → ∃ m', m' < m ∧ W (i + 1) m' σ' H') ∧ ∀ x H', J.yld i H x H' → g x σ H' fun σ2 H2 => tb { D with nx := N, ct := N, bk := D.nx } σ2 H2)
/-- the records at fp as they stand -/
def pinsAt (fp : List Addr) (h : Heap) : List (Addr × Obj) := fp.filterMap fun b => (h.get? b).map fun o => (b, o)
theorem mem_pinsAt {fp : List Addr} {h : Heap} {b : Addr} {o : Obj} (hb : b ∈ fp) (e : h.get? b = some o) : (b, o) ∈ pinsAt fp h := List.mem_filterMap.mpr ⟨b, hb, by rw [e]; rfl⟩
theorem of_pinsAt {fp : List Addr} {h : Heap} {p : Addr × Obj} (hp : p ∈ pinsAt fp h) : p.1 ∈ fp ∧ h.get? p.1 = some p.2 := by
  obtain ⟨b, hb, e⟩ := List.mem_filterMap.mp hp
  cases q : h.get? b with
  | none => rw [q] at e; cases e
  | some o =>
    rw [q] at e
    have e' : (b, o) = p := Option.some.inj e
    subst e'
    exact ⟨hb, q⟩
theorem Inv.pinned {pins : List (Addr × Obj)} {σ : St} {H : Hp} {s : Shared} {fp : List Addr} (I : Inv X pins σ H s) (hf : ∀ b ∈ fp, FpOk X pins H b) (ho : ∀ b ∈ fp, ∃ o, s.heap.get? b = some o ∧ ∀ v, o.data ≠ .cell v) : Inv X (pins ++ pinsAt fp s.heap) σ H s :=
  I.pins_of fun p hp => (List.mem_append.mp hp).elim (fun z => I.pin p (List.mem_append_right _ z)) fun z => by
    obtain ⟨hb, e⟩ := of_pinsAt z
    obtain ⟨f0, f1, f2, _⟩ := hf p.1 hb
    obtain ⟨o, e', d⟩ := ho p.1 hb
    rw [e] at e'; cases e'
    exact ⟨e, f0, f1, f2, d⟩
theorem Inv.unpinned {pins pl : List (Addr × Obj)} {σ : St} {H : Hp} {s : Shared} (I : Inv X (pins ++ pl) σ H s) : Inv X pins σ H s := I.pins_of fun p hp => I.pin p (List.mem_append_right _ (List.mem_append_left _ hp))
theorem ps_for {iter : Expr} {body : List Stmt} {wi : TI} {g : TG} {tb : TS} {pos : Pos} (hp : PassesOwn (model X.prog X.w) X.A X.env X.xe) (hc : X.calm = true) (hi : PI X tg iter wi) (hg : PG X tg g) (hb : PSs X body tb)
    (hs : ∀ x, foldedSetIterable iter X.env x = pure x := by intro _; rfl) : PS X (.For tg iter body [] pos) (tFor wi g tb) := by
  intro pins s σ H D I h
  refine wpAny_For (thn (hi pins s σ H _ I h) fun v s1 h1 => thn h1 fun itv s2 h2 => ?_) hs
  obtain ⟨it, fp, tn, J, H2, e, I2, T, st2, f2, W, ⟨m0, w0⟩, turn⟩ := h2
  subst e
  -- what stays true of the iterator's objects through the loop
  have stat : ∀ {H' : Hp}, (∀ b ∈ fp, H' b = none) → ∀ b ∈ fp, FpOk X pins H' b := fun hn b hb => ⟨hn b hb, (f2 b hb).2⟩
  refine codeAny_forLoop_any (fun n s' => ∃ i σ' H', Inv X pins σ' H' s' ∧ tn i s'.heap ∧ (∀ b ∈ fp, H' b = none) ∧ W i n σ' H') ?_ m0 ⟨0, σ, H2, I2, st2, fun b hb => (f2 b hb).1, w0⟩
  rintro n s3 ⟨i, σ3, H3, I3, st3, fr3, w3⟩
  rcases turn i n σ3 H3 w3 with ⟨stop, qn⟩ | ⟨go, N, hN, step⟩
  · refine wpAny_passesOwn hp (thn (T.done X rfl rfl rfl hc i pins s3 σ3 H3 X.xe I3 (stat fr3) st3 stop) fun r s4 ⟨hr, I4⟩ => ?_)
    subst hr
    exact wpAny_execs_nil ⟨σ3, H3, I4, qn⟩
  · refine wpAny_passesOwn hp (thn (T.item X rfl rfl rfl hc i pins s3 σ3 H3 X.xe I3 (stat fr3) st3 go) fun r s4 ⟨u, hr, h4⟩ => ?_)
    subst hr
    refine wpAny_passesOwn hp (thn h4 fun _ s5 ⟨x, H5, I5, r5, y5, st5, fr5⟩ => ?_)
    have I5' := I5.pinned (stat fr5) (T.obj _ _ st5)
    refine wpAny_passesOwn hp (thn (hg _ s5 σ3 H5 x u _ I5' r5 (step x H5 y5)) fun _ s6 ⟨σ6, H6, I6, q6⟩ => ?_)
    refine wpAny_passesOwn hp (thn (hb _ s6 σ6 H6 _ I6 q6) fun f s7 q7 => ?_)
    have again : ∀ {σ7 : St} {H7 : Hp}, Inv X (pins ++ pinsAt fp s5.heap) σ7 H7 s7 → N σ7 H7 → ∃ m, m < n ∧ ∃ i σ' H', Inv X pins σ' H' s7 ∧ tn i s7.heap ∧ (∀ b ∈ fp, H' b = none) ∧ W i m σ' H' := fun {σ7 H7} I7 n7 => by
      obtain ⟨m', hm, w7⟩ := hN σ7 H7 n7
      refine ⟨m', hm, i + 1, σ7, H7, I7.unpinned, T.keep _ _ _ st5 fun b hb o e => (I7.pin (b, o) (List.mem_append_right _ (List.mem_append_right _ (mem_pinsAt hb e)))).1, fun b hb => ?_, w7⟩
      obtain ⟨o, e, d⟩ := T.obj _ _ st5 b hb
      exact (I7.pin (b, o) (List.mem_append_right _ (List.mem_append_right _ (mem_pinsAt hb e)))).2.1
    cases f with
    | next => obtain ⟨σ7, H7, I7, n7⟩ := q7; exact again I7 n7
    | cont => obtain ⟨σ7, H7, I7, n7⟩ := q7; exact again I7 n7
    | brk => obtain ⟨σ7, H7, I7, q7⟩ := q7; exact ⟨σ7, H7, I7.unpinned, q7⟩
    | ret v => obtain ⟨x7, σ7, H7, I7, r7, q7⟩ := q7; exact ⟨x7, σ7, H7, I7.unpinned, r7, q7⟩
end

/-! ### the forms one uses -/
/-- over a list that the body leaves as it is -/
theorem for_list {K : PySem.W.Frag} {a : Addr} {xs : List V} {g : TG} {tb : TS} {D : Ends} {σ : St} {H : Hp} (Pv : Nat → St → Hp → Prop) (h0 : Pv 0 σ H) (hl : ∀ i σ H, i ≤ xs.length → Pv i σ H → SqL K H a xs)
    (hs : ∀ i x σ H, xs[i]? = some x → Pv i σ H → g x σ H fun σ2 H2 => tb { D with nx := Pv (i + 1), ct := Pv (i + 1), bk := D.nx } σ2 H2) (hd : ∀ σ H, Pv xs.length σ H → D.nx σ H) :
    ∃ W : Nat → Nat → St → Hp → Prop, (∃ m, W 0 m σ H) ∧ ∀ i m σ H, W i m σ H →
      ((Itl K a).stop i H ∧ D.nx σ H) ∨ ((Itl K a).go i H ∧ ∃ N : St → Hp → Prop, (∀ σ' H', N σ' H' → ∃ m', m' < m ∧ W (i + 1) m' σ' H') ∧ ∀ x H', (Itl K a).yld i H x H' → g x σ H' fun σ2 H2 => tb { D with nx := N, ct := N, bk := D.nx } σ2 H2) := by
  refine ⟨fun i m σ H => m = xs.length - i ∧ i ≤ xs.length ∧ Pv i σ H, ⟨xs.length, by simp, Nat.zero_le _, h0⟩, ?_⟩
  rintro i m σ H ⟨rfl, hi, p⟩
  have q := hl i σ H hi p
  by_cases hlt : i < xs.length
  · refine .inr ⟨⟨xs, xs[i], q, by simp [hlt]⟩, Pv (i + 1), fun σ' H' p' => ⟨xs.length - (i + 1), by omega, rfl, hlt, p'⟩, fun x H' y => ?_⟩
    obtain ⟨e, y⟩ := y
    subst e
    exact hs i x σ _ (y xs q) p
  · have e : i = xs.length := by omega
    subst e
    exact .inl ⟨⟨xs, q, Nat.le_refl _⟩, hd σ H p⟩
theorem for_range {lo : Int} {n : Nat} {g : TG} {tb : TS} {D : Ends} {σ : St} {H : Hp} (Pv : Nat → St → Hp → Prop) (h0 : Pv 0 σ H)
    (hs : ∀ i σ H, i < n → Pv i σ H → g (.int (lo + i)) σ H fun σ2 H2 => tb { D with nx := Pv (i + 1), ct := Pv (i + 1), bk := D.nx } σ2 H2) (hd : ∀ σ H, Pv n σ H → D.nx σ H) :
    ∃ W : Nat → Nat → St → Hp → Prop, (∃ m, W 0 m σ H) ∧ ∀ i m σ H, W i m σ H →
      ((Itr lo n).stop i H ∧ D.nx σ H) ∨ ((Itr lo n).go i H ∧ ∃ N : St → Hp → Prop, (∀ σ' H', N σ' H' → ∃ m', m' < m ∧ W (i + 1) m' σ' H') ∧ ∀ x H', (Itr lo n).yld i H x H' → g x σ H' fun σ2 H2 => tb { D with nx := N, ct := N, bk := D.nx } σ2 H2) := by
  refine ⟨fun i m σ H => m = n - i ∧ i ≤ n ∧ Pv i σ H, ⟨n, by simp, Nat.zero_le _, h0⟩, ?_⟩
  rintro i m σ H ⟨rfl, hi, p⟩
  by_cases hlt : i < n
  · refine .inr ⟨hlt, Pv (i + 1), fun σ' H' p' => ⟨n - (i + 1), by omega, rfl, hlt, p'⟩, fun x H' y => ?_⟩
    obtain ⟨e, y⟩ := y
    subst e y
    exact hs i σ _ hlt p
  · have e : i = n := by omega
    subst e
    exact .inl ⟨Nat.le_refl _, hd σ H p⟩
/-- while, by a word and a measure of the state -/
theorem while_by {c : TT} {tb : TS} {D : Ends} {σ : St} {H : Hp} (Pv : St → Hp → Prop) (μ : St → Hp → Nat) (h0 : Pv σ H)
    (hs : ∀ σ H, Pv σ H → c σ H fun b H1 => if b = true then tb { D with nx := fun σ' H' => Pv σ' H' ∧ μ σ' H' < μ σ H, ct := fun σ' H' => Pv σ' H' ∧ μ σ' H' < μ σ H, bk := D.nx } σ H1 else D.nx σ H1)
    (mono : ∀ σ H Q Q', (∀ b H1, Q b H1 → Q' b H1) → c σ H Q → c σ H Q') : tWhile c tb D σ H := by
  refine ⟨fun m σ H => m = μ σ H ∧ Pv σ H, ⟨_, rfl, h0⟩, ?_⟩
  rintro m σ H ⟨rfl, p⟩
  refine mono σ H _ _ (fun b H1 q => ?_) (hs σ H p)
  cases b with
  | true => exact ⟨_, fun σ' H' ⟨p', l⟩ => ⟨_, l, rfl, p'⟩, q⟩
  | false => exact q
end L2

namespace L2
open PySem PySem.Spec PyProof.Rows

abbrev R2 := V → V → Hp → VK → Prop
/-- a two-place operation on values: f is binaryOp op, inplaceOp op or compareOp op -/
def OpR (X : Cx) (f : Value → Value → Sem Value) (r : R2) : Prop :=
  ∀ (pins : List (Addr × Obj)) (s : Shared) (σ : St) (H : Hp) (x y : V) (v u : Value) (Q : VK), Inv X pins σ H s → RelV x v → RelV y u → r x y H Q →
    wpAny (model X.prog X.w) X.A (f v u) (EP X pins σ Q) X.xe s
/-- a one-place operation -/
def UnR (X : Cx) (f : Value → Sem Value) (r : V → Hp → VK → Prop) : Prop :=
  ∀ (pins : List (Addr × Obj)) (s : Shared) (σ : St) (H : Hp) (x : V) (v : Value) (Q : VK), Inv X pins σ H s → RelV x v → r x H Q →
    wpAny (model X.prog X.w) X.A (f v) (EP X pins σ Q) X.xe s
/-- a call of a value that is known (a builtin, a type) with values -/
def CallR (X : Cx) (f : Value) (r : List V → Hp → VK → Prop) : Prop :=
  ∀ (pins : List (Addr × Obj)) (s : Shared) (σ : St) (H : Hp) (xs : List V) (us : List Value) (Q : VK), Inv X pins σ H s → Vals xs us → r xs H Q →
    wpAny (model X.prog X.w) X.A (call f us) (EP X pins σ Q) X.xe s

def tOp (r : R2) (ta tb : TE) : TE := fun σ H Q => ta σ H fun x H1 => tb σ H1 fun y H2 => r x y H2 Q
def tUn (r : V → Hp → VK → Prop) (ta : TE) : TE := fun σ H Q => ta σ H fun x H1 => r x H1 Q
/-- ints in, under C, and a value out -/
def rI (C : Int → Int → Prop) (g : Int → Int → V) : R2 := fun x y H Q => ∃ i j, x = .int i ∧ y = .int j ∧ C i j ∧ Q (g i j) H
def rI0 (g : Int → Int → V) : R2 := fun x y H Q => ∃ i j, x = .int i ∧ y = .int j ∧ Q (g i j) H
def rU (g : Int → V) : V → Hp → VK → Prop := fun x H Q => ∃ i, x = .int i ∧ Q (g i) H

section
variable {X : Cx} {a b c : Expr} {ta tb tc : TE} {pos : Pos}

theorem binT (ha : PE X a ta) (hb : PE X b tb) {pins : List (Addr × Obj)} {s : Shared} {σ : St} {H : Hp} {R : V → V → Hp → Prop} (I : Inv X pins σ H s)
    (h : ta σ H fun x H1 => tb σ H1 fun y H2 => R x y H2) {Q : Value → Shared → Prop} {f : Value → Value → Sem Value}
    (hf : ∀ v u s2 x y H2, Inv X pins σ H2 s2 → RelV x v → RelV y u → R x y H2 → wpAny (model X.prog X.w) X.A (f v u) Q X.xe s2) :
    wpAny (model X.prog X.w) X.A (eval a X.env) (fun v s₁ => wpAny (model X.prog X.w) X.A (eval b X.env) (fun u s₂ => wpAny (model X.prog X.w) X.A (f v u) Q X.xe s₂) X.xe s₁) X.xe s := by
  refine thn (ha pins s σ H _ I h) fun v s1 ⟨x, H1, I1, r1, q1⟩ => ?_
  refine thn (hb pins s1 σ H1 _ I1 q1) fun u s2 ⟨y, H2, I2, r2, q2⟩ => ?_
  exact hf v u s2 x y H2 I2 r1 r2 q2

theorem pe_op {op : Operator} {r : R2} (ho : OpR X (binaryOp op) r) (ha : PE X a ta) (hb : PE X b tb) : PE X (.BinOp a op b pos) (tOp r ta tb) := by
  intro pins s σ H Q I h
  exact wpAny_BinOp (binT ha hb I h fun v u s2 x y H2 I2 rx ry q => ho pins s2 σ H2 x y v u Q I2 rx ry q)
theorem pe_un {op : UnaryOp} {r : V → Hp → VK → Prop} (ho : UnR X (unaryOp op) r) (ha : PE X a ta) : PE X (.UnaryOp op a pos) (tUn r ta) := by
  intro pins s σ H Q I h
  exact UnaryOp_ (thn (ha pins s σ H _ I h) fun v s1 ⟨x, H1, I1, r1, q1⟩ => ho pins s1 σ H1 x v Q I1 r1 q1)

/-! ### ints -/
theorem opI {f : Value → Value → Sem Value} {C : Int → Int → Prop} {g : Int → Int → Int}
    (rule : ∀ (i j : Int) (t u : Tok) (s : Shared) (Q : Value → Shared → Prop) (E : Value → Shared → Prop), C i j → Q (.int (g i j) s.toks) { s with toks := s.toks + 1 } → wpAny (model X.prog X.w) X.A (f (.int i t) (.int j u)) Q E s) :
    OpR X f (rI C fun i j => .int (g i j)) := by
  intro pins s σ H x y v u Q I rx ry h
  obtain ⟨i, j, rfl, rfl, hc, q⟩ := h
  obtain ⟨t, rfl⟩ := rx
  obtain ⟨t', rfl⟩ := ry
  exact rule i j t t' s _ _ hc ⟨.int (g i j), H, I.tok _, ⟨_, rfl⟩, q⟩
theorem opI0 {f : Value → Value → Sem Value} {g : Int → Int → Int}
    (rule : ∀ (i j : Int) (t u : Tok) (s : Shared) (Q : Value → Shared → Prop) (E : Value → Shared → Prop), Q (.int (g i j) s.toks) { s with toks := s.toks + 1 } → wpAny (model X.prog X.w) X.A (f (.int i t) (.int j u)) Q E s) :
    OpR X f (rI0 fun i j => .int (g i j)) := by
  intro pins s σ H x y v u Q I rx ry h
  obtain ⟨i, j, rfl, rfl, q⟩ := h
  obtain ⟨t, rfl⟩ := rx
  obtain ⟨t', rfl⟩ := ry
  exact rule i j t t' s _ _ ⟨.int (g i j), H, I.tok _, ⟨_, rfl⟩, q⟩
theorem opB0 {f : Value → Value → Sem Value} {g : Int → Int → Bool}
    (rule : ∀ (i j : Int) (t u : Tok) (s : Shared) (Q : Value → Shared → Prop) (E : Value → Shared → Prop), Q (.bool (g i j)) s → wpAny (model X.prog X.w) X.A (f (.int i t) (.int j u)) Q E s) :
    OpR X f (rI0 fun i j => .bl (g i j)) := by
  intro pins s σ H x y v u Q I rx ry h
  obtain ⟨i, j, rfl, rfl, q⟩ := h
  obtain ⟨t, rfl⟩ := rx
  obtain ⟨t', rfl⟩ := ry
  exact rule i j t t' s _ _ ⟨.bl (g i j), H, I, rfl, q⟩

def CPow (i j : Int) : Prop := 0 ≤ j ∧ j ≤ 1000000 ∧ i.natAbs < 2 ^ 64
def CMul (i j : Int) : Prop := (-(2 ^ 64) < i ∧ i < 2 ^ 64) ∨ (-(2 ^ 64) < j ∧ j < 2 ^ 64)
theorem CMul.ok {i j : Int} (h : CMul i j) : IntMulOk i j := by
  rcases h with ⟨h1, h2⟩ | ⟨h1, h2⟩
  · exact .of_left (intBits_le_64 h1 h2)
  · exact .of_right (intBits_le_64 h1 h2)

theorem op_add : OpR X (binaryOp .Add) (rI0 fun i j => .int (i + j)) := opI0 fun _ _ _ _ _ _ _ q => add_int q
theorem op_sub : OpR X (binaryOp .Sub) (rI0 fun i j => .int (i - j)) := opI0 fun _ _ _ _ _ _ _ q => sub_int q
theorem op_mul : OpR X (binaryOp .Mult) (rI CMul fun i j => .int (i * j)) := opI fun _ _ _ _ _ _ _ hc q => mul_int q hc.ok
/-- % by a positive divisor of any size -/
theorem op_mod : OpR X (binaryOp .Mod) (rI (fun _ j => 0 < j) fun i j => .int (i % j)) := opI fun i j _ _ _ _ _ hc q => by
  have h1 : (0 : Int) < j := hc
  exact mod_int' (by omega) (by rw [Int.fmod_eq_emod_of_nonneg i (by omega)]; exact q)
theorem op_pow : OpR X (binaryOp .Pow) (rI CPow fun i j => .int (i ^ j.toNat)) := opI fun _ _ _ _ _ _ _ hc q => pow_int_small hc.1 hc.2.1 hc.2.2 q


theorem unI {f : Value → Sem Value} {g : Int → Int}
    (rule : ∀ (i : Int) (t : Tok) (s : Shared) (Q : Value → Shared → Prop) (E : Value → Shared → Prop), Q (.int (g i) s.toks) { s with toks := s.toks + 1 } → wpAny (model X.prog X.w) X.A (f (.int i t)) Q E s) :
    UnR X f (rU fun i => .int (g i)) := by
  intro pins s σ H x v Q I rx h
  obtain ⟨i, rfl, q⟩ := h
  obtain ⟨t, rfl⟩ := rx
  exact rule i t s _ _ ⟨.int (g i), H, I.tok _, ⟨_, rfl⟩, q⟩
theorem un_neg : UnR X (unaryOp .USub) (rU fun i => .int (-i)) := unI fun _ _ _ _ _ q => neg_int q

/-! ### bools among ints: n += (a < b) -/
end

/-! ### comparisons -/
/-- the scalars that == tells apart as data does -/
def scal : V → V → Bool
  | .non, .non => true | .non, .int _ => true | .int _, .non => true | .non, .bl _ => true | .bl _, .non => true | .non, .str _ => true | .str _, .non => true
  | .int _, .int _ => true | .bl _, .bl _ => true | .str _, .str _ => true | .byt _, .byt _ => true
  | .int _, .str _ => true | .str _, .int _ => true | .bl _, .str _ => true | .str _, .bl _ => true
  | _, _ => false
def rEq : R2 := fun x y H Q => scal x y = true ∧ Q (.bl (decide (x = y))) H
def rNe : R2 := fun x y H Q => scal x y = true ∧ Q (.bl (!decide (x = y))) H

theorem dec_int {i j : Int} : decide (V.int i = V.int j) = (i == j) := by
  rw [Bool.eq_iff_iff]
  simp
theorem dec_bl {i j : Bool} : decide (V.bl i = V.bl j) = (i == j) := by
  rw [Bool.eq_iff_iff]
  simp
theorem dec_str {i j : Str} : decide (V.str i = V.str j) = (i == j) := by
  rw [Bool.eq_iff_iff]
  simp
theorem dec_byt {i j : Array UInt8} : decide (V.byt i = V.byt j) = (i.toList == j.toList) := by
  rw [Bool.eq_iff_iff]
  cases i
  cases j
  simp

section
variable {X : Cx} {a b c : Expr} {ta tb tc : TE} {pos : Pos}
theorem fin_bl {pins : List (Addr × Obj)} {σ : St} {H : Hp} {s : Shared} {Q : VK} {k k' : Bool} (I : Inv X pins σ H s) (q : Q (.bl k) H) (e : k = k') : EP X pins σ Q (.bool k') s := by
  subst e
  exact ⟨.bl k, H, I, rfl, q⟩
theorem op_eq : OpR X (compareOp .Eq) rEq := by
  intro pins s σ H x y v u Q I rx ry h
  obtain ⟨hs, q⟩ := h
  cases x with
  | non =>
    cases rx
    cases y with
    | non => cases ry; exact PySem.EqNone.eq_none_none (fin_bl I q (by simp))
    | bl j => cases ry; exact PySem.EqNone.eq_none_bool (fin_bl I q (by simp))
    | int j => obtain ⟨t', rfl⟩ := ry; exact PySem.EqNone.eq_none_int (fin_bl I q (by simp))
    | str j => obtain ⟨t', rfl⟩ := ry; exact PySem.EqNone.eq_none_str (fin_bl I q (by simp))
    | _ => exact absurd (show false = true from hs) Bool.false_ne_true
  | bl i =>
    cases rx
    cases y with
    | non => cases ry; exact PySem.EqNone.eq_bool_none (fin_bl I q (by simp))
    | bl j => cases ry; exact eq_bool (fin_bl I q dec_bl)
    | str j => obtain ⟨t', rfl⟩ := ry; exact PySem.EqMixed.eq_bool_str (fin_bl I q (by simp))
    | _ => exact absurd (show false = true from hs) Bool.false_ne_true
  | int i =>
    obtain ⟨t, rfl⟩ := rx
    cases y with
    | non => cases ry; exact PySem.EqNone.eq_int_none (fin_bl I q (by simp))
    | int j => obtain ⟨t', rfl⟩ := ry; exact eq_int (fin_bl I q dec_int)
    | str j => obtain ⟨t', rfl⟩ := ry; exact PySem.EqMixed.eq_int_str (fin_bl I q (by simp))
    | _ => exact absurd (show false = true from hs) Bool.false_ne_true
  | str i =>
    obtain ⟨t, rfl⟩ := rx
    cases y with
    | non => cases ry; exact PySem.EqNone.eq_str_none (fin_bl I q (by simp))
    | bl j => cases ry; exact PySem.EqMixed.eq_str_bool (fin_bl I q (by simp))
    | int j => obtain ⟨t', rfl⟩ := ry; exact PySem.EqMixed.eq_str_int (fin_bl I q (by simp))
    | str j => obtain ⟨t', rfl⟩ := ry; exact eq_str (fin_bl I q dec_str)
    | _ => exact absurd (show false = true from hs) Bool.false_ne_true
  | byt i =>
    obtain ⟨t, rfl⟩ := rx
    cases y with
    | byt j => obtain ⟨t', rfl⟩ := ry; exact PySem.W.eq_bytes (fin_bl I q dec_byt)
    | _ => exact absurd (show false = true from hs) Bool.false_ne_true
  | _ => cases y <;> exact absurd (show false = true from hs) Bool.false_ne_true
theorem op_ne : OpR X (compareOp .NotEq) rNe := by
  intro pins s σ H x y v u Q I rx ry h
  obtain ⟨hs, q⟩ := h
  cases x with
  | non =>
    cases rx
    cases y with
    | non => cases ry; exact PySem.EqNone.ne_none_none (fin_bl I q (by simp))
    | bl j => cases ry; exact PySem.EqNone.ne_none_bool (fin_bl I q (by simp))
    | int j => obtain ⟨t', rfl⟩ := ry; exact PySem.EqNone.ne_none_int (fin_bl I q (by simp))
    | str j => obtain ⟨t', rfl⟩ := ry; exact PySem.EqNone.ne_none_str (fin_bl I q (by simp))
    | _ => exact absurd (show false = true from hs) Bool.false_ne_true
  | bl i =>
    cases rx
    cases y with
    | non => cases ry; exact PySem.EqNone.ne_bool_none (fin_bl I q (by simp))
    | bl j => cases ry; exact ne_bool (fin_bl I q (congrArg not dec_bl))
    | str j => obtain ⟨t', rfl⟩ := ry; exact PySem.EqMixed.ne_bool_str (fin_bl I q (by simp))
    | _ => exact absurd (show false = true from hs) Bool.false_ne_true
  | int i =>
    obtain ⟨t, rfl⟩ := rx
    cases y with
    | non => cases ry; exact PySem.EqNone.ne_int_none (fin_bl I q (by simp))
    | int j => obtain ⟨t', rfl⟩ := ry; exact ne_int (fin_bl I q (congrArg not dec_int))
    | str j => obtain ⟨t', rfl⟩ := ry; exact PySem.EqMixed.ne_int_str (fin_bl I q (by simp))
    | _ => exact absurd (show false = true from hs) Bool.false_ne_true
  | str i =>
    obtain ⟨t, rfl⟩ := rx
    cases y with
    | non => cases ry; exact PySem.EqNone.ne_str_none (fin_bl I q (by simp))
    | bl j => cases ry; exact PySem.EqMixed.ne_str_bool (fin_bl I q (by simp))
    | int j => obtain ⟨t', rfl⟩ := ry; exact PySem.EqMixed.ne_str_int (fin_bl I q (by simp))
    | str j => obtain ⟨t', rfl⟩ := ry; exact ne_str (fin_bl I q (congrArg not dec_str))
    | _ => exact absurd (show false = true from hs) Bool.false_ne_true
  | byt i =>
    obtain ⟨t, rfl⟩ := rx
    cases y with
    | byt j => obtain ⟨t', rfl⟩ := ry; exact PySem.W.ne_bytes (fin_bl I q (congrArg not dec_byt))
    | _ => exact absurd (show false = true from hs) Bool.false_ne_true
  | _ => cases y <;> exact absurd (show false = true from hs) Bool.false_ne_true

theorem op_lt : OpR X (compareOp .Lt) (rI0 fun i j => .bl (decide (i < j))) := opB0 fun _ _ _ _ _ _ _ q => lt_int q
theorem op_le : OpR X (compareOp .LtE) (rI0 fun i j => .bl (decide (i ≤ j))) := opB0 fun _ _ _ _ _ _ _ q => le_int q
theorem op_gt : OpR X (compareOp .Gt) (rI0 fun i j => .bl (decide (j < i))) := opB0 fun _ _ _ _ _ _ _ q => gt_int q
theorem op_ge : OpR X (compareOp .GtE) (rI0 fun i j => .bl (decide (j ≤ i))) := opB0 fun _ _ _ _ _ _ _ q => ge_int q

theorem op_notN : OpR X (compareOp .IsNot) (fun x y H Q => y = .non ∧ Q (.bl (!decide (x = .non))) H) := by
  intro pins s σ H x y v u Q I rx ry h
  obtain ⟨rfl, q⟩ := h
  cases ry
  refine isnot_none_gen (fin_bl I q ?_)
  cases x <;> first
    | (cases rx; rfl)
    | (obtain ⟨t, rfl⟩ := rx; rfl)



theorem nomark (b : Expr) {op : CmpOp} (h : op ≠ .In := by decide) (h2 : op ≠ .NotIn := by decide) : behindInMarks op b = false := by
  have e1 : (op == CmpOp.In) = false := by cases op <;> first | rfl | exact absurd rfl h
  have e2 : (op == CmpOp.NotIn) = false := by cases op <;> first | rfl | exact absurd rfl h2
  cases b <;> simp [behindInMarks, e1, e2]
/-- a comparison as a value; hm: nomark b, or (for in, not in) by with_unfolding_all rfl -/
theorem pe_cmpR {op : CmpOp} {r : R2} (ho : OpR X (compareOp op) r) (ha : PE X a ta) (hb : PE X b tb) (hm : behindInMarks op b = false) : PE X (.Compare a [op] [b] pos) (tOp r ta tb) := by
  intro pins s σ H Q I h
  exact wpAny_Compare1 (binT ha hb I h fun v u s2 x y H2 I2 rx ry q => ho pins s2 σ H2 x y v u Q I2 rx ry q) hm
/-- a reading of a value as a test -/
def tTest (t : TE) : TT := fun σ H Q => t σ H fun x H' => ∃ k, x = .bl k ∧ Q k H'
theorem pt_cmpR {op : CmpOp} {r : R2} (ho : OpR X (compareOp op) r) (ha : PE X a ta) (hb : PE X b tb) (hm : behindInMarks op b = false) : PT X (.Compare a [op] [b] pos) (tTest (tOp r ta tb)) := by
  intro pins s σ H Q I h
  refine wpAny_isTrue_Compare1 (thn (ha pins s σ H _ I h) fun v s1 ⟨x, H1, I1, r1, q1⟩ => thn (hb pins s1 σ H1 _ I1 q1) fun u s2 ⟨y, H2, I2, r2, q2⟩ =>
    thn (ho pins s2 σ H2 x y v u _ I2 r1 r2 q2) fun c s3 ⟨z, H3, I3, r3, k, e, q3⟩ => ?_) hm
  subst e
  cases r3
  exact wpAny_truthy_bool ⟨H3, I3, q3⟩
/-- a op1 b op2 c -/
def tChain (r r' : R2) (ta tb tc : TE) : TE := fun σ H Q => ta σ H fun x H1 => tb σ H1 fun y H2 => r x y H2 fun z H3 => ∃ k, z = .bl k ∧
  (if k = true then tc σ H3 fun w' H4 => r' y w' H4 Q else Q (.bl false) H3)
theorem pe_chain {op op' : CmpOp} {r r' : R2} (ho : OpR X (compareOp op) r) (ho' : OpR X (compareOp op') r') (ha : PE X a ta) (hb : PE X b tb) (hc : PE X c tc)
    (hm : lastMarks [op, op'] [b, c] = false := by with_unfolding_all rfl) : PE X (.Compare a [op, op'] [b, c] pos) (tChain r r' ta tb tc) := by
  intro pins s σ H Q I h
  refine Compare_chain (thn (ha pins s σ H _ I h) fun v s1 ⟨x, H1, I1, r1, q1⟩ => chain_link (thn (hb pins s1 σ H1 _ I1 q1) fun u s2 ⟨y, H2, I2, r2, q2⟩ =>
    thn (ho pins s2 σ H2 x y v u _ I2 r1 r2 q2) fun d s3 ⟨z, H3, I3, r3, k, e, q3⟩ => ?_)) hm
  subst e
  cases r3
  refine wpAny_truthy_bool ?_
  cases k with
  | false => exact ite_ff ⟨.bl false, H3, I3, rfl, q3⟩
  | true => exact ite_tt (chain_last (thn (hc pins s3 σ H3 _ I3 q3) fun w' s4 ⟨z', H4, I4, r4, q4⟩ => ho' pins s4 σ H4 y z' u w' Q I4 r2 r4 q4))

/-! ### truth -/
theorem line63 : (sizeLine : Nat) < 2 ^ 63 := by rw [sizeLine_eq]; decide

/-! ### strs and bytes -/


/-! ### scalar builtins, by CallR -/
theorem vals1 {x : V} {us : List Value} (r : Vals [x] us) : ∃ u, us = [u] ∧ RelV x u := by
  cases r with
  | cons r1 r2 => cases r2; exact ⟨_, rfl, r1⟩
theorem vals2 {x y : V} {us : List Value} (r : Vals [x, y] us) : ∃ u w', us = [u, w'] ∧ RelV x u ∧ RelV y w' := by
  cases r with
  | cons r1 r2 =>
    cases r2 with
    | cons r3 r4 => cases r4; exact ⟨_, _, rfl, r1, r3⟩
theorem call_max2 (hc : X.calm = true) : CallR X (.builtin "max") (fun xs H Q => ∃ i j, xs = [.int i, .int j] ∧ Q (.int (if j > i then j else i)) H) := by
  intro pins s σ H xs us Q I r h
  obtain ⟨i, j, rfl, q⟩ := h
  obtain ⟨u, w', rfl, ⟨t, rfl⟩, ⟨t', rfl⟩⟩ := vals2 r
  refine max_two_ints (I.ok.hd hc) fun h' tk k => ⟨_, H, I.kept k, ?_, q⟩
  by_cases hj : j > i
  · rw [if_pos hj, if_pos hj]; exact ⟨_, rfl⟩
  · rw [if_neg hj, if_neg hj]; exact ⟨_, rfl⟩
end
end L2

namespace L2
open PySem PySem.Spec PyProof.Rows

/-! ### an instance, its attributes a map -/
structure ObjM (h : Heap) (x dx C : Addr) (mA : Str → Option Value) : Prop where
  obj : h.get? x = some (PySem.W.instObj C dx)
  ns : h.Ns1 dx mA
  ne : dx ≠ x

theorem lookIn_ns {h : Heap} {dx : Addr} {mA : Str → Option Value} (n : h.Ns1 dx mA) : ∃ od, h.get? dx = some od ∧ ∀ name, PySem.W.lookIn name od = some (mA name) := by
  obtain ⟨o, es, ep, ho, hd, hk, _, hm⟩ := n
  refine ⟨o, ho, fun name => ?_⟩
  have e := hm name
  unfold nsFind findBy at e
  rw [← Array.find?_toList] at e
  unfold PySem.W.lookIn
  rw [hd]
  dsimp only
  split
  · rename_i y q
    rw [q] at e
    exact congrArg some e
  · rename_i q
    rw [q] at e
    have a : es.toList.any (·.refKey) = false := by
      rw [List.any_eq_false]
      intro y hy
      obtain ⟨z, t, hkey⟩ := hk y (Array.mem_toList_iff.mp hy)
      simp [DictEntry.refKey, hkey]
    have a' : ¬ es.toList.any (·.refKey) = true := by rw [a]; exact Bool.false_ne_true
    rw [if_neg a']
    exact congrArg some e

theorem ObjM.look {h : Heap} {x dx C : Addr} {mA : Str → Option Value} (I : ObjM h x dx C mA) : ∃ od, PySem.W.InstAt h x (PySem.W.instObj C dx) C (some od) ∧ ∀ name, PySem.W.lookIn name od = some (mA name) :=
  let ⟨od, ho, hl⟩ := lookIn_ns I.ns
  ⟨od, ⟨I.obj, rfl, rfl, ho⟩, hl⟩

section
variable {prog : Program} {w : World} {A : Around} {E : Value → Shared → Prop} {s : Shared} {K : PySem.W.Frag} {x dx C f : Addr} {mA : Str → Option Value} {name : Str} {v : Value}

theorem get_map {expr : Bool} {Q : Value → Shared → Prop} (X : K.In s.heap) (I : ObjM s.heap x dx C mA) (hg : PySem.W.plainGet K C name = true) (hh : PySem.W.hasDictIn K C = true)
    (ha : PySem.W.findIn K (.ref C) name = some none) (hv : mA name = some v) (hv' : PySem.W.handedIn v = true) (h : Q v { s with toks := s.toks + 1 }) :
    wpAny (model prog w) A (getAttr (.ref x) name expr) Q E s := by
  obtain ⟨od, J, hl⟩ := I.look
  exact PySem.W.get_value X J (PySem.W.plainGet_of hg).1 (PySem.W.findObj_own hh ha rfl (by rw [hl, hv])) hv' h


theorem get_meth {pl : Sem Bool} {Q : Value × List Value → Shared → Prop} (X : K.In s.heap) (I : ObjM s.heap x dx C mA) (hg : PySem.W.plainGet K C name = true)
    (hf : PySem.W.findIn K (.ref C) name = some (some (.ref f))) (ht : PySem.W.isFn K (.ref f) = true) (hv : mA name = none) (h : Q (.ref f, [.ref x]) s) :
    wpAny (model prog w) A (getMethod (.ref x) name pl) Q E s := by
  obtain ⟨od, J, hl⟩ := I.look
  exact PySem.W.method_fn X J (PySem.W.plainGet_of hg).1 (PySem.W.plainGet_of hg).2 hf (beq_iff_eq.mp ht) (by show (PySem.W.lookIn name od).map (·.isSome) = some false; rw [hl, hv]; rfl) h

theorem set_map {ns : List Str} {Q : Unit → Shared → Prop} (X : K.In s.heap) (I : ObjM s.heap x dx C mA)
    (hs : PySem.W.findIn K (.ref C) "__setattr__" = some (some (.builtin "object.__setattr__"))) (hp : PySem.W.plainOver K C = true) (ht : PySem.W.takerIn K C name = some none) (hh : PySem.W.hasDictIn K C = true)
    (hw : PySem.Within mA ns) (hsz : ns.length ≤ sizeLine)
    (h : ∀ h', ObjM h' x dx C (fun y => if y = name then some v else mA y) → Heap.SameBut dx s.heap h' → Q () { s with heap := h', toks := s.toks + 2 }) :
    wpAny (model prog w) A (setAttr (.ref x) name v) Q E s := by
  obtain ⟨od, J, hl⟩ := I.look
  refine PySem.W.set_plain X J hs (PySem.W.osa_open (s := { s with toks := s.toks + 1 }) (r := none) X J hp ht fun b => ?_)
  obtain ⟨cd, hc, hd'⟩ := PySem.W.any_some hh
  have hx : s.heap.get? x = some ⟨.ref C, some dx, .plain, #[]⟩ := I.obj
  refine wpAny_bind (wpAny_pure (wpAny_bind (wpAny_bind (wpAny_loadPart hx (wpAny_bind (PySem.W.Looks.here (s := { s with toks := s.toks + 1 }) (PySem.W.looks_clsIn X hc) ?_))))))
  rw [hd']
  refine wpAny_pure (a := some dx) (wpAny_bind (wpAny_pure (wpAny_bind ?_)))
  refine wpAny_nsSet1 (s := { s with toks := s.toks + 1 }) I.ns fun h' hn2 hs2 => ?_
  obtain ⟨oD, esD, epD, hoD, hdD, hcD⟩ := hn2.count (PySem.Within.cons name v hw)
  refine wpAny_bind (wpAny_lookBehind hoD (by rw [hdD]; exact pastItsLine_dict (Nat.le_trans hcD (by rw [List.length_cons]; omega))) ?_)
  exact wpAny_pure (h _ ⟨(hs2.2 _ (Ne.symm I.ne)).trans I.obj, hn2, I.ne⟩ hs2)

/-- C(..): the dict at the heap's end, the instance behind it; then its __init__ -/
theorem make_map {R : Result → Shared → Prop} {vs : List Value} {kw : List (Str × Value)} (X : K.In s.heap) (hm : PySem.W.makesIn K C = true)
    (hi : PySem.W.findIn K (.ref C) "__init__" = some (some (.ref f))) (hf : PySem.W.typeIn K (.ref f) = some (.type "function"))
    (h : codeAny (model prog w) (A.under (.builtin "type.__call__" ⟨.ref C :: vs, kw⟩)) (.call (.ref f) ⟨.ref (s.heap.objs.size + 1) :: vs, kw⟩) (PySem.W.InitBack (s.heap.objs.size + 1) R)
      { s with heap := (s.heap.push PySem.W.emptyDict).push (PySem.W.instObj C s.heap.objs.size) }) :
    codeAny (model prog w) A (.call (.ref C) ⟨vs, kw⟩) R s := by
  obtain ⟨hh, g, d, t, os⟩ := s
  exact PySem.W.make_core (PySem.W.makes_of X hm) (PySem.W.looks_findIn X hi) (fun self => PySem.W.bind_fn X self hf) (.inl rfl) h
end

/-! ### the attributes as a list of pairs -/
def putF (f : Str) (v : V) : List (Str × V) → List (Str × V)
  | [] => [(f, v)]
  | (g, x) :: r => if g = f then (g, v) :: r else (g, x) :: putF f v r
theorem lookup_putF (f g : Str) (v : V) : ∀ fs : List (Str × V), (putF f v fs).lookup g = if g = f then some v else fs.lookup g
  | [] => by
    show List.lookup g [(f, v)] = _
    by_cases h : g = f
    · have hb : (g == f) = true := beq_iff_eq.mpr h
      simp only [List.lookup, hb, if_pos h]
    · have hb : (g == f) = false := beq_eq_false_iff_ne.mpr h
      simp only [List.lookup, hb, if_neg h]
  | (k, x) :: r => by
    have ih := lookup_putF f g v r
    rw [show putF f v ((k, x) :: r) = (if k = f then (k, v) :: r else (k, x) :: putF f v r) from rfl]
    by_cases hk : k = f
    · rw [if_pos hk]
      by_cases h : g = k
      · have hb : (g == k) = true := beq_iff_eq.mpr h
        simp only [List.lookup, hb, if_pos (h.trans hk)]
      · have hb : (g == k) = false := beq_eq_false_iff_ne.mpr h
        simp only [List.lookup, hb, if_neg (fun e : g = f => h (e.trans hk.symm))]
    · rw [if_neg hk]
      by_cases h : g = k
      · have hb : (g == k) = true := beq_iff_eq.mpr h
        simp only [List.lookup, hb, if_neg (fun e : g = f => hk (h.symm.trans e))]
      · have hb : (g == k) = false := beq_eq_false_iff_ne.mpr h
        simp only [List.lookup, hb]
        exact ih
theorem keys_putF (f : Str) (v : V) : ∀ fs : List (Str × V), f ∈ (putF f v fs).map (·.1) ∧ ∀ g, g ∈ fs.map (·.1) → g ∈ (putF f v fs).map (·.1)
  | [] => ⟨by simp [putF], fun g h => by simp at h⟩
  | (k, x) :: r => by
    obtain ⟨i1, i2⟩ := keys_putF f v r
    rw [show putF f v ((k, x) :: r) = (if k = f then (k, v) :: r else (k, x) :: putF f v r) from rfl]
    by_cases hk : k = f
    · rw [if_pos hk]
      subst hk
      exact ⟨by simp, fun g h => by simpa using h⟩
    · rw [if_neg hk]
      refine ⟨?_, fun g h => ?_⟩
      · rw [List.map_cons]
        exact List.mem_cons_of_mem _ i1
      · rw [List.map_cons] at h ⊢
        rcases List.mem_cons.mp h with e | e
        · exact List.mem_cons.mpr (.inl e)
        · exact List.mem_cons_of_mem _ (i2 g e)
theorem length_putF (f : Str) (v : V) : ∀ fs : List (Str × V), (putF f v fs).length ≤ fs.length + 1
  | [] => by simp [putF]
  | (k, x) :: r => by
    have ih := length_putF f v r
    rw [show putF f v ((k, x) :: r) = (if k = f then (k, v) :: r else (k, x) :: putF f v r) from rfl]
    by_cases hk : k = f
    · rw [if_pos hk, List.length_cons, List.length_cons]; omega
    · rw [if_neg hk, List.length_cons, List.length_cons]; omega

theorem RelO.some_of {v : V} {o : Option Value} (r : RelO (some v) o) : ∃ u, o = some u ∧ RelV v u := by
  cases o with
  | none => exact (show False from r).elim
  | some u => exact ⟨u, rfl, r⟩
theorem RelO.none_of {o : Option Value} (r : RelO none o) : o = none := by
  cases o with
  | none => rfl
  | some u => exact (show False from r).elim
theorem handed_of {v : V} {u : Value} (r : RelV v u) : PySem.W.handedIn u = true := by
  cases v with
  | non => cases (show u = Value.none from r); rfl
  | bl b => cases (show u = Value.bool b from r); rfl
  | int i => obtain ⟨t, e⟩ := (show ∃ t, u = Value.int i t from r); cases e; rfl
  | str x => obtain ⟨t, e⟩ := (show ∃ t, u = Value.str x t from r); cases e; rfl
  | byt b => obtain ⟨t, e⟩ := (show ∃ t, u = Value.bytes b t from r); cases e; rfl
  | flt b => obtain ⟨t, e⟩ := (show ∃ t, u = Value.float b t from r); cases e; rfl
  | ref a => cases (show u = Value.ref a from r); rfl
  | ty n => cases (show u = Value.type n from r); rfl

section
variable {P : Program} {w : World} {H H' : Hp} {h h' : Heap} {a C dx : Addr} {fs fs' : List (Str × V)}
theorem ins_get (hok : HOk P w H h) (e : H a = some (.ins C dx fs)) : ∃ mA, ObjM h a dx C mA ∧ (∀ f, RelO (fs.lookup f) (mA f)) ∧ PySem.Within mA (fs.map (·.1)) ∧ fs.length ≤ 1000 ∧ H dx = some (.own a) := by
  obtain ⟨d, z, ne, ob, mA, n, r, q⟩ := (show ObjOk P w H h a (.ins C dx fs) from hok a _ e)
  exact ⟨mA, ⟨ob, n, ne⟩, r, q, z, d⟩
end

/-! ### what of the text a class must have -/
structure Cls (K : PySem.W.Frag) (C : Addr) : Prop where
  pg : PySem.W.plainGet K C Str.empty = true
  hd : PySem.W.hasDictIn K C = true
  po : PySem.W.plainOver K C = true
  sa : PySem.W.findIn K (.ref C) "__setattr__" = some (some (.builtin "object.__setattr__"))
theorem Cls.get {K : PySem.W.Frag} {C : Addr} (c : Cls K C) (f : Str) : PySem.W.plainGet K C f = true := c.pg
/-- no class of it has the name -/
def NoAttr (K : PySem.W.Frag) (C : Addr) (f : Str) : Prop := PySem.W.findIn K (.ref C) f = some none
theorem NoAttr.taker {K : PySem.W.Frag} {C : Addr} {f : Str} (n : NoAttr K C f) : PySem.W.takerIn K C f = some none := by
  unfold PySem.W.takerIn
  rw [show PySem.W.findIn K (.ref C) f = some none from n]
  rfl
/-- a method: a plain def of the class or of one above it -/
structure Meth (K : PySem.W.Frag) (C : Addr) (m : Str) (f : Addr) : Prop where
  at_ : PySem.W.findIn K (.ref C) m = some (some (.ref f))
  fn : PySem.W.isFn K (.ref f) = true
  kp : PySem.W.keepIn K (.ref f) = true

section
variable {X : Cx} {pins : List (Addr × Obj)} {σ : St} {H : Hp} {s : Shared} {a C dx : Addr} {fs : List (Str × V)} {f : Str} {v : V} {A : Around} {E : Value → Shared → Prop}

theorem getattr_ok {b : Bool} {Q : Value → Shared → Prop} (I : Inv X pins σ H s) (e : H a = some (.ins C dx fs)) (c : Cls X.K C) (n : NoAttr X.K C f) (l : fs.lookup f = some v)
    (h : ∀ u s', Inv X pins σ H s' → RelV v u → Q u s') : wpAny (model X.prog X.w) A (getAttr (.ref a) f b) Q E s := by
  obtain ⟨mA, O, r, _, _, _⟩ := ins_get I.hok e
  obtain ⟨u, hu, ru⟩ := RelO.some_of (v := v) (o := mA f) (by rw [← l]; exact r f)
  exact get_map I.kIn O (c.get f) c.hd n hu (handed_of ru) (h u _ (I.tok _) ru)


theorem getmeth_ok {m : Str} {g : Addr} {pl : Sem Bool} {Q : Value × List Value → Shared → Prop} (I : Inv X pins σ H s) (e : H a = some (.ins C dx fs)) (c : Cls X.K C) (k : Meth X.K C m g) (l : fs.lookup m = none)
    (h : Q (.ref g, [.ref a]) s) : wpAny (model X.prog X.w) A (getMethod (.ref a) m pl) Q E s := by
  obtain ⟨mA, O, r, _, _, _⟩ := ins_get I.hok e
  have hn : mA m = none := RelO.none_of (by rw [← l]; exact r m)
  exact get_meth I.kIn O (c.get m) k.at_ k.fn hn h

theorem setattr_ok {y : V} {u : Value} {Q : Unit → Shared → Prop} (I : Inv X pins σ H s) (e : H a = some (.ins C dx fs)) (c : Cls X.K C) (n : NoAttr X.K C f) (hl : fs.length < 1000) (ry : RelV y u)
    (h : ∀ s', Inv X pins σ (upd H a (.ins C dx (putF f y fs))) s' → Q () s') : wpAny (model X.prog X.w) A (setAttr (.ref a) f u) Q E s := by
  obtain ⟨mA, O, r, wi, _, ho⟩ := ins_get I.hok e
  have hz : (fs.map (·.1)).length ≤ sizeLine := by rw [List.length_map, sizeLine_eq]; omega
  refine set_map I.kIn O c.sa c.po n.taker c.hd wi hz fun h' O' sb => h _ ?_
  have hd : ∃ o, h'.get? dx = some o := let ⟨o, _, _, e', _⟩ := O'.ns; ⟨o, e'⟩
  refine I.write (x := a) (e := dx) (by rw [e]; exact True.intro) (.inr ho) (fun b q hb z => (sb.2 b hb).trans z) hd ?_
  refine ⟨by rw [upd_ne O.ne]; exact ho, ?_, O.ne, O'.obj, _, O'.ns, fun g => ?_, fun g hg => ?_⟩
  · have := length_putF f y fs; omega
  · show RelO ((putF f y fs).lookup g) (if g = f then some u else mA g)
    rw [lookup_putF]
    by_cases q : g = f
    · rw [if_pos q, if_pos q]; exact ry
    · rw [if_neg q, if_neg q]; exact r g
  · by_cases q : g = f
    · rw [q]; exact (keys_putF f y fs).1
    · refine (keys_putF f y fs).2 g (wi g fun z => hg ?_)
      show (if g = f then some u else mA g) = none
      rw [if_neg q]; exact z

/-- a new instance, tracked, without attributes -/
theorem Inv.made (I : Inv X pins σ H s) : Inv X pins σ (upd (upd H s.heap.objs.size (.own (s.heap.objs.size + 1))) (s.heap.objs.size + 1) (.ins C s.heap.objs.size []))
    { s with heap := (s.heap.push PySem.W.emptyDict).push (PySem.W.instObj C s.heap.objs.size) } := by
  have e1 : (s.heap.push PySem.W.emptyDict).get? s.heap.objs.size = some PySem.W.emptyDict := Heap.get?_push_size s.heap rfl
  have e2 : ((s.heap.push PySem.W.emptyDict).push (PySem.W.instObj C s.heap.objs.size)).get? (s.heap.objs.size + 1) = some (PySem.W.instObj C s.heap.objs.size) := by
    have := Heap.get?_push_size (s.heap.push PySem.W.emptyDict) (o := PySem.W.instObj C s.heap.objs.size) rfl
    rwa [Heap.size_push] at this
  have e3 : (s.heap.push PySem.W.emptyDict).Ns s.heap.objs.size (fun _ => none) := ⟨PySem.W.emptyDict, #[], _, e1, rfl, (fun e he => absurd he (by simp)), fun _ => rfl⟩
  have I1 := I.laid (a := s.heap.objs.size) (o := .own (s.heap.objs.size + 1)) (h' := s.heap.push PySem.W.emptyDict) (t' := s.toks) (fun b u q => Heap.get?_push_of_some _ q) (Nat.le_refl _) ⟨_, e1⟩
  refine I1.laid (a := s.heap.objs.size + 1) (o := .ins C s.heap.objs.size []) (t' := s.toks) (fun b u q => Heap.get?_push_of_some _ q) (Nat.le_of_eq (Heap.size_push _ _)) ?_
  have ne : s.heap.objs.size ≠ s.heap.objs.size + 1 := Nat.ne_of_lt (Nat.lt_succ_self _)
  refine ⟨by rw [upd_ne ne, upd_same], Nat.zero_le _, ne, e2, fun _ => none, (Heap.Ns1.of_empty e3).at fun o q => Heap.get?_push_of_some _ q, fun _ => True.intro, fun y hy => absurd rfl hy⟩

/-- e.f where nothing but the object is asked: through attributeBase (super) and the last hold -/
theorem attr_of {prog : Program} {w : World} {env : Env} {e : Expr} {f : Str} {pos : Pos} {s : Shared} {Q : Value → Shared → Prop} (hb : attributeBase e f env (eval e env) = eval e env)
    (h : wpAny (model prog w) A (eval e env) (fun o s₁ => wpAny (model prog w) A (getAttr o f true) Q E s₁) E s) : wpAny (model prog w) A (eval (.Attribute e f pos) env) Q E s :=
  Attribute_any_ h (by rw [arm_eval_Attribute, hb])
end

/-! ### readings and rules -/
/-- e.f, an attribute of the instance -/
def tFld (K : PySem.W.Frag) (ta : TE) (f : Str) : TE := fun σ H Q => ta σ H fun x H1 => ∃ a C dx fs v, x = .ref a ∧ H1 a = some (.ins C dx fs) ∧ Cls K C ∧ NoAttr K C f ∧ fs.lookup f = some v ∧ Q v H1
/-- e.f = value -/
def sFld (K : PySem.W.Frag) (ta tv : TE) (f : Str) : TS := fun D σ H => tv σ H fun y H1 => ta σ H1 fun x H2 => ∃ a C dx fs, x = .ref a ∧ H2 a = some (.ins C dx fs) ∧ Cls K C ∧ NoAttr K C f ∧ fs.length < 1000 ∧
  D.nx σ (upd H2 a (.ins C dx (putF f y fs)))

section
variable {X : Cx} {o e value : Expr} {f : Str} {pos pos' tpos : Pos} {ta tv : TE}
theorem pe_fld (he : PE X e ta) (hb : attributeBase e f X.env (eval e X.env) = eval e X.env) : PE X (.Attribute e f pos) (tFld X.K ta f) := by
  intro pins s σ H Q I h
  refine attr_of hb (thn (he pins s σ H _ I h) fun u s1 ⟨x, H1, I1, rx, a, C, dx, fs, v, ex, ea, c, n, l, q⟩ => ?_)
  subst ex
  obtain rfl : u = Value.ref a := rx
  exact getattr_ok I1 ea c n l fun u' s2 I2 ru => ⟨v, H1, I2, ru, q⟩
theorem ps_fld (ha : PE X o ta) (hv : PE X value tv) (hs : swapsWith value (some (.Attribute o f pos')) pos.line X.env = pure false) : PS X (.Assign [.Attribute o f pos'] value pos) (sFld X.K ta tv f) := by
  intro pins s σ H D I h
  refine plainObj_wpAny_Assign_Attribute (thn (hv pins s σ H _ I h) fun u s1 ⟨y, H1, I1, ry, q⟩ => thn (ha pins s1 σ H1 _ I1 q) fun ov s2 ⟨x, H2, I2, rx, a, C, dx, fs, ex, ea, c, n, l, q2⟩ => ?_) hs
  subst ex
  obtain rfl : ov = Value.ref a := rx
  exact setattr_ok I2 ea c n l ry fun s3 I3 => ⟨σ, _, I3, q2⟩

/-- what is between an instance and its method: the tree of a method call -/
theorem methcall_of {pl : Sem Bool} {m : Str} {apos : Pos} {args : List Expr} {pins : List (Addr × Obj)} {s : Shared} {σ : St} {H : Hp} {Q : Value → Shared → Prop} {te : TE} (he : PE X e te) (I : Inv X pins σ H s)
    (h : te σ H fun x H1 => ∃ a C dx fs g, x = .ref a ∧ H1 a = some (.ins C dx fs) ∧ Cls X.K C ∧ Meth X.K C m g ∧ fs.lookup m = none ∧
      ∀ s1, Inv X pins σ H1 s1 → wpAny (model X.prog X.w) X.A (callWith pos (.ref g) [.ref a] (backTo pos (starEach args X.env)) (backToKw pos (keywordEach [] X.env))) Q X.xe s1)
    (ht : eval (.Call (.Attribute e m apos) args [] pos) X.env = (do
      let ov ← eval e X.env
      standAt apos.atName
      let (f, first) ← holding [ov] (getMethod ov m pl)
      callWith pos f first (backTo pos (starEach args X.env)) (backToKw pos (keywordEach [] X.env)))) :
    wpAny (model X.prog X.w) X.A (eval (.Call (.Attribute e m apos) args [] pos) X.env) Q X.xe s := by
  refine PySem.W.methodCall_KW (pl := pl) (thn (he pins s σ H _ I h) fun u s1 ⟨x, H1, I1, rx, a, C, dx, fs, g, ex, ea, c, k, l, q⟩ => ?_) ht
  subst ex
  obtain rfl : u = Value.ref a := rx
  exact getmeth_ok I1 ea c k l (q s1 I1)
end

/-! ### isinstance -/
section
variable {X : Cx} {pins : List (Addr × Obj)} {σ : St} {H : Hp} {s : Shared} {A : Around} {E : Value → Shared → Prop} {Q : Value → Shared → Prop} {c : Value} {b : Bool}
/-- the type of a value, as the fragment's deciders take it; for an instance its class -/
inductive TyOf (K : PySem.W.Frag) (H : Hp) : V → Value → Prop where
  | non : TyOf K H .non (.type "NoneType")
  | bl (x : Bool) : TyOf K H (.bl x) (.type "bool")
  | int (i : Int) : TyOf K H (.int i) (.type "int")
  | str (x : Str) : TyOf K H (.str x) (.type "str")
  | flt (x : UInt64) : TyOf K H (.flt x) (.type "float")
  | lst {a : Addr} {xs : List V} (e : H a = some (.lst xs)) : TyOf K H (.ref a) (.type "list")
  | frz {a : Addr} {o : Obj} {xs : List V} (e : H a = some (.frz o (.lst xs))) : TyOf K H (.ref a) (.type "list")
  | tup {a : Addr} {xs : List V} (e : H a = some (.tup xs)) : TyOf K H (.ref a) (.type "tuple")
  | dK {a : Addr} {kvs : List (Key × V)} (e : H a = some (.dK kvs)) : TyOf K H (.ref a) (.type "dict")
  | dT {a : Addr} {kvs : List (List Key × V)} (e : H a = some (.dT kvs)) : TyOf K H (.ref a) (.type "dict")
  | ins {a C dx : Addr} {fs : List (Str × V)} (e : H a = some (.ins C dx fs)) (cl : Cls K C) (ha : PySem.W.findIn K (.ref C) "__class__" = some (some (.builtin "object.__class__")))
      (hn : PySem.W.specialIn K (.builtin "object.__class__") "__get__" = some (some (.builtin "getset_descriptor.__get__"))) (htk : PySem.W.takesIn K (.builtin "object.__class__") = some true)
      (hm : PySem.W.mroIn K C (.type "object") = some true) : TyOf K H (.ref a) (.ref C)
/-- isinstance(x, c) for one class c, a built-in or an own one: kitOne's answer -/
theorem isinst_ok {x : V} {u t : Value} (I : Inv X pins σ H s) (rx : RelV x u) (ty : TyOf X.K H x t) (e : PySem.W.kitOne X.K t c = some b) (h : ∀ tk, Q (.bool b) { s with toks := tk }) :
    wpAny (model X.prog X.w) A (call (.builtin "isinstance") [u, c]) Q E s := by
  cases ty with
  | non => cases (show u = Value.none from rx); exact PySem.W.kia_one PySem.W.kitx_none I.kIn True.intro e (fun z => nomatch z) h
  | bl y => cases (show u = Value.bool y from rx); exact PySem.W.kia_one PySem.W.kitx_bool I.kIn True.intro e (fun z => nomatch z) h
  | int i => obtain ⟨t, q⟩ := (show ∃ t, u = Value.int i t from rx); cases q; exact PySem.W.kia_one PySem.W.kitx_int I.kIn True.intro e (fun z => nomatch z) h
  | str y => obtain ⟨t, q⟩ := (show ∃ t, u = Value.str y t from rx); cases q; exact PySem.W.kia_one PySem.W.kitx_str I.kIn True.intro e (fun z => nomatch z) h
  | flt y => obtain ⟨t, q⟩ := (show ∃ t, u = Value.float y t from rx); cases q; exact PySem.W.kia_one PySem.W.kitx_float I.kIn True.intro e (fun z => nomatch z) h
  | @lst a xs ea =>
    cases (show u = Value.ref a from rx)
    obtain ⟨_, _, n, _, h1⟩ := (show ObjOk X.prog X.w H s.heap a (.lst xs) from I.hok a _ ea)
    exact PySem.W.kia_one PySem.W.kitx_list I.kIn ⟨_, h1, rfl⟩ e (fun z => nomatch z) h
  | @frz a ob xs ea =>
    cases (show u = Value.ref a from rx)
    obtain ⟨_, _, _, n, _, h1⟩ := (show ObjOk X.prog X.w H s.heap a (.frz ob (.lst xs)) from I.hok a _ ea)
    exact PySem.W.kia_one PySem.W.kitx_list I.kIn ⟨_, h1, rfl⟩ e (fun z => nomatch z) h
  | @tup a xs ea =>
    cases (show u = Value.ref a from rx)
    obtain ⟨_, _, _, p⟩ := (show ObjOk X.prog X.w H s.heap a (.tup xs) from I.hok a _ ea)
    obtain ⟨o, h1, h2, _⟩ := p
    exact PySem.W.kia_one PySem.W.kitx_tuple I.kIn ⟨o, h1, h2⟩ e (fun z => nomatch z) h
  | @dK a kvs ea =>
    cases (show u = Value.ref a from rx)
    obtain ⟨_, _, vs, _, p⟩ := (show ObjOk X.prog X.w H s.heap a (.dK kvs) from I.hok a _ ea)
    obtain ⟨o, es, ep, h1, h2, _⟩ := p
    exact PySem.W.kia_one PySem.W.kitx_dict I.kIn ⟨o, h1, h2.1⟩ e (fun z => nomatch z) h
  | @dT a kvs ea =>
    cases (show u = Value.ref a from rx)
    obtain ⟨_, _, xs, _, o, es, ep, h1, h2, _⟩ := (show ObjOk X.prog X.w H s.heap a (.dT kvs) from I.hok a _ ea)
    exact PySem.W.kia_one PySem.W.kitx_dict I.kIn ⟨o, h1, h2.1⟩ e (fun z => nomatch z) h
  | @ins a C dx fs ea cl ha hn htk hm =>
    cases (show u = Value.ref a from rx)
    obtain ⟨mA, O, _⟩ := ins_get I.hok ea
    obtain ⟨od, J, _⟩ := O.look
    exact PySem.W.kia_one (PySem.W.kitx_own (cl.get _) cl.hd ha hn htk hm) I.kIn J e (fun z => nomatch z) h
end
end L2

namespace L2
open PySem PySem.Spec PyProof.Rows

/-! ### room -/
structure Room (k : Nat) (A : Around) : Prop where
  hd : A.handled = none
  dp : A.depth + 3 * k + 5 < recursionLimit
  un : A.units + 16 * k + 200 < cLine
theorem Room.mono {j k : Nat} {A : Around} (r : Room k A) (h : j ≤ k) : Room j A := ⟨r.hd, by have := r.dp; omega, by have := r.un; omega⟩
theorem Room.deeper {k : Nat} {A : Around} (r : Room (k + 1) A) (env : Env) : Room k (A.deeper env) :=
  ⟨r.hd, by have := r.dp; show A.depth + 1 + 3 * k + 5 < _; omega, by have := r.un; show A.units + 3 + 16 * k + 200 < _; omega⟩
theorem make_depth {A : Around} {C : Addr} {us : List Value} {kw : List (Str × Value)} : (A.under (.builtin "type.__call__" ⟨.ref C :: us, kw⟩)).depth = A.depth + 1 := by
  first | rfl | simp [Around.under, Code.weight, Code.isCreation, Code.isGuard, Code.isCaller, Code.frames, Code.isFrame, guardIds]
theorem make_units {A : Around} {C : Addr} {us : List Value} {kw : List (Str × Value)} : (A.under (.builtin "type.__call__" ⟨.ref C :: us, kw⟩)).units = A.units + 1 := by
  first | rfl | simp [Around.under, Code.cUnits, Code.frames, Code.isFrame]
theorem Room.make {k : Nat} {A : Around} (r : Room (k + 1) A) (C : Addr) (us : List Value) (kw : List (Str × Value)) : Room k (A.under (.builtin "type.__call__" ⟨.ref C :: us, kw⟩)) :=
  ⟨r.hd, by have := r.dp; rw [make_depth]; omega, by have := r.un; rw [make_units]; omega⟩
theorem Room.depth {k : Nat} {A : Around} (r : Room k A) : A.depth < recursionLimit := by have := r.dp; omega
theorem Room.units {k : Nat} {A : Around} (r : Room k A) : A.units + 64 < cLine := by have := r.un; omega

/-! ### argument lists and displays -/
def tNil : TA := fun _ H Q => Q [] H
def tCons (ta : TE) (tr : TA) : TA := fun σ H Q => ta σ H fun x H1 => tr σ H1 fun xs H2 => Q (x :: xs) H2
section
variable {X : Cx} {e : Expr} {es : List Expr} {te : TE} {t : TA} {pos : Pos}
theorem pa_nil : PA X [] tNil := fun _ _ _ _ H Q I h => Calls.spliced_nil ⟨[], H, I, .nil, h⟩
theorem pa_cons (ha : PE X e te) (hr : PA X es t) (hs : starEach (e :: es) X.env = (false, eval e X.env) :: starEach es X.env := by rfl) : PA X (e :: es) (tCons te t) := by
  intro pos pins s σ H Q I h
  rw [hs]
  show wpAny _ _ (spliced ((false, eval e X.env) :: backTo pos (starEach es X.env))) _ _ s
  refine Calls.spliced_cons (thn (ha pins s σ H _ I h) fun u s1 ⟨x, H1, I1, r1, q1⟩ => ?_)
  exact thn (hr pos pins s1 σ H1 _ I1 q1) fun us s2 ⟨xs, H2, I2, r2, q2⟩ => ⟨x :: xs, H2, I2, .cons r1 r2, q2⟩

/-- a tuple, a list of written items -/
def tTup (t : TA) : TE := fun σ H Q => t σ H fun xs H1 => xs.length ≤ sizeLine ∧ ∀ p, H1 p = none → Q (.ref p) (upd H1 p (.tup xs))
def tLst (t : TA) : TE := fun σ H Q => t σ H fun xs H1 => xs.length ≤ sizeLine ∧ ∀ p, H1 p = none → Q (.ref p) (upd H1 p (.lst xs))
theorem pe_tup {x1} (h : PA X es t) : PE X (.Tuple es x1 pos) (tTup t) := by
  intro pins s σ H Q I hq
  refine wpAny_Tuple_spliced (thn (h pos pins s σ H _ I hq) fun us s1 ⟨xs, H1, I1, r, z, q⟩ => ⟨by rw [← r.length]; exact z, ?_⟩)
  have hf : H1 s1.heap.objs.size = none := I1.hok.fresh (Nat.le_refl _)
  refine ⟨.ref s1.heap.objs.size, upd H1 s1.heap.objs.size (.tup xs), I1.laid (t' := s1.toks) (fun b u e => Heap.get?_push_of_some _ e) (Nat.le_refl _) ?_, rfl, q _ hf⟩
  exact ⟨z, us, r, ⟨_, Heap.get?_push_size _ rfl, rfl, _, rfl⟩⟩
theorem pe_lst (h : PA X es t) : PE X (.List es pos) (tLst t) := by
  intro pins s σ H Q I hq
  refine wpAny_List_spliced (thn (h pos pins s σ H _ I hq) fun us s1 ⟨xs, H1, I1, r, z, q⟩ => ⟨by rw [← r.length]; exact z, ?_⟩)
  have hf : H1 s1.heap.objs.size = none := I1.hok.fresh (Nat.le_refl _)
  refine ⟨.ref s1.heap.objs.size, upd H1 s1.heap.objs.size (.lst xs), I1.laid (t' := s1.toks) (fun b u e => Heap.get?_push_of_some _ e) (Nat.le_refl _) ?_, rfl, q _ hf⟩
  exact ⟨z, us, 0, r, Heap.get?_push_size _ rfl⟩
end

/-! ### what a def promises -/
/-- a def's promise: the bound arguments in the parameters' order, the heap, the wanted end, the wanted exception -/
abbrev Sp := List V → Hp → VK → XK → Prop
/-- how an exception lies behind a call (file 08 gives it): the callers' frames, abstract heap and state ahead of the call, the wish, the exception, the state -/
abbrev CXT := List Env → Hp → Shared → XK → Value → Shared → Prop

/-- the state at a call -/
structure Env0 (P : Program) (w : World) (K : PySem.W.Frag) (mg : Str → Option Value) (base : Heap) (A : Around) (outer : List Env) (s : Shared) (H : Hp) : Prop where
  frames : A.frames = some outer
  mod : Mod K mg base
  bs : ∀ b o, base.get? b = some o → s.heap.get? b = some o ∧ H b = none
  bsz : base.objs.size ≤ s.heap.objs.size
  funs : s.heap.FunFrames base outer
  frf : ∀ b ∈ frs outer, H b = none
  hok : HOk P w H s.heap
  bare : AllBare s.gens
/-- a call's end -/
def CE (outer : List Env) (P : Program) (w : World) (H : Hp) (s : Shared) (Q : VK) (u : Value) (s' : Shared) : Prop :=
  ∃ v H', s'.os = s.os ∧ AllBare s'.gens ∧ Un (frs outer) [] H H' s.heap s'.heap ∧ HOk P w H' s'.heap ∧ RelV v u ∧ Q v H'
def CR (CX : CXT) (outer : List Env) (P : Program) (w : World) (H : Hp) (s : Shared) (Q : VK) (E : XK) (r : Result) (s' : Shared) : Prop :=
  match r with
  | .ok (.ret u) => CE outer P w H s Q u s'
  | .ok _ => False
  | .error e => CX outer H s E e s'
structure FnOk (P : Program) (w : World) (K : PySem.W.Frag) (mg : Str → Option Value) (base : Heap) (CX : CXT) (k : Nat) (f : Addr) (fd : FuncData) (ps : List Str) (sp : Sp) : Prop where
  len : ∀ vs H Q E, sp vs H Q E → vs.length = ps.length
  run : ∀ (A : Around) (outer : List Env) (s : Shared) (H : Hp) (args : Args) (us : List Value) (vs : List V) (Q : VK) (E : XK), Room k A → Env0 P w K mg base A outer s H → BindsTo s fd args (ps.zip us) → Vals vs us → sp vs H Q E →
    codeAny (model P w) A (.call (.ref f) args) (CR CX outer P w H s Q E) s

theorem Env0.make {P : Program} {w : World} {K : PySem.W.Frag} {mg : Str → Option Value} {base : Heap} {A : Around} {outer : List Env} {s : Shared} {H : Hp} (e : Env0 P w K mg base A outer s H) (C : Addr) (us : List Value) (kw : List (Str × Value)) :
    Env0 P w K mg base (A.under (.builtin "type.__call__" ⟨.ref C :: us, kw⟩)) outer s H := ⟨by first | exact e.frames | (simpa [Around.under, Code.envs, Code.isFrame, pushEnvs] using e.frames), e.mod, e.bs, e.bsz, e.funs, e.frf, e.hok, e.bare⟩

section
variable {X : Cx} {pins : List (Addr × Obj)} {σ : St} {H : Hp} {s s' : Shared}
/-- from a body: what a callee wants -/
theorem Inv.env0 (I : Inv X pins σ H s) : Env0 X.prog X.w X.K X.mg X.base X.A X.stack s H :=
  ⟨I.ok.frames, I.ok.mod, I.bs, Nat.le_trans I.ok.bsz I.sz, I.stack, I.stkFree, I.hok, I.bare⟩
/-- behind a call -/
theorem Inv.after {Q : VK} {u : Value} (I : Inv X pins σ H s) (h : CE X.stack X.prog X.w H s Q u s') : EP X pins σ Q u s' := by
  obtain ⟨v, H', os, bare, un, hok, r, q⟩ := h
  obtain ⟨hh, g, d, t, os'⟩ := s'
  obtain rfl : os' = s.os := os
  exact ⟨v, H', I.call (h' := hh) (g' := g) (d' := d) (t' := t) (ch := []) un hok bare (fun b z => absurd z (by simp)), r, q⟩
end

/-! ### calls -/
/-- f(..): the written arguments, then the defaults dvs; E: what is wanted of an exception -/
def tCall (sp : Sp) (dvs : List V) (E : XK) (t : TA) : TE := fun σ H Q => t σ H fun vs H1 => sp (vs ++ dvs) H1 Q E
/-- o.m(..) of an instance of the class at C -/
def tMeth (C : Addr) (m : Str) (sp : Sp) (dvs : List V) (E : XK) (ta : TE) (t : TA) : TE := fun σ H Q => ta σ H fun x H1 => ∃ a dx fs, x = .ref a ∧ H1 a = some (.ins C dx fs) ∧ fs.lookup m = none ∧
  t σ H1 fun vs H2 => sp (x :: (vs ++ dvs)) H2 Q E
/-- C(..): a new instance and its dict, then __init__ -/
def tMake (C : Addr) (sp : Sp) (dvs : List V) (E : XK) (t : TA) : TE := fun σ H Q => t σ H fun vs H1 => ∀ x dx, H1 x = none → H1 dx = none → dx ≠ x →
  sp (.ref x :: (vs ++ dvs)) (upd (upd H1 dx (.own x)) x (.ins C dx [])) (fun v H2 => v = .non ∧ Q (.ref x) H2) E

/-- how the parameters are bound: us the positional arguments, kw the keywords' values by name, ds the defaults that fill up -/
def Binds (K : PySem.W.Frag) (fd : FuncData) (ps : List Str) (ds : List Value) : Prop :=
  ∀ (s : Shared) (us : List Value), K.In s.heap → (us ++ ds).length = ps.length → BindsTo s fd ⟨us, []⟩ (ps.zip (us ++ ds))
/-- every parameter is given -/
theorem Binds.all {K : PySem.W.Frag} {fd : FuncData} {ps : List Str} (h : ∀ us : List Value, us.length = ps.length → bindArgs fd ⟨us, []⟩ = pure (ps.zip us)) : Binds K fd ps [] := fun s us _ hl => by
  rw [List.append_nil] at hl ⊢
  exact .of_eq (h us hl)

/-- an exception of a callee reaches what this body wants of exceptions -/
def Passes (CX : CXT) (X : Cx) (E : XK) : Prop := ∀ (pins : List (Addr × Obj)) (σ : St) (H : Hp) (s : Shared) (e : Value) (s' : Shared), Inv X pins σ H s → CX X.stack H s E e s' → X.xe e s'

section
variable {X : Cx} {CX : CXT} {k : Nat} {f C : Addr} {fd : FuncData} {ps : List Str} {sp : Sp} {dvs : List V} {ds : List Value} {E : XK} {x m : Str} {p pos apos : Pos} {e o : Expr} {es : List Expr} {ta : TE} {t : TA}

/-- the callee runs -/
theorem run_fn {pins : List (Addr × Obj)} {σ : St} {H : Hp} {s : Shared} {Q : VK} {us : List Value} {vs : List V} (F : FnOk X.prog X.w X.K X.mg X.base CX k f fd ps sp) (hr : Room k X.A) (hb : Binds X.K fd ps ds) (hd : Vals dvs ds) (hx : Passes CX X E)
    (I : Inv X pins σ H s) (r : Vals vs us) (h : sp (vs ++ dvs) H Q E) : wpAny (model X.prog X.w) X.A (call (.ref f) us) (EP X pins σ Q) X.xe s := by
  have r2 : Vals (vs ++ dvs) (us ++ ds) := r.append hd
  have hl : (us ++ ds).length = ps.length := by rw [← r2.length]; exact F.len _ _ _ _ h
  refine wpAny_call (codeAny_mono (F.run X.A X.stack s H ⟨us, []⟩ (us ++ ds) (vs ++ dvs) Q E hr I.env0 (hb s us I.kIn hl) r2 h) fun r s' hq => ?_)
  cases r with
  | error e => exact hx pins σ H s e s' I hq
  | ok fl =>
    cases fl with
    | ret u => exact I.after hq
    | next => exact False.elim hq
    | brk => exact False.elim hq
    | cont => exact False.elim hq

theorem pe_call (F : FnOk X.prog X.w X.K X.mg X.base CX k f fd ps sp) (hr : Room k X.A) (hg : Gl X x) (hm : X.mg x = some (.ref f)) (hk : PySem.W.keepIn X.K (.ref f) = true) (hb : Binds X.K fd ps ds) (hd : Vals dvs ds) (hx : Passes CX X E)
    (ha : PA X (e :: es) t) (hdb : (x == ("__debug__" : Str)) = false := by decide) (he : starEach (e :: es) X.env = (false, eval e X.env) :: starEach es X.env := by rfl) (hpl : (backTo pos (starEach es X.env)).any (·.1) = false := by rfl) :
    PE X (.Call (.Name x p) (e :: es) [] pos) (tCall sp dvs E t) := by
  intro pins s σ H Q I h
  refine wpAny_Call_Name_kw (ld_glob I hg hm ?_ hdb)
  refine PySem.W.callWith_K (h₀ := X.base) I.ok.mod.kin hk (thn (ha pos pins s σ H _ I h) fun us s1 ⟨vs, H1, I1, r, q⟩ => ⟨I1.kIn, ?_⟩) he hpl
  exact run_fn F hr hb hd hx I1 r q

/-- o.m(e, ..) -/
theorem pe_meth {pl : Sem Bool} (he : PE X o ta) (c : Cls X.K C) (hm : Meth X.K C m f) (F : FnOk X.prog X.w X.K X.mg X.base CX k f fd ps sp) (hr : Room k X.A) (hb : Binds X.K fd ps ds) (hd : Vals dvs ds) (hx : Passes CX X E) (ha : PA X (e :: es) t)
    (hst : starEach (e :: es) X.env = (false, eval e X.env) :: starEach es X.env := by rfl) (hpl : (backTo pos (starEach es X.env)).any (·.1) = false := by rfl)
    (ht : eval (.Call (.Attribute o m apos) (e :: es) [] pos) X.env = (do
      let ov ← eval o X.env
      standAt apos.atName
      let (f, first) ← holding [ov] (getMethod ov m pl)
      callWith pos f first (backTo pos (starEach (e :: es) X.env)) (backToKw pos (keywordEach [] X.env))) := by rfl) :
    PE X (.Call (.Attribute o m apos) (e :: es) [] pos) (tMeth C m sp dvs E ta t) := by
  intro pins s σ H Q I h
  refine PySem.W.methodCall_KW (pl := pl) (thn (he pins s σ H _ I h) fun u s1 ⟨x, H1, I1, rx, a, dx, fs, ex, ea, l, q⟩ => ?_) ht
  subst ex
  obtain rfl : u = Value.ref a := rx
  refine getmeth_ok I1 ea c hm l ?_
  refine PySem.W.callWith_K (first := [.ref a]) (h₀ := X.base) I.ok.mod.kin hm.kp (thn (ha pos pins s1 σ H1 _ I1 q) fun us s2 ⟨vs, H2, I2, r, q2⟩ => ⟨I2.kIn, ?_⟩) hst hpl
  exact run_fn (us := .ref a :: us) (vs := .ref a :: vs) F hr hb hd hx I2 (.cons rfl r) q2

/-- what a class must have to be made -/
structure Mk (K : PySem.W.Frag) (C f : Addr) : Prop where
  makes : PySem.W.makesIn K C = true
  init : PySem.W.findIn K (.ref C) "__init__" = some (some (.ref f))
  fn : PySem.W.isFn K (.ref f) = true
  kp : PySem.W.keepIn K (.ref C) = true

theorem run_make {pins : List (Addr × Obj)} {σ : St} {H : Hp} {s : Shared} {Q : VK} {us : List Value} {vs : List V} (M : Mk X.K C f) (F : FnOk X.prog X.w X.K X.mg X.base CX k f fd ps sp) (hr : Room (k + 1) X.A) (hb : Binds X.K fd ps ds) (hd : Vals dvs ds)
    (hx : Passes CX X E) (I : Inv X pins σ H s) (r : Vals vs us)
    (h : ∀ x dx, H x = none → H dx = none → dx ≠ x → sp (.ref x :: (vs ++ dvs)) (upd (upd H dx (.own x)) x (.ins C dx [])) (fun v H2 => v = .non ∧ Q (.ref x) H2) E) :
    wpAny (model X.prog X.w) X.A (call (.ref C) us) (EP X pins σ Q) X.xe s := by
  have hq := h (s.heap.objs.size + 1) s.heap.objs.size (I.hok.fresh (Nat.le_succ _)) (I.hok.fresh (Nat.le_refl _)) (Nat.ne_of_lt (Nat.lt_succ_self _))
  have I2 := Inv.made (C := C) I
  have r2 : Vals (V.ref (s.heap.objs.size + 1) :: (vs ++ dvs)) (Value.ref (s.heap.objs.size + 1) :: (us ++ ds)) := .cons rfl (r.append hd)
  have hl : (Value.ref (s.heap.objs.size + 1) :: us ++ ds).length = ps.length := by
    have e := r2.length
    rw [F.len _ _ _ _ hq] at e
    exact e.symm
  refine wpAny_call (make_map (f := f) I.kIn M.makes M.init (beq_iff_eq.mp M.fn) (codeAny_mono (F.run _ X.stack _ _ ⟨Value.ref (s.heap.objs.size + 1) :: us, []⟩ (Value.ref (s.heap.objs.size + 1) :: (us ++ ds)) _ _ E (hr.make C us [])
    (I2.env0.make C us []) (hb _ (Value.ref (s.heap.objs.size + 1) :: us) I2.kIn hl) r2 hq) fun r s' hq' => ?_))
  cases r with
  | error e => exact hx pins σ _ _ e s' I2 hq'
  | ok fl =>
    cases fl with
    | ret u =>
      obtain ⟨v, H', I3, rv, ev, q3⟩ := I2.after hq'
      subst ev
      exact ⟨rv, ⟨V.ref (s.heap.objs.size + 1), H', I3, rfl, q3⟩⟩
    | next => exact False.elim hq'
    | brk => exact False.elim hq'
    | cont => exact False.elim hq'
theorem pe_make (M : Mk X.K C f) (F : FnOk X.prog X.w X.K X.mg X.base CX k f fd ps sp) (hr : Room (k + 1) X.A) (hg : Gl X x) (hm : X.mg x = some (.ref C)) (hb : Binds X.K fd ps ds) (hd : Vals dvs ds) (hx : Passes CX X E)
    (ha : PA X (e :: es) t) (hdb : (x == ("__debug__" : Str)) = false := by decide) (he : starEach (e :: es) X.env = (false, eval e X.env) :: starEach es X.env := by rfl) (hpl : (backTo pos (starEach es X.env)).any (·.1) = false := by rfl) :
    PE X (.Call (.Name x p) (e :: es) [] pos) (tMake C sp dvs E t) := by
  intro pins s σ H Q I h
  refine wpAny_Call_Name_kw (ld_glob I hg hm ?_ hdb)
  refine PySem.W.callWith_K (h₀ := X.base) I.ok.mod.kin M.kp (thn (ha pos pins s σ H _ I h) fun us s1 ⟨vs, H1, I1, r, q⟩ => ⟨I1.kIn, ?_⟩) he hpl
  exact run_make M F hr hb hd hx I1 r q
end

/-! ### keywords -/
section
variable {X : Cx} {CX : CXT} {k : Nat} {f C : Addr} {fd : FuncData} {ps ks : List Str} {sp : Sp} {E : XK} {x m : Str} {p pos apos kpos : Pos} {e o : Expr} {es : List Expr} {kws : List Keyword} {te ta : TE} {t tk : TA} {nm : Option Str}

variable {g : List Value → List Value → List Value} {gV : List V → List V → List V}
end

/-! ### a def's body keeps its promise -/
/-- names: the parameters first -/
structure FnScope (N P : List Str) (sc : Scope) : Prop where
  kind : sc.kind = .function
  co : sc.isCoroutine = false
  gen : sc.isGenerator = false
  nd : N.Nodup
  pre : N.take P.length = P
  par : ∀ x ∈ P, sc.names.lookup x = some .local ∨ sc.names.lookup x = some .cell
  nofree : ∀ y ∈ sc.names, y.2 ≠ .free

theorem bindL_out {kindOf : Str → Option NameKind} {x : Str} : ∀ {binds : List (Str × Value)} {m : Str → Option Value}, (∀ v, (x, v) ∉ binds) → bindL kindOf binds m x = m x
  | [], _, _ => rfl
  | (n, v) :: r, m, h => by
    unfold bindL
    rw [bindL_out fun w hw => h w (List.mem_cons_of_mem _ hw)]
    split
    · have : x ≠ n := by rintro rfl; exact h v List.mem_cons_self
      simp [this]
    · rfl
theorem bindC_out {kindOf : Str → Option NameKind} {x : Str} : ∀ {binds : List (Str × Value)} {m : Str → Option Value}, (∀ v, (x, v) ∉ binds) → bindC kindOf binds m x = m x
  | [], _, _ => rfl
  | (n, v) :: r, m, h => by
    unfold bindC
    rw [bindC_out fun w hw => h w (List.mem_cons_of_mem _ hw)]
    split
    · rfl
    · have : x ≠ n := by rintro rfl; exact h v List.mem_cons_self
      simp [this]
theorem bindL_get {kindOf : Str → Option NameKind} {x : Str} {v : Value} : ∀ {P : List Str} {vs : List Value} {i : Nat} {m : Str → Option Value}, P.Nodup → P[i]? = some x → vs[i]? = some v → kindOf x = some .local →
    bindL kindOf (P.zip vs) m x = some v
  | [], _, _, _, _, h, _, _ => by simp at h
  | _ :: _, [], _, _, _, _, h, _ => by simp at h
  | p :: P, w :: vs, 0, m, nd, h1, h2, hk => by
    simp at h1 h2; subst h1; subst h2
    show bindL kindOf ((p, w) :: P.zip vs) m p = _
    unfold bindL
    rw [bindL_out fun v hv => (List.nodup_cons.mp nd).1 (List.of_mem_zip hv).1, if_pos hk]
    simp
  | p :: P, w :: vs, i + 1, m, nd, h1, h2, hk => by
    show bindL kindOf ((p, w) :: P.zip vs) m x = _
    unfold bindL
    exact bindL_get (i := i) (List.nodup_cons.mp nd).2 (by simpa using h1) (by simpa using h2) hk
theorem bindC_get {kindOf : Str → Option NameKind} {x : Str} {v : Value} : ∀ {P : List Str} {vs : List Value} {i : Nat} {m : Str → Option Value}, P.Nodup → P[i]? = some x → vs[i]? = some v → kindOf x ≠ some .local →
    bindC kindOf (P.zip vs) m x = some v
  | [], _, _, _, _, h, _, _ => by simp at h
  | _ :: _, [], _, _, _, _, h, _ => by simp at h
  | p :: P, w :: vs, 0, m, nd, h1, h2, hk => by
    simp at h1 h2; subst h1; subst h2
    show bindC kindOf ((p, w) :: P.zip vs) m p = _
    unfold bindC
    rw [bindC_out fun v hv => (List.nodup_cons.mp nd).1 (List.of_mem_zip hv).1, if_neg hk]
    simp
  | p :: P, w :: vs, i + 1, m, nd, h1, h2, hk => by
    show bindC kindOf ((p, w) :: P.zip vs) m x = _
    unfold bindC
    exact bindC_get (i := i) (List.nodup_cons.mp nd).2 (by simpa using h1) (by simpa using h2) hk

/-- the names' values at the entry -/
def start (N : List Str) (vs : List V) : St := vs.map some ++ List.replicate (N.length - vs.length) none

/-- the context of a def's body, at its entry; an exception leaves the frame, then lies as CX says -/
def cxOf (CX : CXT) (P : Program) (w : World) (K : PySem.W.Frag) (mg : Str → Option Value) (base : Heap) (N : List Str) (qual : Str) (scope : Scope) (f : Addr) (cd : Value) (A : Around) (outer : List Env) (s : Shared) (H : Hp) (E : XK) : Cx where
  prog := P
  w := w
  K := K
  mg := mg
  base := base
  A := A.deeper (envOfC qual scope s.heap.objs.size f cd)
  N := N
  s₀ := s
  H₀ := H
  env := envOfC qual scope s.heap.objs.size f cd
  outer := outer
  stack := envOfC qual scope s.heap.objs.size f cd :: outer
  ex := []
  calm := true
  fn := fun _ => true
  pn := []
  xe := fun e s' => wpAny (model P w) (A.deeper (envOfC qual scope s.heap.objs.size f cd)) (leaving (envOfC qual scope s.heap.objs.size f cd) e) (fun _ s'' => CX outer H s E e s'') (fun e' s'' => CX outer H s E e' s'') s'

theorem cell_has {sc : Scope} {n : Nat} {x : Str} (h : sc.names.lookup x = some .cell) : ∃ c, (cellsFrom n sc.names []).lookup x = some c := by
  have q := PySem.W.cellsFrom_some sc.names n [] (.inl h)
  exact Option.isSome_iff_exists.mp q

theorem inv_start {CX : CXT} {P : Program} {w : World} {K : PySem.W.Frag} {mg : Str → Option Value} {base : Heap} {N ps : List Str} {qual : Str} {scope : Scope} {f : Addr} {cd : Value} {A : Around} {outer : List Env} {s s1 : Shared} {H : Hp} {E : XK} {us : List Value} {vs : List V}
    (S : FnScope N ps scope) (hd : A.handled = none) (e0 : Env0 P w K mg base A outer s H) (hl : vs.length = ps.length) (r : Vals vs us)
    (x : InCallC s s.heap.objs.size (bindL (envOfC qual scope s.heap.objs.size f cd).kindOf (ps.zip us) fun _ => none) (cellsFrom (s.heap.objs.size + 1) scope.names []) (bindC (envOfC qual scope s.heap.objs.size f cd).kindOf (ps.zip us) fun _ => none) s1) :
    Inv (cxOf CX P w K mg base N qual scope f cd A outer s H E) [] (start N vs) H s1 := by
  have hpl : ps.length ≤ N.length := by have := congrArg List.length S.pre; rw [List.length_take] at this; omega
  obtain ⟨h1, tk, rfl, hk⟩ := x.done
  have noA : ∀ b : Addr, b ∉ (cxOf CX P w K mg base N qual scope f cd A outer s H E).ex := fun b z => absurd (show b ∈ ([] : List Addr) from z) (by simp)
  refine ⟨⟨e0.mod, S.kind, rfl, rfl, Nat.le_refl _, fun y z c h1 h2 => ?_, fun y hy => ?_, fun y c _ h => ?_, fun _ => hd, Around.frames_deeper e0.frames, .inr ⟨rfl, rfl⟩, fun b z => absurd z (noA b), e0.bs, e0.bsz, fun b _ _ => noA b, fun b z => absurd z (noA b), e0.funs, e0.frf⟩,
    rfl, e0.bare, Un.kept hk, ⟨_, x.toInCall.ns, fun i y v h1 h2 h3 => ?_⟩, fun y c h => ⟨_, x.cell y c h⟩, e0.hok.fresh (Nat.le_refl _), fun y c h => ?_, fun p hp => absurd (show p ∈ ([] : List (Addr × Obj)) from hp) (by simp), e0.hok.kept hk, ?_⟩
  · exact name_of_addr x.apart (PySem.mem_of_lookup h1) (PySem.mem_of_lookup h2)
  · have hy : scope.names.lookup y = some .cell ∨ scope.names.lookup y = some .free := hy
    rcases hy with hy | hy
    · exact cell_has hy
    · exact absurd rfl (S.nofree _ (PySem.mem_of_lookup hy))
  · exact Nat.le_of_lt (x.above y c (PySem.mem_of_lookup h))
  · have hi : i < vs.length := by
      unfold start at h2
      by_cases hi : i < vs.length
      · exact hi
      · rw [List.getElem?_append_right (by simpa using hi)] at h2
        rw [List.getElem?_replicate] at h2
        split at h2 <;> cases h2
    have ha : vs[i]? = some v := by
      unfold start at h2
      rw [List.getElem?_append_left (by simpa using hi), List.getElem?_map] at h2
      cases e : vs[i]? with
      | none => rw [e] at h2; cases h2
      | some a => rw [e] at h2; cases h2; rfl
    obtain ⟨u, hu, rv⟩ := r.get ha
    have hp : ps[i]? = some y := by
      rw [← S.pre, List.getElem?_take_of_lt (by omega)]; exact h1
    have ndP : ps.Nodup := by rw [← S.pre]; exact S.nd.sublist (List.take_sublist _ _)
    refine ⟨u, rv, ?_⟩
    rcases S.par y (List.mem_of_getElem? hp) with k | k
    · exact .inl ⟨k, bindL_get ndP hp hu k⟩
    · obtain ⟨c, e⟩ := cell_has (n := s.heap.objs.size + 1) k
      refine .inr ⟨.inl k, c, e, ?_⟩
      have q := x.cell y c e
      rw [bindC_get ndP hp hu (by show scope.names.lookup y ≠ _; rw [k]; decide)] at q
      exact q
  · exact e0.hok.fresh (Nat.le_of_lt (x.above y c (PySem.mem_of_lookup h)))
  · unfold start
    show _ = N.length
    rw [List.length_append, List.length_map, List.length_replicate]
    omega

/-- THE RULE: a def (or a method) of the text, by its body. The body's reading t is chosen for each entry; it is run at the parameters' values -/
theorem fn_of {CX : CXT} {P : Program} {w : World} {K : PySem.W.Frag} {mg : Str → Option Value} {base : Heap} {k : Nat} {f : Addr} {name qual : Str} {params : Arguments} {body : List Stmt} {scope : Scope} {dV kV doc pm cdv ct oc : Value} {an od : Option Addr}
    {osl : Array (Option Value)} {N ps : List Str} {sp : Sp} (lk : K.lookup f = some ⟨oc, od, .func (PySem.W.fnOf name qual params body scope dV kV doc pm an cdv ct), osl⟩) (hcd : PySem.W.codeIn K cdv qual = true) (S : FnScope N ps scope)
    (len : ∀ vs H Q E, sp vs H Q E → vs.length = ps.length)
    (hbody : ∀ (A : Around) (outer : List Env) (s : Shared) (H : Hp) (vs : List V) (Q : VK) (E : XK), Room k (A.deeper (envOfC qual scope s.heap.objs.size f cdv)) → sp vs H Q E →
      ∃ t, PSs (cxOf CX P w K mg base N qual scope f cdv A outer s H E) body t ∧ t { nx := fun _ H' => Q .non H', rt := Q } (start N vs) H) :
    FnOk P w K mg base CX (k + 1) f (PySem.W.fnOf name qual params body scope dV kV doc pm an cdv ct) ps sp := by
  refine ⟨len, fun A outer s H args us vs Q E hr e0 hb r hsp => ?_⟩
  have hl := len _ _ _ _ hsp
  have KX : K.In s.heap := e0.mod.kin.keeps fun b o e => (e0.bs b o e).1
  have lim : s.heap.NoLimit := e0.mod.nolimit.keeps fun b o e => (e0.bs b o e).1
  have hkind : ∀ y ∈ ps.zip us, scope.names.lookup y.1 = some .local ∨ (scope.names.lookup y.1 = some .cell ∧ ((cellsFrom (s.heap.objs.size + 1) scope.names []).lookup y.1).isSome = true) := fun ⟨n, v⟩ hy => by
    rcases S.par n (List.of_mem_zip hy).1 with q | q
    · exact .inl q
    · exact .inr ⟨q, PySem.W.cellsFrom_some _ _ _ (.inl q)⟩
  refine codeAny_call_function hr.depth (KX _ _ lk) rfl S.co S.gen rfl (PySem.W.codeRec_of KX hcd) (hb _ _ _ _ ?_)
  refine wpAny_newFunctionEnv_cells S.kind hkind fun env he s1 x => ?_
  subst he
  refine ⟨lim.keeps x.toInCall.keep, codeAny_func ?_⟩
  obtain ⟨t, ht, hq⟩ := hbody A outer s H vs Q E (hr.deeper _) hsp
  have I : Inv (cxOf CX P w K mg base N qual scope f cdv A outer s H E) [] (start N vs) H s1 := inv_start S hr.hd e0 hl r x
  refine wpAny_mono (ht [] s1 (start N vs) H _ I hq) (fun fl s' hs => ?_) fun e s' hs => hs
  have fin : ∀ {σ' : St} {H' : Hp} {v : V} {u : Value}, Inv (cxOf CX P w K mg base N qual scope f cdv A outer s H E) [] σ' H' s' → RelV v u → Q v H' → CE outer P w H s Q u s' :=
    fun {σ' H' v u} J rv q => ⟨v, H', J.os, J.bare, J.base, J.hok, rv, q⟩
  cases fl with
  | ret u =>
    obtain ⟨v, σ', H', J, rv, q⟩ := hs
    exact fin J rv q
  | next =>
    obtain ⟨σ', H', J, q⟩ := hs
    exact fin (v := V.non) (u := Value.none) J rfl q
  | brk =>
    obtain ⟨_, _, _, q⟩ := hs
    exact False.elim q
  | cont =>
    obtain ⟨_, _, _, q⟩ := hs
    exact False.elim q
end L2

namespace L2
open PySem PySem.Spec PyProof.Rows
section
variable {X : Cx} {x : Str} {p pos : Pos} {e : Expr} {es : List Expr} {t : TA} {id T : String} {r : List V → Hp → VK → Prop}

def tCB (r : List V → Hp → VK → Prop) (t : TA) : TE := fun σ H Q => t σ H fun vs H1 => r vs H1 Q
/-- f(e, ..), f a built-in function -/
theorem pe_callB (hc : CallR X (.builtin id) r) (hg : Gl X x) (hm : X.mg x = none) (hv : bootBuiltins x = some (.builtin id)) (ha : PA X (e :: es) t) (hn : x ≠ "__name__" := by decide) (hdb : (x == ("__debug__" : Str)) = false := by decide)
    (he : starEach (e :: es) X.env = (false, eval e X.env) :: starEach es X.env := by rfl) (hpl : (backTo pos (starEach es X.env)).any (·.1) = false := by rfl) : PE X (.Call (.Name x p) (e :: es) [] pos) (tCB r t) := by
  intro pins s σ H Q I h
  refine wpAny_Call_Name_kw (ld_blt I hg hm hv ?_ hn hdb)
  exact PyProof.Rows.callWith_builtin1 (thn (ha pos pins s σ H _ I h) fun us s1 ⟨vs, H1, I1, r1, q1⟩ => hc pins s1 σ H1 vs us Q I1 r1 q1) he hpl
/-- T(e, ..), T a built-in type -/
theorem pe_callTy (hc : CallR X (.type T) r) (hg : Gl X x) (hm : X.mg x = none) (hv : bootBuiltins x = some (.type T)) (ha : PA X (e :: es) t) (hn : x ≠ "__name__" := by decide) (hdb : (x == ("__debug__" : Str)) = false := by decide)
    (he : starEach (e :: es) X.env = (false, eval e X.env) :: starEach es X.env := by rfl) (hpl : (backTo pos (starEach es X.env)).any (·.1) = false := by rfl) : PE X (.Call (.Name x p) (e :: es) [] pos) (tCB r t) := by
  intro pins s σ H Q I h
  refine wpAny_Call_Name_kw (ld_blt I hg hm hv ?_ hn hdb)
  exact PyProof.Rows.callWith_type1 (thn (ha pos pins s σ H _ I h) fun us s1 ⟨vs, H1, I1, r1, q1⟩ => hc pins s1 σ H1 vs us Q I1 r1 q1) he hpl
end
end L2

namespace HT
open PySem PyProof.Rows



section
open PySem.SeqAt
open PySem.AutoSeq1 (wpAny_loadPart')
open PySem.MeetsSeq PySem.MeetsSeq2 PySem.MeetsSeq3

end

section
variable {prog : Program} {w : World} {A : Around} {E : Value → Shared → Prop} {s : Shared}



/-! ### t[a:b], not the whole -/
/-- a slice's bound as a place among n (d where it is left out) -/
def sIx (n d : Nat) : Option Int → Nat
  | none => d
  | some v => if v < 0 then (v + (n : Int)).toNat else min v.toNat n

end
end HT

namespace L2
open PySem PySem.Spec PyProof.Rows

/-! ### the parts of a slice -/
abbrev TO := St → Hp → (Option Int → Hp → Prop) → Prop
/-- a slice's part (left out, or an int) -/
def PO (X : Cx) (e : Option Expr) (t : TO) : Prop :=
  ∀ (pins : List (Addr × Obj)) (s : Shared) (σ : St) (H : Hp) (Q : Option Int → Hp → Prop), Inv X pins σ H s → t σ H Q →
    wpAny (model X.prog X.w) X.A (evalPart e X.env) (fun u s' => ∃ o H', Inv X pins σ H' s' ∧ IsPart u o ∧ Q o H') X.xe s
def tNoPart : TO := fun _ H Q => Q none H
def tPart (t : TE) : TO := fun σ H Q => t σ H fun x H1 => ∃ i, x = .int i ∧ Q (some i) H1

theorem intsAre_of {ns : List Int} : ∀ {us : List Value}, Vals (ns.map V.int) us → IntsAre us ns := by
  induction ns with
  | nil => intro us r; rw [List.map_nil] at r; cases r; exact .nil
  | cons n ns ih =>
    intro us r
    rw [List.map_cons] at r
    cases r with
    | cons r1 r2 =>
      obtain ⟨t, e⟩ := r1
      subst e
      exact .cons n t (ih r2)

section
variable {X : Cx} {e : Expr} {te : TE} {lo hi : Option Expr} {tl th : TO} {pos p2 : Pos}

theorem po_none : PO X none tNoPart := by
  intro pins s σ H Q I h
  rw [evalPart_none]
  exact wpAny_pure ⟨none, H, I, .none, h⟩
theorem po_some (h : PE X e te) : PO X (some e) (tPart te) := by
  intro pins s σ H Q I hw
  rw [evalPart_some]
  refine thn (h pins s σ H _ I hw) fun u s1 ⟨x, H1, I1, r1, q1⟩ => ?_
  obtain ⟨i, rfl, q⟩ := q1
  obtain ⟨t, rfl⟩ := r1
  exact ⟨some i, H1, I1, .int i t, q⟩

/-- what a slice of a value is, by values: the slice object stands at sl -/
def SlR (X : Cx) (r : V → Option Int → Option Int → Hp → VK → Prop) : Prop :=
  ∀ (pins : List (Addr × Obj)) (s : Shared) (σ : St) (H : Hp) (x : V) (v vl vu : Value) (lo hi : Option Int) (sl : Addr) (Q : VK), Inv X pins σ H s → RelV x v → s.heap.IsSliceOf sl vl vu .none → IsPart vl lo → IsPart vu hi → r x lo hi H Q →
    ∃ T id, typeLookup (.type T) "__getitem__" = pure (some (.builtin id)) ∧ s.TypeIs v T ∧ wpAny (model X.prog X.w) X.A (getItem v (.ref sl)) (EP X pins σ Q) X.xe s

/-- the items of xs[lo:hi] -/
def cutV (xs : List V) (lo hi : Option Int) : List V := (xs.drop (HT.sIx xs.length 0 lo)).take (HT.sIx xs.length xs.length hi - HT.sIx xs.length 0 lo)
theorem cutV_length (xs : List V) (lo hi : Option Int) : (cutV xs lo hi).length ≤ xs.length := by
  unfold cutV
  rw [List.length_take, List.length_drop]
  omega

/-! ### t < u, t + u -/
end
end L2

namespace L2
open PySem PySem.Spec PyProof.Rows

/-! ### places -/
/-- the place that an index of any sign means -/
def ixN (n : Nat) (i : Int) : Option Nat := if 0 ≤ i then (if i < n then some i.toNat else none) else if -(n : Int) ≤ i then some (i + n).toNat else none
def atI {α : Type} (xs : List α) (i : Int) : Option α := (ixN xs.length i).bind fun j => xs[j]?
theorem ixN_seq {n : Nat} {i : Int} {j : Nat} (h : ixN n i = some j) : seqIndex? i n = some j ∧ j < n ∧ -(n : Int) ≤ i ∧ i < n := by
  unfold ixN at h
  by_cases h0 : 0 ≤ i
  · rw [if_pos h0] at h
    by_cases h1 : i < n
    · rw [if_pos h1] at h
      have e : i.toNat = j := Option.some.inj h
      exact ⟨by rw [seqIndex_of h0 h1, e], by omega, by omega, h1⟩
    · rw [if_neg h1] at h; cases h
  · rw [if_neg h0] at h
    by_cases h1 : -(n : Int) ≤ i
    · rw [if_pos h1] at h
      have e : (i + n).toNat = j := Option.some.inj h
      exact ⟨by rw [seqIndex_neg (by omega) h1, e], by omega, h1, by omega⟩
    · rw [if_neg h1] at h; cases h
theorem atI_get {α : Type} {xs : List α} {i : Int} {v : α} (h : atI xs i = some v) : ∃ j, seqIndex? i xs.length = some j ∧ xs[j]? = some v ∧ j < xs.length ∧ -(xs.length : Int) ≤ i ∧ i < xs.length := by
  unfold atI at h
  cases e : ixN xs.length i with
  | none => rw [e] at h; cases h
  | some j =>
    rw [e] at h
    obtain ⟨h1, h2, h3, h4⟩ := ixN_seq e
    exact ⟨j, h1, h, h2, h3, h4⟩
theorem atI_nat {α : Type} {xs : List α} {j : Nat} {v : α} (h : xs[j]? = some v) : atI xs (j : Int) = some v := by
  have hj : j < xs.length := (List.getElem?_eq_some_iff.mp h).1
  have e : ixN xs.length (j : Int) = some j := by
    unfold ixN
    rw [if_pos (by omega), if_pos (by omega)]; simp
  unfold atI; rw [e]; exact h

/-! ### what may be subscripted -/
/-- what stands as an index of a plain subscript -/
def PlainIx (b : Expr) : Prop := ∀ o i, subscripted b false o i = operate [o, i] (getItem o i)
/-- a subscript by values -/
def IxR (X : Cx) (r : R2) : Prop :=
  ∀ (value slice : Expr) (pins : List (Addr × Obj)) (s : Shared) (σ : St) (H : Hp) (x y : V) (v u : Value) (Q : VK), Inv X pins σ H s → RelV x v → RelV y u → r x y H Q →
    subscripted slice false v u = operate [v, u] (getItem v u) → wpAny (model X.prog X.w) X.A (subscriptTail value slice v u) (EP X pins σ Q) X.xe s
/-- a call of a builtin's method by values: the receiver, the arguments -/
def MtR (X : Cx) (id : String) (r : V → List V → Hp → VK → Prop) : Prop :=
  ∀ (pins : List (Addr × Obj)) (s : Shared) (σ : St) (H : Hp) (x : V) (xs : List V) (v : Value) (us : List Value) (Q : VK), Inv X pins σ H s → RelV x v → Vals xs us → r x xs H Q →
    wpAny (model X.prog X.w) X.A (call (.builtin id) (v :: us)) (EP X pins σ Q) X.xe s
section
variable {X : Cx} {a b : Expr} {ta tb : TE} {pos : Pos}
/-- a[b] -/
theorem pe_ix {r : R2} (hr : IxR X r) (ha : PE X a ta) (hb : PE X b tb) (hs : PlainIx b) : PE X (.Subscript a b pos) (tOp r ta tb) := by
  intro pins s σ H Q I h
  exact Subscript_ (binT ha hb I h fun v u s2 x y H2 I2 rx ry q => hr a b pins s2 σ H2 x y v u Q I2 rx ry q (hs _ _))

def rIxL (K : PySem.W.Frag) : R2 := fun x y H Q => ∃ p xs i v, x = .ref p ∧ y = .int i ∧ SqL K H p xs ∧ atI xs i = some v ∧ Q v H
def rIxT (K : PySem.W.Frag) : R2 := fun x y H Q => ∃ p xs i v, x = .ref p ∧ y = .int i ∧ SqT K H p xs ∧ atI xs i = some v ∧ Q v H
theorem ix_list : IxR X (rIxL X.K) := by
  intro value slice pins s σ H x y v u Q I rx ry h hs
  obtain ⟨p, xs, i, z, rfl, rfl, hq, he, q⟩ := h
  cases rx
  obtain ⟨t, rfl⟩ := ry
  obtain ⟨its, r, pl, hz⟩ := I.list hq
  obtain ⟨j, h1, h2, h3, h4, h5⟩ := atI_get he
  obtain ⟨w, ew, rw'⟩ := r.get h2
  have hl := r.length
  have hn := line63
  have fin : EP X pins σ Q w s := ⟨z, H, I, rw', q⟩
  by_cases h0 : 0 ≤ i
  · have hj : i.toNat = j := by
      rw [seqIndex_of h0 h5] at h1
      exact Option.some.inj h1
    exact item_listR pl.isList h0 (by omega) (by rw [hj]; simpa using ew) fin hs
  · have hj : (i + (its.toArray.size : Int)).toNat = j := by
      rw [seqIndex_neg (by omega) h4] at h1
      rw [List.size_toArray, ← hl]
      exact Option.some.inj h1
    exact subscriptTail_builtinR (x := w) pl.isList.typeIs slot_list_getitem.lookup
      (wpAny_getItem_list_neg (Q := fun r s' => r = w ∧ EP X pins σ Q r s') pl.isList (by omega) (by rw [List.size_toArray] <;> omega) (by omega) (by rw [hj]; simpa using ew) ⟨rfl, fin⟩) hs
theorem ix_tup : IxR X (rIxT X.K) := by
  intro value slice pins s σ H x y v u Q I rx ry h hs
  obtain ⟨p, xs, i, z, rfl, rfl, hq, he, q⟩ := h
  cases rx
  obtain ⟨t, rfl⟩ := ry
  obtain ⟨its, r, pl, hz⟩ := I.tuple hq
  obtain ⟨j, h1, h2, h3, h4, h5⟩ := atI_get he
  obtain ⟨w, ew, rw'⟩ := r.get h2
  have hl := r.length
  have hn := line63
  have fin : EP X pins σ Q w s := ⟨z, H, I, rw', q⟩
  exact subscriptTail_builtinR (x := w) pl.typeIs slot_tuple_getitem.lookup
    (getItem_tuple (j := j) (Q := fun r s' => r = w ∧ EP X pins σ Q r s') pl (by omega) (by omega) (by rw [List.size_toArray, ← hl]; exact h1) (by simpa using ew) ⟨rfl, fin⟩) hs

/-! ### xs[i] = v, any sign -/

/-! ### slices -/
theorem slice_bounds (lo hi : Option Int) (n : Nat) : (sliceBounds lo hi none n).1 = ((HT.sIx n 0 lo : Nat) : Int) ∧ (sliceBounds lo hi none n).2.1 = ((HT.sIx n n hi : Nat) : Int) ∧ (sliceBounds lo hi none n).2.2 = 1 := by
  refine ⟨?_, ?_, rfl⟩
  · cases lo with
    | none => simp [sliceBounds, HT.sIx]
    | some i =>
      simp only [sliceBounds, HT.sIx, Option.getD_none, show (1 : Int) > 0 by decide, if_true]
      by_cases h : i < 0
      · simp only [h, if_true] <;> omega
      · simp only [h, if_false] <;> omega
  · cases hi with
    | none => simp [sliceBounds, HT.sIx]
    | some i =>
      simp only [sliceBounds, HT.sIx, Option.getD_none, show (1 : Int) > 0 by decide, if_true]
      by_cases h : i < 0
      · simp only [h, if_true] <;> omega
      · simp only [h, if_false] <;> omega
theorem slicePick_cut (its : List Value) (lo hi : Option Int) : slicePick its.toArray lo hi none = ((its.drop (HT.sIx its.length 0 lo)).take (HT.sIx its.length its.length hi - HT.sIx its.length 0 lo)).toArray := by
  obtain ⟨h1, h2, h3⟩ := slice_bounds lo hi its.toArray.size
  unfold slicePick
  rw [h1, h2, h3]
  simp only [sliceRange_one, pick_run, List.size_toArray] <;> rfl
/-- xs[lo:hi] of a list: a new list -/
def rSlL (K : PySem.W.Frag) : V → Option Int → Option Int → Hp → VK → Prop := fun x lo hi H Q => ∃ a xs, x = .ref a ∧ SqL K H a xs ∧ ∀ p, H p = none → Q (.ref p) (upd H p (.lst (cutV xs lo hi)))
theorem sl_list : SlR X (rSlL X.K) := by
  intro pins s σ H x v vl vu lo hi sl Q I rx hs pl pu h
  obtain ⟨a, xs, rfl, hx, q⟩ := h
  cases rx
  obtain ⟨its, r, ht, hz⟩ := I.list hx
  have hlen := r.length
  refine ⟨"list", _, slot_list_getitem.lookup, ht.isList.typeIs, ?_⟩
  refine wpAny_getItem_list_slice ht.isList hs pl pu .none (by simp) ?_ (by rw [List.size_toArray] <;> omega)
  rw [slicePick_cut, ← hlen]
  refine ⟨.ref s.heap.objs.size, _, I.laid (t' := s.toks) (o := .lst (cutV xs lo hi)) (fun b ob q => Heap.get?_push_of_some _ q) (Nat.le_refl _) ?_, rfl, q _ (I.hok.fresh (Nat.le_refl _))⟩
  exact ⟨Nat.le_trans (cutV_length xs lo hi) hz, _, 0, (r.drop (HT.sIx xs.length 0 lo)).take (HT.sIx xs.length xs.length hi - HT.sIx xs.length 0 lo), Heap.get?_push_size _ rfl⟩

/-! ### in, not in: flat items -/

/-! ### len, list(x), tuple(x) of any list or tuple that is read -/
theorem call_len_seq : CallR X (.builtin "len") (fun xs H Q => ∃ p ys, xs = [.ref p] ∧ (SqL X.K H p ys ∨ SqT X.K H p ys) ∧ Q (.int ys.length) H) := by
  intro pins s σ H xs us Q I r h
  obtain ⟨p, ys, rfl, hq, q⟩ := h
  obtain ⟨u, rfl, rx⟩ := vals1 r
  cases rx
  have hn := line63
  rcases hq with hq | hq
  · obtain ⟨its, r', pl, hz⟩ := I.list hq
    have hlen := r'.length
    exact Calls.call_len_list pl.isList (by simp only [List.size_toArray] <;> omega) ⟨.int ys.length, H, I.tok _, ⟨s.toks + 1, by rw [List.size_toArray, hlen]⟩, q⟩
  · obtain ⟨its, r', pl, hz⟩ := I.tuple hq
    have hlen := r'.length
    exact len_tuple pl (by simp only [List.size_toArray] <;> omega) ⟨.int ys.length, H, I.tok _, ⟨s.toks + 1, by rw [List.size_toArray, hlen]⟩, q⟩
theorem call_list_of : CallR X (.type "list") (fun xs H Q => ∃ p ys, xs = [.ref p] ∧ (SqL X.K H p ys ∨ SqT X.K H p ys) ∧ ∀ l, H l = none → Q (.ref l) (upd H l (.lst ys))) := by
  intro pins s σ H xs us Q I r h
  obtain ⟨p, ys, rfl, hq, q⟩ := h
  obtain ⟨u, rfl, rx⟩ := vals1 r
  cases rx
  have fin : ∀ (its : List Value), Vals ys its → ys.length ≤ sizeLine → ∀ (h' : Heap) (c' : Nat), (∀ b o', s.heap.get? b = some o' → h'.get? b = some o') →
      h'.get? s.heap.objs.size = some { cls := .type "list", dict := none, data := .seq its.toArray c', slots := #[] } → EP X pins σ Q (.ref s.heap.objs.size) { s with heap := h' } := fun its r' hz h' c' kp e =>
    ⟨.ref s.heap.objs.size, _, I.laid (t' := s.toks) kp (Nat.le_refl _) (show ObjOk X.prog X.w _ h' _ (.lst ys) from ⟨hz, its, c', r', e⟩), rfl, q _ (I.hok.fresh (Nat.le_refl _))⟩
  rcases hq with hq | hq
  · obtain ⟨its, r', pl, hz⟩ := I.list hq
    have hlen := r'.length
    obtain ⟨o, ho, hc, n, hd⟩ := pl.isList
    exact call_list_seq p (.inl rfl) ho hc hd (fun h' c' kp e => fin its r' hz h' c' kp e) (by simp only [List.size_toArray] <;> omega)
  · obtain ⟨its, r', pl, hz⟩ := I.tuple hq
    have hlen := r'.length
    obtain ⟨o, ho, hc, n, hd⟩ := pl
    exact call_list_seq p (.inr rfl) ho hc hd (fun h' c' kp e => fin its r' hz h' c' kp e) (by simp only [List.size_toArray] <;> omega)

/-! ### the call of a builtin's method: o.m(..) -/
/-- the value is of that builtin type -/
def tyV (K : PySem.W.Frag) (T : String) (x : V) (H : Hp) : Prop := match x with
  | .str _ => T = "str"
  | .int _ => T = "int"
  | .ref p => (T = "list" ∧ ∃ xs, SqL K H p xs) ∨ (T = "tuple" ∧ ∃ o, K.lookup p = some o ∧ o.cls = .type "tuple" ∧ o.dict = none) ∨
      (T = "dict" ∧ ((∃ kvs, H p = some (.dK kvs)) ∨ ∃ kvs, H p = some (.dT kvs))) ∨ (T = "set" ∧ ∃ S n, H p = some (.set S n))
  | _ => False
theorem tyV_is {pins : List (Addr × Obj)} {σ : St} {H : Hp} {s : Shared} {T : String} {x : V} {v : Value} (I : Inv X pins σ H s) (r : RelV x v) (ty : tyV X.K T x H) :
    s.TypeIs v T ∧ ∀ a, v = .ref a → ∃ ob, s.heap.get? a = some ob ∧ ob.dict = none := by
  cases x with
  | str z =>
    obtain ⟨t, rfl⟩ := r
    cases (show T = "str" from ty)
    exact ⟨typeIs_str s z t, fun _ e => nomatch e⟩
  | int i =>
    obtain ⟨t, rfl⟩ := r
    cases (show T = "int" from ty)
    exact ⟨typeIs_int s i t, fun _ e => nomatch e⟩
  | ref p =>
    cases r
    rcases ty with ⟨rfl, xs, hq⟩ | ⟨rfl, o, hk, hc, hd⟩ | ⟨rfl, hk⟩ | ⟨rfl, S, n, hk⟩
    · obtain ⟨its, _, pl, _⟩ := I.list hq
      refine ⟨pl.isList.typeIs, fun a e => ?_⟩
      cases e
      obtain ⟨o, n, e, c, hd, _⟩ := pl
      exact ⟨o, e, hd⟩
    · refine ⟨⟨o, I.kIn p o hk, hc⟩, fun a e => ?_⟩
      cases e
      exact ⟨o, I.kIn _ o hk, hd⟩
    · have z : ∃ o, s.heap.get? p = some o ∧ o.ExactDict := by
        rcases hk with ⟨kvs, hk⟩ | ⟨kvs, hk⟩
        · obtain ⟨_, _, _, _, o, _, _, e, ex, _⟩ := I.hok p _ hk
          exact ⟨o, e, ex⟩
        · obtain ⟨_, _, _, _, o, _, _, e, ex, _⟩ := I.hok p _ hk
          exact ⟨o, e, ex⟩
      obtain ⟨o, e, ex⟩ := z
      refine ⟨⟨o, e, ex.1⟩, fun a e2 => ?_⟩
      cases e2
      exact ⟨o, e, ex.2.1⟩
    · obtain ⟨o, _, _, _, e, ex, _⟩ := I.hok p _ hk
      refine ⟨⟨o, e, ex.1⟩, fun a e2 => ?_⟩
      cases e2
      exact ⟨o, e, ex.2.1⟩
  | _ => exact False.elim ty
def tBM0 (K : PySem.W.Frag) (T : String) (r : V → List V → Hp → VK → Prop) (to : TE) : TE := fun σ H Q => to σ H fun x H1 => tyV K T x H1 ∧ r x [] H1 Q
def tBM (K : PySem.W.Frag) (T : String) (r : V → List V → Hp → VK → Prop) (to : TE) (t : TA) : TE := fun σ H Q => to σ H fun x H1 => tyV K T x H1 ∧ t σ H1 fun xs H2 => r x xs H2 Q
variable {o e : Expr} {es : List Expr} {to : TE} {t : TA} {name : Str} {apos cpos : Pos} {T id : String} {r : V → List V → Hp → VK → Prop}
theorem pe_bm0 (pa : PlainAttrs T) (slot : Slot T name id) (hty : typeOf (.builtin id) = pure (.type "method_descriptor")) (hm : MtR X id r) (ho : PE X o to)
    (hbase : attributeBase o name X.env (eval o X.env) = eval o X.env := by rfl) (hline : (apos.endLine == cpos.line) = true := by rfl) : PE X (.Call (.Attribute o name apos) [] [] cpos) (tBM0 X.K T r to) := by
  intro pins s σ H Q I h
  refine wpAny_Call_method0_late hbase hline (thn (ho pins s σ H _ I h) fun v s1 ⟨x, H1, I1, r1, ty, q1⟩ => ?_)
  obtain ⟨h1, h2⟩ := tyV_is I1 r1 ty
  exact ⟨T, id, pa, slot, hty, h1, h2, Calls.callWith_builtin rfl (PySem.evalArgs_none (hm pins s1 σ H1 x [] v [] Q I1 r1 .nil q1))⟩
theorem pe_bm (pa : PlainAttrs T) (slot : Slot T name id) (hty : typeOf (.builtin id) = pure (.type "method_descriptor")) (hm : MtR X id r) (ho : PE X o to) (ha : PA X (e :: es) t)
    (hbase : attributeBase o name X.env (eval o X.env) = eval o X.env := by rfl)
    (hfew : ((backTo cpos (starEach (e :: es) X.env)).all (fun x => !x.1) && (backToKw cpos (keywordEach [] X.env)).all (fun x => x.1.isSome)
      && decide ((e :: es).length + ([] : List Keyword).length + (if ([] : List Keyword).isEmpty then 0 else 1) < 30)) = true := by rfl)
    (hline : (apos.endLine == cpos.line) = true := by rfl) (hs : starEach (e :: es) X.env = (false, eval e X.env) :: starEach es X.env := by rfl) (hplain : (backTo cpos (starEach es X.env)).any (·.1) = false := by rfl) :
    PE X (.Call (.Attribute o name apos) (e :: es) [] cpos) (tBM X.K T r to t) := by
  intro pins s σ H Q I h
  refine wpAny_Call_method_late hbase hfew hline rfl (thn (ho pins s σ H _ I h) fun v s1 ⟨x, H1, I1, r1, ty, q1⟩ => ?_)
  obtain ⟨h1, h2⟩ := tyV_is I1 r1 ty
  refine ⟨T, id, pa, slot, hty, h1, h2, ?_⟩
  have hA := ha cpos pins s1 σ H1 _ I1 q1
  rw [hs] at hA ⊢
  refine Calls.callWith_builtin (by show (false || (backTo cpos (starEach es X.env)).any (·.1)) = false; rw [hplain] <;> rfl) (Calls.evalArgs_plain ?_)
  exact thn hA fun us s2 ⟨vs, H2, I2, r2, q2⟩ => hm pins s2 σ H2 x vs v us Q I2 r1 r2 q2
/- xs.append(e), list.index on a module's tuple .. are MtR facts of 06m -/
end
end L2

namespace L2
open PySem PySem.Spec PyProof.Rows

def MtM (X : Cx) (id : String) (r : V → List V → Hp → VK → Prop) : Prop :=
  ∀ (pins : List (Addr × Obj)) (s : Shared) (σ : St) (H : Hp) (x : V) (xs : List V) (v : Value) (us : List Value) (Q : VK), Inv X pins σ H s → RelV x v → Vals xs us → r x xs H Q →
    wpAny (model X.prog X.w) X.A (call (.builtin id) (v :: us)) (EP X pins σ Q) X.xe s

/-! ### lists of values -/
theorem Vals.one : ∀ {x : V} {us : List Value}, Vals [x] us → ∃ u, us = [u] ∧ RelV x u
  | _, _, .cons r .nil => ⟨_, rfl, r⟩
theorem Vals.zero : ∀ {us : List Value}, Vals [] us → us = []
  | _, .nil => rfl
theorem Vals.dropLast {xs : List V} {us : List Value} (h : Vals xs us) : Vals xs.dropLast us.dropLast := by
  induction h with
  | nil => exact .nil
  | cons r t ih =>
    cases t with
    | nil => exact .nil
    | cons q t' => exact .cons r ih
theorem erase_last {α : Type} (l : List α) : l.eraseIdx (l.length - 1) = l.dropLast := by
  induction l with
  | nil => rfl
  | cons a r ih =>
    cases r with
    | nil => rfl
    | cons b r =>
      have e : (a :: b :: r).length - 1 = ((b :: r).length - 1) + 1 := by
        have h1 : (a :: b :: r).length = r.length + 2 := rfl
        have h2 : (b :: r).length = r.length + 1 := rfl
        omega
      rw [e, List.eraseIdx_cons_succ, ih]
      all_goals rfl

section
variable {X : Cx} {pins : List (Addr × Obj)} {σ : St} {H : Hp} {s : Shared} {l b : Addr} {xs ys zs : List V}

/-! ### the two steps: a tracked list is rewritten, a new list is laid -/
theorem Inv.lset {its its' : List Value} {n : Nat} {f : Array Value → Array Value} {t' : Nat} (I : Inv X pins σ H s) (hH : H l = some (.lst xs))
    (e : s.heap.get? l = some { cls := .type "list", data := .seq its.toArray n }) (hf : f its.toArray = its'.toArray) (hv : Vals ys its') (hz : ys.length ≤ sizeLine) :
    Inv X pins σ (upd H l (.lst ys)) { s with heap := s.heap.update l (Obj.mapSeq f), toks := t' } := by
  have q := PySem.IsL.update e f
  rw [hf] at q
  refine I.write (x := l) (e := l) (by rw [hH]; exact trivial) (.inl rfl) (fun b' u hb hu => (Heap.get?_update_other s.heap (Obj.mapSeq f) (Ne.symm hb)).trans hu) ⟨_, q⟩ ?_
  exact ⟨hz, its', _, hv, q⟩
theorem Inv.lnew {its : List Value} {t' : Nat} (I : Inv X pins σ H s) (hv : Vals ys its) (hz : ys.length ≤ sizeLine) :
    Inv X pins σ (upd H s.heap.objs.size (.lst ys)) { s with heap := s.heap.push { cls := .type "list", data := .seq its.toArray }, toks := t' } :=
  I.laid (fun _ _ q => Heap.get?_push_of_some _ q) (Nat.le_refl _) ⟨hz, its, 0, hv, Heap.get?_push_size _ rfl⟩
theorem Inv.fresh (I : Inv X pins σ H s) : H s.heap.objs.size = none := I.hok.fresh (Nat.le_refl _)
theorem Inv.lstM (I : Inv X pins σ H s) (hH : H l = some (.lst xs)) : xs.length ≤ sizeLine ∧ ∃ (its : List Value) (n : Nat), Vals xs its ∧ xs.length = its.length ∧ s.heap.get? l = some { cls := .type "list", data := .seq its.toArray n } := by
  obtain ⟨z, its, n, r, e⟩ := I.hok l _ hH
  exact ⟨z, its, n, r, r.length, e⟩

end

section
variable {X : Cx}

/-! ### methods -/
def rAppend : V → List V → Hp → VK → Prop := fun x vs H Q => ∃ l xs y, x = .ref l ∧ vs = [y] ∧ H l = some (.lst xs) ∧ xs.length < sizeLine ∧ Q .non (upd H l (.lst (xs ++ [y])))
theorem mt_append : MtM X "list.append" rAppend := by
  intro pins s σ H x vs v us Q I rx rv h
  obtain ⟨l, xs, y, rfl, rfl, hH, hz, q⟩ := h
  cases rx
  obtain ⟨u, rfl, ru⟩ := rv.one
  obtain ⟨z, its, n, r, hl, e⟩ := I.lstM hH
  refine call_meets F.slot_list_append ⟨_, e, rfl⟩ F.entry_list_append (F.args_list_append_2 _ _) (PySem.list_append l its.toArray n u (by rw [List.size_toArray]; omega)) ⟨e, ?_⟩
  refine ⟨.non, _, I.lset (its' := its ++ [u]) hH e (by simp) (r.append (.cons ru .nil)) ?_, rfl, q⟩
  rw [List.length_append, List.length_singleton]
  omega


def rPop : V → List V → Hp → VK → Prop := fun x vs H Q => ∃ l xs y, x = .ref l ∧ vs = [] ∧ H l = some (.lst xs) ∧ xs[xs.length - 1]? = some y ∧ Q y (upd H l (.lst xs.dropLast))
theorem mt_pop : MtM X "list.pop" rPop := by
  intro pins s σ H x vs v us Q I rx rv h
  obtain ⟨l, xs, y, rfl, rfl, hH, hy, q⟩ := h
  cases rx
  have hus := rv.zero
  subst hus
  obtain ⟨z, its, n, r, hl, e⟩ := I.lstM hH
  obtain ⟨u, hu, ru⟩ := r.get hy
  have hy' : its.toArray[its.toArray.size - 1]? = some u := by
    show its.toArray[its.length - 1]? = some u
    rw [← Array.getElem?_toList, ← hl]
    exact hu
  refine call_meets F.slot_list_pop ⟨_, e, rfl⟩ F.entry_list_pop (F.args_list_pop_1 _) (MeetsSeq.list_pop_last l its.toArray n u hy' (by rw [List.size_toArray]; omega)) ⟨e, ?_⟩
  refine ⟨y, _, I.lset (its' := its.dropLast) hH e ?_ r.dropLast ?_, ru, q⟩
  · show its.toArray.eraseIdxIfInBounds (its.toArray.size - 1) = its.dropLast.toArray
    rw [List.size_toArray, List.eraseIdxIfInBounds_toArray, erase_last]
  · rw [List.length_dropLast]
    omega




/-! ### list + list, list += list, list * int -/

/-! ### del xs[i] -/
end

/-! ### xs[a:b] = ys -/
section
variable {prog : Program} {w : World} {A : Around} {E : Value → Shared → Prop} {s : Shared}
end

section
variable {X : Cx}
end
end L2

namespace Att
open PySem PySem.W PySem.Calls PyProof.Rows

/-! ### the script -/
theorem ints_of_wellAll {P : Params} {h : Heap} : ∀ (ns : List Int) (vs : List Value), WellAll P h vs (ns.map WData.int) → IntsAre vs ns := by
  intro ns
  induction ns with
  | nil =>
    intro vs w
    rw [List.map_nil] at w
    cases w
    exact .nil
  | cons n ns ih =>
    intro vs w
    rw [List.map_cons] at w
    cases w with
    | cons a b =>
      cases a
      exact .cons _ _ (ih _ b)

theorem script_of {l : OpenLaw} {n : Nat} (hn : l.most = some n) {P : Params} {h : Heap} {args : List WData} {vals : List Value}
    (hpre : l.row.toRowW.claim.pre args = true) (hwl : WellAll P h vals args) :
    ∃ a vs ns, vals = [Value.ref a] ∧ args = [WData.list (ns.map WData.int)] ∧ h.get? a = some { cls := .type "list", data := .seq vs.toArray } ∧ IntsAre vs ns ∧ ns.length ≤ n := by
  have hsh : WShape.hasAll [] args [.list .int] = true := (pre_splitW hpre).1
  have hc : l.pre.holds [] { args := args } = true := (pre_splitW hpre).2
  obtain ⟨d, r, rfl, h1, h2⟩ := hasAllW_cons hsh
  obtain rfl := hasAllW_nil h2
  obtain ⟨xs, rfl, h3⟩ := hasW_list h1
  obtain ⟨ns, rfl⟩ := items_int h3
  have hlen : ns.length ≤ n := by
    unfold OpenLaw.pre at hc
    have h4 : (WTm.not (.lt (.lit (.int (n : Int))) (.len (.arg 0)))).holds [] { args := [.list (ns.map .int)] } = true := by
      have h4 := (holds_andW hc).1
      rw [hn] at h4
      exact h4
    have h5 := condW_of h4 (w_not (w_lt w_lit (w_len_list (w_arg rfl))))
    rw [List.length_map] at h5
    refine Nat.le_of_not_lt fun q => ?_
    have q' : (n : Int) < ((ns.length : Nat) : Int) := by omega
    first
      | (rw [decide_eq_true q'] at h5; exact absurd h5 (by decide))
      | (simp at h5; omega)
  cases hwl with
  | cons w1 w2 =>
    cases w2
    cases w1 with
    | list ho hall => exact ⟨_, _, ns, rfl, rfl, ho, ints_of_wellAll ns _ hall, hlen⟩

theorem post_true (l : OpenLaw) (args : List WData) : l.row.toRowW.claim.post args (.bool true) args = true :=
  postW_of (r := l.row.toRowW) (X := (true == true))
    (show WShape.has [] (.bool true) .bool = true by first | rfl | decide | simp [WShape.has, WShape.arms, WShape.armsAll])
    (show (WTm.eq .res (.lit (.bool true))).value [] { args := args, res := some (.bool true), after := args } = some (.bool (true == true)) from w_eq_bool (w_res rfl) w_lit) rfl

/-! ### the attachment: holds_open's last premise (the goal 'hc' behind k_head) from a wpAny of the law's body -/

/-- the same from a codeAny of the CALL (for a layer whose function contracts speak of calls) -/
theorem attach_call {l : OpenLaw} {n : Nat} {q : Program} {loose : List Str} {XP : (Str → Option Value) → Heap → Prop} {YP : World → Heap → Prop} {d : DefRec}
    (hn : l.most = some n) (hdf : d.params.defaults = [])
    (call : ∀ (w : World) (s₀ s₁ : Shared) (mg mb : Str → Option Value) (fa : Addr) (o : Obj) (pm cd doc : Value) (a : Addr) (vs : List Value) (ns : List Int),
      Ground q loose [] XP w s₀ mg mb s₁.heap → YP w s₁.heap →
      s₁.heap.get? fa = some o → o.data = .func (docDef d.name d.params d.body d.scope pm cd doc) → s₁.heap.CodeRec cd d.name → mg d.name = some (.ref fa) →
      s₁.heap.get? a = some { cls := .type "list", data := .seq vs.toArray } → IntsAre vs ns → ns.length ≤ n → s₁.gens = #[] →
      codeAny (model l.prog w) callerA (.call (.ref fa) ⟨[.ref a], []⟩) (fun r s' => r = .ok (.ret (.bool true)) ∧ OldK s₁.heap s'.heap ∧ s'.os = s₁.os ∧ AllBare s'.gens) s₁) :
    WalkO q loose XP YP l.row.toRowW d [] (fun f vs => PySem.call f vs) := by
  intro w s₀ s₁ mg mb G Y fa o pm cd doc dV kV ho hd hcd hD hmg hg args vals as hpre hlay hrd hwl hlo
  obtain rfl : dV = .none := Dflts.none hD hdf
  obtain rfl : kV = .none := Dflts.noKw hD
  obtain ⟨a, vs, ns, rfl, rfl, hobj, hints, hlen⟩ := script_of hn hpre hwl
  refine enter_call (codeAny_mono (call w s₀ s₁ mg mb fa o pm cd doc a vs ns G Y ho (fd_plain hd) hcd hmg hobj hints hlen hg) fun r s' hq => ?_)
  obtain ⟨rfl, h2, h3, h4⟩ := hq
  exact ⟨.inl ⟨.bool true, .bool true, [], rfl, fun _ => rfl, .bool true, post_true l _, fun _ => ⟨List.Pairwise.nil, fun _ hm => (nomatch hm)⟩⟩, h2, h3, h4⟩


/-! ### rules over ANY heap (no ledger) from facts about the written part K: the library's own take a ledger (News) for what they write -/
section
variable {prog : Program} {w : World} {A : Around} {E : Value → Shared → Prop} {s : Shared} {K : Frag}





/-! the whole heap as the ledger: makes every rule that writes through a ledger a rule over any heap -/

end
end Att

namespace L2
open PySem PySem.Spec PyProof.Rows

theorem vals_ints : ∀ {vs : List Value} {ns : List Int}, IntsAre vs ns → Vals (ns.map V.int) vs
  | _, _, .nil => .nil
  | _, _, .cons n t h => .cons ⟨t, rfl⟩ (vals_ints h)


end L2

namespace L2
open PySem PySem.Spec PyProof.Rows


end L2

/- THE LAST THEOREM (shape; LID, My.* are yours):
   My.Adr: a structure of the addresses that your layer names (classes, functions); My.Txt K t: a structure (Prop) of the equations over K;
   My.txt_mk : {K} {implicit addresses ..} (e1 : nsIn K mainGlobals "law" = some (some (.ref f))) (e2 : K.lookup f = some ⟨oc, od, .func (fnOf "law" "law" params body scope dV kV doc pm an cdv ct), sl⟩) (e3 : codeIn K cdv "law" = true) .. : ∃ t, My.Txt K t

set_option maxRecDepth 100000 in
set_option maxHeartbeats 0 in
theorem PySem.Challenge.cw_LID_holds : PySem.Challenge.rw_LID.Holds := by
  w_on; o_law; k_head; (case hw => w_witness2)
  k_fill
  refine L2.walk_of (l := PySem.Challenge.rw_LID) (n := 63) (k := 40) (x := "script") (CX := fun w => ..) (sp := fun _ => My.sp_law) rfl (by decide) rfl ⟨rfl, by decide, by decide⟩ (fun w h Y => PySem.W.kIn_of Y) ?F ?S ?C
  case F =>
    intro w mg fa h KX G hmg
    have T : ∃ t, My.Txt (L2.KOf KX) t := by
      dsimp only [L2.KOf]                          -- K must stand as «<heap const> w.params» for k_is
      refine' My.txt_mk ?e1 ?e2 ?e3 ..
      (case e1 => PySem.W.k_is)                    -- in the order: a name -> its address -> its object -> its parts
      (case e2 => PySem.W.k_is)
      ..
    obtain ⟨t, T⟩ := T
    have e0 := hmg.symm.trans (PySem.W.mg_of KX G T.law)
    cases e0                                       -- fa is the law's own address
    exact ⟨_, fun s u => .of_eq rfl, fun base kb nb => My.law_fn T kb nb⟩     -- if «.of_eq rfl» comes too early: refine' ⟨_, ?b, fun base kb nb => My.law_fn T kb nb⟩; exact fun s u => .of_eq rfl
  case S => exact fun w H a ns hl hO hS => ..
  case C => exact ..
(the tactic k_is has no namespace: write k_is) -/

/-! SHORT WORDS over the layer: a def of the text, its body, what a loop and a test want. -/
namespace L2
open PySem PySem.Spec PyProof.Rows

/-! ### the text by places -/
/-- the j-th statement of a class's body -/
def inClass (s : Stmt) (j : Nat) : Stmt := match s with
  | .ClassDef _ _ _ body _ _ _ _ _ _ _ => body.getD j (.Pass ⟨0, 0, 0, 0⟩)
  | _ => .Pass ⟨0, 0, 0, 0⟩
def defArgs (s : Stmt) : Arguments := match s with
  | .FunctionDef _ a _ _ _ _ _ _ _ _ => a
  | _ => { posonlyargs := [], args := [], vararg := none, kwonlyargs := [], kw_defaults := [], kwarg := none, defaults := [] }
def defBody (s : Stmt) : List Stmt := match s with
  | .FunctionDef _ _ b _ _ _ _ _ _ _ => b
  | _ => []
def defScope (s : Stmt) : Scope := match s with
  | .FunctionDef _ _ _ _ _ _ sc _ _ _ => sc
  | _ => { kind := .function, names := [], isGenerator := false, isCoroutine := false }

/-! ### no exception leaves a def -/
abbrev CX0 : CXT := fun _ _ _ _ _ _ => False
abbrev E0 : XK := fun _ _ _ => False
theorem pass0 {X : Cx} : Passes CX0 X E0 := fun _ _ _ _ _ _ _ h => h.elim

/-! ### a def (or method) of the text as it stands behind the top -/
structure Fun (K : PySem.W.Frag) (x qual : Str) (st : Stmt) (f : Addr) (fd : FuncData) : Prop where
  ex : ∃ (oc : Value) (od : Option Addr) (kV doc pm : Value) (an : Option Addr) (cdv ct : Value) (osl : Array (Option Value)),
    fd = PySem.W.fnOf x qual (defArgs st) (defBody st) (defScope st) .none kV doc pm an cdv ct ∧ K.lookup f = some ⟨oc, od, .func fd, osl⟩ ∧ PySem.W.codeIn K cdv qual = true
  kp : PySem.W.keepIn K (.ref f) = true
section
variable {P : Program} {w : World} {K : PySem.W.Frag} {mg : Str → Option Value} {base : Heap}
/-- THE RULE for a def: its body as a term of rules, and the reading of that term -/
theorem Fun.ok {x qual : Str} {st : Stmt} {f : Addr} {fd : FuncData} {N ps : List Str} {k : Nat} {sp : Sp} (F : Fun K x qual st f fd) (S : FnScope N ps (defScope st)) (len : ∀ vs H Q E, sp vs H Q E → vs.length = ps.length)
    (hbody : ∀ (cdv : Value) (A : Around) (outer : List Env) (s : Shared) (H : Hp) (vs : List V) (Q : VK) (E : XK), Room k (A.deeper (envOfC qual (defScope st) s.heap.objs.size f cdv)) → sp vs H Q E →
      ∃ t, PSs (cxOf CX0 P w K mg base N qual (defScope st) f cdv A outer s H E).nox (defBody st) t ∧ t { nx := fun _ H' => Q .non H', rt := Q } (start N vs) H) : FnOk P w K mg base CX0 (k + 1) f fd ps sp := by
  obtain ⟨oc, od, kV, doc, pm, an, cdv, ct, osl, rfl, lk, hcd⟩ := F.ex
  refine fn_of lk hcd S len fun A outer s H vs Q E hr hsp => ?_
  obtain ⟨t, h, q⟩ := hbody cdv A outer s H vs Q E hr hsp
  exact ⟨t, h.nox, q⟩
/-- how its arguments bind (no defaults): h is «fun _ _ _ _ _ _ us hl => match us, hl with | [_, _], _ => rfl», one _ a parameter -/
theorem Fun.binds {x qual : Str} {st : Stmt} {f : Addr} {fd : FuncData} {ps : List Str} (F : Fun K x qual st f fd)
    (h : ∀ (kV doc pm : Value) (an : Option Addr) (cdv ct : Value) (us : List Value), us.length = ps.length → bindArgs (PySem.W.fnOf x qual (defArgs st) (defBody st) (defScope st) .none kV doc pm an cdv ct) ⟨us, []⟩ = pure (ps.zip us)) : Binds K fd ps [] := by
  obtain ⟨oc, od, kV, doc, pm, an, cdv, ct, osl, rfl, lk, hcd⟩ := F.ex
  exact .all (h kV doc pm an cdv ct)
theorem fun_mk {x qual : Str} {st : Stmt} {f : Addr} {oc : Value} {od an : Option Addr} {osl : Array (Option Value)} {kV doc pm cdv ct : Value} (l : K.lookup f = some ⟨oc, od, .func (PySem.W.fnOf x qual (defArgs st) (defBody st) (defScope st) .none kV doc pm an cdv ct), osl⟩)
    (c : PySem.W.codeIn K cdv qual = true) (k : PySem.W.keepIn K (.ref f) = true) : Fun K x qual st f (PySem.W.fnOf x qual (defArgs st) (defBody st) (defScope st) .none kV doc pm an cdv ct) := ⟨⟨oc, od, kV, doc, pm, an, cdv, ct, osl, rfl, l, c⟩, k⟩
end
theorem small1000 {n : Nat} (h : n ≤ 1000) : n < sizeLine := Nat.lt_of_le_of_lt h (by decide)

/-! ### expressions in short: the name that stands in the i-th slot -/
section
variable {X : Cx}
theorem pv (i : Nat) {x : Str} {pos : Pos} (hN : X.N[i]? = some x := by rfl) (hv : Vis X.env.scope x := by first | exact Or.inl rfl | exact Or.inr (Or.inl rfl) | exact Or.inr (Or.inr rfl)) (hd : (x == ("__debug__" : Str)) = false := by decide)
    (hcd : (x == ("__classdict__" : Str)) = false := by decide) : PE X (.Name x pos) (tVar i) := pe_var hN hv hd hcd
end

/-! ### tests -/
theorem iteF {A B : Prop} (h : B) : if false = true then A else B := by
  rw [if_neg Bool.false_ne_true]
  exact h
theorem iteT {A B : Prop} (h : A) : if true = true then A else B := by
  rw [if_pos rfl]
  exact h
theorem ite2 {c A B : Prop} [Decidable c] (h1 : c → A) (h2 : ¬ c → B) : if c then A else B := by
  by_cases h : c
  · rw [if_pos h]
    exact h1 h
  · rw [if_neg h]
    exact h2 h

/-! ### heaps -/
/-- all that was tracked is as it was -/
def Same (H H' : Hp) : Prop := ∀ b o, H b = some o → H' b = some o
theorem Same.refl (H : Hp) : Same H H := fun _ _ h => h
theorem Same.trans {H H1 H2 : Hp} (a : Same H H1) (b : Same H1 H2) : Same H H2 := fun c o h => b c o (a c o h)
theorem Same.free {H H' : Hp} (e : Same H H') {l : Addr} (h : H' l = Option.none) : H l = Option.none := by
  cases q : H l with
  | none => rfl
  | some o =>
    rw [e l o q] at h
    cases h
theorem Same.seq {K : PySem.W.Frag} {H H' : Hp} {a : Addr} {xs : List V} (e : Same H H') (h : SqL K H a xs) : SqL K H' a xs := by
  rcases h with (h | ⟨o, h⟩) | h
  · exact .inl (.inl (e _ _ h))
  · exact .inl (.inr ⟨o, e _ _ h⟩)
  · exact .inr h

end L2

set_option Elab.async false
set_option linter.all false
set_option maxRecDepth 100000
set_option maxHeartbeats 8000000
namespace My
open PySem PySem.W PySem.Calls PyProof.Rows
/-- the top's run, over the tree of objects -/
def topRunT (tb : String → Option Builtin) (p : Program) (w : World) (m : Nat) (ann : Option Value) : Nat → SharedT → Thread → Option SharedT
  | 0, _, _ => none
  | n + 1, s, t => match through t with
    | true => some s
    | false => match stepOk m ann t with
      | false => none
      | true => match stepT (denote tb) p w s t with
        | some (s', t') => topRunT tb p w m ann n s' t'
        | none => none
theorem topRun_ofT {tb : String → Option Builtin} {p : Program} {w : World} {m : Nat} {ann : Option Value} : ∀ {n : Nat} {s s' : SharedT} {t : Thread}, topRunT tb p w m ann n s t = some s' → topRun tb p w m ann n s.abs t = some s'.abs
  | 0, _, _, _, h => by cases h
  | n + 1, s, s', t, h => by
    unfold topRunT at h
    unfold topRun
    cases he : through t with
    | true => rw [he] at h; cases h; rfl
    | false =>
      rw [he] at h
      cases hk : stepOk m ann t with
      | false => rw [hk] at h; cases h
      | true =>
        rw [hk] at h
        cases hs : stepT (denote tb) p w s t with
        | none => rw [hs] at h; cases h
        | some r => obtain ⟨s₂, t₂⟩ := r; rw [hs] at h; rw [stepT_spec hs]; exact topRun_ofT h
def btOf (l : List Obj) : BT := (l.foldl (fun (x : BT × Nat) o => (x.1.ins x.2 o, x.2 + 1)) (BT.nil, 0)).1
/-- what is asked of the state behind the top -/
def seenAt {α : Type} (p q : Program) (loose : List Str) (Xt : Shared → Bool) (Yf : Shared → α) (h0 : Heap) (s : Shared) :=
  (staticsOk (importedModules p.main.body) h0 s.heap && namesBound p s.heap && gensDone s && laidKept h0 s.heap, openSeen q loose (importedModules p.main.body) Xt true s, Yf s)
theorem left_at_once {p q : Program} {loose : List Str} {Xt : Shared → Bool} {α : Type} {Yf : Shared → α} {Ya : World → α} {N : Nat} {m : Nat} {ann : Option Value}
    (open_ : ∀ w : World, (fencedOpening treeTable p w N).map (fun s => (s.heap, s.gens, s.drawn, s.toks)) = some (boot_heap w.params, Array.mk [], boot_drawn, boot_toks))
    (size : ∀ P : Params, ((boot_heap P).isNs mainGlobals, (boot_heap P).objs.size, (boot_heap P).nsMap mainGlobals "__annotations__") = (true, m, ann))
    (hT : ∀ P : Params, absHeap (btOf (boot_heap P).objs.toList) m (boot_heap P).life = boot_heap P)
    (run : ∀ (w : World) (os : OsState), (topRunT treeTable p w m ann N ⟨btOf (boot_heap w.params).objs.toList, m, (boot_heap w.params).life, Array.mk [], boot_drawn, boot_toks, os⟩ (topStub p)).map
        (fun s => seenAt p q loose Xt Yf (boot_heap w.params) s.abs) = some (true, openGood q loose, Ya w)) : LeftO p q loose Xt Yf Ya N true := fun w => by
  obtain ⟨⟨h, gs, d, k, os⟩, e, e'⟩ := Option.map_eq_some_iff.mp (open_ w)
  obtain ⟨rfl, rfl, rfl, rfl⟩ : h = boot_heap w.params ∧ gs = Array.mk [] ∧ d = boot_drawn ∧ k = boot_toks := by simpa using e'
  obtain ⟨z1, z2, z3⟩ : _ ∧ _ ∧ _ := by simpa only [Prod.mk.injEq] using size w.params
  obtain ⟨s₁, r, l⟩ := Option.map_eq_some_iff.mp (run w os)
  obtain ⟨l1, l2, l3⟩ : _ ∧ _ ∧ _ := by simpa only [seenAt, Prod.mk.injEq] using l
  have r := topRun_ofT r
  have ea : SharedT.abs ⟨btOf (boot_heap w.params).objs.toList, m, (boot_heap w.params).life, Array.mk [], boot_drawn, boot_toks, os⟩ = ⟨boot_heap w.params, Array.mk [], boot_drawn, boot_toks, os⟩ := by
    unfold SharedT.abs
    rw [hT w.params]
  rw [ea] at r
  have t : topFrom treeTable p w N ⟨boot_heap w.params, Array.mk [], boot_drawn, boot_toks, os⟩ = some s₁.abs := by
    unfold topFrom
    dsimp only
    rw [z1, z2, z3, r]
    show (match staticsOk (importedModules p.main.body) (boot_heap w.params) s₁.abs.heap && namesBound p s₁.abs.heap && gensDone s₁.abs && laidKept (boot_heap w.params) s₁.abs.heap with | true => _ | false => _) = _
    rw [l1]
  unfold openEnds
  rw [e]
  show (topFrom treeTable p w N _).map _ = _
  rw [t]
  exact congrArg some (Prod.ext l2 l3)
end My

set_option Elab.async false
set_option linter.all false
set_option maxRecDepth 100000
set_option maxHeartbeats 4000000
namespace L2
open PySem PySem.Spec PyProof.Rows

/-! ### a comprehension's closure -/
theorem forIn_fold {α β : Type} {f : α → β → Sem (ForInStep β)} {g : β → α → β} : ∀ {l : List α} (c : β), (∀ x ∈ l, ∀ c, f x c = pure (.yield (g c x))) → forIn l c f = pure (l.foldl g c)
  | [], _, _ => rfl
  | x :: l, c, h => by
    rw [List.forIn_cons, h x List.mem_cons_self, pure_bind]
    exact forIn_fold (g c x) fun y hy => h y (List.mem_cons_of_mem _ hy)
def clStep (env : Env) (cs : List (Str × Addr)) (x : Str × NameKind) : List (Str × Addr) :=
  if (x.2 == NameKind.free) = true then (x.1, (env.cells.lookup x.1).getD 0) :: cs else cs
theorem closure_fold {scope : Scope} {env : Env} (h : ∀ x ∈ scope.names, x.2 = .free → ∃ c, env.cells.lookup x.1 = some c) :
    closureFor scope env = pure (scope.names.foldl (clStep env) []) := by
  simp only [closureFor]
  rw [forIn_fold (g := clStep env) [] (fun x hx c => by
    obtain ⟨n, k⟩ := x
    by_cases hk : k = NameKind.free
    · subst hk
      obtain ⟨c', e⟩ := h _ hx rfl
      have e : env.cells.lookup n = some c' := e
      simp [clStep, cellOf, e]
    · have hb : (k == NameKind.free) = false := by simpa using hk
      simp [clStep, hb])]
  rfl
theorem clFold_of {env : Env} {x : Str} {c : Addr} : ∀ {ns : List (Str × NameKind)} {cs : List (Str × Addr)}, (ns.foldl (clStep env) cs).lookup x = some c →
    cs.lookup x = some c ∨ ((∃ p ∈ ns, p.1 = x ∧ p.2 = NameKind.free) ∧ c = (env.cells.lookup x).getD 0)
  | [], cs, h => .inl h
  | p :: ns, cs, h => by
    rcases clFold_of (ns := ns) (cs := clStep env cs p) h with q | ⟨⟨p', hp, q⟩, e⟩
    · unfold clStep at q
      split at q
      · rename_i hk
        rw [List.lookup_cons] at q
        split at q
        · rename_i hx
          have hx : x = p.1 := by simpa using hx
          subst hx
          exact .inr ⟨⟨p, List.mem_cons_self, rfl, by simpa using hk⟩, (Option.some.inj q).symm⟩
        · exact .inl q
      · exact .inl q
    · exact .inr ⟨⟨p', List.mem_cons_of_mem _ hp, q⟩, e⟩
theorem clFold_has {env : Env} {x : Str} : ∀ {ns : List (Str × NameKind)} {cs : List (Str × Addr)}, ((x, NameKind.free) ∈ ns ∨ ∃ c, cs.lookup x = some c) → ∃ c, (ns.foldl (clStep env) cs).lookup x = some c
  | [], cs, h => by
    rcases h with h | h
    · cases h
    · exact h
  | p :: ns, cs, h => by
    refine clFold_has (ns := ns) (cs := clStep env cs p) ?_
    rcases h with h | ⟨c, h⟩
    · rcases List.mem_cons.mp h with h | h
      · refine .inr ⟨(env.cells.lookup x).getD 0, ?_⟩
        subst h
        simp [clStep]
      · exact .inl h
    · right
      unfold clStep
      split
      · rw [List.lookup_cons]
        split
        · exact ⟨_, rfl⟩
        · exact ⟨c, h⟩
      · exact ⟨c, h⟩
theorem closure_of {scope : Scope} {env : Env} (h : ∀ x ∈ scope.names, x.2 = .free → ∃ c, env.cells.lookup x.1 = some c) :
    ∃ cl, closureFor scope env = pure cl ∧ (∀ x c, cl.lookup x = some c → env.cells.lookup x = some c) ∧ ∀ x, (x, NameKind.free) ∈ scope.names → ∃ c, cl.lookup x = some c := by
  refine ⟨_, closure_fold h, fun x c e => ?_, fun x hx => clFold_has (.inl hx)⟩
  rcases clFold_of e with q | ⟨⟨p, hp, e1, e2⟩, ec⟩
  · simp at q
  · obtain ⟨c', q⟩ := h p hp e2
    rw [e1] at q
    rw [q] at ec
    rw [q, ec]
    rfl
/-- a name's kind in the relabelled scope -/
theorem relabel_of {env : Env} {x : Str} {k' : NameKind} : ∀ {names : List (Str × NameKind)}, (names.map fun (n, k) => if (k == NameKind.free && env.scope.kind == .function && env.kindOf n == some .cell) then (n, NameKind.cell) else (n, k)).lookup x = some k' →
    ∃ k, (x, k) ∈ names ∧ (k' = k ∨ (k = NameKind.free ∧ k' = NameKind.cell))
  | [], h => by simp at h
  | (n, k) :: r, h => by
    rw [List.map_cons] at h
    by_cases hc : (k == NameKind.free && env.scope.kind == .function && env.kindOf n == some .cell) = true
    · simp only [hc, if_true] at h
      rw [List.lookup_cons] at h
      split at h
      · rename_i hx
        have hx : x = n := by simpa using hx
        subst hx
        have hk : k = NameKind.free := by
          have := (Bool.and_eq_true_iff.mp (Bool.and_eq_true_iff.mp hc).1).1
          simpa using this
        exact ⟨k, List.mem_cons_self, .inr ⟨hk, (Option.some.inj h).symm⟩⟩
      · obtain ⟨k2, h1, h2⟩ := relabel_of h
        exact ⟨k2, List.mem_cons_of_mem _ h1, h2⟩
    · simp only [hc] at h
      rw [if_neg (by simp), List.lookup_cons] at h
      split at h
      · rename_i hx
        have hx : x = n := by simpa using hx
        subst hx
        exact ⟨k, List.mem_cons_self, .inl (Option.some.inj h).symm⟩
      · obtain ⟨k2, h1, h2⟩ := relabel_of h
        exact ⟨k2, List.mem_cons_of_mem _ h1, h2⟩
theorem lk_cons {κ : Type} {x n : Str} {k : κ} {r : List (Str × κ)} : ((n, k) :: r).lookup x = if x = n then some k else r.lookup x := by
  rw [List.lookup_cons]
  by_cases h : x = n
  · subst h
    simp
  · have hb : (x == n) = false := by simpa using h
    rw [if_neg h]
    simp only [hb]
theorem relabel_free {env : Env} {x : Str} : ∀ {names : List (Str × NameKind)}, names.lookup x = some NameKind.free →
    (names.map fun (n, k) => if (k == NameKind.free && env.scope.kind == .function && env.kindOf n == some .cell) then (n, NameKind.cell) else (n, k)).lookup x = some NameKind.cell ∨
    (names.map fun (n, k) => if (k == NameKind.free && env.scope.kind == .function && env.kindOf n == some .cell) then (n, NameKind.cell) else (n, k)).lookup x = some NameKind.free
  | [], h => by simp at h
  | (n, k) :: r, h => by
    rw [List.map_cons]
    rw [lk_cons] at h
    by_cases hc : (k == NameKind.free && env.scope.kind == .function && env.kindOf n == some .cell) = true
    · simp only [hc, if_true]
      rw [lk_cons]
      by_cases hx : x = n
      · rw [if_pos hx]
        exact Or.inl rfl
      · rw [if_neg hx]
        rw [if_neg hx] at h
        exact relabel_free h
    · simp only [hc]
      rw [if_neg (by simp), lk_cons]
      by_cases hx : x = n
      · rw [if_pos hx]
        rw [if_pos hx] at h
        exact Or.inr h
      · rw [if_neg hx]
        rw [if_neg hx] at h
        exact relabel_free h

/-! ### the block's context -/
def Cx.comp (X : Cx) (N' : List Str) (scope : Scope) (cl : List (Str × Addr)) (C : Addr) (s : Shared) (H : Hp) (fp : List Addr) : Cx :=
  { X with N := N', s₀ := s, H₀ := H, env := compEnvC scope cl C X.env, outer := X.stack, ex := fp, fn := fun _ => false, pn := [], xe := fun _ _ => False }
/-- what is known of the block's names: the own ones first (k of them), then names of the def at the slots js -/
structure CompOk (X : Cx) (N' : List Str) (k : Nat) (js : List Nat) (scope : Scope) : Prop where
  kind : scope.kind = .function
  nocell : ∀ y ∈ scope.names, y.2 ≠ .cell
  names : ∀ y ∈ scope.names, y.2 = .local → scope.names.lookup y.1 = some .local
  free : (scope.names.all fun y => y.2 != NameKind.free || (X.env.kindOf y.1 == some .cell || X.env.kindOf y.1 == some .free)) = true
  cap : ((List.range js.length).all fun i => N'[k + i]? == X.N[js.getD i 0]? && ((N'[k + i]?).any fun x => scope.names.lookup x == some NameKind.free)) = true
  len : N'.length = k + js.length
/-- the slots at a turn's start -/
def compSt (k : Nat) (js : List Nat) (σ : St) : St := List.replicate k none ++ js.map fun (j : Nat) => (σ[j]?).getD none
section
variable {X : Cx} {N' : List Str} {k : Nat} {js : List Nat} {scope : Scope}
theorem CompOk.fr (S : CompOk X N' k js scope) : ∀ y ∈ scope.names, y.2 = .free → X.env.kindOf y.1 = some .cell ∨ X.env.kindOf y.1 = some .free := fun y hy hf => by
  have h := List.all_eq_true.mp S.free y hy
  rw [hf] at h
  have h : (X.env.kindOf y.1 == some .cell || X.env.kindOf y.1 == some .free) = true := by simpa using h
  rcases Bool.or_eq_true_iff.mp h with h | h
  · exact .inl (by simpa using h)
  · exact .inr (by simpa using h)
theorem CompOk.at (S : CompOk X N' k js scope) {i : Nat} {x : Str} {σ : St} {v : V} (h1 : N'[i]? = some x) (h2 : (compSt k js σ)[i]? = some (some v)) :
    ∃ j : Nat, X.N[j]? = some x ∧ σ[j]? = some (some v) ∧ scope.names.lookup x = some .free := by
  unfold compSt at h2
  by_cases hi : i < k
  · rw [List.getElem?_append_left (by simpa using hi), List.getElem?_replicate, if_pos hi] at h2
    cases h2
  · obtain ⟨i', rfl⟩ : ∃ i', i = k + i' := ⟨i - k, by omega⟩
    rw [List.getElem?_append_right (by simp), List.length_replicate, Nat.add_sub_cancel_left, List.getElem?_map] at h2
    cases e : js[i']? with
    | none => rw [e] at h2; cases h2
    | some j =>
      rw [e] at h2
      have h2 : (σ[j]?).getD none = some v := Option.some.inj h2
      have hj : σ[j]? = some (some v) := by
        cases q : σ[j]? with
        | none => rw [q] at h2; cases h2
        | some o => rw [q] at h2; exact congrArg some h2
      have hl : i' < js.length := (List.getElem?_eq_some_iff.mp e).1
      have c := List.all_eq_true.mp S.cap i' (List.mem_range.mpr hl)
      have ej : js.getD i' 0 = j := by rw [List.getD_eq_getElem?_getD, e]; rfl
      rw [ej, h1] at c
      obtain ⟨c1, c2⟩ := Bool.and_eq_true_iff.mp c
      refine ⟨j, ?_, hj, ?_⟩
      · have c1 : some x = X.N[j]? := by simpa using c1
        exact c1.symm
      · simpa using c2
theorem compSt_len (σ : St) : (compSt k js σ).length = k + js.length := by
  unfold compSt
  rw [List.length_append, List.length_replicate, List.length_map]
/-- the block's context is one -/
theorem Cx.Ok.comp {pins : List (Addr × Obj)} {σ : St} {H : Hp} {s : Shared} {cl : List (Str × Addr)} {C : Addr} {fp : List Addr} (S : CompOk X N' k js scope) (I : Inv X pins σ H s) (hf : ∀ b ∈ fp, FpOk X pins H b) (ho : ∀ b ∈ fp, ∃ o, s.heap.get? b = some o)
    (h1 : ∀ x c, cl.lookup x = some c → X.env.cells.lookup x = some c) (h2 : ∀ x, (x, NameKind.free) ∈ scope.names → ∃ c, cl.lookup x = some c) (hC : s.heap.objs.size ≤ C) : (X.comp N' scope cl C s H fp).Ok where
  mod := I.ok.mod
  kind := S.kind
  glob := I.ok.glob
  blt := I.ok.blt
  above := hC
  inj := fun x y c e1 e2 => I.ok.inj x y c (h1 x c e1) (h1 y c e2)
  has := fun x hx => by
    have hx : (relabel scope X.env).names.lookup x = some .cell ∨ (relabel scope X.env).names.lookup x = some .free := hx
    have key : ∀ k', (relabel scope X.env).names.lookup x = some k' → k' = .cell ∨ k' = .free → ∃ c, cl.lookup x = some c := fun k' e hk => by
      obtain ⟨k0, hm, q⟩ := relabel_of e
      have : k0 = .free := by
        rcases q with q | ⟨q, _⟩
        · rcases hk with z | z
          · exact absurd (q.symm.trans z) (S.nocell _ hm)
          · exact q.symm.trans z
        · exact q
      subst this
      exact h2 x hm
    rcases hx with e | e
    · exact key _ e (.inl rfl)
    · exact key _ e (.inr rfl)
  cab := fun x c e _ => by cases e
  hd := I.ok.hd
  frames := I.ok.frames
  stk := .inl rfl
  exf := fun b hb => ⟨fun z => by
    obtain ⟨o, e⟩ := ho b hb
    exact absurd (Nat.lt_of_lt_of_le (Heap.lt_size e) (show s.heap.objs.size ≤ b by rw [z]; exact hC)) (Nat.lt_irrefl _), fun x c e => (hf b hb).2.2.2.2.1 x c (h1 x c e)⟩
  bs := I.bs
  bsz := Nat.le_trans I.ok.bsz I.sz
  noex := fun b o e hb => by
    rcases (hf b hb).2.2.2.1 with z | z
    · exact I.ok.noex b o e z
    · exact absurd (Nat.lt_of_lt_of_le (Heap.lt_size (I.ok.bs b o e).1) z) (Nat.lt_irrefl _)
  exfs := fun b hb z => by
    rcases List.mem_cons.mp (I.stkSub b z) with q | q
    · exact (hf b hb).2.1 q
    · exact (hf b hb).2.2.1 q
  funs := I.stack
  frf := I.stkFree
/-- the block's state at its entry -/
theorem Inv.comp {pins : List (Addr × Obj)} {σ : St} {H : Hp} {s : Shared} {cl : List (Str × Addr)} {C : Addr} {fp : List Addr} {h' : Heap} {t' : Nat} {m' : Str → Option Value} (S : CompOk X N' k js scope) (I : Inv X pins σ H s) (hf : ∀ b ∈ fp, FpOk X pins H b) (ho : ∀ b ∈ fp, ∃ o, s.heap.get? b = some o)
    (h1 : ∀ x c, cl.lookup x = some c → X.env.cells.lookup x = some c) (h2 : ∀ x, (x, NameKind.free) ∈ scope.names → ∃ c, cl.lookup x = some c) (hC : s.heap.objs.size ≤ C) (hk : ∀ b o, s.heap.get? b = some o → h'.get? b = some o) (hn : h'.Ns C m') :
    Inv (X.comp N' scope cl C s H fp) [] (compSt k js σ) H { s with heap := h', toks := t' } := by
  have cellK : ∀ x c, cl.lookup x = some c → ∀ v, s.heap.IsCell c v → h'.IsCell c v := fun x c e v ⟨o, ho, hd⟩ => ⟨o, hk c o ho, hd⟩
  refine ⟨Cx.Ok.comp S I hf ho h1 h2 hC, rfl, I.bare, Un.kept hk, ⟨m', hn, fun i x v e1 e2 _ => ?_⟩, fun x c e => ?_, I.hok.fresh hC, fun x c e => I.freeC x c (h1 x c e), fun p hp => absurd (show p ∈ ([] : List (Addr × Obj)) from hp) (by simp), I.hok.kept hk, ?_⟩
  · obtain ⟨j, q1, q2, q3⟩ := S.at e1 e2
    obtain ⟨m, _, hl⟩ := I.loc
    have hm := PySem.mem_of_lookup q3
    have ko := S.fr _ hm rfl
    obtain ⟨u, r, l⟩ := hl j x v q1 q2 (ko.elim (fun z => .inr (.inl z)) fun z => .inr (.inr z))
    refine ⟨u, r, .inr ⟨relabel_free q3, ?_⟩⟩
    rcases l with ⟨z, _⟩ | ⟨_, c, e, z⟩
    · exfalso
      have z : X.env.kindOf x = some .local := z
      rcases ko with ko | ko
      · have ko : X.env.kindOf x = some .cell := ko
        rw [z] at ko; cases ko
      · have ko : X.env.kindOf x = some .free := ko
        rw [z] at ko; cases ko
    · obtain ⟨c', e'⟩ := h2 x hm
      have := h1 x c' e'
      rw [e] at this
      cases this
      exact ⟨c, e', cellK x c e' _ z⟩
  · obtain ⟨v, z⟩ := I.cell x c (h1 x c e)
    exact ⟨v, cellK x c e v z⟩
  · rw [compSt_len]; exact S.len.symm
end

/-! ### targets of the block's own names -/
def GOwn (k : Nat) (g : TG) : Prop := ∀ x σ H (Q Q' : St → Hp → Prop), (∀ σ' H', σ'.length = σ.length → σ'.drop k = σ.drop k → Q σ' H' → Q' σ' H') → g x σ H Q → g x σ H Q'
def GOwns (k : Nat) (g : TGs) : Prop := ∀ xs σ H (Q Q' : St → Hp → Prop), (∀ σ' H', σ'.length = σ.length → σ'.drop k = σ.drop k → Q σ' H' → Q' σ' H') → g xs σ H Q → g xs σ H Q'
theorem go_name {k i : Nat} (h : i < k) : GOwn k (gName i) := fun x σ H Q Q' f q => f _ _ (by simp) (by rw [List.drop_set_of_lt h]) q
theorem gos_nil {k : Nat} : GOwns k gNil := fun xs σ H Q Q' f ⟨e, q⟩ => ⟨e, f _ _ rfl rfl q⟩
theorem gos_cons {k : Nat} {t : TG} {u : TGs} (a : GOwn k t) (b : GOwns k u) : GOwns k (gCons t u) := fun xs σ H Q Q' f ⟨v, r, e, q⟩ =>
  ⟨v, r, e, a v σ H _ _ (fun σ1 H1 l1 d1 q => b r σ1 H1 _ _ (fun σ2 H2 l2 d2 q => f σ2 H2 (l2.trans l1) (d2.trans d1) q) q) q⟩
theorem go_tup {K : PySem.W.Frag} {k n : Nat} {t : TGs} (b : GOwns k t) : GOwn k (gTup K n t) := fun x σ H Q Q' f ⟨a, xs, e, hq, hl, q⟩ => ⟨a, xs, e, hq, hl, b xs σ H _ _ f q⟩
theorem own_back {k : Nat} {js : List Nat} {σ σ6 : St} (l : σ6.length = (compSt k js σ).length) (d : σ6.drop k = (compSt k js σ).drop k) : ∀ (i : Nat) v, (compSt k js σ)[i]? = some (some v) → σ6[i]? = some (some v) := fun i v e => by
  by_cases hi : i < k
  · unfold compSt at e
    rw [List.getElem?_append_left (by simpa using hi), List.getElem?_replicate, if_pos hi] at e
    cases e
  · obtain ⟨i', rfl⟩ : ∃ i', i = k + i' := ⟨i - k, by omega⟩
    rw [← List.getElem?_drop, ← d, List.getElem?_drop] at e
    exact e

/-! ### a clause's tests -/
def PTs (X : Cx) (ifs : List Expr) (t : TT) : Prop :=
  ∀ (pins : List (Addr × Obj)) (s : Shared) (σ : St) (H : Hp) (Q : Bool → Hp → Prop), Inv X pins σ H s → t σ H Q →
    wpAny (model X.prog X.w) X.A (forIn ifs true fun c r => if r = true then do let ok ← isTrue c X.env (eval c X.env); pure (ForInStep.yield ok) else pure (ForInStep.yield r)) (TP X pins σ Q) X.xe s
def tYes : TT := fun _ H Q => Q true H
theorem pts_nil {X : Cx} : PTs X [] tYes := fun _ _ _ H _ I h => wpAny_tests_nil ⟨H, I, h⟩
theorem pts_one {X : Cx} {c : Expr} {t : TT} (h : PT X c t) : PTs X [c] t := fun pins s σ H Q I hw => wpAny_tests_one (h pins s σ H Q I hw)

/-! ### the loop -/
theorem compLoop_any {prog : Program} {w : World} {A : Around} {R : Result → Shared → Prop} {s : Shared} {elt target iter : Expr} {ifs : List Expr} {scope : Scope} {pos : Pos} {it acc : Value} {env : Env} (I : Nat → Shared → Prop)
    (turn : ∀ n s, I n s → wpAny (model prog w) A (pyNext it) (fun r s₁ => match r with
      | none => R (.ok .next) s₁
      | some v => wpAny (model prog w) A (letOwnedTupleGo target it v) (fun _ s₁' => wpAny (model prog w) A (assign target env v) (fun _ s₂ =>
          wpAny (model prog w) A (forIn ifs true fun c r => if r = true then do let ok ← isTrue c env (eval c env); pure (ForInStep.yield ok) else pure (ForInStep.yield r)) (fun ok s₃ =>
            if ok = true then wpAny (model prog w) A (eval elt env) (fun x s₄ =>
              wpAny (model prog w) A (call (.builtin "list.append") [acc, x]) (fun _ s₅ => ∃ m, m < n ∧ I m s₅) (fun _ _ => False) s₄) (fun _ _ => False) s₃
            else ∃ m, m < n ∧ I m s₃) (fun _ _ => False) s₂) (fun _ _ => False) s₁') (fun _ _ => False) s₁) (fun _ _ => False) s)
    (n : Nat) (h : I n s) : codeAny (model prog w) A (.compLoop (.ListComp elt [⟨target, iter, ifs, 0⟩] scope pos) 0 it acc env) R s := by
  refine codeAny_loop rfl I (fun n s hI => ?_) n h
  show wpAny _ A ((compTurn (.ListComp elt [⟨target, iter, ifs, 0⟩] scope pos) 0 it acc env).onRaise (fun x => do noteFrame x env; theTreesLotGoes x)) _ _ s
  refine wpAny_noted ?_
  rw [compTurn_list]
  refine wpAny_bind (wpAny_standAt (wpAny_bind (wpAny_mono (turn n s hI) (fun r s₁ h₁ => ?_) fun _ _ h' => h'.elim)))
  cases r with
  | none => exact wpAny_pure h₁
  | some v =>
    refine wpAny_bind (wpAny_mono h₁ (fun _ s₁' h₁' => ?_) fun _ _ h' => h'.elim)
    refine wpAny_bind (wpAny_mono h₁' (fun _ s₂ h₂ => wpAny_bind (wpAny_mono h₂ (fun ok s₃ h₃ => ?_) fun _ _ h' => h'.elim)) fun _ _ h' => h'.elim)
    cases ok with
    | false => exact wpAny_pure ⟨rfl, h₃⟩
    | true =>
      exact wpAny_bind (wpAny_bind (wpAny_mono h₃ (fun x s₄ h₄ => wpAny_bind (wpAny_mono h₄ (fun _ s₅ h₅ => wpAny_pure (wpAny_pure ⟨rfl, h₅⟩)) fun _ _ h' => h'.elim)) fun _ _ h' => h'.elim))

/-- an object that was there is tracked from now on -/
theorem HOk.adopt {P : Program} {w : World} {H : Hp} {h : Heap} {a : Addr} {o : HO} (x : HOk P w H h) (hn : H a = none) (new : ObjOk P w (upd H a o) h a o) : HOk P w (upd H a o) h := fun b u e => by
  by_cases hb : b = a
  · subst hb; rw [upd_same] at e; cases e; exact new
  · rw [upd_ne hb] at e
    exact (x b u e).stay (fun c v _ q => q) (fun c q => by rw [upd_ne (ne_of_none q hn)]; exact q) fun c xs q => by rw [upd_ne (ne_of_none q hn)]; exact q

/-- the reading of [elt for tg in iter if ..]: W by the turn, a measure, what has been gathered, the heap -/
def tComp (wi : TI) (g : TG) (tt : TT) (te : TE) (k : Nat) (js : List Nat) : TE := fun σ H Q => wi σ H fun J H1 =>
  ∃ W : Nat → Nat → List V → Hp → Prop, (∃ m, W 0 m [] H1) ∧ ∀ i m ys H, W i m ys H → ys.length < sizeLine ∧
    ((J.stop i H ∧ ∀ D, H D = none → Q (.ref D) (upd H D (.lst ys))) ∨
     (J.go i H ∧ ∃ N : List V → Hp → Prop, (∀ ys' H', N ys' H' → ∃ m', m' < m ∧ W (i + 1) m' ys' H') ∧
       ∀ x H', J.yld i H x H' → g x (compSt k js σ) H' fun σ2 H2 => tt σ2 H2 fun c H3 => if c = true then te σ2 H3 fun y H4 => N (ys ++ [y]) H4 else N ys H3))

section
variable {X : Cx} {N' : List Str} {k : Nat} {js : List Nat} {scope : Scope} {elt tg iter : Expr} {ifs : List Expr} {g : TG} {tt : TT} {te : TE} {pos : Pos}
theorem comp_block {pins : List (Addr × Obj)} {σ : St} {s₂ : Shared} {H2 : Hp} {cl : List (Str × Addr)} {it : Addr} {fp : List Addr} {tn : Nat → Heap → Prop} {J : It} {Q : VK} {E : Value → Shared → Prop} {RR : Value → Addr → Result → Shared → Prop} {W : Nat → Nat → List V → Hp → Prop}
    (S : CompOk X N' k js scope) (hc : X.calm = true) (I2 : Inv X pins σ H2 s₂) (T : Turn X.prog X.w X.K tg J fp it tn) (st : tn 0 s₂.heap) (hf : ∀ b ∈ fp, FpOk X pins H2 b)
    (h1 : ∀ x c, cl.lookup x = some c → X.env.cells.lookup x = some c) (h2 : ∀ x, (x, NameKind.free) ∈ scope.names → ∃ c, cl.lookup x = some c)
    (hg : ∀ cl C s H fp, PG (X.comp N' scope cl C s H fp) tg g) (go : GOwn k g) (ht : ∀ cl C s H fp, PTs (X.comp N' scope cl C s H fp) ifs tt) (he : ∀ cl C s H fp, PE (X.comp N' scope cl C s H fp) elt te)
    (w0 : ∃ m, W 0 m [] H2) (turn : ∀ i m ys H, W i m ys H → ys.length < sizeLine ∧
      ((J.stop i H ∧ ∀ D, H D = none → Q (.ref D) (upd H D (.lst ys))) ∨
       (J.go i H ∧ ∃ N : List V → Hp → Prop, (∀ ys' H', N ys' H' → ∃ m', m' < m ∧ W (i + 1) m' ys' H') ∧
         ∀ x H', J.yld i H x H' → g x (compSt k js σ) H' fun σ2 H2 => tt σ2 H2 fun c H3 => if c = true then te σ2 H3 fun y H4 => N (ys ++ [y]) H4 else N ys H3)))
    (hRR : ∀ D C m' H' s', s₂.heap.objs.size ≤ C → s₂.heap.objs.size ≤ D → C ≠ D → Inv X pins σ H' s' → s'.heap.Ns C m' → H' C = none → Q (.ref D) H' → RR (.ref D) C (.ok .next) s') :
    wpAny (model X.prog X.w) X.A (newList []) (fun acc s₃ => wpAny (model X.prog X.w) X.A (newFunctionEnv scope X.env.globals cl [] X.env.qual none .none (some X.env)) (fun cenv s₄ =>
      codeAny (model X.prog X.w) X.A (.compStart (.ListComp elt [⟨tg, iter, ifs, 0⟩] scope pos) 0 (.ref it) acc { cenv with scope := relabel scope X.env }) (RR acc cenv.locals) s₄) E s₃) E s₂ := by
  refine wpAny_newObj_type (wpAny_newFunctionEnv S.nocell (by intro y hy; simp at hy) (fun h₁ hns₁ hsb₁ => ?_) S.kind)
  dsimp only at hns₁ hsb₁ ⊢
  generalize hH2 : s₂.heap.push { cls := .type "list", dict := none, data := .seq ([] : List Value).toArray } = P2 at hns₁ hsb₁ ⊢
  have hC : P2.objs.size = s₂.heap.objs.size + 1 := by rw [← hH2, Heap.size_push]
  have hDC : s₂.heap.objs.size ≠ P2.objs.size := by rw [hC]; exact Nat.ne_of_lt (Nat.lt_succ_self _)
  have hCle : s₂.heap.objs.size ≤ P2.objs.size := by rw [hC]; exact Nat.le_succ _
  have below : ∀ b, b < s₂.heap.objs.size → b ≠ P2.objs.size ∧ b ≠ s₂.heap.objs.size := fun b hb => ⟨by rw [hC]; exact Nat.ne_of_lt (Nat.lt_succ_of_lt hb), Nat.ne_of_lt hb⟩
  have old : ∀ b o, s₂.heap.get? b = some o → h₁.get? b = some o := fun b o e => hsb₁.extBut b o (below b (Heap.lt_size e)).1 (Heap.get?_push_of_some _ (hH2 ▸ Heap.get?_push_of_some _ e))
  have hacc : h₁.PlainList s₂.heap.objs.size #[] := ⟨_, hsb₁.extBut _ _ hDC (Heap.get?_push_of_some _ (hH2 ▸ Heap.get?_push_size _ rfl))⟩
  have ho : ∀ b ∈ fp, ∃ o, s₂.heap.get? b = some o := fun b hb => let ⟨o, e, _⟩ := T.obj _ _ st b hb; ⟨o, e⟩
  generalize eC : P2.objs.size = C at *
  generalize eD : s₂.heap.objs.size = D at *
  have hD2 : H2 D = none := by rw [← eD]; exact I2.hok.fresh (Nat.le_refl _)
  have DnF : D ∉ fp := fun z => by
    obtain ⟨o, e⟩ := ho D z
    have := Heap.lt_size e
    rw [eD] at this
    exact Nat.lt_irrefl _ this
  have CnF : ∀ b ∈ fp, b ≠ C := fun b hb => by
    obtain ⟨o, e⟩ := ho b hb
    exact (below b (by rw [← eD]; exact Heap.lt_size e)).1
  have DnS : D ∉ frs X.stack := fun z => by
    rcases List.mem_cons.mp (I2.stkSub D z) with q | q
    · have := I2.lt
      rw [← q, eD] at this
      exact Nat.lt_irrefl _ this
    · exact I2.nofs (by rw [eD]; exact Nat.le_refl _) q
  have fpS : ∀ b ∈ fp, b ∉ frs X.stack := fun b hb z => by
    rcases List.mem_cons.mp (I2.stkSub b z) with q | q
    · exact (hf b hb).2.1 q
    · exact (hf b hb).2.2.1 q
  have stat : ∀ {pins' : List (Addr × Obj)} {Hh : Hp}, (∀ b ∈ fp, Hh b = none) → (∀ p ∈ pins', p.1 ∉ fp) → ∀ b ∈ fp, FpOk (X.comp N' scope cl C s₂ H2 fp) pins' Hh b := fun hn hp b hb =>
    ⟨hn b hb, CnF b hb, fpS b hb, .inl hb, fun x c e => (hf b hb).2.2.2.2.1 x c (h1 x c e), fun p hp' z => hp p (show p ∈ _ from hp') (z ▸ hb)⟩
  have loop : ∀ s₃ : Shared, s₃ = { s₂ with heap := h₁, toks := s₂.toks + ([] : List (Str × Value)).length } →
      codeAny (model X.prog X.w) X.A (.compLoop (.ListComp elt [⟨tg, iter, ifs, 0⟩] scope pos) 0 (.ref it) (.ref D) (compEnvC scope cl C X.env)) (RR (.ref D) C) s₃ := by
    rintro s₃ rfl
    have I0 : Inv (X.comp N' scope cl C s₂ H2 fp) [] (compSt k js σ) H2 { s₂ with heap := h₁, toks := s₂.toks + ([] : List (Str × Value)).length } := Inv.comp S I2 hf ho h1 h2 (by rw [eD]; exact hCle) old hns₁
    obtain ⟨m0, w0⟩ := w0
    refine compLoop_any (fun n s' => ∃ i ys its H', Inv (X.comp N' scope cl C s₂ H2 fp) [] (compSt k js σ) H' s' ∧ tn i s'.heap ∧ (∀ b ∈ fp, H' b = none) ∧ H' D = none ∧ s'.heap.PlainList D its ∧ Vals ys its.toList ∧ W i n ys H') ?_ m0
      ⟨0, [], #[], H2, I0, T.keep _ _ _ st (fun b hb o e => old b o e), fun b hb => (hf b hb).1, hD2, hacc, .nil, w0⟩
    rintro n s' ⟨i, ys, its, H', I', st', fr', d', ⟨nn, pl⟩, rv, wn⟩
    obtain ⟨hz, hw⟩ := turn i n ys H' wn
    have DC : D ≠ C := hDC
    have I1 : Inv (X.comp N' scope cl C s₂ H2 fp) [(D, { cls := .type "list", data := .seq its nn })] (compSt k js σ) H' s' := I'.pins_of fun p hp => by
      have e : p = (D, { cls := .type "list", data := .seq its nn }) := by simpa using hp
      subst e
      exact ⟨pl, d', DC, DnS, fun v z => by cases z⟩
    have pF : ∀ p ∈ [((D, { cls := .type "list", data := .seq its nn }) : Addr × Obj)], p.1 ∉ fp := fun p hp => by
      have e : p = (D, { cls := .type "list", data := .seq its nn }) := by simpa using hp
      subst e
      exact DnF
    rcases hw with ⟨stop, q⟩ | ⟨go1, N, hN, step⟩
    · refine thn (T.done (X.comp N' scope cl C s₂ H2 fp) rfl rfl rfl hc i _ s' _ H' _ I1 (stat fr' pF) st' stop) fun r s1 ⟨hr, I4⟩ => ?_
      subst hr
      obtain ⟨m', hn', _⟩ := I4.loc
      have pin : s1.heap.get? D = some { cls := .type "list", data := .seq its nn } := (I4.pin _ (List.mem_append_right _ (List.mem_singleton.mpr rfl))).1
      have base : Un (frs X.stack) fp H2 H' s₂.heap s1.heap := I4.base
      have hok : HOk X.prog X.w H' s1.heap := I4.hok
      have neD : ∀ b o, H2 b = some o → b ≠ D := fun b o e => ne_of_none e hD2
      have neD' : ∀ b o, s₂.heap.get? b = some o → b ≠ D := fun b o e => by rw [← eD]; exact Nat.ne_of_lt (Heap.lt_size e)
      have J : Inv X pins σ (upd H' D (.lst ys)) s1 := I2.call' (ch := fp) I4.os
        ⟨base.keep, base.slot, fun b o e n hx => by rw [upd_ne (neD' b o e)]; exact base.free b o e n hx, base.there, fun b xs e => by rw [upd_ne (neD b _ e)]; exact base.tups b xs e, fun b o u e => by rw [upd_ne (neD b _ e)]; exact base.frzs b o u e, fun b ps e => by rw [upd_ne (neD b _ e)]; exact base.tbls b ps e⟩
        (hok.adopt d' ⟨Nat.le_of_lt hz, its.toList, nn, rv, by rw [Array.toArray_toList]; exact pin⟩) I4.bare
        fun b hb => ⟨(hf b hb).2.2.2.1, (hf b hb).2.1, (hf b hb).2.2.2.2.1, (hf b hb).2.2.2.2.2⟩
      have HC : (upd H' D (.lst ys)) C = none := by rw [upd_ne (Ne.symm DC)]; exact I4.free
      exact hRR D C m' _ s1 hCle (Nat.le_refl _) (Ne.symm DC) J hn' HC (q D d')
    · refine thn (T.item (X.comp N' scope cl C s₂ H2 fp) rfl rfl rfl hc i _ s' _ H' _ I1 (stat fr' pF) st' go1) fun r s1 ⟨u, hr, h4⟩ => ?_
      subst hr
      refine thn h4 fun _ s2 ⟨x, H5, I5, r5, y5, st5, fr5⟩ => ?_
      have I5' := I5.pinned (stat fr5 pF) (T.obj _ _ st5)
      refine thn (hg cl C s₂ H2 fp _ s2 (compSt k js σ) H5 x u _ I5' r5 (go x _ H5 _ _ (fun σ' H' l d q => And.intro l (And.intro d q)) (step x H5 y5))) fun _ s3 ⟨σ6, H6, I6, l6, d6, q6⟩ => ?_
      refine thn (ht cl C s₂ H2 fp _ s3 σ6 H6 _ I6 q6) fun ok s4 ⟨H7, I7, q7⟩ => ?_
      have again : ∀ {H8 : Hp} {s8 : Shared}, Inv (X.comp N' scope cl C s₂ H2 fp) ([(D, { cls := .type "list", data := .seq its nn })] ++ pinsAt fp s2.heap) σ6 H8 s8 →
          Inv (X.comp N' scope cl C s₂ H2 fp) [] (compSt k js σ) H8 s8 ∧ tn (i + 1) s8.heap ∧ (∀ b ∈ fp, H8 b = none) ∧ H8 D = none ∧ s8.heap.get? D = some { cls := .type "list", data := .seq its nn } := fun {H8 s8} I8 => by
        have pD := I8.pin (D, { cls := .type "list", data := .seq its nn }) (List.mem_append_right _ (List.mem_append_left _ (List.mem_singleton.mpr rfl)))
        have pb : ∀ b ∈ fp, ∀ o, s2.heap.get? b = some o → s8.heap.get? b = some o ∧ H8 b = none := fun b hb o e => by
          have := I8.pin (b, o) (List.mem_append_right _ (List.mem_append_right _ (mem_pinsAt hb e)))
          exact ⟨this.1, this.2.1⟩
        refine ⟨(I8.pins_of (pins' := []) fun p hp => by simp at hp).weak l6.symm (own_back l6 d6), T.keep _ _ _ st5 fun b hb o e => (pb b hb o e).1, fun b hb => ?_, pD.2.1, pD.1⟩
        obtain ⟨o, e, d⟩ := T.obj _ _ st5 b hb
        exact (pb b hb o e).2
      cases ok with
      | false =>
        rw [if_neg (by simp)] at q7
        obtain ⟨a1, a2, a3, a4, a5⟩ := again I7
        obtain ⟨m', hm, w7⟩ := hN _ _ q7
        rw [if_neg (by simp)]
        exact ⟨m', hm, i + 1, ys, its, H7, a1, a2, a3, a4, ⟨nn, a5⟩, rv, w7⟩
      | true =>
        rw [if_pos rfl] at q7
        rw [if_pos rfl]
        refine thn (he cl C s₂ H2 fp _ s4 σ6 H7 _ I7 q7) fun y s5 ⟨yv, H8, I8, r8, q8⟩ => ?_
        obtain ⟨a1, a2, a3, a4, a5⟩ := again I8
        obtain ⟨m', hm, w8⟩ := hN _ _ q8
        have esz : its.size ≤ sizeLine := by
          have := rv.length
          have e : its.toList.length = its.size := by simp
          omega
        refine wpAny_list_append_plain (hsz := esz) ⟨nn, a5⟩ fun h' pl' sb => ?_
        have I9 : Inv (X.comp N' scope cl C s₂ H2 fp) [] (compSt k js σ) H8 { s5 with heap := h' } := a1.turned (t' := s5.toks) (it := D) (fun b o hb e => (sb.2 b hb).trans e) a4 DC (.inr (by rw [← eD]; exact Nat.le_refl _))
          (fun x c e z => by
            obtain ⟨v, o, e2, _⟩ := I2.cell x c (h1 x c e)
            rw [z] at e2
            have := Heap.lt_size e2
            rw [eD] at this
            exact Nat.lt_irrefl _ this) (fun p hp => absurd (show p ∈ ([] : List (Addr × Obj)) from hp) (by simp))
        refine ⟨m', hm, i + 1, ys ++ [yv], its.push y, H8, I9, T.keep _ _ _ a2 fun b hb o e => (sb.2 b (fun z => DnF (z ▸ hb))).trans e, a3, a4, pl', ?_, w8⟩
        rw [Array.toList_push]
        exact Vals.append rv (.cons r8 .nil)
  exact codeAny_compStart_list (loop _ rfl) (T.self _ 0 _ _ _ (T.keep _ _ _ st fun b hb o e => old b o e) (loop _ rfl))

theorem CompOk.closure (S : CompOk X N' k js scope) (ok : X.Ok) : ∃ cl, closureFor scope X.env = pure cl ∧ (∀ x c, cl.lookup x = some c → X.env.cells.lookup x = some c) ∧ ∀ x, (x, NameKind.free) ∈ scope.names → ∃ c, cl.lookup x = some c :=
  closure_of fun x hx hf => ok.has x.1 (S.fr x hx hf)
/-- [elt for tg in iter if ..] -/
theorem pe_comp {wi : TI} (S : CompOk X N' k js scope) (hc : X.calm = true) (hi : PI X tg iter wi) (hg : ∀ cl C s H fp, PG (X.comp N' scope cl C s H fp) tg g) (go : GOwn k g) (ht : ∀ cl C s H fp, PTs (X.comp N' scope cl C s H fp) ifs tt)
    (he : ∀ cl C s H fp, PE (X.comp N' scope cl C s H fp) elt te) (hs : ∀ x, foldedSetIterable iter X.env x = pure x := by intro _; rfl) : PE X (.ListComp elt [⟨tg, iter, ifs, 0⟩] scope pos) (tComp wi g tt te k js) := by
  intro pins s σ H Q I h
  obtain ⟨cl, hcl, h1, h2⟩ := S.closure I.ok
  rw [eval_ListComp]
  refine wpAny_comprehension_free (use := none) rfl hs hcl S.kind S.names (thn (hi pins s σ H _ I h) fun v s1 q1 => thn q1 fun itv s2 q2 => ?_)
  obtain ⟨it, fp, tn, J, H2, e, I2, T, st2, f2, W, w0, turn⟩ := q2
  subst e
  refine comp_block (RR := fun acc C => compPost (model X.prog X.w) X.A X.xe none (EP X pins σ Q) acc C) S hc I2 T st2 f2 h1 h2 hg go ht he w0 turn fun D C m' H' s' hC hD hCD I' hn hHC q => ?_
  refine ⟨m', hn, fun h' sb => ⟨.ref D, H', ?_, rfl, q⟩⟩
  have hCL : C ≠ X.env.locals := fun z => by
    have := I2.lt
    rw [← z] at this
    exact absurd (Nat.lt_of_lt_of_le this hC) (Nat.lt_irrefl _)
  refine I'.turned (t' := s'.toks) (it := C) (fun b o hb e => (sb.2 b hb).trans e) hHC hCL (.inr (Nat.le_trans I2.sz hC)) (fun x c e z => ?_) fun p hp z => ?_
  · obtain ⟨v, o, e2, _⟩ := I2.cell x c e
    rw [z] at e2
    exact absurd (Nat.lt_of_lt_of_le (Heap.lt_size e2) hC) (Nat.lt_irrefl _)
  · have := (I2.pin p hp).1
    rw [z] at this
    exact absurd (Nat.lt_of_lt_of_le (Heap.lt_size this) hC) (Nat.lt_irrefl _)
/-- name = [elt for ..]: the stores are exchanged -/
theorem ps_setComp {wi : TI} {i : Nat} {x : Str} {pos' spos : Pos} (S : CompOk X N' k js scope) (hc : X.calm = true) (hN : X.N.Nodup) (hi' : X.N[i]? = some x) (hx : X.env.scope.names.lookup x = some .local) (hi : PI X tg iter wi) (hg : ∀ cl C s H fp, PG (X.comp N' scope cl C s H fp) tg g) (go : GOwn k g)
    (ht : ∀ cl C s H fp, PTs (X.comp N' scope cl C s H fp) ifs tt) (he : ∀ cl C s H fp, PE (X.comp N' scope cl C s H fp) elt te) (hs : ∀ x, foldedSetIterable iter X.env x = pure x := by intro _; rfl)
    (hsw : swapsWith (.ListComp elt [⟨tg, iter, ifs, 0⟩] scope pos) (some (.Name x pos')) spos.line X.env = pure true := by rfl) :
    PS X (.Assign [.Name x pos'] (.ListComp elt [⟨tg, iter, ifs, 0⟩] scope pos) spos) (tAsg (tComp wi g tt te k js) (gName i)) := by
  intro pins s σ H D0 I h
  obtain ⟨cl, hcl, h1, h2⟩ := S.closure I.ok
  rw [exec_Assign_Name_used _ _ _ _ hsw]
  refine wpAny_bind (wpAny_standAt (wpAny_bind ?_))
  show wpAny _ X.A (do let _ ← comprehension (.ListComp elt [⟨tg, iter, ifs, 0⟩] scope pos) scope X.env _ (newList []) false (eval iter X.env) (some (assign (.Name x pos') X.env))) _ _ s
  refine wpAny_bind (wpAny_mono (wpAny_comprehension_free (use := some (assign (.Name x pos') X.env)) (Q := fun _ s' => SP X pins D0 .next s') rfl hs hcl S.kind S.names
    (thn (hi pins s σ H _ I h) fun v s1 q1 => thn q1 fun itv s2 q2 => ?_)) (fun _ s' hq => wpAny_pure (wpAny_pure hq)) fun _ _ e => e)
  obtain ⟨it, fp, tn, J, H2, e, I2, T, st2, f2, W, w0, turn⟩ := q2
  subst e
  refine comp_block (Q := fun x H1 => gName i x σ H1 D0.nx) (RR := fun acc C => compPost (model X.prog X.w) X.A X.xe (some (assign (.Name x pos') X.env)) (fun _ s' => SP X pins D0 .next s') acc C) S hc I2 T st2 f2 h1 h2 hg go ht he w0 turn fun D C m' H' s' hC hD hCD I' hn hHC q => ?_
  have hCL : C ≠ X.env.locals := fun z => by
    have := I2.lt
    rw [← z] at this
    exact absurd (Nat.lt_of_lt_of_le this hC) (Nat.lt_irrefl _)
  have hCc : ∀ x c, X.env.cells.lookup x = some c → c ≠ C := fun x c e z => by
    obtain ⟨v, o, e2, _⟩ := I2.cell x c e
    rw [z] at e2
    exact absurd (Nat.lt_of_lt_of_le (Heap.lt_size e2) hC) (Nat.lt_irrefl _)
  show wpAny _ X.A (assign (.Name x pos') X.env (.ref D)) _ _ _
  refine wpAny_assign_Name (store_ok2 I' hN hi' (.inl hx) (v := .ref D) rfl (fun s3 I3 ⟨a, sb3, ha⟩ => ?_) (.inr hx))
  have haC : C ≠ a := by
    rcases ha with z | z
    · rw [z]; exact hCL
    · exact Ne.symm (hCc _ _ z)
  refine ⟨m', hn.sameBut sb3 haC, fun h' sb => ⟨_, H', ?_, q⟩⟩
  refine I3.turned (t' := s3.toks) (it := C) (fun b o hb e => (sb.2 b hb).trans e) hHC hCL (.inr (Nat.le_trans I2.sz hC)) hCc fun p hp z => ?_
  have := (I2.pin p hp).1
  rw [z] at this
  exact absurd (Nat.lt_of_lt_of_le (Heap.lt_size this) hC) (Nat.lt_irrefl _)
end
end L2

set_option Elab.async false
set_option linter.all false
set_option maxRecDepth 100000
set_option maxHeartbeats 4000000
namespace L2
open PySem PySem.Spec PyProof.Rows

/-! ### several records of ours have turned; a new object may be laid beside -/
section
variable {X : Cx} {pins : List (Addr × Obj)} {σ : St} {H : Hp} {s : Shared} {h' : Heap}
theorem Inv.turns {t' : Nat} {ch : List Addr} (I : Inv X pins σ H s) (hf : ∀ b ∈ ch, FpOk X pins H b) (k : ∀ b o, b ∉ ch → s.heap.get? b = some o → h'.get? b = some o) : Inv X pins σ H { s with heap := h', toks := t' } := by
  have nit : ∀ b u, H b = some u → b ∉ ch := fun b u e z => by rw [(hf b z).1] at e; cases e
  refine I.step (g' := s.gens) (d' := s.drawn) (ch := ch) (fun b hb => ⟨(hf b hb).2.2.2.1, (hf b hb).2.1, (hf b hb).2.2.2.2.1, (hf b hb).2.2.2.2.2⟩) (fun b o _ _ hc e _ => k b o hc e) (fun b o _ _ hc e _ => ⟨o.slots, k b o hc e⟩) (fun _ _ _ _ n => n)
    (fun b o hc e => ⟨o, k b o hc e⟩) (fun _ _ e => e) (fun _ _ _ e => e) (fun b ps e => ⟨#[], by rw [e]; simp⟩) (fun m hm => ?_) (fun b u e => ?_) I.bare
  · obtain ⟨o, es, ep, ho, r⟩ := hm
    exact ⟨o, es, ep, k _ o (fun z => (hf _ z).2.1 rfl) ho, r⟩
  · refine (I.hok b u e).stay (fun c v hc q => k c v ?_ q) (fun _ q => q) fun _ _ q => q
    rcases hc with z | z
    · rw [z]; exact nit b u e
    · exact nit c _ z
/-- an object that stands there and is ours (not older than the entry) is tracked from now on -/
theorem Inv.adopt {a : Addr} {o : HO} (I : Inv X pins σ H s) (hf : FpOk X pins H a) (new : ObjOk X.prog X.w (upd H a o) s.heap a o) : Inv X pins σ (upd H a o) s := by
  have ne : ∀ b u, H b = some u → b ≠ a := fun b u e => ne_of_none e hf.1
  refine I.step (h' := s.heap) (g' := s.gens) (d' := s.drawn) (t' := s.toks) (ch := [a]) (fun b hb => ?_) (fun b o _ _ _ e _ => e) (fun b o _ _ _ e _ => ⟨o.slots, e⟩) (fun b _ hc _ n => by rw [upd_ne (fun z => hc (by simp [z]))]; exact n)
    (fun b o _ e => ⟨o, e⟩) (fun b xs e => by rw [upd_ne (ne b _ e)]; exact e) (fun b ob u e => by rw [upd_ne (ne b _ e)]; exact e) (fun b ps e => ⟨#[], by rw [upd_ne (ne b _ e), e]; simp⟩) (fun m hm => hm) (I.hok.adopt hf.1 new) I.bare
  have e : b = a := by simpa using hb
  subst e
  exact ⟨hf.2.2.2.1, hf.2.1, hf.2.2.2.2.1, hf.2.2.2.2.2⟩
theorem Inv.turnLaid {t' : Nat} {ch : List Addr} {p : Addr} {o : HO} (I : Inv X pins σ H s) (hf : ∀ b ∈ ch, FpOk X pins H b) (k : ∀ b o, b ∉ ch → s.heap.get? b = some o → h'.get? b = some o) (hp : s.heap.objs.size ≤ p)
    (new : ObjOk X.prog X.w (upd H p o) h' p o) : Inv X pins σ (upd H p o) { s with heap := h', toks := t' } := by
  have I1 : Inv X pins σ H { s with heap := h', toks := t' } := I.turns hf k
  exact I1.adopt (I.fpOk hp (I.hok.fresh hp)) new
end

/-! ### zip of two lists -/
def Itz (K : PySem.W.Frag) (a b : Addr) : It :=
  ⟨fun i H => ∃ xs ys x y, SqL K H a xs ∧ SqL K H b ys ∧ xs[i]? = some x ∧ ys[i]? = some y,
   fun i H v H' => ∃ p, H p = none ∧ v = .ref p ∧ ∀ xs ys x y, SqL K H a xs → SqL K H b ys → xs[i]? = some x → ys[i]? = some y → H' = upd H p (.tup [x, y]),
   fun i H => ∃ xs ys, SqL K H a xs ∧ SqL K H b ys ∧ (xs.length ≤ i ∨ ys.length ≤ i)⟩
theorem two_le : 2 ≤ sizeLine := by decide
theorem turn_zip {P : Program} {w : World} {K : PySem.W.Frag} {es : List Expr} {k : Nat} {pos : Pos} (l1 l2 z TI TO i1 i2 : Addr) (D : ZipApart z TI TO i1 i2 l1 l2) :
    Turn P w K (.Tuple es k pos) (Itz K l1 l2) [z, TI, TO, i1, i2] z (fun i h => IsZip h z TI TO .none ∧ IsPair h TI (.ref i1) (.ref i2) ∧ (∃ a b, IsPair h TO a b) ∧ h.IsListIter i1 l1 i ∧ h.IsListIter i2 l2 i) where
  mem := by simp
  obj := fun i h st b hb => by
    obtain ⟨hz, hTI, ⟨a, c, hTO⟩, h1, h2⟩ := st
    simp only [List.mem_cons, List.not_mem_nil, or_false] at hb
    rcases hb with rfl | rfl | rfl | rfl | rfl
    · exact ⟨_, hz, fun v z => by cases z⟩
    · exact ⟨_, hTI, fun v z => by cases z⟩
    · exact ⟨_, hTO, fun v z => by cases z⟩
    · obtain ⟨o, e, _, d⟩ := h1
      exact ⟨o, e, fun v z => by rw [d] at z; cases z⟩
    · obtain ⟨o, e, _, d⟩ := h2
      exact ⟨o, e, fun v z => by rw [d] at z; cases z⟩
  keep := fun i h h' st k => by
    obtain ⟨hz, hTI, ⟨a, c, hTO⟩, h1, h2⟩ := st
    exact ⟨k z (by simp) _ hz, k TI (by simp) _ hTI, ⟨a, c, k TO (by simp) _ hTO⟩, h1.at fun o e => k i1 (by simp) o e, h2.at fun o e => k i2 (by simp) o e⟩
  item := by
    intro X hP hw hK hc i pins s σ H E I hf st hg
    subst hP hw hK
    obtain ⟨xs, ys, x, y, hqx, hqy, hx, hy⟩ := hg
    obtain ⟨hz, hTI, ⟨a, c, hTO⟩, h1, h2⟩ := st
    obtain ⟨its, rv, p, _⟩ := I.list hqx
    obtain ⟨jts, rw', p', _⟩ := I.list hqy
    obtain ⟨u, hu, ru⟩ := rv.get hx
    obtain ⟨v, hv, rv'⟩ := rw'.get hy
    refine wpAny_pyNext_zip_item D hz hTI hTO h1 h2 p.isList p'.isList (x := u) (y := v) (by simpa using hu) (by simpa using hv) fun h' hz' hTO' h1' h2' hT hsz hk => ?_
    refine ⟨.ref s.heap.objs.size, rfl, wpAny_letOwnedTupleGo_zip hz' fun h'' hz'' sb => ?_⟩
    have ltz : z < s.heap.objs.size := Heap.lt_size hz
    have neT : s.heap.objs.size ≠ z := Nat.ne_of_gt ltz
    have hT' : IsPair h'' s.heap.objs.size u v := (sb.2 _ neT).trans hT
    have I1 : Inv X pins σ (upd H s.heap.objs.size (.tup [x, y])) { s with heap := h'' } := I.turnLaid (t' := s.toks) (ch := [z, TI, TO, i1, i2]) hf (fun b o hb e => by
        simp only [List.mem_cons, List.not_mem_nil, or_false, not_or] at hb
        exact (sb.2 b hb.1).trans (hk b o hb.1 hb.2.2.1 hb.2.2.2.1 hb.2.2.2.2 e)) (Nat.le_refl _) ⟨two_le, [u, v], .cons ru (.cons rv' .nil), ⟨_, hT', rfl, _, rfl⟩⟩
    refine ⟨.ref s.heap.objs.size, _, I1, rfl, ⟨_, I.hok.fresh (Nat.le_refl _), rfl, fun xs' ys' x' y' q1 q2 e1 e2 => ?_⟩, ⟨hz'', ?_, ⟨u, v, (sb.2 _ D.TOz).trans hTO'⟩, ?_, ?_⟩, fun b hb => ?_⟩
    · rw [I.list_inj q1 hqx, hx] at e1
      rw [I.list_inj q2 hqy, hy] at e2
      cases e1; cases e2; rfl
    · exact (sb.2 _ D.TIz).trans (hk _ _ D.TIz D.TITO D.TIi1 D.TIi2 hTI)
    · exact h1'.at fun o e => (sb.2 _ D.i1z).trans e
    · exact h2'.at fun o e => (sb.2 _ D.i2z).trans e
    · have hb' := (hf b hb).1
      have : b ≠ s.heap.objs.size := by
        have hlt : b < s.heap.objs.size := by
          simp only [List.mem_cons, List.not_mem_nil, or_false] at hb
          rcases hb with rfl | rfl | rfl | rfl | rfl
          · exact ltz
          · exact Heap.lt_size hTI
          · exact Heap.lt_size hTO
          · obtain ⟨o, e, _⟩ := h1; exact Heap.lt_size e
          · obtain ⟨o, e, _⟩ := h2; exact Heap.lt_size e
        exact Nat.ne_of_lt hlt
      rw [upd_ne this]
      exact hb'
  done := by
    intro X hP hw hK hc i pins s σ H E I hf st hg
    subst hP hw hK
    obtain ⟨xs, ys, hqx, hqy, he⟩ := hg
    obtain ⟨hz, hTI, ⟨a, c, hTO⟩, h1, h2⟩ := st
    obtain ⟨its, rv, p, _⟩ := I.list hqx
    obtain ⟨jts, rw', p', _⟩ := I.list hqy
    have l1 := rv.length
    have l2 := rw'.length
    refine wpAny_pyNext_zip_end (I.ok.hd hc) D hz hTI hTO h1 h2 p.isList p'.isList ?_ fun h' hk => ⟨rfl, I.turns (t' := s.toks) (ch := [z, TI, TO, i1, i2]) hf fun b o hb e => ?_⟩
    · rcases he with he | he
      · exact .inl (by simp; omega)
      · exact .inr (by simp; omega)
    · simp only [List.mem_cons, List.not_mem_nil, or_false, not_or] at hb
      exact hk b o hb.1 hb.2.2.1 hb.2.2.2.1 hb.2.2.2.2 e
  self := fun _ _ _ _ _ st h => wpAny_pyIter_zip st.1 h
section
variable {X : Cx} {es : List Expr} {k : Nat} {tpos : Pos}
def iZip (K : PySem.W.Frag) (ta : TA) : TI := fun σ H R => ta σ H fun vs H1 => ∃ a b, vs = [.ref a, .ref b] ∧ (∃ xs, SqL K H1 a xs) ∧ (∃ ys, SqL K H1 b ys) ∧ R (Itz K a b) H1
theorem pi_zip {a b : Expr} {ta : TA} {p pos : Pos} (hg : Gl X "zip") (hm : X.mg "zip" = none) (ha : PA X [a, b] ta) (hs : starEach [a, b] X.env = [(false, eval a X.env), (false, eval b X.env)] := by rfl) (hs2 : starEach [b] X.env = [(false, eval b X.env)] := by rfl) :
    PI X (.Tuple es k tpos) (.Call (.Name "zip" p) [a, b] [] pos) (iZip X.K ta) := by
  intro pins s σ H R I h
  refine Call_ (ld_blt I hg hm boot_zip (PyProof.Rows.callWith_type1 (thn (ha pos pins s σ H _ I h) fun us s1 ⟨vs, H1, I1, r1, q1⟩ => ?_) (by rw [hs, hs2]) (by rw [hs2]; rfl)))
  obtain ⟨l1, l2, e, ⟨xs, hqx⟩, ⟨ys, hqy⟩, q⟩ := q1
  subst e
  obtain ⟨u, v, rfl, r1, r2⟩ := vals2 r1
  cases r1; cases r2
  obtain ⟨its, rv, p1, _⟩ := I1.list hqx
  obtain ⟨jts, rw', p2, _⟩ := I1.list hqy
  refine call_zip_2 p1.isList p2.isList fun h' hz hTI hTO h1 h2 hsz hk => ?_
  have I2 : Inv X pins σ H1 { s1 with heap := h' } := I1.kept (t' := s1.toks) hk
  have D := zipApart_new (n := s1.heap.objs.size) p1.lt p2.lt
  refine wpAny_pyIter_zip hz ?_
  refine ⟨_, _, _, _, H1, rfl, I2, turn_zip l1 l2 _ _ _ _ _ D, ⟨hz, hTI, ⟨_, _, hTO⟩, h1, h2⟩, fun b hb => ?_, q⟩
  have hle : s1.heap.objs.size ≤ b := by
    simp only [List.mem_cons, List.not_mem_nil, or_false] at hb
    rcases hb with rfl | rfl | rfl | rfl | rfl
    · exact Nat.le_add_right _ 4
    · exact Nat.le_add_right _ 2
    · exact Nat.le_add_right _ 3
    · exact Nat.le_refl _
    · exact Nat.le_add_right _ 1
  exact I1.fpOk hle (I1.hok.fresh hle)
end

/-! ### enumerate of a list -/
def Ite (K : PySem.W.Frag) (a : Addr) : It :=
  ⟨fun i H => ∃ xs x, SqL K H a xs ∧ xs[i]? = some x,
   fun i H v H' => ∃ p, H p = none ∧ v = .ref p ∧ ∀ xs x, SqL K H a xs → xs[i]? = some x → H' = upd H p (.tup [.int i, x]),
   fun i H => ∃ xs, SqL K H a xs ∧ xs.length ≤ i⟩
theorem turn_enum {P : Program} {w : World} {K : PySem.W.Frag} {es : List Expr} {k : Nat} {pos : Pos} (l e it : Addr) (hne : e ≠ it) :
    Turn P w K (.Tuple es k pos) (Ite K l) [e, it] e (fun i h => (∃ old, IsEnum h e it i old) ∧ h.IsListIter it l i) where
  mem := by simp
  obj := fun i h st b hb => by
    obtain ⟨⟨old, he⟩, h1⟩ := st
    simp only [List.mem_cons, List.not_mem_nil, or_false] at hb
    rcases hb with rfl | rfl
    · exact ⟨_, he, fun v z => by cases z⟩
    · obtain ⟨o, e, _, d⟩ := h1
      exact ⟨o, e, fun v z => by rw [d] at z; cases z⟩
  keep := fun i h h' st k => by
    obtain ⟨⟨old, he⟩, h1⟩ := st
    exact ⟨⟨old, k e (by simp) _ he⟩, h1.at fun o q => k it (by simp) o q⟩
  item := by
    intro X hP hw hK hc i pins s σ H E I hf st hg
    subst hP hw hK
    obtain ⟨xs, x, hqx, hx⟩ := hg
    obtain ⟨⟨old, he⟩, h1⟩ := st
    obtain ⟨its, rv, p, _⟩ := I.list hqx
    obtain ⟨u, hu, ru⟩ := rv.get hx
    refine wpAny_pyNext_enum_item he h1 p.isList (x := u) (by simpa using hu) hne fun h' he' h1' hT hsz hk => ?_
    refine ⟨.ref s.heap.objs.size, rfl, wpAny_letOwnedTupleGo_enum he' fun h'' he'' sb => ?_⟩
    have lte : e < s.heap.objs.size := Heap.lt_size he
    have hT' : h''.get? s.heap.objs.size = some { cls := .type "tuple", data := .seq #[.int i s.toks, u] } := (sb.2 _ (Nat.ne_of_gt lte)).trans hT
    have I1 : Inv X pins σ (upd H s.heap.objs.size (.tup [.int i, x])) { s with heap := h'', toks := s.toks + 1 } := I.turnLaid (t' := s.toks + 1) (ch := [e, it]) hf (fun b o hb q => by
        simp only [List.mem_cons, List.not_mem_nil, or_false, not_or] at hb
        exact (sb.2 b hb.1).trans (hk b o hb.1 hb.2 q)) (Nat.le_refl _) ⟨two_le, [.int i s.toks, u], .cons ⟨_, rfl⟩ (.cons ru .nil), ⟨_, hT', rfl, _, rfl⟩⟩
    refine ⟨.ref s.heap.objs.size, _, I1, rfl, ⟨_, I.hok.fresh (Nat.le_refl _), rfl, fun xs' x' q1 e1 => ?_⟩, ⟨⟨u, ?_⟩, h1'.at fun o q => (sb.2 _ (Ne.symm hne)).trans q⟩, fun b hb => ?_⟩
    · rw [I.list_inj q1 hqx, hx] at e1
      cases e1; rfl
    · have e2 : ((i : Int) + 1) = ((i + 1 : Nat) : Int) := by push_cast; rfl
      rw [e2] at he''
      exact he''
    · have hb' := (hf b hb).1
      have : b ≠ s.heap.objs.size := by
        have hlt : b < s.heap.objs.size := by
          simp only [List.mem_cons, List.not_mem_nil, or_false] at hb
          rcases hb with rfl | rfl
          · exact lte
          · obtain ⟨o, e, _⟩ := h1; exact Heap.lt_size e
        exact Nat.ne_of_lt hlt
      rw [upd_ne this]
      exact hb'
  done := by
    intro X hP hw hK hc i pins s σ H E I hf st hg
    subst hP hw hK
    obtain ⟨xs, hqx, hl⟩ := hg
    obtain ⟨⟨old, he⟩, h1⟩ := st
    obtain ⟨its, rv, p, _⟩ := I.list hqx
    have l1 := rv.length
    refine wpAny_pyNext_enum_end (I.ok.hd hc) he h1 p.isList (by simp; omega) fun h' hk => ⟨rfl, I.turns (t' := s.toks) (ch := [e, it]) hf fun b o hb q => ?_⟩
    simp only [List.mem_cons, List.not_mem_nil, or_false, not_or] at hb
    exact hk b o hb.2 q
  self := fun A i s Q E st h => by
    obtain ⟨⟨old, he⟩, _⟩ := st
    exact wpAny_pyIter_enum he h
section
variable {X : Cx} {es : List Expr} {k : Nat} {tpos : Pos}
def iEnum (K : PySem.W.Frag) (ta : TA) : TI := fun σ H R => ta σ H fun vs H1 => ∃ a, vs = [.ref a] ∧ (∃ xs, SqL K H1 a xs) ∧ R (Ite K a) H1
theorem pi_enum {a : Expr} {ta : TA} {p pos : Pos} (hg : Gl X "enumerate") (hm : X.mg "enumerate" = none) (ha : PA X [a] ta) (hs : starEach [a] X.env = [(false, eval a X.env)] := by rfl) :
    PI X (.Tuple es k tpos) (.Call (.Name "enumerate" p) [a] [] pos) (iEnum X.K ta) := by
  intro pins s σ H R I h
  refine Call_ (ld_blt I hg hm boot_enumerate (PyProof.Rows.callWith_type1 (thn (ha pos pins s σ H _ I h) fun us s1 ⟨vs, H1, I1, r1, q1⟩ => ?_) hs rfl))
  obtain ⟨l1, e, ⟨xs, hqx⟩, q⟩ := q1
  subst e
  obtain ⟨u, rfl, ru⟩ := vals1 r1
  cases ru
  obtain ⟨its, rv, p1, _⟩ := I1.list hqx
  refine call_enumerate_list p1.isList fun h' he h1 hsz hk => ?_
  have I2 : Inv X pins σ H1 { s1 with heap := h' } := I1.kept (t' := s1.toks) hk
  refine wpAny_pyIter_enum he ?_
  refine ⟨_, _, _, _, H1, rfl, I2, turn_enum l1 _ _ (Nat.ne_of_gt (Nat.lt_succ_self _)), ⟨⟨_, he⟩, h1⟩, fun b hb => ?_, q⟩
  have hle : s1.heap.objs.size ≤ b := by
    simp only [List.mem_cons, List.not_mem_nil, or_false] at hb
    rcases hb with rfl | rfl
    · exact Nat.le_add_right _ 1
    · exact Nat.le_refl _
  exact I1.fpOk hle (I1.hok.fresh hle)
end
end L2

set_option Elab.async false
set_option linter.all false
set_option maxRecDepth 100000
set_option maxHeartbeats 4000000
namespace L2
open PySem PySem.Spec PyProof.Rows

/-! ### ints of some size -/
/-- below 2^1024 -/
def Fit (i : Int) : Prop := i.natAbs < 2 ^ 1024
theorem Fit.log {i : Int} (h : Fit i) : i.natAbs.log2 < 1024 := by
  by_cases h0 : i.natAbs = 0
  · rw [h0]; decide +kernel
  · exact (Nat.log2_lt h0).mpr h
theorem fit_le {i : Int} (B : Nat) (h : i.natAbs ≤ B) (hB : B < 2 ^ 1024) : Fit i := Nat.lt_of_le_of_lt h hB
theorem Fit.mono {i j : Int} (h : Fit j) (k : i.natAbs ≤ j.natAbs) : Fit i := Nat.lt_of_le_of_lt k h
theorem Fit.bits {i : Int} (h : Fit i) : Builtin.Int.intBits i ≤ 2 ^ 20 := by
  unfold Builtin.Int.intBits
  split
  · exact Nat.zero_le _
  · have h := h.log
    have e : (2 : Nat) ^ 20 = 1048576 := by decide
    omega
section
variable {X : Cx}
theorem op_mulF : OpR X (binaryOp .Mult) (rI (fun i j => Fit i ∧ Fit j) fun i j => .int (i * j)) := opI fun _ _ _ _ _ _ _ hc q => mul_int q (.of_bits hc.1.bits hc.2.bits)
/-- // by a positive number of some size -/
theorem op_fdivF : OpR X (binaryOp .FloorDiv) (rI (fun _ j => 0 < j ∧ Fit j) fun i j => .int (i / j)) := opI fun i j _ _ _ _ _ hc q => by
  have h1 : (0 : Int) < j := hc.1
  have h2 := hc.2.log
  exact floordiv_int (by omega) (by rw [Int.fdiv_eq_ediv_of_nonneg i (by omega)]; exact q) (.inl (PyProof.noPylong_of_log2 (by omega)))

/-! ### isinstance -/
def rIsT (K : PySem.W.Frag) (n : String) : List V → Hp → VK → Prop := fun xs H Q => ∃ x t b, xs = [x, .ty n] ∧ TyOf K H x t ∧ PySem.W.kitOne K t (.type n) = some b ∧ Q (.bl b) H
def rIsC (K : PySem.W.Frag) (C : Addr) : List V → Hp → VK → Prop := fun xs H Q => ∃ x t b, xs = [x, .ref C] ∧ TyOf K H x t ∧ PySem.W.kitOne K t (.ref C) = some b ∧ Q (.bl b) H
theorem call_isT {n : String} : CallR X (.builtin "isinstance") (rIsT X.K n) := by
  intro pins s σ H xs us Q I r h
  obtain ⟨x, t, b, rfl, ty, e, q⟩ := h
  obtain ⟨u, v, rfl, rx, rc⟩ := vals2 r
  cases rc
  exact isinst_ok I rx ty e fun tk => ⟨.bl b, H, I.tok tk, rfl, q⟩
theorem call_isC {C : Addr} : CallR X (.builtin "isinstance") (rIsC X.K C) := by
  intro pins s σ H xs us Q I r h
  obtain ⟨x, t, b, rfl, ty, e, q⟩ := h
  obtain ⟨u, v, rfl, rx, rc⟩ := vals2 r
  cases rc
  exact isinst_ok I rx ty e fun tk => ⟨.bl b, H, I.tok tk, rfl, q⟩
end
theorem kit_refl {K : PySem.W.Frag} {t : Value} : PySem.W.kitOne K t t = some true := by
  unfold PySem.W.kitOne
  rw [if_pos (by simp)]
section
variable {K : PySem.W.Frag}
theorem kit_int_bool : PySem.W.kitOne K (.type "int") (.type "bool") = some false := by kernel_rfl
end
section
variable {X : Cx}

/-! ### sum, min, all, any of a list -/
theorem ints_of {ns : List Int} {its : List Value} (r : Vals (ns.map V.int) its) : ∃ xs : Array (Int × Tok), its.toArray = intItems xs ∧ xs.toList.map (·.1) = ns := by
  have hi := intsAre_of r
  obtain ⟨xs, e⟩ := hi.allInts.items
  refine ⟨xs, e, ?_⟩
  have q : numsOf its.toArray.toList = ns := hi.numsOf
  rw [e, nums_intItems] at q
  exact q
def rSumL (K : PySem.W.Frag) : List V → Hp → VK → Prop := fun xs H Q => ∃ (a : Addr) (ns : List Int), xs = [.ref a] ∧ SqL K H a (ns.map V.int) ∧ Q (.int ns.sum) H
theorem call_sumL (hc : X.calm = true) : CallR X (.builtin "sum") (rSumL X.K) := by
  intro pins s σ H xs us Q I r h
  obtain ⟨a, ns, rfl, hq, q⟩ := h
  obtain ⟨u, rfl, rx⟩ := vals1 r
  cases rx
  obtain ⟨its, rv, p, _⟩ := I.list hq
  obtain ⟨ys, e, en⟩ := ints_of rv
  refine sum_intListG (I.ok.hd hc) (by rw [← e]; exact p.isList) fun h' tk t' hk => ⟨.int ns.sum, H, I.kept hk, ⟨t', ?_⟩, q⟩
  rw [preSum_eq, List.take_of_length_le (by simp), en]
theorem bools_of {bs : List Bool} : ∀ {its : List Value}, Vals (bs.map V.bl) its → LSm.BoolsAre its bs := by
  induction bs with
  | nil => intro its r; cases r; exact .nil
  | cons b bs ih =>
    intro its r
    cases r with
    | cons r1 r2 =>
      cases r1
      exact .cons b (ih r2)
theorem kept_it {s : Shared} {h' : Heap} {o : Obj} (hk : ∀ b x, b ∉ [s.heap.objs.size] → (s.heap.push o).get? b = some x → h'.get? b = some x) : ∀ b x, s.heap.get? b = some x → h'.get? b = some x :=
  fun b x e => hk b x (fun hm => by rw [List.mem_singleton.mp hm] at e; exact Nat.lt_irrefl _ (Heap.lt_size e)) (Heap.get?_push_of_some _ e)
def rAllL (K : PySem.W.Frag) : List V → Hp → VK → Prop := fun xs H Q => ∃ (a : Addr) (bs : List Bool), xs = [.ref a] ∧ SqL K H a (bs.map V.bl) ∧ Q (.bl (bs.all id)) H
theorem call_allL (hc : X.calm = true) : CallR X (.builtin "all") (rAllL X.K) := by
  intro pins s σ H xs us Q I r h
  obtain ⟨a, bs, rfl, hq, q⟩ := h
  obtain ⟨u, rfl, rx⟩ := vals1 r
  cases rx
  obtain ⟨its, rv, p, _⟩ := I.list hq
  have hb := bools_of rv
  have hl := p.isList
  have hlt : a < s.heap.objs.size := p.lt
  refine call_all_walk (wpAny_pyIter_list hl ?_)
  refine ⟨s.heap.objs.size, [s.heap.objs.size, a], [s.heap.objs.size], its.toArray.size, _, _, fun i => (bs[i]?).getD true, rfl, Walks.list (A := X.A.in1) (I.ok.hd hc) _ a (Nat.ne_of_lt hlt) its.toArray,
    ⟨⟨_, Heap.get?_push_size _ rfl, rfl, rfl⟩, hl.push _⟩, fun i v s' Q' E' hP hQ => ?_, fun h' tk hk => ?_⟩
  · obtain ⟨b, e, rfl⟩ := hb.get i v (by simpa using hP)
    simp only [e, Option.getD_some] at hQ
    exact wpAny_truthy_bool hQ
  · have e : ((List.range its.toArray.size).all fun i => (bs[i]?).getD true) = bs.all id := by
      rw [List.size_toArray, hb.length]; exact LSm.range_all bs
    rw [e]
    exact ⟨.bl _, H, I.kept (kept_it hk), rfl, q⟩
def rAnyL (K : PySem.W.Frag) : List V → Hp → VK → Prop := fun xs H Q => ∃ (a : Addr) (bs : List Bool), xs = [.ref a] ∧ SqL K H a (bs.map V.bl) ∧ Q (.bl (bs.any id)) H
theorem call_anyL (hc : X.calm = true) : CallR X (.builtin "any") (rAnyL X.K) := by
  intro pins s σ H xs us Q I r h
  obtain ⟨a, bs, rfl, hq, q⟩ := h
  obtain ⟨u, rfl, rx⟩ := vals1 r
  cases rx
  obtain ⟨its, rv, p, _⟩ := I.list hq
  have hb := bools_of rv
  have hl := p.isList
  have hlt : a < s.heap.objs.size := p.lt
  refine call_any_walk (wpAny_pyIter_list hl ?_)
  refine ⟨s.heap.objs.size, [s.heap.objs.size, a], [s.heap.objs.size], its.toArray.size, _, _, fun i => (bs[i]?).getD false, rfl, Walks.list (A := X.A.in1) (I.ok.hd hc) _ a (Nat.ne_of_lt hlt) its.toArray,
    ⟨⟨_, Heap.get?_push_size _ rfl, rfl, rfl⟩, hl.push _⟩, fun i v s' Q' E' hP hQ => ?_, fun h' tk hk => ?_⟩
  · obtain ⟨b, e, rfl⟩ := hb.get i v (by simpa using hP)
    simp only [e, Option.getD_some] at hQ
    exact wpAny_truthy_bool hQ
  · have e : ((List.range its.toArray.size).any fun i => (bs[i]?).getD false) = bs.any id := by
      rw [List.size_toArray, hb.length]; exact LSm.range_any bs
    rw [e]
    exact ⟨.bl _, H, I.kept (kept_it hk), rfl, q⟩

/-! ### xs.index(k) of ints, xs.count(b) of bools -/

/-! ### list + list, either may be the script -/
def rCatS (K : PySem.W.Frag) : R2 := fun x y H Q => ∃ l b xs zs, x = .ref l ∧ y = .ref b ∧ SqL K H l xs ∧ SqL K H b zs ∧ xs.length + zs.length ≤ sizeLine ∧ ∀ p, H p = none → Q (.ref p) (upd H p (.lst (xs ++ zs)))
theorem op_catS : OpR X (binaryOp .Add) (rCatS X.K) := by
  intro pins s σ H x y v u Q I rx ry h
  obtain ⟨l, b, xs, zs, rfl, rfl, hH, hB, hz, q⟩ := h
  cases rx
  cases ry
  obtain ⟨its, r, p, _⟩ := I.list hH
  obtain ⟨jts, r2, p2, _⟩ := I.list hB
  obtain ⟨⟨cls, dd, data, sl⟩, ho, hc, n, hd⟩ := p.isList
  obtain ⟨⟨cls2, dd2, data2, sl2⟩, ho2, hc2, n2, hd2⟩ := p2.isList
  simp only at hc hd hc2 hd2
  subst hc hd hc2 hd2
  have l1 := r.length
  have l2 := r2.length
  have e : its.toArray ++ jts.toArray = (its ++ jts).toArray := by simp
  refine concat_meets ⟨_, ho, rfl⟩ ⟨_, ho2, rfl⟩ noFill_list_add seq_list_add PySem.F.slot_list_add PySem.F.entry_list_add (PySem.F.args_list_add_2 _ _) (list_addW l b its.toArray jts.toArray n n2 dd dd2 sl sl2 (by rw [List.size_toArray, List.size_toArray]; omega)) ⟨ho, ho2, ?_⟩
  rw [e]
  exact ⟨.ref _, _, I.lnew (t' := s.toks) (r.append r2) (by rw [List.length_append]; omega), rfl, q _ I.fresh⟩

/-! ### == and != of data at any depth -/
end
end L2
namespace L2
open PySem PySem.Spec PyProof.Rows
mutual
/-- the value is that data -/
inductive Dr (K : PySem.W.Frag) (H : Hp) : V → PyData → Prop where
  | non : Dr K H .non .none
  | bl (b : Bool) : Dr K H (.bl b) (.bool b)
  | int (i : Int) : Dr K H (.int i) (.int i)
  | str (x : Str) (h : PyData.strOk x = true) : Dr K H (.str x) (.str x)
  | lst {a : Addr} {xs : List V} {ds : List PyData} (h : SqL K H a xs) (r : Drs K H xs ds) : Dr K H (.ref a) (.list ds)
  | tup {a : Addr} {xs : List V} {ds : List PyData} (h : SqT K H a xs) (r : Drs K H xs ds) : Dr K H (.ref a) (.tuple ds)
inductive Drs (K : PySem.W.Frag) (H : Hp) : List V → List PyData → Prop where
  | nil : Drs K H [] []
  | cons {x : V} {d : PyData} {xs : List V} {ds : List PyData} (h : Dr K H x d) (r : Drs K H xs ds) : Drs K H (x :: xs) (d :: ds)
end
section
variable {X : Cx} {pins : List (Addr × Obj)} {σ : St} {H : Hp} {s : Shared}
mutual
theorem Dr.reads (I : Inv X pins σ H s) : ∀ {x : V} {d : PyData} {u : Value}, Dr X.K H x d → RelV x u → ∃ as, Reads s.heap u d as
  | _, _, _, .non, r => by cases r; exact ⟨_, .none⟩
  | _, _, _, .bl b, r => by cases r; exact ⟨_, .bool b⟩
  | _, _, _, .int i, r => by obtain ⟨t, rfl⟩ := r; exact ⟨_, .int i t⟩
  | _, _, _, .str x _, r => by obtain ⟨t, rfl⟩ := r; exact ⟨_, .str x t⟩
  | _, _, _, .lst h rs, r => by
    cases r
    obtain ⟨its, rv, p, _⟩ := I.list h
    obtain ⟨o, ho, hc, n, hd⟩ := p.isList
    obtain ⟨as, q⟩ := Drs.reads I rs rv
    exact ⟨_, .list ho hc hd (by simpa using q)⟩
  | _, _, _, .tup h rs, r => by
    cases r
    obtain ⟨its, rv, p, _⟩ := I.tuple h
    obtain ⟨o, ho, hc, n, hd⟩ := p
    obtain ⟨as, q⟩ := Drs.reads I rs rv
    exact ⟨_, .tuple ho hc hd (by simpa using q)⟩
theorem Drs.reads (I : Inv X pins σ H s) : ∀ {xs : List V} {ds : List PyData} {us : List Value}, Drs X.K H xs ds → Vals xs us → ∃ as, ReadsAll s.heap us ds as
  | _, _, _, .nil, r => by cases r; exact ⟨_, .nil⟩
  | _, _, _, .cons h hs, r => by
    cases r with
    | cons r1 r2 =>
      obtain ⟨as, q⟩ := Dr.reads I h r1
      obtain ⟨bs, q'⟩ := Drs.reads I hs r2
      exact ⟨_, .cons q q'⟩
end
end
section
variable {X : Cx}
def rEqD (K : PySem.W.Frag) (neg : Bool) : R2 := fun x y H Q => ∃ d e, Dr K H x d ∧ Dr K H y e ∧ SeqAt.shaped d = true ∧ SeqAt.shaped e = true ∧ Q (.bl (if neg then !PyData.eqv d e else PyData.eqv d e)) H
theorem op_eqD (hu : X.A.units + 64 < cLine) : OpR X (compareOp .Eq) (rEqD X.K false) := by
  intro pins s σ H x y v u Q I rx ry h
  obtain ⟨d, e, hd, he, sd, se, q⟩ := h
  obtain ⟨as, ra⟩ := hd.reads I rx
  obtain ⟨bs, rb⟩ := he.reads I ry
  exact SeqAt.compareEq_shaped ra rb sd se hu ⟨.bl _, H, I, rfl, q⟩
theorem op_neD (hu : X.A.units + 64 < cLine) : OpR X (compareOp .NotEq) (rEqD X.K true) := by
  intro pins s σ H x y v u Q I rx ry h
  obtain ⟨d, e, hd, he, sd, se, q⟩ := h
  obtain ⟨as, ra⟩ := hd.reads I rx
  obtain ⟨bs, rb⟩ := he.reads I ry
  exact SeqAt.compareNe_shaped ra rb sd se hu ⟨.bl _, H, I, rfl, q⟩

/-! ### xs[lo:hi:step] of a list -/
def pickV (xs : List V) (lo hi st : Option Int) : List V :=
  (sliceRange (sliceBounds lo hi st xs.length).1 (sliceBounds lo hi st xs.length).2.1 (sliceBounds lo hi st xs.length).2.2).filterMap (xs[·]?)
theorem vals_filterMap {xs : List V} {its : List Value} (r : Vals xs its) : ∀ ks : List Nat, Vals (ks.filterMap (xs[·]?)) (ks.filterMap (its[·]?))
  | [] => .nil
  | k :: ks => by
    have ih := vals_filterMap r ks
    cases e : xs[k]? with
    | none =>
      have e' := r.none_of e
      rw [List.filterMap_cons_none e, List.filterMap_cons_none e']
      exact ih
    | some x =>
      obtain ⟨u, e', ru⟩ := r.get e
      rw [List.filterMap_cons_some e, List.filterMap_cons_some e']
      exact .cons ru ih
def rSl3 (K : PySem.W.Frag) : V → Option Int → Option Int → Option Int → Hp → VK → Prop := fun x lo hi st H Q => ∃ a xs, x = .ref a ∧ SqL K H a xs ∧ st ≠ some 0 ∧ ((pickV xs lo hi st).length ≤ xs.length → ∀ p, H p = none → Q (.ref p) (upd H p (.lst (pickV xs lo hi st))))
def tSl3 (K : PySem.W.Frag) (te : TE) (tl th ts : TO) : TE := fun σ H Q => te σ H fun x H1 => tl σ H1 fun l H2 => th σ H2 fun u H3 => ts σ H3 fun st H4 => rSl3 K x l u st H4 Q
theorem pe_slice3 {e st : Expr} {te : TE} {lo hi : Option Expr} {tl th ts : TO} {pos p2 : Pos} (he : PE X e te) (hl : PO X lo tl) (hu : PO X hi th) (hst : PO X (some st) ts) : PE X (.Subscript e (.Slice lo hi (some st) p2) pos) (tSl3 X.K te tl th ts) := by
  intro pins s σ H Q I h
  refine Subscript_ (thn (he pins s σ H _ I h) fun v s1 ⟨x, H1, I1, r1, q1⟩ => ?_)
  refine wpAny_Slice (thn (hl pins s1 σ H1 _ I1 q1) fun vl s2 ⟨l, H2, I2, pl, q2⟩ => thn (hu pins s2 σ H2 _ I2 q2) fun vu s3 ⟨u, H3, I3, pu, q3⟩ => thn (hst pins s3 σ H3 _ I3 q3) fun vs s4 ⟨st', H4, I4, ps, q4⟩ => ?_)
  obtain ⟨a, xs, rfl, hx, h0, q⟩ := q4
  cases r1
  have I5 : Inv X pins σ H4 { s4 with heap := s4.heap.push { cls := .type "slice", data := .fields #[vl, vu, vs] } } := I4.kept (t' := s4.toks) fun b ob q => Heap.get?_push_of_some _ q
  obtain ⟨its, r, ht, hz⟩ := I5.list hx
  have hlen := r.length
  show wpAny (model X.prog X.w) X.A (subscriptTail e (.Slice lo hi (some st) p2) (.ref a) (.ref s4.heap.objs.size)) (EP X pins σ Q) X.xe { s4 with heap := s4.heap.push { cls := .type "slice", data := .fields #[vl, vu, vs] } }
  refine tail_any (ops := [.ref a, .ref s4.heap.objs.size]) ht.isList.typeIs slot_list_getitem.lookup ?_ (by with_unfolding_all rfl)
  refine wpAny_getItem_list_slice ht.isList (Heap.IsSliceOf.new ..) pl pu ps h0 ?_ (by rw [List.size_toArray] <;> omega)
  have e1 : slicePick its.toArray l u st' = ((sliceRange (sliceBounds l u st' xs.length).1 (sliceBounds l u st' xs.length).2.1 (sliceBounds l u st' xs.length).2.2).filterMap (its[·]?)).toArray := by
    unfold slicePick
    rw [List.size_toArray, hlen]
    simp
  have hsz : (pickV xs l u st').length ≤ xs.length := by
    have h1 := slicePick_size_le its.toArray l u st'
    rw [e1, List.size_toArray, List.size_toArray] at h1
    have h2 := (vals_filterMap r (sliceRange (sliceBounds l u st' xs.length).1 (sliceBounds l u st' xs.length).2.1 (sliceBounds l u st' xs.length).2.2)).length
    have h3 : (pickV xs l u st').length = _ := h2
    omega
  rw [e1]
  exact ⟨.ref _, _, I5.lnew (t' := s4.toks) (vals_filterMap r _) (Nat.le_trans hsz hz), rfl, q hsz _ I5.fresh⟩
end
end L2

set_option Elab.async false
set_option linter.all false
set_option maxRecDepth 100000
set_option maxHeartbeats 4000000
namespace L2
open PySem PySem.Spec PyProof.Rows

/-! ### the rules with the written part named: within a comprehension's block it must not hang on the block -/
section
variable (K : PySem.W.Frag) {X : Cx} (hK : X.K = K := by rfl)
include hK
theorem isTK {n : String} : CallR X (.builtin "isinstance") (rIsT K n) := by subst hK; exact call_isT
theorem isCK {C : Addr} : CallR X (.builtin "isinstance") (rIsC K C) := by subst hK; exact call_isC
theorem ix_tupK : IxR X (rIxT K) := by subst hK; exact ix_tup
theorem ix_listK : IxR X (rIxL K) := by subst hK; exact ix_list
def rLenS (K : PySem.W.Frag) : List V → Hp → VK → Prop := fun xs H Q => ∃ p ys, xs = [.ref p] ∧ (SqL K H p ys ∨ SqT K H p ys) ∧ Q (.int ys.length) H
theorem lenK : CallR X (.builtin "len") (rLenS K) := by subst hK; exact call_len_seq
theorem sumK (hc : X.calm = true) : CallR X (.builtin "sum") (rSumL K) := by subst hK; exact call_sumL hc
theorem allK (hc : X.calm = true) : CallR X (.builtin "all") (rAllL K) := by subst hK; exact call_allL hc
theorem anyK (hc : X.calm = true) : CallR X (.builtin "any") (rAnyL K) := by subst hK; exact call_anyL hc
theorem catK : OpR X (binaryOp .Add) (rCatS K) := by subst hK; exact op_catS
theorem eqK (hu : X.A.units + 64 < cLine) : OpR X (compareOp .Eq) (rEqD K false) := by subst hK; exact op_eqD hu
theorem neK (hu : X.A.units + 64 < cLine) : OpR X (compareOp .NotEq) (rEqD K true) := by subst hK; exact op_neD hu
theorem pg_tupK {es : List Expr} {k : Nat} {t : TGs} {n : Nat} {pos : Pos} (hc : X.calm = true) (h : PGs X es t)
    (hn : (assignEach es X.env).length = n := by rfl) (hst : (assignEach es X.env).findIdx? (·.1) = none := by rfl) : PG X (.Tuple es k pos) (gTup K n t) := by subst hK; exact pg_tup hc h hn hst
theorem pi_listK {tg l : Expr} {tl : TE} (hl : PE X l tl) : PI X tg l (iList K tl) := by subst hK; exact pi_list hl
theorem pi_tupK {tg l : Expr} {tl : TE} (hl : PE X l tl) : PI X tg l (iTup K tl) := by subst hK; exact pi_tup hl
end
/-- a comprehension's test that is none -/
theorem yesT {σ : St} {H : Hp} {A B : Hp → Prop} (h : A H) : tYes σ H fun c H3 => if c = true then A H3 else B H3 := by
  show (if true = true then A H else B H)
  exact iteT h

/-- .. behind a plain target -/
theorem nameYes {i : Nat} {v : V} {σ : St} {H : Hp} {A B : St → Hp → Prop} (h : A (σ.set i (some v)) H) : gName i v σ H fun σ2 H2 => tYes σ2 H2 fun c H3 => if c = true then A σ2 H3 else B σ2 H3 := by
  show (if true = true then A (σ.set i (some v)) H else B (σ.set i (some v)) H)
  exact iteT h

/-! ### comprehensions: the forms one uses -/
/-- what a comprehension asks of its walk J -/
abbrev CompW (J : It) (g : TG) (tt : TT) (te : TE) (σc : St) (Fn : List V → Hp → Prop) (H : Hp) : Prop :=
  ∃ W : Nat → Nat → List V → Hp → Prop, (∃ m, W 0 m [] H) ∧ ∀ i m ys H, W i m ys H → ys.length < sizeLine ∧
    ((J.stop i H ∧ Fn ys H) ∨
     (J.go i H ∧ ∃ N : List V → Hp → Prop, (∀ ys' H', N ys' H' → ∃ m', m' < m ∧ W (i + 1) m' ys' H') ∧
       ∀ x H', J.yld i H x H' → g x σc H' fun σ2 H2 => tt σ2 H2 fun c H3 => if c = true then te σ2 H3 fun y H4 => N (ys ++ [y]) H4 else N ys H3))
section
variable {K : PySem.W.Frag} {g : TG} {tt : TT} {te : TE} {σc : St} {Fn : List V → Hp → Prop} {H : Hp}
/-- any walk of n turns -/
theorem comp_by {J : It} (n : Nat) (Pv : Nat → List V → Hp → Prop) (h0 : Pv 0 [] H) (hz : ∀ i ys H, i ≤ n → Pv i ys H → ys.length < sizeLine) (hg : ∀ i ys H, i < n → Pv i ys H → J.go i H)
    (hs : ∀ i ys H x H', i < n → Pv i ys H → J.yld i H x H' → g x σc H' fun σ2 H2 => tt σ2 H2 fun c H3 => if c = true then te σ2 H3 fun y H4 => Pv (i + 1) (ys ++ [y]) H4 else Pv (i + 1) ys H3)
    (hd : ∀ ys H, Pv n ys H → J.stop n H ∧ Fn ys H) : CompW J g tt te σc Fn H := by
  refine ⟨fun i m ys H => m = n - i ∧ i ≤ n ∧ Pv i ys H, ⟨n, by simp, Nat.zero_le _, h0⟩, ?_⟩
  rintro i m ys H ⟨rfl, hi, p⟩
  refine ⟨hz i ys H hi p, ?_⟩
  by_cases hlt : i < n
  · exact .inr ⟨hg i ys H hlt p, Pv (i + 1), fun ys' H' p' => ⟨n - (i + 1), by omega, rfl, hlt, p'⟩, fun x H' y => hs i ys H x H' hlt p y⟩
  · have e : i = n := by omega
    subst e
    exact .inl (hd ys H p)
theorem comp_list {a : Addr} {xs : List V} (Pv : Nat → List V → Hp → Prop) (h0 : Pv 0 [] H) (hl : ∀ i ys H, i ≤ xs.length → Pv i ys H → SqL K H a xs ∧ ys.length < sizeLine)
    (hs : ∀ i x ys H, xs[i]? = some x → Pv i ys H → g x σc H fun σ2 H2 => tt σ2 H2 fun c H3 => if c = true then te σ2 H3 fun y H4 => Pv (i + 1) (ys ++ [y]) H4 else Pv (i + 1) ys H3)
    (hd : ∀ ys H, Pv xs.length ys H → Fn ys H) : CompW (Itl K a) g tt te σc Fn H :=
  comp_by xs.length Pv h0 (fun i ys H hi p => (hl i ys H hi p).2) (fun i ys H hi p => ⟨xs, xs[i], (hl i ys H (Nat.le_of_lt hi) p).1, by simp [hi]⟩)
    (fun i ys H x H' hi p y => by obtain ⟨rfl, y⟩ := y; exact hs i x ys _ (y xs (hl i ys _ (Nat.le_of_lt hi) p).1) p)
    fun ys H p => ⟨⟨xs, (hl _ ys H (Nat.le_refl _) p).1, Nat.le_refl _⟩, hd ys H p⟩
theorem comp_tup {a : Addr} {xs : List V} (Pv : Nat → List V → Hp → Prop) (h0 : Pv 0 [] H) (hl : ∀ i ys H, i ≤ xs.length → Pv i ys H → SqT K H a xs ∧ ys.length < sizeLine)
    (hs : ∀ i x ys H, xs[i]? = some x → Pv i ys H → g x σc H fun σ2 H2 => tt σ2 H2 fun c H3 => if c = true then te σ2 H3 fun y H4 => Pv (i + 1) (ys ++ [y]) H4 else Pv (i + 1) ys H3)
    (hd : ∀ ys H, Pv xs.length ys H → Fn ys H) : CompW (Itt K a) g tt te σc Fn H :=
  comp_by xs.length Pv h0 (fun i ys H hi p => (hl i ys H hi p).2) (fun i ys H hi p => ⟨xs, xs[i], (hl i ys H (Nat.le_of_lt hi) p).1, by simp [hi]⟩)
    (fun i ys H x H' hi p y => by obtain ⟨rfl, y⟩ := y; exact hs i x ys _ (y xs (hl i ys _ (Nat.le_of_lt hi) p).1) p)
    fun ys H p => ⟨⟨xs, (hl _ ys H (Nat.le_refl _) p).1, Nat.le_refl _⟩, hd ys H p⟩
theorem comp_range {lo : Int} {n : Nat} (Pv : Nat → List V → Hp → Prop) (h0 : Pv 0 [] H) (hz : ∀ i ys H, i ≤ n → Pv i ys H → ys.length < sizeLine)
    (hs : ∀ i ys H, i < n → Pv i ys H → g (.int (lo + i)) σc H fun σ2 H2 => tt σ2 H2 fun c H3 => if c = true then te σ2 H3 fun y H4 => Pv (i + 1) (ys ++ [y]) H4 else Pv (i + 1) ys H3)
    (hd : ∀ ys H, Pv n ys H → Fn ys H) : CompW (Itr lo n) g tt te σc Fn H :=
  comp_by n Pv h0 hz (fun i ys H hi p => hi) (fun i ys H x H' hi p y => by obtain ⟨rfl, rfl⟩ := y; exact hs i ys _ hi p) fun ys H p => ⟨Nat.le_refl _, hd ys H p⟩
/-- zip of two lists of one length; the turn's pair is a new tuple at p -/
theorem comp_zip {a b : Addr} {xs ys : List V} (he : xs.length = ys.length) (Pv : Nat → List V → Hp → Prop) (h0 : Pv 0 [] H) (hl : ∀ i zs H, i ≤ xs.length → Pv i zs H → SqL K H a xs ∧ SqL K H b ys ∧ zs.length < sizeLine)
    (hs : ∀ i x y zs H p, xs[i]? = some x → ys[i]? = some y → Pv i zs H → H p = none → g (.ref p) σc (upd H p (.tup [x, y])) fun σ2 H2 => tt σ2 H2 fun c H3 => if c = true then te σ2 H3 fun z H4 => Pv (i + 1) (zs ++ [z]) H4 else Pv (i + 1) zs H3)
    (hd : ∀ zs H, Pv xs.length zs H → Fn zs H) : CompW (Itz K a b) g tt te σc Fn H :=
  comp_by xs.length Pv h0 (fun i ys H hi p => (hl i ys H hi p).2.2)
    (fun i zs H hi p => ⟨xs, ys, xs[i], ys[i]'(by omega), (hl i zs H (Nat.le_of_lt hi) p).1, (hl i zs H (Nat.le_of_lt hi) p).2.1, by simp [hi], by simp [show i < ys.length by omega]⟩)
    (fun i zs H x H' hi p y => by
      obtain ⟨q, hq, rfl, y⟩ := y
      have ex : xs[i]? = some xs[i] := by simp [hi]
      have ey : ys[i]? = some (ys[i]'(by omega)) := by simp [show i < ys.length by omega]
      rw [y xs ys _ _ (hl i zs H (Nat.le_of_lt hi) p).1 (hl i zs H (Nat.le_of_lt hi) p).2.1 ex ey]
      exact hs i _ _ zs H q ex ey p hq)
    fun zs H p => ⟨⟨xs, ys, (hl _ zs H (Nat.le_refl _) p).1, (hl _ zs H (Nat.le_refl _) p).2.1, .inl (Nat.le_refl _)⟩, hd zs H p⟩
theorem comp_enum {a : Addr} {xs : List V} (Pv : Nat → List V → Hp → Prop) (h0 : Pv 0 [] H) (hl : ∀ i zs H, i ≤ xs.length → Pv i zs H → SqL K H a xs ∧ zs.length < sizeLine)
    (hs : ∀ (i : Nat) x zs H p, xs[i]? = some x → Pv i zs H → H p = none → g (.ref p) σc (upd H p (.tup [.int i, x])) fun σ2 H2 => tt σ2 H2 fun c H3 => if c = true then te σ2 H3 fun z H4 => Pv (i + 1) (zs ++ [z]) H4 else Pv (i + 1) zs H3)
    (hd : ∀ zs H, Pv xs.length zs H → Fn zs H) : CompW (Ite K a) g tt te σc Fn H :=
  comp_by xs.length Pv h0 (fun i ys H hi p => (hl i ys H hi p).2) (fun i zs H hi p => ⟨xs, xs[i], (hl i zs H (Nat.le_of_lt hi) p).1, by simp [hi]⟩)
    (fun i zs H x H' hi p y => by
      obtain ⟨q, hq, rfl, y⟩ := y
      have ex : xs[i]? = some xs[i] := by simp [hi]
      rw [y xs _ (hl i zs H (Nat.le_of_lt hi) p).1 ex]
      exact hs i _ zs H q ex p hq)
    fun zs H p => ⟨⟨xs, (hl _ zs H (Nat.le_refl _) p).1, Nat.le_refl _⟩, hd zs H p⟩
end

/-! ### for over enumerate -/
theorem atI_of {α : Type} {xs : List α} {k : Int} {v : α} (h0 : 0 ≤ k) (h : xs[k.toNat]? = some v) : atI xs k = some v := by
  have e : k = ((k.toNat : Nat) : Int) := by omega
  rw [e]
  exact atI_nat h
end L2

set_option Elab.async false
set_option linter.all false
set_option maxRecDepth 100000
set_option maxHeartbeats 4000000
namespace L2
open PySem PySem.Spec PyProof.Rows
section
variable {X : Cx}
/-- either way of reading an expression -/
theorem pe_alt {e : Expr} {t u : TE} (a : PE X e t) (b : PE X e u) : PE X e (fun σ H Q => t σ H Q ∨ u σ H Q) := fun pins s σ H Q I h => h.elim (a pins s σ H Q I) (b pins s σ H Q I)
def rNotB : R2 := fun x y H Q => ∃ c d, x = .bl c ∧ y = .bl d ∧ Q (.bl (c != d)) H
theorem op_notB : OpR X (compareOp .IsNot) rNotB := by
  rintro pins s σ H x y v u Q I rx ry ⟨c, d, rfl, rfl, q⟩
  cases rx; cases ry
  exact isnot_bool ⟨.bl _, H, I, rfl, q⟩

/-! ### xs.count(b), truths -/
theorem reads_bools {h : Heap} : ∀ {bs : List Bool} {its : List Value}, Vals (bs.map V.bl) its → ReadsAll h its (bs.map PyData.bool) []
  | [], _, .nil => .nil
  | b :: bs, _, .cons r t => by
    cases r
    exact ReadsAll.cons (as := []) (bs := []) (.bool b) (reads_bools t)
theorem all_bools : ∀ bs : List Bool, (bs.map PyData.bool).all Shape.bool.has = true
  | [] => rfl
  | b :: bs => by rw [List.map_cons, List.all_cons, all_bools bs]; rfl
theorem count_bools (k : Bool) : ∀ bs : List Bool, countIn (.bool k) (bs.map PyData.bool) = ((bs.count k : Nat) : Int)
  | [] => rfl
  | b :: bs => by
    rw [List.map_cons, countIn, count_bools k bs, List.count_cons]
    show (if (b == k) = true then (1 : Int) else 0) + _ = _
    split <;> omega
def rCount (K : PySem.W.Frag) : V → List V → Hp → VK → Prop := fun x vs H Q => ∃ (l : Addr) (bs : List Bool) (k : Bool), x = .ref l ∧ vs = [.bl k] ∧ SqL K H l (bs.map V.bl) ∧ Q (.int (bs.count k : Nat)) H
theorem mt_count : MtR X "list.count" (rCount X.K) := by
  intro pins s σ H x vs v us Q I rx rv h
  obtain ⟨l, bs, k, rfl, rfl, hq, q⟩ := h
  cases rx
  obtain ⟨u, rfl, hu⟩ := rv.one
  cases hu
  obtain ⟨its, r, p, hz⟩ := I.list hq
  refine count_list_bools (hp := s.heap) p.isList (reads_bools r) (all_bools bs) ?_
  rw [count_bools]
  exact ⟨.int _, H, I.tok _, ⟨_, rfl⟩, q⟩

/-! ### C() where there is no __init__ -/
end
/-! ### rules with the written part named -/
section
variable (K : PySem.W.Frag) {X : Cx} (hK : X.K = K := by rfl)
include hK
theorem countK : MtR X "list.count" (rCount K) := by subst hK; exact mt_count
theorem pe_fldK {e : Expr} {f : Str} {ta : TE} {pos : Pos} (he : PE X e ta) (hb : attributeBase e f X.env (eval e X.env) = eval e X.env) : PE X (.Attribute e f pos) (tFld K ta f) := by subst hK; exact pe_fld he hb
def rListOf (K : PySem.W.Frag) : List V → Hp → VK → Prop := fun xs H Q => ∃ p ys, xs = [.ref p] ∧ (SqL K H p ys ∨ SqT K H p ys) ∧ ∀ l, H l = none → Q (.ref l) (upd H l (.lst ys))
theorem listK : CallR X (.type "list") (rListOf K) := by subst hK; exact call_list_of
theorem pe_slice3K {e st : Expr} {te : TE} {lo hi : Option Expr} {tl th ts : TO} {pos p2 : Pos} (he : PE X e te) (hl : PO X lo tl) (hu : PO X hi th) (hst : PO X (some st) ts) : PE X (.Subscript e (.Slice lo hi (some st) p2) pos) (tSl3 K te tl th ts) := by subst hK; exact pe_slice3 he hl hu hst
theorem pi_zipK {es : List Expr} {k : Nat} {tpos : Pos} {a b : Expr} {ta : TA} {p pos : Pos} (hg : Gl X "zip") (hm : X.mg "zip" = none) (ha : PA X [a, b] ta) (hs : starEach [a, b] X.env = [(false, eval a X.env), (false, eval b X.env)] := by rfl) (hs2 : starEach [b] X.env = [(false, eval b X.env)] := by rfl) :
    PI X (.Tuple es k tpos) (.Call (.Name "zip" p) [a, b] [] pos) (iZip K ta) := by subst hK; exact pi_zip hg hm ha hs hs2
theorem pi_enumK {es : List Expr} {k : Nat} {tpos : Pos} {a : Expr} {ta : TA} {p pos : Pos} (hg : Gl X "enumerate") (hm : X.mg "enumerate" = none) (ha : PA X [a] ta) (hs : starEach [a] X.env = [(false, eval a X.env)] := by rfl) :
    PI X (.Tuple es k tpos) (.Call (.Name "enumerate" p) [a] [] pos) (iEnum K ta) := by subst hK; exact pi_enum hg hm ha hs
end

/-! ### slices of a list, told -/
theorem pick_rev (xs : List V) : pickV xs none none (some (-1)) = xs.reverse := by
  unfold pickV
  have hb : sliceBounds none none (some (-1)) xs.length = ((xs.length : Int) - 1, -1, -1) := by
    simp [sliceBounds]
  rw [hb]
  have hr : sliceRange ((xs.length : Int) - 1) (-1) (-1) = (List.range xs.length).map fun k => xs.length - 1 - k := by
    unfold sliceRange
    have hc : (if ((-1 : Int) > 0) then (if ((xs.length : Int) - 1) < -1 then (-1 - ((xs.length : Int) - 1) + -1 - 1) / -1 else 0) else (if ((xs.length : Int) - 1) > -1 then (((xs.length : Int) - 1) - -1 - -1 - 1) / (- -1) else 0)).toNat = xs.length := by
      rw [if_neg (by decide)]
      split
      · rw [show (- -1 : Int) = 1 from rfl, Int.ediv_one]; omega
      · omega
    dsimp only
    rw [hc]
    refine List.map_congr_left fun k hk => ?_
    have := List.mem_range.mp hk
    omega
  show List.filterMap (xs[·]?) (sliceRange ((xs.length : Int) - 1) (-1) (-1)) = _
  rw [hr, List.filterMap_map]
  have key : ∀ ks : List Nat, (∀ k ∈ ks, k < xs.length) → List.filterMap ((fun x => xs[x]?) ∘ fun k => xs.length - 1 - k) ks = ks.map fun k => xs.getD (xs.length - 1 - k) V.non := by
    intro ks
    induction ks with
    | nil => intro _; rfl
    | cons k ks ih =>
      intro h
      have hk := h k List.mem_cons_self
      have e : ((fun x => xs[x]?) ∘ fun k => xs.length - 1 - k) k = some (xs.getD (xs.length - 1 - k) V.non) := by
        show xs[xs.length - 1 - k]? = _
        rw [List.getD_eq_getElem?_getD]
        have : xs.length - 1 - k < xs.length := by omega
        simp [this]
      rw [List.filterMap_cons_some e, List.map_cons, ih fun k hk => h k (List.mem_cons_of_mem _ hk)]
  rw [key _ fun k hk => List.mem_range.mp hk]
  apply List.ext_getElem?
  intro i
  by_cases hi : i < xs.length
  · rw [List.getElem?_map, List.getElem?_range hi, List.getElem?_reverse hi]
    show some (xs.getD (xs.length - 1 - i) V.non) = _
    have : xs.length - 1 - i < xs.length := by omega
    rw [List.getD_eq_getElem?_getD]
    simp [this]
  · rw [List.getElem?_eq_none (by rw [List.length_map, List.length_range]; omega), List.getElem?_eq_none (by rw [List.length_reverse]; omega)]
end L2

set_option Elab.async false
set_option linter.all false
set_option maxRecDepth 100000
set_option maxHeartbeats 4000000
namespace L2
open PySem PySem.Spec PyProof.Rows
section
variable {X : Cx}
/-! ### an empty dict, a range, a list of it -/
end
end L2

set_option Elab.async false
set_option linter.all false
set_option maxRecDepth 100000
set_option maxHeartbeats 4000000
namespace Srt
open PySem PyProof.Rows
/-- how two items are compared: without a change of the state, by a weak order -/
structure Cmp (M : Model) (A : Around) (E : Value → Shared → Prop) (s : Shared) (κ : SortKind) (lt : Keyed → Keyed → Bool) (ok : Keyed → Prop) : Prop where
  run : ∀ (st : SortSt) (Q : Option Bool → SortSt → Prop) (x y : Keyed), kindOf st = κ → ok x → ok y → Q (some (lt x y)) st → wpS M A E s (lt' x y) Q st
  asym : ∀ x y, lt x y = true → lt y x = false
  trans : ∀ x y z, lt y x = false → lt z y = false → lt z x = false
abbrev mkS (κ : SortKind) (a : Array Keyed) (p : Array (Nat × Nat × Nat)) (g : Nat) : SortSt := SortSt.mk' κ a p g none
section
variable {M : Model} {A : Around} {E : Value → Shared → Prop} {s : Shared} {κ : SortKind} {lt : Keyed → Keyed → Bool} {ok : Keyed → Prop}
theorem Cmp.refl (C : Cmp M A E s κ lt ok) (x : Keyed) : lt x x = false := by
  cases h : lt x x with
  | false => rfl
  | true => rw [← h]; exact C.asym x x h
/-- all of them may be compared -/
def AllOk (ok : Keyed → Prop) (a : Array Keyed) : Prop := ∀ (i : Nat) x, a[i]? = some x → ok x
theorem wpS_elem {arr : Array Keyed} {i : Nat} {x : Keyed} {st : SortSt} {Q : Keyed → SortSt → Prop} (h : arr[i]? = some x) (q : Q x st) : wpS M A E s (elem' arr i) Q st := by
  rw [elem'_eq, h]
  exact wpS_pure q
theorem wpS_at (C : Cmp M A E s κ lt ok) {a : Array Keyed} {p : Array (Nat × Nat × Nat)} {g : Nat} {i j : Nat} {Q : Option Bool → SortSt → Prop} (ho : AllOk ok a) {x y : Keyed} (hi : a[i]? = some x) (hj : a[j]? = some y)
    (q : Q (some (lt x y)) (mkS κ a p g)) : wpS M A E s (ltAt' i j) Q (mkS κ a p g) := by
  rw [ltAt'_eq]
  refine wpS_bind (wpS_get ?_)
  refine wpS_bind (wpS_elem hi (wpS_bind (wpS_elem hj ?_)))
  exact C.run _ _ x y rfl (ho i x hi) (ho j y hj) q
/-- rising from lo to below hi -/
def Up (lt : Keyed → Keyed → Bool) (a : Array Keyed) (lo hi : Nat) : Prop := ∀ (i j : Nat) x y, lo ≤ i → i ≤ j → j < hi → a[i]? = some x → a[j]? = some y → lt y x = false
def Down (lt : Keyed → Keyed → Bool) (a : Array Keyed) (lo hi : Nat) : Prop := ∀ (i j : Nat) x y, lo ≤ i → i ≤ j → j < hi → a[i]? = some x → a[j]? = some y → lt x y = false
theorem Up.one (C : Cmp M A E s κ lt ok) (a : Array Keyed) (lo : Nat) : Up lt a lo (lo + 1) := fun i j x y h1 h2 h3 e1 e2 => by
  have : i = j := by omega
  subst this
  rw [e1] at e2
  cases e2
  exact C.refl x
theorem at_lt {a : Array Keyed} {i : Nat} (h : i < a.size) : ∃ x, a[i]? = some x := ⟨a[i], by simp [h]⟩
theorem Up.snoc (C : Cmp M A E s κ lt ok) {a : Array Keyed} {lo hi : Nat} (h : Up lt a lo hi) (h1 : lo < hi) (hz : hi < a.size) (n : ∀ x y, a[hi - 1]? = some x → a[hi]? = some y → lt y x = false) : Up lt a lo (hi + 1) := fun i j x y a1 a2 a3 e1 e2 => by
  by_cases c : j < hi
  · exact h i j x y a1 a2 c e1 e2
  · have : j = hi := by omega
    subst this
    by_cases c2 : i = j
    · subst c2
      rw [e1] at e2
      cases e2
      exact C.refl x
    · obtain ⟨z, hzz⟩ := at_lt (a := a) (i := j - 1) (by omega)
      exact C.trans x z y (h i (j - 1) x z a1 (by omega) (by omega) e1 hzz) (n z y hzz e2)
theorem Down.snoc (C : Cmp M A E s κ lt ok) {a : Array Keyed} {lo hi : Nat} (h : Down lt a lo hi) (h1 : lo < hi) (hz : hi < a.size) (n : ∀ x y, a[hi - 1]? = some x → a[hi]? = some y → lt x y = false) : Down lt a lo (hi + 1) := fun i j x y a1 a2 a3 e1 e2 => by
  by_cases c : j < hi
  · exact h i j x y a1 a2 c e1 e2
  · have : j = hi := by omega
    subst this
    by_cases c2 : i = j
    · subst c2
      rw [e1] at e2
      cases e2
      exact C.refl x
    · obtain ⟨z, hzz⟩ := at_lt (a := a) (i := j - 1) (by omega)
      exact C.trans y z x (n z y hzz e2) (h i (j - 1) x z a1 (by omega) (by omega) e1 hzz)
/-- turned round -/
abbrev rev (a : Array Keyed) (i j : Nat) : Array Keyed := mirror a i j ((j - i) / 2)
theorem rev_get {a : Array Keyed} {i j : Nat} (hj : j ≤ a.size) (k : Nat) : (rev a i j)[k]? = if i ≤ k ∧ k < j then a[i + j - 1 - k]? else a[k]? := getElem?_mirror_all hj k
theorem Down.rev {a : Array Keyed} {lo hi : Nat} (h : Down lt a lo hi) (hz : hi ≤ a.size) : Up lt (rev a lo hi) lo hi := fun i j x y a1 a2 a3 e1 e2 => by
  rw [rev_get hz, if_pos ⟨a1, by omega⟩] at e1
  rw [rev_get hz, if_pos ⟨by omega, a3⟩] at e2
  exact h _ _ y x (by omega) (by omega) (by omega) e2 e1
/-- a block of equal ones turned round leaves what falls falling -/
theorem Down.revEq (C : Cmp M A E s κ lt ok) {a : Array Keyed} {lo m hi : Nat} (h : Down lt a lo hi) (hz : hi ≤ a.size) (hm : lo ≤ m) (hmh : m < hi) (e : ∀ (i : Nat) x y, m ≤ i → i < hi → a[i]? = some x → a[hi - 1]? = some y → lt y x = false) : Down lt (Srt.rev a m hi) lo hi := by
  have eq : ∀ (i j : Nat) x y, m ≤ i → i < hi → m ≤ j → j < hi → a[i]? = some x → a[j]? = some y → lt x y = false := fun i j x y i1 i2 j1 j2 ex ey => by
    obtain ⟨z, hzz⟩ := at_lt (a := a) (i := hi - 1) (by omega)
    exact C.trans y z x (e j y z j1 j2 ey hzz) (h i (hi - 1) x z (by omega) (by omega) (by omega) ex hzz)
  intro i j x y a1 a2 a3 e1 e2
  rw [rev_get hz] at e1 e2
  by_cases c1 : m ≤ i ∧ i < hi
  · rw [if_pos c1] at e1
    rw [if_pos ⟨by omega, by omega⟩] at e2
    exact eq _ _ x y (by omega) (by omega) (by omega) (by omega) e1 e2
  · rw [if_neg c1] at e1
    by_cases c2 : m ≤ j ∧ j < hi
    · rw [if_pos c2] at e2
      exact h i _ x y a1 (by omega) (by omega) e1 e2
    · rw [if_neg c2] at e2
      exact h i j x y a1 a2 a3 e1 e2
theorem AllOk.perm {a b : Array Keyed} (h : AllOk ok a) (p : b.Perm a) : AllOk ok b := fun i x e => by
  have hm : x ∈ a := p.mem_iff.mp (Array.mem_of_getElem? e)
  obtain ⟨j, hj⟩ := Array.getElem?_of_mem hm
  exact h j x hj
/-- b is a, other between lo and hi alone -/
structure Within (a b : Array Keyed) (lo hi : Nat) : Prop where
  perm : b.Perm a
  out : ∀ k : Nat, (k < lo ∨ hi ≤ k) → b[k]? = a[k]?
theorem Within.refl (a : Array Keyed) (lo hi : Nat) : Within a a lo hi := ⟨Array.Perm.refl _, fun _ _ => rfl⟩
theorem Within.trans {a b c : Array Keyed} {lo hi : Nat} (h1 : Within a b lo hi) (h2 : Within b c lo hi) : Within a c lo hi := ⟨h2.perm.trans h1.perm, fun k hk => (h2.out k hk).trans (h1.out k hk)⟩
theorem Within.mono {a b : Array Keyed} {lo hi lo' hi' : Nat} (h : Within a b lo hi) (h1 : lo' ≤ lo) (h2 : hi ≤ hi') : Within a b lo' hi' := ⟨h.perm, fun k hk => h.out k (by omega)⟩
theorem Within.rev {a : Array Keyed} {lo hi : Nat} (hz : hi ≤ a.size) : Within a (Srt.rev a lo hi) lo hi := ⟨mirror_perm _ _ _ _, fun k hk => by rw [rev_get hz, if_neg (by omega)]⟩
theorem Within.size {a b : Array Keyed} {lo hi : Nat} (h : Within a b lo hi) : b.size = a.size := h.perm.size_eq
theorem wpS_rev {a : Array Keyed} {p : Array (Nat × Nat × Nat)} {g i j : Nat} {Q : Unit → SortSt → Prop} (h : Q () (mkS κ (rev a i j) p g)) : wpS M A E s (reverseSlice' i j) Q (mkS κ a p g) := by
  rw [reverseSlice'_eq]
  exact wpS_modify h
/-! ### countRun -/
end
end Srt

set_option Elab.async false
set_option linter.all false
set_option maxRecDepth 100000
set_option maxHeartbeats 4000000
namespace Srt
open PySem PyProof.Rows
section
variable {M : Model} {A : Around} {E : Value → Shared → Prop} {s : Shared} {κ : SortKind} {lt : Keyed → Keyed → Bool} {ok : Keyed → Prop}
/-- a rising run, whatever the loop's body is written like -/
theorem run_asc2 (C : Cmp M A E s κ lt ok) {a : Array Keyed} {p : Array (Nat × Nat × Nat)} {g lo nrem n0 : Nat} {Q : Option (Option Nat) × Nat → SortSt → Prop} {f : Nat → Option (Option Nat) × Nat → StateT SortSt Sem (ForInStep (Option (Option Nat) × Nat))} (ho : AllOk ok a) (hz : lo + nrem ≤ a.size) (h1 : 1 ≤ n0) (h2 : n0 ≤ nrem) (up : Up lt a lo (lo + n0))
    (hf : ∀ (i n : Nat) (st : SortSt) (R : ForInStep (Option (Option Nat) × Nat) → SortSt → Prop), wpS M A E s (ltAt' (lo + n) (lo + n - 1)) (fun r st' => match r with | some true => R (.done (none, n)) st' | some false => R (.yield (none, n + 1)) st' | none => R (.done (some none, n)) st') st → wpS M A E s (f i (none, n)) R st)
    (q : ∀ n, n0 ≤ n → n ≤ nrem → Up lt a lo (lo + n) → (n < nrem → ∀ x y, a[lo + n - 1]? = some x → a[lo + n]? = some y → lt y x = true) → Q (none, n) (mkS κ a p g)) :
    wpS M A E s (forIn [n0:nrem] ((none, n0) : Option (Option Nat) × Nat) f) Q (mkS κ a p g) := by
  refine wpS_forRange (fun i c st => st = mkS κ a p g ∧ c = (none, i) ∧ n0 ≤ i ∧ i ≤ nrem ∧ Up lt a lo (lo + i)) ?_ ?_ ⟨rfl, rfl, Nat.le_refl _, h2, up⟩
  · rintro i c st _ hi ⟨rfl, rfl, i1, i2, u⟩
    obtain ⟨x, hx⟩ := at_lt (a := a) (i := lo + i) (by omega)
    obtain ⟨y, hy⟩ := at_lt (a := a) (i := lo + i - 1) (by omega)
    refine hf i i _ _ (wpS_at C ho hx hy ?_)
    cases hb : lt x y with
    | true =>
      refine q i i1 i2 u fun _ x' y' e1 e2 => ?_
      rw [hy] at e1; rw [hx] at e2; cases e1; cases e2
      exact hb
    | false =>
      refine ⟨rfl, rfl, by omega, by omega, ?_⟩
      show Up lt a lo (lo + i + 1)
      refine Up.snoc C u (by omega) (by omega) fun x' y' e1 e2 => ?_
      rw [hy] at e1; rw [hx] at e2; cases e1; cases e2
      exact hb
  · rintro c st ⟨rfl, rfl, i1, i2, u⟩
    have e : max n0 nrem = nrem := by omega
    rw [e] at i1 u ⊢
    exact q nrem i1 (Nat.le_refl _) u fun h => absurd h (Nat.lt_irrefl _)
/-- a falling run -/
theorem run_desc (C : Cmp M A E s κ lt ok) {a : Array Keyed} {p : Array (Nat × Nat × Nat)} {g lo nrem n0 : Nat} {Q : Option (Option Nat) × Nat × Nat → SortSt → Prop} {f : Nat → Option (Option Nat) × Nat × Nat → StateT SortSt Sem (ForInStep (Option (Option Nat) × Nat × Nat))} (ho : AllOk ok a) (hz : lo + nrem ≤ a.size) (h1 : 1 ≤ n0) (h2 : n0 ≤ nrem) (dn : Down lt a lo (lo + n0))
    (hf : ∀ (i n e : Nat) (st : SortSt) (R : ForInStep (Option (Option Nat) × Nat × Nat) → SortSt → Prop), wpS M A E s (ltAt' (lo + n) (lo + n - 1)) (fun r st' => match r with
      | some true => if e > 0 then wpS M A E s (reverseSlice' (lo + n - (e + 1)) (lo + n)) (fun _ st2 => R (.yield (none, n + 1, 0)) st2) st' else R (.yield (none, n + 1, 0)) st'
      | some false => wpS M A E s (ltAt' (lo + n - 1) (lo + n)) (fun r2 st2 => match r2 with | some true => R (.done (none, n, e)) st2 | some false => R (.yield (none, n + 1, e + 1)) st2 | none => R (.done (some none, n, e)) st2) st'
      | none => R (.done (some none, n, e)) st') st → wpS M A E s (f i (none, n, e)) R st)
    (q : ∀ n e a', n0 ≤ n → n ≤ nrem → e < n → Within a a' lo (lo + nrem) → Down lt a' lo (lo + n) → (∀ (i : Nat) x y, lo + n - (e + 1) ≤ i → i < lo + n → a'[i]? = some x → a'[lo + n - 1]? = some y → lt y x = false) → Q (none, n, e) (mkS κ a' p g)) :
    wpS M A E s (forIn [n0:nrem] ((none, n0, 0) : Option (Option Nat) × Nat × Nat) f) Q (mkS κ a p g) := by
  refine wpS_forRange (fun i c st => ∃ a' e, st = mkS κ a' p g ∧ c = (none, i, e) ∧ n0 ≤ i ∧ i ≤ nrem ∧ e < i ∧ Within a a' lo (lo + nrem) ∧ Down lt a' lo (lo + i) ∧ ∀ (j : Nat) x y, lo + i - (e + 1) ≤ j → j < lo + i → a'[j]? = some x → a'[lo + i - 1]? = some y → lt y x = false) ?_ ?_
    ⟨a, 0, rfl, rfl, Nat.le_refl _, h2, by omega, Within.refl _ _ _, dn, fun j x y j1 j2 ex ey => ?_⟩
  · rintro i c st _ hi ⟨a', e, rfl, rfl, i1, i2, ei, w, d, eq⟩
    have hz' : lo + nrem ≤ a'.size := by rw [w.size]; exact hz
    have ho' := ho.perm w.perm
    obtain ⟨x, hx⟩ := at_lt (a := a') (i := lo + i) (by omega)
    obtain ⟨y, hy⟩ := at_lt (a := a') (i := lo + i - 1) (by omega)
    refine hf i i e _ _ (wpS_at C ho' hx hy ?_)
    cases hb : lt x y with
    | true =>
      have asy := C.asym x y hb
      have one : ∀ (b : Array Keyed) (j : Nat) u v, lo + (i + 1) - (0 + 1) ≤ j → j < lo + (i + 1) → b[j]? = some u → b[lo + (i + 1) - 1]? = some v → lt v u = false := fun b j u v j1 j2 ex ey => by
        have : j = lo + (i + 1) - 1 := by omega
        subst this
        rw [ex] at ey
        cases ey
        exact C.refl u
      by_cases he : e > 0
      · refine (if_pos he).mpr (wpS_rev ?_)
        have dn3 := d.revEq C (m := lo + i - (e + 1)) (by omega) (by omega) (by omega) eq
        have wr := Within.rev (a := a') (lo := lo + i - (e + 1)) (hi := lo + i) (by omega)
        refine ⟨_, 0, rfl, rfl, by omega, by omega, by omega, w.trans (wr.mono (by omega) (by omega)), ?_, one _⟩
        show Down lt _ lo (lo + i + 1)
        refine Down.snoc C dn3 (by omega) (by rw [wr.size]; omega) fun u v eu ev => ?_
        rw [wr.out _ (Or.inr (Nat.le_refl _)), hx] at ev
        cases ev
        rw [rev_get (by omega), if_pos ⟨by omega, by omega⟩] at eu
        have key : ∀ j : Nat, lo ≤ j → j ≤ lo + i - 1 → a'[j]? = some u → lt u x = false := fun j j1 j2 ej => C.trans x y u asy (d j (lo + i - 1) u y j1 j2 (by omega) ej hy)
        exact key _ (by omega) (by omega) eu
      · refine (if_neg he).mpr ⟨a', 0, rfl, rfl, by omega, by omega, by omega, w, ?_, one _⟩
        show Down lt _ lo (lo + i + 1)
        refine Down.snoc C d (by omega) (by omega) fun u v eu ev => ?_
        rw [hy] at eu; rw [hx] at ev; cases eu; cases ev
        exact asy
    | false =>
      refine wpS_at C ho' hy hx ?_
      cases hb2 : lt y x with
      | true => exact q i e a' i1 i2 ei w d eq
      | false =>
        refine ⟨a', e + 1, rfl, rfl, by omega, by omega, by omega, w, ?_, fun j u v j1 j2 eu ev => ?_⟩
        · show Down lt _ lo (lo + i + 1)
          refine Down.snoc C d (by omega) (by omega) fun u v eu ev => ?_
          rw [hy] at eu; rw [hx] at ev; cases eu; cases ev
          exact hb2
        · have e1 : lo + (i + 1) - 1 = lo + i := by omega
          rw [e1, hx] at ev
          cases ev
          by_cases cj : j = lo + i
          · subst cj
            rw [hx] at eu
            cases eu
            exact C.refl x
          · exact C.trans u y x (eq j u y (by omega) (by omega) eu hy) hb
  · rintro c st ⟨a', e, rfl, rfl, i1, i2, ei, w, d, eq⟩
    have e1 : max n0 nrem = nrem := by omega
    rw [e1] at i1 ei d eq ⊢
    exact q nrem e a' i1 (Nat.le_refl _) ei w d eq
  · have : j = lo + n0 - 1 := by omega
    subst this
    rw [ex] at ey
    cases ey
    exact C.refl x
theorem Up.rev {a : Array Keyed} {lo hi : Nat} (h : Up lt a lo hi) (hz : hi ≤ a.size) : Down lt (Srt.rev a lo hi) lo hi := fun i j x y a1 a2 a3 e1 e2 => by
  rw [rev_get hz, if_pos ⟨a1, by omega⟩] at e1
  rw [rev_get hz, if_pos ⟨by omega, a3⟩] at e2
  exact h _ _ y x (by omega) (by omega) (by omega) e2 e1
/-- a run is counted, turned round if it falls -/
theorem wpS_count (C : Cmp M A E s κ lt ok) {a : Array Keyed} {p : Array (Nat × Nat × Nat)} {g lo nrem : Nat} {Q : Option Nat → SortSt → Prop} (ho : AllOk ok a) (hz : lo + nrem ≤ a.size) (h1 : 1 ≤ nrem)
    (q : ∀ n a', 1 ≤ n → n ≤ nrem → Within a a' lo (lo + nrem) → Up lt a' lo (lo + n) → Q (some n) (mkS κ a' p g)) : wpS M A E s (countRun' lo nrem) Q (mkS κ a p g) := by
  rw [countRun'_eq]
  dsimp only
  refine wpS_bind (run_asc2 C ho hz (Nat.le_refl 1) h1 (Up.one C a lo) (fun i n st R h => wpS_bind (wpS_mono h fun r st' hr => ?_)) fun n n1 n2 up stop => ?_)
  · cases r with
    | none => exact wpS_pure hr
    | some c => cases c with
      | true => exact wpS_pure hr
      | false => exact wpS_pure hr
  · dsimp only
    by_cases hn : n = nrem
    · rw [if_pos (by simp [hn])]
      exact wpS_pure (q n a n1 n2 (Within.refl _ _ _) up)
    · rw [if_neg (by simpa using hn)]
      obtain ⟨x, hx⟩ := at_lt (a := a) (i := lo) (by omega)
      obtain ⟨y, hy⟩ := at_lt (a := a) (i := lo + n - 1) (by omega)
      obtain ⟨v, hv⟩ := at_lt (a := a) (i := lo + n) (by omega)
      have hvy := stop (by omega) y v hy hv
      by_cases hg : n > 1
      · rw [if_pos hg]
        refine wpS_bind (wpS_at C ho hx hy ?_)
        dsimp only
        cases hb : lt x y with
        | true =>
          rw [if_pos rfl]
          exact wpS_pure (q n a n1 n2 (Within.refl _ _ _) up)
        | false =>
          rw [if_neg Bool.false_ne_true]
          refine wpS_bind (wpS_rev ?_)
          -- all of them are equal
          have w1 := (Within.rev (a := a) (lo := lo) (hi := lo + n) (by omega)).mono (Nat.le_refl lo) (show lo + n ≤ lo + nrem by omega)
          have dn : Down lt (rev a lo (lo + n)) lo (lo + (n + 1)) := by
            refine Down.snoc C (hi := lo + n) (up.rev (by omega)) (by omega) (by rw [w1.size]; omega) fun u w eu ew => ?_
            rw [rev_get (by omega), if_pos ⟨by omega, by omega⟩] at eu
            have e2 : lo + (lo + n) - 1 - (lo + n - 1) = lo := by omega
            rw [e2, hx] at eu
            rw [rev_get (by omega), if_neg (by omega), hv] at ew
            cases eu; cases ew
            exact C.trans _ _ _ (C.asym _ _ hvy) hb
          refine wpS_bind (wpS_lift (wpAny_rule ⟨rfl, ?_⟩))
          refine wpS_bind (run_desc C (ho.perm w1.perm) (by rw [w1.size]; exact hz) (by omega) (by omega) dn (fun i k e st R h => wpS_bind (wpS_mono h fun r st' hr => ?_)) fun m e a2 m1 m2 em w2 dn2 eq2 => ?_)
          · cases r with
            | none => exact wpS_pure hr
            | some c => cases c with
              | true =>
                by_cases he : e > 0
                · have hr' := (if_pos he).mp hr
                  dsimp only
                  rw [if_pos rfl, if_pos he]
                  exact wpS_bind (wpS_mono hr' fun _ _ z => wpS_pure z)
                · have hr' := (if_neg he).mp hr
                  dsimp only
                  rw [if_pos rfl, if_neg he]
                  exact wpS_pure hr'
              | false =>
                dsimp only
                rw [if_neg Bool.false_ne_true]
                refine wpS_bind (wpS_mono hr fun r2 st2 hr2 => ?_)
                cases r2 with
                | none => exact wpS_pure hr2
                | some c2 => cases c2 with
                  | true => exact wpS_pure hr2
                  | false => exact wpS_pure hr2
          · dsimp only
            have hz2 : lo + m ≤ a2.size := by rw [w2.size, w1.size]; omega
            by_cases he : e > 0
            · rw [if_pos he]
              refine wpS_bind (wpS_rev (wpS_bind (wpS_rev ?_)))
              have dn3 := dn2.revEq C (m := lo + m - (e + 1)) hz2 (by omega) (by omega) (fun i x y i1 i2 ex ey => eq2 i x y (by omega) i2 ex ey)
              have wr := Within.rev (a := a2) (lo := lo + m - (e + 1)) (hi := lo + m) hz2
              have up3 := dn3.rev (by rw [wr.size]; exact hz2)
              have w3 := (w1.trans w2).trans ((wr.mono (by omega) (by omega)).trans ((Within.rev (lo := lo) (hi := lo + m) (by rw [wr.size]; exact hz2)).mono (Nat.le_refl _) (by omega)))
              refine wpS_bind (run_asc2 C (ho.perm w3.perm) (by rw [w3.size]; exact hz) (by omega) m2 up3 (fun i k st R h => wpS_bind (wpS_mono h fun r st' hr => ?_)) fun k k1 k2 up stop => ?_)
              · cases r with
                | none => exact wpS_pure hr
                | some c => cases c with
                  | true => exact wpS_pure hr
                  | false => exact wpS_pure hr
              · dsimp only
                exact wpS_pure (q k _ (by omega) k2 w3 up)
            · rw [if_neg he]
              refine wpS_bind (wpS_rev ?_)
              have up3 := dn2.rev hz2
              have w3 := (w1.trans w2).trans ((Within.rev (a := a2) (lo := lo) (hi := lo + m) hz2).mono (Nat.le_refl _) (by omega))
              refine wpS_bind (run_asc2 C (ho.perm w3.perm) (by rw [w3.size]; exact hz) (by omega) m2 up3 (fun i k st R h => wpS_bind (wpS_mono h fun r st' hr => ?_)) fun k k1 k2 up stop => ?_)
              · cases r with
                | none => exact wpS_pure hr
                | some c => cases c with
                  | true => exact wpS_pure hr
                  | false => exact wpS_pure hr
              · dsimp only
                exact wpS_pure (q k _ (by omega) k2 w3 up)
      · rw [if_neg hg]
        have e1 : n = 1 := by omega
        subst e1
        have w1 := Within.refl a lo (lo + nrem)
        have dn : Down lt a lo (lo + (1 + 1)) := by
          refine Down.snoc C (hi := lo + 1) (fun i j u w i1 i2 i3 eu ew => ?_) (by omega) (by omega) fun u w eu ew => ?_
          · have : i = j := by omega
            subst this
            rw [eu] at ew
            cases ew
            exact C.refl u
          · have e2 : lo + 1 - 1 = lo := by omega
            rw [e2] at eu hy
            rw [hy] at eu; rw [hv] at ew; cases eu; cases ew
            exact C.asym _ _ hvy
        refine wpS_bind (wpS_lift (wpAny_rule ⟨rfl, ?_⟩))
        refine wpS_bind (run_desc C (ho.perm w1.perm) (by rw [w1.size]; exact hz) (by omega) (by omega) dn (fun i k e st R h => wpS_bind (wpS_mono h fun r st' hr => ?_)) fun m e a2 m1 m2 em w2 dn2 eq2 => ?_)
        · cases r with
          | none => exact wpS_pure hr
          | some c => cases c with
            | true =>
              by_cases he : e > 0
              · have hr' := (if_pos he).mp hr
                dsimp only
                rw [if_pos rfl, if_pos he]
                exact wpS_bind (wpS_mono hr' fun _ _ z => wpS_pure z)
              · have hr' := (if_neg he).mp hr
                dsimp only
                rw [if_pos rfl, if_neg he]
                exact wpS_pure hr'
            | false =>
              dsimp only
              rw [if_neg Bool.false_ne_true]
              refine wpS_bind (wpS_mono hr fun r2 st2 hr2 => ?_)
              cases r2 with
              | none => exact wpS_pure hr2
              | some c2 => cases c2 with
                | true => exact wpS_pure hr2
                | false => exact wpS_pure hr2
        · dsimp only
          have hz2 : lo + m ≤ a2.size := by rw [w2.size, w1.size]; omega
          by_cases he : e > 0
          · rw [if_pos he]
            refine wpS_bind (wpS_rev (wpS_bind (wpS_rev ?_)))
            have dn3 := dn2.revEq C (m := lo + m - (e + 1)) hz2 (by omega) (by omega) (fun i x y i1 i2 ex ey => eq2 i x y (by omega) i2 ex ey)
            have wr := Within.rev (a := a2) (lo := lo + m - (e + 1)) (hi := lo + m) hz2
            have up3 := dn3.rev (by rw [wr.size]; exact hz2)
            have w3 := (w1.trans w2).trans ((wr.mono (by omega) (by omega)).trans ((Within.rev (lo := lo) (hi := lo + m) (by rw [wr.size]; exact hz2)).mono (Nat.le_refl _) (by omega)))
            refine wpS_bind (run_asc2 C (ho.perm w3.perm) (by rw [w3.size]; exact hz) (by omega) m2 up3 (fun i k st R h => wpS_bind (wpS_mono h fun r st' hr => ?_)) fun k k1 k2 up stop => ?_)
            · cases r with
              | none => exact wpS_pure hr
              | some c => cases c with
                | true => exact wpS_pure hr
                | false => exact wpS_pure hr
            · dsimp only
              exact wpS_pure (q k _ (by omega) k2 w3 up)
          · rw [if_neg he]
            refine wpS_bind (wpS_rev ?_)
            have up3 := dn2.rev hz2
            have w3 := (w1.trans w2).trans ((Within.rev (a := a2) (lo := lo) (hi := lo + m) hz2).mono (Nat.le_refl _) (by omega))
            refine wpS_bind (run_asc2 C (ho.perm w3.perm) (by rw [w3.size]; exact hz) (by omega) m2 up3 (fun i k st R h => wpS_bind (wpS_mono h fun r st' hr => ?_)) fun k k1 k2 up stop => ?_)
            · cases r with
              | none => exact wpS_pure hr
              | some c => cases c with
                | true => exact wpS_pure hr
                | false => exact wpS_pure hr
            · dsimp only
              exact wpS_pure (q k _ (by omega) k2 w3 up)
end
end Srt

set_option Elab.async false
set_option linter.all false
set_option maxRecDepth 100000
set_option maxHeartbeats 4000000
namespace Srt
open PySem PyProof.Rows
def ga (a : Array Keyed) (i : Nat) : Keyed := (a[i]?).getD (Value.none, Value.none)
theorem ga_some {a : Array Keyed} {i : Nat} (h : i < a.size) : a[i]? = some (ga a i) := by
  unfold ga
  rw [Array.getElem?_eq_getElem h]
  rfl
theorem ga_of {a : Array Keyed} {i : Nat} {x : Keyed} (h : a[i]? = some x) : ga a i = x := by unfold ga; rw [h]; rfl
section
variable {M : Model} {A : Around} {E : Value → Shared → Prop} {s : Shared} {κ : SortKind} {lt : Keyed → Keyed → Bool} {ok : Keyed → Prop}
/-- a search by halves, whatever the loop's body is written like -/
theorem bisect {β : Type} {f : Nat → Option β × Nat × Nat → StateT SortSt Sem (ForInStep (Option β × Nat × Nat))} {st : SortSt} {P : Nat → Bool} {l0 r0 N : Nat} {Q : Option β × Nat × Nat → SortSt → Prop}
    (hf : ∀ (i l r : Nat) (R : ForInStep (Option β × Nat × Nat) → SortSt → Prop), l < r → l0 ≤ l → r ≤ r0 → (∀ m, l ≤ m → m < r → (P m = true → R (.yield (none, m + 1, r)) st) ∧ (P m = false → R (.yield (none, l, m)) st)) → wpS M A E s (f i (none, l, r)) R st)
    (hd : ∀ (i l r : Nat) (R : ForInStep (Option β × Nat × Nat) → SortSt → Prop), ¬ l < r → R (.done (none, l, r)) st → wpS M A E s (f i (none, l, r)) R st)
    (mono : ∀ i j, l0 ≤ i → i ≤ j → j < r0 → P j = true → P i = true) (hN : r0 - l0 ≤ N) (h0 : l0 ≤ r0)
    (q : ∀ k, l0 ≤ k → k ≤ r0 → (∀ j, l0 ≤ j → j < k → P j = true) → (∀ j, k ≤ j → j < r0 → P j = false) → Q (none, k, k) st) : wpS M A E s (forIn [0:N] ((none, l0, r0) : Option β × Nat × Nat) f) Q st := by
  refine wpS_forRange (fun i c st' => ∃ l r, st' = st ∧ c = (none, l, r) ∧ l0 ≤ l ∧ l ≤ r ∧ r ≤ r0 ∧ (i ≤ N → r - l ≤ N - i) ∧ (∀ j, l0 ≤ j → j < l → P j = true) ∧ (∀ j, r ≤ j → j < r0 → P j = false)) ?_ ?_
    ⟨l0, r0, rfl, rfl, Nat.le_refl _, h0, Nat.le_refl _, fun _ => by omega, fun j j1 j2 => by omega, fun j j1 j2 => by omega⟩
  · rintro i c st' _ hi ⟨l, r, rfl, rfl, a1, a2, a3, a4, a5, a6⟩
    by_cases hlr : l < r
    · refine hf i l r _ hlr a1 a3 fun m m1 m2 => ⟨fun hp => ?_, fun hp => ?_⟩
      · refine ⟨m + 1, r, rfl, rfl, by omega, by omega, a3, fun _ => by have := a4 (by omega); omega, fun j j1 j2 => ?_, a6⟩
        exact mono j m j1 (by omega) (by omega) hp
      · refine ⟨l, m, rfl, rfl, a1, m1, by omega, fun _ => by have := a4 (by omega); omega, a5, fun j j1 j2 => ?_⟩
        cases hj : P j with
        | false => rfl
        | true => rw [mono m j (by omega) j1 j2 hj] at hp; exact hp
    · have e : l = r := by omega
      subst e
      exact hd i l l _ hlr (q l a1 a3 a5 a6)
  · rintro c st' ⟨l, r, rfl, rfl, a1, a2, a3, a4, a5, a6⟩
    have e : l = r := by
      have := a4 (by omega)
      omega
    subst e
    exact q l a1 a3 a5 a6
theorem bub_get {a : Array Keyed} {src d : Nat} (hs : src < a.size) (hd : d ≤ src) (k : Nat) : (bubble a src d)[k]? = if k = src - d then a[src]? else if src - d < k ∧ k ≤ src then a[k - 1]? else a[k]? := getElem?_bubble hs d hd k
theorem wpS_move {a : Array Keyed} {p : Array (Nat × Nat × Nat)} {g i j : Nat} {Q : Unit → SortSt → Prop} (h : Q () (mkS κ (bubble a i (i - j)) p g)) : wpS M A E s (moveDown' i j) Q (mkS κ a p g) := by
  rw [moveDown'_eq]
  exact wpS_modify h
/-- put in by halves -/
theorem wpS_bin (C : Cmp M A E s κ lt ok) {a : Array Keyed} {p : Array (Nat × Nat × Nat)} {g lo n m : Nat} {Q : Bool → SortSt → Prop} (ho : AllOk ok a) (hz : lo + n ≤ a.size) (h1 : 1 ≤ m) (hm : m ≤ n) (up : Up lt a lo (lo + m))
    (q : ∀ a', Within a a' lo (lo + n) → Up lt a' lo (lo + n) → Q true (mkS κ a' p g)) : wpS M A E s (binarySort' lo n m) Q (mkS κ a p g) := by
  rw [binarySort'_eq]
  dsimp only
  refine wpS_bind (wpS_mono (wpS_forRange (fun k c st => c = (none, ()) ∧ k ≤ max m n ∧ ∃ a', st = mkS κ a' p g ∧ Within a a' lo (lo + n) ∧ Up lt a' lo (lo + k)) (Q := fun c st => c = (none, ()) ∧ ∃ a', st = mkS κ a' p g ∧ Within a a' lo (lo + n) ∧ Up lt a' lo (lo + n)) ?_ ?_ ⟨rfl, by omega, a, rfl, Within.refl _ _ _, by rw [Nat.max_eq_left h1]; exact up⟩) ?_)
  · rintro k c st k1 k2 ⟨rfl, _, a', rfl, w, u⟩
    have ho' := ho.perm w.perm
    have hz' : lo + n ≤ a'.size := by rw [w.size]; exact hz
    have hk1 : 1 ≤ k := by omega
    have hx := ga_some (a := a') (i := lo + k) (by omega)
    refine wpS_bind (bisect (P := fun j => !lt (ga a' (lo + k)) (ga a' (lo + j))) (l0 := 0) (r0 := k) (fun i l r R hlr _ hr h => ?_) (fun i l r R hlr h => ?_) (fun i j _ hij hj hp => ?_) (by omega) (Nat.zero_le _) fun t _ t2 before after => ?_)
    · dsimp only
      rw [if_neg (by omega)]
      have hm' := h ((l + r) / 2) (by omega) (by omega)
      refine wpS_bind (wpS_at C ho' hx (ga_some (i := lo + (l + r) / 2) (by omega)) ?_)
      dsimp only
      cases hb : lt (ga a' (lo + k)) (ga a' (lo + (l + r) / 2)) with
      | true => exact wpS_pure (hm'.2 (by rw [hb]; rfl))
      | false => exact wpS_pure (hm'.1 (by rw [hb]; rfl))
    · dsimp only
      rw [if_pos (by omega)]
      exact wpS_pure h
    · have e1 : lt (ga a' (lo + k)) (ga a' (lo + j)) = false := by simpa using hp
      have e2 := u (lo + i) (lo + j) _ _ (by omega) (by omega) (by omega) (ga_some (by omega)) (ga_some (by omega))
      rw [C.trans _ _ _ e2 e1]
      rfl
    · dsimp only
      refine wpS_bind (wpS_move (wpS_pure ⟨rfl, by omega, _, rfl, w.trans ⟨bubble_perm _ _ _, fun j hj => ?_⟩, ?_⟩))
      · rw [bub_get (by omega) (by omega), if_neg (by omega), if_neg (by omega)]
      · have e0 : lo + k - (lo + k - (lo + t)) = lo + t := by omega
        have bef : ∀ j, j < t → lt (ga a' (lo + k)) (ga a' (lo + j)) = false := fun j hj => by simpa using before j (Nat.zero_le _) hj
        have aft : ∀ j, t ≤ j → j < k → lt (ga a' (lo + j)) (ga a' (lo + k)) = false := fun j j1 j2 => C.asym _ _ (by simpa using after j j1 j2)
        intro i j x y a1 a2 a3 e1 e2
        rw [bub_get (by omega) (by omega), e0] at e1 e2
        have gx : ∀ r : Nat, a'[r]? = some x → ga a' r = x := fun r => ga_of
        have gy : ∀ r : Nat, a'[r]? = some y → ga a' r = y := fun r => ga_of
        by_cases ci : i = lo + t
        · rw [if_pos ci] at e1
          by_cases cj : j = lo + t
          · rw [if_pos cj, e1] at e2
            cases e2
            exact C.refl x
          · rw [if_neg cj, if_pos ⟨by omega, by omega⟩] at e2
            have := aft (j - 1 - lo) (by omega) (by omega)
            rw [show lo + (j - 1 - lo) = j - 1 by omega, gy _ e2, gx _ e1] at this
            exact this
        · rw [if_neg ci] at e1
          by_cases cj : j = lo + t
          · rw [if_pos cj] at e2
            rw [if_neg (by omega)] at e1
            have := bef (i - lo) (by omega)
            rw [show lo + (i - lo) = i by omega, gy _ e2, gx _ e1] at this
            exact this
          · rw [if_neg cj] at e2
            by_cases c1 : lo + t < i ∧ i ≤ lo + k
            · rw [if_pos c1] at e1
              rw [if_pos ⟨by omega, by omega⟩] at e2
              exact u _ _ x y (by omega) (by omega) (by omega) e1 e2
            · rw [if_neg c1] at e1
              by_cases c2 : lo + t < j ∧ j ≤ lo + k
              · rw [if_pos c2] at e2
                exact u _ _ x y a1 (by omega) (by omega) e1 e2
              · rw [if_neg c2] at e2
                exact u _ _ x y a1 a2 (by omega) e1 e2
  · rintro c st ⟨rfl, _, a', rfl, w, u⟩
    have e : max (max m 1) n = n := by omega
    rw [e] at u
    exact ⟨rfl, a', rfl, w, u⟩
  · rintro c st ⟨rfl, a', rfl, w, u⟩
    exact wpS_pure (q a' w u)
end
end Srt

set_option Elab.async false
set_option linter.all false
set_option maxRecDepth 100000
set_option maxHeartbeats 4000000
namespace Srt
open PySem PyProof.Rows
def gal : Bool → Keyed → Array Keyed → Nat → Nat → Nat → StateT SortSt Sem (Option Nat) := sortPriv% PySem.Builtin.gallop
section
variable {M : Model} {A : Around} {E : Value → Shared → Prop} {s : Shared} {κ : SortKind} {lt : Keyed → Keyed → Bool} {ok : Keyed → Prop}
/-- is the item before the place that is sought -/
def before (lt : Keyed → Keyed → Bool) (left : Bool) (key x : Keyed) : Bool := if left = true then lt x key else !lt key x
theorem wpS_bey (C : Cmp M A E s κ lt ok) {left : Bool} {key : Keyed} {arr : Array Keyed} {i : Nat} {st : SortSt} {R : Option Bool → SortSt → Prop} (hk : kindOf st = κ) (okk : ok key) (hi : i < arr.size) (ho : AllOk ok arr)
    (h : R (some (before lt left key (ga arr i))) st) : wpS M A E s (elem' arr i >>= fun x => if left = true then lt' x key else (lt' key x >>= fun r => pure (Option.map (fun b => !b) r))) R st := by
  have hx := ga_some hi
  refine wpS_bind (wpS_elem hx ?_)
  unfold before at h
  cases left with
  | true =>
    rw [if_pos rfl] at h ⊢
    exact C.run _ _ _ _ hk (ho _ _ hx) okk h
  | false =>
    rw [if_neg Bool.false_ne_true] at h ⊢
    exact wpS_bind (C.run _ _ _ _ hk okk (ho _ _ hx) (wpS_pure h))
/-- the steps that double -/
theorem steps {f : Nat → Option (Option Nat) × Nat × Nat → StateT SortSt Sem (ForInStep (Option (Option Nat) × Nat × Nat))} {st : SortSt} {G : Nat → Bool} {top N : Nat} {Q : Option (Option Nat) × Nat × Nat → SortSt → Prop}
    (hd : ∀ (i l o : Nat) (R : ForInStep (Option (Option Nat) × Nat × Nat) → SortSt → Prop), top ≤ o → R (.done (none, l, o)) st → wpS M A E s (f i (none, l, o)) R st)
    (hf : ∀ (i l o : Nat) (R : ForInStep (Option (Option Nat) × Nat × Nat) → SortSt → Prop), o < top → (G o = false → R (.done (none, l, o)) st) → (G o = true → R (.yield (none, o, 2 * o + 1)) st) → wpS M A E s (f i (none, l, o)) R st)
    (hN : top ≤ N) (g0 : G 0 = true) (ht : 0 < top)
    (q : ∀ l o, l < o → l < top → G l = true → (top ≤ o ∨ G o = false) → Q (none, l, o) st) : wpS M A E s (forIn [0:N] ((none, 0, 1) : Option (Option Nat) × Nat × Nat) f) Q st := by
  refine wpS_forRange (fun i c st' => ∃ l o, st' = st ∧ c = (none, l, o) ∧ l < o ∧ l < top ∧ G l = true ∧ i + 1 ≤ o) ?_ ?_ ⟨0, 1, rfl, rfl, by omega, ht, g0, Nat.le_refl _⟩
  · rintro i c st' _ hi ⟨l, o, rfl, rfl, a1, a2, a3, a4⟩
    by_cases ho : top ≤ o
    · exact hd i l o _ ho (q l o a1 a2 a3 (.inl ho))
    · refine hf i l o _ (by omega) (fun hg => q l o a1 a2 a3 (.inr hg)) fun hg => ⟨o, 2 * o + 1, rfl, rfl, by omega, by omega, hg, by omega⟩
  · rintro c st' ⟨l, o, rfl, rfl, a1, a2, a3, a4⟩
    exact q l o a1 a2 a3 (.inl (by omega))
theorem wpS_gal (C : Cmp M A E s κ lt ok) {left : Bool} {key : Keyed} {arr : Array Keyed} {base n hint : Nat} {st : SortSt} {Q : Option Nat → SortSt → Prop} (hk : kindOf st = κ) (okk : ok key) (ho : AllOk ok arr) (hb : base + n ≤ arr.size) (hh : hint < n)
    (mono : ∀ i j, i ≤ j → j < n → before lt left key (ga arr (base + j)) = true → before lt left key (ga arr (base + i)) = true)
    (q : ∀ k, k ≤ n → (∀ j, j < k → before lt left key (ga arr (base + j)) = true) → (∀ j, k ≤ j → j < n → before lt left key (ga arr (base + j)) = false) → Q (some k) st) : wpS M A E s (gal left key arr base n hint) Q st := by
  have fls : ∀ i j, i ≤ j → j < n → before lt left key (ga arr (base + i)) = false → before lt left key (ga arr (base + j)) = false := fun i j h1 h2 h3 => by
    cases h : before lt left key (ga arr (base + j)) with
    | false => rfl
    | true => rw [mono i j h1 h2 h] at h3; exact h3
  refine wpS_bind (wpS_bey C hk okk (by omega) ho ?_)
  dsimp only
  cases h0 : before lt left key (ga arr (base + hint)) with
  | true =>
    rw [if_pos rfl]
    refine wpS_bind (steps (G := fun o => before lt left key (ga arr (base + (hint + o)))) (top := n - hint) (fun i l o R h1 h2 => ?_) (fun i l o R h1 h2 h3 => ?_) (by omega) h0 (by omega) fun l o a1 a2 a3 a4 => ?_)
    · dsimp only
      rw [if_pos h1]
      exact wpS_pure h2
    · dsimp only
      rw [if_neg (by omega)]
      refine wpS_bind (wpS_bey C hk okk (by omega) ho ?_)
      dsimp only
      cases hg : before lt left key (ga arr (base + (hint + o))) with
      | true => exact wpS_pure (h3 hg)
      | false => exact wpS_pure (h2 hg)
    · dsimp only
      refine wpS_bind (bisect (P := fun j => before lt left key (ga arr (base + j))) (fun i l' r R b1 b2 b3 h => ?_) (fun i l' r R b1 h => ?_) (fun i j b1 b2 b3 hp => mono i j b2 (by omega) hp) (by omega) (by omega) fun k k1 k2 bef aft => ?_)
      · dsimp only
        rw [if_neg (by omega)]
        have hm' := h (l' + (r - l') / 2) (by omega) (by omega)
        refine wpS_bind (wpS_bey C hk okk (by omega) ho ?_)
        dsimp only
        cases hg : before lt left key (ga arr (base + (l' + (r - l') / 2))) with
        | true => exact wpS_pure (hm'.1 hg)
        | false => exact wpS_pure (hm'.2 hg)
      · dsimp only
        rw [if_pos (by omega)]
        exact wpS_pure h
      · dsimp only
        refine wpS_pure (q k (by omega) (fun j hj => ?_) fun j j1 j2 => ?_)
        · by_cases c : j < hint + l + 1
          · exact mono j (hint + l) (by omega) (by omega) a3
          · exact bef j (by omega) hj
        · by_cases c : j < hint + min o (n - hint)
          · exact aft j j1 c
          · rcases a4 with a4 | a4
            · omega
            · exact fls (hint + o) j (by omega) j2 a4
  | false =>
    rw [if_neg Bool.false_ne_true]
    refine wpS_bind (steps (G := fun o => !before lt left key (ga arr (base + (hint - o)))) (top := hint + 1) (fun i l o R h1 h2 => ?_) (fun i l o R h1 h2 h3 => ?_) (by omega) (by show (!before lt left key (ga arr (base + hint))) = true; rw [h0]; rfl) (by omega) fun l o a1 a2 a3 a4 => ?_)
    · dsimp only
      rw [if_pos h1]
      exact wpS_pure h2
    · dsimp only
      rw [if_neg (by omega)]
      refine wpS_bind (wpS_bey C hk okk (by omega) ho ?_)
      dsimp only
      cases hg : before lt left key (ga arr (base + (hint - o))) with
      | true => exact wpS_pure (h2 (by rw [hg]; rfl))
      | false => exact wpS_pure (h3 (by rw [hg]; rfl))
    · dsimp only
      have a3' : before lt left key (ga arr (base + (hint - l))) = false := by simpa using a3
      refine wpS_bind (bisect (P := fun j => before lt left key (ga arr (base + j))) (fun i l' r R b1 b2 b3 h => ?_) (fun i l' r R b1 h => ?_) (fun i j b1 b2 b3 hp => mono i j b2 (by omega) hp) (by omega) (by omega) fun k k1 k2 bef aft => ?_)
      · dsimp only
        rw [if_neg (by omega)]
        have hm' := h (l' + (r - l') / 2) (by omega) (by omega)
        refine wpS_bind (wpS_bey C hk okk (by omega) ho ?_)
        dsimp only
        cases hg : before lt left key (ga arr (base + (l' + (r - l') / 2))) with
        | true => exact wpS_pure (hm'.1 hg)
        | false => exact wpS_pure (hm'.2 hg)
      · dsimp only
        rw [if_pos (by omega)]
        exact wpS_pure h
      · dsimp only
        refine wpS_pure (q k (by omega) (fun j hj => ?_) fun j j1 j2 => ?_)
        · by_cases c : j < hint + 1 - min o (hint + 1)
          · rcases a4 with a4 | a4
            · omega
            · have a4' : before lt left key (ga arr (base + (hint - o))) = true := by simpa using a4
              exact mono j (hint - o) (by omega) (by omega) a4'
          · exact bef j (by omega) hj
        · by_cases c : j < hint - l
          · exact aft j j1 c
          · exact fls (hint - l) j (by omega) j2 a3'
end
end Srt

set_option Elab.async false
set_option linter.all false
set_option maxRecDepth 100000
set_option maxHeartbeats 4000000
namespace Srt
open PySem PyProof.Rows
section
variable {M : Model} {A : Around} {E : Value → Shared → Prop} {s : Shared} {κ : SortKind} {lt : Keyed → Keyed → Bool} {ok : Keyed → Prop}
/-- a rising list -/
abbrev Rise (lt : Keyed → Keyed → Bool) (l : List Keyed) : Prop := l.Pairwise fun x y => lt y x = false
/-- what is merged so far: ia of the one, ib of the other -/
structure MI (lt : Keyed → Keyed → Bool) (a b out : List Keyed) (ia ib : Nat) : Prop where
  sa : Rise lt (out ++ a.drop ia)
  sb : Rise lt (out ++ b.drop ib)
  pm : out.Perm (a.take ia ++ b.take ib)
theorem MI.blockA {a b out : List Keyed} {ia ib : Nat} (h : MI lt a b out ia ib) (k : Nat) (hle : ∀ x ∈ (a.drop ia).take k, ∀ y ∈ b.drop ib, lt y x = false) : MI lt a b (out ++ (a.drop ia).take k) (ia + k) ib := by
  have e : out ++ (a.drop ia).take k ++ a.drop (ia + k) = out ++ a.drop ia := by rw [List.append_assoc, ← List.drop_drop, List.take_append_drop]
  refine ⟨by rw [e]; exact h.sa, ?_, ?_⟩
  · have s1 : Rise lt (out ++ (a.drop ia).take k) := by
      have := h.sa
      rw [← e] at this
      exact (List.pairwise_append.mp this).1
    refine List.pairwise_append.mpr ⟨s1, (List.pairwise_append.mp h.sb).2.1, fun x hx y hy => ?_⟩
    rcases List.mem_append.mp hx with hx | hx
    · exact (List.pairwise_append.mp h.sb).2.2 x hx y hy
    · exact hle x hx y hy
  · rw [List.take_add]
    refine (h.pm.append_right _).trans ?_
    rw [List.append_assoc, List.append_assoc]
    exact (List.perm_append_comm).append_left _
theorem MI.blockB {a b out : List Keyed} {ia ib : Nat} (h : MI lt a b out ia ib) (k : Nat) (hle : ∀ x ∈ (b.drop ib).take k, ∀ y ∈ a.drop ia, lt y x = false) : MI lt a b (out ++ (b.drop ib).take k) ia (ib + k) := by
  have e : out ++ (b.drop ib).take k ++ b.drop (ib + k) = out ++ b.drop ib := by rw [List.append_assoc, ← List.drop_drop, List.take_append_drop]
  refine ⟨?_, by rw [e]; exact h.sb, ?_⟩
  · have s1 : Rise lt (out ++ (b.drop ib).take k) := by
      have := h.sb
      rw [← e] at this
      exact (List.pairwise_append.mp this).1
    refine List.pairwise_append.mpr ⟨s1, (List.pairwise_append.mp h.sa).2.1, fun x hx y hy => ?_⟩
    rcases List.mem_append.mp hx with hx | hx
    · exact (List.pairwise_append.mp h.sa).2.2 x hx y hy
    · exact hle x hx y hy
  · rw [List.take_add, ← List.append_assoc]
    exact h.pm.append_right _
theorem drop_one {l : List Keyed} {i : Nat} (h : i < l.length) : (l.drop i).take 1 = [l[i]] := by
  rw [List.drop_eq_getElem_cons h, List.take_succ_cons, List.take_zero]
theorem MI.pushA {a b out : List Keyed} {ia ib : Nat} (C : Cmp M A E s κ lt ok) (h : MI lt a b out ia ib) (h1 : ia < a.length) (h2 : ib < b.length) (hle : lt b[ib] a[ia] = false) : MI lt a b (out ++ [a[ia]]) (ia + 1) ib := by
  have := h.blockA 1 fun x hx y hy => by
    rw [drop_one h1] at hx
    have e : x = a[ia] := by simpa using hx
    subst e
    have sb : Rise lt (b.drop ib) := (List.pairwise_append.mp h.sb).2.1
    rw [List.drop_eq_getElem_cons h2] at sb hy
    rcases List.mem_cons.mp hy with rfl | hy
    · exact hle
    · exact C.trans _ _ _ hle ((List.pairwise_cons.mp sb).1 y hy)
  rwa [drop_one h1] at this
theorem MI.pushB {a b out : List Keyed} {ia ib : Nat} (C : Cmp M A E s κ lt ok) (h : MI lt a b out ia ib) (h1 : ia < a.length) (h2 : ib < b.length) (hle : lt a[ia] b[ib] = false) : MI lt a b (out ++ [b[ib]]) ia (ib + 1) := by
  have := h.blockB 1 fun x hx y hy => by
    rw [drop_one h2] at hx
    have e : x = b[ib] := by simpa using hx
    subst e
    have sa : Rise lt (a.drop ia) := (List.pairwise_append.mp h.sa).2.1
    rw [List.drop_eq_getElem_cons h1] at sa hy
    rcases List.mem_cons.mp hy with rfl | hy
    · exact hle
    · exact C.trans _ _ _ hle ((List.pairwise_cons.mp sa).1 y hy)
  rwa [drop_one h2] at this
/-- a whole merge -/
def Good (lt : Keyed → Keyed → Bool) (a b : List Keyed) (r : Array Keyed) : Prop := Rise lt r.toList ∧ r.toList.Perm (a ++ b)
theorem MI.endB {a b out : List Keyed} {ia ib : Nat} (h : MI lt a b out ia ib) (hb : ib = b.length) {r : Array Keyed} (e : r.toList = out ++ a.drop ia ++ b.drop ib) : Good lt a b r := by
  subst hb
  rw [List.drop_length, List.append_nil] at e
  refine ⟨by rw [e]; exact h.sa, ?_⟩
  rw [e]
  refine (h.pm.append_right _).trans ?_
  rw [List.take_length, List.append_assoc]
  refine ((List.perm_append_comm (l₁ := b) (l₂ := a.drop ia)).append_left _).trans ?_
  rw [← List.append_assoc, List.take_append_drop]
theorem MI.endA {a b out : List Keyed} {ia ib : Nat} (h : MI lt a b out ia ib) (ha : ia + 1 = a.length) (big : ∀ y ∈ b, lt (a[ia]'(by omega)) y = false) {r : Array Keyed} (e : r.toList = out ++ b.drop ib ++ a.drop ia) : Good lt a b r := by
  have hd : a.drop ia = [a[ia]'(by omega)] := by
    rw [List.drop_eq_getElem_cons (by omega), List.drop_eq_nil_of_le (by omega)]
  refine ⟨?_, ?_⟩
  · rw [e]
    refine List.pairwise_append.mpr ⟨h.sb, (List.pairwise_append.mp h.sa).2.1, fun x hx y hy => ?_⟩
    rcases List.mem_append.mp hx with hx | hx
    · exact (List.pairwise_append.mp h.sa).2.2 x hx y hy
    · rw [hd] at hy
      have e2 : y = a[ia]'(by omega) := by simpa using hy
      rw [e2]
      exact big x (List.mem_of_mem_drop hx)
  · rw [e]
    refine ((h.pm.append_right _).append_right _).trans ?_
    rw [List.append_assoc, List.append_assoc]
    have e3 : b.take ib ++ (b.drop ib ++ a.drop ia) = b ++ a.drop ia := by rw [← List.append_assoc, List.take_append_drop]
    rw [e3]
    refine ((List.perm_append_comm (l₁ := b) (l₂ := a.drop ia)).append_left _).trans ?_
    rw [← List.append_assoc, List.take_append_drop]
theorem ga_list {a : Array Keyed} {i : Nat} (h : i < a.toList.length) : ga a i = a.toList[i] := by
  have h' : i < a.size := by simpa using h
  unfold ga
  rw [Array.getElem?_eq_getElem h']
  simp
theorem ext_list (a : Array Keyed) (i j : Nat) : (a.extract i j).toList = (a.toList.drop i).take (j - i) := by
  rw [Array.toList_extract, List.extract_eq_drop_take]
theorem ext_all (a : Array Keyed) (i : Nat) : (a.extract i a.size).toList = a.toList.drop i := by
  rw [ext_list, List.take_of_length_le (by rw [List.length_drop, Array.length_toList]; omega)]
end
end Srt

set_option Elab.async false
set_option linter.all false
set_option maxRecDepth 100000
set_option maxHeartbeats 4000000
namespace Srt
open PySem PyProof.Rows
def mLo : Array Keyed → Array Keyed → StateT SortSt Sem (Array Keyed) := sortPriv% PySem.Builtin.mergeLo
section
variable {M : Model} {A : Around} {E : Value → Shared → Prop} {s : Shared} {κ : SortKind} {lt : Keyed → Keyed → Bool} {ok : Keyed → Prop} {x y out : Array Keyed} {ia ib : Nat}
/-- what is merged so far, of arrays -/
abbrev MA (lt : Keyed → Keyed → Bool) (x y out : Array Keyed) (ia ib : Nat) : Prop := MI lt x.toList y.toList out.toList ia ib
theorem mem_ga {a : Array Keyed} {i : Nat} (h : i < a.size) : ga a i ∈ a.toList := by
  rw [ga_list (by simpa using h)]
  exact List.getElem_mem _
theorem mem_drop_take {a : Array Keyed} {i k : Nat} {u : Keyed} (h : u ∈ (a.toList.drop i).take k) : ∃ j, j < k ∧ i + j < a.size ∧ u = ga a (i + j) := by
  obtain ⟨j, hj, e⟩ := List.mem_iff_getElem.mp h
  rw [List.length_take, List.length_drop, Array.length_toList] at hj
  refine ⟨j, by omega, by omega, ?_⟩
  rw [ga_list (by rw [Array.length_toList]; omega), ← e, List.getElem_take, List.getElem_drop]
theorem mem_drop {a : Array Keyed} {i : Nat} {u : Keyed} (h : u ∈ a.toList.drop i) : ∃ j, i ≤ j ∧ j < a.size ∧ u = ga a j := by
  obtain ⟨j, hj, e⟩ := List.mem_iff_getElem.mp h
  rw [List.length_drop, Array.length_toList] at hj
  refine ⟨i + j, by omega, by omega, ?_⟩
  rw [ga_list (by rw [Array.length_toList]; omega), ← e, List.getElem_drop]
theorem Rise.ga (C : Cmp M A E s κ lt ok) {a : Array Keyed} (h : Rise lt a.toList) {i j : Nat} (hij : i ≤ j) (hj : j < a.size) : lt (Srt.ga a j) (Srt.ga a i) = false := by
  by_cases e : i = j
  · subst e
    exact C.refl _
  · rw [ga_list (by rw [Array.length_toList]; omega), ga_list (by rw [Array.length_toList]; omega)]
    exact List.pairwise_iff_getElem.mp h i j _ _ (by omega)
theorem MI.psA (C : Cmp M A E s κ lt ok) (h : MA lt x y out ia ib) (h1 : ia < x.size) (h2 : ib < y.size) (hle : lt (ga y ib) (ga x ia) = false) : MA lt x y (out.push (ga x ia)) (ia + 1) ib := by
  rw [ga_list (a := y) (by simpa using h2), ga_list (a := x) (by simpa using h1)] at hle
  have := MI.pushA C h (by simpa using h1) (by simpa using h2) hle
  show MI lt _ _ (out.push (ga x ia)).toList _ _
  rw [Array.toList_push, ga_list (a := x) (by simpa using h1)]
  exact this
theorem MI.psB (C : Cmp M A E s κ lt ok) (h : MA lt x y out ia ib) (h1 : ia < x.size) (h2 : ib < y.size) (hle : lt (ga x ia) (ga y ib) = false) : MA lt x y (out.push (ga y ib)) ia (ib + 1) := by
  rw [ga_list (a := y) (by simpa using h2), ga_list (a := x) (by simpa using h1)] at hle
  have := MI.pushB C h (by simpa using h1) (by simpa using h2) hle
  show MI lt _ _ (out.push (ga y ib)).toList _ _
  rw [Array.toList_push, ga_list (a := y) (by simpa using h2)]
  exact this
theorem MI.bkA (C : Cmp M A E s κ lt ok) (h : MA lt x y out ia ib) {k : Nat} (ry : Rise lt y.toList) (h2 : ib < y.size) (hle : ∀ j, j < k → lt (ga y ib) (ga x (ia + j)) = false) : MA lt x y (out ++ x.extract ia (ia + k)) (ia + k) ib := by
  have := MI.blockA h k fun u hu v hv => by
    obtain ⟨j, j1, _, rfl⟩ := mem_drop_take hu
    obtain ⟨j', j2, j3, rfl⟩ := mem_drop hv
    exact C.trans _ _ _ (hle j j1) (Rise.ga C ry j2 j3)
  show MI lt _ _ (out ++ x.extract ia (ia + k)).toList _ _
  rw [Array.toList_append, ext_list, Nat.add_sub_cancel_left]
  exact this
theorem MI.bkB (C : Cmp M A E s κ lt ok) (h : MA lt x y out ia ib) {k : Nat} (rx : Rise lt x.toList) (h1 : ia < x.size) (hle : ∀ j, j < k → lt (ga x ia) (ga y (ib + j)) = false) : MA lt x y (out ++ y.extract ib (ib + k)) ia (ib + k) := by
  have := MI.blockB h k fun u hu v hv => by
    obtain ⟨j, j1, _, rfl⟩ := mem_drop_take hu
    obtain ⟨j', j2, j3, rfl⟩ := mem_drop hv
    exact C.trans _ _ _ (hle j j1) (Rise.ga C rx j2 j3)
  show MI lt _ _ (out ++ y.extract ib (ib + k)).toList _ _
  rw [Array.toList_append, ext_list, Nat.add_sub_cancel_left]
  exact this
abbrev GoodA (lt : Keyed → Keyed → Bool) (x y r : Array Keyed) : Prop := Good lt x.toList y.toList r
theorem MI.enB (h : MA lt x y out ia ib) (hb : ib = y.size) : GoodA lt x y (out ++ x.extract ia x.size ++ y.extract ib y.size) :=
  MI.endB h (by simpa using hb) (by rw [Array.toList_append, Array.toList_append, ext_all, ext_all])
theorem MI.enA (h : MA lt x y out ia ib) (ha : ia + 1 = x.size) (big : ∀ v ∈ y.toList, lt (ga x (x.size - 1)) v = false) : GoodA lt x y (out ++ y.extract ib y.size ++ x.extract ia x.size) :=
  MI.endA h (by simpa using ha) (fun v hv => by
    have := big v hv
    rw [show x.size - 1 = ia by omega, ga_list (by rw [Array.length_toList]; omega)] at this
    exact this) (by rw [Array.toList_append, Array.toList_append, ext_all, ext_all])

theorem ite_split {c : Prop} [Decidable c] {α : Type} {a b : StateT SortSt Sem α} {Q : α → SortSt → Prop} {st : SortSt} (h1 : c → wpS M A E s a Q st) (h2 : ¬ c → wpS M A E s b Q st) : wpS M A E s (if c then a else b) Q st := by
  by_cases h : c
  · rw [if_pos h]
    exact h1 h
  · rw [if_neg h]
    exact h2 h
theorem lt_of_le_lt (C : Cmp M A E s κ lt ok) {u v w : Keyed} (h1 : lt v u = false) (h2 : lt v w = true) : lt u w = true := by
  cases h : lt u w with
  | true => rfl
  | false => rw [C.trans w u v h h1] at h2; exact h2
/-- two rising arrays are merged from below -/
theorem wpS_mLo (C : Cmp M A E s κ lt ok) {arr : Array Keyed} {p : Array (Nat × Nat × Nat)} {g : Nat} {Q : Array Keyed → SortSt → Prop} (hox : AllOk ok x) (hoy : AllOk ok y) (hx : 0 < x.size) (hy : 0 < y.size) (rx : Rise lt x.toList) (ry : Rise lt y.toList)
    (first : ∀ u ∈ x.toList, lt u (ga y 0) = false) (big : ∀ v ∈ y.toList, lt v (ga x (x.size - 1)) = true) (q : ∀ r g', GoodA lt x y r → Q r (mkS κ arr p g')) : wpS M A E s (mLo x y) Q (mkS κ arr p g) := by
  have bigx : ∀ v ∈ y.toList, lt (ga x (x.size - 1)) v = false := fun v hv => C.asym _ _ (big v hv)
  refine wpS_bind (wpS_lift (wpAny_rule ⟨rfl, ?_⟩))
  dsimp only
  refine wpS_bind (wpS_elem (ga_some hy) ?_)
  have mi0 : MA lt x y #[ga y 0] 0 1 := by
    have e0 : ga y 0 = y.toList[0]'(by simpa using hy) := ga_list _
    have ey : y.toList = ga y 0 :: y.toList.drop 1 := by
      rw [e0, ← List.drop_eq_getElem_cons (by simpa using hy)]
      rfl
    refine ⟨List.pairwise_cons.mpr ⟨fun u hu => first u (by simpa using hu), by simpa using rx⟩, ?_, ?_⟩
    · show Rise lt (ga y 0 :: y.toList.drop 1)
      rw [← ey]
      exact ry
    · show [ga y 0].Perm ([] ++ y.toList.take 1)
      rw [ey]
      exact List.Perm.refl _
  by_cases h1 : 1 = y.size
  · rw [if_pos (by simpa using h1)]
    exact wpS_pure (q _ _ (MI.enB mi0 h1))
  · rw [if_neg (by simpa using h1)]
    by_cases h2 : 0 + 1 = x.size
    · rw [if_pos (by simpa using h2)]
      exact wpS_pure (q _ _ (MI.enA mi0 h2 bigx))
    · rw [if_neg (by simpa using h2)]
      refine wpS_bind (wpS_get ?_)
      refine wpS_bind (wpS_mono (wpS_forRange (fun i c st => ∃ g' out ia ib mg, st = mkS κ arr p g' ∧ c = (none, out, ia, ib, mg) ∧ MA lt x y out ia ib ∧ ia + 1 < x.size ∧ ib < y.size ∧ i + 1 ≤ ia + ib) (Q := fun c st => ∃ g' r rest, st = mkS κ arr p g' ∧ c = (some r, rest) ∧ GoodA lt x y r)
        ?_ ?_ ⟨g, _, _, _, _, rfl, rfl, mi0, by omega, by omega, Nat.le_refl _⟩) ?_)
      · rintro i c st _ hi ⟨g', out, ia, ib, mg, rfl, rfl, mi, b1, b2, b3⟩
        dsimp only
        -- one by one
        refine wpS_bind (wpS_mono (wpS_forRange (fun j c st => ∃ out ia' ib' ac bc, st = mkS κ arr p g' ∧ c = (none, out, ia', ib', ac, bc) ∧ MA lt x y out ia' ib' ∧ ia' + 1 < x.size ∧ ib' < y.size ∧ ia + ib + j ≤ ia' + ib')
          (Q := fun c st => (∃ r rest, st = mkS κ arr p g' ∧ c = (some r, rest) ∧ GoodA lt x y r) ∨ ∃ out ia' ib' ac bc, st = mkS κ arr p g' ∧ c = (none, out, ia', ib', ac, bc) ∧ MA lt x y out ia' ib' ∧ ia' + 1 < x.size ∧ ib' < y.size ∧ ia + ib + 1 ≤ ia' + ib')
          ?_ ?_ ⟨_, _, _, _, _, rfl, rfl, mi, b1, b2, Nat.le_refl _⟩) ?_)
        · rintro j c st _ hj ⟨out, ia', ib', ac, bc, rfl, rfl, mi, b1, b2, b4⟩
          dsimp only
          refine wpS_bind (wpS_elem (ga_some b2) (wpS_bind (wpS_elem (ga_some (by omega)) (wpS_bind (C.run _ _ _ _ rfl (hoy _ _ (ga_some b2)) (hox _ _ (ga_some (show ia' < x.size by omega))) ?_)))))
          dsimp only
          cases hb : lt (ga y ib') (ga x ia') with
          | true =>
            rw [if_pos rfl]
            refine wpS_bind (wpS_elem (ga_some b2) ?_)
            have mi2 := MI.psB C mi (by omega) b2 (C.asym _ _ hb)
            by_cases hl : ib' + 1 = y.size
            · rw [if_pos (by simpa using hl)]
              exact wpS_pure (.inl ⟨_, _, rfl, rfl, MI.enB mi2 hl⟩)
            · rw [if_neg (by simpa using hl)]
              refine ite_split (fun e6 => ?_) fun e6 => ?_
              · exact wpS_pure (.inr ⟨_, _, _, _, _, rfl, rfl, mi2, by omega, by omega, by omega⟩)
              · exact wpS_pure ⟨_, _, _, _, _, rfl, rfl, mi2, by omega, by omega, by omega⟩
          | false =>
            rw [if_neg Bool.false_ne_true]
            refine wpS_bind (wpS_elem (ga_some (by omega)) ?_)
            have mi2 := MI.psA C mi (by omega) b2 hb
            by_cases hl : ia' + 1 + 1 = x.size
            · rw [if_pos (by simpa using hl)]
              exact wpS_pure (.inl ⟨_, _, rfl, rfl, MI.enA mi2 hl bigx⟩)
            · rw [if_neg (by simpa using hl)]
              refine ite_split (fun e6 => ?_) fun e6 => ?_
              · exact wpS_pure (.inr ⟨_, _, _, _, _, rfl, rfl, mi2, by omega, by omega, by omega⟩)
              · exact wpS_pure ⟨_, _, _, _, _, rfl, rfl, mi2, by omega, by omega, by omega⟩
        · rintro c st ⟨out, ia', ib', ac, bc, rfl, rfl, mi, b1, b2, b4⟩
          exact .inr ⟨_, _, _, _, _, rfl, rfl, mi, b1, b2, by omega⟩
        · rintro c st (⟨r, rest, rfl, rfl, gd⟩ | ⟨out, ia', ib', ac, bc, rfl, rfl, mi, b1, b2, b4⟩)
          · dsimp only
            exact wpS_pure ⟨_, _, _, rfl, rfl, gd⟩
          · dsimp only
            refine wpS_bind (wpS_lift (wpAny_rule ⟨rfl, ?_⟩))
            -- by leaps
            refine wpS_bind (wpS_mono (wpS_forRange (fun j c st => ∃ g2 out ia2 ib2 mg2 ac bc, st = mkS κ arr p g2 ∧ c = (none, out, ia2, ib2, mg2, ac, bc) ∧ MA lt x y out ia2 ib2 ∧ ia2 + 1 < x.size ∧ ib2 < y.size ∧ ia' + ib' ≤ ia2 + ib2)
              (Q := fun c st => ∃ g2, (∃ r rest, st = mkS κ arr p g2 ∧ c = (some r, rest) ∧ GoodA lt x y r) ∨ ∃ out ia2 ib2 mg2 ac bc, st = mkS κ arr p g2 ∧ c = (none, out, ia2, ib2, mg2, ac, bc) ∧ MA lt x y out ia2 ib2 ∧ ia2 + 1 < x.size ∧ ib2 < y.size ∧ ia' + ib' ≤ ia2 + ib2)
              ?_ ?_ ⟨_, _, _, _, _, _, _, rfl, rfl, mi, b1, b2, Nat.le_refl _⟩) ?_)
            · clear mi b1 b2 b3 b4
              rintro j c st _ hj ⟨g2, out, ia, ib, mg2, ac, bc, rfl, rfl, mi, b1, b2, b5⟩
              dsimp only
              refine ite_split (fun e7 => ?_) fun e7 => ?_
              · refine wpS_bind (wpS_modify ?_)
                refine wpS_bind (wpS_elem (ga_some b2) ?_)
                refine wpS_bind (wpS_gal C (left := false) (base := ia) (n := x.size - ia) (hint := 0) rfl (hoy _ _ (ga_some b2)) hox (by omega) (by omega) (fun i j hij hj hp => ?_) fun k k1 bef aft => ?_)
                · have hp' : lt (ga y ib) (ga x (ia + j)) = false := by simpa [before] using hp
                  show (!lt (ga y ib) (ga x (ia + i))) = true
                  rw [C.trans _ _ _ (Rise.ga C rx (show ia + i ≤ ia + j by omega) (by omega)) hp']
                  rfl
                · dsimp only
                  have bef' : ∀ j, j < k → lt (ga y ib) (ga x (ia + j)) = false := fun j hj => by simpa [before] using bef j hj
                  have aft' : ∀ j, k ≤ j → j < x.size - ia → lt (ga y ib) (ga x (ia + j)) = true := fun j j1 j2 => by simpa [before] using aft j j1 j2
                  have kl : k < x.size - ia := by
                    by_cases c : k < x.size - ia
                    · exact c
                    · have h1 := bef' (x.size - ia - 1) (by omega)
                      have h2 := big _ (mem_ga b2)
                      rw [show ia + (x.size - ia - 1) = x.size - 1 by omega, h2] at h1
                      cases h1
                  by_cases hk : k > 0
                  · rw [if_pos hk]
                    have mi2 := MI.bkA C mi (k := k) ry b2 bef'
                    by_cases e1 : ia + k + 1 = x.size
                    · rw [if_pos (by simpa using e1)]
                      exact wpS_pure ⟨_, .inl ⟨_, _, rfl, rfl, MI.enA mi2 e1 bigx⟩⟩
                    · rw [if_neg (by simpa using e1), if_neg (by simp; omega)]
                      refine wpS_bind (wpS_elem (ga_some b2) ?_)
                      have mi3 := MI.psB C mi2 (by omega) b2 (C.asym _ _ (aft' k (Nat.le_refl _) kl))
                      by_cases e3 : ib + 1 = y.size
                      · rw [if_pos (by simpa using e3)]
                        exact wpS_pure ⟨_, .inl ⟨_, _, rfl, rfl, MI.enB mi3 e3⟩⟩
                      · rw [if_neg (by simpa using e3)]
                        refine wpS_bind (wpS_elem (ga_some (by omega)) ?_)
                        refine wpS_bind (wpS_gal C (left := true) (base := ib + 1) (n := y.size - (ib + 1)) (hint := 0) rfl (hox _ _ (ga_some (by omega))) hoy (by omega) (by omega) (fun i j hij hj hp => ?_) fun k2 k21 bef2 aft2 => ?_)
                        · have hp' : lt (ga y (ib + 1 + j)) (ga x (ia + k)) = true := hp
                          show lt (ga y (ib + 1 + i)) (ga x (ia + k)) = true
                          exact lt_of_le_lt C (Rise.ga C ry (by omega) (by omega)) hp'
                        · dsimp only
                          have bef2' : ∀ j, j < k2 → lt (ga x (ia + k)) (ga y (ib + 1 + j)) = false := fun j hj => C.asym _ _ (bef2 j hj)
                          have aft2' : ∀ j, k2 ≤ j → j < y.size - (ib + 1) → lt (ga y (ib + 1 + j)) (ga x (ia + k)) = false := fun j j1 j2 => aft2 j j1 j2
                          by_cases hk2 : k2 > 0
                          · rw [if_pos hk2]
                            have mi4 := MI.bkB C mi3 (k := k2) rx (by omega) bef2'
                            by_cases e4 : ib + 1 + k2 = y.size
                            · rw [if_pos (by simpa using e4)]
                              exact wpS_pure ⟨_, .inl ⟨_, _, rfl, rfl, MI.enB mi4 e4⟩⟩
                            · rw [if_neg (by simpa using e4)]
                              refine wpS_bind (wpS_elem (ga_some (by omega)) ?_)
                              have mi5 := MI.psA C mi4 (by omega) (by omega) (aft2' k2 (Nat.le_refl _) (by omega))
                              by_cases e5 : ia + k + 1 + 1 = x.size
                              · rw [if_pos (by simpa using e5)]
                                exact wpS_pure ⟨_, .inl ⟨_, _, rfl, rfl, MI.enA mi5 (by omega) bigx⟩⟩
                              · rw [if_neg (by simpa using e5)]
                                refine ite_split (fun e6 => ?_) fun e6 => ?_
                                · exact wpS_pure ⟨_, .inr ⟨_, _, _, _, _, _, rfl, rfl, mi5, by omega, by omega, by omega⟩⟩
                                · exact wpS_pure ⟨_, _, _, _, _, _, _, rfl, rfl, mi5, by omega, by omega, by omega⟩
                          · rw [if_neg hk2]
                            have k0 : k2 = 0 := by omega
                            refine wpS_bind (wpS_elem (ga_some (by omega)) ?_)
                            have mi5 := MI.psA C mi3 (by omega) (by omega) (by have := aft2' 0 (by omega) (by omega); exact this)
                            by_cases e5 : ia + k + 1 + 1 = x.size
                            · rw [if_pos (by simpa using e5)]
                              exact wpS_pure ⟨_, .inl ⟨_, _, rfl, rfl, MI.enA mi5 (by omega) bigx⟩⟩
                            · rw [if_neg (by simpa using e5)]
                              refine ite_split (fun e6 => ?_) fun e6 => ?_
                              · exact wpS_pure ⟨_, .inr ⟨_, _, _, _, _, _, rfl, rfl, mi5, by omega, by omega, by omega⟩⟩
                              · exact wpS_pure ⟨_, _, _, _, _, _, _, rfl, rfl, mi5, by omega, by omega, by omega⟩
                  · rw [if_neg hk]
                    have k0 : k = 0 := by omega
                    refine wpS_bind (wpS_elem (ga_some b2) ?_)
                    have mi3 := MI.psB C mi (by omega) b2 (C.asym _ _ (by have := aft' 0 (by omega) (by omega); exact this))
                    by_cases e3 : ib + 1 = y.size
                    · rw [if_pos (by simpa using e3)]
                      exact wpS_pure ⟨_, .inl ⟨_, _, rfl, rfl, MI.enB mi3 e3⟩⟩
                    · rw [if_neg (by simpa using e3)]
                      refine wpS_bind (wpS_elem (ga_some (by omega)) ?_)
                      refine wpS_bind (wpS_gal C (left := true) (base := ib + 1) (n := y.size - (ib + 1)) (hint := 0) rfl (hox _ _ (ga_some (by omega))) hoy (by omega) (by omega) (fun i j hij hj hp => ?_) fun k2 k21 bef2 aft2 => ?_)
                      · have hp' : lt (ga y (ib + 1 + j)) (ga x (ia)) = true := hp
                        show lt (ga y (ib + 1 + i)) (ga x (ia)) = true
                        exact lt_of_le_lt C (Rise.ga C ry (by omega) (by omega)) hp'
                      · dsimp only
                        have bef2' : ∀ j, j < k2 → lt (ga x (ia)) (ga y (ib + 1 + j)) = false := fun j hj => C.asym _ _ (bef2 j hj)
                        have aft2' : ∀ j, k2 ≤ j → j < y.size - (ib + 1) → lt (ga y (ib + 1 + j)) (ga x (ia)) = false := fun j j1 j2 => aft2 j j1 j2
                        by_cases hk2 : k2 > 0
                        · rw [if_pos hk2]
                          have mi4 := MI.bkB C mi3 (k := k2) rx (by omega) bef2'
                          by_cases e4 : ib + 1 + k2 = y.size
                          · rw [if_pos (by simpa using e4)]
                            exact wpS_pure ⟨_, .inl ⟨_, _, rfl, rfl, MI.enB mi4 e4⟩⟩
                          · rw [if_neg (by simpa using e4)]
                            refine wpS_bind (wpS_elem (ga_some (by omega)) ?_)
                            have mi5 := MI.psA C mi4 (by omega) (by omega) (aft2' k2 (Nat.le_refl _) (by omega))
                            by_cases e5 : ia + 1 + 1 = x.size
                            · rw [if_pos (by simpa using e5)]
                              exact wpS_pure ⟨_, .inl ⟨_, _, rfl, rfl, MI.enA mi5 (by omega) bigx⟩⟩
                            · rw [if_neg (by simpa using e5)]
                              refine ite_split (fun e6 => ?_) fun e6 => ?_
                              · exact wpS_pure ⟨_, .inr ⟨_, _, _, _, _, _, rfl, rfl, mi5, by omega, by omega, by omega⟩⟩
                              · exact wpS_pure ⟨_, _, _, _, _, _, _, rfl, rfl, mi5, by omega, by omega, by omega⟩
                        · rw [if_neg hk2]
                          have k0 : k2 = 0 := by omega
                          refine wpS_bind (wpS_elem (ga_some (by omega)) ?_)
                          have mi5 := MI.psA C mi3 (by omega) (by omega) (by have := aft2' 0 (by omega) (by omega); exact this)
                          by_cases e5 : ia + 1 + 1 = x.size
                          · rw [if_pos (by simpa using e5)]
                            exact wpS_pure ⟨_, .inl ⟨_, _, rfl, rfl, MI.enA mi5 (by omega) bigx⟩⟩
                          · rw [if_neg (by simpa using e5)]
                            refine ite_split (fun e6 => ?_) fun e6 => ?_
                            · exact wpS_pure ⟨_, .inr ⟨_, _, _, _, _, _, rfl, rfl, mi5, by omega, by omega, by omega⟩⟩
                            · exact wpS_pure ⟨_, _, _, _, _, _, _, rfl, rfl, mi5, by omega, by omega, by omega⟩
              · refine wpS_bind (wpS_modify ?_)
                refine wpS_bind (wpS_elem (ga_some b2) ?_)
                refine wpS_bind (wpS_gal C (left := false) (base := ia) (n := x.size - ia) (hint := 0) rfl (hoy _ _ (ga_some b2)) hox (by omega) (by omega) (fun i j hij hj hp => ?_) fun k k1 bef aft => ?_)
                · have hp' : lt (ga y ib) (ga x (ia + j)) = false := by simpa [before] using hp
                  show (!lt (ga y ib) (ga x (ia + i))) = true
                  rw [C.trans _ _ _ (Rise.ga C rx (show ia + i ≤ ia + j by omega) (by omega)) hp']
                  rfl
                · dsimp only
                  have bef' : ∀ j, j < k → lt (ga y ib) (ga x (ia + j)) = false := fun j hj => by simpa [before] using bef j hj
                  have aft' : ∀ j, k ≤ j → j < x.size - ia → lt (ga y ib) (ga x (ia + j)) = true := fun j j1 j2 => by simpa [before] using aft j j1 j2
                  have kl : k < x.size - ia := by
                    by_cases c : k < x.size - ia
                    · exact c
                    · have h1 := bef' (x.size - ia - 1) (by omega)
                      have h2 := big _ (mem_ga b2)
                      rw [show ia + (x.size - ia - 1) = x.size - 1 by omega, h2] at h1
                      cases h1
                  by_cases hk : k > 0
                  · rw [if_pos hk]
                    have mi2 := MI.bkA C mi (k := k) ry b2 bef'
                    by_cases e1 : ia + k + 1 = x.size
                    · rw [if_pos (by simpa using e1)]
                      exact wpS_pure ⟨_, .inl ⟨_, _, rfl, rfl, MI.enA mi2 e1 bigx⟩⟩
                    · rw [if_neg (by simpa using e1), if_neg (by simp; omega)]
                      refine wpS_bind (wpS_elem (ga_some b2) ?_)
                      have mi3 := MI.psB C mi2 (by omega) b2 (C.asym _ _ (aft' k (Nat.le_refl _) kl))
                      by_cases e3 : ib + 1 = y.size
                      · rw [if_pos (by simpa using e3)]
                        exact wpS_pure ⟨_, .inl ⟨_, _, rfl, rfl, MI.enB mi3 e3⟩⟩
                      · rw [if_neg (by simpa using e3)]
                        refine wpS_bind (wpS_elem (ga_some (by omega)) ?_)
                        refine wpS_bind (wpS_gal C (left := true) (base := ib + 1) (n := y.size - (ib + 1)) (hint := 0) rfl (hox _ _ (ga_some (by omega))) hoy (by omega) (by omega) (fun i j hij hj hp => ?_) fun k2 k21 bef2 aft2 => ?_)
                        · have hp' : lt (ga y (ib + 1 + j)) (ga x (ia + k)) = true := hp
                          show lt (ga y (ib + 1 + i)) (ga x (ia + k)) = true
                          exact lt_of_le_lt C (Rise.ga C ry (by omega) (by omega)) hp'
                        · dsimp only
                          have bef2' : ∀ j, j < k2 → lt (ga x (ia + k)) (ga y (ib + 1 + j)) = false := fun j hj => C.asym _ _ (bef2 j hj)
                          have aft2' : ∀ j, k2 ≤ j → j < y.size - (ib + 1) → lt (ga y (ib + 1 + j)) (ga x (ia + k)) = false := fun j j1 j2 => aft2 j j1 j2
                          by_cases hk2 : k2 > 0
                          · rw [if_pos hk2]
                            have mi4 := MI.bkB C mi3 (k := k2) rx (by omega) bef2'
                            by_cases e4 : ib + 1 + k2 = y.size
                            · rw [if_pos (by simpa using e4)]
                              exact wpS_pure ⟨_, .inl ⟨_, _, rfl, rfl, MI.enB mi4 e4⟩⟩
                            · rw [if_neg (by simpa using e4)]
                              refine wpS_bind (wpS_elem (ga_some (by omega)) ?_)
                              have mi5 := MI.psA C mi4 (by omega) (by omega) (aft2' k2 (Nat.le_refl _) (by omega))
                              by_cases e5 : ia + k + 1 + 1 = x.size
                              · rw [if_pos (by simpa using e5)]
                                exact wpS_pure ⟨_, .inl ⟨_, _, rfl, rfl, MI.enA mi5 (by omega) bigx⟩⟩
                              · rw [if_neg (by simpa using e5)]
                                refine ite_split (fun e6 => ?_) fun e6 => ?_
                                · exact wpS_pure ⟨_, .inr ⟨_, _, _, _, _, _, rfl, rfl, mi5, by omega, by omega, by omega⟩⟩
                                · exact wpS_pure ⟨_, _, _, _, _, _, _, rfl, rfl, mi5, by omega, by omega, by omega⟩
                          · rw [if_neg hk2]
                            have k0 : k2 = 0 := by omega
                            refine wpS_bind (wpS_elem (ga_some (by omega)) ?_)
                            have mi5 := MI.psA C mi3 (by omega) (by omega) (by have := aft2' 0 (by omega) (by omega); exact this)
                            by_cases e5 : ia + k + 1 + 1 = x.size
                            · rw [if_pos (by simpa using e5)]
                              exact wpS_pure ⟨_, .inl ⟨_, _, rfl, rfl, MI.enA mi5 (by omega) bigx⟩⟩
                            · rw [if_neg (by simpa using e5)]
                              refine ite_split (fun e6 => ?_) fun e6 => ?_
                              · exact wpS_pure ⟨_, .inr ⟨_, _, _, _, _, _, rfl, rfl, mi5, by omega, by omega, by omega⟩⟩
                              · exact wpS_pure ⟨_, _, _, _, _, _, _, rfl, rfl, mi5, by omega, by omega, by omega⟩
                  · rw [if_neg hk]
                    have k0 : k = 0 := by omega
                    refine wpS_bind (wpS_elem (ga_some b2) ?_)
                    have mi3 := MI.psB C mi (by omega) b2 (C.asym _ _ (by have := aft' 0 (by omega) (by omega); exact this))
                    by_cases e3 : ib + 1 = y.size
                    · rw [if_pos (by simpa using e3)]
                      exact wpS_pure ⟨_, .inl ⟨_, _, rfl, rfl, MI.enB mi3 e3⟩⟩
                    · rw [if_neg (by simpa using e3)]
                      refine wpS_bind (wpS_elem (ga_some (by omega)) ?_)
                      refine wpS_bind (wpS_gal C (left := true) (base := ib + 1) (n := y.size - (ib + 1)) (hint := 0) rfl (hox _ _ (ga_some (by omega))) hoy (by omega) (by omega) (fun i j hij hj hp => ?_) fun k2 k21 bef2 aft2 => ?_)
                      · have hp' : lt (ga y (ib + 1 + j)) (ga x (ia)) = true := hp
                        show lt (ga y (ib + 1 + i)) (ga x (ia)) = true
                        exact lt_of_le_lt C (Rise.ga C ry (by omega) (by omega)) hp'
                      · dsimp only
                        have bef2' : ∀ j, j < k2 → lt (ga x (ia)) (ga y (ib + 1 + j)) = false := fun j hj => C.asym _ _ (bef2 j hj)
                        have aft2' : ∀ j, k2 ≤ j → j < y.size - (ib + 1) → lt (ga y (ib + 1 + j)) (ga x (ia)) = false := fun j j1 j2 => aft2 j j1 j2
                        by_cases hk2 : k2 > 0
                        · rw [if_pos hk2]
                          have mi4 := MI.bkB C mi3 (k := k2) rx (by omega) bef2'
                          by_cases e4 : ib + 1 + k2 = y.size
                          · rw [if_pos (by simpa using e4)]
                            exact wpS_pure ⟨_, .inl ⟨_, _, rfl, rfl, MI.enB mi4 e4⟩⟩
                          · rw [if_neg (by simpa using e4)]
                            refine wpS_bind (wpS_elem (ga_some (by omega)) ?_)
                            have mi5 := MI.psA C mi4 (by omega) (by omega) (aft2' k2 (Nat.le_refl _) (by omega))
                            by_cases e5 : ia + 1 + 1 = x.size
                            · rw [if_pos (by simpa using e5)]
                              exact wpS_pure ⟨_, .inl ⟨_, _, rfl, rfl, MI.enA mi5 (by omega) bigx⟩⟩
                            · rw [if_neg (by simpa using e5)]
                              refine ite_split (fun e6 => ?_) fun e6 => ?_
                              · exact wpS_pure ⟨_, .inr ⟨_, _, _, _, _, _, rfl, rfl, mi5, by omega, by omega, by omega⟩⟩
                              · exact wpS_pure ⟨_, _, _, _, _, _, _, rfl, rfl, mi5, by omega, by omega, by omega⟩
                        · rw [if_neg hk2]
                          have k0 : k2 = 0 := by omega
                          refine wpS_bind (wpS_elem (ga_some (by omega)) ?_)
                          have mi5 := MI.psA C mi3 (by omega) (by omega) (by have := aft2' 0 (by omega) (by omega); exact this)
                          by_cases e5 : ia + 1 + 1 = x.size
                          · rw [if_pos (by simpa using e5)]
                            exact wpS_pure ⟨_, .inl ⟨_, _, rfl, rfl, MI.enA mi5 (by omega) bigx⟩⟩
                          · rw [if_neg (by simpa using e5)]
                            refine ite_split (fun e6 => ?_) fun e6 => ?_
                            · exact wpS_pure ⟨_, .inr ⟨_, _, _, _, _, _, rfl, rfl, mi5, by omega, by omega, by omega⟩⟩
                            · exact wpS_pure ⟨_, _, _, _, _, _, _, rfl, rfl, mi5, by omega, by omega, by omega⟩
            · rintro c st ⟨g2, out, ia2, ib2, mg2, ac, bc, rfl, rfl, mi, b1, b2, b5⟩
              exact ⟨_, .inr ⟨_, _, _, _, _, _, rfl, rfl, mi, b1, b2, b5⟩⟩
            · rintro c st ⟨g2, ⟨r, rest, rfl, rfl, gd⟩ | ⟨out, ia2, ib2, mg2, ac, bc, rfl, rfl, mi, b1, b2, b5⟩⟩
              · dsimp only
                exact wpS_pure ⟨_, _, _, rfl, rfl, gd⟩
              · dsimp only
                refine wpS_bind (wpS_modify (wpS_pure ⟨_, _, _, _, _, rfl, rfl, mi, b1, b2, by omega⟩))
      · rintro c st ⟨g', out, ia, ib, mg, rfl, rfl, mi, b1, b2, b3⟩
        exfalso
        omega
      · rintro c st ⟨g', r, rest, rfl, rfl, gd⟩
        dsimp only
        exact wpS_pure (q r g' gd)
end
end Srt

set_option Elab.async false
set_option linter.all false
set_option maxRecDepth 100000
set_option maxHeartbeats 4000000
namespace Srt
open PySem PyProof.Rows
def mHi : Array Keyed → Array Keyed → StateT SortSt Sem (Array Keyed) := sortPriv% PySem.Builtin.mergeHi
section
variable {M : Model} {A : Around} {E : Value → Shared → Prop} {s : Shared} {κ : SortKind} {lt : Keyed → Keyed → Bool} {ok : Keyed → Prop} {x y out : Array Keyed} {na nb : Nat}
/-- what is merged so far from above: na of the one, nb of the other are left -/
structure MH (lt : Keyed → Keyed → Bool) (a b out : List Keyed) (na nb : Nat) : Prop where
  sa : Rise lt (a.take na ++ out.reverse)
  sb : Rise lt (b.take nb ++ out.reverse)
  pm : out.Perm (a.drop na ++ b.drop nb)
theorem cut_drop {a : List Keyed} {k n : Nat} (h : k ≤ n) (hn : n ≤ a.length) : a.drop k = (a.take n).drop k ++ a.drop n := by
  have e : (a.take n ++ a.drop n).drop k = (a.take n).drop k ++ a.drop n := List.drop_append_of_le_length (by rw [List.length_take]; omega)
  rw [List.take_append_drop] at e
  exact e
theorem cut_take {a : List Keyed} {k n : Nat} (h : k ≤ n) : a.take n = a.take k ++ (a.take n).drop k := by
  have e := List.take_append_drop k (a.take n)
  rw [List.take_take, Nat.min_eq_left h] at e
  exact e.symm
theorem MH.blockA {a b out : List Keyed} {na nb : Nat} (h : MH lt a b out na nb) {k : Nat} (hk : k ≤ na) (hn : na ≤ a.length) (hle : ∀ u ∈ (a.take na).drop k, ∀ v ∈ b.take nb, lt u v = false) : MH lt a b (out ++ ((a.take na).drop k).reverse) k nb := by
  have er : (out ++ ((a.take na).drop k).reverse).reverse = (a.take na).drop k ++ out.reverse := by rw [List.reverse_append, List.reverse_reverse]
  have e : a.take k ++ ((a.take na).drop k ++ out.reverse) = a.take na ++ out.reverse := by rw [← List.append_assoc, ← cut_take hk]
  refine ⟨by rw [er, e]; exact h.sa, ?_, ?_⟩
  · rw [er]
    have sa := h.sa
    rw [← e] at sa
    refine List.pairwise_append.mpr ⟨(List.pairwise_append.mp h.sb).1, (List.pairwise_append.mp sa).2.1, fun v hv u hu => ?_⟩
    rcases List.mem_append.mp hu with hu | hu
    · exact hle u hu v hv
    · exact (List.pairwise_append.mp h.sb).2.2 v hv u hu
  · rw [cut_drop hk hn]
    refine (h.pm.append (List.reverse_perm _)).trans ?_
    refine List.perm_append_comm.trans ?_
    rw [← List.append_assoc]
theorem MH.blockB {a b out : List Keyed} {na nb : Nat} (h : MH lt a b out na nb) {k : Nat} (hk : k ≤ nb) (hn : nb ≤ b.length) (hle : ∀ u ∈ (b.take nb).drop k, ∀ v ∈ a.take na, lt u v = false) : MH lt a b (out ++ ((b.take nb).drop k).reverse) na k := by
  have er : (out ++ ((b.take nb).drop k).reverse).reverse = (b.take nb).drop k ++ out.reverse := by rw [List.reverse_append, List.reverse_reverse]
  have e : b.take k ++ ((b.take nb).drop k ++ out.reverse) = b.take nb ++ out.reverse := by rw [← List.append_assoc, ← cut_take hk]
  refine ⟨?_, by rw [er, e]; exact h.sb, ?_⟩
  · rw [er]
    have sb := h.sb
    rw [← e] at sb
    refine List.pairwise_append.mpr ⟨(List.pairwise_append.mp h.sa).1, (List.pairwise_append.mp sb).2.1, fun v hv u hu => ?_⟩
    rcases List.mem_append.mp hu with hu | hu
    · exact hle u hu v hv
    · exact (List.pairwise_append.mp h.sa).2.2 v hv u hu
  · rw [cut_drop hk hn]
    refine (h.pm.append (List.reverse_perm _)).trans ?_
    rw [List.append_assoc]
    exact List.perm_append_comm.append_left _
abbrev MB (lt : Keyed → Keyed → Bool) (x y out : Array Keyed) (na nb : Nat) : Prop := MH lt x.toList y.toList out.toList na nb
theorem mem_take_drop {a : Array Keyed} {n k : Nat} {u : Keyed} (h : u ∈ (a.toList.take n).drop k) : ∃ j, k ≤ j ∧ j < n ∧ j < a.size ∧ u = ga a j := by
  obtain ⟨j, hj, e⟩ := List.mem_iff_getElem.mp h
  rw [List.length_drop, List.length_take, Array.length_toList] at hj
  refine ⟨k + j, by omega, by omega, by omega, ?_⟩
  rw [ga_list (by rw [Array.length_toList]; omega), ← e, List.getElem_drop, List.getElem_take]
theorem mem_take {a : Array Keyed} {n : Nat} {u : Keyed} (h : u ∈ a.toList.take n) : ∃ j, j < n ∧ j < a.size ∧ u = ga a j := by
  obtain ⟨j, hj, e⟩ := List.mem_iff_getElem.mp h
  rw [List.length_take, Array.length_toList] at hj
  refine ⟨j, by omega, by omega, ?_⟩
  rw [ga_list (by rw [Array.length_toList]; omega), ← e, List.getElem_take]
theorem ext_cut (a : Array Keyed) (k n : Nat) : (a.extract k n).toList = (a.toList.take n).drop k := by rw [ext_list, List.drop_take]
theorem MH.bkA (C : Cmp M A E s κ lt ok) (h : MB lt x y out na nb) {k : Nat} (hk : k ≤ na) (hn : na ≤ x.size) (ry : Rise lt y.toList) (h1 : 1 ≤ nb) (h2 : nb ≤ y.size) (hle : ∀ j, k ≤ j → j < na → lt (ga x j) (ga y (nb - 1)) = false) : MB lt x y (out ++ (x.extract k na).reverse) k nb := by
  have := MH.blockA h hk (by simpa using hn) fun u hu v hv => by
    obtain ⟨j, j1, j2, _, rfl⟩ := mem_take_drop hu
    obtain ⟨j', j3, j4, rfl⟩ := mem_take hv
    exact C.trans _ _ _ (Rise.ga C ry (show j' ≤ nb - 1 by omega) (by omega)) (hle j j1 j2)
  show MH lt _ _ (out ++ (x.extract k na).reverse).toList _ _
  rw [Array.toList_append, Array.toList_reverse, ext_cut]
  exact this
theorem MH.bkB (C : Cmp M A E s κ lt ok) (h : MB lt x y out na nb) {k : Nat} (hk : k ≤ nb) (hn : nb ≤ y.size) (rx : Rise lt x.toList) (h1 : 1 ≤ na) (h2 : na ≤ x.size) (hle : ∀ j, k ≤ j → j < nb → lt (ga y j) (ga x (na - 1)) = false) : MB lt x y (out ++ (y.extract k nb).reverse) na k := by
  have := MH.blockB h hk (by simpa using hn) fun u hu v hv => by
    obtain ⟨j, j1, j2, _, rfl⟩ := mem_take_drop hu
    obtain ⟨j', j3, j4, rfl⟩ := mem_take hv
    exact C.trans _ _ _ (Rise.ga C rx (show j' ≤ na - 1 by omega) (by omega)) (hle j j1 j2)
  show MH lt _ _ (out ++ (y.extract k nb).reverse).toList _ _
  rw [Array.toList_append, Array.toList_reverse, ext_cut]
  exact this
theorem one_cut {a : Array Keyed} {n : Nat} (h1 : 1 ≤ n) (h2 : n ≤ a.size) : (a.toList.take n).drop (n - 1) = [ga a (n - 1)] := by
  rw [List.drop_take, show n - (n - 1) = 1 by omega, drop_one (by rw [Array.length_toList]; omega), ga_list]
theorem MH.psA (C : Cmp M A E s κ lt ok) (h : MB lt x y out na nb) (h1 : 1 ≤ na) (hn : na ≤ x.size) (ry : Rise lt y.toList) (h2 : 1 ≤ nb) (h3 : nb ≤ y.size) (hle : lt (ga x (na - 1)) (ga y (nb - 1)) = false) : MB lt x y (out.push (ga x (na - 1))) (na - 1) nb := by
  have := MH.blockA h (k := na - 1) (by omega) (by simpa using hn) fun u hu v hv => by
    obtain ⟨j, j1, j2, _, rfl⟩ := mem_take_drop hu
    obtain ⟨j', j3, j4, rfl⟩ := mem_take hv
    have : j = na - 1 := by omega
    subst this
    exact C.trans _ _ _ (Rise.ga C ry (show j' ≤ nb - 1 by omega) (by omega)) hle
  rw [one_cut h1 hn] at this
  show MH lt _ _ (out.push (ga x (na - 1))).toList _ _
  rw [Array.toList_push]
  exact this
theorem MH.psB (C : Cmp M A E s κ lt ok) (h : MB lt x y out na nb) (h1 : 1 ≤ nb) (hn : nb ≤ y.size) (rx : Rise lt x.toList) (h2 : 1 ≤ na) (h3 : na ≤ x.size) (hle : lt (ga y (nb - 1)) (ga x (na - 1)) = false) : MB lt x y (out.push (ga y (nb - 1))) na (nb - 1) := by
  have := MH.blockB h (k := nb - 1) (by omega) (by simpa using hn) fun u hu v hv => by
    obtain ⟨j, j1, j2, _, rfl⟩ := mem_take_drop hu
    obtain ⟨j', j3, j4, rfl⟩ := mem_take hv
    have : j = nb - 1 := by omega
    subst this
    exact C.trans _ _ _ (Rise.ga C rx (show j' ≤ na - 1 by omega) (by omega)) hle
  rw [one_cut h1 hn] at this
  show MH lt _ _ (out.push (ga y (nb - 1))).toList _ _
  rw [Array.toList_push]
  exact this
theorem ext0 (a : Array Keyed) (n : Nat) : (a.extract 0 n).toList = a.toList.take n := by rw [ext_cut, List.drop_zero]
theorem MH.enB (h : MB lt x y out na nb) (ha : na = 0) : GoodA lt x y (x.extract 0 na ++ y.extract 0 nb ++ out.reverse) := by
  subst ha
  have e : (x.extract 0 0 ++ y.extract 0 nb ++ out.reverse).toList = y.toList.take nb ++ out.toList.reverse := by
    rw [Array.toList_append, Array.toList_append, ext0, ext0, Array.toList_reverse, List.take_zero, List.nil_append]
  refine ⟨by rw [e]; exact h.sb, ?_⟩
  rw [e]
  refine (((List.reverse_perm _).trans h.pm).append_left _).trans ?_
  rw [List.drop_zero]
  refine (List.perm_append_comm (l₁ := y.toList.take nb)).trans ?_
  rw [List.append_assoc]
  refine List.Perm.append_left _ ?_
  refine List.perm_append_comm.trans ?_
  rw [List.take_append_drop]
theorem MH.enA (C : Cmp M A E s κ lt ok) (h : MB lt x y out na nb) (hb : nb = 1) (hy : 0 < y.size) (first : ∀ u ∈ x.toList, lt u (ga y 0) = false) : GoodA lt x y (y.extract 0 nb ++ x.extract 0 na ++ out.reverse) := by
  subst hb
  have e : (y.extract 0 1 ++ x.extract 0 na ++ out.reverse).toList = y.toList.take 1 ++ (x.toList.take na ++ out.toList.reverse) := by
    rw [Array.toList_append, Array.toList_append, ext0, ext0, Array.toList_reverse, List.append_assoc]
  refine ⟨?_, ?_⟩
  · rw [e]
    refine List.pairwise_append.mpr ⟨(List.pairwise_append.mp h.sb).1, h.sa, fun u hu v hv => ?_⟩
    rcases List.mem_append.mp hv with hv | hv
    · obtain ⟨j, j1, _, rfl⟩ := mem_take hu
      have : j = 0 := by omega
      subst this
      exact first v (List.mem_of_mem_take hv)
    · exact (List.pairwise_append.mp h.sb).2.2 u hu v hv
  · rw [e]
    refine ((((List.reverse_perm _).trans h.pm).append_left _).append_left _).trans ?_
    have e2 : x.toList.take na ++ (x.toList.drop na ++ y.toList.drop 1) = x.toList ++ y.toList.drop 1 := by rw [← List.append_assoc, List.take_append_drop]
    rw [e2]
    refine List.perm_append_comm.trans ?_
    rw [List.append_assoc]
    refine List.Perm.append_left _ ?_
    refine List.perm_append_comm.trans ?_
    rw [List.take_append_drop]

/-- two rising arrays are merged from above -/
theorem wpS_mHi (C : Cmp M A E s κ lt ok) {arr : Array Keyed} {p : Array (Nat × Nat × Nat)} {g : Nat} {Q : Array Keyed → SortSt → Prop} (hox : AllOk ok x) (hoy : AllOk ok y) (hx : 0 < x.size) (hy : 0 < y.size) (rx : Rise lt x.toList) (ry : Rise lt y.toList)
    (first : ∀ u ∈ x.toList, lt (ga y 0) u = true) (big : ∀ v ∈ y.toList, lt (ga x (x.size - 1)) v = false) (q : ∀ r g', GoodA lt x y r → Q r (mkS κ arr p g')) : wpS M A E s (mHi x y) Q (mkS κ arr p g) := by
  have firstx : ∀ u ∈ x.toList, lt u (ga y 0) = false := fun u hu => C.asym _ _ (first u hu)
  refine wpS_bind (wpS_lift (wpAny_rule ⟨rfl, ?_⟩))
  dsimp only
  refine wpS_bind (wpS_elem (ga_some (show x.size - 1 < x.size by omega)) ?_)
  have mi0 : MB lt x y #[ga x (x.size - 1)] (x.size - 1) y.size := by
    have base : MB lt x y #[] x.size y.size := by
      refine ⟨?_, ?_, ?_⟩
      · show Rise lt (x.toList.take x.size ++ [])
        rw [List.append_nil, List.take_of_length_le (by simp)]
        exact rx
      · show Rise lt (y.toList.take y.size ++ [])
        rw [List.append_nil, List.take_of_length_le (by simp)]
        exact ry
      · show ([] : List Keyed).Perm _
        rw [List.drop_eq_nil_of_le (by simp), List.drop_eq_nil_of_le (by simp)]
        exact List.Perm.refl _
    exact MH.psA C base (by omega) (Nat.le_refl _) ry (by omega) (Nat.le_refl _) (big _ (mem_ga (by omega)))
  by_cases h1 : x.size - 1 = 0
  · rw [if_pos (by simpa using h1)]
    exact wpS_pure (q _ _ (MH.enB mi0 h1))
  · rw [if_neg (by simpa using h1)]
    by_cases h2 : y.size = 1
    · rw [if_pos (by simpa using h2)]
      exact wpS_pure (q _ _ (MH.enA C mi0 h2 hy firstx))
    · rw [if_neg (by simpa using h2)]
      refine wpS_bind (wpS_get ?_)
      refine wpS_bind (wpS_mono (wpS_forRange (fun i c st => ∃ g' out na nb mg, st = mkS κ arr p g' ∧ c = (none, na, nb, out, mg) ∧ MB lt x y out na nb ∧ 1 ≤ na ∧ na ≤ x.size ∧ 2 ≤ nb ∧ nb ≤ y.size ∧ i + 1 + na + nb ≤ x.size + y.size) (Q := fun c st => ∃ g' r rest, st = mkS κ arr p g' ∧ c = (some r, rest) ∧ GoodA lt x y r)
        ?_ ?_ ⟨g, _, _, _, _, rfl, rfl, mi0, by omega, by omega, by omega, Nat.le_refl _, by omega⟩) ?_)
      · rintro i c st _ hi ⟨g', out, na, nb, mg, rfl, rfl, mi, b1, b1', b2, b2', b3⟩
        dsimp only
        -- one by one
        refine wpS_bind (wpS_mono (wpS_forRange (fun j c st => ∃ out na' nb' ac bc, st = mkS κ arr p g' ∧ c = (none, na', nb', out, ac, bc) ∧ MB lt x y out na' nb' ∧ 1 ≤ na' ∧ na' ≤ x.size ∧ 2 ≤ nb' ∧ nb' ≤ y.size ∧ j + na' + nb' ≤ na + nb)
          (Q := fun c st => (∃ r rest, st = mkS κ arr p g' ∧ c = (some r, rest) ∧ GoodA lt x y r) ∨ ∃ out na' nb' ac bc, st = mkS κ arr p g' ∧ c = (none, na', nb', out, ac, bc) ∧ MB lt x y out na' nb' ∧ 1 ≤ na' ∧ na' ≤ x.size ∧ 2 ≤ nb' ∧ nb' ≤ y.size ∧ 1 + na' + nb' ≤ na + nb)
          ?_ ?_ ⟨_, _, _, _, _, rfl, rfl, mi, b1, b1', b2, b2', by omega⟩) ?_)
        · rintro j c st _ hj ⟨out, na', nb', ac, bc, rfl, rfl, mi, b1, b1', b2, b2', b4⟩
          dsimp only
          refine wpS_bind (wpS_elem (ga_some (by omega)) (wpS_bind (wpS_elem (ga_some (by omega)) (wpS_bind (C.run _ _ _ _ rfl (hoy _ _ (ga_some (show nb' - 1 < y.size by omega))) (hox _ _ (ga_some (show na' - 1 < x.size by omega))) ?_)))))
          dsimp only
          cases hb : lt (ga y (nb' - 1)) (ga x (na' - 1)) with
          | true =>
            rw [if_pos rfl]
            refine wpS_bind (wpS_elem (ga_some (by omega)) ?_)
            have mi2 := MH.psA C mi (by omega) (by omega) ry (by omega) (by omega) (C.asym _ _ hb)
            by_cases hl : na' - 1 = 0
            · rw [if_pos (by simpa using hl)]
              exact wpS_pure (.inl ⟨_, _, rfl, rfl, MH.enB mi2 hl⟩)
            · rw [if_neg (by simpa using hl)]
              refine ite_split (fun e6 => ?_) fun e6 => ?_
              · exact wpS_pure (.inr ⟨_, _, _, _, _, rfl, rfl, mi2, by omega, by omega, by omega, by omega, by omega⟩)
              · exact wpS_pure ⟨_, _, _, _, _, rfl, rfl, mi2, by omega, by omega, by omega, by omega, by omega⟩
          | false =>
            rw [if_neg Bool.false_ne_true]
            refine wpS_bind (wpS_elem (ga_some (by omega)) ?_)
            have mi2 := MH.psB C mi (by omega) (by omega) rx (by omega) (by omega) hb
            by_cases hl : nb' - 1 = 1
            · rw [if_pos (by simpa using hl)]
              exact wpS_pure (.inl ⟨_, _, rfl, rfl, MH.enA C mi2 hl hy firstx⟩)
            · rw [if_neg (by simpa using hl)]
              refine ite_split (fun e6 => ?_) fun e6 => ?_
              · exact wpS_pure (.inr ⟨_, _, _, _, _, rfl, rfl, mi2, by omega, by omega, by omega, by omega, by omega⟩)
              · exact wpS_pure ⟨_, _, _, _, _, rfl, rfl, mi2, by omega, by omega, by omega, by omega, by omega⟩
        · rintro c st ⟨out, na', nb', ac, bc, rfl, rfl, mi, b1, b1', b2, b2', b4⟩
          exact .inr ⟨_, _, _, _, _, rfl, rfl, mi, b1, b1', b2, b2', by omega⟩
        · rintro c st (⟨r, rest, rfl, rfl, gd⟩ | ⟨out, na', nb', ac, bc, rfl, rfl, mi, b1, b1', b2, b2', b4⟩)
          · dsimp only
            exact wpS_pure ⟨_, _, _, rfl, rfl, gd⟩
          · dsimp only
            refine wpS_bind (wpS_lift (wpAny_rule ⟨rfl, ?_⟩))
            -- by leaps
            refine wpS_bind (wpS_mono (wpS_forRange (fun j c st => ∃ g2 out na2 nb2 mg2 ac bc, st = mkS κ arr p g2 ∧ c = (none, na2, nb2, out, mg2, ac, bc) ∧ MB lt x y out na2 nb2 ∧ 1 ≤ na2 ∧ na2 ≤ x.size ∧ 2 ≤ nb2 ∧ nb2 ≤ y.size ∧ na2 + nb2 ≤ na' + nb')
              (Q := fun c st => ∃ g2, (∃ r rest, st = mkS κ arr p g2 ∧ c = (some r, rest) ∧ GoodA lt x y r) ∨ ∃ out na2 nb2 mg2 ac bc, st = mkS κ arr p g2 ∧ c = (none, na2, nb2, out, mg2, ac, bc) ∧ MB lt x y out na2 nb2 ∧ 1 ≤ na2 ∧ na2 ≤ x.size ∧ 2 ≤ nb2 ∧ nb2 ≤ y.size ∧ na2 + nb2 ≤ na' + nb')
              ?_ ?_ ⟨_, _, _, _, _, _, _, rfl, rfl, mi, b1, b1', b2, b2', Nat.le_refl _⟩) ?_)
            · clear mi b1 b1' b2 b2' b3 b4
              rintro j c st _ hj ⟨g2, out, na, nb, mg2, ac, bc, rfl, rfl, mi, b1, b1', b2, b2', b5⟩
              dsimp only
              refine ite_split (fun e7 => ?_) fun e7 => ?_
              · refine wpS_bind (wpS_modify ?_)
                refine wpS_bind (wpS_elem (ga_some (by omega)) ?_)
                refine wpS_bind (wpS_gal C (left := false) (base := 0) (n := na) (hint := na - 1) rfl (hoy _ _ (ga_some (by omega))) hox (by omega) (by omega) (fun i j hij hj hp => ?_) fun k k1 bef aft => ?_)
                · have hp' : lt (ga y (nb - 1)) (ga x (0 + j)) = false := by simpa [before] using hp
                  show (!lt (ga y (nb - 1)) (ga x (0 + i))) = true
                  rw [C.trans _ _ _ (Rise.ga C rx (show 0 + i ≤ 0 + j by omega) (by omega)) hp']
                  rfl
                · dsimp only
                  have bef' : ∀ j, j < k → lt (ga y (nb - 1)) (ga x j) = false := fun j hj => by simpa [before] using bef j hj
                  have aft' : ∀ j, k ≤ j → j < na → lt (ga x j) (ga y (nb - 1)) = false := fun j j1 j2 => C.asym _ _ (by simpa [before] using aft j j1 j2)
                  by_cases hk : na - k > 0
                  · rw [if_pos hk]
                    have mi2 := MH.bkA C mi (k := k) k1 (by omega) ry (by omega) (by omega) aft'
                    by_cases e1 : k = 0
                    · rw [if_pos (by simpa using e1)]
                      exact wpS_pure ⟨_, .inl ⟨_, _, rfl, rfl, MH.enB mi2 e1⟩⟩
                    · rw [if_neg (by simpa using e1)]
                      refine wpS_bind (wpS_elem (ga_some (by omega)) ?_)
                      have mi3 := MH.psB C mi2 (by omega) (by omega) rx (by omega) (by omega) (bef' (k - 1) (by omega))
                      by_cases e3 : nb - 1 = 1
                      · rw [if_pos (by simpa using e3)]
                        exact wpS_pure ⟨_, .inl ⟨_, _, rfl, rfl, MH.enA C mi3 e3 hy firstx⟩⟩
                      · rw [if_neg (by simpa using e3)]
                        refine wpS_bind (wpS_elem (ga_some (by omega)) ?_)
                        refine wpS_bind (wpS_gal C (left := true) (base := 0) (n := nb - 1) (hint := nb - 1 - 1) rfl (hox _ _ (ga_some (by omega))) hoy (by omega) (by omega) (fun i j hij hj hp => ?_) fun k2 k21 bef2 aft2 => ?_)
                        · have hp' : lt (ga y (0 + j)) (ga x (k - 1)) = true := hp
                          show lt (ga y (0 + i)) (ga x (k - 1)) = true
                          exact lt_of_le_lt C (Rise.ga C ry (by omega) (by omega)) hp'
                        · dsimp only
                          have bef2' : ∀ j, j < k2 → lt (ga x (k - 1)) (ga y j) = false := fun j hj => by
                            have := C.asym _ _ (bef2 j hj)
                            rwa [Nat.zero_add] at this
                          have aft2' : ∀ j, k2 ≤ j → j < nb - 1 → lt (ga y j) (ga x (k - 1)) = false := fun j j1 j2 => by
                            have := aft2 j j1 j2
                            rw [Nat.zero_add] at this
                            exact this
                          have kp : 1 ≤ k2 := by
                            by_cases c : 1 ≤ k2
                            · exact c
                            · have h1 := aft2' 0 (by omega) (by omega)
                              have h2 := first _ (mem_ga (a := x) (i := k - 1) (by omega))
                              rw [h2] at h1
                              cases h1
                          by_cases hk2 : nb - 1 - k2 > 0
                          · rw [if_pos hk2]
                            have mi4 := MH.bkB C mi3 (k := k2) k21 (by omega) rx (by omega) (by omega) aft2'
                            by_cases e4 : k2 = 1
                            · rw [if_pos (by simpa using e4)]
                              exact wpS_pure ⟨_, .inl ⟨_, _, rfl, rfl, MH.enA C mi4 e4 hy firstx⟩⟩
                            · rw [if_neg (by simpa using e4), if_neg (by simp; omega)]
                              refine wpS_bind (wpS_elem (ga_some (by omega)) ?_)
                              have mi5 := MH.psA C mi4 (by omega) (by omega) ry (by omega) (by omega) (bef2' (k2 - 1) (by omega))
                              by_cases e5 : k - 1 = 0
                              · rw [if_pos (by simpa using e5)]
                                exact wpS_pure ⟨_, .inl ⟨_, _, rfl, rfl, MH.enB mi5 e5⟩⟩
                              · rw [if_neg (by simpa using e5)]
                                refine ite_split (fun e6 => ?_) fun e6 => ?_
                                · exact wpS_pure ⟨_, .inr ⟨_, _, _, _, _, _, rfl, rfl, mi5, by omega, by omega, by omega, by omega, by omega⟩⟩
                                · exact wpS_pure ⟨_, _, _, _, _, _, _, rfl, rfl, mi5, by omega, by omega, by omega, by omega, by omega⟩
                          · rw [if_neg hk2]
                            have k0 : k2 = nb - 1 := by omega
                            refine wpS_bind (wpS_elem (ga_some (by omega)) ?_)
                            have mi5 := MH.psA C mi3 (by omega) (by omega) ry (by omega) (by omega) (bef2' (nb - 1 - 1) (by omega))
                            by_cases e5 : k - 1 = 0
                            · rw [if_pos (by simpa using e5)]
                              exact wpS_pure ⟨_, .inl ⟨_, _, rfl, rfl, MH.enB mi5 e5⟩⟩
                            · rw [if_neg (by simpa using e5)]
                              refine ite_split (fun e6 => ?_) fun e6 => ?_
                              · exact wpS_pure ⟨_, .inr ⟨_, _, _, _, _, _, rfl, rfl, mi5, by omega, by omega, by omega, by omega, by omega⟩⟩
                              · exact wpS_pure ⟨_, _, _, _, _, _, _, rfl, rfl, mi5, by omega, by omega, by omega, by omega, by omega⟩
                  · rw [if_neg hk]
                    have k0 : k = na := by omega
                    refine wpS_bind (wpS_elem (ga_some (by omega)) ?_)
                    have mi3 := MH.psB C mi (by omega) (by omega) rx (by omega) (by omega) (bef' (na - 1) (by omega))
                    by_cases e3 : nb - 1 = 1
                    · rw [if_pos (by simpa using e3)]
                      exact wpS_pure ⟨_, .inl ⟨_, _, rfl, rfl, MH.enA C mi3 e3 hy firstx⟩⟩
                    · rw [if_neg (by simpa using e3)]
                      refine wpS_bind (wpS_elem (ga_some (by omega)) ?_)
                      refine wpS_bind (wpS_gal C (left := true) (base := 0) (n := nb - 1) (hint := nb - 1 - 1) rfl (hox _ _ (ga_some (by omega))) hoy (by omega) (by omega) (fun i j hij hj hp => ?_) fun k2 k21 bef2 aft2 => ?_)
                      · have hp' : lt (ga y (0 + j)) (ga x (na - 1)) = true := hp
                        show lt (ga y (0 + i)) (ga x (na - 1)) = true
                        exact lt_of_le_lt C (Rise.ga C ry (by omega) (by omega)) hp'
                      · dsimp only
                        have bef2' : ∀ j, j < k2 → lt (ga x (na - 1)) (ga y j) = false := fun j hj => by
                          have := C.asym _ _ (bef2 j hj)
                          rwa [Nat.zero_add] at this
                        have aft2' : ∀ j, k2 ≤ j → j < nb - 1 → lt (ga y j) (ga x (na - 1)) = false := fun j j1 j2 => by
                          have := aft2 j j1 j2
                          rw [Nat.zero_add] at this
                          exact this
                        have kp : 1 ≤ k2 := by
                          by_cases c : 1 ≤ k2
                          · exact c
                          · have h1 := aft2' 0 (by omega) (by omega)
                            have h2 := first _ (mem_ga (a := x) (i := na - 1) (by omega))
                            rw [h2] at h1
                            cases h1
                        by_cases hk2 : nb - 1 - k2 > 0
                        · rw [if_pos hk2]
                          have mi4 := MH.bkB C mi3 (k := k2) k21 (by omega) rx (by omega) (by omega) aft2'
                          by_cases e4 : k2 = 1
                          · rw [if_pos (by simpa using e4)]
                            exact wpS_pure ⟨_, .inl ⟨_, _, rfl, rfl, MH.enA C mi4 e4 hy firstx⟩⟩
                          · rw [if_neg (by simpa using e4), if_neg (by simp; omega)]
                            refine wpS_bind (wpS_elem (ga_some (by omega)) ?_)
                            have mi5 := MH.psA C mi4 (by omega) (by omega) ry (by omega) (by omega) (bef2' (k2 - 1) (by omega))
                            by_cases e5 : na - 1 = 0
                            · rw [if_pos (by simpa using e5)]
                              exact wpS_pure ⟨_, .inl ⟨_, _, rfl, rfl, MH.enB mi5 e5⟩⟩
                            · rw [if_neg (by simpa using e5)]
                              refine ite_split (fun e6 => ?_) fun e6 => ?_
                              · exact wpS_pure ⟨_, .inr ⟨_, _, _, _, _, _, rfl, rfl, mi5, by omega, by omega, by omega, by omega, by omega⟩⟩
                              · exact wpS_pure ⟨_, _, _, _, _, _, _, rfl, rfl, mi5, by omega, by omega, by omega, by omega, by omega⟩
                        · rw [if_neg hk2]
                          have k0 : k2 = nb - 1 := by omega
                          refine wpS_bind (wpS_elem (ga_some (by omega)) ?_)
                          have mi5 := MH.psA C mi3 (by omega) (by omega) ry (by omega) (by omega) (bef2' (nb - 1 - 1) (by omega))
                          by_cases e5 : na - 1 = 0
                          · rw [if_pos (by simpa using e5)]
                            exact wpS_pure ⟨_, .inl ⟨_, _, rfl, rfl, MH.enB mi5 e5⟩⟩
                          · rw [if_neg (by simpa using e5)]
                            refine ite_split (fun e6 => ?_) fun e6 => ?_
                            · exact wpS_pure ⟨_, .inr ⟨_, _, _, _, _, _, rfl, rfl, mi5, by omega, by omega, by omega, by omega, by omega⟩⟩
                            · exact wpS_pure ⟨_, _, _, _, _, _, _, rfl, rfl, mi5, by omega, by omega, by omega, by omega, by omega⟩
              · refine wpS_bind (wpS_modify ?_)
                refine wpS_bind (wpS_elem (ga_some (by omega)) ?_)
                refine wpS_bind (wpS_gal C (left := false) (base := 0) (n := na) (hint := na - 1) rfl (hoy _ _ (ga_some (by omega))) hox (by omega) (by omega) (fun i j hij hj hp => ?_) fun k k1 bef aft => ?_)
                · have hp' : lt (ga y (nb - 1)) (ga x (0 + j)) = false := by simpa [before] using hp
                  show (!lt (ga y (nb - 1)) (ga x (0 + i))) = true
                  rw [C.trans _ _ _ (Rise.ga C rx (show 0 + i ≤ 0 + j by omega) (by omega)) hp']
                  rfl
                · dsimp only
                  have bef' : ∀ j, j < k → lt (ga y (nb - 1)) (ga x j) = false := fun j hj => by simpa [before] using bef j hj
                  have aft' : ∀ j, k ≤ j → j < na → lt (ga x j) (ga y (nb - 1)) = false := fun j j1 j2 => C.asym _ _ (by simpa [before] using aft j j1 j2)
                  by_cases hk : na - k > 0
                  · rw [if_pos hk]
                    have mi2 := MH.bkA C mi (k := k) k1 (by omega) ry (by omega) (by omega) aft'
                    by_cases e1 : k = 0
                    · rw [if_pos (by simpa using e1)]
                      exact wpS_pure ⟨_, .inl ⟨_, _, rfl, rfl, MH.enB mi2 e1⟩⟩
                    · rw [if_neg (by simpa using e1)]
                      refine wpS_bind (wpS_elem (ga_some (by omega)) ?_)
                      have mi3 := MH.psB C mi2 (by omega) (by omega) rx (by omega) (by omega) (bef' (k - 1) (by omega))
                      by_cases e3 : nb - 1 = 1
                      · rw [if_pos (by simpa using e3)]
                        exact wpS_pure ⟨_, .inl ⟨_, _, rfl, rfl, MH.enA C mi3 e3 hy firstx⟩⟩
                      · rw [if_neg (by simpa using e3)]
                        refine wpS_bind (wpS_elem (ga_some (by omega)) ?_)
                        refine wpS_bind (wpS_gal C (left := true) (base := 0) (n := nb - 1) (hint := nb - 1 - 1) rfl (hox _ _ (ga_some (by omega))) hoy (by omega) (by omega) (fun i j hij hj hp => ?_) fun k2 k21 bef2 aft2 => ?_)
                        · have hp' : lt (ga y (0 + j)) (ga x (k - 1)) = true := hp
                          show lt (ga y (0 + i)) (ga x (k - 1)) = true
                          exact lt_of_le_lt C (Rise.ga C ry (by omega) (by omega)) hp'
                        · dsimp only
                          have bef2' : ∀ j, j < k2 → lt (ga x (k - 1)) (ga y j) = false := fun j hj => by
                            have := C.asym _ _ (bef2 j hj)
                            rwa [Nat.zero_add] at this
                          have aft2' : ∀ j, k2 ≤ j → j < nb - 1 → lt (ga y j) (ga x (k - 1)) = false := fun j j1 j2 => by
                            have := aft2 j j1 j2
                            rw [Nat.zero_add] at this
                            exact this
                          have kp : 1 ≤ k2 := by
                            by_cases c : 1 ≤ k2
                            · exact c
                            · have h1 := aft2' 0 (by omega) (by omega)
                              have h2 := first _ (mem_ga (a := x) (i := k - 1) (by omega))
                              rw [h2] at h1
                              cases h1
                          by_cases hk2 : nb - 1 - k2 > 0
                          · rw [if_pos hk2]
                            have mi4 := MH.bkB C mi3 (k := k2) k21 (by omega) rx (by omega) (by omega) aft2'
                            by_cases e4 : k2 = 1
                            · rw [if_pos (by simpa using e4)]
                              exact wpS_pure ⟨_, .inl ⟨_, _, rfl, rfl, MH.enA C mi4 e4 hy firstx⟩⟩
                            · rw [if_neg (by simpa using e4), if_neg (by simp; omega)]
                              refine wpS_bind (wpS_elem (ga_some (by omega)) ?_)
                              have mi5 := MH.psA C mi4 (by omega) (by omega) ry (by omega) (by omega) (bef2' (k2 - 1) (by omega))
                              by_cases e5 : k - 1 = 0
                              · rw [if_pos (by simpa using e5)]
                                exact wpS_pure ⟨_, .inl ⟨_, _, rfl, rfl, MH.enB mi5 e5⟩⟩
                              · rw [if_neg (by simpa using e5)]
                                refine ite_split (fun e6 => ?_) fun e6 => ?_
                                · exact wpS_pure ⟨_, .inr ⟨_, _, _, _, _, _, rfl, rfl, mi5, by omega, by omega, by omega, by omega, by omega⟩⟩
                                · exact wpS_pure ⟨_, _, _, _, _, _, _, rfl, rfl, mi5, by omega, by omega, by omega, by omega, by omega⟩
                          · rw [if_neg hk2]
                            have k0 : k2 = nb - 1 := by omega
                            refine wpS_bind (wpS_elem (ga_some (by omega)) ?_)
                            have mi5 := MH.psA C mi3 (by omega) (by omega) ry (by omega) (by omega) (bef2' (nb - 1 - 1) (by omega))
                            by_cases e5 : k - 1 = 0
                            · rw [if_pos (by simpa using e5)]
                              exact wpS_pure ⟨_, .inl ⟨_, _, rfl, rfl, MH.enB mi5 e5⟩⟩
                            · rw [if_neg (by simpa using e5)]
                              refine ite_split (fun e6 => ?_) fun e6 => ?_
                              · exact wpS_pure ⟨_, .inr ⟨_, _, _, _, _, _, rfl, rfl, mi5, by omega, by omega, by omega, by omega, by omega⟩⟩
                              · exact wpS_pure ⟨_, _, _, _, _, _, _, rfl, rfl, mi5, by omega, by omega, by omega, by omega, by omega⟩
                  · rw [if_neg hk]
                    have k0 : k = na := by omega
                    refine wpS_bind (wpS_elem (ga_some (by omega)) ?_)
                    have mi3 := MH.psB C mi (by omega) (by omega) rx (by omega) (by omega) (bef' (na - 1) (by omega))
                    by_cases e3 : nb - 1 = 1
                    · rw [if_pos (by simpa using e3)]
                      exact wpS_pure ⟨_, .inl ⟨_, _, rfl, rfl, MH.enA C mi3 e3 hy firstx⟩⟩
                    · rw [if_neg (by simpa using e3)]
                      refine wpS_bind (wpS_elem (ga_some (by omega)) ?_)
                      refine wpS_bind (wpS_gal C (left := true) (base := 0) (n := nb - 1) (hint := nb - 1 - 1) rfl (hox _ _ (ga_some (by omega))) hoy (by omega) (by omega) (fun i j hij hj hp => ?_) fun k2 k21 bef2 aft2 => ?_)
                      · have hp' : lt (ga y (0 + j)) (ga x (na - 1)) = true := hp
                        show lt (ga y (0 + i)) (ga x (na - 1)) = true
                        exact lt_of_le_lt C (Rise.ga C ry (by omega) (by omega)) hp'
                      · dsimp only
                        have bef2' : ∀ j, j < k2 → lt (ga x (na - 1)) (ga y j) = false := fun j hj => by
                          have := C.asym _ _ (bef2 j hj)
                          rwa [Nat.zero_add] at this
                        have aft2' : ∀ j, k2 ≤ j → j < nb - 1 → lt (ga y j) (ga x (na - 1)) = false := fun j j1 j2 => by
                          have := aft2 j j1 j2
                          rw [Nat.zero_add] at this
                          exact this
                        have kp : 1 ≤ k2 := by
                          by_cases c : 1 ≤ k2
                          · exact c
                          · have h1 := aft2' 0 (by omega) (by omega)
                            have h2 := first _ (mem_ga (a := x) (i := na - 1) (by omega))
                            rw [h2] at h1
                            cases h1
                        by_cases hk2 : nb - 1 - k2 > 0
                        · rw [if_pos hk2]
                          have mi4 := MH.bkB C mi3 (k := k2) k21 (by omega) rx (by omega) (by omega) aft2'
                          by_cases e4 : k2 = 1
                          · rw [if_pos (by simpa using e4)]
                            exact wpS_pure ⟨_, .inl ⟨_, _, rfl, rfl, MH.enA C mi4 e4 hy firstx⟩⟩
                          · rw [if_neg (by simpa using e4), if_neg (by simp; omega)]
                            refine wpS_bind (wpS_elem (ga_some (by omega)) ?_)
                            have mi5 := MH.psA C mi4 (by omega) (by omega) ry (by omega) (by omega) (bef2' (k2 - 1) (by omega))
                            by_cases e5 : na - 1 = 0
                            · rw [if_pos (by simpa using e5)]
                              exact wpS_pure ⟨_, .inl ⟨_, _, rfl, rfl, MH.enB mi5 e5⟩⟩
                            · rw [if_neg (by simpa using e5)]
                              refine ite_split (fun e6 => ?_) fun e6 => ?_
                              · exact wpS_pure ⟨_, .inr ⟨_, _, _, _, _, _, rfl, rfl, mi5, by omega, by omega, by omega, by omega, by omega⟩⟩
                              · exact wpS_pure ⟨_, _, _, _, _, _, _, rfl, rfl, mi5, by omega, by omega, by omega, by omega, by omega⟩
                        · rw [if_neg hk2]
                          have k0 : k2 = nb - 1 := by omega
                          refine wpS_bind (wpS_elem (ga_some (by omega)) ?_)
                          have mi5 := MH.psA C mi3 (by omega) (by omega) ry (by omega) (by omega) (bef2' (nb - 1 - 1) (by omega))
                          by_cases e5 : na - 1 = 0
                          · rw [if_pos (by simpa using e5)]
                            exact wpS_pure ⟨_, .inl ⟨_, _, rfl, rfl, MH.enB mi5 e5⟩⟩
                          · rw [if_neg (by simpa using e5)]
                            refine ite_split (fun e6 => ?_) fun e6 => ?_
                            · exact wpS_pure ⟨_, .inr ⟨_, _, _, _, _, _, rfl, rfl, mi5, by omega, by omega, by omega, by omega, by omega⟩⟩
                            · exact wpS_pure ⟨_, _, _, _, _, _, _, rfl, rfl, mi5, by omega, by omega, by omega, by omega, by omega⟩
            · rintro c st ⟨g2, out, na2, nb2, mg2, ac, bc, rfl, rfl, mi, b1, b1', b2, b2', b5⟩
              exact ⟨_, .inr ⟨_, _, _, _, _, _, rfl, rfl, mi, b1, b1', b2, b2', b5⟩⟩
            · rintro c st ⟨g2, ⟨r, rest, rfl, rfl, gd⟩ | ⟨out, na2, nb2, mg2, ac, bc, rfl, rfl, mi, b1, b1', b2, b2', b5⟩⟩
              · dsimp only
                exact wpS_pure ⟨_, _, _, rfl, rfl, gd⟩
              · dsimp only
                refine wpS_bind (wpS_modify (wpS_pure ⟨_, _, _, _, _, rfl, rfl, mi, b1, b1', b2, b2', by omega⟩))
      · rintro c st ⟨g', out, na, nb, mg, rfl, rfl, mi, b1, b1', b2, b2', b3⟩
        exfalso
        omega
      · rintro c st ⟨g', r, rest, rfl, rfl, gd⟩
        dsimp only
        exact wpS_pure (q r g' gd)
end
end Srt

set_option Elab.async false
set_option linter.all false
set_option maxRecDepth 100000
set_option maxHeartbeats 4000000
namespace Srt
open PySem PyProof.Rows
/-- written over from place s on -/
def wr (a : Array Keyed) (s : Nat) (m : List Keyed) (k : Nat) : Array Keyed := (m.zipIdx k).foldl (fun a (q : Keyed × Nat) => a.setIfInBounds (s + q.2) q.1) a
theorem wr_get (s : Nat) : ∀ (m : List Keyed) (k : Nat) (a : Array Keyed) (i : Nat), s + k + m.length ≤ a.size → (wr a s m k)[i]? = if s + k ≤ i ∧ i < s + k + m.length then m[i - (s + k)]? else a[i]?
  | [], k, a, i, _ => by
    rw [if_neg (by simp)]
    rfl
  | x :: m, k, a, i, h => by
    have e : wr a s (x :: m) k = wr (a.setIfInBounds (s + k) x) s m (k + 1) := by
      unfold wr
      rw [List.zipIdx_cons, List.foldl_cons]
    rw [List.length_cons] at h
    rw [e, wr_get s m (k + 1) _ i (by rw [Array.size_setIfInBounds]; omega)]
    by_cases c : i = s + k
    · subst c
      rw [if_neg (by omega), if_pos ⟨Nat.le_refl _, by rw [List.length_cons]; omega⟩, Nat.sub_self, Array.getElem?_setIfInBounds, if_pos rfl, if_pos (by omega)]
      rfl
    · by_cases c2 : s + k ≤ i ∧ i < s + k + (m.length + 1)
      · rw [if_pos (by omega), if_pos (by rw [List.length_cons]; exact c2)]
        obtain ⟨d, hd⟩ : ∃ d, i - (s + k) = d + 1 := ⟨i - (s + k) - 1, by omega⟩
        rw [hd, List.getElem?_cons_succ]
        congr 1
        omega
      · rw [if_neg (by omega), if_neg (by rw [List.length_cons]; exact c2), Array.getElem?_setIfInBounds, if_neg (by omega)]
section
variable {M : Model} {A : Around} {E : Value → Shared → Prop} {s : Shared} {κ : SortKind} {lt : Keyed → Keyed → Bool} {ok : Keyed → Prop}
theorem wr_list {a : Array Keyed} {s : Nat} {m : Array Keyed} (h : s + m.size ≤ a.size) : (wr a s m.toList 0).toList = a.toList.take s ++ m.toList ++ a.toList.drop (s + m.size) := by
  apply List.ext_getElem?
  intro i
  have hl : m.toList.length = m.size := Array.length_toList
  rw [Array.getElem?_toList, wr_get s m.toList 0 a i (by rw [hl]; omega), Nat.add_zero, hl]
  by_cases c1 : i < s
  · rw [if_neg (by omega), List.append_assoc, List.getElem?_append_left (by rw [List.length_take, Array.length_toList]; omega), List.getElem?_take, if_pos c1, Array.getElem?_toList]
  · by_cases c2 : i < s + m.size
    · rw [if_pos ⟨by omega, c2⟩, List.append_assoc, List.getElem?_append_right (by rw [List.length_take, Array.length_toList]; omega), List.length_take, Array.length_toList, Nat.min_eq_left (by omega), List.getElem?_append_left (by rw [hl]; omega)]
    · rw [if_neg (by omega), List.getElem?_append_right (by rw [List.length_append, List.length_take, Array.length_toList, hl]; omega), List.length_append, List.length_take, Array.length_toList, hl, Nat.min_eq_left (by omega), List.getElem?_drop, Array.getElem?_toList]
      congr 1
      omega
theorem wr_perm {a : Array Keyed} {s : Nat} {m : Array Keyed} (h : s + m.size ≤ a.size) (hp : m.toList.Perm ((a.toList.drop s).take m.size)) : (wr a s m.toList 0).Perm a := by
  refine Array.perm_iff_toList_perm.mpr ?_
  rw [wr_list h]
  have e : a.toList = a.toList.take s ++ (a.toList.drop s).take m.size ++ a.toList.drop (s + m.size) := by
    rw [List.append_assoc, ← List.drop_drop, List.take_append_drop, List.take_append_drop]
  conv => rhs; rw [e]
  exact (hp.append_left _).append_right _
theorem up_ga {a : Array Keyed} {lo hi : Nat} (h : Up lt a lo hi) (hz : hi ≤ a.size) {i j : Nat} (h1 : lo ≤ i) (h2 : i ≤ j) (h3 : j < hi) : lt (ga a j) (ga a i) = false := h i j _ _ h1 h2 h3 (ga_some (by omega)) (ga_some (by omega))
theorem ga_ext {a : Array Keyed} {i j k : Nat} (hj : j ≤ a.size) (hk : k < j - i) : ga (a.extract i j) k = ga a (i + k) := by
  unfold ga
  rw [Array.getElem?_extract, if_pos (by omega)]
theorem rise_ext {a : Array Keyed} {lo hi : Nat} (h : Up lt a lo hi) (hz : hi ≤ a.size) {i j : Nat} (h1 : lo ≤ i) (h2 : j ≤ hi) : Rise lt (a.extract i j).toList := by
  refine List.pairwise_iff_getElem.mpr fun k l hk hl hkl => ?_
  have sz : (a.extract i j).size = min j a.size - i := by simp
  have e1 : (a.extract i j).toList[k] = ga a (i + k) := by
    rw [← ga_list, ga_ext (by omega)]
    rw [Array.length_toList, sz] at hk
    omega
  have e2 : (a.extract i j).toList[l] = ga a (i + l) := by
    rw [← ga_list, ga_ext (by omega)]
    rw [Array.length_toList, sz] at hl
    omega
  rw [e1, e2]
  rw [Array.length_toList, sz] at hl
  exact up_ga h hz (by omega) (by omega) (by omega)
theorem mem_ext {a : Array Keyed} {i j : Nat} {u : Keyed} (hj : j ≤ a.size) (h : u ∈ (a.extract i j).toList) : ∃ k, i ≤ k ∧ k < j ∧ u = ga a k := by
  rw [ext_list] at h
  obtain ⟨k, k1, k2, rfl⟩ := mem_drop_take h
  exact ⟨i + k, by omega, by omega, rfl⟩
theorem AllOk.ext {a : Array Keyed} (h : AllOk ok a) (i j : Nat) : AllOk ok (a.extract i j) := fun k x e => by
  rw [Array.getElem?_extract] at e
  split at e
  · exact h _ x e
  · cases e
/-- the middle part merged: the whole is risen -/
theorem merged_up (C : Cmp M A E s κ lt ok) {a r : Array Keyed} {sa sm sb sn se : Nat} (h1 : sa ≤ sm) (h2 : sm < sb) (h3 : sb < sn) (h4 : sn ≤ se) (hz : se ≤ a.size) (ua : Up lt a sa sb) (ub : Up lt a sb se)
    (lo : ∀ i, sa ≤ i → i < sm → lt (ga a sb) (ga a i) = false) (hi : ∀ j, sn ≤ j → j < se → lt (ga a j) (ga a (sb - 1)) = false) (hr : GoodA lt (a.extract sm sb) (a.extract sb sn) r) :
    Within a (wr a sm r.toList 0) sa se ∧ Up lt (wr a sm r.toList 0) sa se := by
  obtain ⟨rise, perm⟩ := hr
  have rs : r.size = sn - sm := by
    have e := perm.length_eq
    rw [List.length_append, Array.length_toList, Array.length_toList, Array.length_toList, Array.size_extract, Array.size_extract, Nat.min_eq_left (by omega), Nat.min_eq_left (by omega)] at e
    omega
  have hin : sm + r.size ≤ a.size := by omega
  have get : ∀ i, (wr a sm r.toList 0)[i]? = if sm ≤ i ∧ i < sn then r[i - sm]? else a[i]? := fun i => by
    rw [wr_get sm r.toList 0 a i (by rw [Array.length_toList]; omega), Nat.add_zero, Array.length_toList, show sm + r.size = sn by omega]
    rw [Array.getElem?_toList]
  have mid : ∀ i x, sm ≤ i → i < sn → (wr a sm r.toList 0)[i]? = some x → ∃ k, sm ≤ k ∧ k < sn ∧ x = ga a k := fun i x b1 b2 e => by
    rw [get, if_pos ⟨b1, b2⟩] at e
    have m : x ∈ r.toList := by
      rw [← Array.getElem?_toList] at e
      exact List.mem_of_getElem? e
    rcases List.mem_append.mp (perm.mem_iff.mp m) with m | m
    · obtain ⟨k, k1, k2, rfl⟩ := mem_ext (by omega) m
      exact ⟨k, k1, by omega, rfl⟩
    · obtain ⟨k, k1, k2, rfl⟩ := mem_ext (by omega) m
      exact ⟨k, by omega, k2, rfl⟩
  refine ⟨⟨wr_perm hin ?_, fun k hk => by rw [get, if_neg (by omega)]⟩, ?_⟩
  · refine perm.trans ?_
    rw [ext_list, ext_list, rs]
    have e : (a.toList.drop sm).take (sn - sm) = (a.toList.drop sm).take (sb - sm) ++ (a.toList.drop sb).take (sn - sb) := by
      rw [show sn - sm = (sb - sm) + (sn - sb) by omega, List.take_add, List.drop_drop, show sm + (sb - sm) = sb by omega]
    rw [e]
  · intro i j x y b1 b2 b3 e1 e2
    -- what stands at a place
    have low : ∀ k, sa ≤ k → k < sm → ∀ k', sm ≤ k' → k' < se → lt (ga a k') (ga a k) = false := fun k c1 c2 k' c3 c4 => by
      by_cases c : k' < sb
      · exact up_ga ua (by omega) c1 (by omega) c
      · exact C.trans _ _ _ (lo k c1 c2) (up_ga ub hz (Nat.le_refl _) (by omega) c4)
    have high : ∀ k, sm ≤ k → k < sn → ∀ k', sn ≤ k' → k' < se → lt (ga a k') (ga a k) = false := fun k c1 c2 k' c3 c4 => by
      by_cases c : k < sb
      · exact C.trans _ _ _ (up_ga ua (by omega) (by omega) (by omega) (by omega)) (hi k' c3 c4)
      · exact up_ga ub hz (by omega) (by omega) c4
    by_cases i1 : i < sm
    · rw [get, if_neg (by omega)] at e1
      obtain rfl := ga_of e1
      by_cases j1 : j < sm
      · rw [get, if_neg (by omega)] at e2
        obtain rfl := ga_of e2
        exact up_ga ua (by omega) b1 b2 (by omega)
      · by_cases j2 : j < sn
        · obtain ⟨k, k1, k2, rfl⟩ := mid j y (by omega) j2 e2
          exact low i b1 i1 k k1 (by omega)
        · rw [get, if_neg (by omega)] at e2
          obtain rfl := ga_of e2
          exact low i b1 i1 j (by omega) b3
    · by_cases i2 : i < sn
      · by_cases j2 : j < sn
        · rw [get, if_pos (by omega)] at e1 e2
          by_cases ij : i = j
          · subst ij
            rw [e1] at e2
            cases e2
            exact C.refl x
          · have r1 : i - sm < r.toList.length := by rw [Array.length_toList]; omega
            have r2 : j - sm < r.toList.length := by rw [Array.length_toList]; omega
            have := List.pairwise_iff_getElem.mp rise (i - sm) (j - sm) r1 r2 (by omega)
            rw [← Array.getElem?_toList, List.getElem?_eq_getElem r1] at e1
            rw [← Array.getElem?_toList, List.getElem?_eq_getElem r2] at e2
            cases e1
            cases e2
            exact this
        · obtain ⟨k, k1, k2, rfl⟩ := mid i x (by omega) i2 e1
          rw [get, if_neg (by omega)] at e2
          obtain rfl := ga_of e2
          exact high k k1 k2 j (by omega) b3
      · rw [get, if_neg (by omega)] at e1 e2
        obtain rfl := ga_of e1
        obtain rfl := ga_of e2
        exact up_ga ub hz (by omega) b2 b3
theorem up_join (C : Cmp M A E s κ lt ok) {a : Array Keyed} {sa sb se : Nat} (hza : sb ≤ a.size) (hz : se ≤ a.size) (ua : Up lt a sa sb) (ub : Up lt a sb se) (h : ∀ i, sa ≤ i → i < sb → lt (ga a sb) (ga a i) = false) : Up lt a sa se := by
  intro i j x y b1 b2 b3 e1 e2
  obtain rfl := ga_of e1
  obtain rfl := ga_of e2
  by_cases c : j < sb
  · exact up_ga ua hza b1 b2 c
  · by_cases d : i < sb
    · exact C.trans _ _ _ (h i b1 d) (up_ga ub hz (Nat.le_refl _) (by omega) b3)
    · exact up_ga ub hz (by omega) b2 b3
theorem AllOk.ga {a : Array Keyed} (h : AllOk ok a) {i : Nat} (hi : i < a.size) : ok (Srt.ga a i) := h i _ (ga_some hi)
/-- two runs that lie side by side become one -/
theorem wpS_merge (C : Cmp M A E s κ lt ok) {a : Array Keyed} {p : Array (Nat × Nat × Nat)} {g i sa na sb nb pw pw2 : Nat} {Q : Bool → SortSt → Prop} (ho : AllOk ok a) (hp1 : p[i]? = some (sa, na, pw)) (hp2 : p[i + 1]? = some (sb, nb, pw2)) (hs : sb = sa + na) (hna : 1 ≤ na) (hnb : 1 ≤ nb)
    (hz : sb + nb ≤ a.size) (ua : Up lt a sa sb) (ub : Up lt a sb (sb + nb))
    (q : ∀ a' g', Within a a' sa (sb + nb) → Up lt a' sa (sb + nb) → Q true (mkS κ a' ((p.setIfInBounds i (sa, na + nb, pw)).eraseIdxIfInBounds (i + 1)) g')) : wpS M A E s (mergeAt' i) Q (mkS κ a p g) := by
  have hza : sb ≤ a.size := by omega
  refine wpS_bind (wpS_get ?_)
  show wpS M A E s (match (p[i]?, p[i + 1]?) with | (some (sa, na, power), some (sb, nb, _)) => _ | _ => _) Q _
  rw [hp1, hp2]
  dsimp only
  refine wpS_bind (wpS_modify (f := fun _ => mkS κ a ((p.setIfInBounds i (sa, na + nb, pw)).eraseIdxIfInBounds (i + 1)) g) ?_)
  refine wpS_bind (wpS_elem (ga_some (show sb < a.size by omega)) ?_)
  refine wpS_bind (wpS_gal C (left := false) (key := Srt.ga a sb) (arr := a) (base := sa) (n := na) (hint := 0) rfl (ho.ga (by omega)) ho (by omega) (by omega) (fun i j h1 h2 h3 => ?_) fun k hk kl kr => ?_)
  · have h3 : (!lt (ga a sb) (ga a (sa + j))) = true := h3
    show (!lt (ga a sb) (ga a (sa + i))) = true
    rw [Bool.not_eq_true'] at h3 ⊢
    exact C.trans _ _ _ (up_ga ua hza (i := sa + i) (j := sa + j) (by omega) (by omega) (by omega)) h3
  have kl : ∀ j, j < k → lt (ga a sb) (ga a (sa + j)) = false := fun j hj => by
    have : (!lt (ga a sb) (ga a (sa + j))) = true := kl j hj
    simpa using this
  have kr : ∀ j, k ≤ j → j < na → lt (ga a sb) (ga a (sa + j)) = true := fun j h1 h2 => by
    have : (!lt (ga a sb) (ga a (sa + j))) = false := kr j h1 h2
    simpa using this
  dsimp only
  by_cases hk0 : na - k = 0
  · rw [if_pos (by simp [hk0])]
    refine wpS_pure (q a g (Within.refl _ _ _) (up_join C hza hz ua ub fun i h1 h2 => ?_))
    have := kl (i - sa) (by omega)
    rwa [show sa + (i - sa) = i by omega] at this
  rw [if_neg (by simp [hk0])]
  refine wpS_bind (wpS_elem (ga_some (show sa + k + (na - k) - 1 < a.size by omega)) ?_)
  rw [show sa + k + (na - k) - 1 = sb - 1 by omega]
  refine wpS_bind (wpS_gal C (left := true) (key := Srt.ga a (sb - 1)) (arr := a) (base := sb) (n := nb) (hint := nb - 1) rfl (ho.ga (by omega)) ho (by omega) (by omega) (fun i j h1 h2 h3 => ?_) fun m hm ml mr => ?_)
  · have h3 : lt (ga a (sb + j)) (ga a (sb - 1)) = true := h3
    show lt (ga a (sb + i)) (ga a (sb - 1)) = true
    exact lt_of_le_lt C (up_ga ub hz (i := sb + i) (j := sb + j) (by omega) (by omega) (by omega)) h3
  have ml : ∀ j, j < m → lt (ga a (sb + j)) (ga a (sb - 1)) = true := ml
  have mr : ∀ j, m ≤ j → j < nb → lt (ga a (sb + j)) (ga a (sb - 1)) = false := mr
  dsimp only
  have hm0 : m ≠ 0 := by
    rintro rfl
    have h1 := mr 0 (Nat.le_refl _) hnb
    have h2 := kr (na - 1) (by omega) (by omega)
    rw [show sa + (na - 1) = sb - 1 by omega] at h2
    rw [Nat.add_zero, h2] at h1
    cases h1
  rw [if_neg (by simp [hm0])]
  have sx : (a.extract (sa + k) sb).size = na - k := by rw [Array.size_extract]; omega
  have sy : (a.extract sb (sb + m)).size = m := by rw [Array.size_extract]; omega
  have y0 : ga (a.extract sb (sb + m)) 0 = ga a sb := by rw [ga_ext (by omega) (by omega), Nat.add_zero]
  have xl : ga (a.extract (sa + k) sb) ((a.extract (sa + k) sb).size - 1) = ga a (sb - 1) := by rw [sx, ga_ext (by omega) (by omega)]; congr 1; omega
  have fst : ∀ u ∈ (a.extract (sa + k) sb).toList, lt (ga (a.extract sb (sb + m)) 0) u = true := fun u hu => by
    obtain ⟨j, j1, j2, rfl⟩ := mem_ext hza hu
    rw [y0]
    have := kr (j - sa) (by omega) (by omega)
    rwa [show sa + (j - sa) = j by omega] at this
  have lst : ∀ v ∈ (a.extract sb (sb + m)).toList, lt v (ga (a.extract (sa + k) sb) ((a.extract (sa + k) sb).size - 1)) = true := fun v hv => by
    obtain ⟨j, j1, j2, rfl⟩ := mem_ext (by omega) hv
    rw [xl]
    have := ml (j - sb) (by omega)
    rwa [show sb + (j - sb) = j by omega] at this
  have fin : ∀ r, GoodA lt (a.extract (sa + k) sb) (a.extract sb (sb + m)) r → Within a (wr a (sa + k) r.toList 0) sa (sb + nb) ∧ Up lt (wr a (sa + k) r.toList 0) sa (sb + nb) := fun r hr =>
    merged_up C (by omega) (by omega) (by omega) (by omega) hz ua ub (fun i h1 h2 => by
      have := kl (i - sa) (by omega)
      rwa [show sa + (i - sa) = i by omega] at this) (fun j h1 h2 => by
      have := mr (j - sb) (by omega) (by omega)
      rwa [show sb + (j - sb) = j by omega] at this) hr
  by_cases hc : na - k ≤ m
  · rw [if_pos hc]
    refine wpS_bind (wpS_mLo C (ho.ext _ _) (ho.ext _ _) (by omega) (by omega) (rise_ext ua hza (by omega) (Nat.le_refl _)) (rise_ext ub hz (Nat.le_refl _) (by omega)) (fun u hu => C.asym _ _ (fst u hu)) lst fun r g' hr => ?_)
    refine wpS_bind (wpS_modify ?_)
    refine wpS_bind (wpS_get ?_)
    exact wpS_pure (q _ g' (fin r hr).1 (fin r hr).2)
  · rw [if_neg hc]
    refine wpS_bind (wpS_mHi C (ho.ext _ _) (ho.ext _ _) (by omega) (by omega) (rise_ext ua hza (by omega) (Nat.le_refl _)) (rise_ext ub hz (Nat.le_refl _) (by omega)) fst (fun v hv => C.asym _ _ (lst v hv)) fun r g' hr => ?_)
    refine wpS_bind (wpS_modify ?_)
    refine wpS_bind (wpS_get ?_)
    exact wpS_pure (q _ g' (fin r hr).1 (fin r hr).2)
end
end Srt

set_option Elab.async false
set_option linter.all false
set_option maxRecDepth 100000
set_option maxHeartbeats 4000000
namespace Srt
open PySem PyProof.Rows
section
variable {M : Model} {A : Around} {E : Value → Shared → Prop} {s : Shared} {κ : SortKind} {lt : Keyed → Keyed → Bool} {ok : Keyed → Prop}
/-- the runs lie side by side from b to e -/
def Tiles (lt : Keyed → Keyed → Bool) (a : Array Keyed) : List (Nat × Nat × Nat) → Nat → Nat → Prop
  | [], b, e => b = e
  | x :: r, b, e => x.1 = b ∧ 1 ≤ x.2.1 ∧ Up lt a b (b + x.2.1) ∧ Tiles lt a r (b + x.2.1) e
theorem Tiles.le {a : Array Keyed} : ∀ {l : List (Nat × Nat × Nat)} {b e : Nat}, Tiles lt a l b e → b + l.length ≤ e
  | [], b, e, h => by
    obtain rfl : b = e := h
    exact Nat.le_refl _
  | x :: r, b, e, ⟨_, h1, _, h2⟩ => by
    have := h2.le
    rw [List.length_cons]
    omega
theorem Up.same {a a' : Array Keyed} {lo hi : Nat} (h : Up lt a lo hi) (e : ∀ k, lo ≤ k → k < hi → a'[k]? = a[k]?) : Up lt a' lo hi := fun i j x y b1 b2 b3 e1 e2 =>
  h i j x y b1 b2 b3 ((e i b1 (by omega)).symm.trans e1) ((e j (by omega) b3).symm.trans e2)
theorem Tiles.same {a a' : Array Keyed} : ∀ {l : List (Nat × Nat × Nat)} {b e : Nat}, Tiles lt a l b e → (∀ k, b ≤ k → k < e → a'[k]? = a[k]?) → Tiles lt a' l b e
  | [], _, _, h, _ => h
  | x :: r, b, e, ⟨h0, h1, h2, h3⟩, q => ⟨h0, h1, h2.same fun k c1 c2 => q k c1 (by have := h3.le; omega), h3.same fun k c1 c2 => q k (by omega) c2⟩
theorem Tiles.app {a : Array Keyed} : ∀ {l l' : List (Nat × Nat × Nat)} {b e : Nat}, Tiles lt a (l ++ l') b e ↔ ∃ m, Tiles lt a l b m ∧ Tiles lt a l' m e
  | [], l', b, e => ⟨fun h => ⟨b, rfl, h⟩, fun ⟨m, h1, h2⟩ => by obtain rfl : b = m := h1; exact h2⟩
  | x :: r, l', b, e => ⟨fun ⟨h0, h1, h2, h3⟩ => let ⟨m, k1, k2⟩ := Tiles.app.mp h3; ⟨m, ⟨h0, h1, h2, k1⟩, k2⟩, fun ⟨m, ⟨h0, h1, h2, k1⟩, k2⟩ => ⟨h0, h1, h2, Tiles.app.mpr ⟨m, k1, k2⟩⟩⟩
theorem split_two {p : Array (Nat × Nat × Nat)} {i : Nat} (h : i + 1 < p.size) : ∃ x y, p[i]? = some x ∧ p[i + 1]? = some y ∧ p.toList = p.toList.take i ++ x :: y :: p.toList.drop (i + 2) := by
  have h1 : i < p.toList.length := by rw [Array.length_toList]; omega
  have h2 : i + 1 < p.toList.length := by rw [Array.length_toList]; omega
  refine ⟨p.toList[i], p.toList[i + 1], ?_, ?_, ?_⟩
  · rw [← Array.getElem?_toList, List.getElem?_eq_getElem h1]
  · rw [← Array.getElem?_toList, List.getElem?_eq_getElem h2]
  · conv => lhs; rw [← List.take_append_drop i p.toList]
    rw [List.drop_eq_getElem_cons h1, List.drop_eq_getElem_cons h2]
theorem merged_list {p : Array (Nat × Nat × Nat)} {i : Nat} (h : i + 1 < p.size) (z : Nat × Nat × Nat) : ((p.setIfInBounds i z).eraseIdxIfInBounds (i + 1)).toList = p.toList.take i ++ z :: p.toList.drop (i + 2) := by
  have hl : p.toList.length = p.size := Array.length_toList
  have hz : i + 1 < (p.setIfInBounds i z).size := by rw [Array.size_setIfInBounds]; exact h
  have e : ((p.setIfInBounds i z).eraseIdxIfInBounds (i + 1)).toList = (p.toList.set i z).eraseIdx (i + 1) := by
    unfold Array.eraseIdxIfInBounds
    rw [dif_pos hz]
    simp
  rw [e]
  apply List.ext_getElem?
  intro k
  rw [List.getElem?_eraseIdx]
  by_cases c : k < i + 1
  · rw [if_pos c]
    by_cases d : k = i
    · subst d
      rw [List.getElem?_set_self (by omega), List.getElem?_append_right (by rw [List.length_take]; omega), List.length_take, Nat.min_eq_left (by omega), Nat.sub_self]
      rfl
    · rw [List.getElem?_set_ne (by omega), List.getElem?_append_left (by rw [List.length_take]; omega), List.getElem?_take, if_pos (by omega)]
  · rw [if_neg c, List.getElem?_set_ne (by omega), List.getElem?_append_right (by rw [List.length_take]; omega), List.length_take, Nat.min_eq_left (by omega)]
    obtain ⟨d, hd⟩ : ∃ d, k - i = d + 1 := ⟨k - i - 1, by omega⟩
    rw [hd, List.getElem?_cons_succ, List.getElem?_drop]
    congr 1
    omega
/-- a merge among the tiles -/
theorem wpS_mergeT (C : Cmp M A E s κ lt ok) {a : Array Keyed} {p : Array (Nat × Nat × Nat)} {g i e : Nat} {Q : Bool → SortSt → Prop} (ho : AllOk ok a) (t : Tiles lt a p.toList 0 e) (he : e ≤ a.size) (hi : i + 1 < p.size)
    (q : ∀ a' p' g', Within a a' 0 e → Tiles lt a' p'.toList 0 e → p'.size + 1 = p.size → Q true (mkS κ a' p' g')) : wpS M A E s (mergeAt' i) Q (mkS κ a p g) := by
  obtain ⟨⟨sa, na, pa⟩, ⟨sb, nb, pb⟩, e1, e2, el⟩ := split_two hi
  rw [el] at t
  obtain ⟨m, t1, h0, h1, h2, k0, k1, k2, t2⟩ := Tiles.app.mp t
  dsimp only at h0 h1 h2 k0 k1 k2 t2
  subst h0 k0
  have l1 := t1.le
  have l2 := t2.le
  refine wpS_merge C ho e1 e2 rfl h1 k1 (by omega) h2 k2 fun a' g' w u => ?_
  have ml := merged_list hi (sa, na + nb, pa)
  refine q a' _ g' (w.mono (Nat.zero_le _) (by omega)) ?_ ?_
  · rw [ml]
    refine Tiles.app.mpr ⟨sa, t1.same fun k _ c => w.out k (.inl c), rfl, by show 1 ≤ na + nb; omega, ?_, ?_⟩
    · show Up lt a' sa (sa + (na + nb))
      rwa [← Nat.add_assoc]
    · show Tiles lt a' _ (sa + (na + nb)) e
      rw [← Nat.add_assoc]
      exact t2.same fun k c _ => w.out k (.inr c)
  · have n1 := congrArg List.length ml
    have n2 := congrArg List.length el
    rw [List.length_append, List.length_cons, Array.length_toList] at n1
    rw [List.length_append, List.length_cons, List.length_cons, Array.length_toList] at n2
    omega
theorem tiles_last {a : Array Keyed} {p : Array (Nat × Nat × Nat)} {b e pw : Nat} (t : Tiles lt a p.toList b e) : Tiles lt a (p.modify (p.size - 1) fun x => (x.1, x.2.1, pw)).toList b e := by
  have gen : ∀ (l : List (Nat × Nat × Nat)) (k b e : Nat), Tiles lt a l b e → Tiles lt a (l.modify k fun x => (x.1, x.2.1, pw)) b e := by
    intro l
    induction l with
    | nil => intro k b e h; cases k <;> exact h
    | cons x r ih =>
      intro k b e h
      obtain ⟨h0, h1, h2, h3⟩ := h
      cases k with
      | zero => exact ⟨h0, h1, h2, h3⟩
      | succ k => exact ⟨h0, h1, h2, ih k _ _ h3⟩
  rw [Array.toList_modify]
  exact gen _ _ _ _ t
end
end Srt

set_option Elab.async false
set_option linter.all false
set_option maxRecDepth 100000
set_option maxHeartbeats 4000000
namespace Srt
open PySem PyProof.Rows
section
variable {M : Model} {A : Around} {E : Value → Shared → Prop} {s : Shared} {κ : SortKind} {lt : Keyed → Keyed → Bool} {ok : Keyed → Prop}
/-- where the loop over the runs stands -/
def RunsAt (κ : SortKind) (lt : Keyed → Keyed → Bool) (a₀ : Array Keyed) (lo : Nat) (st : SortSt) : Prop := ∃ a p g, st = mkS κ a p g ∧ a.Perm a₀ ∧ Tiles lt a p.toList 0 lo ∧ lo ≤ a₀.size
/-- what a found run does with the runs before it -/
def tailS (size lo n : Nat) : StateT SortSt Sem (ForInStep (Option Unit × Nat)) := do
  let d ← get
  match (pendingOf d).back? with
  | some (s1, n1, _) => do
    let r ← forIn [:size] ((none : Option Unit), ()) fun _ _ => do
      let d ← get
      match (if (pendingOf d).size > 1 then (pendingOf d)[(pendingOf d).size - 2]? else none) with
      | some (_, _, older) =>
        if older ≤ power' size (2 * s1 + n1) (2 * s1 + n1 + n1 + n) size then pure (ForInStep.done (none, ()))
        else do
          let b ← mergeAt' ((pendingOf d).size - 2)
          if (!b) = true then pure (ForInStep.done (some (), ())) else pure (ForInStep.yield (none, ()))
      | _ => pure (ForInStep.done (none, ()))
    match r.fst with
    | some r => pure (ForInStep.done (some r, lo))
    | none => do
      modify fun s => setPending s ((pendingOf s).modify ((pendingOf s).size - 1) fun x => (x.fst, x.2.fst, power' size (2 * s1 + n1) (2 * s1 + n1 + n1 + n) size))
      modify fun s => setPending s ((pendingOf s).push (lo, n, 0))
      pure (ForInStep.yield (none, lo + n))
  | _ => do
    modify fun s => setPending s ((pendingOf s).push (lo, n, 0))
    pure (ForInStep.yield (none, lo + n))
theorem wpS_tail (C : Cmp M A E s κ lt ok) {a₀ a : Array Keyed} {p : Array (Nat × Nat × Nat)} {g lo n : Nat} {Q : ForInStep (Option Unit × Nat) → SortSt → Prop} (ho : AllOk ok a₀) (hp : a.Perm a₀) (t : Tiles lt a p.toList 0 lo) (h1 : 1 ≤ n) (hz : lo + n ≤ a₀.size) (u : Up lt a lo (lo + n))
    (q : ∀ st, RunsAt κ lt a₀ (lo + n) st → Q (.yield (none, lo + n)) st) : wpS M A E s (tailS a₀.size lo n) Q (mkS κ a p g) := by
  have push : ∀ (a : Array Keyed) (p : Array (Nat × Nat × Nat)) (g : Nat), a.Perm a₀ → Tiles lt a p.toList 0 lo → Up lt a lo (lo + n) → RunsAt κ lt a₀ (lo + n) (mkS κ a (p.push (lo, n, 0)) g) := fun a p g hp t u =>
    ⟨a, _, g, rfl, hp, by rw [Array.toList_push]; exact Tiles.app.mpr ⟨lo, t, rfl, h1, u, rfl⟩, hz⟩
  unfold tailS
  refine wpS_bind (wpS_get ?_)
  show wpS M A E s (match p.back? with | some (s1, n1, _) => _ | _ => _) Q _
  cases hb : p.back? with
  | none => exact wpS_bind (wpS_modify (wpS_pure (q _ (push a p g hp t u))))
  | some x =>
    obtain ⟨s1, n1, pw1⟩ := x
    dsimp only
    refine wpS_bind (wpS_mono (wpS_forRange (I := fun _ c st => c = (none, ()) ∧ ∃ a p g, st = mkS κ a p g ∧ a.Perm a₀ ∧ Tiles lt a p.toList 0 lo ∧ Up lt a lo (lo + n))
      (Q := fun c st => c = (none, ()) ∧ ∃ a p g, st = mkS κ a p g ∧ a.Perm a₀ ∧ Tiles lt a p.toList 0 lo ∧ Up lt a lo (lo + n)) ?_ (fun _ _ h => h) ⟨rfl, a, p, g, rfl, hp, t, u⟩) ?_)
    · rintro x c st _ _ ⟨rfl, a, p, g, rfl, hp, t, u⟩
      refine wpS_bind (wpS_get ?_)
      show wpS M A E s (match (if p.size > 1 then p[p.size - 2]? else none) with | some (_, _, older) => _ | _ => _) _ _
      by_cases c : p.size > 1
      · rw [if_pos c]
        cases hg : p[p.size - 2]? with
        | none => exact wpS_pure ⟨rfl, a, p, g, rfl, hp, t, u⟩
        | some y =>
          obtain ⟨y1, y2, y3⟩ := y
          dsimp only
          by_cases d : y3 ≤ power' a₀.size (2 * s1 + n1) (2 * s1 + n1 + n1 + n) a₀.size
          · rw [if_pos d]
            exact wpS_pure ⟨rfl, a, p, g, rfl, hp, t, u⟩
          · rw [if_neg d]
            refine wpS_bind (wpS_mergeT C (ho.perm hp) t (by have := hp.size_eq; omega) (i := p.size - 2) (by omega) fun a' p' g' w t' _ => ?_)
            exact wpS_pure ⟨rfl, a', p', g', rfl, w.perm.trans hp, t', u.same fun k c _ => w.out k (.inr c)⟩
      · rw [if_neg c]
        exact wpS_pure ⟨rfl, a, p, g, rfl, hp, t, u⟩
    · rintro c st ⟨rfl, a, p, g, rfl, hp, t, u⟩
      dsimp only
      refine wpS_bind (wpS_modify (wpS_bind (wpS_modify (wpS_pure (q _ (push a _ g hp (tiles_last t) u))))))
theorem wpS_runs (C : Cmp M A E s κ lt ok) {a₀ : Array Keyed} {g : Nat} {Q : Unit → SortSt → Prop} (ho : AllOk ok a₀) (h2 : 2 ≤ a₀.size)
    (q : ∀ a p g, a.Perm a₀ → Up lt a 0 a₀.size → Q () (mkS κ a p g)) : wpS M A E s sortRuns' Q (mkS κ a₀ #[] g) := by
  rw [sortRuns'_eq]
  refine wpS_bind (wpS_get ?_)
  dsimp only
  refine wpS_bind (wpS_mono (wpS_forRange
    (I := fun x c st => ∃ lo, c = (none, lo) ∧ RunsAt κ lt a₀ lo st ∧ (x ≤ lo ∨ lo = a₀.size))
    (Q := fun c st => c = (none, a₀.size) ∧ RunsAt κ lt a₀ a₀.size st) ?step ?fin ⟨0, rfl, ⟨a₀, #[], g, rfl, .refl _, rfl, Nat.zero_le _⟩, .inl (Nat.le_refl _)⟩) ?post)
  case fin =>
    rintro c st ⟨lo, rfl, R, h⟩
    have e : lo = a₀.size := by
      obtain ⟨a, p, g, _, _, _, hl⟩ := R
      have h : max 0 a₀.size ≤ lo ∨ lo = a₀.size := h
      rcases h with h | h
      · omega
      · exact h
    subst e
    exact ⟨rfl, R⟩
  case step =>
    rintro x c st _ hx ⟨lo, rfl, R, hlo⟩
    dsimp only
    have hx : x < a₀.size := hx
    by_cases hl : a₀.size ≤ lo
    · rw [if_pos hl]
      have e : lo = a₀.size := by
        obtain ⟨a, p, g, _, _, _, hl⟩ := R
        omega
      subst e
      exact wpS_pure ⟨rfl, R⟩
    rw [if_neg hl]
    obtain ⟨a, p, g, rfl, hp, t, _⟩ := R
    have sz : a.size = a₀.size := hp.size_eq
    have oa : AllOk ok a := ho.perm hp
    show wpS M A E s (countRun' lo (a₀.size - lo) >>= _) _ _
    refine wpS_bind (wpS_count C oa (by omega) (by omega) fun n a' n1 n2 w u => ?_)
    have t' : Tiles lt a' p.toList 0 lo := t.same fun k _ c => w.out k (.inl c)
    have hp' := w.perm.trans hp
    have sz' : a'.size = a₀.size := hp'.size_eq
    dsimp only
    have done : ∀ m st, 1 ≤ m → RunsAt κ lt a₀ (lo + m) st → ∃ lo', ((none : Option Unit), lo + m) = (none, lo') ∧ RunsAt κ lt a₀ lo' st ∧ (x + 1 ≤ lo' ∨ lo' = a₀.size) := fun m st hm R => ⟨lo + m, rfl, R, by
      rcases hlo with h | h
      · left; omega
      · omega⟩
    by_cases hm : n < minRun' a₀.size a₀.size 0
    · rw [if_pos hm]
      refine wpS_bind (wpS_lift (wpAny_rule ⟨rfl, ?_⟩))
      have m1 : 1 ≤ min (a₀.size - lo) (minRun' a₀.size a₀.size 0) := by omega
      refine wpS_bind (wpS_bin C (ho.perm hp') (n := min (a₀.size - lo) (minRun' a₀.size a₀.size 0)) (by omega) n1 (by omega) u fun a2 w2 u2 => ?_)
      simp only [Bool.not_true, Bool.false_eq_true, if_false]
      refine Eq.mpr (congrArg (fun m => wpS M A E s m _ _) (by
        unfold tailS
        congr 1
        funext d
        cases (pendingOf d).back? with
        | none => rfl
        | some x =>
          obtain ⟨s1, n1, w1⟩ := x
          dsimp only
          congr 1
          funext r
          obtain ⟨r1, r2⟩ := r
          cases r1 <;> rfl : _ = tailS a₀.size lo (min (a₀.size - lo) (minRun' a₀.size a₀.size 0)))) ?_
      exact wpS_tail C ho (w2.perm.trans hp') (t'.same fun k _ c => w2.out k (.inl c)) m1 (by omega) u2 fun st R => done _ st m1 R
    · rw [if_neg hm]
      refine Eq.mpr (congrArg (fun m => wpS M A E s m _ _) (by
        unfold tailS
        congr 1
        funext d
        cases (pendingOf d).back? with
        | none => rfl
        | some x =>
          obtain ⟨s1, n1, w1⟩ := x
          dsimp only
          congr 1
          funext r
          obtain ⟨r1, r2⟩ := r
          cases r1 <;> rfl : _ = tailS a₀.size lo n)) ?_
      exact wpS_tail C ho hp' t' n1 (by omega) u fun st R => done _ st n1 R
  case post =>
    rintro c st ⟨rfl, R⟩
    dsimp only
    refine wpS_bind (wpS_mono (wpS_forRange (I := fun x c st => c = (none, ()) ∧ ∃ a p g, st = mkS κ a p g ∧ a.Perm a₀ ∧ Tiles lt a p.toList 0 a₀.size ∧ (p.size ≤ 1 ∨ p.size + x ≤ a₀.size))
      (Q := fun c st => c = (none, ()) ∧ ∃ a p g, st = mkS κ a p g ∧ a.Perm a₀ ∧ Tiles lt a p.toList 0 a₀.size ∧ p.size ≤ 1) ?_ ?_ ?_) ?_)
    · rintro x c st _ hx ⟨rfl, a, p, g, rfl, hp, t, hn⟩
      refine wpS_bind (wpS_get ?_)
      by_cases hc : p.size ≤ 1
      · rw [if_pos hc]
        exact wpS_pure ⟨rfl, a, p, g, rfl, hp, t, hc⟩
      · rw [if_neg hc]
        have hi : ∀ (b : Prop) [Decidable b], (if b then p.size - 2 - 1 else p.size - 2) + 1 < p.size := fun b _ => by split <;> omega
        refine wpS_bind (wpS_mergeT C (ho.perm hp) t (by have := hp.size_eq; omega) (hi _) fun a' p' g' w t' hs => ?_)
        exact wpS_pure ⟨rfl, a', p', g', rfl, w.perm.trans hp, t', .inr (by omega)⟩
    · rintro c st ⟨rfl, a, p, g, rfl, hp, t, hn⟩
      have hn : p.size ≤ 1 ∨ p.size + max 0 a₀.size ≤ a₀.size := hn
      exact ⟨rfl, a, p, g, rfl, hp, t, by omega⟩
    · obtain ⟨a, p, g, rfl, hp, t, _⟩ := R
      have := t.le
      rw [Array.length_toList] at this
      exact ⟨rfl, a, p, g, rfl, hp, t, .inr (by omega)⟩
    · rintro c st ⟨rfl, a, p, g, rfl, hp, t, h1⟩
      dsimp only
      refine wpS_pure (q a p g hp ?_)
      have hl : p.toList.length ≤ 1 := by rw [Array.length_toList]; exact h1
      match hm : p.toList, hl, t with
      | [], _, t =>
        have t : 0 = a₀.size := t
        omega
      | [x], _, ⟨_, _, u, e⟩ =>
        have e : 0 + x.2.1 = a₀.size := e
        rw [← e]
        exact u
end
end Srt

set_option Elab.async false
set_option linter.all false
set_option maxRecDepth 100000
set_option maxHeartbeats 4000000
namespace Srt
open PySem PyProof.Rows PySem.W
/-- a key: a tuple of three ints -/
def KeyAt (h : Heap) (v : Value) (k : Int × Int × Int) : Prop := ∃ a o n t u w, v = .ref a ∧ h.get? a = some o ∧ o.cls = .type "tuple" ∧ o.data = .seq #[.int k.1 t, .int k.2.1 u, .int k.2.2 w] n
theorem KeyAt.one {h : Heap} {v : Value} {k k' : Int × Int × Int} (x : KeyAt h v k) (y : KeyAt h v k') : k = k' := by
  obtain ⟨a, o, n, t, u, w, rfl, e, c, d⟩ := x
  obtain ⟨a', o', n', t', u', w', ea, e', c', d'⟩ := y
  cases ea
  rw [e] at e'; cases e'
  rw [d] at d'
  simp only [Data.seq.injEq, Array.mk.injEq, List.cons.injEq, Value.int.injEq] at d'
  obtain ⟨⟨⟨h1, _⟩, ⟨h2, _⟩, ⟨h3, _⟩, _⟩, _⟩ := d'
  exact Prod.ext h1 (Prod.ext h2 h3)
open Classical in
noncomputable def keyOf (h : Heap) (v : Value) : Int × Int × Int := if e : ∃ k, KeyAt h v k then e.choose else (0, 0, 0)
theorem keyOf_eq {h : Heap} {v : Value} {k : Int × Int × Int} (x : KeyAt h v k) : keyOf h v = k := by
  unfold keyOf
  rw [dif_pos ⟨k, x⟩]
  exact KeyAt.one (Exists.choose_spec (⟨k, x⟩ : ∃ k, KeyAt h v k)) x
def lex (a b : Int × Int × Int) : Bool := decide (a.1 < b.1 ∨ (a.1 = b.1 ∧ (a.2.1 < b.2.1 ∨ (a.2.1 = b.2.1 ∧ a.2.2 < b.2.2))))
theorem lex_iff {a b : Int × Int × Int} : lex a b = true ↔ (a.1 < b.1 ∨ (a.1 = b.1 ∧ (a.2.1 < b.2.1 ∨ (a.2.1 = b.2.1 ∧ a.2.2 < b.2.2)))) := decide_eq_true_iff
theorem lex_not {a b : Int × Int × Int} : lex a b = false ↔ ¬ (a.1 < b.1 ∨ (a.1 = b.1 ∧ (a.2.1 < b.2.1 ∨ (a.2.1 = b.2.1 ∧ a.2.2 < b.2.2)))) := decide_eq_false_iff_not
theorem cmp3 {prog : Program} {w : World} {A : Around} {E : Value → Shared → Prop} {s : Shared} : Cmp (model prog w) A E s (tuples' true) (fun x y => lex (keyOf s.heap x.1) (keyOf s.heap y.1)) (fun x => ∃ k, KeyAt s.heap x.1 k) where
  run := fun st Q x y hk ⟨kx, ax⟩ ⟨ky, ay⟩ q => by
    rw [keyOf_eq ax, keyOf_eq ay] at q
    rw [lt'_eq]
    refine wpS_bind (wpS_get ?_)
    rw [hk]
    obtain ⟨a, o, n, t, u, v, e1, e2, e3, e4⟩ := ax
    obtain ⟨a', o', n', t', u', v', f1, f2, f3, f4⟩ := ay
    rw [e1, f1]
    refine wpS_bind (wpS_lift (wpAny_attempt (kat_lt e2 e4 f2 f4 ?_)))
    obtain ⟨x1, x2, x3⟩ := kx
    obtain ⟨y1, y2, y3⟩ := ky
    have fin : ∀ c : Bool, c = lex (x1, x2, x3) (y1, y2, y3) → (s = s ∧ wpS (model prog w) A E s (pure (some c)) Q st) := fun c e => ⟨rfl, wpS_pure (e ▸ q)⟩
    refine kat_cons (wpAny_eqBool_int (kat_go (fun h => kat_yes ?_) fun h => kat_no (oneLt_int (fin _ ?_))))
    · have h1 : x1 = y1 := by simpa using h
      refine kat_cons (wpAny_eqBool_int (kat_go (fun h => kat_yes ?_) fun h => kat_no (kat_one _ _ (lt_int (fin _ ?_)))))
      · have h2 : x2 = y2 := by simpa using h
        refine kat_cons (wpAny_eqBool_int (kat_go (fun h => kat_yes (kat_nil (fin _ ?_))) fun h => kat_no (kat_one _ _ (lt_int (fin _ ?_)))))
        · have h3 : x3 = y3 := by simpa using h
          refine Eq.trans (by simp) (lex_not.mpr ?_).symm
          dsimp only
          omega
        · have h3 : x3 ≠ y3 := by simpa using h
          rw [Bool.eq_iff_iff, lex_iff, decide_eq_true_iff]
          dsimp only
          omega
      · have h2 : x2 ≠ y2 := by simpa using h
        rw [Bool.eq_iff_iff, lex_iff, decide_eq_true_iff]
        dsimp only
        omega
    · have h1 : x1 ≠ y1 := by simpa using h
      rw [Bool.eq_iff_iff, lex_iff, decide_eq_true_iff]
      dsimp only
      omega
  asym := fun x y h => by
    have h := lex_iff.mp h
    exact lex_not.mpr (by omega)
  trans := fun x y z h1 h2 => by
    have h1 := lex_not.mp h1
    have h2 := lex_not.mp h2
    exact lex_not.mpr (by omega)
end Srt

set_option Elab.async false
set_option linter.all false
set_option maxRecDepth 100000
set_option maxHeartbeats 4000000
namespace L2
open PySem PySem.Spec PyProof.Rows Srt
/-- known to the object -/
def exO (a : Addr) (o : Obj) : HO := .ext fun h => h.get? a = some o
theorem exO_ok {P : Program} {w : World} {H : Hp} {h : Heap} {a : Addr} {o : Obj} (e : h.get? a = some o) : ObjOk P w H h a (exO a o) := ⟨e, ⟨o, e⟩, fun _ _ p k => k o p⟩
section
variable {X : Cx} {pins : List (Addr × Obj)} {σ : List (Option V)} {H : Hp} {s : Shared} {h' : Heap}
theorem Inv.exo (I : Inv X pins σ H s) {a : Addr} {o : Obj} (e : H a = some (exO a o)) : s.heap.get? a = some o := by
  have z : ObjOk X.prog X.w H s.heap a (exO a o) := I.hok a _ e
  exact z.1
/-- such a thing is written -/
theorem Inv.put {a : Addr} {o : Obj} {u : HO} {t' : Nat} (I : Inv X pins σ H s) (e : H a = some (exO a o)) (sb : Heap.SameBut a s.heap h') (th : ∃ o, h'.get? a = some o) (new : ObjOk X.prog X.w (upd H a u) h' a u) :
    Inv X pins σ (upd H a u) { s with heap := h', toks := t' } :=
  I.write (x := a) (e := a) (by rw [e]; trivial) (.inl rfl) (fun b o hb q => (sb.2 b hb).trans q) th new
/-- the new list of a key's list: all else stays -/
def Ups (H H' : Hp) (cs : List Addr) : Prop := ∀ c o, c ∉ cs → H c = some o → H' c = some o
/-- the keys of the items -/
def KeysAt (H : Hp) (kf : Int → Int × Int × Int) : List Value → List Int → Prop := Paired fun v n => ∃ r, v = .ref r ∧ H r = some (.tup [.int (kf n).1, .int (kf n).2.1, .int (kf n).2.2])
theorem KeysAt.len {kf : Int → Int × Int × Int} : ∀ {vs : List Value} {ns : List Int}, KeysAt H kf vs ns → vs.length = ns.length
  | _, _, .nil => rfl
  | _, _, .cons _ t => congrArg (· + 1) (KeysAt.len t)
theorem KeysAt.imp {H H' : Hp} {kf : Int → Int × Int × Int} {vs : List Value} {ns : List Int} (k : KeysAt H kf vs ns) (h : ∀ r xs, H r = some (.tup xs) → H' r = some (.tup xs)) : KeysAt H' kf vs ns :=
  Paired.imp' (fun _ _ ⟨r, e1, e2⟩ => ⟨r, e1, h _ _ e2⟩) k
theorem KeysAt.snoc {kf : Int → Int × Int × Int} {v : Value} {n : Int} : ∀ {vs : List Value} {ns : List Int}, KeysAt H kf vs ns → (∃ r, v = .ref r ∧ H r = some (.tup [.int (kf n).1, .int (kf n).2.1, .int (kf n).2.2])) → KeysAt H kf (vs ++ [v]) (ns ++ [n])
  | _, _, .nil, e => .cons e .nil
  | _, _, .cons x t, e => .cons x (KeysAt.snoc t e)
theorem keyAt_of {P : Program} {w : World} {h : Heap} {kf : Int → Int × Int × Int} {v : Value} {n : Int} (hok : HOk P w H h) (k : ∃ r, v = .ref r ∧ H r = some (.tup [.int (kf n).1, .int (kf n).2.1, .int (kf n).2.2])) : KeyAt h v (kf n) := by
  obtain ⟨r, rfl, e⟩ := k
  obtain ⟨its, rv, o, e1, e2, m, e3⟩ := (show ObjOk P w H h r (.tup _) from hok r _ e).2
  cases rv with
  | cons r1 rv =>
    cases rv with
    | cons r2 rv =>
      cases rv with
      | cons r3 rv =>
        cases rv
        obtain ⟨t, rfl⟩ := r1
        obtain ⟨u, rfl⟩ := r2
        obtain ⟨v, rfl⟩ := r3
        exact ⟨r, o, m, t, u, v, rfl, e1, e2, e3⟩
theorem katTups_of {P : Program} {w : World} {h : Heap} {kf : Int → Int × Int × Int} (hok : HOk P w H h) : ∀ {vs : List Value} {ns : List Int}, KeysAt H kf vs ns → ∃ fs, PySem.W.KatTups h vs fs ∧ fs.length = ns.length ∧ ∀ v ∈ fs, ∃ i t, v = Value.int i t
  | _, _, .nil => ⟨[], .nil, rfl, by simp⟩
  | _, _, .cons x t => by
    obtain ⟨fs, h1, h2, h3⟩ := katTups_of hok t
    obtain ⟨a, o, n, t, u, w, rfl, e1, e2, e3⟩ := keyAt_of hok x
    refine ⟨_ :: fs, .cons e1 e2 e3 rfl h1, by simp [h2], fun v hv => ?_⟩
    rcases List.mem_cons.mp hv with rfl | hv
    · exact ⟨_, _, rfl⟩
    · exact h3 v hv
end
section
variable {X : Cx} {pins : List (Addr × Obj)} {σ : List (Option V)} {H : Hp} {s : Shared} {A : Around} {E : Value → Shared → Prop} {a kS : Addr} {keys : Array Value} {e e1 : Nat} {P : PySem.Fin → Shared → Prop} {vs : List Value} {ns : List Int} {kf : Int → Int × Int × Int}
theorem upd_seq {h : Heap} {a : Addr} {xs : Array Value} {n : Nat} (g : Array Value → Array Value) (ho : h.get? a = some (seqObj "list" xs n)) : ∃ c, (h.update a (Obj.mapSeq g)).get? a = some (seqObj "list" (g xs) c) := ⟨_, get?_update_seq ho g⟩
theorem sort_tail {st : SortSt} {xs : List V} (I : Inv X pins σ H s) (ha : H a = some (exO a (seqObj "list" #[] e1))) (hk : H kS = some (exO kS (seqObj "list" keys e))) (hka : kS ≠ a) (hz : keys.size ≤ sizeLine) (hfl : failedOf st = none)
    (hx : Vals xs ((arrOf st).map (·.2)).reverse.toList) (hxz : xs.length ≤ sizeLine)
    (h : ∀ H' s', Ups H H' [a, kS] → H' a = some (.lst xs) → Inv X pins σ H' s' → P (.done (.ret .none)) s') :
    wpAny (model X.prog X.w) A (ksk_tail a true e1 (.ref kS) st) P E s := by
  have hk0 := I.exo hk
  have ha0 := I.exo ha
  have sbk := Heap.SameBut.update s.heap kS (Obj.mapSeq fun _ => (#[] : Array Value))
  obtain ⟨c1, hc1⟩ := upd_seq (fun _ => (#[] : Array Value)) hk0
  have I1 := I.put (t' := s.toks) (u := exO kS (seqObj "list" #[] c1)) hk sbk ⟨_, hc1⟩ (exO_ok hc1)
  have ha1 : (upd H kS (exO kS (seqObj "list" #[] c1))) a = some (exO a (seqObj "list" #[] e1)) := by rw [upd_ne hka.symm]; exact ha
  have ha2 := I1.exo ha1
  have s2 := Heap.SameBut.update (s.heap.update kS (Obj.mapSeq fun _ => (#[] : Array Value))) a (Obj.mapSeq fun _ => ((arrOf st).map (·.2)).reverse)
  obtain ⟨c2, hc2⟩ := upd_seq (fun _ => ((arrOf st).map (·.2)).reverse) (show (s.heap.update kS (Obj.mapSeq fun _ => (#[] : Array Value))).get? a = _ from ha2)
  have hlen : xs.length = ((arrOf st).map (·.2)).reverse.size := hx.length.trans Array.length_toList
  have I2 := I1.put (t' := s.toks) (u := .lst xs) ha1 s2 ⟨_, hc2⟩ (show ObjOk X.prog X.w _ _ a (.lst xs) from ⟨hxz, _, c2, hx, by rw [hc2, Array.toArray_toList]⟩)
  unfold ksk_tail
  try dsimp only
  refine wpAny_bind (listUpdate_at hk0 rfl ?_ hz (Nat.zero_le _))
  refine wpAny_bind (wpAny_letGo ?_)
  refine wpAny_bind (seqEpoch_at ha2 rfl ?_)
  refine wpAny_bind (listUpdate_at ha2 rfl ?_ (Nat.zero_le _) (by
    show ((arrOf st).map (·.2)).reverse.size ≤ _
    omega))
  rw [hfl]
  simp only [if_false, Bool.false_eq_true, bne_self_eq_false]
  refine wpAny_pure (h _ _ ?_ upd_same I2)
  intro c o hc q
  rw [upd_ne (fun z => hc (by simp [z])), upd_ne (fun z => hc (by simp [z]))]
  exact q
theorem sk_perm {α β : Type} {R : α → β → Prop} {l l' : List α} (hp : l.Perm l') : ∀ {ns : List β}, Paired R l' ns → ∃ ms, ms.Perm ns ∧ Paired R l ms := by
  induction hp with
  | nil => intro ns b; exact ⟨ns, .refl _, b⟩
  | cons x _ ih =>
    intro ns b
    cases b with
    | cons r b =>
      obtain ⟨ms, h1, h2⟩ := ih b
      exact ⟨_ :: ms, h1.cons _, .cons r h2⟩
  | swap x y l =>
    intro ns b
    cases b with
    | cons r b =>
      cases b with
      | cons r' b => exact ⟨_ :: _ :: _, .swap _ _ _, .cons r' (.cons r b)⟩
  | trans _ _ ih1 ih2 =>
    intro ns b
    obtain ⟨ms, h1, h2⟩ := ih2 b
    obtain ⟨ms', h3, h4⟩ := ih1 h2
    exact ⟨ms', h3.trans h1, h4⟩
theorem sk_zip {h : Heap} : ∀ {ks us : List Value} {ns : List Int}, Paired (fun v n => KeyAt h v (kf n)) ks ns → Vals (ns.map V.int) us → Paired (fun (p : Value × Value) n => KeyAt h p.1 (kf n) ∧ RelV (.int n) p.2) (ks.zip us) ns
  | _, _, _, .nil, .nil => .nil
  | _, _, _, .cons x t, .cons r u => .cons ⟨x, r⟩ (sk_zip t u)
theorem sk_rev {α β : Type} {R : α → β → Prop} : ∀ {l : List α} {ns : List β}, Paired R l ns → Paired R l.reverse ns.reverse
  | _, _, .nil => .nil
  | _, _, .cons x t => by
    rw [List.reverse_cons, List.reverse_cons]
    exact Paired.snoc (sk_rev t) x
theorem sk_snd {h : Heap} : ∀ {l : List (Value × Value)} {ns : List Int}, Paired (fun (p : Value × Value) n => KeyAt h p.1 (kf n) ∧ RelV (.int n) p.2) l ns → Vals (ns.map V.int) (l.map (·.2))
  | _, _, .nil => .nil
  | _, _, .cons x t => .cons x.2 (sk_snd t)
theorem sk_at {α β : Type} {R : α → β → Prop} : ∀ {l : List α} {ns : List β}, Paired R l ns → ∀ (i : Nat) n, ns[i]? = some n → ∃ x, l[i]? = some x ∧ R x n
  | _, _, .nil, i, n, e => by simp at e
  | _, _, .cons x t, 0, n, e => by simp at e; subst e; exact ⟨_, rfl, x⟩
  | _, _, .cons x t, i + 1, n, e => by
    obtain ⟨y, h1, h2⟩ := sk_at t i n (by simpa using e)
    exact ⟨y, by simpa using h1, h2⟩
/-- what the sort leaves -/
theorem sorted_out {s : Shared} {st : SortSt} {h : Heap} (hp : (arrOf st).Perm (keys.zip vs.toArray)) (hu : ∀ (i j : Nat) x y, i < j → (arrOf st)[i]? = some x → (arrOf st)[j]? = some y → lex (keyOf h y.1) (keyOf h x.1) = false)
    (hK : Paired (fun v n => KeyAt h v (kf n)) keys.toList ns) (hv : Vals (ns.map V.int) vs) :
    ∃ ns' : List Int, ns'.Perm ns ∧ ns'.Pairwise (fun x y => lex (kf x) (kf y) = false) ∧ Vals (ns'.map V.int) ((arrOf st).map (·.2)).reverse.toList := by
  have hl : (arrOf st).toList.Perm (keys.toList.zip vs) := by rw [← ksk_zip]; exact Array.perm_iff_toList_perm.mp hp
  obtain ⟨ms, h1, h2⟩ := sk_perm hl (sk_zip hK hv)
  refine ⟨ms.reverse, (List.reverse_perm _).trans h1, ?_, ?_⟩
  · rw [List.pairwise_reverse, List.pairwise_iff_getElem]
    intro i j hi hj hij
    obtain ⟨x, e1, e2⟩ := sk_at h2 i _ (List.getElem?_eq_getElem hi)
    obtain ⟨y, f1, f2⟩ := sk_at h2 j _ (List.getElem?_eq_getElem hj)
    have q := hu i j x y hij (by simpa using e1) (by simpa using f1)
    rw [keyOf_eq e2.1, keyOf_eq f2.1] at q
    exact q
  · rw [Array.toList_reverse, Array.toList_map, ← List.map_reverse]
    exact sk_snd (sk_rev h2)
theorem sort_end (I : Inv X pins σ H s) (ha : H a = some (exO a (seqObj "list" #[] e1))) (hk : H kS = some (exO kS (seqObj "list" keys e))) (hka : kS ≠ a) (hK : KeysAt H kf keys.toList ns) (hv : Vals (ns.map V.int) vs) (hn : ns.length ≤ 1000)
    (h : ∀ H' s' (ns' : List Int), Ups H H' [a, kS] → H' a = some (.lst (ns'.map V.int)) → ns'.Perm ns → ns'.Pairwise (fun x y => lex (kf x) (kf y) = false) → Inv X pins σ H' s' → P (.done (.ret .none)) s') :
    wpAny (model X.prog X.w) A (ksk_end a true vs.toArray e1 (.ref kS) keys) P E s := by
  have hK' : Paired (fun v n => KeyAt s.heap v (kf n)) keys.toList ns := Paired.imp' (fun _ _ z => keyAt_of I.hok z) hK
  have hz : keys.size = ns.length := by rw [← hK.len, Array.length_toList]
  have hvl : vs.length = ns.length := by rw [← hv.length, List.length_map]
  have hzs : (keys.zip vs.toArray).size = ns.length := by rw [Array.size_zip, hz, List.size_toArray, hvl, Nat.min_self]
  have fin : ∀ st : SortSt, (arrOf st).Perm (keys.zip vs.toArray) → failedOf st = none → (∀ (i j : Nat) x y, i < j → (arrOf st)[i]? = some x → (arrOf st)[j]? = some y → lex (keyOf s.heap y.1) (keyOf s.heap x.1) = false) →
      wpAny (model X.prog X.w) A (ksk_tail a true e1 (.ref kS) st) P E s := fun st hp hf hu => by
    obtain ⟨ns', o1, o2, o3⟩ := sorted_out (s := s) hp hu hK' hv
    have hl' : (ns'.map V.int).length ≤ 1000 := by rw [List.length_map, o1.length_eq]; exact hn
    exact sort_tail I ha hk hka (Nat.le_trans (by omega) (show 1000 ≤ sizeLine by decide)) hf o3 (Nat.le_trans hl' (show 1000 ≤ sizeLine by decide)) fun H' s' k1 k2 k3 => h H' s' ns' k1 k2 o1 o2 k3
  have hstart : ((keys.zip vs.toArray).reverse).Perm (keys.zip vs.toArray) := Array.perm_iff_toList_perm.mpr (by rw [Array.toList_reverse]; exact List.reverse_perm _)
  unfold ksk_end
  try dsimp only
  rw [if_pos rfl]
  refine wpAny_bind (wpAny_rule ?_)
  by_cases few : vs.toArray.size < 2
  · rw [if_pos few, if_pos few]
    refine wpAny_bind (wpAny_pure ?_)
    rw [StateT.run_pure]
    refine wpAny_bind (wpAny_pure ?_)
    refine fin (SortSt.mk' general' (keys.zip vs.toArray).reverse #[] 7 none) hstart rfl fun i j x y hij ex ey => ?_
    have h3 : j < (keys.zip vs.toArray).reverse.size := (Array.getElem?_eq_some_iff.mp ey).1
    rw [List.size_toArray] at few
    rw [Array.size_reverse] at h3
    omega
  · rw [if_neg few, if_neg few]
    rw [List.size_toArray] at few
    obtain ⟨fs, t1, t2, t3⟩ := katTups_of I.hok hK
    have ek : keys = keys.toList.toArray := Array.toArray_toList.symm
    rw [show keyKind' keys = keyKind' keys.toList.toArray by rw [← ek]]
    refine wpAny_bind (PySem.W.kat_kind (T := .type "int") t1 (by omega) (fun v hv => ?_) rfl ?_)
    · obtain ⟨i, t, rfl⟩ := t3 v hv
      exact PySem.W.Looks.of_pure rfl
    · have e3 : ((Value.type "int") != Value.type "tuple") = true := by decide
      rw [e3]
      have hal : AllOk (fun x : Keyed => ∃ k, KeyAt s.heap x.1 k) (keys.zip vs.toArray).reverse := fun i x ex => by
        have m1 : x ∈ (keys.zip vs.toArray).reverse.toList := Array.mem_toList_iff.mpr (Array.mem_of_getElem? ex)
        rw [Array.toList_reverse, List.mem_reverse, ksk_zip] at m1
        obtain ⟨x1, x2⟩ := x
        obtain ⟨i, hi⟩ := List.getElem?_of_mem (List.of_mem_zip m1).1
        have hi' : i < ns.length := by rw [← hK.len]; exact (List.getElem?_eq_some_iff.mp hi).1
        obtain ⟨y, q1, q2⟩ := sk_at hK' i _ (List.getElem?_eq_getElem hi')
        rw [hi] at q1; cases q1
        exact ⟨_, q2⟩
      refine wpAny_bind (wpAny_mono (wpS_runs (cmp3 (s := s)) (g := 7) (a₀ := (keys.zip vs.toArray).reverse)
        (Q := fun _ st' => (arrOf st').Perm (keys.zip vs.toArray) ∧ failedOf st' = none ∧ (∀ (i j : Nat) x y, i < j → (arrOf st')[i]? = some x → (arrOf st')[j]? = some y → lex (keyOf s.heap y.1) (keyOf s.heap x.1) = false))
        hal (by rw [Array.size_reverse, hzs]; omega) fun a' p' g' hp' hu' => ⟨hp'.trans hstart, rfl, fun i j x y hij ex ey => hu' i j x y (Nat.zero_le _) (Nat.le_of_lt hij) (by rw [← hp'.size_eq]; exact (Array.getElem?_eq_some_iff.mp ey).1) ex ey⟩) ?_ fun _ _ e => e)
      rintro ⟨⟨⟩, st2⟩ s' ⟨rfl, o1, o2, o3⟩
      exact fin st2 o1 o2 o3
theorem ups_refl {H : Hp} {cs : List Addr} : Ups H H cs := fun _ _ _ q => q
theorem Ups.trans {H H' H'' : Hp} {cs : List Addr} (x : Ups H H' cs) (y : Ups H' H'' cs) : Ups H H'' cs := fun c o hc q => y c o hc (x c o hc q)
theorem ups_put {H : Hp} {cs : List Addr} {a : Addr} {u : HO} (h : a ∈ cs ∨ H a = none) : Ups H (upd H a u) cs := fun c o hc q => by
  rw [upd_ne (fun z => ?_)]
  · exact q
  · rcases h with h | h
    · exact hc (z ▸ h)
    · rw [z, h] at q; cases q
theorem sort_rest {q : Value} (I : Inv X pins σ H s) (ha : H a = some (exO a (seqObj "list" #[] e1))) (hk : H kS = some (exO kS (seqObj "list" #[] 0))) (hka : kS ≠ a) (hv : Vals (ns.map V.int) vs) (hn : ns.length ≤ 1000)
    (turn : ∀ (n : Int) (t : Tok) (H' : Hp) (s' : Shared), n ∈ ns → Ups H H' [a, kS] → Inv X pins σ H' s' →
      wpAny (model X.prog X.w) A (call q [.int n t]) (fun v s'' => ∃ r, v = .ref r ∧ H' r = none ∧ Inv X pins σ (upd H' r (.tup [.int (kf n).1, .int (kf n).2.1, .int (kf n).2.2])) s'') (fun _ _ => False) s')
    (h : ∀ H' s' (ns' : List Int), Ups H H' [a, kS] → H' a = some (.lst (ns'.map V.int)) → ns'.Perm ns → ns'.Pairwise (fun x y => lex (kf x) (kf y) = false) → Inv X pins σ H' s' → P (.done (.ret .none)) s') :
    wpAny (model X.prog X.w) A (ksk_rest a q true vs.toArray e1 (.ref kS)) P E s := by
  have hvl : vs.length = ns.length := by rw [← hv.length, List.length_map]
  unfold ksk_rest
  refine wpAny_bind (wpAny_rule ?_)
  rw [List.forIn_toArray]
  refine wpAny_bind (ksk_fold (fun i s' => ∃ H' kA c, Inv X pins σ H' s' ∧ Ups H H' [a, kS] ∧ H' a = some (exO a (seqObj "list" #[] e1)) ∧ H' kS = some (exO kS (seqObj "list" kA c)) ∧ KeysAt H' kf kA.toList (ns.take i)) vs 0 s
    ⟨H, #[], 0, I, ups_refl, ha, hk, by rw [List.take_zero]; exact .nil⟩ ?step ?done)
  case step =>
    rintro j x s' hx ⟨H', kA, c, I', u', ha', hk', hK⟩
    simp only [Nat.zero_add] at hK ⊢
    have jlt : j < vs.length := (List.getElem?_eq_some_iff.mp hx).1
    obtain ⟨n, hnj⟩ : ∃ n, ns[j]? = some n := ⟨ns[j]'(by omega), List.getElem?_eq_getElem (by omega)⟩
    obtain ⟨x', e1', e2⟩ := hv.get (i := j) (x := V.int n) (by rw [List.getElem?_map, hnj]; rfl)
    rw [hx] at e1'; cases e1'
    obtain ⟨t, rfl⟩ := e2
    refine wpAny_bind (wpAny_attempt (wpAny_mono (turn n t H' s' (List.mem_of_getElem? hnj) u' I') (fun v s'' he => ?_) fun _ _ hF => hF.elim))
    obtain ⟨r, rfl, hr, I2⟩ := he
    have nra : a ≠ r := fun z => by rw [← z, ha'] at hr; cases hr
    have nrk : kS ≠ r := fun z => by rw [← z, hk'] at hr; cases hr
    have hk2 : (upd H' r (.tup [.int (kf n).1, .int (kf n).2.1, .int (kf n).2.2])) kS = some (exO kS (seqObj "list" kA c)) := by rw [upd_ne nrk]; exact hk'
    have ha2 : (upd H' r (.tup [.int (kf n).1, .int (kf n).2.1, .int (kf n).2.2])) a = some (exO a (seqObj "list" #[] e1)) := by rw [upd_ne nra]; exact ha'
    have u2 : Ups H' (upd H' r (.tup [.int (kf n).1, .int (kf n).2.1, .int (kf n).2.2])) [a, kS] := ups_put (.inr hr)
    have hr2 : (upd H' r (.tup [.int (kf n).1, .int (kf n).2.1, .int (kf n).2.2])) r = some (.tup [.int (kf n).1, .int (kf n).2.1, .int (kf n).2.2]) := upd_same
    have hK2 : KeysAt (upd H' r (.tup [.int (kf n).1, .int (kf n).2.1, .int (kf n).2.2])) kf kA.toList (ns.take j) := hK.imp fun b xs q => by rw [upd_ne (ne_of_none q hr)]; exact q
    generalize upd H' r (.tup [.int (kf n).1, .int (kf n).2.1, .int (kf n).2.2]) = H2 at I2 hk2 ha2 u2 hr2 hK2
    have hk0 := I2.exo hk2
    have hz : kA.size ≤ 1000 := by
      have hlen := hK.len
      rw [List.length_take, Array.length_toList] at hlen
      omega
    have s1 := Heap.SameBut.update s''.heap kS (Obj.mapSeq (·.push (.ref r)))
    obtain ⟨c2, hc2⟩ := upd_seq (·.push (.ref r)) hk0
    have I3 := I2.put (t' := s''.toks) (u := exO kS (seqObj "list" (kA.push (.ref r)) c2)) hk2 s1 ⟨_, hc2⟩ (exO_ok hc2)
    try dsimp only
    refine wpAny_bind (listUpdate_at hk0 rfl ?_ (Nat.le_trans hz (show 1000 ≤ sizeLine by decide)) (Nat.le_trans (Nat.le_of_eq (Array.size_push ..)) (Nat.succ_le_succ (Nat.le_trans hz (show 1000 ≤ sizeLine by decide)))))
    have ek : ns.take (j + 1) = ns.take j ++ [n] := by rw [List.take_add_one, hnj]; rfl
    have ea : (kA.push (Value.ref r)).toList = kA.toList ++ [Value.ref r] := by simp
    refine wpAny_pure ⟨rfl, _, kA.push (.ref r), c2, I3, (u'.trans u2).trans (ups_put (.inl (by simp))), ?_, upd_same, ?_⟩
    · rw [upd_ne hka.symm]; exact ha2
    · rw [ea, ek]
      refine (hK2.snoc ⟨r, rfl, hr2⟩).imp fun b xs q => ?_
      rw [upd_ne (fun z => by rw [z, hk2] at q; cases q)]
      exact q
  case done =>
    rintro s' ⟨H', kA, c, I', u', ha', hk', hK⟩
    have e3 : ns.take (0 + vs.length) = ns := List.take_of_length_le (by omega)
    rw [e3] at hK
    try dsimp only
    refine wpAny_bind (listItems_at (I'.exo hk') rfl ?_)
    exact sort_end I' ha' hk' hka hK hv hn fun H2 s2 ns' k1 k2 k3 k4 k5 => h H2 s2 ns' (u'.trans k1) k2 k3 k4 k5
end
/-- an object laid and changed, then a second one -/
theorem grown (h : Heap) (o₁ o₂ : Obj) (g : Obj → Obj) (hf : o₂.isFreed = false) : (∀ b o, h.get? b = some o → (((h.push o₁).update h.objs.size g).push o₂).get? b = some o) ∧
    (((h.push o₁).update h.objs.size g).push o₂).get? (h.objs.size + 1) = some o₂ ∧ ((h.push o₁).update h.objs.size g).objs.size = h.objs.size + 1 := by
  have z : ((h.push o₁).update h.objs.size g).objs.size = h.objs.size + 1 := (Heap.size_update ..).trans (Heap.size_push ..)
  refine ⟨fun b o e => Heap.get?_push_of_some _ ?_, ?_, z⟩
  · exact (Heap.get?_update_ne _ _ _ _ (Nat.ne_of_lt (Heap.lt_size e))).trans (Heap.get?_push_of_some _ e)
  · rw [← z]
    exact Heap.get?_push_size _ hf
/-- sorted(places, key=f, reverse=True), f's answers tuples of three ints -/
theorem sortK {X : Cx} {pins : List (Addr × Obj)} {σ : List (Option V)} {H : Hp} {s : Shared} {Q E : Value → Shared → Prop} {l q : Addr} {ns : List Int} {kf : Int → Int × Int × Int} (I : Inv X pins σ H s) (hl : H l = some (.lst (ns.map V.int))) (hn : ns.length ≤ 1000)
    (turn : ∀ (n : Int) (t : Tok) (H' : Hp) (s' : Shared), n ∈ ns → (∀ c o, H c = some o → H' c = some o) → Inv X pins σ H' s' →
      wpAny (model X.prog X.w) X.A.in1.in1 (call (.ref q) [.int n t]) (fun v s'' => ∃ r, v = .ref r ∧ H' r = none ∧ Inv X pins σ (upd H' r (.tup [.int (kf n).1, .int (kf n).2.1, .int (kf n).2.2])) s'') (fun _ _ => False) s')
    (done : ∀ (D : Addr) (H' : Hp) (s' : Shared) (ns' : List Int), (∀ c o, H c = some o → H' c = some o) → H' D = some (.lst (ns'.map V.int)) → H D = none → ns'.Perm ns → ns'.Pairwise (fun x y => lex (kf x) (kf y) = false) → Inv X pins σ H' s' → Q (.ref D) s') :
    wpAny (model X.prog X.w) X.A (call (.builtin "sorted") [.ref l] [(Str.ofString "key", .ref q), (Str.ofString "reverse", .bool true)]) Q E s := by
  obtain ⟨vs, n0, rv, hL⟩ := (show ObjOk X.prog X.w H s.heap l (.lst _) from I.hok l _ hl).2
  have hvl : vs.length = ns.length := by rw [← rv.length, List.length_map]
  have hsL : vs.length ≤ sizeLine := Nat.le_trans (by omega) (show 1000 ≤ sizeLine by decide)
  refine call_function_entry_kw kind_sorted plain_sorted entry_sorted (ksk_s2 _ _ _) ?_
  unfold Builtin.«sorted»
  refine wpAny_bind (wpAny_pure (α := Unit) (a := ()) (M := model X.prog X.w) ?_)
  refine wpAny_bind (collect_list (vs := vs) ⟨_, hL, rfl, _, rfl⟩ ?_ hsL)
  refine wpAny_bind (wpAny_newList ?_ hsL)
  obtain ⟨keep, hoL, hsz⟩ := grown s.heap (seqObj "list" #[] 0) (seqObj "list" vs.toArray 0) (Obj.mapSeq (· ++ vs.toArray)) rfl
  show wpAny _ _ _ _ _ { s with heap := ((s.heap.push (seqObj "list" #[] 0)).update s.heap.objs.size (Obj.mapSeq (· ++ vs.toArray))).push (seqObj "list" vs.toArray 0) }
  rw [hsz]
  generalize ((s.heap.push (seqObj "list" #[] 0)).update s.heap.objs.size (Obj.mapSeq (· ++ vs.toArray))).push (seqObj "list" vs.toArray 0) = h1 at keep hoL ⊢
  have hD : H (s.heap.objs.size + 1) = none := I.hok.fresh (Nat.le_succ _)
  have I1 := I.laid (a := s.heap.objs.size + 1) (o := exO (s.heap.objs.size + 1) (seqObj "list" vs.toArray 0)) (t' := s.toks) keep (Nat.le_succ _) (exO_ok hoL)
  generalize s.heap.objs.size + 1 = D at hoL hD I1 ⊢
  have hH1 : (upd H D (exO D (seqObj "list" vs.toArray 0))) D = some (exO D (seqObj "list" vs.toArray 0)) := upd_same
  have u1 : ∀ c o, H c = some o → (upd H D (exO D (seqObj "list" vs.toArray 0))) c = some o := fun c o q => by rw [upd_ne (ne_of_none q hD)]; exact q
  generalize upd H D (exO D (seqObj "list" vs.toArray 0)) = H1 at I1 hH1 u1
  have hs1 : ({ s with heap := h1, toks := s.toks } : Shared).heap = h1 := rfl
  refine wpAny_bind (wpAny_holding (wpAny_call_entry_kw slot_list_sort ⟨_, hoL, rfl⟩ entry_list_sort ?body (ksk_l2 _ _ _)))
  case body =>
    show wpAny (model X.prog X.w) X.A.in1.in1 (Builtin.«list.sort» ⟨[.ref D], [(Str.ofString "key", .ref q), (Str.ofString "reverse", .bool true)]⟩) _ _ _
    rw [ksk_t2]
    unfold ksk_tree
    have s1 := Heap.SameBut.update h1 D (Obj.mapSeq fun _ => (#[] : Array Value))
    obtain ⟨e1, ho1⟩ := upd_seq (fun _ => (#[] : Array Value)) hoL
    have I2 := I1.put (t' := s.toks) (u := exO D (seqObj "list" #[] e1)) hH1 s1 ⟨_, ho1⟩ (exO_ok ho1)
    have hH2 : (upd H1 D (exO D (seqObj "list" #[] e1))) D = some (exO D (seqObj "list" #[] e1)) := upd_same
    have u2 : ∀ c o, H c = some o → (upd H1 D (exO D (seqObj "list" #[] e1))) c = some o := fun c o q => by rw [upd_ne (ne_of_none q hD)]; exact u1 c o q
    generalize upd H1 D (exO D (seqObj "list" #[] e1)) = H2 at I2 hH2 u2
    refine wpAny_bind (listItems_at hoL rfl ?_)
    refine wpAny_bind (listUpdate_at hoL rfl ?_ (by rw [List.size_toArray]; exact hsL) (Nat.zero_le _))
    refine wpAny_bind (seqEpoch_at ho1 rfl ?_)
    refine wpAny_bind (wpAny_newTuple ?_ hsL)
    refine wpAny_bind (wpAny_newList ?_ (Nat.zero_le _))
    refine wpAny_holding ?_
    generalize h1.update D (Obj.mapSeq fun _ => (#[] : Array Value)) = h2 at I2 ⊢
    have I3 := (I2.kept (t' := s.toks) (h' := h2.push (seqObj "tuple" vs.toArray 0)) fun b u e => Heap.get?_push_of_some _ e).laid (a := (h2.push (seqObj "tuple" vs.toArray 0)).objs.size) (o := exO (h2.push (seqObj "tuple" vs.toArray 0)).objs.size (seqObj "list" #[] 0)) (t' := s.toks)
      (h' := (h2.push (seqObj "tuple" vs.toArray 0)).push (seqObj "list" #[] 0)) (fun b u e => Heap.get?_push_of_some _ e) (Nat.le_refl _) (exO_ok (Heap.get?_push_size _ rfl))
    have hkn : H2 (h2.push (seqObj "tuple" vs.toArray 0)).objs.size = none := I2.hok.fresh (by show h2.objs.size ≤ _; rw [Heap.size_push]; omega)
    show wpAny _ _ (ksk_rest D (.ref q) true vs.toArray e1 (.ref (h2.push (seqObj "tuple" vs.toArray 0)).objs.size)) _ _ { s with heap := (h2.push (seqObj "tuple" vs.toArray 0)).push (seqObj "list" #[] 0), toks := s.toks }
    generalize (h2.push (seqObj "tuple" vs.toArray 0)).objs.size = kS at I3 hkn ⊢
    have hkD : kS ≠ D := fun z => by rw [z, hH2] at hkn; cases hkn
    have hH3 : (upd H2 kS (exO kS (seqObj "list" #[] 0))) D = some (exO D (seqObj "list" #[] e1)) := by rw [upd_ne hkD.symm]; exact hH2
    have hK3 : (upd H2 kS (exO kS (seqObj "list" #[] 0))) kS = some (exO kS (seqObj "list" #[] 0)) := upd_same
    have u3 : ∀ c o, H c = some o → (upd H2 kS (exO kS (seqObj "list" #[] 0))) c = some o := fun c o q => by rw [upd_ne (ne_of_none (u2 c o q) hkn)]; exact u2 c o q
    generalize upd H2 kS (exO kS (seqObj "list" #[] 0)) = H3 at I3 hH3 hK3 u3
    have nk : ∀ c o, H c = some o → c ∉ [D, kS] := fun c o q hc => by
      rcases List.mem_cons.mp hc with z | hc
      · exact ne_of_none q hD z
      · exact ne_of_none (u2 c o q) hkn (by simpa using hc)
    refine sort_rest I3 hH3 hK3 hkD rv hn (fun n t H' s' h1 h2 h3 => turn n t H' s' h1 (fun c o q => h2 c o (nk c o q) (u3 c o q)) h3) fun H' s' ns' k1 k2 k3 k4 k5 => ⟨_, rfl, ?_⟩
    exact wpAny_pure ⟨_, rfl, done D H' s' ns' (fun c o q => k1 c o (nk c o q) (u3 c o q)) k2 hD k3 k4 k5⟩
end L2

set_option Elab.async false
set_option linter.all false
set_option maxRecDepth 100000
set_option maxHeartbeats 4000000
namespace L2
open PySem PySem.Spec PyProof.Rows Srt
/-- the code object of a def's own lambda -/
def exC (c : Addr) (qual : Str) : HO := .ext fun h => h.CodeRec (.ref c) qual
theorem exC_ok {P : Program} {w : World} {H : Hp} {h : Heap} {c : Addr} {qual : Str} (e : h.CodeRec (.ref c) qual) : ObjOk P w H h c (exC c qual) := by
  refine ⟨e, ?_, fun h1 h2 p k => ?_⟩
  · obtain ⟨c', o, vs, t, e1, e2, _⟩ := e
    cases e1
    exact ⟨o, e2⟩
  · obtain ⟨c', o, vs, t, e1, e2, r⟩ := p
    cases e1
    exact ⟨_, o, vs, t, rfl, k o e2, r⟩
/-- the table of a def that has one lambda: not yet made, or made -/
def TabOk (P : Addr) (pos : Pos) (qual : Str) (H : Hp) : Prop := ∃ ps, H P = some (.tbl ps) ∧ (ps = #[] ∨ ∃ c, ps = #[rawInt pos.line, rawInt pos.col, .ref c] ∧ H c = some (exC c qual))
/-- what is known of the def's code object -/
structure LamAt (K : PySem.W.Frag) (mg : Str → Option Value) (cdv : Value) (P : Addr) : Prop where
  hd : ∃ c, cdv = .ref c ∧ ∀ h, K.In h → PySem.W.CodeHd h c P
  blt : ∀ h, K.In h → h.BuiltinsAt mg P
  nP : mainGlobals ≠ P
/-- all but the table is as it was -/
def SameB (P : Addr) (H H' : Hp) : Prop := ∀ c o, c ≠ P → H c = some o → H' c = some o
section
variable {X : Cx} {pins : List (Addr × Obj)} {σ : List (Option V)} {H : Hp} {s : Shared}
theorem TabOk.ne {P : Addr} {pos : Pos} {qual : Str} (t : TabOk P pos qual H) {c : Addr} {o : HO} (e : H c = some o) (n : ∀ ps, o ≠ .tbl ps) : c ≠ P := fun z => by
  obtain ⟨ps, h, _⟩ := t
  rw [z, h] at e
  cases e
  exact n ps rfl
theorem TabOk.same {P : Addr} {pos : Pos} {qual : Str} {H H' : Hp} (t : TabOk P pos qual H) (s : Same H H') : TabOk P pos qual H' := by
  obtain ⟨ps, h, r⟩ := t
  refine ⟨ps, s _ _ h, ?_⟩
  rcases r with r | ⟨c, r1, r2⟩
  · exact .inl r
  · exact .inr ⟨c, r1, s _ _ r2⟩
theorem Inv.pinFn {o : Obj} {h' : Heap} {t' : Nat} (I : Inv X pins σ H { s with heap := h', toks := t' }) (hd : ∀ v, o.data ≠ .cell v) (hfr : o.isFreed = false) :
    (H h'.objs.size = none) ∧ Inv X ((h'.objs.size, o) :: pins) σ H { s with heap := h'.push o, toks := t' } := by
  have hf : H h'.objs.size = none := I.hok.fresh (Nat.le_refl _)
  have J := I.kept (t' := t') (h' := h'.push o) fun b u e => Heap.get?_push_of_some _ e
  refine ⟨hf, J.pins_of fun p hp => ?_⟩
  rcases List.mem_cons.mp hp with rfl | hp
  · refine ⟨Heap.get?_push_size _ hfr, hf, ?_, I.nofs (Nat.le_refl _), hd⟩
    exact Nat.ne_of_gt I.lt
  · exact J.pin p (List.mem_append_right _ hp)
/-- a lambda is made -/
theorem mk_lam {A : Around} {E Q : Value → Shared → Prop} {params : Arguments} {body : Expr} {scope : Scope} {pos : Pos} {clos : List (Str × Addr)} {P : Addr} (I : Inv X pins σ H s) (L : LamAt X.K X.mg X.env.code P) (T : TabOk P pos (X.env.qual ++ "<lambda>") H)
    (hcl : closureFor scope X.env = pure clos) (hdf : defaultsOf params X.env = ([], []))
    (h : ∀ f c' ctv pm H' s', SameB P H H' → TabOk P pos (X.env.qual ++ "<lambda>") H' → H' c' = some (exC c' (X.env.qual ++ "<lambda>")) →
      Inv X ((f, PySem.W.kla_obj "<lambda>" (X.env.qual ++ "<lambda>") params body scope clos pm c' ctv) :: pins) σ H' s' → Q (.ref f) s') :
    wpAny (model X.prog X.w) A (eval (.Lambda params body scope pos) X.env) Q E s := by
  refine PySem.W.kla_eval hdf ?_
  obtain ⟨ps, hP, r⟩ := T
  obtain ⟨c, hc, hCd⟩ := L.hd
  have gP : s.heap.get? P = some (PySem.W.tabObj ps) := I.hok P _ hP
  have hg : s.heap.Ns mainGlobals X.mg := I.ok.mod.glob.keeps I.bk
  rcases r with rfl | ⟨c', rfl, hc'⟩
  · refine PySem.W.kla_makeFunction (mg := X.mg) hcl I.ok.glob hg hc (hCd _ I.kIn) gP trivial rfl L.nP (L.blt _ I.kIn) fun c' ctv h' tk hx hge hlt hrec htb => ?_
    have htb' : h'.get? P = some (PySem.W.tabObj #[rawInt pos.line, rawInt pos.col, .ref c']) := htb
    have hnP : ∀ b u, H b = some u → (∀ ps, u ≠ .tbl ps) → b ≠ P := fun b u e n z => by rw [z, hP] at e; cases e; exact n _ rfl
    have hnN : ∀ b, H b = none → b ≠ P := fun b e z => by rw [z, hP] at e; cases e
    have hfc : H c' = none := I.hok.fresh hge
    have hcP : P ≠ c' := (hnN c' hfc).symm
    have u : Un X.fs [] H (upd (upd H P (.tbl #[rawInt pos.line, rawInt pos.col, .ref c'])) c' (exC c' (X.env.qual ++ "<lambda>"))) s.heap h' :=
      { keep := fun b o e n _ _ => hx b o (hnN b n) e
        slot := fun b o e n _ _ => ⟨o.slots, hx b o (hnN b n) e⟩
        free := fun b o e n _ => by rw [upd_ne (Nat.ne_of_lt (Nat.lt_of_lt_of_le (Heap.lt_size e) hge)), upd_ne (hnN b n)]; exact n
        there := fun b o e _ => by
          by_cases z : b = P
          · rw [z]; exact ⟨_, htb'⟩
          · exact ⟨o, hx b o z e⟩
        tups := fun b xs e => by rw [upd_ne (ne_of_none e hfc), upd_ne (hnP b _ e (fun _ z => by cases z))]; exact e
        frzs := fun b o xs e => by rw [upd_ne (ne_of_none e hfc), upd_ne (hnP b _ e (fun _ z => by cases z))]; exact e
        tbls := fun b qs e => by
          by_cases z : b = P
          · subst z
            rw [hP] at e; cases e
            exact ⟨#[rawInt pos.line, rawInt pos.col, .ref c'], by rw [upd_ne hcP, upd_same]; simp⟩
          · exact ⟨#[], by rw [upd_ne (ne_of_none e hfc), upd_ne z, e]; simp⟩ }
    have hok : HOk X.prog X.w (upd (upd H P (.tbl #[rawInt pos.line, rawInt pos.col, .ref c'])) c' (exC c' (X.env.qual ++ "<lambda>"))) h' := fun b o e => by
      by_cases z : b = c'
      · subst z
        rw [upd_same] at e; cases e
        exact exC_ok hrec
      · rw [upd_ne z] at e
        by_cases z2 : b = P
        · subst z2
          rw [upd_same] at e; cases e
          exact htb'
        · rw [upd_ne z2] at e
          refine (I.hok b o e).stay (fun d v hd q => hx d v ?_ q) (fun d q => ?_) fun d xs q => ?_
          · rcases hd with rfl | hd
            · exact z2
            · exact hnP d _ hd (fun _ z => by cases z)
          · rw [upd_ne (ne_of_none q hfc), upd_ne (hnP d _ q (fun _ z => by cases z))]; exact q
          · rw [upd_ne (ne_of_none q hfc), upd_ne (hnP d _ q (fun _ z => by cases z))]; exact q
    have I1 := I.un (t' := tk) u hok
    obtain ⟨_, I2⟩ := I1.pinFn (o := PySem.W.kla_obj "<lambda>" (X.env.qual ++ "<lambda>") params body scope clos ((X.mg "__name__").getD .none) c' ctv) (fun v z => by cases z) rfl
    refine h _ c' ctv _ _ _ (fun b o n e => ?_) ⟨_, ?_, .inr ⟨c', rfl, upd_same⟩⟩ upd_same I2
    · rw [upd_ne (ne_of_none e hfc), upd_ne n]; exact e
    · rw [upd_ne hcP, upd_same]
  · have hf : codeAmong pos (#[rawInt pos.line, rawInt pos.col, Value.ref c'] : Array Value).toList = some (.ref c') := by
      simp [codeAmong, rawInt]
    refine PySem.W.kla_makeFunctionHit (mg := X.mg) hcl I.ok.glob hg hc (hCd _ I.kIn) gP trivial hf (L.blt _ I.kIn) fun ctv h' tk hk hsz => ?_
    have I1 := I.kept (t' := tk) hk
    obtain ⟨_, I2⟩ := I1.pinFn (o := PySem.W.kla_obj "<lambda>" (X.env.qual ++ "<lambda>") params body scope clos ((X.mg "__name__").getD .none) c' ctv) (fun v z => by cases z) rfl
    exact h _ c' ctv _ _ _ (fun b o n e => e) ⟨_, hP, .inr ⟨c', rfl, hc'⟩⟩ hc' I2
/-- the context of a lambda's body -/
def cxL (X : Cx) (A : Around) (s : Shared) (H : Hp) (N : List Str) (env : Env) : Cx :=
  { prog := X.prog, w := X.w, K := X.K, mg := X.mg, base := X.base, A := A.deeper env, N := N, s₀ := s, H₀ := H, env := env, outer := X.stack, stack := env :: X.stack, ex := [], fn := fun _ => false, calm := true, pn := [], xe := fun _ _ => False }
/-- a lambda is called: x its parameter, y the name that it takes from around -/
theorem lam_turn {A : Around} {E Q : Value → Shared → Prop} {Q' : VK} {f c c' : Addr} {name qual : Str} {params : Arguments} {body : Expr} {scope : Scope} {pm ctv : Value} {x y : Str} {u ub : Value} {v vb : V} {t : TE}
    (I : Inv X pins σ H s) (hp : (f, PySem.W.kla_obj name qual params body scope [(y, c)] pm c' ctv) ∈ X.pn ++ pins) (hc : H c' = some (exC c' qual)) (hA : A.frames = some X.stack) (hh : A.handled = none) (hroom : A.depth < recursionLimit)
    (hc1 : X.env.cells.lookup y = some c) (hcu : s.heap.IsCell c (some ub)) (rb : RelV vb ub) (rv : RelV v u) (hsc : scope.names = [(x, .local), (y, .free)]) (hk : scope.kind = .function) (hco : scope.isCoroutine = false) (hgen : scope.isGenerator = false) (hxy : x ≠ y)
    (hbind : bindArgs (PySem.W.kla_fn name qual params body scope [(y, c)] pm (.ref c') ctv) ⟨[u], []⟩ = pure [(x, u)])
    (hb : PE (cxL X A s H [x, y] (PySem.W.envX qual scope s.heap.objs.size f (.ref c') [(y, c)])) body t) (ht : t [some v, some vb] H Q')
    (q : ∀ u' s' v' H', Inv X pins σ H' s' → RelV v' u' → Q' v' H' → Q u' s') : wpAny (model X.prog X.w) A (call (.ref f) [u]) Q E s := by
  have hfo := (I.pin _ hp).1
  have hrec : s.heap.CodeRec (.ref c') qual := (show ObjOk X.prog X.w H s.heap c' (exC c' qual) from I.hok c' _ hc).1
  refine wpAny_call (PySem.W.kla_callFunE hroom hfo rfl hco hgen rfl hrec ?_)
  rw [hbind]
  have lx : scope.names.lookup x = some .local := by rw [hsc]; simp
  have ly : scope.names.lookup y = some .free := by rw [hsc, List.lookup_cons, show (y == x) = false from beq_eq_false_iff_ne.mpr (Ne.symm hxy)]; simp
  refine wpAny_pure (wpAny_newFunctionEnv (fun z hz => ?_) (fun z hz => ?_) (fun h₁ hns hsb => ?_) hk)
  · rw [hsc] at hz
    rcases List.mem_cons.mp hz with rfl | hz
    · exact fun z => by cases z
    · rw [List.mem_singleton.mp hz]; exact fun z => by cases z
  · rw [List.mem_singleton.mp hz]; exact lx
  · have hk₁ : ∀ b o, s.heap.get? b = some o → h₁.get? b = some o := fun b o e => hsb.extBut b o (Nat.ne_of_lt (Heap.lt_size e)) (Heap.get?_push_of_some _ e)
    refine ⟨I.nolimit.keeps hk₁, ?_⟩
    show codeAny _ _ (.expr body (PySem.W.envX qual scope s.heap.objs.size f (.ref c') [(y, c)])) _ _
    refine PySem.W.kla_codeExpr ?_
    have cellK : h₁.IsCell c (some ub) := let ⟨o, e1, e2⟩ := hcu; ⟨o, hk₁ _ _ e1, e2⟩
    have lk : ∀ z d, ([(y, c)] : List (Str × Addr)).lookup z = some d → z = y ∧ d = c := fun z d e => by
      rw [List.lookup_cons] at e
      cases hz : z == y with
      | true => rw [hz] at e; cases e; exact ⟨eq_of_beq hz, rfl⟩
      | false => rw [hz] at e; cases e
    have J : Inv (cxL X A s H [x, y] (PySem.W.envX qual scope s.heap.objs.size f (.ref c') [(y, c)])) [] [some v, some vb] H { s with heap := h₁, toks := s.toks + 1 } := by
      refine ⟨⟨I.ok.mod, hk, rfl, rfl, Nat.le_refl _, fun z1 z2 d e1 e2 => (lk _ _ e1).1.trans (lk _ _ e2).1.symm, fun z hz => ?_, fun z d e => (by cases e), fun _ => hh, Around.frames_deeper hA, .inr ⟨rfl, rfl⟩, fun b z => absurd (show b ∈ ([] : List Addr) from z) (by simp), I.bs, Nat.le_trans I.ok.bsz I.sz, fun b o _ z => absurd (show b ∈ ([] : List Addr) from z) (by simp), fun b z => absurd (show b ∈ ([] : List Addr) from z) (by simp), I.stack, I.stkFree⟩,
        rfl, I.bare, Un.kept hk₁, ⟨_, hns, fun i z w e1 e2 e3 => ?_⟩, fun z d e => ?_, I.hok.fresh (Nat.le_refl _), fun z d e => ?_, fun p hp => absurd (show p ∈ ([] : List (Addr × Obj)) from hp) (by simp), I.hok.kept hk₁, rfl⟩
      · have hz' : scope.names.lookup z = some .cell ∨ scope.names.lookup z = some .free := hz
        rw [hsc, List.lookup_cons] at hz'
        cases q1 : z == x with
        | true => rw [q1] at hz'; rcases hz' with z | z <;> cases z
        | false =>
          rw [q1, List.lookup_cons] at hz'
          cases q2 : z == y with
          | true => exact ⟨c, by show ([(y, c)] : List (Str × Addr)).lookup z = some c; rw [List.lookup_cons, q2]⟩
          | false => rw [q2] at hz'; rcases hz' with z | z <;> cases z
      · match i, e1, e2 with
        | 0, e1, e2 =>
          have e1' : some x = some z := e1
          have e2' : some (some v) = some (some w) := e2
          cases e1'; cases e2'
          exact ⟨u, rv, .inl ⟨lx, by simp⟩⟩
        | 1, e1, e2 =>
          have e1' : some y = some z := e1
          have e2' : some (some vb) = some (some w) := e2
          cases e1'; cases e2'
          exact ⟨ub, rb, .inr ⟨.inr ly, c, by show ([(y, c)] : List (Str × Addr)).lookup y = some c; simp, cellK⟩⟩
        | n + 2, e1, e2 => simp [cxL] at e1
      · obtain ⟨rfl, rfl⟩ := lk z d e
        exact ⟨_, cellK⟩
      · obtain ⟨rfl, rfl⟩ := lk z d e
        exact I.freeC _ _ hc1
    refine wpAny_mono (hb [] _ _ H _ J ht) (fun u' s' hs => ?_) fun e s' hs => hs.elim
    obtain ⟨v', H', J', r', q'⟩ := hs
    exact q u' s' v' H' (I.call' (ch := []) J'.os J'.base J'.hok J'.bare fun b z => absurd z (by simp)) r' q'
end
end L2

set_option Elab.async false
set_option linter.all false
set_option maxRecDepth 100000
set_option maxHeartbeats 4000000
namespace L2
open PySem PySem.Spec PyProof.Rows Srt
/-- sorted(ta, key=lambda x: .., reverse=True): tb reads the lambda's body at x and y (y stands in slot j) -/
def tSortE (P : Addr) (lpos : Pos) (qual : Str) (j : Nat) (tb : TE) (σ : St) (Q : VK) (xl : V) (H1 : Hp) : Prop := ∃ (l : Addr) (ns : List Int) (vb : V) (kf : Int → Int × Int × Int), xl = .ref l ∧ H1 l = some (.lst (ns.map V.int)) ∧ ns.length ≤ 1000 ∧ σ[j]? = some (some vb) ∧ TabOk P lpos qual H1 ∧
  (∀ n ∈ ns, ∀ H', SameB P H1 H' → tb [some (.int n), some vb] H' (fun v H'' => ∃ r, v = .ref r ∧ H' r = none ∧ H'' = upd H' r (.tup [.int (kf n).1, .int (kf n).2.1, .int (kf n).2.2]))) ∧
  (∀ (D : Addr) (H' : Hp) (ns' : List Int), SameB P H1 H' → TabOk P lpos qual H' → H' D = some (.lst (ns'.map V.int)) → H1 D = none → ns'.Perm ns → ns'.Pairwise (fun x y => lex (kf x) (kf y) = false) → Q (.ref D) H')
def tSortL (P : Addr) (lpos : Pos) (qual : Str) (j : Nat) (tb ta : TE) : TE := fun σ H Q => ta σ H (tSortE P lpos qual j tb σ Q)
theorem pe_sortL {X : Cx} {k j : Nat} {P c : Addr} {x y : Str} {e : Expr} {ta tb : TE} {params : Arguments} {body : Expr} {scope : Scope} {p pos lpos kpos rpos cpos : Pos} {ck : Nat} (L : LamAt X.K X.mg X.env.code P) (hr : Room k X.A)
    (hg : Gl X "sorted") (hm : X.mg "sorted" = none) (hv : bootBuiltins "sorted" = some (.builtin "sorted")) (ha : PA X [e] (tCons ta tNil))
    (hcl : closureFor scope X.env = pure [(y, c)]) (hce : X.env.cells.lookup y = some c) (hky : X.env.kindOf y = some .cell) (hj : X.N[j]? = some y) (hdf : defaultsOf params X.env = ([], []))
    (hsc : scope.names = [(x, .local), (y, .free)]) (hk : scope.kind = .function) (hco : scope.isCoroutine = false) (hgen : scope.isGenerator = false) (hxy : x ≠ y)
    (hbind : ∀ (pm ctv u : Value) (c' : Addr), bindArgs (PySem.W.kla_fn "<lambda>" (X.env.qual ++ "<lambda>") params body scope [(y, c)] pm (.ref c') ctv) ⟨[u], []⟩ = pure [(x, u)])
    (hb : ∀ (A : Around) (s : Shared) (H : Hp) (l f c' : Addr), PE (cxL X A s H [x, y] (PySem.W.envX (X.env.qual ++ "<lambda>") scope l f (.ref c') [(y, c)])) body tb)
    (he : starEach [e] X.env = (false, eval e X.env) :: starEach [] X.env := by rfl) :
    PE X (.Call (.Name "sorted" p) [e] [⟨some "key", .Lambda params body scope lpos, kpos⟩, ⟨some "reverse", .Constant (.bool true) ck cpos, rpos⟩] pos) (tSortL P lpos (X.env.qual ++ "<lambda>") j tb ta) := by
  intro pins s σ H Q I h
  refine wpAny_Call_Name_kw (ld_blt I hg hm hv ?_)
  refine callWith_kw (thn (ha pos pins s σ H (fun xs H1 => match xs with | [xl] => tSortE P lpos (X.env.qual ++ "<lambda>") j tb σ Q xl H1 | _ => False) I h) ?_) (by rw [he]; rfl) (by rw [he]; rfl)
  · rintro us s1 ⟨vs, H1, I1, r1, hvs⟩
    obtain ⟨xl, rfl⟩ : ∃ xl, vs = [xl] := by
      match vs, hvs with
      | [xl], _ => exact ⟨xl, rfl⟩
    obtain ⟨l, ns, vb, kf, rfl, hl, hn, hσ, hT, hbody, hq⟩ := hvs
    obtain ⟨ul, rfl, rl⟩ := vals1 r1
    cases rl
    show wpAny _ _ (evalAll [(do let v ← eval (.Lambda params body scope lpos) X.env; standAt pos; pure v), (do let v ← eval (.Constant (.bool true) ck cpos) X.env; standAt pos; pure v)]) _ _ s1
    refine wpAny_evalAll_cons (wpAny_bind (mk_lam I1 L hT hcl hdf fun f c' ctv pm H2 s2 sb hT2 hc2 I2 => wpAny_bind (wpAny_standAt (wpAny_pure ?_))))
    refine wpAny_evalAll_cons (wpAny_bind (Constant_bool (wpAny_bind (wpAny_standAt (wpAny_pure (wpAny_evalAll_nil ?_))))))
    show wpAny _ _ (call (.builtin "sorted") [.ref l] [(Str.ofString "key", .ref f), (Str.ofString "reverse", .bool true)]) _ _ _
    have hl2 : H2 l = some (.lst (ns.map V.int)) := sb _ _ (hT.ne hl fun _ z => by cases z) hl
    refine sortK I2 hl2 hn (kf := kf) (fun n t H' s' hns same I' => ?_) fun D H' s' ns' same hD hDn hp ho I' => ?_
    · obtain ⟨m, hns', hloc⟩ := I'.loc
      obtain ⟨ub, rb, hlk⟩ := hloc j y vb hj hσ (.inr (.inl hky))
      have hcu : s'.heap.IsCell c (some ub) := by
        rcases hlk with ⟨z, _⟩ | ⟨_, d, e1, e2⟩
        · rw [hky] at z; cases z
        · rw [hce] at e1; cases e1; exact e2
      have hfr := I'.ok.frames
      refine lam_turn (Q' := fun v H'' => ∃ r, v = .ref r ∧ H' r = none ∧ H'' = upd H' r (.tup [.int (kf n).1, .int (kf n).2.1, .int (kf n).2.2])) I' (List.mem_append_right _ (.head _)) (same _ _ hc2) (by show X.A.frames = _; exact hfr) (show X.A.handled = none from hr.hd) (show X.A.depth < recursionLimit from hr.depth) hce hcu rb (v := .int n) ⟨t, rfl⟩ hsc hk hco hgen hxy (hbind _ _ _ _) (hb _ _ _ _ _ _)
        (hbody n hns H' fun b o hb' q => same _ _ (sb b o hb' q)) ?_
      rintro u' s'' v' H'' I'' rv' ⟨r, rfl, hr0, rfl⟩
      cases rv'
      exact ⟨r, rfl, hr0, I''⟩
    · have hD1 : H1 D = none := by
        cases z : H1 D with
        | none => rfl
        | some o =>
          by_cases zP : D = P
          · obtain ⟨ps, h1, _⟩ := hT2
            rw [zP, h1] at hDn; cases hDn
          · rw [sb D o zP z] at hDn; cases hDn
      refine ⟨.ref D, H', ?_, rfl, hq D H' ns' (fun b o hb' q => same _ _ (sb b o hb' q)) (hT2.same same) hD hD1 hp ho⟩
      exact I'.pins_of fun q hq => I'.pin q (List.mem_append_right _ (.tail _ hq))
/-- the rule for a def, with its code object -/
theorem Fun.okc {P : Program} {w : World} {K : PySem.W.Frag} {mg : Str → Option Value} {base : Heap} {x qual : Str} {st : Stmt} {f : Addr} {fd : FuncData} {N ps : List Str} {k : Nat} {sp : Sp} (F : Fun K x qual st f fd) (S : FnScope N ps (defScope st)) (len : ∀ vs H Q E, sp vs H Q E → vs.length = ps.length)
    (hbody : ∀ (cdv : Value) (A : Around) (outer : List Env) (s : Shared) (H : Hp) (vs : List V) (Q : VK) (E : XK), fd.code = cdv → Room k (A.deeper (envOfC qual (defScope st) s.heap.objs.size f cdv)) → sp vs H Q E →
      ∃ t, PSs (cxOf CX0 P w K mg base N qual (defScope st) f cdv A outer s H E).nox (defBody st) t ∧ t { nx := fun _ H' => Q .non H', rt := Q } (start N vs) H) : FnOk P w K mg base CX0 (k + 1) f fd ps sp := by
  obtain ⟨oc, od, kV, doc, pm, an, cdv, ct, osl, rfl, lk, hcd⟩ := F.ex
  refine fn_of lk hcd S len fun A outer s H vs Q E hr hsp => ?_
  obtain ⟨t, h, q⟩ := hbody cdv A outer s H vs Q E rfl hr hsp
  exact ⟨t, h.nox, q⟩
/-- the head, with the table of a def tracked -/
theorem law_callT {P : Program} {w : World} {K : PySem.W.Frag} {mg mb : Str → Option Value} {CX : CXT} {k : Nat} {fa a T c : Addr} {fd : FuncData} {x : Str} {sp : Sp} {s₁ : Shared} {vs : List Value} {ns : List Int}
    (KX : K.In s₁.heap) (hns : s₁.heap.Ns mainGlobals mg) (hb : s₁.heap.Ns builtinsNs mb) (hbb : ∀ x : Str, x ≠ "__name__" → mb x = bootBuiltins x) (hlim : s₁.heap.NoLimit) (hg : s₁.gens = #[])
    (ha : s₁.heap.get? a = some { cls := .type "list", data := .seq vs.toArray }) (hi : IntsAre vs ns) (hl : ns.length ≤ sizeLine) (hr : Room k callerA)
    (hT : s₁.heap.get? T = some (PySem.W.tabObj #[])) (hCd : PySem.W.CodeHd s₁.heap c T)
    (F : ∀ base : Heap, K.In base → base.Ns mainGlobals mg → FnOk P w K mg base CX k fa fd [x] sp) (hbind : ∀ (s : Shared) (u : Value), BindsTo s fd ⟨[u], []⟩ [(x, u)]) (hKT : K.lookup T = none)
    (hsp : ∀ H : Hp, H T = some (.tbl #[]) → SqL K H a (ns.map V.int) → sp [.ref a] H (fun v _ => v = .bl true) fun _ _ _ => False)
    (hCX : ∀ H e s', CX [] H s₁ (fun _ _ _ => False) e s' → False) :
    codeAny (model P w) callerA (.call (.ref fa) ⟨[.ref a], []⟩) (fun r s' => r = .ok (.ret (.bool true)) ∧ OldK s₁.heap s'.heap ∧ s'.os = s₁.os ∧ AllBare s'.gens) s₁ := by
  have rv := vals_ints hi
  have lenV := hi.length
  have naT : a ≠ T := fun z => by rw [z, hT] at ha; cases ha
  have core : ∀ H : Hp, H T = some (.tbl #[]) → (∀ b, b ≠ T → H b = none ∨ b = a ∧ ∃ o xs, H b = some (.frz o (.lst xs))) → SqL K H a (ns.map V.int) → HOk P w H s₁.heap → (H a ≠ none → K.lookup a = none) →
      codeAny (model P w) callerA (.call (.ref fa) ⟨[.ref a], []⟩) (fun r s' => r = .ok (.ret (.bool true)) ∧ OldK s₁.heap s'.heap ∧ s'.os = s₁.os ∧ AllBare s'.gens) s₁ := by
    intro H hHT hO hS hok hK
    have base_of : ∀ {b : Addr} {o : Obj}, s₁.heap.get? b = some o → H b = none → (hidT s₁.heap H).get? b = some o := fun e n => hidT_get e n
    have noA : ∀ {b : Addr} {o : Obj} {es : Array DictEntry} {ep : Nat}, s₁.heap.get? b = some o → o.data = .dict es ep → H b = none := fun {b o es ep} e d => by
      by_cases zT : b = T
      · rw [zT, hT] at e; cases e; cases d
      · rcases hO b zT with z | ⟨z, _⟩
        · exact z
        · subst z
          rw [ha] at e; cases e
          have d' : Data.seq vs.toArray _ = Data.dict es ep := d
          cases d'
    have nsK : ∀ {b : Addr} {m : Str → Option Value}, s₁.heap.Ns b m → (hidT s₁.heap H).Ns b m := fun {b m} ⟨o, es, ep, e, d, r⟩ => ⟨o, es, ep, base_of e (noA e d), d, r⟩
    have hKb : K.In (hidT s₁.heap H) := fun b o e => base_of (KX b o e) (by
      have zT : b ≠ T := fun z => by rw [z, hKT] at e; cases e
      rcases hO b zT with z | ⟨z, o', xs, z2⟩
      · exact z
      · subst z
        rw [hK (by rw [z2]; simp)] at e; cases e)
    have hM : Mod K mg (hidT s₁.heap H) := ⟨hKb, nsK hns, ⟨mb, nsK hb, hbb⟩, let ⟨mc, h1, h2⟩ := hlim; ⟨mc, nsK h1, h2⟩⟩
    have e0 : Env0 P w K mg (hidT s₁.heap H) callerA [] s₁ H := ⟨rfl, hM, fun b o e => of_hidT e, Nat.le_of_eq (hidT_size _ _), trivial, fun b hb => absurd (show b ∈ ([] : List Addr) from hb) (by simp), hok, .of_eq hg⟩
    refine codeAny_mono ((F _ hKb (nsK hns)).run callerA [] s₁ H ⟨[.ref a], []⟩ [.ref a] [.ref a] _ _ hr e0 (hbind s₁ (.ref a)) (.cons rfl .nil) (hsp H hHT hS)) fun r s' h => ?_
    cases r with
    | error e => exact (hCX H e s' h).elim
    | ok fl =>
      cases fl with
      | next => exact False.elim h
      | brk => exact False.elim h
      | cont => exact False.elim h
      | ret u =>
        obtain ⟨v, H', os, bare, un, hok', r', q⟩ := h
        have q' : v = .bl true := q
        subst q'
        obtain rfl : u = Value.bool true := r'
        have kept : ∀ b o, b ≠ T → s₁.heap.get? b = some o → s'.heap.get? b = some o := fun b o zT e => by
          rcases hO b zT with z | ⟨_, ob, xs, z⟩
          · exact un.keep b o e z (fun q => absurd (show b ∈ ([] : List Addr) from q) (by simp)) (by simp)
          · have z2 := un.frzs b ob _ z
            obtain ⟨e1, _⟩ := hok b _ z
            obtain ⟨e2, _⟩ := hok' b _ z2
            rw [e] at e1; cases e1
            exact e2
        obtain ⟨more, hm⟩ := un.tbls T #[] hHT
        have hT' : s'.heap.get? T = some (PySem.W.tabObj (#[] ++ more)) := hok' T _ hm
        refine ⟨rfl, ⟨fun b o e => ?_, fun b o e => ?_⟩, os, bare⟩
        · by_cases zT : b = T
          · subst zT
            rw [hT] at e; cases e
            exact .inr (.inl ⟨(hCd.tab hT).isCodeTable, rfl, #[], more, rfl, hT'⟩)
          · exact .inl (kept b o zT e)
        · by_cases zT : b = T
          · rw [zT]; exact ⟨_, hT'⟩
          · exact ⟨o, kept b o zT e⟩
  cases hk : K.lookup a with
  | some o =>
    have e := KX a o hk
    rw [ha] at e
    cases e
    refine core (fun b => if b = T then some (.tbl #[]) else none) (if_pos rfl) (fun b z => .inl (if_neg z)) (.inr ⟨_, vs.toArray, _, hk, rfl, rfl, rfl, by rw [List.size_toArray, lenV]; exact hl, by simpa using rv⟩) (fun b u z => ?_) (fun z => absurd (if_neg naT) z)
    by_cases hb : b = T
    · have z' := (if_pos hb).symm.trans z
      cases z'
      subst hb
      exact hT
    · have z' := (if_neg hb).symm.trans z
      cases z'
  | none =>
    refine core (fun b => if b = T then some (.tbl #[]) else if b = a then some (.frz { cls := .type "list", data := .seq vs.toArray } (.lst (ns.map V.int))) else none) (if_pos rfl) (fun b zT => ?_) (.inl (.inr ⟨{ cls := .type "list", data := .seq vs.toArray }, (if_neg naT).trans (if_pos rfl)⟩)) (fun b u z => ?_) fun _ => hk
    · by_cases hb : b = a
      · exact .inr ⟨hb, _, _, (if_neg zT).trans (if_pos hb)⟩
      · exact .inl ((if_neg zT).trans (if_neg hb))
    · by_cases zT : b = T
      · have z' := (if_pos zT).symm.trans z
        cases z'
        subst zT
        exact hT
      · by_cases hb : b = a
        · have z' := ((if_neg zT).trans (if_pos hb)).symm.trans z
          cases z'
          subst hb
          exact ⟨ha, by rw [List.length_map]; exact hl, vs, _, rv, ha⟩
        · have z' := ((if_neg zT).trans (if_neg hb)).symm.trans z
          cases z'
theorem walk_ofT {l : PySem.W.OpenLaw} {n k : Nat} {q : Program} {loose : List Str} {XP : (Str → Option Value) → Heap → Prop} {YP : World → Heap → Prop} {d : DefRec} {K : Params → PySem.W.Frag} {CX : World → CXT} {sp : World → Sp} {x : Str} {T c : Addr}
    (hn : l.most = some n) (hn2 : n ≤ sizeLine) (hdf : d.params.defaults = []) (hr : Room k callerA)
    (hY : ∀ (w : World) (h : Heap), YP w h → (K w.params).In h ∧ h.get? T = some (PySem.W.tabObj #[])) (hCd : ∀ (w : World) (h : Heap), (K w.params).In h → PySem.W.CodeHd h c T) (hKT : ∀ w : World, (K w.params).lookup T = none)
    (F : ∀ (w : World) (mg : Str → Option Value) (fa : Addr) (h : Heap), (K w.params).In h → h.Ns mainGlobals mg → mg d.name = some (.ref fa) →
      ∃ fd : FuncData, (∀ (s : Shared) (u : Value), BindsTo s fd ⟨[u], []⟩ [(x, u)]) ∧
        ∀ base : Heap, (K w.params).In base → base.Ns mainGlobals mg → FnOk l.prog w (K w.params) mg base (CX w) k fa fd [x] (sp w))
    (hsp : ∀ (w : World) (H : Hp) (a : Addr) (ns : List Int), ns.length ≤ n → H T = some (.tbl #[]) → SqL (K w.params) H a (ns.map V.int) → sp w [.ref a] H (fun v _ => v = .bl true) fun _ _ _ => False)
    (hCX : ∀ (w : World) (H : Hp) (s : Shared) (e : Value) (s' : Shared), CX w [] H s (fun _ _ _ => False) e s' → False) :
    PySem.W.WalkO q loose XP YP l.row.toRowW d [] (fun f vs => PySem.call f vs) := by
  refine Att.attach_call hn hdf fun w s₀ s₁ mg mb fa o pm cd doc a vs ns G Y ho hd hcd hmg hobj hints hlen hg => ?_
  obtain ⟨KX, hT⟩ := hY w _ Y
  obtain ⟨fd, hb, hF⟩ := F w mg fa _ KX G.T.g hmg
  exact law_callT KX G.T.g G.T.b G.T.builtins G.T.nolimit hg hobj hints (Nat.le_trans hlen hn2) hr hT (hCd w _ KX) hF hb (hKT w) (fun H hO hS => hsp w H a ns hlen hO hS) fun H e s' => hCX w H s₁ e s'
end L2

set_option Elab.async false
set_option linter.all false
set_option maxRecDepth 100000
set_option maxHeartbeats 8000000
namespace My
open PySem PySem.W PySem.Calls PyProof.Rows
noncomputable section
def top (i : Nat) : Stmt := PySem.Challenge.pw_leasttariff_k02_whole_alone.main.body.getD i (.Pass ⟨0, 0, 0, 0⟩)
def de (P : Params) (x : Str) (t : Nat) (v : Value) : DictEntry := ⟨PyData.keyHash P x, .str x t, v⟩
def o2 : Obj := ⟨.none, none, (.dict #[] 0), #[]⟩
def o3 (P : Params) : Obj := ⟨(.type "dict"), none, (.dict #[de P "__name__" 165 (.str "law_leasttariff_k02_whole_alone" 726), de P "__doc__" 166 .none, de P "__package__" 167 .none, de P "__loader__" 168 (.builtin "__main__.__loader__#opaque"), de P "__spec__" 169 .none, de P "__annotations__" 170 (.ref 6), de P "__builtins__" 171 (.ref 4), de P "__file__" 173 (.str "/claim/cut.py" 172), de P "__cached__" 174 .none, de P "TariffError" 206 (.ref 24), de P "BadBook" 222 (.ref 37), de P "BadPlace" 238 (.ref 49), de P "is_whole" 247 (.ref 58), de P "is_whole_pair" 254 (.ref 65), de P "common_divisor" 263 (.ref 72), de P "is_amount" 270 (.ref 79), de P "is_place" 278 (.ref 86), de P "check_book" 286 (.ref 93), de P "check_place" 294 (.ref 100), de P "lowest_terms" 305 (.ref 107), de P "top_of_cost" 313 (.ref 114), de P "tops_of_cost" 321 (.ref 119), de P "is_weighing" 329 (.ref 126), de P "is_mixture" 343 (.ref 133), de P "is_less" 351 (.ref 140), de P "are_begins" 357 (.ref 145), de P "are_places_in_turn" 363 (.ref 150), de P "are_least_at_both_ends" 376 (.ref 157), de P "Answer" 396 (.ref 167), de P "Alone" 427 (.ref 193), de P "Needless" 468 (.ref 219), de P "Ranges" 501 (.ref 243), de P "Under" 532 (.ref 267), de P "Over" 566 (.ref 293), de P "Most" 599 (.ref 317), de P "Endless" 634 (.ref 343), de P "Dear" 656 (.ref 360), de P "by_falling_piece" 667 (.ref 369), de P "least_in_turn" 681 (.ref 376), de P "turn_for" 693 (.ref 383), de P "amount_below" 707 (.ref 390), de P "mixture_for" 719 (.ref 397), de P "alone" 725 (.ref 402), de P "_law_book" 733 (.ref 407), de P "_law_lowest" 743 (.ref 414), de P "_law_is_amount" 749 (.ref 419), de P "_law_cost" 757 (.ref 426), de P "_law_whole" 764 (.ref 433), de P "_law_mixture" 770 (.ref 438), de P "_law_alone" 776 (.ref 443), de P "_law_needless" 785 (.ref 450), de P "_law_due" 794 (.ref 457), de P "_law_right" 808 (.ref 464), de P "law" 821 (.ref 471)] 54), #[]⟩
def o4 : Obj := ⟨(.type "module"), (some 0), .plain, #[]⟩
def o15 : Obj := ⟨(.type "tuple"), none, (.seq #[(.type "ValueError")] 0), #[]⟩
def o22 : Obj := ⟨(.type "tuple"), none, (.seq #[] 0), #[]⟩
def o23 (P : Params) : Obj := ⟨(.type "dict"), none, (.dict #[de P "__module__" 196 (.str "leasttariff.errors" 187), de P "__firstlineno__" 200 (.int 2 199), de P "__static_attributes__" 201 (.ref 22), de P "__weakref__" 203 (.ref 25), de P "__doc__" 204 .none] 3), #[]⟩
def o24 : Obj := ⟨(.type "type"), none, (.cls ⟨"TariffError", [(.type "ValueError")], [(.ref 24), (.type "ValueError"), (.type "Exception"), (.type "BaseException"), (.type "object")], 23, "TariffError", true, [], [(.ref 37), (.ref 49)], false, none, false⟩), #[some (.ref 15), none, some (.str "TariffError" 189), some (.str "TariffError" 197), some (.builtin "ValueError.__new__"), some (.bool true)]⟩
def o25 : Obj := ⟨(.type "getset_descriptor"), none, (.fields #[(.str "__weakref__" 202), (.ref 24), (.builtin "ExceptionGroup.__weakref__"), .none]), #[]⟩
def o28 : Obj := ⟨(.type "tuple"), none, (.seq #[(.ref 24)] 0), #[]⟩
def o35 : Obj := ⟨(.type "tuple"), none, (.seq #[] 0), #[]⟩
def o36 (P : Params) : Obj := ⟨(.type "dict"), none, (.dict #[de P "__module__" 214 (.str "leasttariff.errors" 187), de P "__firstlineno__" 218 (.int 4 217), de P "__static_attributes__" 219 (.ref 35), de P "__doc__" 220 .none] 2), #[]⟩
def o37 : Obj := ⟨(.type "type"), none, (.cls ⟨"BadBook", [(.ref 24)], [(.ref 37), (.ref 24), (.type "ValueError"), (.type "Exception"), (.type "BaseException"), (.type "object")], 36, "BadBook", true, [], [], false, none, false⟩), #[some (.ref 28), none, some (.str "BadBook" 207), some (.str "BadBook" 215), some (.builtin "ValueError.__new__"), some (.bool true)]⟩
def o40 : Obj := ⟨(.type "tuple"), none, (.seq #[(.ref 24)] 0), #[]⟩
def o47 : Obj := ⟨(.type "tuple"), none, (.seq #[] 0), #[]⟩
def o48 (P : Params) : Obj := ⟨(.type "dict"), none, (.dict #[de P "__module__" 230 (.str "leasttariff.errors" 187), de P "__firstlineno__" 234 (.int 6 233), de P "__static_attributes__" 235 (.ref 47), de P "__doc__" 236 .none] 2), #[]⟩
def o49 : Obj := ⟨(.type "type"), none, (.cls ⟨"BadPlace", [(.ref 24)], [(.ref 49), (.ref 24), (.type "ValueError"), (.type "Exception"), (.type "BaseException"), (.type "object")], 48, "BadPlace", true, [], [], false, none, false⟩), #[some (.ref 40), none, some (.str "BadPlace" 223), some (.str "BadPlace" 231), some (.builtin "ValueError.__new__"), some (.bool true)]⟩
def o52 : Obj := ⟨(.type "tuple"), none, (.seq #[] 0), #[]⟩
def o54 : Obj := ⟨(.type "tuple"), none, (.seq #[(.str "value" 244)] 0), #[]⟩
def o55 : Obj := ⟨(.type "tuple"), none, (.seq #[] 0), #[]⟩
def o57 : Obj := ⟨(.type "code"), none, (.fields #[(.str "is_whole" 241), (.str "is_whole" 242), (.str "/claim/cut.py" 243), (.int 9 0), (.int 1 0), (.int 0 0), (.int 0 0), (.int 3 0), (.ref 52), (.bool true), (.int 181 0), (.ref 53), .none, (.ref 54), (.ref 55), (.ref 56), (.int 245 0), (.int 9 0), (.str "/claim/cut.py" 246)]), #[]⟩
def o58 : Obj := ⟨(.type "function"), none, (.func (fnOf "is_whole" "is_whole" (L2.defArgs (top 5)) (L2.defBody (top 5)) (L2.defScope (top 5)) .none .none .none (.str "leasttariff.kinds" 239) none (.ref 57) .none)), #[]⟩
def o59 : Obj := ⟨(.type "tuple"), none, (.seq #[] 0), #[]⟩
def o61 : Obj := ⟨(.type "tuple"), none, (.seq #[(.str "value" 251)] 0), #[]⟩
def o62 : Obj := ⟨(.type "tuple"), none, (.seq #[] 0), #[]⟩
def o64 : Obj := ⟨(.type "code"), none, (.fields #[(.str "is_whole_pair" 248), (.str "is_whole_pair" 249), (.str "/claim/cut.py" 250), (.int 11 0), (.int 1 0), (.int 0 0), (.int 0 0), (.int 3 0), (.ref 59), (.bool true), (.int 181 0), (.ref 60), .none, (.ref 61), (.ref 62), (.ref 63), (.int 252 0), (.int 11 0), (.str "/claim/cut.py" 253)]), #[]⟩
def o65 : Obj := ⟨(.type "function"), none, (.func (fnOf "is_whole_pair" "is_whole_pair" (L2.defArgs (top 6)) (L2.defBody (top 6)) (L2.defScope (top 6)) .none .none .none (.str "leasttariff.kinds" 239) none (.ref 64) .none)), #[]⟩
def o66 : Obj := ⟨(.type "tuple"), none, (.seq #[] 0), #[]⟩
def o68 : Obj := ⟨(.type "tuple"), none, (.seq #[(.str "one" 258), (.str "other" 259), (.str "rest" 260)] 0), #[]⟩
def o69 : Obj := ⟨(.type "tuple"), none, (.seq #[] 0), #[]⟩
def o71 : Obj := ⟨(.type "code"), none, (.fields #[(.str "common_divisor" 255), (.str "common_divisor" 256), (.str "/claim/cut.py" 257), (.int 13 0), (.int 2 0), (.int 0 0), (.int 0 0), (.int 3 0), (.ref 66), (.bool true), (.int 181 0), (.ref 67), .none, (.ref 68), (.ref 69), (.ref 70), (.int 261 0), (.int 13 0), (.str "/claim/cut.py" 262)]), #[]⟩
def o72 : Obj := ⟨(.type "function"), none, (.func (fnOf "common_divisor" "common_divisor" (L2.defArgs (top 7)) (L2.defBody (top 7)) (L2.defScope (top 7)) .none .none .none (.str "leasttariff.kinds" 239) none (.ref 71) .none)), #[]⟩
def o73 : Obj := ⟨(.type "tuple"), none, (.seq #[] 0), #[]⟩
def o75 : Obj := ⟨(.type "tuple"), none, (.seq #[(.str "value" 267)] 0), #[]⟩
def o76 : Obj := ⟨(.type "tuple"), none, (.seq #[] 0), #[]⟩
def o78 : Obj := ⟨(.type "code"), none, (.fields #[(.str "is_amount" 264), (.str "is_amount" 265), (.str "/claim/cut.py" 266), (.int 19 0), (.int 1 0), (.int 0 0), (.int 0 0), (.int 3 0), (.ref 73), (.bool true), (.int 181 0), (.ref 74), .none, (.ref 75), (.ref 76), (.ref 77), (.int 268 0), (.int 19 0), (.str "/claim/cut.py" 269)]), #[]⟩
def o79 : Obj := ⟨(.type "function"), none, (.func (fnOf "is_amount" "is_amount" (L2.defArgs (top 8)) (L2.defBody (top 8)) (L2.defScope (top 8)) .none .none .none (.str "leasttariff.kinds" 239) none (.ref 78) .none)), #[]⟩
def o80 : Obj := ⟨(.type "tuple"), none, (.seq #[] 0), #[]⟩
def o82 : Obj := ⟨(.type "tuple"), none, (.seq #[(.str "book" 274), (.str "value" 275)] 0), #[]⟩
def o83 : Obj := ⟨(.type "tuple"), none, (.seq #[] 0), #[]⟩
def o85 : Obj := ⟨(.type "code"), none, (.fields #[(.str "is_place" 271), (.str "is_place" 272), (.str "/claim/cut.py" 273), (.int 21 0), (.int 2 0), (.int 0 0), (.int 0 0), (.int 3 0), (.ref 80), (.bool true), (.int 181 0), (.ref 81), .none, (.ref 82), (.ref 83), (.ref 84), (.int 276 0), (.int 21 0), (.str "/claim/cut.py" 277)]), #[]⟩
def o86 : Obj := ⟨(.type "function"), none, (.func (fnOf "is_place" "is_place" (L2.defArgs (top 9)) (L2.defBody (top 9)) (L2.defScope (top 9)) .none .none .none (.str "leasttariff.kinds" 239) none (.ref 85) .none)), #[]⟩
def o87 : Obj := ⟨(.type "tuple"), none, (.seq #[] 0), #[]⟩
def o89 : Obj := ⟨(.type "tuple"), none, (.seq #[(.str "book" 282), (.str "tariff" 283)] 0), #[]⟩
def o90 : Obj := ⟨(.type "tuple"), none, (.seq #[] 0), #[]⟩
def o92 : Obj := ⟨(.type "code"), none, (.fields #[(.str "check_book" 279), (.str "check_book" 280), (.str "/claim/cut.py" 281), (.int 23 0), (.int 1 0), (.int 0 0), (.int 0 0), (.int 3 0), (.ref 87), (.bool true), (.int 181 0), (.ref 88), .none, (.ref 89), (.ref 90), (.ref 91), (.int 284 0), (.int 23 0), (.str "/claim/cut.py" 285)]), #[]⟩
def o93 : Obj := ⟨(.type "function"), none, (.func (fnOf "check_book" "check_book" (L2.defArgs (top 10)) (L2.defBody (top 10)) (L2.defScope (top 10)) .none .none .none (.str "leasttariff.kinds" 239) none (.ref 92) .none)), #[]⟩
def o94 : Obj := ⟨(.type "tuple"), none, (.seq #[] 0), #[]⟩
def o96 : Obj := ⟨(.type "tuple"), none, (.seq #[(.str "book" 290), (.str "place" 291)] 0), #[]⟩
def o97 : Obj := ⟨(.type "tuple"), none, (.seq #[] 0), #[]⟩
def o99 : Obj := ⟨(.type "code"), none, (.fields #[(.str "check_place" 287), (.str "check_place" 288), (.str "/claim/cut.py" 289), (.int 29 0), (.int 2 0), (.int 0 0), (.int 0 0), (.int 3 0), (.ref 94), (.bool true), (.int 181 0), (.ref 95), .none, (.ref 96), (.ref 97), (.ref 98), (.int 292 0), (.int 29 0), (.str "/claim/cut.py" 293)]), #[]⟩
def o100 : Obj := ⟨(.type "function"), none, (.func (fnOf "check_place" "check_place" (L2.defArgs (top 11)) (L2.defBody (top 11)) (L2.defScope (top 11)) .none .none .none (.str "leasttariff.kinds" 239) none (.ref 99) .none)), #[]⟩
def o101 : Obj := ⟨(.type "tuple"), none, (.seq #[] 0), #[]⟩
def o103 : Obj := ⟨(.type "tuple"), none, (.seq #[(.str "top" 300), (.str "bottom" 301), (.str "divisor" 302)] 0), #[]⟩
def o104 : Obj := ⟨(.type "tuple"), none, (.seq #[] 0), #[]⟩
def o106 : Obj := ⟨(.type "code"), none, (.fields #[(.str "lowest_terms" 297), (.str "lowest_terms" 298), (.str "/claim/cut.py" 299), (.int 33 0), (.int 2 0), (.int 0 0), (.int 0 0), (.int 3 0), (.ref 101), (.bool true), (.int 181 0), (.ref 102), .none, (.ref 103), (.ref 104), (.ref 105), (.int 303 0), (.int 33 0), (.str "/claim/cut.py" 304)]), #[]⟩
def o107 : Obj := ⟨(.type "function"), none, (.func (fnOf "lowest_terms" "lowest_terms" (L2.defArgs (top 13)) (L2.defBody (top 13)) (L2.defScope (top 13)) .none .none .none (.str "leasttariff.books" 295) none (.ref 106) .none)), #[]⟩
def o108 : Obj := ⟨(.type "tuple"), none, (.seq #[] 0), #[]⟩
def o110 : Obj := ⟨(.type "tuple"), none, (.seq #[(.str "tariff" 309), (.str "amount" 310)] 0), #[]⟩
def o111 : Obj := ⟨(.type "tuple"), none, (.seq #[] 0), #[]⟩
def o113 : Obj := ⟨(.type "code"), none, (.fields #[(.str "top_of_cost" 306), (.str "top_of_cost" 307), (.str "/claim/cut.py" 308), (.int 36 0), (.int 2 0), (.int 0 0), (.int 0 0), (.int 3 0), (.ref 108), (.bool true), (.int 181 0), (.ref 109), .none, (.ref 110), (.ref 111), (.ref 112), (.int 311 0), (.int 36 0), (.str "/claim/cut.py" 312)]), #[]⟩
def o114 : Obj := ⟨(.type "function"), none, (.func (fnOf "top_of_cost" "top_of_cost" (L2.defArgs (top 14)) (L2.defBody (top 14)) (L2.defScope (top 14)) .none .none .none (.str "leasttariff.books" 295) none (.ref 113) .none)), #[]⟩
def o115 : Obj := ⟨(.type "tuple"), none, (.seq #[] 0), #[]⟩
def o118 : Obj := ⟨(.type "code"), none, (.fields #[(.str "tops_of_cost" 316), (.str "tops_of_cost" 317), (.str "/claim/cut.py" 318), (.int 39 0), (.int 2 0), (.int 0 0), (.int 0 0), (.int 3 0), (.ref 115), (.bool true), (.int 181 0), (.ref 116), .none, .none, .none, (.ref 117), (.int 319 0), (.int 39 0), (.str "/claim/cut.py" 320)]), #[]⟩
def o119 : Obj := ⟨(.type "function"), none, (.func (fnOf "tops_of_cost" "tops_of_cost" (L2.defArgs (top 16)) (L2.defBody (top 16)) (L2.defScope (top 16)) .none .none .none (.str "leasttariff.answers" 314) none (.ref 118) .none)), #[]⟩
def o120 : Obj := ⟨(.type "tuple"), none, (.seq #[] 0), #[]⟩
def o122 : Obj := ⟨(.type "tuple"), none, (.seq #[(.str "book" 325), (.str "row" 326)] 0), #[]⟩
def o123 : Obj := ⟨(.type "tuple"), none, (.seq #[] 0), #[]⟩
def o125 : Obj := ⟨(.type "code"), none, (.fields #[(.str "is_weighing" 322), (.str "is_weighing" 323), (.str "/claim/cut.py" 324), (.int 41 0), (.int 2 0), (.int 0 0), (.int 0 0), (.int 3 0), (.ref 120), (.bool true), (.int 181 0), (.ref 121), .none, (.ref 122), (.ref 123), (.ref 124), (.int 327 0), (.int 41 0), (.str "/claim/cut.py" 328)]), #[]⟩
def o126 : Obj := ⟨(.type "function"), none, (.func (fnOf "is_weighing" "is_weighing" (L2.defArgs (top 17)) (L2.defBody (top 17)) (L2.defScope (top 17)) .none .none .none (.str "leasttariff.answers" 314) none (.ref 125) .none)), #[]⟩
def o127 : Obj := ⟨(.type "tuple"), none, (.seq #[] 0), #[]⟩
def o129 : Obj := ⟨(.type "tuple"), none, (.seq #[(.str "book" 333), (.str "tariff" 334), (.str "row" 335), (.str "one" 336), (.str "other" 337), (.str "weights" 338), (.str "at_once" 339), (.str "by_piece" 340)] 0), #[]⟩
def o130 : Obj := ⟨(.type "tuple"), none, (.seq #[] 0), #[]⟩
def o132 : Obj := ⟨(.type "code"), none, (.fields #[(.str "is_mixture" 330), (.str "is_mixture" 331), (.str "/claim/cut.py" 332), (.int 47 0), (.int 3 0), (.int 0 0), (.int 0 0), (.int 3 0), (.ref 127), (.bool true), (.int 181 0), (.ref 128), .none, (.ref 129), (.ref 130), (.ref 131), (.int 341 0), (.int 47 0), (.str "/claim/cut.py" 342)]), #[]⟩
def o133 : Obj := ⟨(.type "function"), none, (.func (fnOf "is_mixture" "is_mixture" (L2.defArgs (top 18)) (L2.defBody (top 18)) (L2.defScope (top 18)) .none .none .none (.str "leasttariff.answers" 314) none (.ref 132) .none)), #[]⟩
def o134 : Obj := ⟨(.type "tuple"), none, (.seq #[] 0), #[]⟩
def o136 : Obj := ⟨(.type "tuple"), none, (.seq #[(.str "one" 347), (.str "other" 348)] 0), #[]⟩
def o137 : Obj := ⟨(.type "tuple"), none, (.seq #[] 0), #[]⟩
def o139 : Obj := ⟨(.type "code"), none, (.fields #[(.str "is_less" 344), (.str "is_less" 345), (.str "/claim/cut.py" 346), (.int 56 0), (.int 2 0), (.int 0 0), (.int 0 0), (.int 3 0), (.ref 134), (.bool true), (.int 181 0), (.ref 135), .none, (.ref 136), (.ref 137), (.ref 138), (.int 349 0), (.int 56 0), (.str "/claim/cut.py" 350)]), #[]⟩
def o140 : Obj := ⟨(.type "function"), none, (.func (fnOf "is_less" "is_less" (L2.defArgs (top 19)) (L2.defBody (top 19)) (L2.defScope (top 19)) .none .none .none (.str "leasttariff.answers" 314) none (.ref 139) .none)), #[]⟩
def o141 : Obj := ⟨(.type "tuple"), none, (.seq #[] 0), #[]⟩
def o144 : Obj := ⟨(.type "code"), none, (.fields #[(.str "are_begins" 352), (.str "are_begins" 353), (.str "/claim/cut.py" 354), (.int 58 0), (.int 1 0), (.int 0 0), (.int 0 0), (.int 3 0), (.ref 141), (.bool true), (.int 181 0), (.ref 142), .none, .none, .none, (.ref 143), (.int 355 0), (.int 58 0), (.str "/claim/cut.py" 356)]), #[]⟩
def o145 : Obj := ⟨(.type "function"), none, (.func (fnOf "are_begins" "are_begins" (L2.defArgs (top 20)) (L2.defBody (top 20)) (L2.defScope (top 20)) .none .none .none (.str "leasttariff.answers" 314) none (.ref 144) .none)), #[]⟩
def o146 : Obj := ⟨(.type "tuple"), none, (.seq #[] 0), #[]⟩
def o149 : Obj := ⟨(.type "code"), none, (.fields #[(.str "are_places_in_turn" 358), (.str "are_places_in_turn" 359), (.str "/claim/cut.py" 360), (.int 62 0), (.int 2 0), (.int 0 0), (.int 0 0), (.int 3 0), (.ref 146), (.bool true), (.int 181 0), (.ref 147), .none, .none, .none, (.ref 148), (.int 361 0), (.int 62 0), (.str "/claim/cut.py" 362)]), #[]⟩
def o150 : Obj := ⟨(.type "function"), none, (.func (fnOf "are_places_in_turn" "are_places_in_turn" (L2.defArgs (top 21)) (L2.defBody (top 21)) (L2.defScope (top 21)) .none .none .none (.str "leasttariff.answers" 314) none (.ref 149) .none)), #[]⟩
def o151 : Obj := ⟨(.type "tuple"), none, (.seq #[] 0), #[]⟩
def o153 : Obj := ⟨(.type "tuple"), none, (.seq #[(.str "book" 367), (.str "begins" 368), (.str "places" 369), (.str "index" 370), (.str "begin" 371), (.str "tops" 372), (.str "least" 373)] 0), #[]⟩
def o154 : Obj := ⟨(.type "tuple"), none, (.seq #[] 0), #[]⟩
def o156 : Obj := ⟨(.type "code"), none, (.fields #[(.str "are_least_at_both_ends" 364), (.str "are_least_at_both_ends" 365), (.str "/claim/cut.py" 366), (.int 66 0), (.int 3 0), (.int 0 0), (.int 0 0), (.int 3 0), (.ref 151), (.bool true), (.int 181 0), (.ref 152), .none, (.ref 153), (.ref 154), (.ref 155), (.int 374 0), (.int 66 0), (.str "/claim/cut.py" 375)]), #[]⟩
def o157 : Obj := ⟨(.type "function"), none, (.func (fnOf "are_least_at_both_ends" "are_least_at_both_ends" (L2.defArgs (top 22)) (L2.defBody (top 22)) (L2.defScope (top 22)) .none .none .none (.str "leasttariff.answers" 314) none (.ref 156) .none)), #[]⟩
def o165 : Obj := ⟨(.type "tuple"), none, (.seq #[] 0), #[]⟩
def o166 (P : Params) : Obj := ⟨(.type "dict"), none, (.dict #[de P "__module__" 384 (.str "leasttariff.answers" 314), de P "__firstlineno__" 388 (.int 75 387), de P "__static_attributes__" 389 (.ref 165), de P "__dict__" 391 (.ref 168), de P "__weakref__" 393 (.ref 169), de P "__doc__" 394 .none] 4), #[]⟩
def o167 : Obj := ⟨(.type "type"), none, (.cls ⟨"Answer", [(.type "object")], [(.ref 167), (.type "object")], 166, "Answer", true, [], [(.ref 193), (.ref 219), (.ref 243), (.ref 267), (.ref 293), (.ref 317), (.ref 343), (.ref 360)], false, none, false⟩), #[none, none, some (.str "Answer" 377), some (.str "Answer" 385), some (.builtin "object.__new__"), some (.bool true)]⟩
def o168 : Obj := ⟨(.type "getset_descriptor"), none, (.fields #[(.str "__dict__" 390), (.ref 167), (.builtin "function.__dict__"), (.builtin "function.__dict__#set")]), #[]⟩
def o169 : Obj := ⟨(.type "getset_descriptor"), none, (.fields #[(.str "__weakref__" 392), (.ref 167), (.builtin "ExceptionGroup.__weakref__"), .none]), #[]⟩
def o172 : Obj := ⟨(.type "tuple"), none, (.seq #[(.ref 167)] 0), #[]⟩
def o179 : Obj := ⟨(.type "tuple"), none, (.seq #[] 0), #[]⟩
def o181 : Obj := ⟨(.type "tuple"), none, (.seq #[(.str "self" 412), (.str "amount" 413)] 0), #[]⟩
def o182 : Obj := ⟨(.type "tuple"), none, (.seq #[] 0), #[]⟩
def o184 : Obj := ⟨(.type "code"), none, (.fields #[(.str "__init__" 409), (.str "Alone.__init__" 410), (.str "/claim/cut.py" 411), (.int 79 0), (.int 2 0), (.int 0 0), (.int 0 0), (.int 3 0), (.ref 179), (.bool true), (.int 181 0), (.ref 180), .none, (.ref 181), (.ref 182), (.ref 183), (.int 414 0), (.int 79 0), (.str "/claim/cut.py" 415)]), #[]⟩
def o185 : Obj := ⟨(.type "function"), none, (.func (fnOf "__init__" "Alone.__init__" (L2.defArgs (L2.inClass (top 24) 0)) (L2.defBody (L2.inClass (top 24) 0)) (L2.defScope (L2.inClass (top 24) 0)) .none .none .none (.str "leasttariff.answers" 314) none (.ref 184) .none)), #[]⟩
def o186 : Obj := ⟨(.type "tuple"), none, (.seq #[] 0), #[]⟩
def o189 : Obj := ⟨(.type "code"), none, (.fields #[(.str "shows" 417), (.str "Alone.shows" 418), (.str "/claim/cut.py" 419), (.int 82 0), (.int 3 0), (.int 0 0), (.int 0 0), (.int 3 0), (.ref 186), (.bool true), (.int 181 0), (.ref 187), .none, .none, .none, (.ref 188), (.int 420 0), (.int 82 0), (.str "/claim/cut.py" 421)]), #[]⟩
def o190 : Obj := ⟨(.type "function"), none, (.func (fnOf "shows" "Alone.shows" (L2.defArgs (L2.inClass (top 24) 1)) (L2.defBody (L2.inClass (top 24) 1)) (L2.defScope (L2.inClass (top 24) 1)) .none .none .none (.str "leasttariff.answers" 314) none (.ref 189) .none)), #[]⟩
def o191 : Obj := ⟨(.type "tuple"), none, (.seq #[(.str "amount" 423)] 0), #[]⟩
def o192 (P : Params) : Obj := ⟨(.type "dict"), none, (.dict #[de P "__module__" 404 (.str "leasttariff.answers" 314), de P "__firstlineno__" 408 (.int 77 407), de P "__init__" 416 (.ref 185), de P "shows" 422 (.ref 190), de P "__static_attributes__" 424 (.ref 191), de P "__doc__" 425 .none] 2), #[]⟩
def o193 : Obj := ⟨(.type "type"), none, (.cls ⟨"Alone", [(.ref 167)], [(.ref 193), (.ref 167), (.type "object")], 192, "Alone", true, [], [], false, none, false⟩), #[some (.ref 172), none, some (.str "Alone" 397), some (.str "Alone" 405), some (.builtin "object.__new__"), some (.bool true)]⟩
def o196 : Obj := ⟨(.type "tuple"), none, (.seq #[(.ref 167)] 0), #[]⟩
def o203 : Obj := ⟨(.type "tuple"), none, (.seq #[] 0), #[]⟩
def o205 : Obj := ⟨(.type "tuple"), none, (.seq #[(.str "self" 443), (.str "one" 444), (.str "other" 445), (.str "first" 446), (.str "second" 447)] 0), #[]⟩
def o206 : Obj := ⟨(.type "tuple"), none, (.seq #[] 0), #[]⟩
def o208 : Obj := ⟨(.type "code"), none, (.fields #[(.str "__init__" 440), (.str "Needless.__init__" 441), (.str "/claim/cut.py" 442), (.int 89 0), (.int 5 0), (.int 0 0), (.int 0 0), (.int 3 0), (.ref 203), (.bool true), (.int 181 0), (.ref 204), .none, (.ref 205), (.ref 206), (.ref 207), (.int 448 0), (.int 89 0), (.str "/claim/cut.py" 449)]), #[]⟩
def o209 : Obj := ⟨(.type "function"), none, (.func (fnOf "__init__" "Needless.__init__" (L2.defArgs (L2.inClass (top 25) 0)) (L2.defBody (L2.inClass (top 25) 0)) (L2.defScope (L2.inClass (top 25) 0)) .none .none .none (.str "leasttariff.answers" 314) none (.ref 208) .none)), #[]⟩
def o210 : Obj := ⟨(.type "tuple"), none, (.seq #[] 0), #[]⟩
def o212 : Obj := ⟨(.type "tuple"), none, (.seq #[(.str "self" 454), (.str "book" 455), (.str "place" 456), (.str "row" 457)] 0), #[]⟩
def o213 : Obj := ⟨(.type "tuple"), none, (.seq #[] 0), #[]⟩
def o215 : Obj := ⟨(.type "code"), none, (.fields #[(.str "shows" 451), (.str "Needless.shows" 452), (.str "/claim/cut.py" 453), (.int 95 0), (.int 3 0), (.int 0 0), (.int 0 0), (.int 3 0), (.ref 210), (.bool true), (.int 181 0), (.ref 211), .none, (.ref 212), (.ref 213), (.ref 214), (.int 458 0), (.int 95 0), (.str "/claim/cut.py" 459)]), #[]⟩
def o216 : Obj := ⟨(.type "function"), none, (.func (fnOf "shows" "Needless.shows" (L2.defArgs (L2.inClass (top 25) 1)) (L2.defBody (L2.inClass (top 25) 1)) (L2.defScope (L2.inClass (top 25) 1)) .none .none .none (.str "leasttariff.answers" 314) none (.ref 215) .none)), #[]⟩
def o217 : Obj := ⟨(.type "tuple"), none, (.seq #[(.str "first" 461), (.str "one" 462), (.str "other" 463), (.str "second" 464)] 0), #[]⟩
def o218 (P : Params) : Obj := ⟨(.type "dict"), none, (.dict #[de P "__module__" 435 (.str "leasttariff.answers" 314), de P "__firstlineno__" 439 (.int 87 438), de P "__init__" 450 (.ref 209), de P "shows" 460 (.ref 216), de P "__static_attributes__" 465 (.ref 217), de P "__doc__" 466 .none] 2), #[]⟩
def o219 : Obj := ⟨(.type "type"), none, (.cls ⟨"Needless", [(.ref 167)], [(.ref 219), (.ref 167), (.type "object")], 218, "Needless", true, [], [], false, none, false⟩), #[some (.ref 196), none, some (.str "Needless" 428), some (.str "Needless" 436), some (.builtin "object.__new__"), some (.bool true)]⟩
def o222 : Obj := ⟨(.type "tuple"), none, (.seq #[(.ref 167)] 0), #[]⟩
def o229 : Obj := ⟨(.type "tuple"), none, (.seq #[] 0), #[]⟩
def o231 : Obj := ⟨(.type "tuple"), none, (.seq #[(.str "self" 484), (.str "begins" 485), (.str "places" 486)] 0), #[]⟩
def o232 : Obj := ⟨(.type "tuple"), none, (.seq #[] 0), #[]⟩
def o234 : Obj := ⟨(.type "code"), none, (.fields #[(.str "__init__" 481), (.str "Ranges.__init__" 482), (.str "/claim/cut.py" 483), (.int 100 0), (.int 3 0), (.int 0 0), (.int 0 0), (.int 3 0), (.ref 229), (.bool true), (.int 181 0), (.ref 230), .none, (.ref 231), (.ref 232), (.ref 233), (.int 487 0), (.int 100 0), (.str "/claim/cut.py" 488)]), #[]⟩
def o235 : Obj := ⟨(.type "function"), none, (.func (fnOf "__init__" "Ranges.__init__" (L2.defArgs (L2.inClass (top 26) 0)) (L2.defBody (L2.inClass (top 26) 0)) (L2.defScope (L2.inClass (top 26) 0)) .none .none .none (.str "leasttariff.answers" 314) none (.ref 234) .none)), #[]⟩
def o236 : Obj := ⟨(.type "tuple"), none, (.seq #[] 0), #[]⟩
def o239 : Obj := ⟨(.type "code"), none, (.fields #[(.str "shows" 490), (.str "Ranges.shows" 491), (.str "/claim/cut.py" 492), (.int 104 0), (.int 2 0), (.int 0 0), (.int 0 0), (.int 3 0), (.ref 236), (.bool true), (.int 181 0), (.ref 237), .none, .none, .none, (.ref 238), (.int 493 0), (.int 104 0), (.str "/claim/cut.py" 494)]), #[]⟩
def o240 : Obj := ⟨(.type "function"), none, (.func (fnOf "shows" "Ranges.shows" (L2.defArgs (L2.inClass (top 26) 1)) (L2.defBody (L2.inClass (top 26) 1)) (L2.defScope (L2.inClass (top 26) 1)) .none .none .none (.str "leasttariff.answers" 314) none (.ref 239) .none)), #[]⟩
def o241 : Obj := ⟨(.type "tuple"), none, (.seq #[(.str "begins" 496), (.str "places" 497)] 0), #[]⟩
def o242 (P : Params) : Obj := ⟨(.type "dict"), none, (.dict #[de P "__module__" 476 (.str "leasttariff.answers" 314), de P "__firstlineno__" 480 (.int 98 479), de P "__init__" 489 (.ref 235), de P "shows" 495 (.ref 240), de P "__static_attributes__" 498 (.ref 241), de P "__doc__" 499 .none] 2), #[]⟩
def o243 : Obj := ⟨(.type "type"), none, (.cls ⟨"Ranges", [(.ref 167)], [(.ref 243), (.ref 167), (.type "object")], 242, "Ranges", true, [], [], false, none, false⟩), #[some (.ref 222), none, some (.str "Ranges" 469), some (.str "Ranges" 477), some (.builtin "object.__new__"), some (.bool true)]⟩
def o246 : Obj := ⟨(.type "tuple"), none, (.seq #[(.ref 167)] 0), #[]⟩
def o253 : Obj := ⟨(.type "tuple"), none, (.seq #[] 0), #[]⟩
def o255 : Obj := ⟨(.type "tuple"), none, (.seq #[(.str "self" 517), (.str "rows" 518)] 0), #[]⟩
def o256 : Obj := ⟨(.type "tuple"), none, (.seq #[] 0), #[]⟩
def o258 : Obj := ⟨(.type "code"), none, (.fields #[(.str "__init__" 514), (.str "Under.__init__" 515), (.str "/claim/cut.py" 516), (.int 114 0), (.int 2 0), (.int 0 0), (.int 0 0), (.int 3 0), (.ref 253), (.bool true), (.int 181 0), (.ref 254), .none, (.ref 255), (.ref 256), (.ref 257), (.int 519 0), (.int 114 0), (.str "/claim/cut.py" 520)]), #[]⟩
def o259 : Obj := ⟨(.type "function"), none, (.func (fnOf "__init__" "Under.__init__" (L2.defArgs (L2.inClass (top 27) 0)) (L2.defBody (L2.inClass (top 27) 0)) (L2.defScope (L2.inClass (top 27) 0)) .none .none .none (.str "leasttariff.answers" 314) none (.ref 258) .none)), #[]⟩
def o260 : Obj := ⟨(.type "tuple"), none, (.seq #[] 0), #[]⟩
def o263 : Obj := ⟨(.type "code"), none, (.fields #[(.str "shows" 522), (.str "Under.shows" 523), (.str "/claim/cut.py" 524), (.int 117 0), (.int 3 0), (.int 0 0), (.int 0 0), (.int 3 0), (.ref 260), (.bool true), (.int 181 0), (.ref 261), .none, .none, .none, (.ref 262), (.int 525 0), (.int 117 0), (.str "/claim/cut.py" 526)]), #[]⟩
def o264 : Obj := ⟨(.type "function"), none, (.func (fnOf "shows" "Under.shows" (L2.defArgs (L2.inClass (top 27) 1)) (L2.defBody (L2.inClass (top 27) 1)) (L2.defScope (L2.inClass (top 27) 1)) .none .none .none (.str "leasttariff.answers" 314) none (.ref 263) .none)), #[]⟩
def o265 : Obj := ⟨(.type "tuple"), none, (.seq #[(.str "rows" 528)] 0), #[]⟩
def o266 (P : Params) : Obj := ⟨(.type "dict"), none, (.dict #[de P "__module__" 509 (.str "leasttariff.answers" 314), de P "__firstlineno__" 513 (.int 112 512), de P "__init__" 521 (.ref 259), de P "shows" 527 (.ref 264), de P "__static_attributes__" 529 (.ref 265), de P "__doc__" 530 .none] 2), #[]⟩
def o267 : Obj := ⟨(.type "type"), none, (.cls ⟨"Under", [(.ref 167)], [(.ref 267), (.ref 167), (.type "object")], 266, "Under", true, [], [], false, none, false⟩), #[some (.ref 246), none, some (.str "Under" 502), some (.str "Under" 510), some (.builtin "object.__new__"), some (.bool true)]⟩
def o270 : Obj := ⟨(.type "tuple"), none, (.seq #[(.ref 167)] 0), #[]⟩
def o277 : Obj := ⟨(.type "tuple"), none, (.seq #[] 0), #[]⟩
def o279 : Obj := ⟨(.type "tuple"), none, (.seq #[(.str "self" 548), (.str "amount" 549)] 0), #[]⟩
def o280 : Obj := ⟨(.type "tuple"), none, (.seq #[] 0), #[]⟩
def o282 : Obj := ⟨(.type "code"), none, (.fields #[(.str "__init__" 545), (.str "Over.__init__" 546), (.str "/claim/cut.py" 547), (.int 123 0), (.int 2 0), (.int 0 0), (.int 0 0), (.int 3 0), (.ref 277), (.bool true), (.int 181 0), (.ref 278), .none, (.ref 279), (.ref 280), (.ref 281), (.int 550 0), (.int 123 0), (.str "/claim/cut.py" 551)]), #[]⟩
def o283 : Obj := ⟨(.type "function"), none, (.func (fnOf "__init__" "Over.__init__" (L2.defArgs (L2.inClass (top 28) 0)) (L2.defBody (L2.inClass (top 28) 0)) (L2.defScope (L2.inClass (top 28) 0)) .none .none .none (.str "leasttariff.answers" 314) none (.ref 282) .none)), #[]⟩
def o284 : Obj := ⟨(.type "tuple"), none, (.seq #[] 0), #[]⟩
def o286 : Obj := ⟨(.type "tuple"), none, (.seq #[(.str "self" 556), (.str "one" 557), (.str "other" 558)] 0), #[]⟩
def o287 : Obj := ⟨(.type "tuple"), none, (.seq #[] 0), #[]⟩
def o289 : Obj := ⟨(.type "code"), none, (.fields #[(.str "shows" 553), (.str "Over.shows" 554), (.str "/claim/cut.py" 555), (.int 126 0), (.int 3 0), (.int 0 0), (.int 0 0), (.int 3 0), (.ref 284), (.bool true), (.int 181 0), (.ref 285), .none, (.ref 286), (.ref 287), (.ref 288), (.int 559 0), (.int 126 0), (.str "/claim/cut.py" 560)]), #[]⟩
def o290 : Obj := ⟨(.type "function"), none, (.func (fnOf "shows" "Over.shows" (L2.defArgs (L2.inClass (top 28) 1)) (L2.defBody (L2.inClass (top 28) 1)) (L2.defScope (L2.inClass (top 28) 1)) .none .none .none (.str "leasttariff.answers" 314) none (.ref 289) .none)), #[]⟩
def o291 : Obj := ⟨(.type "tuple"), none, (.seq #[(.str "amount" 562)] 0), #[]⟩
def o292 (P : Params) : Obj := ⟨(.type "dict"), none, (.dict #[de P "__module__" 540 (.str "leasttariff.answers" 314), de P "__firstlineno__" 544 (.int 121 543), de P "__init__" 552 (.ref 283), de P "shows" 561 (.ref 290), de P "__static_attributes__" 563 (.ref 291), de P "__doc__" 564 .none] 2), #[]⟩
def o293 : Obj := ⟨(.type "type"), none, (.cls ⟨"Over", [(.ref 167)], [(.ref 293), (.ref 167), (.type "object")], 292, "Over", true, [], [], false, none, false⟩), #[some (.ref 270), none, some (.str "Over" 533), some (.str "Over" 541), some (.builtin "object.__new__"), some (.bool true)]⟩
def o296 : Obj := ⟨(.type "tuple"), none, (.seq #[(.ref 167)] 0), #[]⟩
def o303 : Obj := ⟨(.type "tuple"), none, (.seq #[] 0), #[]⟩
def o305 : Obj := ⟨(.type "tuple"), none, (.seq #[(.str "self" 582), (.str "place" 583), (.str "amount" 584)] 0), #[]⟩
def o306 : Obj := ⟨(.type "tuple"), none, (.seq #[] 0), #[]⟩
def o308 : Obj := ⟨(.type "code"), none, (.fields #[(.str "__init__" 579), (.str "Most.__init__" 580), (.str "/claim/cut.py" 581), (.int 132 0), (.int 3 0), (.int 0 0), (.int 0 0), (.int 3 0), (.ref 303), (.bool true), (.int 181 0), (.ref 304), .none, (.ref 305), (.ref 306), (.ref 307), (.int 585 0), (.int 132 0), (.str "/claim/cut.py" 586)]), #[]⟩
def o309 : Obj := ⟨(.type "function"), none, (.func (fnOf "__init__" "Most.__init__" (L2.defArgs (L2.inClass (top 29) 0)) (L2.defBody (L2.inClass (top 29) 0)) (L2.defScope (L2.inClass (top 29) 0)) .none .none .none (.str "leasttariff.answers" 314) none (.ref 308) .none)), #[]⟩
def o310 : Obj := ⟨(.type "tuple"), none, (.seq #[] 0), #[]⟩
def o313 : Obj := ⟨(.type "code"), none, (.fields #[(.str "shows" 588), (.str "Most.shows" 589), (.str "/claim/cut.py" 590), (.int 136 0), (.int 3 0), (.int 0 0), (.int 0 0), (.int 3 0), (.ref 310), (.bool true), (.int 181 0), (.ref 311), .none, .none, .none, (.ref 312), (.int 591 0), (.int 136 0), (.str "/claim/cut.py" 592)]), #[]⟩
def o314 : Obj := ⟨(.type "function"), none, (.func (fnOf "shows" "Most.shows" (L2.defArgs (L2.inClass (top 29) 1)) (L2.defBody (L2.inClass (top 29) 1)) (L2.defScope (L2.inClass (top 29) 1)) .none .none .none (.str "leasttariff.answers" 314) none (.ref 313) .none)), #[]⟩
def o315 : Obj := ⟨(.type "tuple"), none, (.seq #[(.str "amount" 594), (.str "place" 595)] 0), #[]⟩
def o316 (P : Params) : Obj := ⟨(.type "dict"), none, (.dict #[de P "__module__" 574 (.str "leasttariff.answers" 314), de P "__firstlineno__" 578 (.int 130 577), de P "__init__" 587 (.ref 309), de P "shows" 593 (.ref 314), de P "__static_attributes__" 596 (.ref 315), de P "__doc__" 597 .none] 2), #[]⟩
def o317 : Obj := ⟨(.type "type"), none, (.cls ⟨"Most", [(.ref 167)], [(.ref 317), (.ref 167), (.type "object")], 316, "Most", true, [], [], false, none, false⟩), #[some (.ref 296), none, some (.str "Most" 567), some (.str "Most" 575), some (.builtin "object.__new__"), some (.bool true)]⟩
def o320 : Obj := ⟨(.type "tuple"), none, (.seq #[(.ref 167)] 0), #[]⟩
def o327 : Obj := ⟨(.type "tuple"), none, (.seq #[] 0), #[]⟩
def o329 : Obj := ⟨(.type "tuple"), none, (.seq #[(.str "self" 615), (.str "place" 616)] 0), #[]⟩
def o330 : Obj := ⟨(.type "tuple"), none, (.seq #[] 0), #[]⟩
def o332 : Obj := ⟨(.type "code"), none, (.fields #[(.str "__init__" 612), (.str "Endless.__init__" 613), (.str "/claim/cut.py" 614), (.int 146 0), (.int 2 0), (.int 0 0), (.int 0 0), (.int 3 0), (.ref 327), (.bool true), (.int 181 0), (.ref 328), .none, (.ref 329), (.ref 330), (.ref 331), (.int 617 0), (.int 146 0), (.str "/claim/cut.py" 618)]), #[]⟩
def o333 : Obj := ⟨(.type "function"), none, (.func (fnOf "__init__" "Endless.__init__" (L2.defArgs (L2.inClass (top 30) 0)) (L2.defBody (L2.inClass (top 30) 0)) (L2.defScope (L2.inClass (top 30) 0)) .none .none .none (.str "leasttariff.answers" 314) none (.ref 332) .none)), #[]⟩
def o334 : Obj := ⟨(.type "tuple"), none, (.seq #[] 0), #[]⟩
def o336 : Obj := ⟨(.type "tuple"), none, (.seq #[(.str "self" 623), (.str "book" 624), (.str "money" 625), (.str "tariff" 626)] 0), #[]⟩
def o337 : Obj := ⟨(.type "tuple"), none, (.seq #[] 0), #[]⟩
def o339 : Obj := ⟨(.type "code"), none, (.fields #[(.str "shows" 620), (.str "Endless.shows" 621), (.str "/claim/cut.py" 622), (.int 149 0), (.int 3 0), (.int 0 0), (.int 0 0), (.int 3 0), (.ref 334), (.bool true), (.int 181 0), (.ref 335), .none, (.ref 336), (.ref 337), (.ref 338), (.int 627 0), (.int 149 0), (.str "/claim/cut.py" 628)]), #[]⟩
def o340 : Obj := ⟨(.type "function"), none, (.func (fnOf "shows" "Endless.shows" (L2.defArgs (L2.inClass (top 30) 1)) (L2.defBody (L2.inClass (top 30) 1)) (L2.defScope (L2.inClass (top 30) 1)) .none .none .none (.str "leasttariff.answers" 314) none (.ref 339) .none)), #[]⟩
def o341 : Obj := ⟨(.type "tuple"), none, (.seq #[(.str "place" 630)] 0), #[]⟩
def o342 (P : Params) : Obj := ⟨(.type "dict"), none, (.dict #[de P "__module__" 607 (.str "leasttariff.answers" 314), de P "__firstlineno__" 611 (.int 144 610), de P "__init__" 619 (.ref 333), de P "shows" 629 (.ref 340), de P "__static_attributes__" 631 (.ref 341), de P "__doc__" 632 .none] 2), #[]⟩
def o343 : Obj := ⟨(.type "type"), none, (.cls ⟨"Endless", [(.ref 167)], [(.ref 343), (.ref 167), (.type "object")], 342, "Endless", true, [], [], false, none, false⟩), #[some (.ref 320), none, some (.str "Endless" 600), some (.str "Endless" 608), some (.builtin "object.__new__"), some (.bool true)]⟩
def o346 : Obj := ⟨(.type "tuple"), none, (.seq #[(.ref 167)] 0), #[]⟩
def o353 : Obj := ⟨(.type "tuple"), none, (.seq #[] 0), #[]⟩
def o356 : Obj := ⟨(.type "code"), none, (.fields #[(.str "shows" 647), (.str "Dear.shows" 648), (.str "/claim/cut.py" 649), (.int 156 0), (.int 3 0), (.int 0 0), (.int 0 0), (.int 3 0), (.ref 353), (.bool true), (.int 181 0), (.ref 354), .none, .none, .none, (.ref 355), (.int 650 0), (.int 156 0), (.str "/claim/cut.py" 651)]), #[]⟩
def o357 : Obj := ⟨(.type "function"), none, (.func (fnOf "shows" "Dear.shows" (L2.defArgs (L2.inClass (top 31) 0)) (L2.defBody (L2.inClass (top 31) 0)) (L2.defScope (L2.inClass (top 31) 0)) .none .none .none (.str "leasttariff.answers" 314) none (.ref 356) .none)), #[]⟩
def o358 : Obj := ⟨(.type "tuple"), none, (.seq #[] 0), #[]⟩
def o359 (P : Params) : Obj := ⟨(.type "dict"), none, (.dict #[de P "__module__" 642 (.str "leasttariff.answers" 314), de P "__firstlineno__" 646 (.int 154 645), de P "shows" 652 (.ref 357), de P "__static_attributes__" 653 (.ref 358), de P "__doc__" 654 .none] 2), #[]⟩
def o360 : Obj := ⟨(.type "type"), none, (.cls ⟨"Dear", [(.ref 167)], [(.ref 360), (.ref 167), (.type "object")], 359, "Dear", true, [], [], false, none, false⟩), #[some (.ref 346), none, some (.str "Dear" 635), some (.str "Dear" 643), some (.builtin "object.__new__"), some (.bool true)]⟩
def o363 : Obj := ⟨(.type "tuple"), none, (.seq #[] 0), #[]⟩
def o365 : Obj := ⟨(.type "tuple"), none, (.seq #[(.str "book" 662), (.str "places" 663)] 0), #[]⟩
def o366 : Obj := ⟨(.type "tuple"), none, (.seq #[(.str "book" 664)] 0), #[]⟩
def o368 : Obj := ⟨(.type "code"), none, (.fields #[(.str "by_falling_piece" 659), (.str "by_falling_piece" 660), (.str "/claim/cut.py" 661), (.int 159 0), (.int 2 0), (.int 0 0), (.int 0 0), (.int 3 0), (.ref 363), (.bool true), (.int 181 0), (.ref 364), .none, (.ref 365), (.ref 366), (.ref 367), (.int 665 0), (.int 159 0), (.str "/claim/cut.py" 666)]), #[]⟩
def o369 : Obj := ⟨(.type "function"), none, (.func (fnOf "by_falling_piece" "by_falling_piece" (L2.defArgs (top 33)) (L2.defBody (top 33)) (L2.defScope (top 33)) .none .none .none (.str "leasttariff.telling" 657) none (.ref 368) .none)), #[]⟩
def o370 : Obj := ⟨(.type "tuple"), none, (.seq #[] 0), #[]⟩
def o372 : Obj := ⟨(.type "tuple"), none, (.seq #[(.str "book" 671), (.str "places" 672), (.str "begins" 673), (.str "kept" 674), (.str "place" 675), (.str "tariff" 676), (.str "begin" 677), (.str "before" 678)] 0), #[]⟩
def o373 : Obj := ⟨(.type "tuple"), none, (.seq #[] 0), #[]⟩
def o375 : Obj := ⟨(.type "code"), none, (.fields #[(.str "least_in_turn" 668), (.str "least_in_turn" 669), (.str "/claim/cut.py" 670), (.int 161 0), (.int 2 0), (.int 0 0), (.int 0 0), (.int 3 0), (.ref 370), (.bool true), (.int 181 0), (.ref 371), .none, (.ref 372), (.ref 373), (.ref 374), (.int 679 0), (.int 161 0), (.str "/claim/cut.py" 680)]), #[]⟩
def o376 : Obj := ⟨(.type "function"), none, (.func (fnOf "least_in_turn" "least_in_turn" (L2.defArgs (top 34)) (L2.defBody (top 34)) (L2.defScope (top 34)) .none .none .none (.str "leasttariff.telling" 657) none (.ref 375) .none)), #[]⟩
def o377 : Obj := ⟨(.type "tuple"), none, (.seq #[] 0), #[]⟩
def o379 : Obj := ⟨(.type "tuple"), none, (.seq #[(.str "tariff" 685), (.str "book" 686), (.str "places" 687), (.str "low" 688), (.str "high" 689), (.str "middle" 690)] 0), #[]⟩
def o380 : Obj := ⟨(.type "tuple"), none, (.seq #[] 0), #[]⟩
def o382 : Obj := ⟨(.type "code"), none, (.fields #[(.str "turn_for" 682), (.str "turn_for" 683), (.str "/claim/cut.py" 684), (.int 176 0), (.int 3 0), (.int 0 0), (.int 0 0), (.int 3 0), (.ref 377), (.bool true), (.int 181 0), (.ref 378), .none, (.ref 379), (.ref 380), (.ref 381), (.int 691 0), (.int 176 0), (.str "/claim/cut.py" 692)]), #[]⟩
def o383 : Obj := ⟨(.type "function"), none, (.func (fnOf "turn_for" "turn_for" (L2.defArgs (top 35)) (L2.defBody (top 35)) (L2.defScope (top 35)) .none .none .none (.str "leasttariff.telling" 657) none (.ref 382) .none)), #[]⟩
def o384 : Obj := ⟨(.type "tuple"), none, (.seq #[] 0), #[]⟩
def o386 : Obj := ⟨(.type "tuple"), none, (.seq #[(.str "tariff" 697), (.str "book" 698), (.str "begins" 699), (.str "places" 700), (.str "turn" 701), (.str "begin" 702), (.str "least" 703), (.str "apart" 704)] 0), #[]⟩
def o387 : Obj := ⟨(.type "tuple"), none, (.seq #[] 0), #[]⟩
def o389 : Obj := ⟨(.type "code"), none, (.fields #[(.str "amount_below" 694), (.str "amount_below" 695), (.str "/claim/cut.py" 696), (.int 186 0), (.int 4 0), (.int 0 0), (.int 0 0), (.int 3 0), (.ref 384), (.bool true), (.int 181 0), (.ref 385), .none, (.ref 386), (.ref 387), (.ref 388), (.int 705 0), (.int 186 0), (.str "/claim/cut.py" 706)]), #[]⟩
def o390 : Obj := ⟨(.type "function"), none, (.func (fnOf "amount_below" "amount_below" (L2.defArgs (top 36)) (L2.defBody (top 36)) (L2.defScope (top 36)) .none .none .none (.str "leasttariff.telling" 657) none (.ref 389) .none)), #[]⟩
def o391 : Obj := ⟨(.type "tuple"), none, (.seq #[] 0), #[]⟩
def o393 : Obj := ⟨(.type "tuple"), none, (.seq #[(.str "tariff" 711), (.str "book" 712), (.str "places" 713), (.str "turn" 714), (.str "after" 715), (.str "before" 716)] 0), #[]⟩
def o394 : Obj := ⟨(.type "tuple"), none, (.seq #[] 0), #[]⟩
def o396 : Obj := ⟨(.type "code"), none, (.fields #[(.str "mixture_for" 708), (.str "mixture_for" 709), (.str "/claim/cut.py" 710), (.int 196 0), (.int 3 0), (.int 0 0), (.int 0 0), (.int 3 0), (.ref 391), (.bool true), (.int 181 0), (.ref 392), .none, (.ref 393), (.ref 394), (.ref 395), (.int 717 0), (.int 196 0), (.str "/claim/cut.py" 718)]), #[]⟩
def o397 : Obj := ⟨(.type "function"), none, (.func (fnOf "mixture_for" "mixture_for" (L2.defArgs (top 37)) (L2.defBody (top 37)) (L2.defScope (top 37)) .none .none .none (.str "leasttariff.telling" 657) none (.ref 396) .none)), #[]⟩
def o398 : Obj := ⟨(.type "tuple"), none, (.seq #[] 0), #[]⟩
def o401 : Obj := ⟨(.type "code"), none, (.fields #[(.str "alone" 720), (.str "alone" 721), (.str "/claim/cut.py" 722), (.int 203 0), (.int 2 0), (.int 0 0), (.int 0 0), (.int 3 0), (.ref 398), (.bool true), (.int 181 0), (.ref 399), .none, .none, .none, (.ref 400), (.int 723 0), (.int 203 0), (.str "/claim/cut.py" 724)]), #[]⟩
def o402 : Obj := ⟨(.type "function"), none, (.func (fnOf "alone" "alone" (L2.defArgs (top 38)) (L2.defBody (top 38)) (L2.defScope (top 38)) .none .none .none (.str "leasttariff.telling" 657) none (.ref 401) .none)), #[]⟩
def o403 : Obj := ⟨(.type "tuple"), none, (.seq #[] 0), #[]⟩
def o406 : Obj := ⟨(.type "code"), none, (.fields #[(.str "_law_book" 728), (.str "_law_book" 729), (.str "/claim/cut.py" 730), (.int 216 0), (.int 1 0), (.int 0 0), (.int 0 0), (.int 3 0), (.ref 403), (.bool true), (.int 181 0), (.ref 404), .none, .none, .none, (.ref 405), (.int 731 0), (.int 216 0), (.str "/claim/cut.py" 732)]), #[]⟩
def o407 : Obj := ⟨(.type "function"), none, (.func (fnOf "_law_book" "_law_book" (L2.defArgs (top 40)) (L2.defBody (top 40)) (L2.defScope (top 40)) .none .none .none (.str "law_leasttariff_k02_whole_alone" 726) none (.ref 406) .none)), #[]⟩
def o408 : Obj := ⟨(.type "tuple"), none, (.seq #[] 0), #[]⟩
def o410 : Obj := ⟨(.type "tuple"), none, (.seq #[(.str "_law_above" 737), (.str "_law_below" 738), (.str "_law_one" 739), (.str "_law_other" 740)] 0), #[]⟩
def o411 : Obj := ⟨(.type "tuple"), none, (.seq #[] 0), #[]⟩
def o413 : Obj := ⟨(.type "code"), none, (.fields #[(.str "_law_lowest" 734), (.str "_law_lowest" 735), (.str "/claim/cut.py" 736), (.int 225 0), (.int 2 0), (.int 0 0), (.int 0 0), (.int 3 0), (.ref 408), (.bool true), (.int 181 0), (.ref 409), .none, (.ref 410), (.ref 411), (.ref 412), (.int 741 0), (.int 225 0), (.str "/claim/cut.py" 742)]), #[]⟩
def o414 : Obj := ⟨(.type "function"), none, (.func (fnOf "_law_lowest" "_law_lowest" (L2.defArgs (top 41)) (L2.defBody (top 41)) (L2.defScope (top 41)) .none .none .none (.str "law_leasttariff_k02_whole_alone" 726) none (.ref 413) .none)), #[]⟩
def o415 : Obj := ⟨(.type "tuple"), none, (.seq #[] 0), #[]⟩
def o418 : Obj := ⟨(.type "code"), none, (.fields #[(.str "_law_is_amount" 744), (.str "_law_is_amount" 745), (.str "/claim/cut.py" 746), (.int 230 0), (.int 1 0), (.int 0 0), (.int 0 0), (.int 3 0), (.ref 415), (.bool true), (.int 181 0), (.ref 416), .none, .none, .none, (.ref 417), (.int 747 0), (.int 230 0), (.str "/claim/cut.py" 748)]), #[]⟩
def o419 : Obj := ⟨(.type "function"), none, (.func (fnOf "_law_is_amount" "_law_is_amount" (L2.defArgs (top 42)) (L2.defBody (top 42)) (L2.defScope (top 42)) .none .none .none (.str "law_leasttariff_k02_whole_alone" 726) none (.ref 418) .none)), #[]⟩
def o420 : Obj := ⟨(.type "tuple"), none, (.seq #[] 0), #[]⟩
def o422 : Obj := ⟨(.type "tuple"), none, (.seq #[(.str "_law_tariff" 753), (.str "_law_amount" 754)] 0), #[]⟩
def o423 : Obj := ⟨(.type "tuple"), none, (.seq #[] 0), #[]⟩
def o425 : Obj := ⟨(.type "code"), none, (.fields #[(.str "_law_cost" 750), (.str "_law_cost" 751), (.str "/claim/cut.py" 752), (.int 236 0), (.int 2 0), (.int 0 0), (.int 0 0), (.int 3 0), (.ref 420), (.bool true), (.int 181 0), (.ref 421), .none, (.ref 422), (.ref 423), (.ref 424), (.int 755 0), (.int 236 0), (.str "/claim/cut.py" 756)]), #[]⟩
def o426 : Obj := ⟨(.type "function"), none, (.func (fnOf "_law_cost" "_law_cost" (L2.defArgs (top 43)) (L2.defBody (top 43)) (L2.defScope (top 43)) .none .none .none (.str "law_leasttariff_k02_whole_alone" 726) none (.ref 425) .none)), #[]⟩
def o427 : Obj := ⟨(.type "tuple"), none, (.seq #[] 0), #[]⟩
def o429 : Obj := ⟨(.type "tuple"), none, (.seq #[(.str "_law_found" 761)] 0), #[]⟩
def o430 : Obj := ⟨(.type "tuple"), none, (.seq #[] 0), #[]⟩
def o432 : Obj := ⟨(.type "code"), none, (.fields #[(.str "_law_whole" 758), (.str "_law_whole" 759), (.str "/claim/cut.py" 760), (.int 238 0), (.int 1 0), (.int 0 0), (.int 0 0), (.int 3 0), (.ref 427), (.bool true), (.int 181 0), (.ref 428), .none, (.ref 429), (.ref 430), (.ref 431), (.int 762 0), (.int 238 0), (.str "/claim/cut.py" 763)]), #[]⟩
def o433 : Obj := ⟨(.type "function"), none, (.func (fnOf "_law_whole" "_law_whole" (L2.defArgs (top 44)) (L2.defBody (top 44)) (L2.defScope (top 44)) .none .none .none (.str "law_leasttariff_k02_whole_alone" 726) none (.ref 432) .none)), #[]⟩
def o434 : Obj := ⟨(.type "tuple"), none, (.seq #[] 0), #[]⟩
def o437 : Obj := ⟨(.type "code"), none, (.fields #[(.str "_law_mixture" 765), (.str "_law_mixture" 766), (.str "/claim/cut.py" 767), (.int 240 0), (.int 3 0), (.int 0 0), (.int 0 0), (.int 3 0), (.ref 434), (.bool true), (.int 181 0), (.ref 435), .none, .none, .none, (.ref 436), (.int 768 0), (.int 240 0), (.str "/claim/cut.py" 769)]), #[]⟩
def o438 : Obj := ⟨(.type "function"), none, (.func (fnOf "_law_mixture" "_law_mixture" (L2.defArgs (top 45)) (L2.defBody (top 45)) (L2.defScope (top 45)) .none .none .none (.str "law_leasttariff_k02_whole_alone" 726) none (.ref 437) .none)), #[]⟩
def o439 : Obj := ⟨(.type "tuple"), none, (.seq #[] 0), #[]⟩
def o442 : Obj := ⟨(.type "code"), none, (.fields #[(.str "_law_alone" 771), (.str "_law_alone" 772), (.str "/claim/cut.py" 773), (.int 249 0), (.int 3 0), (.int 0 0), (.int 0 0), (.int 3 0), (.ref 439), (.bool true), (.int 181 0), (.ref 440), .none, .none, .none, (.ref 441), (.int 774 0), (.int 249 0), (.str "/claim/cut.py" 775)]), #[]⟩
def o443 : Obj := ⟨(.type "function"), none, (.func (fnOf "_law_alone" "_law_alone" (L2.defArgs (top 46)) (L2.defBody (top 46)) (L2.defScope (top 46)) .none .none .none (.str "law_leasttariff_k02_whole_alone" 726) none (.ref 442) .none)), #[]⟩
def o444 : Obj := ⟨(.type "tuple"), none, (.seq #[] 0), #[]⟩
def o446 : Obj := ⟨(.type "tuple"), none, (.seq #[(.str "_law_book_here" 780), (.str "_law_place" 781), (.str "_law_row" 782)] 0), #[]⟩
def o447 : Obj := ⟨(.type "tuple"), none, (.seq #[] 0), #[]⟩
def o449 : Obj := ⟨(.type "code"), none, (.fields #[(.str "_law_needless" 777), (.str "_law_needless" 778), (.str "/claim/cut.py" 779), (.int 252 0), (.int 3 0), (.int 0 0), (.int 0 0), (.int 3 0), (.ref 444), (.bool true), (.int 181 0), (.ref 445), .none, (.ref 446), (.ref 447), (.ref 448), (.int 783 0), (.int 252 0), (.str "/claim/cut.py" 784)]), #[]⟩
def o450 : Obj := ⟨(.type "function"), none, (.func (fnOf "_law_needless" "_law_needless" (L2.defArgs (top 47)) (L2.defBody (top 47)) (L2.defScope (top 47)) .none .none .none (.str "law_leasttariff_k02_whole_alone" 726) none (.ref 449) .none)), #[]⟩
def o451 : Obj := ⟨(.type "tuple"), none, (.seq #[] 0), #[]⟩
def o453 : Obj := ⟨(.type "tuple"), none, (.seq #[(.str "_law_book_here" 789), (.str "_law_place" 790), (.str "_law_found" 791)] 0), #[]⟩
def o454 : Obj := ⟨(.type "tuple"), none, (.seq #[] 0), #[]⟩
def o456 : Obj := ⟨(.type "code"), none, (.fields #[(.str "_law_due" 786), (.str "_law_due" 787), (.str "/claim/cut.py" 788), (.int 254 0), (.int 3 0), (.int 0 0), (.int 0 0), (.int 3 0), (.ref 451), (.bool true), (.int 181 0), (.ref 452), .none, (.ref 453), (.ref 454), (.ref 455), (.int 792 0), (.int 254 0), (.str "/claim/cut.py" 793)]), #[]⟩
def o457 : Obj := ⟨(.type "function"), none, (.func (fnOf "_law_due" "_law_due" (L2.defArgs (top 48)) (L2.defBody (top 48)) (L2.defScope (top 48)) .none .none .none (.str "law_leasttariff_k02_whole_alone" 726) none (.ref 456) .none)), #[]⟩
def o458 : Obj := ⟨(.type "tuple"), none, (.seq #[] 0), #[]⟩
def o460 : Obj := ⟨(.type "tuple"), none, (.seq #[(.str "_law_book_here" 798), (.str "_law_place" 799), (.str "_law_handed" 800), (.str "_law_found" 801), (.str "_law_kinds" 802), (.str "_law_good" 803), (.str "_law_other" 804), (.str "_law_beside" 805)] 0), #[]⟩
def o461 : Obj := ⟨(.type "tuple"), none, (.seq #[] 0), #[]⟩
def o463 : Obj := ⟨(.type "code"), none, (.fields #[(.str "_law_right" 795), (.str "_law_right" 796), (.str "/claim/cut.py" 797), (.int 258 0), (.int 2 0), (.int 0 0), (.int 0 0), (.int 3 0), (.ref 458), (.bool true), (.int 181 0), (.ref 459), .none, (.ref 460), (.ref 461), (.ref 462), (.int 806 0), (.int 258 0), (.str "/claim/cut.py" 807)]), #[]⟩
def o464 : Obj := ⟨(.type "function"), none, (.func (fnOf "_law_right" "_law_right" (L2.defArgs (top 49)) (L2.defBody (top 49)) (L2.defScope (top 49)) .none .none .none (.str "law_leasttariff_k02_whole_alone" 726) none (.ref 463) .none)), #[]⟩
def o465 : Obj := ⟨(.type "tuple"), none, (.seq #[] 0), #[]⟩
def o467 : Obj := ⟨(.type "tuple"), none, (.seq #[(.str "_law_script" 812), (.str "_law_book_here" 813), (.str "_law_place" 814), (.str "_law_once" 815), (.str "_law_piece" 816), (.str "_law_nearly" 817), (.str "_law_k" 818)] 0), #[]⟩
def o468 : Obj := ⟨(.type "tuple"), none, (.seq #[] 0), #[]⟩
def o470 : Obj := ⟨(.type "code"), none, (.fields #[(.str "law" 809), (.str "law" 810), (.str "/claim/cut.py" 811), (.int 277 0), (.int 1 0), (.int 0 0), (.int 0 0), (.int 3 0), (.ref 465), (.bool true), (.int 181 0), (.ref 466), .none, (.ref 467), (.ref 468), (.ref 469), (.int 819 0), (.int 277 0), (.str "/claim/cut.py" 820)]), #[]⟩
def o471 : Obj := ⟨(.type "function"), none, (.func (fnOf "law" "law" (L2.defArgs (top 50)) (L2.defBody (top 50)) (L2.defScope (top 50)) .none .none .none (.str "law_leasttariff_k02_whole_alone" 726) none (.ref 470) .none)), #[]⟩
def kg0 (P : Params) : Frag := [(2, o2), (3, o3 P), (4, o4), (15, o15), (22, o22), (23, o23 P), (24, o24), (25, o25), (28, o28), (35, o35), (36, o36 P), (37, o37)]
def kg1 (P : Params) : Frag := [(40, o40), (47, o47), (48, o48 P), (49, o49), (52, o52), (54, o54), (55, o55), (57, o57), (58, o58), (59, o59), (61, o61), (62, o62)]
def kg2 (P : Params) : Frag := [(64, o64), (65, o65), (66, o66), (68, o68), (69, o69), (71, o71), (72, o72), (73, o73), (75, o75), (76, o76), (78, o78), (79, o79)]
def kg3 (P : Params) : Frag := [(80, o80), (82, o82), (83, o83), (85, o85), (86, o86), (87, o87), (89, o89), (90, o90), (92, o92), (93, o93), (94, o94), (96, o96)]
def kg4 (P : Params) : Frag := [(97, o97), (99, o99), (100, o100), (101, o101), (103, o103), (104, o104), (106, o106), (107, o107), (108, o108), (110, o110), (111, o111), (113, o113)]
def kg5 (P : Params) : Frag := [(114, o114), (115, o115), (118, o118), (119, o119), (120, o120), (122, o122), (123, o123), (125, o125), (126, o126), (127, o127), (129, o129), (130, o130)]
def kg6 (P : Params) : Frag := [(132, o132), (133, o133), (134, o134), (136, o136), (137, o137), (139, o139), (140, o140), (141, o141), (144, o144), (145, o145), (146, o146), (149, o149)]
def kg7 (P : Params) : Frag := [(150, o150), (151, o151), (153, o153), (154, o154), (156, o156), (157, o157), (165, o165), (166, o166 P), (167, o167), (168, o168), (169, o169), (172, o172)]
def kg8 (P : Params) : Frag := [(179, o179), (181, o181), (182, o182), (184, o184), (185, o185), (186, o186), (189, o189), (190, o190), (191, o191), (192, o192 P), (193, o193), (196, o196)]
def kg9 (P : Params) : Frag := [(203, o203), (205, o205), (206, o206), (208, o208), (209, o209), (210, o210), (212, o212), (213, o213), (215, o215), (216, o216), (217, o217), (218, o218 P)]
def kg10 (P : Params) : Frag := [(219, o219), (222, o222), (229, o229), (231, o231), (232, o232), (234, o234), (235, o235), (236, o236), (239, o239), (240, o240), (241, o241), (242, o242 P)]
def kg11 (P : Params) : Frag := [(243, o243), (246, o246), (253, o253), (255, o255), (256, o256), (258, o258), (259, o259), (260, o260), (263, o263), (264, o264), (265, o265), (266, o266 P)]
def kg12 (P : Params) : Frag := [(267, o267), (270, o270), (277, o277), (279, o279), (280, o280), (282, o282), (283, o283), (284, o284), (286, o286), (287, o287), (289, o289), (290, o290)]
def kg13 (P : Params) : Frag := [(291, o291), (292, o292 P), (293, o293), (296, o296), (303, o303), (305, o305), (306, o306), (308, o308), (309, o309), (310, o310), (313, o313), (314, o314)]
def kg14 (P : Params) : Frag := [(315, o315), (316, o316 P), (317, o317), (320, o320), (327, o327), (329, o329), (330, o330), (332, o332), (333, o333), (334, o334), (336, o336), (337, o337)]
def kg15 (P : Params) : Frag := [(339, o339), (340, o340), (341, o341), (342, o342 P), (343, o343), (346, o346), (353, o353), (356, o356), (357, o357), (358, o358), (359, o359 P), (360, o360)]
def kg16 (P : Params) : Frag := [(363, o363), (365, o365), (366, o366), (368, o368), (369, o369), (370, o370), (372, o372), (373, o373), (375, o375), (376, o376), (377, o377), (379, o379)]
def kg17 (P : Params) : Frag := [(380, o380), (382, o382), (383, o383), (384, o384), (386, o386), (387, o387), (389, o389), (390, o390), (391, o391), (393, o393), (394, o394), (396, o396)]
def kg18 (P : Params) : Frag := [(397, o397), (398, o398), (401, o401), (402, o402), (403, o403), (406, o406), (407, o407), (408, o408), (410, o410), (411, o411), (413, o413), (414, o414)]
def kg19 (P : Params) : Frag := [(415, o415), (418, o418), (419, o419), (420, o420), (422, o422), (423, o423), (425, o425), (426, o426), (427, o427), (429, o429), (430, o430), (432, o432)]
def kg20 (P : Params) : Frag := [(433, o433), (434, o434), (437, o437), (438, o438), (439, o439), (442, o442), (443, o443), (444, o444), (446, o446), (447, o447), (449, o449), (450, o450)]
def kg21 (P : Params) : Frag := [(451, o451), (453, o453), (454, o454), (456, o456), (457, o457), (458, o458), (460, o460), (461, o461), (463, o463), (464, o464), (465, o465), (467, o467)]
def kg22 (P : Params) : Frag := [(468, o468), (470, o470), (471, o471)]
def kg (P : Params) : Frag := kg0 P ++ (kg1 P ++ (kg2 P ++ (kg3 P ++ (kg4 P ++ (kg5 P ++ (kg6 P ++ (kg7 P ++ (kg8 P ++ (kg9 P ++ (kg10 P ++ (kg11 P ++ (kg12 P ++ (kg13 P ++ (kg14 P ++ (kg15 P ++ (kg16 P ++ (kg17 P ++ (kg18 P ++ (kg19 P ++ (kg20 P ++ (kg21 P ++ (kg22 P))))))))))))))))))))))
def KL (P : Params) : Frag := (nat_lit 2, o2) :: (nat_lit 3, o3 P) :: (nat_lit 4, o4) :: (nat_lit 15, o15) :: (nat_lit 22, o22) :: (nat_lit 23, o23 P) :: (nat_lit 24, o24) :: (nat_lit 25, o25) :: (nat_lit 28, o28) :: (nat_lit 35, o35) :: (nat_lit 36, o36 P) :: (nat_lit 37, o37) :: (nat_lit 40, o40) :: (nat_lit 47, o47) :: (nat_lit 48, o48 P) :: (nat_lit 49, o49) :: (nat_lit 52, o52) :: (nat_lit 54, o54) :: (nat_lit 55, o55) :: (nat_lit 57, o57) :: (nat_lit 58, o58) :: (nat_lit 59, o59) :: (nat_lit 61, o61) :: (nat_lit 62, o62) :: (nat_lit 64, o64) :: (nat_lit 65, o65) :: (nat_lit 66, o66) :: (nat_lit 68, o68) :: (nat_lit 69, o69) :: (nat_lit 71, o71) :: (nat_lit 72, o72) :: (nat_lit 73, o73) :: (nat_lit 75, o75) :: (nat_lit 76, o76) :: (nat_lit 78, o78) :: (nat_lit 79, o79) :: (nat_lit 80, o80) :: (nat_lit 82, o82) :: (nat_lit 83, o83) :: (nat_lit 85, o85) :: (nat_lit 86, o86) :: (nat_lit 87, o87) :: (nat_lit 89, o89) :: (nat_lit 90, o90) :: (nat_lit 92, o92) :: (nat_lit 93, o93) :: (nat_lit 94, o94) :: (nat_lit 96, o96) :: (nat_lit 97, o97) :: (nat_lit 99, o99) :: (nat_lit 100, o100) :: (nat_lit 101, o101) :: (nat_lit 103, o103) :: (nat_lit 104, o104) :: (nat_lit 106, o106) :: (nat_lit 107, o107) :: (nat_lit 108, o108) :: (nat_lit 110, o110) :: (nat_lit 111, o111) :: (nat_lit 113, o113) :: (nat_lit 114, o114) :: (nat_lit 115, o115) :: (nat_lit 118, o118) :: (nat_lit 119, o119) :: (nat_lit 120, o120) :: (nat_lit 122, o122) :: (nat_lit 123, o123) :: (nat_lit 125, o125) :: (nat_lit 126, o126) :: (nat_lit 127, o127) :: (nat_lit 129, o129) :: (nat_lit 130, o130) :: (nat_lit 132, o132) :: (nat_lit 133, o133) :: (nat_lit 134, o134) :: (nat_lit 136, o136) :: (nat_lit 137, o137) :: (nat_lit 139, o139) :: (nat_lit 140, o140) :: (nat_lit 141, o141) :: (nat_lit 144, o144) :: (nat_lit 145, o145) :: (nat_lit 146, o146) :: (nat_lit 149, o149) :: (nat_lit 150, o150) :: (nat_lit 151, o151) :: (nat_lit 153, o153) :: (nat_lit 154, o154) :: (nat_lit 156, o156) :: (nat_lit 157, o157) :: (nat_lit 165, o165) :: (nat_lit 166, o166 P) :: (nat_lit 167, o167) :: (nat_lit 168, o168) :: (nat_lit 169, o169) :: (nat_lit 172, o172) :: (nat_lit 179, o179) :: (nat_lit 181, o181) :: (nat_lit 182, o182) :: (nat_lit 184, o184) :: (nat_lit 185, o185) :: (nat_lit 186, o186) :: (nat_lit 189, o189) :: (nat_lit 190, o190) :: (nat_lit 191, o191) :: (nat_lit 192, o192 P) :: (nat_lit 193, o193) :: (nat_lit 196, o196) :: (nat_lit 203, o203) :: (nat_lit 205, o205) :: (nat_lit 206, o206) :: (nat_lit 208, o208) :: (nat_lit 209, o209) :: (nat_lit 210, o210) :: (nat_lit 212, o212) :: (nat_lit 213, o213) :: (nat_lit 215, o215) :: (nat_lit 216, o216) :: (nat_lit 217, o217) :: (nat_lit 218, o218 P) :: (nat_lit 219, o219) :: (nat_lit 222, o222) :: (nat_lit 229, o229) :: (nat_lit 231, o231) :: (nat_lit 232, o232) :: (nat_lit 234, o234) :: (nat_lit 235, o235) :: (nat_lit 236, o236) :: (nat_lit 239, o239) :: (nat_lit 240, o240) :: (nat_lit 241, o241) :: (nat_lit 242, o242 P) :: (nat_lit 243, o243) :: (nat_lit 246, o246) :: (nat_lit 253, o253) :: (nat_lit 255, o255) :: (nat_lit 256, o256) :: (nat_lit 258, o258) :: (nat_lit 259, o259) :: (nat_lit 260, o260) :: (nat_lit 263, o263) :: (nat_lit 264, o264) :: (nat_lit 265, o265) :: (nat_lit 266, o266 P) :: (nat_lit 267, o267) :: (nat_lit 270, o270) :: (nat_lit 277, o277) :: (nat_lit 279, o279) :: (nat_lit 280, o280) :: (nat_lit 282, o282) :: (nat_lit 283, o283) :: (nat_lit 284, o284) :: (nat_lit 286, o286) :: (nat_lit 287, o287) :: (nat_lit 289, o289) :: (nat_lit 290, o290) :: (nat_lit 291, o291) :: (nat_lit 292, o292 P) :: (nat_lit 293, o293) :: (nat_lit 296, o296) :: (nat_lit 303, o303) :: (nat_lit 305, o305) :: (nat_lit 306, o306) :: (nat_lit 308, o308) :: (nat_lit 309, o309) :: (nat_lit 310, o310) :: (nat_lit 313, o313) :: (nat_lit 314, o314) :: (nat_lit 315, o315) :: (nat_lit 316, o316 P) :: (nat_lit 317, o317) :: (nat_lit 320, o320) :: (nat_lit 327, o327) :: (nat_lit 329, o329) :: (nat_lit 330, o330) :: (nat_lit 332, o332) :: (nat_lit 333, o333) :: (nat_lit 334, o334) :: (nat_lit 336, o336) :: (nat_lit 337, o337) :: (nat_lit 339, o339) :: (nat_lit 340, o340) :: (nat_lit 341, o341) :: (nat_lit 342, o342 P) :: (nat_lit 343, o343) :: (nat_lit 346, o346) :: (nat_lit 353, o353) :: (nat_lit 356, o356) :: (nat_lit 357, o357) :: (nat_lit 358, o358) :: (nat_lit 359, o359 P) :: (nat_lit 360, o360) :: (nat_lit 363, o363) :: (nat_lit 365, o365) :: (nat_lit 366, o366) :: (nat_lit 368, o368) :: (nat_lit 369, o369) :: (nat_lit 370, o370) :: (nat_lit 372, o372) :: (nat_lit 373, o373) :: (nat_lit 375, o375) :: (nat_lit 376, o376) :: (nat_lit 377, o377) :: (nat_lit 379, o379) :: (nat_lit 380, o380) :: (nat_lit 382, o382) :: (nat_lit 383, o383) :: (nat_lit 384, o384) :: (nat_lit 386, o386) :: (nat_lit 387, o387) :: (nat_lit 389, o389) :: (nat_lit 390, o390) :: (nat_lit 391, o391) :: (nat_lit 393, o393) :: (nat_lit 394, o394) :: (nat_lit 396, o396) :: (nat_lit 397, o397) :: (nat_lit 398, o398) :: (nat_lit 401, o401) :: (nat_lit 402, o402) :: (nat_lit 403, o403) :: (nat_lit 406, o406) :: (nat_lit 407, o407) :: (nat_lit 408, o408) :: (nat_lit 410, o410) :: (nat_lit 411, o411) :: (nat_lit 413, o413) :: (nat_lit 414, o414) :: (nat_lit 415, o415) :: (nat_lit 418, o418) :: (nat_lit 419, o419) :: (nat_lit 420, o420) :: (nat_lit 422, o422) :: (nat_lit 423, o423) :: (nat_lit 425, o425) :: (nat_lit 426, o426) :: (nat_lit 427, o427) :: (nat_lit 429, o429) :: (nat_lit 430, o430) :: (nat_lit 432, o432) :: (nat_lit 433, o433) :: (nat_lit 434, o434) :: (nat_lit 437, o437) :: (nat_lit 438, o438) :: (nat_lit 439, o439) :: (nat_lit 442, o442) :: (nat_lit 443, o443) :: (nat_lit 444, o444) :: (nat_lit 446, o446) :: (nat_lit 447, o447) :: (nat_lit 449, o449) :: (nat_lit 450, o450) :: (nat_lit 451, o451) :: (nat_lit 453, o453) :: (nat_lit 454, o454) :: (nat_lit 456, o456) :: (nat_lit 457, o457) :: (nat_lit 458, o458) :: (nat_lit 460, o460) :: (nat_lit 461, o461) :: (nat_lit 463, o463) :: (nat_lit 464, o464) :: (nat_lit 465, o465) :: (nat_lit 467, o467) :: (nat_lit 468, o468) :: (nat_lit 470, o470) :: (nat_lit 471, o471) :: []
def asL : List Addr := 364 :: 2 :: 3 :: 4 :: 15 :: 22 :: 23 :: 24 :: 25 :: 28 :: 35 :: 36 :: 37 :: 40 :: 47 :: 48 :: 49 :: 52 :: 54 :: 55 :: 57 :: 58 :: 59 :: 61 :: 62 :: 64 :: 65 :: 66 :: 68 :: 69 :: 71 :: 72 :: 73 :: 75 :: 76 :: 78 :: 79 :: 80 :: 82 :: 83 :: 85 :: 86 :: 87 :: 89 :: 90 :: 92 :: 93 :: 94 :: 96 :: 97 :: 99 :: 100 :: 101 :: 103 :: 104 :: 106 :: 107 :: 108 :: 110 :: 111 :: 113 :: 114 :: 115 :: 118 :: 119 :: 120 :: 122 :: 123 :: 125 :: 126 :: 127 :: 129 :: 130 :: 132 :: 133 :: 134 :: 136 :: 137 :: 139 :: 140 :: 141 :: 144 :: 145 :: 146 :: 149 :: 150 :: 151 :: 153 :: 154 :: 156 :: 157 :: 165 :: 166 :: 167 :: 168 :: 169 :: 172 :: 179 :: 181 :: 182 :: 184 :: 185 :: 186 :: 189 :: 190 :: 191 :: 192 :: 193 :: 196 :: 203 :: 205 :: 206 :: 208 :: 209 :: 210 :: 212 :: 213 :: 215 :: 216 :: 217 :: 218 :: 219 :: 222 :: 229 :: 231 :: 232 :: 234 :: 235 :: 236 :: 239 :: 240 :: 241 :: 242 :: 243 :: 246 :: 253 :: 255 :: 256 :: 258 :: 259 :: 260 :: 263 :: 264 :: 265 :: 266 :: 267 :: 270 :: 277 :: 279 :: 280 :: 282 :: 283 :: 284 :: 286 :: 287 :: 289 :: 290 :: 291 :: 292 :: 293 :: 296 :: 303 :: 305 :: 306 :: 308 :: 309 :: 310 :: 313 :: 314 :: 315 :: 316 :: 317 :: 320 :: 327 :: 329 :: 330 :: 332 :: 333 :: 334 :: 336 :: 337 :: 339 :: 340 :: 341 :: 342 :: 343 :: 346 :: 353 :: 356 :: 357 :: 358 :: 359 :: 360 :: 363 :: 365 :: 366 :: 368 :: 369 :: 370 :: 372 :: 373 :: 375 :: 376 :: 377 :: 379 :: 380 :: 382 :: 383 :: 384 :: 386 :: 387 :: 389 :: 390 :: 391 :: 393 :: 394 :: 396 :: 397 :: 398 :: 401 :: 402 :: 403 :: 406 :: 407 :: 408 :: 410 :: 411 :: 413 :: 414 :: 415 :: 418 :: 419 :: 420 :: 422 :: 423 :: 425 :: 426 :: 427 :: 429 :: 430 :: 432 :: 433 :: 434 :: 437 :: 438 :: 439 :: 442 :: 443 :: 444 :: 446 :: 447 :: 449 :: 450 :: 451 :: 453 :: 454 :: 456 :: 457 :: 458 :: 460 :: 461 :: 463 :: 464 :: 465 :: 467 :: 468 :: 470 :: 471 :: []
def tabA : Addr := 364
def codA : Addr := 368
def tabO : Obj := { cls := .none, data := .fields #[] }
def KT (P : Params) : Frag := (nat_lit 364, tabO) :: KL P
def kgt (P : Params) : Frag := (364, tabO) :: kg P
theorem kg_eq (P : Params) : kg P = KL P := by kernel_rfl
theorem as_eq (P : Params) : asL = (KT P).map (·.1) := by kernel_rfl
theorem kgt_eq (P : Params) : kgt P = KT P := congrArg (fun r => (tabA, tabO) :: r) (kg_eq P)
theorem tab_out (P : Params) : (KL P).lookup tabA = none := by kernel_rfl
theorem cod_in (P : Params) : (KL P).lookup codA = some o368 := by kernel_rfl
theorem bmod_in (P : Params) : (KL P).lookup 4 = some o4 := by kernel_rfl
theorem kt_in {P : Params} {h : Heap} (X : (KT P).In h) : (KL P).In h ∧ h.get? tabA = some tabO := ⟨fun a o e => X a o (by
  have n : (a == tabA) = false := beq_eq_false_iff_ne.mpr fun z => by rw [z, tab_out] at e; cases e
  show ((tabA, tabO) :: KL P).lookup a = some o
  rw [List.lookup_cons, n]
  exact e), X tabA tabO (by show ((tabA, tabO) :: KL P).lookup tabA = some tabO; rw [List.lookup_cons, beq_self_eq_true])⟩
theorem cod_hd {P : Params} {h : Heap} (X : (KL P).In h) : PySem.W.CodeHd h codA tabA := ⟨o368, _, _, _, _, _, _, _, _, X _ _ (cod_in P), rfl, rfl, rfl, rfl, rfl, rfl, rfl, rfl, by decide⟩
theorem lamL {P : Params} {h : Heap} {mg : Str → Option Value} (X : (KL P).In h) (G : h.Ns mainGlobals mg) (e : nsIn (KL P) mainGlobals "__builtins__" = some (some (.ref 4))) : L2.LamAt (KL P) mg (.ref codA) tabA := ⟨⟨codA, rfl, fun _ Y => cod_hd Y⟩, fun _ Y => ⟨4, o4, mg_of X G e, by decide, by decide, by decide, Y _ _ (bmod_in P), rfl, rfl, rfl⟩, by decide⟩
def looseL : List Str := .ofString "TariffError" :: .ofString "BadBook" :: .ofString "BadPlace" :: .ofString "is_whole" :: .ofString "is_whole_pair" :: .ofString "common_divisor" :: .ofString "is_amount" :: .ofString "is_place" :: .ofString "check_book" :: .ofString "check_place" :: .ofString "lowest_terms" :: .ofString "top_of_cost" :: .ofString "tops_of_cost" :: .ofString "is_weighing" :: .ofString "is_mixture" :: .ofString "is_less" :: .ofString "are_begins" :: .ofString "are_places_in_turn" :: .ofString "are_least_at_both_ends" :: .ofString "Answer" :: .ofString "Alone" :: .ofString "Needless" :: .ofString "Ranges" :: .ofString "Under" :: .ofString "Over" :: .ofString "Most" :: .ofString "Endless" :: .ofString "Dear" :: .ofString "by_falling_piece" :: .ofString "least_in_turn" :: .ofString "turn_for" :: .ofString "amount_below" :: .ofString "mixture_for" :: .ofString "alone" :: .ofString "_law_book" :: .ofString "_law_lowest" :: .ofString "_law_is_amount" :: .ofString "_law_cost" :: .ofString "_law_whole" :: .ofString "_law_mixture" :: .ofString "_law_alone" :: .ofString "_law_needless" :: .ofString "_law_due" :: .ofString "_law_right" :: []
def qL : Program := { PySem.Challenge.pw_leasttariff_k02_whole_alone with main := { PySem.Challenge.pw_leasttariff_k02_whole_alone.main with body := [top 50] } }
def XtL (s : Shared) : Bool := xlAt qL [] s && recOk [] s
def YfL (s : Shared) : List (Option Obj) := asL.map s.heap.get?
def YaL (w : World) : List (Option Obj) := (kgt w.params).map fun p => some p.2
theorem hYL (w : World) (s : Shared) (e : YfL s = YaL w) : InK KT w s.heap := by
  refine InK.of as_eq w s ?_
  rw [← kgt_eq w.params]
  exact e
def lookL (w : World) (os : OsState) := (topRunT treeTable PySem.Challenge.pw_leasttariff_k02_whole_alone w 11 (some (.ref 6)) 8200 ⟨btOf (boot_heap w.params).objs.toList, 11, (boot_heap w.params).life, Array.mk [], boot_drawn, boot_toks, os⟩ (topStub PySem.Challenge.pw_leasttariff_k02_whole_alone)).map (fun s => seenAt PySem.Challenge.pw_leasttariff_k02_whole_alone qL looseL XtL YfL (boot_heap w.params) s.abs)
def goodL (w : World) := some (true, openGood qL looseL, YaL w)
theorem lookL_refl : lookL = lookL := rfl
theorem goodL_refl : goodL = goodL := rfl
end
end My
name_quick lookLF for My.lookL by My.lookL_refl
name_quick goodLF for My.goodL by My.goodL_refl
namespace My
open PySem PySem.W PySem.Calls PyProof.Rows
theorem fastL (w : World) (os : OsState) : PySem.W.Fast.lookLF w os = PySem.W.Fast.goodLF w := by kernel_rfl
theorem leftL : LeftO PySem.Challenge.pw_leasttariff_k02_whole_alone qL looseL XtL YfL YaL 8200 true :=
  left_at_once (boot_open (by kernel_rfl) (by decide) (fun s => by kernel_rfl)) (m := 11) (ann := (some (.ref 6))) (fun P => by kernel_rfl) (fun P => by kernel_rfl)
    fun w os => (congrFun (congrFun PySem.W.Fast.lookLF_eq w) os).trans ((fastL w os).trans (congrFun PySem.W.Fast.goodLF_eq w).symm)
end My

set_option linter.all false
namespace My
theorem gcd_step {a b : Int} (ha : 0 ≤ a) (hb : 0 < b) : Int.gcd b (a % b) = Int.gcd a b := by
  obtain ⟨m, rfl⟩ := Int.eq_ofNat_of_zero_le ha
  obtain ⟨n, rfl⟩ := Int.eq_ofNat_of_zero_le (Int.le_of_lt hb)
  rw [← Int.natCast_emod, Int.gcd_natCast_natCast, Int.gcd_natCast_natCast, Nat.gcd_comm n, ← Nat.gcd_rec, Nat.gcd_comm]
/-- a fraction in lowest terms -/
def lowA (a b : Int) : Int := a / (Int.gcd a b : Int)
def lowB (a b : Int) : Int := b / (Int.gcd a b : Int)
theorem gcd_pos {a b : Int} (hb : 0 < b) : 0 < Int.gcd a b := Int.gcd_pos_of_ne_zero_right a (by omega)
theorem gcdI_pos {a b : Int} (hb : 0 < b) : (0 : Int) < (Int.gcd a b : Int) := Int.natCast_pos.mpr (gcd_pos hb)
theorem gcd_le {a b : Int} (hb : 0 < b) : (Int.gcd a b : Int) ≤ b := Int.le_of_dvd hb (Int.gcd_dvd_right a b)
theorem lowA_nonneg {a b : Int} (ha : 0 ≤ a) (hb : 0 < b) : 0 ≤ lowA a b := Int.ediv_nonneg ha (Int.le_of_lt (gcdI_pos hb))
theorem lowB_pos {a b : Int} (hb : 0 < b) : 0 < lowB a b := by
  have h1 := gcdI_pos (a := a) hb
  have h2 := gcd_le (a := a) hb
  exact Int.ediv_pos_of_pos_of_dvd hb (Int.le_of_lt h1) (Int.gcd_dvd_right a b)
theorem low_cop {a b : Int} (hb : 0 < b) : Int.gcd (lowA a b) (lowB a b) = 1 := Int.gcd_ediv_gcd_ediv_gcd (gcd_pos hb)
theorem lowA_le {a b : Int} (ha : 0 ≤ a) (hb : 0 < b) : lowA a b ≤ a := Int.ediv_le_self _ ha
theorem lowB_le {a b : Int} (hb : 0 < b) : lowB a b ≤ b := Int.ediv_le_self _ (Int.le_of_lt hb)
theorem lowA_self {a b : Int} (h : Int.gcd a b = 1) : lowA a b = a := by unfold lowA; rw [h]; simp
theorem lowB_self {a b : Int} (h : Int.gcd a b = 1) : lowB a b = b := by unfold lowB; rw [h]; simp
end My

set_option linter.all false
namespace My
/-- numbers that come in -/
def Ok1 (x : Int) : Prop := 0 ≤ x ∧ x ≤ 10 ^ 60
def OkT (p : Int × Int) : Prop := Ok1 p.1 ∧ Ok1 p.2
/-- the small ones, of which books are made -/
def Sm1 (x : Int) : Prop := 0 ≤ x ∧ x ≤ 10 ^ 40
def SmT (p : Int × Int) : Prop := Sm1 p.1 ∧ Sm1 p.2
/-- an amount, its numbers bounded -/
structure OkA (x y : Int) : Prop where
  x0 : Ok1 x
  y0 : Ok1 y
  y1 : 0 < y
  cop : Int.gcd x y = 1
/-- what a tariff costs, times the amount's second number -/
def cst (p : Int × Int) (x y : Int) : Int := p.1 * y + p.2 * x
theorem okA_low {a b : Int} (ha : Ok1 a) (hb : Ok1 b) (h : 0 < b) : OkA (lowA a b) (lowB a b) where
  x0 := ⟨lowA_nonneg ha.1 h, Int.le_trans (lowA_le ha.1 h) ha.2⟩
  y0 := ⟨Int.le_of_lt (lowB_pos h), Int.le_trans (lowB_le h) hb.2⟩
  y1 := lowB_pos h
  cop := low_cop h


/-! ### money -/
end My

set_option linter.all false
namespace My
/-! ### the lower envelope: what least_in_turn builds, over plain lists -/
/-- the difference of two costs -/
theorem cst_sub (p q : Int × Int) (x y : Int) : cst p x y - cst q x y = (p.1 - q.1) * y + (p.2 - q.2) * x := by
  unfold cst
  rw [Int.sub_mul, Int.sub_mul]
  omega
/-- between two amounts at which q costs no more than p, so it is in between -/
theorem between {p q : Int × Int} {x1 y1 x2 y2 x y : Int} (hy1 : 0 < y1) (hy2 : 0 < y2) (hy : 0 < y) (h1 : x1 * y ≤ x * y1) (h2 : x * y2 ≤ x2 * y) (c1 : cst q x1 y1 ≤ cst p x1 y1) (c2 : cst q x2 y2 ≤ cst p x2 y2) : cst q x y ≤ cst p x y := by
  have d1 := cst_sub p q x1 y1
  have d2 := cst_sub p q x2 y2
  have d := cst_sub p q x y
  generalize p.1 - q.1 = u at d1 d2 d
  generalize p.2 - q.2 = v at d1 d2 d
  by_cases hv : 0 ≤ v
  · have e1 : (u * y + v * x) * y1 = u * y * y1 + v * (x * y1) := by rw [Int.add_mul, Int.mul_assoc v x y1]
    have e2 : (u * y1 + v * x1) * y = u * y * y1 + v * (x1 * y) := by rw [Int.add_mul, Int.mul_assoc v x1 y, Int.mul_assoc u y1 y, Int.mul_comm y1 y, ← Int.mul_assoc]
    have g1 : v * (x1 * y) ≤ v * (x * y1) := Int.mul_le_mul_of_nonneg_left h1 hv
    have g2 : 0 ≤ (u * y1 + v * x1) * y := Int.mul_nonneg (by omega) (Int.le_of_lt hy)
    have g3 : 0 ≤ (u * y + v * x) * y1 := by omega
    have g4 : 0 ≤ u * y + v * x := by
      by_cases c : 0 ≤ u * y + v * x
      · exact c
      · have := Int.mul_neg_of_neg_of_pos (show u * y + v * x < 0 by omega) hy1
        omega
    omega
  · have e1 : (u * y + v * x) * y2 = u * y * y2 + v * (x * y2) := by rw [Int.add_mul, Int.mul_assoc v x y2]
    have e2 : (u * y2 + v * x2) * y = u * y * y2 + v * (x2 * y) := by rw [Int.add_mul, Int.mul_assoc v x2 y, Int.mul_assoc u y2 y, Int.mul_comm y2 y, ← Int.mul_assoc]
    have g1 : v * (x2 * y) ≤ v * (x * y2) := Int.mul_le_mul_of_nonpos_left (by omega) h2
    have g2 : 0 ≤ (u * y2 + v * x2) * y := Int.mul_nonneg (by omega) (Int.le_of_lt hy)
    have g3 : 0 ≤ (u * y + v * x) * y2 := by omega
    have g4 : 0 ≤ u * y + v * x := by
      by_cases c : 0 ≤ u * y + v * x
      · exact c
      · have := Int.mul_neg_of_neg_of_pos (show u * y + v * x < 0 by omega) hy2
        omega
    omega
/-- from an amount on, q costs no more than p, if it does so there and by the piece -/
theorem beyond {p q : Int × Int} {x1 y1 x y : Int} (hy1 : 0 < y1) (hy : 0 < y) (h1 : x1 * y ≤ x * y1) (c1 : cst q x1 y1 ≤ cst p x1 y1) (hv : q.2 ≤ p.2) : cst q x y ≤ cst p x y := by
  have d1 := cst_sub p q x1 y1
  have d := cst_sub p q x y
  have hv' : 0 ≤ p.2 - q.2 := by omega
  generalize p.1 - q.1 = u at d1 d
  generalize p.2 - q.2 = v at d1 d hv'
  have e1 : (u * y + v * x) * y1 = u * y * y1 + v * (x * y1) := by rw [Int.add_mul, Int.mul_assoc v x y1]
  have e2 : (u * y1 + v * x1) * y = u * y * y1 + v * (x1 * y) := by rw [Int.add_mul, Int.mul_assoc v x1 y, Int.mul_assoc u y1 y, Int.mul_comm y1 y, ← Int.mul_assoc]
  have g1 : v * (x1 * y) ≤ v * (x * y1) := Int.mul_le_mul_of_nonneg_left h1 hv'
  have g2 : 0 ≤ (u * y1 + v * x1) * y := Int.mul_nonneg (by omega) (Int.le_of_lt hy)
  have g3 : 0 ≤ (u * y + v * x) * y1 := by omega
  have g4 : 0 ≤ u * y + v * x := by
    by_cases c : 0 ≤ u * y + v * x
    · exact c
    · have := Int.mul_neg_of_neg_of_pos (show u * y + v * x < 0 by omega) hy1
      omega
  omega
/-- up to an amount, q costs no more than p, if it does so there and costs no less by the piece -/
theorem ahead {p q : Int × Int} {x1 y1 x y : Int} (hy1 : 0 < y1) (hy : 0 < y) (h1 : x * y1 ≤ x1 * y) (c1 : cst q x1 y1 ≤ cst p x1 y1) (hv : p.2 ≤ q.2) : cst q x y ≤ cst p x y := by
  have d1 := cst_sub p q x1 y1
  have d := cst_sub p q x y
  have hv' : p.2 - q.2 ≤ 0 := by omega
  generalize p.1 - q.1 = u at d1 d
  generalize p.2 - q.2 = v at d1 d hv'
  have e1 : (u * y + v * x) * y1 = u * y * y1 + v * (x * y1) := by rw [Int.add_mul, Int.mul_assoc v x y1]
  have e2 : (u * y1 + v * x1) * y = u * y * y1 + v * (x1 * y) := by rw [Int.add_mul, Int.mul_assoc v x1 y, Int.mul_assoc u y1 y, Int.mul_comm y1 y, ← Int.mul_assoc]
  have g1 : v * (x1 * y) ≤ v * (x * y1) := Int.mul_le_mul_of_nonpos_left hv' h1
  have g2 : 0 ≤ (u * y1 + v * x1) * y := Int.mul_nonneg (by omega) (Int.le_of_lt hy)
  have g3 : 0 ≤ (u * y + v * x) * y1 := by omega
  have g4 : 0 ≤ u * y + v * x := by
    by_cases c : 0 ≤ u * y + v * x
    · exact c
    · have := Int.mul_neg_of_neg_of_pos (show u * y + v * x < 0 by omega) hy1
      omega
  omega

structure E where
  k : Int
  t : Int × Int
  x : Int
  y : Int
def pops (t : Int × Int) : List E → List E
  | [] => []
  | e :: r => if cst t e.x e.y ≤ cst e.t e.x e.y then pops t r else e :: r
def push (k : Int) (t : Int × Int) (st : List E) : List E := match pops t st with
  | [] => [⟨k, t, 0, 1⟩]
  | e :: r => ⟨k, t, t.1 - e.t.1, e.t.2 - t.2⟩ :: e :: r
inductive Env (S : List (Int × Int)) : List E → Prop where
  | nil : S = [] → Env S []
  | one (k : Int) (t : Int × Int) (h : ∀ p ∈ S, t.1 ≤ p.1) (m : t ∈ S) : Env S [⟨k, t, 0, 1⟩]
  | cons (k : Int) (t : Int × Int) (e : E) (r : List E) (h : Env S (e :: r)) (hy : t.2 < e.t.2) (hx : e.x * (e.t.2 - t.2) < (t.1 - e.t.1) * e.y)
      (le : ∀ p ∈ S, cst t (t.1 - e.t.1) (e.t.2 - t.2) ≤ cst p (t.1 - e.t.1) (e.t.2 - t.2)) (m : t ∈ S) : Env S (⟨k, t, t.1 - e.t.1, e.t.2 - t.2⟩ :: e :: r)
theorem cst01 (p : Int × Int) : cst p 0 1 = p.1 := by unfold cst; rw [Int.mul_one, Int.mul_zero, Int.add_zero]
theorem Env.pos {S : List (Int × Int)} : ∀ {st : List E}, Env S st → ∀ e ∈ st, 0 ≤ e.x ∧ 0 < e.y
  | _, .nil _, e, he => by cases he
  | _, .one k t h m, e, he => by
    have : e = ⟨k, t, 0, 1⟩ := by simpa using he
    subst this
    exact ⟨Int.le_refl _, show (0 : Int) < 1 by decide⟩
  | _, .cons k t f r h hy hx le m, e, he => by
    rcases List.mem_cons.mp he with rfl | he
    · obtain ⟨a, b⟩ := Env.pos h f List.mem_cons_self
      have y0 : 0 < f.t.2 - t.2 := by omega
      refine ⟨?_, y0⟩
      show 0 ≤ t.1 - f.t.1
      have h1 : 0 ≤ f.x * (f.t.2 - t.2) := Int.mul_nonneg a (by omega)
      by_cases c : 0 ≤ t.1 - f.t.1
      · exact c
      · have := Int.mul_neg_of_neg_of_pos (show t.1 - f.t.1 < 0 by omega) b
        omega
    · exact Env.pos h e he
theorem Env.least {S : List (Int × Int)} : ∀ {st : List E}, Env S st → ∀ e ∈ st, e.t ∈ S ∧ ∀ p ∈ S, cst e.t e.x e.y ≤ cst p e.x e.y
  | _, .nil _, e, he => by cases he
  | _, .one k t h m, e, he => by
    have : e = ⟨k, t, 0, 1⟩ := by simpa using he
    subst this
    exact ⟨m, fun p hp => by show cst t 0 1 ≤ cst p 0 1; rw [cst01, cst01]; exact h p hp⟩
  | _, .cons k t f r h hy hx le m, e, he => by
    rcases List.mem_cons.mp he with rfl | he
    · exact ⟨m, le⟩
    · exact Env.least h e he
/-- t and e meet at most there: all of S lie above e where t and e meet behind e's begin -/
def Cov (S : List (Int × Int)) (t : Int × Int) (e : E) : Prop := ∀ x y, 0 < y → e.x * y ≤ x * e.y → cst t x y = cst e.t x y → ∀ p ∈ S, cst e.t x y ≤ cst p x y
theorem meet (t e : Int × Int) : cst t (t.1 - e.1) (e.2 - t.2) = cst e (t.1 - e.1) (e.2 - t.2) := by
  have h := cst_sub t e (t.1 - e.1) (e.2 - t.2)
  have e1 : (t.2 - e.2) * (t.1 - e.1) = - ((t.1 - e.1) * (e.2 - t.2)) := by
    rw [Int.mul_comm (t.2 - e.2), ← Int.mul_neg]
    congr 1
    omega
  rw [e1] at h
  omega
theorem Cov.step {S : List (Int × Int)} {t : Int × Int} {f e : E} {r : List E} (h : Env S (f :: e :: r)) (hp : cst t f.x f.y ≤ cst f.t f.x f.y) (hs : t.2 ≤ f.t.2) : Cov S t e := by
  intro x y hy hle hm p hpS
  have P := h.pos
  have hf := P f List.mem_cons_self
  have he := P e (List.mem_cons_of_mem _ List.mem_cons_self)
  have L := h.least
  have lf := (L f List.mem_cons_self).2 p hpS
  have le := (L e (List.mem_cons_of_mem _ List.mem_cons_self)).2 p hpS
  cases h with
  | cons k tf _ _ h2 hy2 hx2 le2 m2 =>
    have mt : cst tf (tf.1 - e.t.1) (e.t.2 - tf.2) = cst e.t (tf.1 - e.t.1) (e.t.2 - tf.2) := meet tf e.t
    have hp' : cst t (tf.1 - e.t.1) (e.t.2 - tf.2) ≤ cst tf (tf.1 - e.t.1) (e.t.2 - tf.2) := hp
    have lf' : cst tf (tf.1 - e.t.1) (e.t.2 - tf.2) ≤ cst p (tf.1 - e.t.1) (e.t.2 - tf.2) := lf
    have fy : 0 < e.t.2 - tf.2 := by omega
    have ts : t.2 < e.t.2 := by have : t.2 ≤ tf.2 := hs; omega
    generalize tf.1 - e.t.1 = fx at mt hp' lf'
    generalize e.t.2 - tf.2 = fy' at mt hp' lf' fy
    refine between (x2 := fx) he.2 fy hy hle ?_ le (by omega)
    -- x * fy' ≤ fx * y
    have d1 := cst_sub t e.t x y
    have d2 := cst_sub t e.t fx fy'
    have hv : t.2 - e.t.2 < 0 := by omega
    generalize t.1 - e.t.1 = u at d1 d2
    generalize t.2 - e.t.2 = v at d1 d2 hv
    have a1 : u * y + v * x = 0 := by omega
    have a2 : u * fy' + v * fx ≤ 0 := by omega
    by_cases c : x * fy' ≤ fx * y
    · exact c
    · exfalso
      have b1 : (u * fy' + v * fx) * y ≤ 0 := Int.mul_nonpos_of_nonpos_of_nonneg a2 (Int.le_of_lt hy)
      have b2 : (u * y + v * x) * fy' = 0 := by rw [a1, Int.zero_mul]
      have c1 : (u * fy' + v * fx) * y = u * fy' * y + v * (fx * y) := by rw [Int.add_mul, Int.mul_assoc v fx y]
      have c2 : (u * y + v * x) * fy' = u * fy' * y + v * (x * fy') := by rw [Int.add_mul, Int.mul_assoc v x fy', Int.mul_assoc u y fy', Int.mul_comm y fy', ← Int.mul_assoc]
      have c3 : v * (x * fy') < v * (fx * y) := Int.mul_lt_mul_of_neg_left (by omega) hv
      omega
/-- what is left behind the pops -/
theorem pops_env {S : List (Int × Int)} {t : Int × Int} (hs : ∀ p ∈ S, t.2 ≤ p.2) : ∀ {st : List E}, Env S st → (∀ e r, st = e :: r → Cov S t e) →
    (pops t st = [] → ∀ p ∈ S, t.1 ≤ p.1) ∧ ∀ e r, pops t st = e :: r → Env S (e :: r) ∧ Cov S t e ∧ cst e.t e.x e.y < cst t e.x e.y
  | _, .nil h0, _ => ⟨fun _ p hp => (by rw [h0] at hp; cases hp), fun e r q => (by cases q)⟩
  | _, .one k t' h m, cov => by
    refine ⟨fun q p hp => ?_, fun e r q => ?_⟩
    · by_cases c : cst t 0 1 ≤ cst t' 0 1
      · rw [cst01, cst01] at c
        have := h p hp
        omega
      · exfalso
        have e1 : pops t [⟨k, t', 0, 1⟩] = [⟨k, t', 0, 1⟩] := by show (if cst t 0 1 ≤ cst t' 0 1 then _ else _) = _; rw [if_neg c]
        rw [e1] at q
        cases q
    · by_cases c : cst t 0 1 ≤ cst t' 0 1
      · exfalso
        have e1 : pops t [⟨k, t', 0, 1⟩] = [] := by show (if cst t 0 1 ≤ cst t' 0 1 then _ else _) = _; rw [if_pos c]; rfl
        rw [e1] at q
        cases q
      · have e1 : pops t [⟨k, t', 0, 1⟩] = [⟨k, t', 0, 1⟩] := by show (if cst t 0 1 ≤ cst t' 0 1 then _ else _) = _; rw [if_neg c]
        rw [e1] at q
        have cv := cov _ _ rfl
        have en : Env S [⟨k, t', 0, 1⟩] := .one k t' h m
        cases q
        exact ⟨en, cv, by show cst t' 0 1 < cst t 0 1; omega⟩
  | _, .cons k tf e r h hy hx le m, cov => by
    have en : Env S (⟨k, tf, tf.1 - e.t.1, e.t.2 - tf.2⟩ :: e :: r) := .cons k tf e r h hy hx le m
    by_cases c : cst t (tf.1 - e.t.1) (e.t.2 - tf.2) ≤ cst tf (tf.1 - e.t.1) (e.t.2 - tf.2)
    · have e1 : pops t (⟨k, tf, tf.1 - e.t.1, e.t.2 - tf.2⟩ :: e :: r) = pops t (e :: r) := by
        show (if cst t (tf.1 - e.t.1) (e.t.2 - tf.2) ≤ cst tf (tf.1 - e.t.1) (e.t.2 - tf.2) then _ else _) = _
        rw [if_pos c]
      rw [e1]
      refine pops_env hs h fun e' r' q => ?_
      have q1 : e = e' := by injection q
      subst q1
      exact Cov.step en c (hs tf m)
    · have e1 : pops t (⟨k, tf, tf.1 - e.t.1, e.t.2 - tf.2⟩ :: e :: r) = ⟨k, tf, tf.1 - e.t.1, e.t.2 - tf.2⟩ :: e :: r := by
        show (if cst t (tf.1 - e.t.1) (e.t.2 - tf.2) ≤ cst tf (tf.1 - e.t.1) (e.t.2 - tf.2) then _ else _) = _
        rw [if_neg c]
      rw [e1]
      refine ⟨fun q => (by cases q), fun e' r' q => ?_⟩
      have cv := cov _ _ rfl
      cases q
      exact ⟨en, cv, by show cst tf (tf.1 - e.t.1) (e.t.2 - tf.2) < cst t (tf.1 - e.t.1) (e.t.2 - tf.2); omega⟩
/-- one more tariff, that costs no less than the top's at its begin, by the piece no more -/
theorem Env.more {S : List (Int × Int)} {t : Int × Int} : ∀ {st : List E}, Env S st → (∀ e ∈ st, cst e.t e.x e.y ≤ cst t e.x e.y) → Env (S ++ [t]) st ∨ st = []
  | _, .nil _, _ => .inr rfl
  | _, .one k t' h m, g => .inl (.one k t' (fun p hp => by
      rcases List.mem_append.mp hp with hp | hp
      · exact h p hp
      · have e1 : p = t := by simpa using hp
        subst e1
        have := g _ List.mem_cons_self
        have : cst t' 0 1 ≤ cst p 0 1 := this
        rwa [cst01, cst01] at this) (List.mem_append_left _ m))
  | _, .cons k tf e r h hy hx le m, g => by
    rcases Env.more h (fun e' he => g e' (List.mem_cons_of_mem _ he)) with q | q
    · refine .inl (.cons k tf e r q hy hx (fun p hp => ?_) (List.mem_append_left _ m))
      rcases List.mem_append.mp hp with hp | hp
      · exact le p hp
      · have e1 : p = t := by simpa using hp
        subst e1
        exact g _ List.mem_cons_self
    · cases q
/-- the begins rise: each below the top's -/
theorem Env.rise {S : List (Int × Int)} : ∀ {st : List E}, Env S st → ∀ e r, st = e :: r → ∀ g ∈ r, g.x * e.y < e.x * g.y
  | _, .nil _, e, r, q, _, _ => by cases q
  | _, .one k t h m, e, r, q, g, hg => by cases q; cases hg
  | _, .cons k tf e r h hy hx le m, e', r', q, g, hg => by
    have P := h.pos
    have pe := P e List.mem_cons_self
    have hf : 0 < e.t.2 - tf.2 := by omega
    cases q
    show g.x * (e.t.2 - tf.2) < (tf.1 - e.t.1) * g.y
    rcases List.mem_cons.mp hg with rfl | hg
    · exact hx
    · have h1 := Env.rise h e r rfl g hg
      have pg := P g (List.mem_cons_of_mem _ hg)
      -- g.x / g.y < e.x / e.y < fx / fy
      generalize e.t.2 - tf.2 = fy at hx hf ⊢
      generalize tf.1 - e.t.1 = fx at hx ⊢
      have a1 : g.x * e.y * fy < e.x * g.y * fy := Int.mul_lt_mul_of_pos_right h1 hf
      have a2 : e.x * fy * g.y < fx * e.y * g.y := Int.mul_lt_mul_of_pos_right hx pg.2
      have b1 : g.x * e.y * fy = e.y * (g.x * fy) := by rw [Int.mul_comm g.x, Int.mul_assoc]
      have b2 : e.x * g.y * fy = e.x * fy * g.y := by rw [Int.mul_assoc, Int.mul_comm g.y, ← Int.mul_assoc]
      have b3 : fx * e.y * g.y = e.y * (fx * g.y) := by rw [Int.mul_comm fx, Int.mul_assoc]
      have : e.y * (g.x * fy) < e.y * (fx * g.y) := by omega
      exact Int.lt_of_mul_lt_mul_left this (Int.le_of_lt pe.2)
theorem Env.push {S : List (Int × Int)} {t : Int × Int} {st : List E} (k : Int) (h : Env S st) (hs : ∀ p ∈ S, t.2 ≤ p.2) (tie : ∀ p ∈ S, t.2 = p.2 → t.1 ≤ p.1) (last : ∀ e r, st = e :: r → ∀ p ∈ S, e.t.2 ≤ p.2) :
    Env (S ++ [t]) (My.push k t st) := by
  have key := pops_env hs h (fun e r q => fun x y hy hle hm p hp => by
    have P := h.pos e (by rw [q]; exact List.mem_cons_self)
    have L := (h.least e (by rw [q]; exact List.mem_cons_self)).2 p hp
    exact beyond P.2 hy hle L (last e r q p hp))
  unfold My.push
  cases q : pops t st with
  | nil =>
    refine .one k t (fun p hp => ?_) (List.mem_append_right _ (by simp))
    rcases List.mem_append.mp hp with hp | hp
    · exact key.1 q p hp
    · have e1 : p = t := by simpa using hp
      subst e1
      exact Int.le_refl _
  | cons e r =>
    obtain ⟨en, cov, lt⟩ := key.2 e r q
    have P := en.pos
    have pe := P e List.mem_cons_self
    have L := en.least
    have le := L e List.mem_cons_self
    have hy : t.2 < e.t.2 := by
      have h1 := hs e.t le.1
      by_cases c : t.2 = e.t.2
      · exfalso
        have h2 := tie e.t le.1 c
        have d := cst_sub t e.t e.x e.y
        rw [show t.2 - e.t.2 = 0 by omega, Int.zero_mul, Int.add_zero] at d
        have : (t.1 - e.t.1) * e.y ≤ 0 := Int.mul_nonpos_of_nonpos_of_nonneg (by omega) (Int.le_of_lt pe.2)
        omega
      · omega
    have hx : e.x * (e.t.2 - t.2) < (t.1 - e.t.1) * e.y := by
      have d := cst_sub t e.t e.x e.y
      have e1 : (t.2 - e.t.2) * e.x = - (e.x * (e.t.2 - t.2)) := by
        rw [Int.mul_comm (t.2 - e.t.2), ← Int.mul_neg]
        congr 1
        omega
      rw [e1] at d
      omega
    have grow : ∀ g ∈ e :: r, cst g.t g.x g.y ≤ cst t g.x g.y := fun g hg => by
      rcases List.mem_cons.mp hg with rfl | hg
      · omega
      · have pg := P g (List.mem_cons_of_mem _ hg)
        have lg := (L g (List.mem_cons_of_mem _ hg)).2 e.t le.1
        have rs := en.rise e r rfl g hg
        have := ahead (p := t) (q := e.t) pe.2 pg.2 (Int.le_of_lt rs) (Int.le_of_lt lt) (Int.le_of_lt hy)
        omega
    have en2 : Env (S ++ [t]) (e :: r) := (en.more grow).resolve_right (by simp)
    refine .cons k t e r en2 hy hx (fun p hp => ?_) (List.mem_append_right _ (by simp))
    have mt := meet t e.t
    rcases List.mem_append.mp hp with hp | hp
    · have := cov (t.1 - e.t.1) (e.t.2 - t.2) (by omega) (Int.le_of_lt hx) mt p hp
      omega
    · have e1 : p = t := by simpa using hp
      subst e1
      exact Int.le_refl _
theorem push_top {k : Int} {t : Int × Int} {st : List E} : ∃ e r, My.push k t st = e :: r ∧ e.t = t ∧ e.k = k := by
  unfold My.push
  cases pops t st with
  | nil => exact ⟨_, _, rfl, rfl, rfl⟩
  | cons e r => exact ⟨_, _, rfl, rfl, rfl⟩
end My

set_option linter.all false
namespace My
/-! ### the envelope from the first begin on -/
structure Hull (S : List (Int × Int)) (L : List E) : Prop where
  ne : L ≠ []
  first : ∀ e, L[0]? = some e → e.x = 0 ∧ e.y = 1
  pos : ∀ e ∈ L, 0 ≤ e.x ∧ 0 < e.y
  least : ∀ e ∈ L, e.t ∈ S ∧ ∀ p ∈ S, cst e.t e.x e.y ≤ cst p e.x e.y
  next : ∀ (i : Nat) e f, L[i]? = some e → L[i + 1]? = some f → f.x = f.t.1 - e.t.1 ∧ f.y = e.t.2 - f.t.2 ∧ e.x * f.y < f.x * e.y
  last : ∀ e, L[L.length - 1]? = some e → ∀ p ∈ S, e.t.2 ≤ p.2
theorem Env.next {S : List (Int × Int)} : ∀ {st : List E}, Env S st → ∀ (i : Nat) e f, st.reverse[i]? = some e → st.reverse[i + 1]? = some f → f.x = f.t.1 - e.t.1 ∧ f.y = e.t.2 - f.t.2 ∧ e.x * f.y < f.x * e.y
  | _, .nil _, i, e, f, h1, _ => by simp at h1
  | _, .one k t h m, i, e, f, h1, h2 => by
    simp only [List.reverse_cons, List.reverse_nil, List.nil_append] at h2
    rw [List.getElem?_cons_succ] at h2
    simp at h2
  | _, .cons k t e0 r h hy hx le m, i, e, f, h1, h2 => by
    rw [List.reverse_cons] at h1 h2
    have hl : (e0 :: r).reverse.length = r.length + 1 := by simp
    by_cases c : i + 1 < (e0 :: r).reverse.length
    · rw [List.getElem?_append_left c] at h2
      rw [List.getElem?_append_left (by omega)] at h1
      exact Env.next h i e f h1 h2
    · have hlt : i + 1 < ((e0 :: r).reverse ++ [(⟨k, t, t.1 - e0.t.1, e0.t.2 - t.2⟩ : E)]).length := (List.getElem?_eq_some_iff.mp h2).1
      rw [List.length_append] at hlt
      have hlt : i + 1 < (e0 :: r).reverse.length + 1 := hlt
      have ei : i + 1 = (e0 :: r).reverse.length := by omega
      rw [List.getElem?_append_right (by omega), ei, Nat.sub_self] at h2
      have ef : (⟨k, t, t.1 - e0.t.1, e0.t.2 - t.2⟩ : E) = f := by simpa using h2
      rw [List.getElem?_append_left (by omega)] at h1
      have ee : e0 = e := by
        have e1 : i = r.length := by omega
        rw [e1, List.reverse_cons, List.getElem?_append_right (by simp)] at h1
        simpa using h1
      subst ef ee
      exact ⟨rfl, rfl, hx⟩
theorem Env.first {S : List (Int × Int)} : ∀ {st : List E}, Env S st → ∀ e, st.reverse[0]? = some e → e.x = 0 ∧ e.y = 1
  | _, .nil _, e, h1 => by simp at h1
  | _, .one k t h m, e, h1 => by
    have : (⟨k, t, 0, 1⟩ : E) = e := by simpa using h1
    subst this
    exact ⟨rfl, rfl⟩
  | _, .cons k t e0 r h hy hx le m, e, h1 => by
    rw [List.reverse_cons, List.getElem?_append_left (by simp)] at h1
    exact Env.first h e h1
theorem Env.hull {S : List (Int × Int)} {st : List E} (h : Env S st) {e0 : E} {r : List E} (q : st = e0 :: r) (last : ∀ p ∈ S, e0.t.2 ≤ p.2) : Hull S st.reverse where
  ne := by rw [q]; simp
  first := h.first
  pos := fun e he => h.pos e (List.mem_reverse.mp he)
  least := fun e he => h.least e (List.mem_reverse.mp he)
  next := h.next
  last := fun e he => by
    have : e = e0 := by
      rw [q, List.reverse_cons, List.length_append, List.getElem?_append_right (by simp)] at he
      simpa using he.symm
    rw [this]
    exact last
theorem Hull.dec1 {S : List (Int × Int)} {L : List E} (h : Hull S L) {i : Nat} {e f : E} (h1 : L[i]? = some e) (h2 : L[i + 1]? = some f) : f.t.2 < e.t.2 := by
  obtain ⟨_, b, _⟩ := h.next i e f h1 h2
  have := (h.pos f (List.mem_of_getElem? h2)).2
  omega
theorem Hull.dec {S : List (Int × Int)} {L : List E} (h : Hull S L) {i : Nat} {e : E} (h1 : L[i]? = some e) : ∀ (d : Nat) {f : E}, L[i + d]? = some f → f.t.2 ≤ e.t.2
  | 0, f, h2 => by
    rw [Nat.add_zero, h1] at h2
    cases h2
    exact Int.le_refl _
  | d + 1, f, h2 => by
    have hlt := (List.getElem?_eq_some_iff.mp h2).1
    have hg : L[i + d]? = some (L[i + d]'(by omega)) := List.getElem?_eq_getElem (by omega)
    have a := Hull.dec h h1 d hg
    have b := h.dec1 hg h2
    omega
/-- numbers in lowest terms cost alike -/
theorem low_scale {x y : Int} (hy : 0 < y) : ∃ g : Int, 0 < g ∧ ∀ p : Int × Int, cst p x y = g * cst p (lowA x y) (lowB x y) := by
  refine ⟨(Int.gcd x y : Int), gcdI_pos hy, fun p => ?_⟩
  have h1 : (Int.gcd x y : Int) * (x / (Int.gcd x y : Int)) = x := Int.mul_ediv_cancel' (Int.gcd_dvd_left x y)
  have h2 : (Int.gcd x y : Int) * (y / (Int.gcd x y : Int)) = y := Int.mul_ediv_cancel' (Int.gcd_dvd_right x y)
  unfold cst lowA lowB
  generalize (Int.gcd x y : Int) = g at h1 h2 ⊢
  generalize x / g = u at h1 ⊢
  generalize y / g = v at h2 ⊢
  rw [← h1, ← h2, Int.mul_add, Int.mul_left_comm, Int.mul_left_comm p.2 g u]
theorem low_lt {x y : Int} (hy : 0 < y) {p q : Int × Int} (h : cst p x y < cst q x y) : cst p (lowA x y) (lowB x y) < cst q (lowA x y) (lowB x y) := by
  obtain ⟨g, hg, e⟩ := low_scale (x := x) hy
  rw [e p, e q] at h
  exact Int.lt_of_mul_lt_mul_left h (Int.le_of_lt hg)
/-- where in turn the first comes that costs no more by the piece -/
structure TurnOk (L : List E) (t : Int × Int) (n : Nat) : Prop where
  lt : n < L.length
  bef : ∀ (j : Nat) e, j < n → L[j]? = some e → t.2 < e.t.2
  at_ : n = L.length - 1 ∨ ∀ e, L[n]? = some e → e.t.2 ≤ t.2
/-- an amount below, first way -/
theorem below1 {S : List (Int × Int)} {L : List E} (h : Hull S L) {t : Int × Int} {n : Nat} {e : E} (he : L[n]? = some e) (c : cst t e.x e.y < cst e.t e.x e.y) : ∀ p ∈ S, cst t (lowA e.x e.y) (lowB e.x e.y) < cst p (lowA e.x e.y) (lowB e.x e.y) := fun p hp =>
  low_lt (h.pos e (List.mem_of_getElem? he)).2 (by have := (h.least e (List.mem_of_getElem? he)).2 p hp; omega)
theorem below2 {S : List (Int × Int)} {L : List E} (h : Hull S L) {t : Int × Int} {n : Nat} {e : E} (o : TurnOk L t n) (he : L[n]? = some e) (c : ¬ cst t e.x e.y < cst e.t e.x e.y) (c2 : t.2 < e.t.2) :
    e.t.1 ≤ t.1 ∧ ∀ p ∈ S, cst t (lowA (t.1 - e.t.1 + (e.t.2 - t.2)) (e.t.2 - t.2)) (lowB (t.1 - e.t.1 + (e.t.2 - t.2)) (e.t.2 - t.2)) < cst p (lowA (t.1 - e.t.1 + (e.t.2 - t.2)) (e.t.2 - t.2)) (lowB (t.1 - e.t.1 + (e.t.2 - t.2)) (e.t.2 - t.2)) := by
  have pe := h.pos e (List.mem_of_getElem? he)
  have le := h.least e (List.mem_of_getElem? he)
  have d := cst_sub t e.t e.x e.y
  have hd : 0 < e.t.2 - t.2 := by omega
  have ed : (t.2 - e.t.2) * e.x = - ((e.t.2 - t.2) * e.x) := by rw [← Int.neg_mul]; congr 1; omega
  rw [ed] at d
  have g0 : (e.t.2 - t.2) * e.x ≤ (t.1 - e.t.1) * e.y := by omega
  have g1 : 0 ≤ (e.t.2 - t.2) * e.x := Int.mul_nonneg (by omega) pe.1
  have u0 : 0 ≤ t.1 - e.t.1 := by
    by_cases c9 : 0 ≤ t.1 - e.t.1
    · exact c9
    · have := Int.mul_neg_of_neg_of_pos (show t.1 - e.t.1 < 0 by omega) pe.2
      omega
  refine ⟨by omega, fun p hp => low_lt hd ?_⟩
  have hn : n = L.length - 1 := by
    rcases o.at_ with q | q
    · exact q
    · have := q e he
      omega
  have la := h.last e (by rw [← hn]; exact he) p hp
  -- e costs no more than p there
  have b1 : cst e.t (t.1 - e.t.1 + (e.t.2 - t.2)) (e.t.2 - t.2) ≤ cst p (t.1 - e.t.1 + (e.t.2 - t.2)) (e.t.2 - t.2) := by
    refine beyond pe.2 hd ?_ (le.2 p hp) la
    have e1 : (t.1 - e.t.1 + (e.t.2 - t.2)) * e.y = (t.1 - e.t.1) * e.y + (e.t.2 - t.2) * e.y := by rw [Int.add_mul]
    have e2 : e.x * (e.t.2 - t.2) = (e.t.2 - t.2) * e.x := Int.mul_comm _ _
    have e3 : 0 ≤ (e.t.2 - t.2) * e.y := Int.mul_nonneg (by omega) (Int.le_of_lt pe.2)
    omega
  have d2 := cst_sub t e.t (t.1 - e.t.1 + (e.t.2 - t.2)) (e.t.2 - t.2)
  have e4 : (t.2 - e.t.2) * (t.1 - e.t.1 + (e.t.2 - t.2)) = - ((e.t.2 - t.2) * (t.1 - e.t.1)) - (e.t.2 - t.2) * (e.t.2 - t.2) := by
    rw [show t.2 - e.t.2 = - (e.t.2 - t.2) by omega, Int.neg_mul, Int.mul_add]
    omega
  have e5 : (t.1 - e.t.1) * (e.t.2 - t.2) = (e.t.2 - t.2) * (t.1 - e.t.1) := Int.mul_comm _ _
  have e6 : 0 < (e.t.2 - t.2) * (e.t.2 - t.2) := Int.mul_pos hd hd
  omega
/-- else a mixture, first way -/
theorem mix1 {S : List (Int × Int)} {L : List E} (h : Hull S L) {t : Int × Int} {e : E} (he : L[0]? = some e) (c : ¬ cst t e.x e.y < cst e.t e.x e.y) : e.t.1 ≤ t.1 := by
  obtain ⟨a, b⟩ := h.first e he
  rw [a, b, cst01, cst01] at c
  omega
theorem mix2 {S : List (Int × Int)} {L : List E} (h : Hull S L) {t : Int × Int} {n : Nat} {e b : E} (o : TurnOk L t (n + 1)) (hb : L[n]? = some b) (he : L[n + 1]? = some e) (c : ¬ cst t e.x e.y < cst e.t e.x e.y) (c2 : ¬ t.2 < e.t.2) :
    0 ≤ t.2 - e.t.2 ∧ 0 < b.t.2 - t.2 ∧ (t.2 - e.t.2) * b.t.1 + (b.t.2 - t.2) * e.t.1 ≤ ((t.2 - e.t.2) + (b.t.2 - t.2)) * t.1 ∧ (t.2 - e.t.2) * b.t.2 + (b.t.2 - t.2) * e.t.2 ≤ ((t.2 - e.t.2) + (b.t.2 - t.2)) * t.2 := by
  have hbt := o.bef n b (Nat.lt_succ_self n) hb
  obtain ⟨nx, ny, _⟩ := h.next n b e hb he
  have pe := h.pos e (List.mem_of_getElem? he)
  refine ⟨by omega, by omega, ?_, ?_⟩
  · rw [nx, ny] at c
    have my : 0 < b.t.2 - e.t.2 := by rw [ny] at pe; exact pe.2
    have m1 := meet e.t b.t
    -- c: cost of e at the begin ≤ cost of t
    have f0 : 0 ≤ t.2 - e.t.2 := by omega
    have s0 : 0 ≤ b.t.2 - t.2 := by omega
    generalize hX : e.t.1 - b.t.1 = X at c m1
    generalize hY : b.t.2 - e.t.2 = Y at c m1 my
    generalize hf : t.2 - e.t.2 = f at f0
    generalize hs : b.t.2 - t.2 = s at s0
    have hfs : f + s = Y := by omega
    have c' : cst e.t X Y ≤ cst t X Y := by omega
    have cb : cst b.t X Y ≤ cst t X Y := by omega
    have q1 : f * cst b.t X Y ≤ f * cst t X Y := Int.mul_le_mul_of_nonneg_left cb f0
    have q2 : s * cst e.t X Y ≤ s * cst t X Y := Int.mul_le_mul_of_nonneg_left c' s0
    unfold cst at q1 q2
    -- sum
    have r1 : f * (b.t.1 * Y + b.t.2 * X) = f * b.t.1 * Y + f * b.t.2 * X := by rw [Int.mul_add, Int.mul_assoc, Int.mul_assoc]
    have r2 : s * (e.t.1 * Y + e.t.2 * X) = s * e.t.1 * Y + s * e.t.2 * X := by rw [Int.mul_add, Int.mul_assoc, Int.mul_assoc]
    have r3 : f * (t.1 * Y + t.2 * X) = f * t.1 * Y + f * t.2 * X := by rw [Int.mul_add, Int.mul_assoc, Int.mul_assoc]
    have r4 : s * (t.1 * Y + t.2 * X) = s * t.1 * Y + s * t.2 * X := by rw [Int.mul_add, Int.mul_assoc, Int.mul_assoc]
    -- by the piece equal
    have eqp : f * b.t.2 + s * e.t.2 = f * t.2 + s * t.2 := by
      have b2 : b.t.2 = t.2 + s := by omega
      have e2 : e.t.2 = t.2 - f := by omega
      rw [b2, e2, Int.mul_add, Int.mul_sub, Int.mul_comm s f]
      omega
    have eqx : f * b.t.2 * X + s * e.t.2 * X = f * t.2 * X + s * t.2 * X := by rw [← Int.add_mul, eqp, Int.add_mul]
    have fin : (f * b.t.1 + s * e.t.1) * Y ≤ (f + s) * t.1 * Y := by
      rw [Int.add_mul, Int.add_mul, Int.add_mul]
      omega
    exact Int.le_of_mul_le_mul_right fin my
  · generalize hf : t.2 - e.t.2 = f
    generalize hs : b.t.2 - t.2 = s
    have b2 : b.t.2 = t.2 + s := by omega
    have e2 : e.t.2 = t.2 - f := by omega
    rw [b2, e2, Int.mul_add, Int.mul_sub, Int.mul_comm s f, Int.add_mul]
    omega
end My

set_option Elab.async false
set_option linter.all false
set_option maxRecDepth 100000
set_option maxHeartbeats 4000000
namespace My
open PySem PyProof.Rows L2
structure Bl (mg : Str → Option Value) : Prop where
  isi : mg "isinstance" = none
  int : mg "int" = none
  bool : mg "bool" = none
  tuple : mg "tuple" = none
  list : mg "list" = none
  len : mg "len" = none
  sum : mg "sum" = none
  zip : mg "zip" = none
  range : mg "range" = none
  enum : mg "enumerate" = none
  min : mg "min" = none
  max : mg "max" = none
  all : mg "all" = none
  any : mg "any" = none
  str : mg "str" = none
  sorted : mg "sorted" = none
/-- how the class of an instance is found -/
structure TyC (K : PySem.W.Frag) (C : Addr) : Prop where
  ha : PySem.W.findIn K (.ref C) "__class__" = some (some (.builtin "object.__class__"))
  hn : PySem.W.specialIn K (.builtin "object.__class__") "__get__" = some (some (.builtin "getset_descriptor.__get__"))
  htk : PySem.W.takesIn K (.builtin "object.__class__") = some true
  hm : PySem.W.mroIn K C (.type "object") = some true
theorem TyC.of {K : PySem.W.Frag} {C a dx : Addr} {H : Hp} {fs : List (Str × V)} (t : TyC K C) (c : Cls K C) (e : H a = some (.ins C dx fs)) : TyOf K H (.ref a) (.ref C) := .ins e c t.ha t.hn t.htk t.hm
/-- a def that is called: its promise, how it is found -/
structure Cl (P : Program) (w : World) (K : PySem.W.Frag) (mg : Str → Option Value) (base : Heap) (k : Nat) (nm : Str) (ps : List Str) (sp : Sp) (f : Addr) (fd : FuncData) : Prop where
  ok : FnOk P w K mg base CX0 k f fd ps sp
  bd : Binds K fd ps []
  kp : PySem.W.keepIn K (.ref f) = true
  mg : mg nm = some (.ref f)
/-- a class's __init__ -/
structure Ini (P : Program) (w : World) (K : PySem.W.Frag) (mg : Str → Option Value) (base : Heap) (k : Nat) (C : Addr) (ps : List Str) (sp : Sp) (f : Addr) (fd : FuncData) : Prop where
  ok : FnOk P w K mg base CX0 k f fd ps sp
  bd : Binds K fd ps []
  mkk : Mk K C f
/-- a class's method -/
structure Mtd (P : Program) (w : World) (K : PySem.W.Frag) (mg : Str → Option Value) (base : Heap) (k : Nat) (C : Addr) (m : Str) (ps : List Str) (sp : Sp) (f : Addr) (fd : FuncData) : Prop where
  ok : FnOk P w K mg base CX0 k f fd ps sp
  bd : Binds K fd ps []
  mt : Meth K C m f
abbrev s_is_whole : Stmt := top 5
abbrev s_is_whole_pair : Stmt := top 6
abbrev s_common_divisor : Stmt := top 7
abbrev s_is_amount : Stmt := top 8
abbrev s_is_place : Stmt := top 9
abbrev s_check_book : Stmt := top 10
abbrev s_check_place : Stmt := top 11
abbrev s_lowest_terms : Stmt := top 13
abbrev s_top_of_cost : Stmt := top 14
abbrev s_tops_of_cost : Stmt := top 16
abbrev s_is_weighing : Stmt := top 17
abbrev s_is_mixture : Stmt := top 18
abbrev s_Alone_init : Stmt := inClass (top 24) 0
abbrev s_Alone_shows : Stmt := inClass (top 24) 1
abbrev s_Needless_init : Stmt := inClass (top 25) 0
abbrev s_Needless_shows : Stmt := inClass (top 25) 1
abbrev s_by_falling_piece : Stmt := top 33
abbrev s_least_in_turn : Stmt := top 34
abbrev s_turn_for : Stmt := top 35
abbrev s_amount_below : Stmt := top 36
abbrev s_mixture_for : Stmt := top 37
abbrev s_alone : Stmt := top 38
abbrev s__law_book : Stmt := top 40
abbrev s__law_lowest : Stmt := top 41
abbrev s__law_is_amount : Stmt := top 42
abbrev s__law_cost : Stmt := top 43
abbrev s__law_whole : Stmt := top 44
abbrev s__law_mixture : Stmt := top 45
abbrev s__law_alone : Stmt := top 46
abbrev s__law_needless : Stmt := top 47
abbrev s__law_due : Stmt := top 48
abbrev s__law_right : Stmt := top 49
abbrev s_law : Stmt := top 50
structure Cz where
  (Answer Alone Needless Ranges Under Over Most Endless Dear : Addr)
structure CT (K : PySem.W.Frag) (mg : Str → Option Value) (z : Cz) : Prop where
  mg_Answer : mg "Answer" = some (.ref z.Answer)
  mg_Alone : mg "Alone" = some (.ref z.Alone)
  mg_Needless : mg "Needless" = some (.ref z.Needless)
  mg_Ranges : mg "Ranges" = some (.ref z.Ranges)
  mg_Under : mg "Under" = some (.ref z.Under)
  mg_Over : mg "Over" = some (.ref z.Over)
  mg_Most : mg "Most" = some (.ref z.Most)
  mg_Endless : mg "Endless" = some (.ref z.Endless)
  mg_Dear : mg "Dear" = some (.ref z.Dear)
  cl_Alone : Cls K z.Alone
  ty_Alone : TyC K z.Alone
  no_Alone_amount : NoAttr K z.Alone "amount"
  kit_Alone_Answer : PySem.W.kitOne K (.ref z.Alone) (.ref z.Answer) = some true
  kit_Alone_Alone : PySem.W.kitOne K (.ref z.Alone) (.ref z.Alone) = some true
  kit_Alone_Needless : PySem.W.kitOne K (.ref z.Alone) (.ref z.Needless) = some false
  kit_Alone_Ranges : PySem.W.kitOne K (.ref z.Alone) (.ref z.Ranges) = some false
  kit_Alone_Under : PySem.W.kitOne K (.ref z.Alone) (.ref z.Under) = some false
  kit_Alone_Over : PySem.W.kitOne K (.ref z.Alone) (.ref z.Over) = some false
  kit_Alone_Most : PySem.W.kitOne K (.ref z.Alone) (.ref z.Most) = some false
  kit_Alone_Endless : PySem.W.kitOne K (.ref z.Alone) (.ref z.Endless) = some false
  kit_Alone_Dear : PySem.W.kitOne K (.ref z.Alone) (.ref z.Dear) = some false
  cl_Needless : Cls K z.Needless
  ty_Needless : TyC K z.Needless
  no_Needless_one : NoAttr K z.Needless "one"
  no_Needless_other : NoAttr K z.Needless "other"
  no_Needless_first : NoAttr K z.Needless "first"
  no_Needless_second : NoAttr K z.Needless "second"
  kit_Needless_Answer : PySem.W.kitOne K (.ref z.Needless) (.ref z.Answer) = some true
  kit_Needless_Alone : PySem.W.kitOne K (.ref z.Needless) (.ref z.Alone) = some false
  kit_Needless_Needless : PySem.W.kitOne K (.ref z.Needless) (.ref z.Needless) = some true
  kit_Needless_Ranges : PySem.W.kitOne K (.ref z.Needless) (.ref z.Ranges) = some false
  kit_Needless_Under : PySem.W.kitOne K (.ref z.Needless) (.ref z.Under) = some false
  kit_Needless_Over : PySem.W.kitOne K (.ref z.Needless) (.ref z.Over) = some false
  kit_Needless_Most : PySem.W.kitOne K (.ref z.Needless) (.ref z.Most) = some false
  kit_Needless_Endless : PySem.W.kitOne K (.ref z.Needless) (.ref z.Endless) = some false
  kit_Needless_Dear : PySem.W.kitOne K (.ref z.Needless) (.ref z.Dear) = some false

/-! ### heaps that grow -/
theorem same_new {H : Hp} {p : Addr} (h : H p = none) (o : HO) : Same H (upd H p o) := fun b u q => by rw [upd_ne (ne_of_none q h)]; exact q
/-- values that are tariffs -/
def TarsAt (H : Hp) (vs : List V) (ps : List (Int × Int)) : Prop := Paired (fun v (p : Int × Int) => ∃ r, v = V.ref r ∧ H r = some (.tup [.int p.1, .int p.2])) vs ps
/-- a list of tariffs -/
def BookAt (H : Hp) (a : Addr) (ps : List (Int × Int)) : Prop := ∃ vs, H a = some (.lst vs) ∧ TarsAt H vs ps
theorem TarsAt.same {H H' : Hp} {vs : List V} {ps : List (Int × Int)} (t : TarsAt H vs ps) (e : Same H H') : TarsAt H' vs ps := Paired.mapP t fun v p ⟨r, h1, h2⟩ => ⟨r, h1, e _ _ h2⟩
theorem BookAt.same {H H' : Hp} {a : Addr} {ps : List (Int × Int)} (t : BookAt H a ps) (e : Same H H') : BookAt H' a ps := let ⟨vs, h1, h2⟩ := t; ⟨vs, e _ _ h1, h2.same e⟩
theorem paired_get {α β : Type} {F : α → β → Prop} : ∀ {xs : List α} {ys : List β} {i : Nat} {x : α}, Paired F xs ys → xs[i]? = some x → ∃ y, ys[i]? = some y ∧ F x y
  | _, _, _, _, .nil, e => by simp at e
  | _, _, 0, _, .cons r _, e => by simp at e; subst e; exact ⟨_, rfl, r⟩
  | _, _, i + 1, x, .cons _ t, e => by
    obtain ⟨u, h1, h2⟩ := paired_get (i := i) (x := x) t (by simpa using e)
    exact ⟨u, by simpa using h1, h2⟩
theorem paired_get' {α β : Type} {F : α → β → Prop} : ∀ {xs : List α} {ys : List β} {i : Nat} {y : β}, Paired F xs ys → ys[i]? = some y → ∃ x, xs[i]? = some x ∧ F x y
  | _, _, _, _, .nil, e => by simp at e
  | _, _, 0, _, .cons r _, e => by simp at e; subst e; exact ⟨_, rfl, r⟩
  | _, _, i + 1, x, .cons _ t, e => by
    obtain ⟨u, h1, h2⟩ := paired_get' (i := i) t (by simpa using e)
    exact ⟨u, by simpa using h1, h2⟩
theorem paired_append {α β : Type} {F : α → β → Prop} : ∀ {xs xs' : List α} {ys ys' : List β}, Paired F xs ys → Paired F xs' ys' → Paired F (xs ++ xs') (ys ++ ys')
  | _, _, _, _, .nil, s => s
  | _, _, _, _, .cons r t, s => .cons r (paired_append t s)
theorem TarsAt.len {H : Hp} {vs : List V} {ps : List (Int × Int)} (t : TarsAt H vs ps) : vs.length = ps.length := Paired.length t
theorem TarsAt.rev {H : Hp} : ∀ {vs : List V} {ps : List (Int × Int)}, TarsAt H vs ps → TarsAt H vs.reverse ps.reverse
  | _, _, .nil => .nil
  | _, _, .cons r t => by rw [List.reverse_cons, List.reverse_cons]; exact paired_append (TarsAt.rev t) (.cons r .nil)

theorem Ok1.fit {x : Int} (h : Ok1 x) : Fit x := fit_le (10 ^ 60) (by have h1 := h.1; have h2 := h.2; omega) (by decide +kernel)
theorem small {n : Nat} (h : n ≤ 1000) : n ≤ sizeLine := Nat.le_of_lt (small1000 h)
theorem gcd_fit {a b : Int} (hb : 0 < b) (h : Fit b) : Fit ((Int.gcd a b : Nat) : Int) := h.mono (by have := gcd_le (a := a) hb; omega)
theorem snoc_map {α β : Type} (f : α → β) (l : List α) (i : Nat) (a : α) (h : l[i]? = some a) : (l.take (i + 1)).map f = (l.take i).map f ++ [f a] := by
  rw [List.take_succ, h, List.map_append]; rfl
theorem int_at {ns : List Int} {i : Nat} {v : V} (hi : (ns.map V.int)[i]? = some v) : ∃ t, ns[i]? = some t ∧ v = V.int t := by
  rw [List.getElem?_map] at hi
  cases e : ns[i]? with
  | none => rw [e] at hi; cases hi
  | some t => rw [e] at hi; exact ⟨t, rfl, (Option.some.inj hi).symm⟩

local macro_rules | `(tactic| walk_at "fit") => `(tactic| (unfold Fit; decide +kernel))
section
variable {P : Program} {w : World} {K : PySem.W.Frag} {mg : Str → Option Value} {base : Heap} {z : Cz}
/-! ### is_whole -/
def spWhole : Sp := fun vs H Q _ => ∃ i, vs = [.int i] ∧ Q (.bl (decide (0 ≤ i))) H
theorem sc_is_whole : FnScope ["value"] ["value"] (defScope s_is_whole) := ⟨rfl, rfl, rfl, by decide +kernel, rfl, by decide +kernel, by decide +kernel⟩
theorem ok_is_whole {f : Addr} {fd : FuncData} (F : Fun K "is_whole" "is_whole" s_is_whole f fd) (B : Bl mg) (T : CT K mg z) : FnOk P w K mg base CX0 1 f fd ["value"] spWhole := by
  refine F.ok sc_is_whole (fun vs H Q E h => ?_) (fun cdv A outer s H vs Q E hr h => ?_)
  · obtain ⟨i, rfl, _⟩ := h
    rfl
  · obtain ⟨i, rfl, q⟩ := h
    refine ⟨_, (pss_one (ps_ret (pe_and (pe_callB (isTK K (n := "int")) rfl B.isi boot_isinstance (pa_cons (pv 0) (pa_cons (pe_bltn (v := .ty "int") rfl B.int boot_int rfl) pa_nil))) (pe_and (pe_not (pe_callB (isTK K (n := "bool")) rfl B.isi boot_isinstance (pa_cons (pv 0) (pa_cons (pe_bltn (v := .ty "bool") rfl B.bool boot_bool rfl) pa_nil)))) (pe_one (pe_cmpR op_ge (pv 0) pe_int (nomark _))))))), ?_⟩
    refine ⟨_, rfl, _, _, _, rfl, .int i, kit_refl, _, rfl, iteT ?_⟩
    refine ⟨_, rfl, _, _, _, rfl, .int i, kit_int_bool, _, rfl, _, rfl, iteT ?_⟩
    exact ⟨_, rfl, _, _, rfl, rfl, q⟩
/-! ### is_whole_pair -/
def spPair : Sp := fun vs H Q _ => ∃ a x y, vs = [.ref a] ∧ H a = some (.tup [.int x, .int y]) ∧ Q (.bl (decide (0 ≤ x) && decide (0 ≤ y))) H
theorem sc_is_whole_pair : FnScope ["value"] ["value"] (defScope s_is_whole_pair) := ⟨rfl, rfl, rfl, by decide +kernel, rfl, by decide +kernel, by decide +kernel⟩
theorem ok_is_whole_pair {f : Addr} {fd : FuncData} {f_is_whole : Addr} {d_is_whole : FuncData} (F : Fun K "is_whole_pair" "is_whole_pair" s_is_whole_pair f fd) (B : Bl mg) (T : CT K mg z)
    (c_is_whole : Cl P w K mg base 1 "is_whole" ["value"] spWhole f_is_whole d_is_whole) : FnOk P w K mg base CX0 2 f fd ["value"] spPair := by
  refine F.ok sc_is_whole_pair (fun vs H Q E h => ?_) (fun cdv A outer s H vs Q E hr h => ?_)
  · obtain ⟨a, x, y, rfl, _⟩ := h
    rfl
  · obtain ⟨a, x, y, rfl, ha, q⟩ := h
    refine ⟨_, (pss_one (ps_ret (pe_and (pe_callB (isTK K (n := "tuple")) rfl B.isi boot_isinstance (pa_cons (pv 0) (pa_cons (pe_bltn (v := .ty "tuple") rfl B.tuple boot_tuple rfl) pa_nil))) (pe_and (pe_cmpR op_eq (pe_callB (lenK K) rfl B.len PySem.boot_len (pa_cons (pv 0) pa_nil)) pe_int (nomark _)) (pe_and (pe_call c_is_whole.ok (hr.mono (by decide)) rfl c_is_whole.mg c_is_whole.kp c_is_whole.bd .nil pass0 (pa_cons (pe_ix (ix_tupK K) (pv 0) pe_int (fun _ _ => rfl)) pa_nil)) (pe_one (pe_call c_is_whole.ok (hr.mono (by decide)) rfl c_is_whole.mg c_is_whole.kp c_is_whole.bd .nil pass0 (pa_cons (pe_ix (ix_tupK K) (pv 0) pe_int (fun _ _ => rfl)) pa_nil)))))))), ?_⟩
    refine ⟨_, rfl, _, _, _, rfl, .tup ha, kit_refl, _, rfl, iteT ?_⟩
    refine ⟨_, rfl, a, _, rfl, .inr (SqT.of ha), rfl, _, rfl, iteT ?_⟩
    refine ⟨_, rfl, a, _, 0, _, rfl, rfl, SqT.of ha, rfl, x, rfl, _, rfl, ?_⟩
    by_cases hx : 0 ≤ x
    · rw [decide_eq_true hx] at q ⊢
      refine iteT ?_
      exact ⟨_, rfl, a, _, 1, _, rfl, rfl, SqT.of ha, rfl, y, rfl, q⟩
    · rw [decide_eq_false hx] at q ⊢
      exact iteF q
/-! ### common_divisor -/
def spGcd : Sp := fun vs H Q _ => ∃ a b, vs = [.int a, .int b] ∧ 0 ≤ a ∧ 0 ≤ b ∧ Q (.int (Int.gcd a b : Nat)) H
theorem sc_common_divisor : FnScope ["one", "other", "rest"] ["one", "other"] (defScope s_common_divisor) := ⟨rfl, rfl, rfl, by decide +kernel, rfl, by decide +kernel, by decide +kernel⟩
theorem ok_common_divisor {f : Addr} {fd : FuncData} (F : Fun K "common_divisor" "common_divisor" s_common_divisor f fd) (B : Bl mg) (T : CT K mg z) : FnOk P w K mg base CX0 1 f fd ["one", "other"] spGcd := by
  refine F.ok sc_common_divisor (fun vs H Q E h => ?_) (fun cdv A outer s H vs Q E hr h => ?_)
  · obtain ⟨a, b, rfl, _⟩ := h
    rfl
  · obtain ⟨a, b, rfl, ha, hb, q⟩ := h
    refine ⟨_, (pss_cons (ps_while PassesOwn.never (pt_cmpR op_gt (pv 1) pe_int (nomark _)) (pss_cons (ps_set (i := 2) sc_common_divisor.nd rfl (Or.inl rfl) (pe_op op_mod (pv 0) (pv 1)))
          (pss_cons (ps_set (i := 0) sc_common_divisor.nd rfl (Or.inl rfl) (pv 1))
          (pss_one (ps_set (i := 1) sc_common_divisor.nd rfl (Or.inl rfl) (pv 2))))))
          (pss_one (ps_ret (pv 0)))), ?_⟩
    refine while_by (fun σ H1 => H1 = H ∧ ∃ x y v, σ = [some (.int x), some (.int y), v] ∧ 0 ≤ x ∧ 0 ≤ y ∧ Int.gcd x y = Int.gcd a b)
      (fun σ _ => match σ with | [_, some (.int y), _] => y.toNat | _ => 0) ⟨rfl, a, b, none, rfl, ha, hb, rfl⟩ ?_ ?_
    · rintro σ H1 ⟨rfl, x, y, v, rfl, hx, hy, hg⟩
      refine ⟨_, rfl, _, _, rfl, rfl, _, rfl, ?_⟩
      refine ite2 (fun c => ?_) (fun c => ?_)
      · have c' : (0 : Int) < y := of_decide_eq_true c
        refine ⟨_, rfl, _, rfl, _, _, rfl, rfl, c', _, rfl, _, rfl, ⟨rfl, y, x % y, _, rfl, hy, Int.emod_nonneg _ (by omega), ?_⟩, ?_⟩
        · rw [gcd_step hx c', hg]
        · show (x % y).toNat < y.toNat
          have := Int.emod_lt_of_pos x c'
          omega
      · have c' : ¬ (0 : Int) < y := of_decide_eq_false (Bool.eq_false_iff.mpr c)
        have hy0 : y = 0 := by omega
        subst hy0
        rw [Int.gcd_zero_right] at hg
        refine ⟨_, rfl, ?_⟩
        have e : x = ((Int.gcd a b : Nat) : Int) := by omega
        rw [e]
        exact q
    · rintro σ H1 Q1 Q2 hq ⟨v, e, i, j, e1, e2, c, e3, q⟩
      exact ⟨v, e, i, j, e1, e2, c, e3, hq _ _ q⟩
/-! ### is_amount -/
def spIsAm : Sp := fun vs H Q _ => ∃ a x y, vs = [.ref a] ∧ H a = some (.tup [.int x, .int y]) ∧ 0 ≤ x ∧ 0 < y ∧ Int.gcd x y = 1 ∧ Q (.bl true) H
theorem sc_is_amount : FnScope ["value"] ["value"] (defScope s_is_amount) := ⟨rfl, rfl, rfl, by decide +kernel, rfl, by decide +kernel, by decide +kernel⟩
theorem ok_is_amount {f : Addr} {fd : FuncData} {f_is_whole_pair f_common_divisor : Addr} {d_is_whole_pair d_common_divisor : FuncData} (F : Fun K "is_amount" "is_amount" s_is_amount f fd) (B : Bl mg) (T : CT K mg z)
    (c_is_whole_pair : Cl P w K mg base 2 "is_whole_pair" ["value"] spPair f_is_whole_pair d_is_whole_pair)
    (c_common_divisor : Cl P w K mg base 1 "common_divisor" ["one", "other"] spGcd f_common_divisor d_common_divisor) : FnOk P w K mg base CX0 3 f fd ["value"] spIsAm := by
  refine F.ok sc_is_amount (fun vs H Q E h => ?_) (fun cdv A outer s H vs Q E hr h => ?_)
  · obtain ⟨a, x, y, rfl, _⟩ := h
    rfl
  · obtain ⟨a, x, y, rfl, ha, hx, hy, hg, q⟩ := h
    refine ⟨_, (pss_one (ps_ret (pe_and (pe_call c_is_whole_pair.ok (hr.mono (by decide)) rfl c_is_whole_pair.mg c_is_whole_pair.kp c_is_whole_pair.bd .nil pass0 (pa_cons (pv 0) pa_nil)) (pe_and (pe_cmpR op_gt (pe_ix (ix_tupK K) (pv 0) pe_int (fun _ _ => rfl)) pe_int (nomark _)) (pe_one (pe_cmpR op_eq (pe_call c_common_divisor.ok (hr.mono (by decide)) rfl c_common_divisor.mg c_common_divisor.kp c_common_divisor.bd .nil pass0 (pa_cons (pe_ix (ix_tupK K) (pv 0) pe_int (fun _ _ => rfl)) (pa_cons (pe_ix (ix_tupK K) (pv 0) pe_int (fun _ _ => rfl)) pa_nil))) pe_int (nomark _))))))), ?_⟩
    refine ⟨_, rfl, a, x, y, rfl, ha, _, rfl, ?_⟩
    rw [decide_eq_true hx, decide_eq_true (Int.le_of_lt hy)]
    refine iteT ?_
    refine ⟨_, rfl, a, _, 1, _, rfl, rfl, SqT.of ha, rfl, _, _, rfl, rfl, _, rfl, ?_⟩
    rw [decide_eq_true hy]
    refine iteT ?_
    refine ⟨_, rfl, a, _, 0, _, rfl, rfl, SqT.of ha, rfl, _, rfl, a, _, 1, _, rfl, rfl, SqT.of ha, rfl, x, y, rfl, hx, Int.le_of_lt hy, rfl, ?_⟩
    rw [hg]
    exact q
/-! ### is_place -/
def spIsPlace : Sp := fun vs H Q _ => ∃ a xs k, vs = [.ref a, .int k] ∧ H a = some (.lst xs) ∧ Q (.bl (decide (0 ≤ k) && decide (k < (xs.length : Int)))) H
theorem sc_is_place : FnScope ["book", "value"] ["book", "value"] (defScope s_is_place) := ⟨rfl, rfl, rfl, by decide +kernel, rfl, by decide +kernel, by decide +kernel⟩
theorem ok_is_place {f : Addr} {fd : FuncData} {f_is_whole : Addr} {d_is_whole : FuncData} (F : Fun K "is_place" "is_place" s_is_place f fd) (B : Bl mg) (T : CT K mg z)
    (c_is_whole : Cl P w K mg base 1 "is_whole" ["value"] spWhole f_is_whole d_is_whole) : FnOk P w K mg base CX0 2 f fd ["book", "value"] spIsPlace := by
  refine F.ok sc_is_place (fun vs H Q E h => ?_) (fun cdv A outer s H vs Q E hr h => ?_)
  · obtain ⟨a, xs, k, rfl, _⟩ := h
    rfl
  · obtain ⟨a, xs, k, rfl, ha, q⟩ := h
    refine ⟨_, (pss_one (ps_ret (pe_and (pe_call c_is_whole.ok (hr.mono (by decide)) rfl c_is_whole.mg c_is_whole.kp c_is_whole.bd .nil pass0 (pa_cons (pv 1) pa_nil)) (pe_one (pe_cmpR op_lt (pv 1) (pe_callB (lenK K) rfl B.len PySem.boot_len (pa_cons (pv 0) pa_nil)) (nomark _)))))), ?_⟩
    refine ⟨_, rfl, k, rfl, _, rfl, ?_⟩
    by_cases hx : 0 ≤ k
    · rw [decide_eq_true hx] at q ⊢
      refine iteT ?_
      exact ⟨_, rfl, _, rfl, a, _, rfl, .inl (SqL.of ha), _, _, rfl, rfl, q⟩
    · rw [decide_eq_false hx] at q ⊢
      exact iteF q
/-! ### check_book, check_place, check_amount, check_money -/
def spChBook : Sp := fun vs H Q _ => ∃ a ps, vs = [.ref a] ∧ BookAt H a ps ∧ ps ≠ [] ∧ (∀ p ∈ ps, OkT p) ∧ Q .non H
theorem sc_check_book : FnScope ["book", "tariff"] ["book"] (defScope s_check_book) := ⟨rfl, rfl, rfl, by decide +kernel, rfl, by decide +kernel, by decide +kernel⟩
theorem ok_check_book {f : Addr} {fd : FuncData} {f_is_whole_pair : Addr} {d_is_whole_pair : FuncData} (F : Fun K "check_book" "check_book" s_check_book f fd) (B : Bl mg) (T : CT K mg z)
    (c_is_whole_pair : Cl P w K mg base 2 "is_whole_pair" ["value"] spPair f_is_whole_pair d_is_whole_pair) : FnOk P w K mg base CX0 3 f fd ["book"] spChBook := by
  refine F.ok sc_check_book (fun vs H Q E h => ?_) (fun cdv A outer s H vs Q E hr h => ?_)
  · obtain ⟨a, ps, rfl, _⟩ := h
    rfl
  · obtain ⟨a, ps, rfl, ⟨vs, ha, ht⟩, hne, hok, q⟩ := h
    refine ⟨_, (pss_cons (ps_if (PW.pt (pw_or (pt_not (pt_val (pe_callB (isTK K (n := "list")) rfl B.isi boot_isinstance (pa_cons (pv 0) (pa_cons (pe_bltn (v := .ty "list") rfl B.list boot_list rfl) pa_nil))))) (pw_or1 (pt_cmpR op_eq (pe_callB (lenK K) rfl B.len PySem.boot_len (pa_cons (pv 0) pa_nil)) pe_int (nomark _))))) pss_never pss_nil)
          (pss_one (ps_for PassesOwn.never rfl (pi_listK K rfl (pv 0)) (pg_name (i := 1) sc_check_book.nd rfl (Or.inl rfl))
          (pss_one (ps_if (pt_not (pt_val (pe_call c_is_whole_pair.ok (hr.mono (by decide)) rfl c_is_whole_pair.mg c_is_whole_pair.kp c_is_whole_pair.bd .nil pass0 (pa_cons (pv 1) pa_nil)))) pss_never pss_nil))))), ?_⟩
    refine ⟨_, rfl, _, _, _, rfl, .lst ha, kit_refl, _, rfl, iteF ?_⟩
    have hl : vs.length = ps.length := ht.len
    have hl0 : ¬ V.int (vs.length : Nat) = V.int 0 := fun z => by
      have z := V.int.inj z
      have : ps.length = 0 := by omega
      exact hne (List.eq_nil_of_length_eq_zero this)
    refine ⟨_, rfl, a, _, rfl, .inl (SqL.of ha), rfl, _, rfl, ?_⟩
    rw [decide_eq_false hl0]
    refine iteF ?_
    refine ⟨_, rfl, a, rfl, ⟨_, SqL.of ha⟩, for_list (K := K) (a := a) (xs := vs) (fun i σ H2 => H2 = H ∧ ∃ v, σ = [some (.ref a), v]) ⟨rfl, none, rfl⟩ (fun i σ H2 _ ⟨e, _⟩ => by rw [e]; exact SqL.of ha) ?_ ?_⟩
    · rintro i y σ H2 hi ⟨rfl, v, rfl⟩
      obtain ⟨p, hp, r, rfl, hr'⟩ := paired_get ht hi
      have o := hok p (List.mem_of_getElem? hp)
      refine ⟨_, rfl, r, p.1, p.2, rfl, hr', _, rfl, ?_⟩
      rw [decide_eq_true o.1.1, decide_eq_true o.2.1]
      exact iteF ⟨rfl, _, rfl⟩
    · rintro σ H2 ⟨rfl, v, rfl⟩
      exact q
def spChPlace : Sp := fun vs H Q _ => ∃ a xs k, vs = [.ref a, .int k] ∧ H a = some (.lst xs) ∧ 0 ≤ k ∧ k < (xs.length : Int) ∧ Q .non H
theorem sc_check_place : FnScope ["book", "place"] ["book", "place"] (defScope s_check_place) := ⟨rfl, rfl, rfl, by decide +kernel, rfl, by decide +kernel, by decide +kernel⟩
theorem ok_check_place {f : Addr} {fd : FuncData} {f_is_place : Addr} {d_is_place : FuncData} (F : Fun K "check_place" "check_place" s_check_place f fd) (B : Bl mg) (T : CT K mg z)
    (c_is_place : Cl P w K mg base 2 "is_place" ["book", "value"] spIsPlace f_is_place d_is_place) : FnOk P w K mg base CX0 3 f fd ["book", "place"] spChPlace := by
  refine F.ok sc_check_place (fun vs H Q E h => ?_) (fun cdv A outer s H vs Q E hr h => ?_)
  · obtain ⟨a, xs, k, rfl, _⟩ := h
    rfl
  · obtain ⟨a, xs, k, rfl, ha, h0, h1, q⟩ := h
    refine ⟨_, (pss_one (ps_if (pt_not (pt_val (pe_call c_is_place.ok (hr.mono (by decide)) rfl c_is_place.mg c_is_place.kp c_is_place.bd .nil pass0 (pa_cons (pv 0) (pa_cons (pv 1) pa_nil))))) pss_never pss_nil)), ?_⟩
    refine ⟨_, rfl, _, rfl, a, xs, k, rfl, ha, _, rfl, ?_⟩
    rw [decide_eq_true h0, decide_eq_true h1]
    exact iteF q
/-! ### lowest_terms, top_of_cost, tops_of_cost -/
def spLow : Sp := fun vs H Q _ => ∃ a b, vs = [.int a, .int b] ∧ 0 ≤ a ∧ 0 < b ∧ Fit b ∧ ∀ p, H p = none → Q (.ref p) (upd H p (.tup [.int (lowA a b), .int (lowB a b)]))
theorem sc_lowest_terms : FnScope ["top", "bottom", "divisor"] ["top", "bottom"] (defScope s_lowest_terms) := ⟨rfl, rfl, rfl, by decide +kernel, rfl, by decide +kernel, by decide +kernel⟩
theorem ok_lowest_terms {f : Addr} {fd : FuncData} {f_common_divisor : Addr} {d_common_divisor : FuncData} (F : Fun K "lowest_terms" "lowest_terms" s_lowest_terms f fd) (B : Bl mg) (T : CT K mg z)
    (c_common_divisor : Cl P w K mg base 1 "common_divisor" ["one", "other"] spGcd f_common_divisor d_common_divisor) : FnOk P w K mg base CX0 2 f fd ["top", "bottom"] spLow := by
  refine F.ok sc_lowest_terms (fun vs H Q E h => ?_) (fun cdv A outer s H vs Q E hr h => ?_)
  · obtain ⟨a, b, rfl, _⟩ := h
    rfl
  · obtain ⟨a, b, rfl, ha, hb, fb, q⟩ := h
    refine ⟨_, (pss_cons (ps_set (i := 2) sc_lowest_terms.nd rfl (Or.inl rfl) (pe_call c_common_divisor.ok (hr.mono (by decide)) rfl c_common_divisor.mg c_common_divisor.kp c_common_divisor.bd .nil pass0 (pa_cons (pv 0) (pa_cons (pv 1) pa_nil))))
          (pss_one (ps_ret (pe_tup (pa_cons (pe_op op_fdivF (pv 0) (pv 2)) (pa_cons (pe_op op_fdivF (pv 1) (pv 2)) pa_nil)))))), ?_⟩
    have gp := gcdI_pos (a := a) hb
    have gf := gcd_fit (a := a) hb fb
    refine ⟨_, rfl, _, rfl, a, b, rfl, ha, Int.le_of_lt hb, ?_⟩
    refine ⟨_, rfl, _, rfl, _, _, rfl, rfl, ⟨gp, gf⟩, _, rfl, _, rfl, _, _, rfl, rfl, ⟨gp, gf⟩, two_le, q⟩
def spTop : Sp := fun vs H Q _ => ∃ t m a b x y, vs = [.ref t, .ref m] ∧ H t = some (.tup [.int a, .int b]) ∧ H m = some (.tup [.int x, .int y]) ∧ Fit a ∧ Fit b ∧ Fit x ∧ Fit y ∧ Q (.int (cst (a, b) x y)) H
theorem sc_top_of_cost : FnScope ["tariff", "amount"] ["tariff", "amount"] (defScope s_top_of_cost) := ⟨rfl, rfl, rfl, by decide +kernel, rfl, by decide +kernel, by decide +kernel⟩
theorem ok_top_of_cost {f : Addr} {fd : FuncData} (F : Fun K "top_of_cost" "top_of_cost" s_top_of_cost f fd) (B : Bl mg) (T : CT K mg z) : FnOk P w K mg base CX0 1 f fd ["tariff", "amount"] spTop := by
  refine F.ok sc_top_of_cost (fun vs H Q E h => ?_) (fun cdv A outer s H vs Q E hr h => ?_)
  · obtain ⟨t, m, a, b, x, y, rfl, _⟩ := h
    rfl
  · obtain ⟨t, m, a, b, x, y, rfl, ht, hm, fa, fb, fx, fy, q⟩ := h
    refine ⟨_, (pss_one (ps_ret (pe_op op_add (pe_op op_mulF (pe_ix (ix_tupK K) (pv 0) pe_int (fun _ _ => rfl)) (pe_ix (ix_tupK K) (pv 1) pe_int (fun _ _ => rfl))) (pe_op op_mulF (pe_ix (ix_tupK K) (pv 0) pe_int (fun _ _ => rfl)) (pe_ix (ix_tupK K) (pv 1) pe_int (fun _ _ => rfl)))))), ?_⟩
    refine ⟨_, rfl, t, _, 0, _, rfl, rfl, SqT.of ht, rfl, _, rfl, m, _, 1, _, rfl, rfl, SqT.of hm, rfl, _, _, rfl, rfl, ⟨fa, fy⟩, ?_⟩
    refine ⟨_, rfl, t, _, 1, _, rfl, rfl, SqT.of ht, rfl, _, rfl, m, _, 0, _, rfl, rfl, SqT.of hm, rfl, _, _, rfl, rfl, ⟨fb, fx⟩, ?_⟩
    exact ⟨_, _, rfl, rfl, q⟩
def costs (ps : List (Int × Int)) (x y : Int) : List Int := ps.map fun p => cst p x y
def spTops : Sp := fun vs H Q _ => ∃ b m ps x y, vs = [.ref b, .ref m] ∧ BookAt H b ps ∧ ps.length ≤ 1000 ∧ (∀ p ∈ ps, OkT p) ∧ H m = some (.tup [.int x, .int y]) ∧ OkA x y ∧
  ∀ r, H r = none → Q (.ref r) (upd H r (.lst ((costs ps x y).map V.int)))
theorem sc_tops_of_cost : FnScope ["book", "amount"] ["book", "amount"] (defScope s_tops_of_cost) := ⟨rfl, rfl, rfl, by decide +kernel, rfl, by decide +kernel, by decide +kernel⟩
theorem ok_tops_of_cost {f : Addr} {fd : FuncData} {f_top_of_cost : Addr} {d_top_of_cost : FuncData} (F : Fun K "tops_of_cost" "tops_of_cost" s_tops_of_cost f fd) (B : Bl mg) (T : CT K mg z)
    (c_top_of_cost : Cl P w K mg base 1 "top_of_cost" ["tariff", "amount"] spTop f_top_of_cost d_top_of_cost) : FnOk P w K mg base CX0 2 f fd ["book", "amount"] spTops := by
  refine F.ok sc_tops_of_cost (fun vs H Q E h => ?_) (fun cdv A outer s H vs Q E hr h => ?_)
  · obtain ⟨b, m, ps, x, y, rfl, _⟩ := h
    rfl
  · obtain ⟨b, m, ps, x, y, rfl, hB, hln, hok, hm, am, q⟩ := h
    refine ⟨_, (pss_one (ps_ret (pe_comp (N' := ["tariff", "amount"]) (k := 1) (js := [1]) ⟨rfl, by decide +kernel, by decide +kernel, by rfl, by rfl, rfl⟩ rfl (pi_listK K rfl (pv 0))
            (fun _ _ _ _ _ => (pg_name (i := 0) (show (["tariff", "amount"] : List Str).Nodup by decide +kernel) rfl (Or.inl rfl))) (go_name (by decide)) (fun _ _ _ _ _ => pts_nil)
            (fun _ _ _ _ _ => (pe_call c_top_of_cost.ok (hr.mono (by decide)) rfl c_top_of_cost.mg c_top_of_cost.kp c_top_of_cost.bd .nil pass0 (pa_cons (pv 0) (pa_cons (pv 1) pa_nil))))))), ?_⟩
    obtain ⟨vs, hv, ht⟩ := id hB
    have hlv : vs.length = ps.length := ht.len
    refine ⟨_, rfl, b, rfl, ⟨_, SqL.of hv⟩, comp_list (K := K) (a := b) (xs := vs) (fun i ys H2 => H = H2 ∧ ys = ((costs ps x y).take i).map V.int) ⟨rfl, rfl⟩ (fun i ys H2 hi ⟨e, ey⟩ => ⟨by rw [← e]; exact SqL.of hv, ?_⟩) ?_ ?_⟩
    · rw [ey, List.length_map, List.length_take, costs, List.length_map]
      exact small1000 (by omega)
    · rintro i v ys H2 hi ⟨rfl, rfl⟩
      obtain ⟨p, hp, r, rfl, hr'⟩ := paired_get ht hi
      have op := hok p (List.mem_of_getElem? hp)
      refine nameYes ?_
      refine ⟨_, rfl, _, rfl, r, m, p.1, p.2, x, y, rfl, hr', hm, op.1.fit, op.2.fit, am.x0.fit, am.y0.fit, rfl, ?_⟩
      have e : (costs ps x y)[i]? = some (cst p x y) := by rw [costs, List.getElem?_map, hp]; rfl
      rw [List.take_succ, e, List.map_append]
      rfl
    · rintro ys H2 ⟨rfl, rfl⟩ D hD
      have eall : (costs ps x y).take vs.length = costs ps x y := List.take_of_length_le (by rw [costs, List.length_map]; omega)
      rw [eall]
      exact q D hD
end
end My

set_option Elab.async false
set_option linter.all false
set_option maxRecDepth 100000
set_option maxHeartbeats 4000000
namespace My
open PySem PyProof.Rows L2
theorem fitK {i : Int} (h : i.natAbs < 2 ^ 1024) : Fit i := h
/-! ### tariffs as data -/
def tarD (p : Int × Int) : PyData := .tuple [.int p.1, .int p.2]
theorem tarD_canLay : ∀ ps : List (Int × Int), PyData.canLayAll0 (ps.map tarD) = true
  | [] => rfl
  | p :: ps => by
    rw [List.map_cons, PyData.canLayAll0, tarD_canLay ps]
    simp [tarD, PyData.canLay0, PyData.canLayAll0]
theorem tarD_depth : ∀ ps : List (Int × Int), PyData.depthAll (ps.map tarD) ≤ 1
  | [] => by simp [PyData.depthAll]
  | p :: ps => by
    rw [List.map_cons, PyData.depthAll]
    have := tarD_depth ps
    have e : PyData.depth (tarD p) = 1 := by simp [tarD, PyData.depth, PyData.depthAll]
    omega
theorem book_shaped (ps : List (Int × Int)) : SeqAt.shaped (.list (ps.map tarD)) = true := by
  unfold SeqAt.shaped
  have h := tarD_depth ps
  rw [Bool.and_eq_true]
  refine ⟨by rw [PyData.canLay0]; exact tarD_canLay ps, decide_eq_true ?_⟩
  rw [PyData.depth]
  omega
theorem TarsAt.drs {K : PySem.W.Frag} {H : Hp} : ∀ {vs : List V} {ps : List (Int × Int)}, TarsAt H vs ps → Drs K H vs (ps.map tarD)
  | _, _, .nil => .nil
  | _, _, .cons ⟨r, e, h⟩ t => by
    subst e
    exact .cons (.tup (SqT.of h) (.cons (.int _) (.cons (.int _) .nil))) (TarsAt.drs t)
theorem BookAt.dr {K : PySem.W.Frag} {H : Hp} {a : Addr} {ps : List (Int × Int)} (h : BookAt H a ps) : Dr K H (.ref a) (.list (ps.map tarD)) := by
  obtain ⟨vs, h1, h2⟩ := h
  exact .lst (SqL.of h1) h2.drs

theorem size_at (c : Int) : ∃ z : Int, atI ([.int 9, .int 60, .int (10 ^ (30 : Int).toNat), .int 9] : List V) (c / 7 % 4) = some (.int z) ∧ 0 < z ∧ z ≤ 10 ^ 30 := by
  have h1 := Int.emod_nonneg (c / 7) (show (4 : Int) ≠ 0 by decide)
  have h2 := Int.emod_lt_of_pos (c / 7) (show (0 : Int) < 4 by decide)
  generalize c / 7 % 4 = k at h1 h2
  have : k = 0 ∨ k = 1 ∨ k = 2 ∨ k = 3 := by omega
  rcases this with rfl | rfl | rfl | rfl
  · exact ⟨9, rfl, by decide, by decide⟩
  · exact ⟨60, rfl, by decide, by decide⟩
  · exact ⟨10 ^ 30, rfl, by decide, by decide⟩
  · exact ⟨9, rfl, by decide, by decide⟩
section
variable {P : Program} {w : World} {K : PySem.W.Frag} {mg : Str → Option Value} {base : Heap} {z : Cz}
/-! ### _law_book -/
def spBook (K : PySem.W.Frag) : Sp := fun vs H Q _ => ∃ (a : Addr) (ns : List Int), vs = [.ref a] ∧ SqL K H a (ns.map V.int) ∧ ns.length ≤ 63 ∧
  ∀ (r : Addr) (ps : List (Int × Int)) (H' : Hp), Same H H' → BookAt H' r ps → ps ≠ [] → ps.length ≤ 100 → (∀ p ∈ ps, SmT p) → Q (.ref r) H'
theorem sc__law_book : FnScope ["_law_script", "_law_code", "_law_size", "_law_rests", "_law_found", "_law_many"] ["_law_script"] (defScope s__law_book) := ⟨rfl, rfl, rfl, by decide +kernel, rfl, by decide +kernel, by decide +kernel⟩
theorem ok__law_book {f : Addr} {fd : FuncData} (F : Fun K "_law_book" "_law_book" s__law_book f fd) (B : Bl mg) (T : CT K mg z) : FnOk P w K mg base CX0 1 f fd ["_law_script"] (spBook K) := by
  refine F.ok sc__law_book (fun vs H Q E h => ?_) (fun cdv A outer s H vs Q E hr h => ?_)
  · obtain ⟨a, ns, rfl, _⟩ := h
    rfl
  · obtain ⟨a, ns, rfl, hS, hl, q⟩ := h
    refine ⟨_, (pss_cons (ps_set (i := 1) sc__law_book.nd rfl (Or.inr rfl) (pe_callB (sumK K rfl rfl) rfl B.sum boot_sum (pa_cons (pv 0) pa_nil)))
          (pss_cons (ps_set (i := 2) sc__law_book.nd rfl (Or.inr rfl) (pe_ix (ix_tupK K) (pe_tup (pa_cons pe_int (pa_cons pe_int (pa_cons (pe_op op_pow pe_int pe_int) (pa_cons pe_int pa_nil))))) (pe_op op_mod (pe_op op_fdivF (pv 1) pe_int) pe_int) (fun _ _ => rfl)))
          (pss_cons (ps_setComp (N' := ["_law_cell", "_law_size"]) (k := 1) (js := [2]) (i := 3) ⟨rfl, by decide +kernel, by decide +kernel, by rfl, by rfl, rfl⟩ rfl sc__law_book.nd rfl rfl (pi_listK K rfl (pv 0))
            (fun _ _ _ _ _ => (pg_name (i := 0) (show (["_law_cell", "_law_size"] : List Str).Nodup by decide +kernel) rfl (Or.inl rfl))) (go_name (by decide)) (fun _ _ _ _ _ => pts_nil)
            (fun _ _ _ _ _ => (pe_op op_add (pe_op op_fdivF (pv 0) (pv 1)) (pe_op op_mul (pe_op op_fdivF (pv 0) pe_int) (pe_op op_sub pe_int (pe_op op_mul (pe_op op_mod (pv 0) pe_int) pe_int))))))
          (pss_cons (ps_setComp (N' := ["_law_cell", "_law_rest", "_law_size"]) (k := 2) (js := [2]) (i := 4) ⟨rfl, by decide +kernel, by decide +kernel, by rfl, by rfl, rfl⟩ rfl sc__law_book.nd rfl rfl (pi_zipK K rfl rfl B.zip (pa_cons (pv 0) (pa_cons (pv 3) pa_nil)))
            (fun _ _ _ _ _ => (pg_tupK K (n := 2) rfl rfl (pgs_cons (pg_name (i := 0) (show (["_law_cell", "_law_rest", "_law_size"] : List Str).Nodup by decide +kernel) rfl (Or.inl rfl)) (pgs_cons (pg_name (i := 1) (show (["_law_cell", "_law_rest", "_law_size"] : List Str).Nodup by decide +kernel) rfl (Or.inl rfl)) pgs_nil)))) (go_tup (gos_cons (go_name (by decide)) (gos_cons (go_name (by decide)) gos_nil))) (fun _ _ _ _ _ => pts_nil)
            (fun _ _ _ _ _ => (pe_tup (pa_cons (pe_op op_mod (pv 0) (pv 2)) (pa_cons (pe_op op_mod (pv 1) (pv 2)) pa_nil)))))
          (pss_cons (ps_if (pt_cmpR op_eq (pe_op op_mod (pe_op op_fdivF (pv 1) pe_int) pe_int) pe_int (nomark _)) (pss_cons (ps_set (i := 5) sc__law_book.nd rfl (Or.inr rfl) (pe_op op_add pe_int (pe_op op_mod (pe_op op_fdivF (pv 1) pe_int) pe_int)))
          (pss_one (ps_set (i := 4) sc__law_book.nd rfl (Or.inl rfl) (pe_op (catK K) (pv 4) (pe_comp (N' := ["_law_k", "_law_code", "_law_many"]) (k := 1) (js := [1, 5]) ⟨rfl, by decide +kernel, by decide +kernel, by rfl, by rfl, rfl⟩ rfl (pi_range1 rfl B.range (pa_cons (pv 5) pa_nil))
            (fun _ _ _ _ _ => (pg_name (i := 0) (show (["_law_k", "_law_code", "_law_many"] : List Str).Nodup by decide +kernel) rfl (Or.inl rfl))) (go_name (by decide)) (fun _ _ _ _ _ => pts_nil)
            (fun _ _ _ _ _ => (pe_tup (pa_cons (pe_op op_add (pe_op op_mul (pe_op op_fdivF (pe_op op_mul (pv 0) (pe_op op_add (pv 0) pe_int)) pe_int) (pe_op op_add pe_int (pe_op op_mod (pv 1) pe_int))) (pe_op op_mod (pe_op op_fdivF (pv 1) pe_int) pe_int)) (pa_cons (pe_op op_sub (pv 2) (pv 0)) pa_nil))))))))) pss_nil)
          (pss_one (ps_ret (pe_ifExp (pt_cmpR (neK K rfl hr.units) (pv 4) (pe_lst pa_nil) (nomark _)) (pv 4) (pe_lst (pa_cons (pe_tup (pa_cons (pe_op op_mod (pv 1) pe_int) (pa_cons pe_int pa_nil))) pa_nil)))))))))), ?_⟩
    -- code, size
    refine ⟨_, rfl, a, ns, rfl, hS, ?_⟩
    generalize ns.sum = c
    obtain ⟨z, hz, hz0, hz1⟩ := size_at c
    have hzf : Fit z := fit_le (10 ^ 30) (by omega) (by decide +kernel)
    refine ⟨_, _, rfl, rfl, ⟨by decide, by decide, by decide⟩, (by show 4 ≤ sizeLine; decide), fun p0 hp0 => ?_⟩
    refine ⟨_, rfl, _, _, rfl, rfl, ⟨by decide, fitK (by decide +kernel)⟩, _, _, rfl, rfl, (by show (0 : Int) < 4; decide), p0, _, _, _, rfl, rfl, SqT.of upd_same, hz, ?_⟩
    have s0 := same_new hp0 (.tup [.int 9, .int 60, .int (10 ^ (30 : Int).toNat), .int 9])
    generalize upd H p0 (.tup [.int 9, .int 60, .int (10 ^ (30 : Int).toNat), .int 9]) = H0 at s0 ⊢
    have hS0 := s0.seq hS
    -- rests
    refine ⟨_, rfl, a, rfl, ⟨_, hS0⟩, comp_list (K := K) (a := a) (xs := ns.map V.int) (fun i ys H2 => H0 = H2 ∧ ys = (ns.take i).map fun t => V.int (t / z + t / 7 * (1 - t % 2 * 2))) ⟨rfl, rfl⟩ (fun i ys H2 hi ⟨e, ey⟩ => ⟨by rw [← e]; exact hS0, ?_⟩) ?_ ?_⟩
    · rw [ey, List.length_map, List.length_take]
      exact small1000 (by omega)
    · rintro i v ys H2 hi ⟨rfl, rfl⟩
      obtain ⟨t, ht, rfl⟩ : ∃ t, ns[i]? = some t ∧ v = V.int t := by
        rw [List.getElem?_map] at hi
        cases e : ns[i]? with
        | none => rw [e] at hi; cases hi
        | some t => rw [e] at hi; exact ⟨t, rfl, (Option.some.inj hi).symm⟩
      have h1 := Int.emod_nonneg t (show (2 : Int) ≠ 0 by decide)
      have h2 := Int.emod_lt_of_pos t (show (0 : Int) < 2 by decide)
      refine nameYes ?_
      refine ⟨_, rfl, _, rfl, _, _, rfl, rfl, ⟨hz0, hzf⟩, _, rfl, _, _, rfl, rfl, ⟨by decide, fitK (by decide +kernel)⟩, _, rfl, _, _, rfl, rfl, (by show (0 : Int) < 2; decide), _, _, rfl, rfl, .inr ⟨by decide, by decide⟩, _, _, rfl, rfl, _, _, rfl, rfl, .inr ⟨?_, ?_⟩, _, _, rfl, rfl, rfl, ?_⟩
      · omega
      · omega
      · rw [snoc_map _ ns i t ht]
    · rintro ys H2 ⟨rfl, rfl⟩ D hD
      rw [List.length_map, List.take_length]
      have s1 := same_new hD (.lst (ns.map fun t => V.int (t / z + t / 7 * (1 - t % 2 * 2))))
      generalize eR : (ns.map fun t => V.int (t / z + t / 7 * (1 - t % 2 * 2))) = rs at s1 ⊢
      have hD1 : (upd H0 D (.lst rs)) D = some (.lst rs) := upd_same
      generalize upd H0 D (.lst rs) = H1 at s1 hD1 ⊢
      have hS1 := s1.seq hS0
      -- found
      refine ⟨_, rfl, _, rfl, a, D, rfl, ⟨_, hS1⟩, ⟨_, SqL.of hD1⟩, comp_zip (K := K) (a := a) (b := D) (xs := ns.map V.int) (ys := rs) (by rw [← eR, List.length_map, List.length_map])
        (fun i zs H2 => Same H1 H2 ∧ ∃ ps, TarsAt H2 zs ps ∧ ps.length = i ∧ ∀ p ∈ ps, SmT p) ⟨Same.refl _, [], .nil, rfl, by simp⟩ (fun i zs H2 hi ⟨e, ps, h1, h2, _⟩ => ⟨e.seq hS1, e.seq (SqL.of hD1), ?_⟩) ?_ ?_⟩
      · rw [h1.len, h2]
        rw [List.length_map] at hi
        exact small1000 (by omega)
      · rintro i v v' zs H2 p hi hi' ⟨s2, ps, h1, h2, h3⟩ hp
        obtain ⟨t, ht, rfl⟩ : ∃ t, ns[i]? = some t ∧ v = V.int t := by
          rw [List.getElem?_map] at hi
          cases e : ns[i]? with
          | none => rw [e] at hi; cases hi
          | some t => rw [e] at hi; exact ⟨t, rfl, (Option.some.inj hi).symm⟩
        obtain ⟨t', rfl⟩ : ∃ t', v' = V.int t' := by
          rw [← eR, List.getElem?_map] at hi'
          cases e : ns[i]? with
          | none => rw [e] at hi'; cases hi'
          | some t => rw [e] at hi'; exact ⟨_, (Option.some.inj hi').symm⟩
        refine ⟨p, _, rfl, SqT.of upd_same, rfl, _, _, rfl, _, _, rfl, rfl, yesT ?_⟩
        refine ⟨_, rfl, _, rfl, _, _, rfl, rfl, hz0, _, rfl, _, rfl, _, _, rfl, rfl, hz0, two_le, fun r hr' => ?_⟩
        have s3 := (same_new hp (.tup [.int t, .int t'])).trans (same_new hr' (.tup [.int (t % z), .int (t' % z)]))
        refine ⟨s2.trans s3, ps ++ [(t % z, t' % z)], paired_append (h1.same s3) (.cons ⟨r, rfl, upd_same⟩ .nil), by simp [h2], fun x hx => ?_⟩
        rcases List.mem_append.mp hx with hx | hx
        · exact h3 x hx
        · have e : x = (t % z, t' % z) := by simpa using hx
          subst e
          have a1 := Int.emod_nonneg t (show z ≠ 0 by omega)
          have a2 := Int.emod_lt_of_pos t hz0
          have a3 := Int.emod_nonneg t' (show z ≠ 0 by omega)
          have a4 := Int.emod_lt_of_pos t' hz0
          exact ⟨⟨a1, by show t % z ≤ 10 ^ 40; omega⟩, ⟨a3, by show t' % z ≤ 10 ^ 40; omega⟩⟩
      · rintro zs H2 ⟨s2, ps, h1, h2, h3⟩ D2 hD2
        rw [List.length_map] at h2
        have s3 := same_new hD2 (.lst zs)
        have hB : BookAt (upd H2 D2 (.lst zs)) D2 ps := ⟨zs, upd_same, h1.same s3⟩
        have sA : Same H (upd H2 D2 (.lst zs)) := ((s0.trans s1).trans s2).trans s3
        generalize upd H2 D2 (.lst zs) = H3 at hB sA ⊢
        clear s3 h1 hD2
        refine ⟨_, rfl, _, _, rfl, rfl, ⟨by decide, fitK (by decide +kernel)⟩, _, _, rfl, rfl, (by show (0 : Int) < 11; decide), rfl, _, rfl, ?_⟩
        refine ite2 (fun _ => ?_) (fun _ => ?_)
        · have m1 := Int.emod_nonneg (c / 44) (show (24 : Int) ≠ 0 by decide)
          have m2 := Int.emod_lt_of_pos (c / 44) (show (0 : Int) < 24 by decide)
          refine ⟨_, rfl, _, _, rfl, rfl, ⟨by decide, fitK (by decide +kernel)⟩, _, _, rfl, rfl, (by show (0 : Int) < 24; decide), _, _, rfl, rfl, ?_⟩
          show gName 5 (V.int (1 + c / 44 % 24)) _ _ _
          generalize hM : 1 + c / 44 % 24 = M
          have hM1 : 1 ≤ M := by omega
          have hM2 : M ≤ 24 := by omega
          refine ⟨_, rfl, _, rfl, M, rfl, by omega, by omega, comp_range (lo := 0) (n := M.toNat) (fun i zs' H4 => Same H3 H4 ∧ ∃ ps', TarsAt H4 zs' ps' ∧ ps'.length = i ∧ ∀ p ∈ ps', SmT p) ⟨Same.refl _, [], .nil, rfl, by simp⟩ (fun i zs' H4 hi ⟨_, ps', h1, h2, _⟩ => ?_) ?_ ?_⟩
          · rw [h1.len, h2]
            exact small1000 (by omega)
          · rintro i zs' H4 hi ⟨s4, ps', h1, h2', h3'⟩
            have k1 := Int.emod_nonneg c (show (5 : Int) ≠ 0 by decide)
            have k2 := Int.emod_lt_of_pos c (show (0 : Int) < 5 by decide)
            have k3 := Int.emod_nonneg (c / 7) (show (9 : Int) ≠ 0 by decide)
            have k4 := Int.emod_lt_of_pos (c / 7) (show (0 : Int) < 9 by decide)
            have hi0 : (0 : Int) ≤ 0 + (i : Int) := by omega
            have hi1 : 0 + (i : Int) < 24 := by omega
            have b7 : 0 + (i : Int) ≤ M := by omega
            generalize 0 + (i : Int) = t at hi0 hi1 b7
            have b1 : 0 ≤ t * (t + 1) := Int.mul_nonneg hi0 (by omega)
            have b2 : t * (t + 1) ≤ 24 * 25 := Int.mul_le_mul (by omega) (by omega) (by omega) (by omega)
            have b3 : 0 ≤ t * (t + 1) / 2 := by omega
            have b4 : t * (t + 1) / 2 ≤ 300 := by omega
            have b5 : 0 ≤ t * (t + 1) / 2 * (1 + c % 5) := Int.mul_nonneg b3 (by omega)
            have b6 : t * (t + 1) / 2 * (1 + c % 5) ≤ 300 * 5 := Int.mul_le_mul b4 (by omega) (by omega) (by omega)
            refine nameYes ?_
            refine ⟨_, rfl, _, rfl, _, _, rfl, rfl, _, _, rfl, rfl, .inl ⟨by omega, by omega⟩, _, _, rfl, rfl, ⟨by decide, fitK (by decide +kernel)⟩, _, rfl, _, _, rfl, rfl, (by show (0 : Int) < 5; decide), _, _, rfl, rfl, _, _, rfl, rfl, .inl ⟨by omega, by omega⟩, _, rfl, _, _, rfl, rfl, ⟨by decide, fitK (by decide +kernel)⟩, _, _, rfl, rfl, (by show (0 : Int) < 9; decide), _, _, rfl, rfl,
              _, rfl, _, rfl, _, _, rfl, rfl, two_le, fun r hr' => ?_⟩
            have s5 := same_new hr' (.tup [.int (t * (t + 1) / 2 * (1 + c % 5) + c / 7 % 9), .int (M - t)])
            refine ⟨s4.trans s5, ps' ++ [(t * (t + 1) / 2 * (1 + c % 5) + c / 7 % 9, M - t)], paired_append (h1.same s5) (.cons ⟨r, rfl, upd_same⟩ .nil), by simp [h2'], fun x hx => ?_⟩
            rcases List.mem_append.mp hx with hx | hx
            · exact h3' x hx
            · have e : x = (t * (t + 1) / 2 * (1 + c % 5) + c / 7 % 9, M - t) := by simpa using hx
              subst e
              exact ⟨⟨by show 0 ≤ t * (t + 1) / 2 * (1 + c % 5) + c / 7 % 9; omega, by show t * (t + 1) / 2 * (1 + c % 5) + c / 7 % 9 ≤ 10 ^ 40; omega⟩, ⟨by show 0 ≤ M - t; omega, by show M - t ≤ 10 ^ 40; omega⟩⟩
          · rintro zs' H4 ⟨s4, ps', h1, h2', h3'⟩ D3 hD3
            have s5 := same_new hD3 (.lst zs')
            obtain ⟨ws, w1, w2⟩ := hB
            have w1' := s5 _ _ (s4 _ _ w1)
            have lw := w2.len
            have lz := h1.len
            refine ⟨D2, D3, ws, zs', rfl, rfl, SqL.of w1', SqL.of upd_same, small (by omega), fun r hr' => ?_⟩
            have s6 := same_new hr' (.lst (ws ++ zs'))
            have s36 := (s4.trans s5).trans s6
            have hT : TarsAt (upd (upd H4 D3 (.lst zs')) r (.lst (ws ++ zs'))) (ws ++ zs') (ps ++ ps') := paired_append (w2.same s36) (h1.same (s5.trans s6))
            have hBr : BookAt (upd (upd H4 D3 (.lst zs')) r (.lst (ws ++ zs'))) r (ps ++ ps') := ⟨_, upd_same, hT⟩
            have sF := sA.trans s36
            generalize upd (upd H4 D3 (.lst zs')) r (.lst (ws ++ zs')) = H5 at hBr sF ⊢
            refine ⟨_, rfl, (by show 0 ≤ sizeLine; decide), fun e0 he0 => ?_⟩
            have s7 := same_new he0 (.lst [])
            refine ⟨_, _, (hBr.same s7).dr, .lst (SqL.of upd_same) .nil, book_shaped _, rfl, _, rfl, ?_⟩
            have ne : (ps ++ ps').map tarD ≠ [] := fun z => by
              have h9 : ((ps ++ ps').map tarD).length = 0 := by rw [z]; rfl
              rw [List.length_map, List.length_append] at h9
              omega
            have ev : PyData.eqv (.list ((ps ++ ps').map tarD)) (.list []) = false := by
              rw [PyData.eqv]
              cases e : (ps ++ ps').map tarD with
              | nil => exact absurd e ne
              | cons _ _ => rfl
            rw [ev]
            refine iteT ?_
            refine ⟨_, rfl, q r (ps ++ ps') _ (sF.trans s7) (hBr.same s7) (fun z => ne (by rw [z]; rfl)) (by rw [List.length_append]; omega) fun x hx => ?_⟩
            rcases List.mem_append.mp hx with hx | hx
            · exact h3 x hx
            · exact h3' x hx
        · refine ⟨_, rfl, (by show 0 ≤ sizeLine; decide), fun e0 he0 => ?_⟩
          have s7 := same_new he0 (.lst [])
          refine ⟨_, _, (hB.same s7).dr, .lst (SqL.of upd_same) .nil, book_shaped _, rfl, _, rfl, ?_⟩
          cases ps with
          | nil =>
            refine iteF ?_
            have k1 := Int.emod_nonneg c (show (5 : Int) ≠ 0 by decide)
            have k2 := Int.emod_lt_of_pos c (show (0 : Int) < 5 by decide)
            refine ⟨_, rfl, _, _, rfl, rfl, (by show (0 : Int) < 5; decide), two_le, fun t ht => ⟨(by show 1 ≤ sizeLine; decide), fun r hr' => ?_⟩⟩
            have s8 := same_new ht (.tup [.int (c % 5), .int 3])
            have s9 := same_new hr' (.lst [.ref t])
            refine q r [(c % 5, 3)] _ (((sA.trans s7).trans s8).trans s9) ⟨_, upd_same, .cons ⟨t, rfl, s9 _ _ upd_same⟩ .nil⟩ (by simp) (by simp) fun x hx => ?_
            have e : x = (c % 5, 3) := by simpa using hx
            subst e
            exact ⟨⟨k1, by show c % 5 ≤ 10 ^ 40; omega⟩, ⟨by show (0 : Int) ≤ 3; decide, by show (3 : Int) ≤ 10 ^ 40; decide⟩⟩
          | cons p ps =>
            refine iteT ?_
            exact ⟨_, rfl, q D2 (p :: ps) _ (sA.trans s7) (hB.same s7) (by simp) (by rw [h2]; omega) h3⟩
/-! ### _law_lowest -/
theorem sc__law_lowest : FnScope ["_law_above", "_law_below", "_law_one", "_law_other"] ["_law_above", "_law_below"] (defScope s__law_lowest) := ⟨rfl, rfl, rfl, by decide +kernel, rfl, by decide +kernel, by decide +kernel⟩
theorem ok__law_lowest {f : Addr} {fd : FuncData} (F : Fun K "_law_lowest" "_law_lowest" s__law_lowest f fd) (B : Bl mg) (T : CT K mg z) : FnOk P w K mg base CX0 1 f fd ["_law_above", "_law_below"] spLow := by
  refine F.ok sc__law_lowest (fun vs H Q E h => ?_) (fun cdv A outer s H vs Q E hr h => ?_)
  · obtain ⟨a, b, rfl, _⟩ := h
    rfl
  · obtain ⟨a, b, rfl, ha, hb, fb, q⟩ := h
    refine ⟨_, (pss_cons (ps_par (i := 2) (j := 3) rfl sc__law_lowest.nd rfl rfl (by decide) rfl rfl (pa_cons (pv 0) (pa_cons (pv 1) pa_nil)) (by rfl))
          (pss_cons (ps_while PassesOwn.never (pt_cmpR op_gt (pv 3) pe_int (nomark _)) (pss_one (ps_par (i := 2) (j := 3) rfl sc__law_lowest.nd rfl rfl (by decide) rfl rfl (pa_cons (pv 3) (pa_cons (pe_op op_mod (pv 2) (pv 3)) pa_nil)) (by rfl))))
          (pss_one (ps_ret (pe_tup (pa_cons (pe_op op_fdivF (pv 0) (pv 2)) (pa_cons (pe_op op_fdivF (pv 1) (pv 2)) pa_nil))))))), ?_⟩
    refine ⟨_, rfl, _, rfl, _, _, rfl, ?_⟩
    refine while_by (fun σ H1 => H1 = H ∧ ∃ x y, σ = [some (.int a), some (.int b), some (.int x), some (.int y)] ∧ 0 ≤ x ∧ 0 ≤ y ∧ Int.gcd x y = Int.gcd a b)
      (fun σ _ => match σ with | [_, _, _, some (.int y)] => y.toNat | _ => 0) ⟨rfl, a, b, rfl, ha, Int.le_of_lt hb, rfl⟩ ?_ ?_
    · rintro σ H1 ⟨rfl, x, y, rfl, hx, hy, hg⟩
      refine ⟨_, rfl, _, _, rfl, rfl, _, rfl, ?_⟩
      refine ite2 (fun c => ?_) (fun c => ?_)
      · have c' : (0 : Int) < y := of_decide_eq_true c
        refine ⟨_, rfl, _, rfl, _, rfl, _, _, rfl, rfl, c', _, _, rfl, ⟨rfl, y, x % y, rfl, hy, Int.emod_nonneg _ (by omega), ?_⟩, ?_⟩
        · rw [gcd_step hx c', hg]
        · show (x % y).toNat < y.toNat
          have := Int.emod_lt_of_pos x c'
          omega
      · have c' : ¬ (0 : Int) < y := of_decide_eq_false (Bool.eq_false_iff.mpr c)
        have hy0 : y = 0 := by omega
        subst hy0
        rw [Int.gcd_zero_right] at hg
        have e : x = ((Int.gcd a b : Nat) : Int) := by omega
        subst e
        have gp := gcdI_pos (a := a) hb
        have gf := gcd_fit (a := a) hb fb
        exact ⟨_, rfl, _, rfl, _, _, rfl, rfl, ⟨gp, gf⟩, _, rfl, _, rfl, _, _, rfl, rfl, ⟨gp, gf⟩, two_le, q⟩
    · rintro σ H1 Q1 Q2 hq ⟨v, e, i, j, e1, e2, c, e3, q⟩
      exact ⟨v, e, i, j, e1, e2, c, e3, hq _ _ q⟩

def spLWhole : Sp := fun vs H Q _ => ∃ i, vs = [.int i] ∧ Q (.bl true) H
theorem sc__law_whole : FnScope ["_law_found"] ["_law_found"] (defScope s__law_whole) := ⟨rfl, rfl, rfl, by decide +kernel, rfl, by decide +kernel, by decide +kernel⟩
theorem ok__law_whole {f : Addr} {fd : FuncData} (F : Fun K "_law_whole" "_law_whole" s__law_whole f fd) (B : Bl mg) (T : CT K mg z) : FnOk P w K mg base CX0 1 f fd ["_law_found"] spLWhole := by
  refine F.ok sc__law_whole (fun vs H Q E h => ?_) (fun cdv A outer s H vs Q E hr h => ?_)
  · obtain ⟨i, rfl, _⟩ := h
    rfl
  · obtain ⟨i, rfl, q⟩ := h
    refine ⟨_, (pss_one (ps_ret (pe_and (pe_callB (isTK K (n := "int")) rfl B.isi boot_isinstance (pa_cons (pv 0) (pa_cons (pe_bltn (v := .ty "int") rfl B.int boot_int rfl) pa_nil))) (pe_one (pe_not (pe_callB (isTK K (n := "bool")) rfl B.isi boot_isinstance (pa_cons (pv 0) (pa_cons (pe_bltn (v := .ty "bool") rfl B.bool boot_bool rfl) pa_nil)))))))), ?_⟩
    refine ⟨_, rfl, _, _, _, rfl, .int i, kit_refl, _, rfl, iteT ?_⟩
    exact ⟨_, rfl, _, _, _, rfl, .int i, kit_int_bool, _, rfl, q⟩
/-- an amount is one -/
def spLIsAm : Sp := fun vs H Q _ => ∃ a x y, vs = [.ref a] ∧ H a = some (.tup [.int x, .int y]) ∧ 0 ≤ x ∧ 0 < y ∧ Fit y ∧ Int.gcd x y = 1 ∧ ∀ H', Same H H' → Q (.bl true) H'
theorem sc__law_is_amount : FnScope ["_law_found"] ["_law_found"] (defScope s__law_is_amount) := ⟨rfl, rfl, rfl, by decide +kernel, rfl, by decide +kernel, by decide +kernel⟩
theorem ok__law_is_amount {f : Addr} {fd : FuncData} {f__law_lowest : Addr} {d__law_lowest : FuncData} (F : Fun K "_law_is_amount" "_law_is_amount" s__law_is_amount f fd) (B : Bl mg) (T : CT K mg z)
    (c__law_lowest : Cl P w K mg base 1 "_law_lowest" ["_law_above", "_law_below"] spLow f__law_lowest d__law_lowest) : FnOk P w K mg base CX0 2 f fd ["_law_found"] spLIsAm := by
  refine F.ok sc__law_is_amount (fun vs H Q E h => ?_) (fun cdv A outer s H vs Q E hr h => ?_)
  · obtain ⟨a, x, y, rfl, _⟩ := h
    rfl
  · obtain ⟨a, x, y, rfl, ha, hx, hy, fy, hg, q⟩ := h
    refine ⟨_, (pss_cons (ps_if (PW.pt (pw_or (pt_not (pt_val (pe_callB (isTK K (n := "tuple")) rfl B.isi boot_isinstance (pa_cons (pv 0) (pa_cons (pe_bltn (v := .ty "tuple") rfl B.tuple boot_tuple rfl) pa_nil))))) (pw_or1 (pt_cmpR op_ne (pe_callB (lenK K) rfl B.len PySem.boot_len (pa_cons (pv 0) pa_nil)) pe_int (nomark _))))) (pss_one (ps_ret pe_bl)) pss_nil)
          (pss_cons (ps_if (pt_not (pt_val (pe_callB (allK K rfl rfl) rfl B.all boot_all (pa_cons (pe_comp (N' := ["_law_one"]) (k := 1) (js := []) ⟨rfl, by decide +kernel, by decide +kernel, by rfl, by rfl, rfl⟩ rfl (pi_tupK K rfl (pv 0))
            (fun _ _ _ _ _ => (pg_name (i := 0) (show (["_law_one"] : List Str).Nodup by decide +kernel) rfl (Or.inl rfl))) (go_name (by decide)) (fun _ _ _ _ _ => pts_nil)
            (fun _ _ _ _ _ => (pe_and (pe_callB (isTK K (n := "int")) rfl B.isi boot_isinstance (pa_cons (pv 0) (pa_cons (pe_bltn (v := .ty "int") rfl B.int boot_int rfl) pa_nil))) (pe_one (pe_not (pe_callB (isTK K (n := "bool")) rfl B.isi boot_isinstance (pa_cons (pv 0) (pa_cons (pe_bltn (v := .ty "bool") rfl B.bool boot_bool rfl) pa_nil)))))))) pa_nil)))) (pss_one (ps_ret pe_bl)) pss_nil)
          (pss_one (ps_ret (pe_and (pe_cmpR op_ge (pe_ix (ix_tupK K) (pv 0) pe_int (fun _ _ => rfl)) pe_int (nomark _)) (pe_and (pe_cmpR op_gt (pe_ix (ix_tupK K) (pv 0) pe_int (fun _ _ => rfl)) pe_int (nomark _)) (pe_one (pe_cmpR (eqK K rfl hr.units) (pe_call c__law_lowest.ok (hr.mono (by decide)) rfl c__law_lowest.mg c__law_lowest.kp c__law_lowest.bd .nil pass0 (pa_cons (pe_ix (ix_tupK K) (pv 0) pe_int (fun _ _ => rfl)) (pa_cons (pe_ix (ix_tupK K) (pv 0) pe_int (fun _ _ => rfl)) pa_nil))) (pv 0) (nomark _))))))))), ?_⟩
    refine ⟨_, rfl, _, _, _, rfl, .tup ha, kit_refl, _, rfl, iteF ?_⟩
    refine ⟨_, rfl, a, _, rfl, .inr (SqT.of ha), rfl, _, rfl, iteF ?_⟩
    refine ⟨_, rfl, a, rfl, ⟨_, SqT.of ha⟩, comp_tup (K := K) (a := a) (xs := [.int x, .int y]) (fun i ys H2 => H = H2 ∧ i ≤ 2 ∧ ys = List.replicate i (.bl true)) ⟨rfl, by decide, rfl⟩ (fun i ys H2 hi ⟨e, ei, ey⟩ => ⟨by rw [← e]; exact SqT.of ha, ?_⟩) ?_ ?_⟩
    · rw [ey, List.length_replicate]
      exact small1000 (by omega)
    · rintro i v ys H2 hi ⟨rfl, ei, rfl⟩
      obtain ⟨z, rfl⟩ : ∃ z, v = V.int z := by
        have := List.mem_of_getElem? hi
        simp only [List.mem_cons, List.not_mem_nil, or_false] at this
        rcases this with rfl | rfl
        · exact ⟨_, rfl⟩
        · exact ⟨_, rfl⟩
      have hlt := (List.getElem?_eq_some_iff.mp hi).1
      have hlt : i < 2 := hlt
      refine nameYes ?_
      refine ⟨_, rfl, _, _, _, rfl, .int z, kit_refl, _, rfl, iteT ?_⟩
      refine ⟨_, rfl, _, _, _, rfl, .int z, kit_int_bool, _, rfl, rfl, by omega, ?_⟩
      rw [List.replicate_succ']
      rfl
    · rintro ys H2 ⟨rfl, _, rfl⟩ D hD
      have s1 : Same H (upd H D (.lst (List.replicate 2 (.bl true)))) := same_new hD _
      refine ⟨D, [true, true], rfl, SqL.of upd_same, _, rfl, iteF ?_⟩
      have ha' := s1 _ _ ha
      refine ⟨_, rfl, a, _, 0, _, rfl, rfl, SqT.of ha', rfl, _, _, rfl, rfl, _, rfl, ?_⟩
      rw [decide_eq_true hx]
      refine iteT ?_
      refine ⟨_, rfl, a, _, 1, _, rfl, rfl, SqT.of ha', rfl, _, _, rfl, rfl, _, rfl, ?_⟩
      rw [decide_eq_true hy]
      refine iteT ?_
      refine ⟨_, rfl, a, _, 0, _, rfl, rfl, SqT.of ha', rfl, _, rfl, a, _, 1, _, rfl, rfl, SqT.of ha', rfl, x, y, rfl, hx, hy, fy, fun p hp => ?_⟩
      have s2 := same_new hp (.tup [.int (lowA x y), .int (lowB x y)])
      rw [lowA_self hg, lowB_self hg] at s2 ⊢
      refine ⟨_, rfl, .tuple [.int x, .int y], .tuple [.int x, .int y], .tup (SqT.of upd_same) (.cons (.int x) (.cons (.int y) .nil)), .tup (SqT.of (s2 _ _ ha')) (.cons (.int x) (.cons (.int y) .nil)), rfl, rfl, ?_⟩
      have e : PyData.eqv (.tuple [.int x, .int y]) (.tuple [.int x, .int y]) = true := SeqAt.eqv_refl _ rfl
      rw [e]
      exact q _ (s1.trans s2)
theorem sc__law_cost : FnScope ["_law_tariff", "_law_amount"] ["_law_tariff", "_law_amount"] (defScope s__law_cost) := ⟨rfl, rfl, rfl, by decide +kernel, rfl, by decide +kernel, by decide +kernel⟩
theorem ok__law_cost {f : Addr} {fd : FuncData} (F : Fun K "_law_cost" "_law_cost" s__law_cost f fd) (B : Bl mg) (T : CT K mg z) : FnOk P w K mg base CX0 1 f fd ["_law_tariff", "_law_amount"] spTop := by
  refine F.ok sc__law_cost (fun vs H Q E h => ?_) (fun cdv A outer s H vs Q E hr h => ?_)
  · obtain ⟨t, m, a, b, x, y, rfl, _⟩ := h
    rfl
  · obtain ⟨t, m, a, b, x, y, rfl, ht, hm, fa, fb, fx, fy, q⟩ := h
    refine ⟨_, (pss_one (ps_ret (pe_op op_add (pe_op op_mulF (pe_ix (ix_tupK K) (pv 0) pe_int (fun _ _ => rfl)) (pe_ix (ix_tupK K) (pv 1) pe_int (fun _ _ => rfl))) (pe_op op_mulF (pe_ix (ix_tupK K) (pv 0) pe_int (fun _ _ => rfl)) (pe_ix (ix_tupK K) (pv 1) pe_int (fun _ _ => rfl)))))), ?_⟩
    refine ⟨_, rfl, t, _, 0, _, rfl, rfl, SqT.of ht, rfl, _, rfl, m, _, 1, _, rfl, rfl, SqT.of hm, rfl, _, _, rfl, rfl, ⟨fa, fy⟩, ?_⟩
    refine ⟨_, rfl, t, _, 1, _, rfl, rfl, SqT.of ht, rfl, _, rfl, m, _, 0, _, rfl, rfl, SqT.of hm, rfl, _, _, rfl, rfl, ⟨fb, fx⟩, ?_⟩
    exact ⟨_, _, rfl, rfl, q⟩
end
end My

set_option Elab.async false
set_option linter.all false
set_option maxRecDepth 100000
set_option maxHeartbeats 4000000
namespace My
open PySem PyProof.Rows L2
/-! ### the table of by_falling_piece -/
def lamPos : Pos := ⟨160, 30, 160, 83⟩
def lamQ : Str := ("by_falling_piece" : Str) ++ ".<locals>." ++ "<lambda>"
def Tab (H : Hp) : Prop := TabOk tabA lamPos lamQ H
def nT : HO → Bool
  | .tbl _ => false
  | _ => true
/-- all but the table is as it was -/
def SameT (H H' : Hp) : Prop := Tab H' ∧ ∀ c o, H c = some o → nT o = true → H' c = some o
theorem SameT.trans {H H1 H2 : Hp} (a : SameT H H1) (b : SameT H1 H2) : SameT H H2 := ⟨b.1, fun c o e n => b.2 c o (a.2 c o e n) n⟩
theorem SameT.then {H H1 H2 : Hp} (a : SameT H H1) (b : Same H1 H2) : SameT H H2 := ⟨a.1.same b, fun c o e n => b c o (a.2 c o e n)⟩
theorem _root_.L2.Same.t {H H' : Hp} (a : Same H H') (t : Tab H) : SameT H H' := ⟨TabOk.same t a, fun c o e _ => a c o e⟩
theorem SameT.of {H H' : Hp} (t : Tab H) (a : SameB tabA H H') (t' : Tab H') : SameT H H' := ⟨t', fun c o e n => a c o (TabOk.ne t e fun ps z => by rw [z] at n; cases n) e⟩
theorem TarsAt.sameT {H H' : Hp} {vs : List V} {ps : List (Int × Int)} (t : TarsAt H vs ps) (e : SameT H H') : TarsAt H' vs ps := Paired.mapP t fun v p ⟨r, h1, h2⟩ => ⟨r, h1, e.2 _ _ h2 rfl⟩
theorem BookAt.sameT {H H' : Hp} {a : Addr} {ps : List (Int × Int)} (t : BookAt H a ps) (e : SameT H H') : BookAt H' a ps := let ⟨vs, h1, h2⟩ := t; ⟨vs, e.2 _ _ h1 rfl, h2.sameT e⟩
def kfOf (ps : List (Int × Int)) (n : Int) : Int × Int × Int := ((ps.getD n.toNat (0, 0)).2, (ps.getD n.toNat (0, 0)).1, n)
/-- the order in which the places come -/
def Falling (ps : List (Int × Int)) (ns : List Int) : Prop := ns.Pairwise fun x y => Srt.lex (kfOf ps x) (kfOf ps y) = false
theorem place_ok {ps : List (Int × Int)} {k : Int} (h0 : 0 ≤ k) (h1 : k < (ps.length : Int)) : ps[k.toNat]? = some (ps.getD k.toNat (0, 0)) := by
  have h : k.toNat < ps.length := by omega
  rw [List.getD_eq_getElem?_getD, List.getElem?_eq_getElem h]
  rfl
theorem three_le : 3 ≤ sizeLine := by decide
section
variable {P : Program} {w : World} {K : PySem.W.Frag} {mg : Str → Option Value} {base : Heap} {z : Cz}
def spFall : Sp := fun vs H Q _ => ∃ (b a : Addr) (ps : List (Int × Int)) (ns : List Int), vs = [.ref b, .ref a] ∧ BookAt H b ps ∧ H a = some (.lst (ns.map V.int)) ∧ ns.length ≤ 1000 ∧ (∀ n ∈ ns, 0 ≤ n ∧ n < (ps.length : Int)) ∧ Tab H ∧
  ∀ (D : Addr) (H' : Hp) (ns' : List Int), SameT H H' → H' D = some (.lst (ns'.map V.int)) → H D = none → ns'.Perm ns → Falling ps ns' → Q (.ref D) H'
theorem sc_by_falling_piece : FnScope ["book", "places"] ["book", "places"] (defScope s_by_falling_piece) := ⟨rfl, rfl, rfl, by decide +kernel, rfl, by decide +kernel, by decide +kernel⟩
theorem ok_by_falling_piece {f : Addr} {fd : FuncData} (F : Fun K "by_falling_piece" "by_falling_piece" s_by_falling_piece f fd) (B : Bl mg) (T : CT K mg z) (lam : LamAt K mg fd.code tabA) : FnOk P w K mg base CX0 1 f fd ["book", "places"] spFall := by
  refine F.okc sc_by_falling_piece (fun vs H Q E h => ?_) (fun cdv A outer s H vs Q E hc hr h => ?_)
  · obtain ⟨b, a, ps, ns, rfl, _⟩ := h
    rfl
  · obtain ⟨b, a, ps, ns, rfl, hB, hl, hn, hok, hT, q⟩ := h
    subst hc
    obtain ⟨vs, hv, ht⟩ := id hB
    refine ⟨_, (pss_one (ps_ret (pe_sortL (x := "place") (y := "book") (j := 0) lam hr rfl B.sorted boot_sorted (pa_cons (pv 1) pa_nil) rfl rfl rfl rfl rfl rfl rfl rfl rfl (by decide) (fun _ _ _ _ => rfl)
      (fun _ _ _ _ _ _ => pe_tup (pa_cons (pe_ix (ix_tupK K) (pe_ix (ix_listK K) (pv 1) (pv 0) (fun _ _ => rfl)) pe_int (fun _ _ => rfl)) (pa_cons (pe_ix (ix_tupK K) (pe_ix (ix_listK K) (pv 1) (pv 0) (fun _ _ => rfl)) pe_int (fun _ _ => rfl)) (pa_cons (pv 0) pa_nil))))))), ?_⟩
    refine ⟨_, rfl, a, ns, _, kfOf ps, rfl, hl, hn, rfl, hT, fun n hns H' sb => ?_, fun D H' ns' sb hT' hD hDn hp ho => q D H' ns' (SameT.of hT sb hT') hD hDn hp ho⟩
    obtain ⟨n0, n1⟩ := hok n hns
    have hp := place_ok n0 n1
    obtain ⟨u, hu, rt, rfl, hrt⟩ := paired_get' ht hp
    have hv' := sb _ _ (hT.ne hv fun _ z => by cases z) hv
    have hrt' := sb _ _ (hT.ne hrt fun _ z => by cases z) hrt
    exact ⟨_, rfl, _, rfl, b, vs, n, _, rfl, rfl, SqL.of hv', atI_of n0 hu, rt, _, 1, _, rfl, rfl, SqT.of hrt', rfl, _, rfl, _, rfl, b, vs, n, _, rfl, rfl, SqL.of hv', atI_of n0 hu, rt, _, 0, _, rfl, rfl, SqT.of hrt', rfl, _, rfl, three_le, fun p hp => ⟨p, rfl, hp, rfl⟩⟩
end
end My

set_option Elab.async false
set_option linter.all false
set_option maxRecDepth 100000
set_option maxHeartbeats 8000000
namespace My
open PySem PyProof.Rows L2
/-! ### least_in_turn -/
abbrev tar (ps : List (Int × Int)) (n : Int) : Int × Int := ps.getD n.toNat (0, 0)
abbrev bxy (e : E) : Int × Int := (e.x, e.y)
abbrev ek (e : E) : V := V.int e.k
theorem atI_last {α : Type} (xs : List α) (v : α) : atI (xs ++ [v]) (-1) = some v := by
  unfold atI
  have e : ixN (xs ++ [v]).length (-1) = some xs.length := by
    unfold ixN
    rw [if_neg (by decide), if_pos (by rw [List.length_append]; show -((xs.length + 1 : Nat) : Int) ≤ -1; omega)]
    congr 1
    rw [List.length_append]
    show (-1 + ((xs.length + 1 : Nat) : Int)).toNat = xs.length
    omega
  rw [e]
  show (xs ++ [v])[xs.length]? = some v
  simp
theorem tars_last {H : Hp} {p : Int × Int} : ∀ {l : List (Int × Int)} {vs : List V}, TarsAt H vs (l ++ [p]) → ∃ vs0 r, vs = vs0 ++ [V.ref r] ∧ TarsAt H vs0 l ∧ H r = some (.tup [.int p.1, .int p.2])
  | [], _, .cons ⟨r, h1, h2⟩ .nil => ⟨[], r, by rw [h1]; rfl, .nil, h2⟩
  | _ :: l, _, .cons x t => by
    obtain ⟨vs0, r, rfl, h1, h2⟩ := tars_last (l := l) t
    exact ⟨_ :: vs0, r, rfl, .cons x h1, h2⟩
theorem tars_put {H : Hp} {a : Addr} {xs : List V} {o : HO} {vs : List V} {ps : List (Int × Int)} (t : TarsAt H vs ps) (h : H a = some (.lst xs)) : TarsAt (upd H a o) vs ps :=
  Paired.mapP t fun v p ⟨r, h1, h2⟩ => ⟨r, h1, by rw [upd_ne (ne_of h2 h (fun z => by cases z))]; exact h2⟩
/-- the two lists, from the stack -/
def StAt (H : Hp) (bA kA : Addr) (st : List E) : Prop := ∃ vs, H bA = some (.lst vs) ∧ TarsAt H vs (st.reverse.map bxy) ∧ H kA = some (.lst (st.reverse.map ek))
theorem stAt_top {H : Hp} {bA kA : Addr} {e : E} {r : List E} (h : StAt H bA kA (e :: r)) : ∃ vs0 rE, H bA = some (.lst (vs0 ++ [.ref rE])) ∧ TarsAt H vs0 (r.reverse.map bxy) ∧ H rE = some (.tup [.int e.x, .int e.y]) ∧ H kA = some (.lst (r.reverse.map ek ++ [.int e.k])) := by
  obtain ⟨vs, h1, h2, h3⟩ := h
  rw [List.reverse_cons, List.map_append] at h2 h3
  obtain ⟨vs0, rE, rfl, h4, h5⟩ := tars_last h2
  exact ⟨vs0, rE, h1, h4, h5, h3⟩
theorem st_push {H : Hp} {bA kA pb : Addr} {st : List E} {us : List V} {e : E} (n : bA ≠ kA) (b1 : H bA = some (.lst us)) (b2 : TarsAt H us (st.reverse.map bxy)) (b3 : H kA = some (.lst (st.reverse.map ek))) (hp : H pb = some (.tup [.int e.x, .int e.y])) :
    StAt (upd (upd H bA (.lst (us ++ [.ref pb]))) kA (.lst (st.reverse.map ek ++ [.int e.k]))) bA kA (e :: st) := by
  have c5 : (upd H bA (.lst (us ++ [.ref pb]))) kA = some (.lst (st.reverse.map ek)) := by rw [upd_ne n.symm]; exact b3
  refine ⟨us ++ [.ref pb], by rw [upd_ne n, upd_same], ?_, ?_⟩
  · rw [List.reverse_cons, List.map_append]
    refine tars_put (tars_put (paired_append b2 (.cons ⟨pb, rfl, hp⟩ .nil)) b1) c5
  · rw [List.reverse_cons, List.map_append, upd_same]
    rfl
theorem Env.small {S : List (Int × Int)} (ok : ∀ p ∈ S, OkT p) : ∀ {st : List E}, Env S st → ∀ e ∈ st, e.x ≤ 10 ^ 60 ∧ e.y ≤ 10 ^ 60
  | _, .nil _, e, he => by cases he
  | _, .one k t h m, e, he => by
    have : e = ⟨k, t, 0, 1⟩ := by simpa using he
    subst this
    exact ⟨show (0 : Int) ≤ 10 ^ 60 by decide, show (1 : Int) ≤ 10 ^ 60 by decide⟩
  | _, .cons k t f r h hy hx le m, e, he => by
    rcases List.mem_cons.mp he with rfl | he
    · have o1 := ok t m
      have o2 := ok f.t (h.least f List.mem_cons_self).1
      obtain ⟨⟨a1, a2⟩, ⟨a3, a4⟩⟩ := o1
      obtain ⟨⟨b1, b2⟩, ⟨b3, b4⟩⟩ := o2
      exact ⟨by show t.1 - f.t.1 ≤ 10 ^ 60; omega, by show f.t.2 - t.2 ≤ 10 ^ 60; omega⟩
    · exact Env.small ok h e he
theorem iteY {c : Bool} {A B : Prop} (h : c = true) (a : A) : if c = true then A else B := by rw [if_pos h]; exact a
theorem iteN {c : Bool} {A B : Prop} (h : c = false) (b : B) : if c = true then A else B := by rw [if_neg (by rw [h]; exact Bool.false_ne_true)]; exact b
theorem by_val {c : TT} {σ : L2.St} {H : Hp} {R : Bool → Hp → Prop} (v : Bool) (H' : Hp) (hc : ∀ R' : Bool → Hp → Prop, R' v H' → c σ H R') (h : R v H') : c σ H R := hc R h
def popC (t : Int × Int) : List E → Bool
  | [] => false
  | e :: _ => decide (cst t e.x e.y ≤ cst e.t e.x e.y)
theorem popC_no {t : Int × Int} : ∀ {st : List E}, ¬ popC t st = true → pops t st = st
  | [], _ => rfl
  | e :: r, h => by
    unfold pops
    rw [if_neg (fun z => h (decide_eq_true z))]
theorem popC_yes {t : Int × Int} : ∀ {st : List E}, popC t st = true → ∃ e r, st = e :: r ∧ pops t st = pops t r
  | [], h => by cases h
  | e :: r, h => ⟨e, r, rfl, by
    show (if cst t e.x e.y ≤ cst e.t e.x e.y then pops t r else e :: r) = _
    rw [if_pos (of_decide_eq_true h)]⟩
/-- the stack behind i places -/
structure StOk (ps : List (Int × Int)) (ns : List Int) (i : Nat) (st : List E) : Prop where
  env : Env ((ns.take i).map (tar ps)) st
  mem : ∀ e ∈ st, e.k ∈ ns.take i ∧ e.t = tar ps e.k
  last : ∀ e r, st = e :: r → ∀ p ∈ (ns.take i).map (tar ps), e.t.2 ≤ p.2
  len : st.length ≤ i
  ne : 0 < i → st ≠ []
theorem fall_le {ps : List (Int × Int)} {x y : Int} (h : Srt.lex (kfOf ps x) (kfOf ps y) = false) : (tar ps y).2 ≤ (tar ps x).2 ∧ ((tar ps y).2 = (tar ps x).2 → (tar ps y).1 ≤ (tar ps x).1) := by
  have h := Srt.lex_not.mp h
  unfold kfOf at h
  unfold tar
  dsimp only at h
  omega
theorem pops_mem {t : Int × Int} : ∀ {st : List E} {e : E}, e ∈ pops t st → e ∈ st
  | [], e, h => h
  | f :: r, e, h => by
    unfold pops at h
    split at h
    · exact List.mem_cons_of_mem _ (pops_mem h)
    · exact h
theorem pops_len {t : Int × Int} : ∀ {st : List E}, (pops t st).length ≤ st.length
  | [] => Nat.le_refl _
  | f :: r => by
    unfold pops
    split
    · exact Nat.le_succ_of_le pops_len
    · exact Nat.le_refl _
theorem StOk.push {ps : List (Int × Int)} {ns : List Int} {i : Nat} {st : List E} {n : Int} (h : StOk ps ns i st) (f : Falling ps ns) (hn : ns[i]? = some n) : StOk ps ns (i + 1) (My.push n (tar ps n) st) := by
  have et : ns.take (i + 1) = ns.take i ++ [n] := by rw [List.take_succ, hn]; rfl
  have ord : ∀ p ∈ (ns.take i).map (tar ps), (tar ps n).2 ≤ p.2 ∧ ((tar ps n).2 = p.2 → (tar ps n).1 ≤ p.1) := fun p hp => by
    obtain ⟨x, hx, rfl⟩ := List.mem_map.mp hp
    obtain ⟨j, hj⟩ := List.getElem?_of_mem hx
    have hji : j < i := by
      have := (List.getElem?_eq_some_iff.mp hj).1
      rw [List.length_take] at this
      omega
    rw [List.getElem?_take_of_lt hji] at hj
    obtain ⟨h1, e1⟩ := List.getElem?_eq_some_iff.mp hj
    obtain ⟨h2, e2⟩ := List.getElem?_eq_some_iff.mp hn
    have q := List.pairwise_iff_getElem.mp f j i h1 h2 hji
    rw [e1, e2] at q
    exact fall_le q
  obtain ⟨e0, r0, q0, q1, q2⟩ := push_top (k := n) (t := tar ps n) (st := st)
  constructor
  · rw [et, List.map_append]
    exact h.env.push n (fun p hp => (ord p hp).1) (fun p hp => (ord p hp).2) h.last
  · intro e he
    rw [et]
    have in1 : ∀ e ∈ pops (tar ps n) st, e.k ∈ ns.take i ++ [n] ∧ e.t = tar ps e.k := fun e he => by
      obtain ⟨a, b⟩ := h.mem e (pops_mem he)
      exact ⟨List.mem_append_left _ a, b⟩
    unfold My.push at he
    cases hp : pops (tar ps n) st with
    | nil =>
      rw [hp] at he
      have : e = ⟨n, tar ps n, 0, 1⟩ := by simpa using he
      subst this
      exact ⟨List.mem_append_right _ (.head _), rfl⟩
    | cons e1 r1 =>
      rw [hp] at he in1
      rcases List.mem_cons.mp he with rfl | he
      · exact ⟨List.mem_append_right _ (.head _), rfl⟩
      · exact in1 e he
  · intro e r q p hp
    rw [q0] at q
    cases q
    rw [q1]
    rw [et, List.map_append] at hp
    rcases List.mem_append.mp hp with hp | hp
    · exact (ord p hp).1
    · have : p = tar ps n := by simpa using hp
      rw [this]
      exact Int.le_refl _
  · have hl := pops_len (t := tar ps n) (st := st)
    have := h.len
    unfold My.push
    cases hp : pops (tar ps n) st with
    | nil => show 1 ≤ i + 1; omega
    | cons e1 r1 =>
      rw [hp] at hl
      show (e1 :: r1).length + 1 ≤ i + 1
      omega
  · intro _ z
    rw [q0] at z
    cases z
theorem Hull.perm {S S' : List (Int × Int)} {L : List E} (h : Hull S L) (p : ∀ x, x ∈ S' ↔ x ∈ S) : Hull S' L :=
  ⟨h.ne, h.first, h.pos, fun e he => ⟨(p _).mpr (h.least e he).1, fun q hq => (h.least e he).2 q ((p _).mp hq)⟩, h.next, fun e he q hq => h.last e he q ((p _).mp hq)⟩
theorem Hull.small {S : List (Int × Int)} {L : List E} (h : Hull S L) (ok : ∀ p ∈ S, OkT p) : ∀ e ∈ L, e.x ≤ 10 ^ 60 ∧ e.y ≤ 10 ^ 60 := fun e he => by
  obtain ⟨i, hi⟩ := List.getElem?_of_mem he
  cases i with
  | zero =>
    obtain ⟨a, b⟩ := h.first e hi
    rw [a, b]
    decide
  | succ i =>
    have hl := (List.getElem?_eq_some_iff.mp hi).1
    have hi' : L[i]? = some (L[i]'(by omega)) := List.getElem?_eq_getElem (by omega)
    obtain ⟨a, b, _⟩ := h.next i _ e hi' hi
    obtain ⟨⟨a1, a2⟩, ⟨a3, a4⟩⟩ := ok e.t (h.least e he).1
    obtain ⟨⟨b1, b2⟩, ⟨b3, b4⟩⟩ := ok _ (h.least _ (List.mem_of_getElem? hi')).1
    omega
section
variable {P : Program} {w : World} {K : PySem.W.Frag} {mg : Str → Option Value} {base : Heap} {z : Cz}
def spTurns : Sp := fun vs H Q _ => ∃ (b a : Addr) (ps : List (Int × Int)) (ns : List Int), vs = [.ref b, .ref a] ∧ BookAt H b ps ∧ (∀ p ∈ ps, OkT p) ∧ H a = some (.lst (ns.map V.int)) ∧ ns.length ≤ 1000 ∧ ns ≠ [] ∧ (∀ n ∈ ns, 0 ≤ n ∧ n < (ps.length : Int)) ∧ Tab H ∧
  ∀ (r bA kA : Addr) (H' : Hp) (L : List E) (us : List V), SameT H H' → H' r = some (.tup [.ref bA, .ref kA]) → H' bA = some (.lst us) → TarsAt H' us (L.map bxy) → H' kA = some (.lst (L.map ek)) → Hull (ns.map (tar ps)) L → (∀ e ∈ L, e.k ∈ ns ∧ e.t = tar ps e.k) → L.length ≤ ns.length →
    H bA = none → H kA = none → Q (.ref r) H'
theorem sc_least_in_turn : FnScope ["book", "places", "begins", "kept", "place", "tariff", "begin", "before"] ["book", "places"] (defScope s_least_in_turn) := ⟨rfl, rfl, rfl, by decide +kernel, rfl, by decide +kernel, by decide +kernel⟩
theorem ok_least_in_turn {f : Addr} {fd : FuncData} {f_top_of_cost f_by_falling_piece : Addr} {d_top_of_cost d_by_falling_piece : FuncData} (F : Fun K "least_in_turn" "least_in_turn" s_least_in_turn f fd) (B : Bl mg) (T : CT K mg z)
    (c_top_of_cost : Cl P w K mg base 1 "top_of_cost" ["tariff", "amount"] spTop f_top_of_cost d_top_of_cost)
    (c_by_falling_piece : Cl P w K mg base 1 "by_falling_piece" ["book", "places"] spFall f_by_falling_piece d_by_falling_piece) : FnOk P w K mg base CX0 2 f fd ["book", "places"] spTurns := by
  refine F.ok sc_least_in_turn (fun vs H Q E h => ?_) (fun cdv A outer s H vs Q E hr h => ?_)
  · obtain ⟨b, a, ps, ns, rfl, _⟩ := h
    rfl
  · obtain ⟨b, a, ps, ns, rfl, hB, hokT, hl, hn, hne, hok, hT, q⟩ := h
    refine ⟨_, (pss_cons (ps_set (i := 2) sc_least_in_turn.nd rfl (Or.inl rfl) (pe_lst pa_nil))
          (pss_cons (ps_set (i := 3) sc_least_in_turn.nd rfl (Or.inl rfl) (pe_lst pa_nil))
          (pss_cons (ps_for PassesOwn.never rfl (pi_listK K rfl (pe_call c_by_falling_piece.ok (hr.mono (by decide)) rfl c_by_falling_piece.mg c_by_falling_piece.kp c_by_falling_piece.bd .nil pass0 (pa_cons (pv 0) (pa_cons (pv 1) pa_nil)))) (pg_name (i := 4) sc_least_in_turn.nd rfl (Or.inl rfl))
          (pss_cons (ps_set (i := 5) sc_least_in_turn.nd rfl (Or.inl rfl) (pe_ix (ix_listK K) (pv 0) (pv 4) (fun _ _ => rfl)))
          (pss_cons (ps_while PassesOwn.never (PW.pt (pw_and (pt_cmpR op_gt (pe_callB (lenK K) rfl B.len PySem.boot_len (pa_cons (pv 3) pa_nil)) pe_int (nomark _)) (pw_and1 (pt_cmpR op_le (pe_call c_top_of_cost.ok (hr.mono (by decide)) rfl c_top_of_cost.mg c_top_of_cost.kp c_top_of_cost.bd .nil pass0 (pa_cons (pv 5) (pa_cons (pe_ix (ix_listK K) (pv 2) (pe_un un_neg pe_int) (fun _ _ => rfl)) pa_nil))) (pe_call c_top_of_cost.ok (hr.mono (by decide)) rfl c_top_of_cost.mg c_top_of_cost.kp c_top_of_cost.bd .nil pass0 (pa_cons (pe_ix (ix_listK K) (pv 0) (pe_ix (ix_listK K) (pv 3) (pe_un un_neg pe_int) (fun _ _ => rfl)) (fun _ _ => rfl)) (pa_cons (pe_ix (ix_listK K) (pv 2) (pe_un un_neg pe_int) (fun _ _ => rfl)) pa_nil))) (nomark _))))) (pss_cons (ps_expr (pe_bm0 PySem.F.plainAttrs_list PySem.F.slot_list_pop PySem.F.type_list_pop mt_pop (pv 2)))
          (pss_one (ps_expr (pe_bm0 PySem.F.plainAttrs_list PySem.F.slot_list_pop PySem.F.type_list_pop mt_pop (pv 3))))))
          (pss_cons (ps_set (i := 6) sc_least_in_turn.nd rfl (Or.inl rfl) (pe_tup (pa_cons pe_int (pa_cons pe_int pa_nil))))
          (pss_cons (ps_if (pt_cmpR op_gt (pe_callB (lenK K) rfl B.len PySem.boot_len (pa_cons (pv 3) pa_nil)) pe_int (nomark _)) (pss_cons (ps_set (i := 7) sc_least_in_turn.nd rfl (Or.inl rfl) (pe_ix (ix_listK K) (pv 0) (pe_ix (ix_listK K) (pv 3) (pe_un un_neg pe_int) (fun _ _ => rfl)) (fun _ _ => rfl)))
          (pss_one (ps_set (i := 6) sc_least_in_turn.nd rfl (Or.inl rfl) (pe_tup (pa_cons (pe_op op_sub (pe_ix (ix_tupK K) (pv 5) pe_int (fun _ _ => rfl)) (pe_ix (ix_tupK K) (pv 7) pe_int (fun _ _ => rfl))) (pa_cons (pe_op op_sub (pe_ix (ix_tupK K) (pv 7) pe_int (fun _ _ => rfl)) (pe_ix (ix_tupK K) (pv 5) pe_int (fun _ _ => rfl))) pa_nil)))))) pss_nil)
          (pss_cons (ps_expr (pe_bm PySem.F.plainAttrs_list PySem.F.slot_list_append PySem.F.type_list_append mt_append (pv 2) (pa_cons (pv 6) pa_nil)))
          (pss_one (ps_expr (pe_bm PySem.F.plainAttrs_list PySem.F.slot_list_append PySem.F.type_list_append mt_append (pv 3) (pa_cons (pv 4) pa_nil))))))))))
          (pss_one (ps_ret (pe_tup (pa_cons (pv 2) (pa_cons (pv 3) pa_nil)))))))), ?_⟩
    refine ⟨Nat.zero_le _, fun bA hbA => ⟨Nat.zero_le _, fun kA hkA => ?_⟩⟩
    have s1 := same_new hbA (.lst [])
    have s2 := same_new hkA (.lst [])
    have s12 := s1.trans s2
    have nbk : bA ≠ kA := fun z => by rw [← z, upd_same] at hkA; cases hkA
    have hkA0 : H kA = none := s1.free hkA
    have eb : (upd (upd H bA (.lst [])) kA (.lst [])) bA = some (.lst []) := by rw [upd_ne nbk, upd_same]
    have ekk : (upd (upd H bA (.lst [])) kA (.lst [])) kA = some (.lst []) := upd_same
    generalize upd (upd H bA (.lst [])) kA (.lst []) = H0 at s12 eb ekk ⊢
    refine ⟨_, rfl, _, rfl, b, a, ps, ns, rfl, hB.same s12, s12 _ _ hl, hn, hok, hT.same s12, fun D H1 ns' sT hD hDn hp hF => ?_⟩
    have lenN := hp.length_eq
    have sA : SameT H H1 := (s12.t hT).trans sT
    have hB1 := hB.sameT sA
    have nD1 : D ≠ bA := fun z => by rw [z, eb] at hDn; cases hDn
    have nD2 : D ≠ kA := fun z => by rw [z, ekk] at hDn; cases hDn
    have eb1 := sT.2 _ _ eb rfl
    have ek1 := sT.2 _ _ ekk rfl
    have inH : ∀ c o, H c = some o → c ∉ [bA, kA] := fun c o e hc => by
      rcases List.mem_cons.mp hc with z | hc
      · exact ne_of_none e hbA z
      · exact ne_of_none e hkA0 (by simpa using hc)
    have Dx : ∀ H2, Ups H1 H2 [bA, kA] → H2 D = some (.lst (ns'.map V.int)) := fun H2 u => u D _ (by simp [nD1, nD2]) hD
    have Bx : ∀ H2, Ups H1 H2 [bA, kA] → ∃ vs, H2 b = some (.lst vs) ∧ TarsAt H2 vs ps := fun H2 u => by
      obtain ⟨vs, h1, h2⟩ := hB
      refine ⟨vs, u _ _ (inH _ _ h1) (sA.2 _ _ h1 rfl), Paired.mapP h2 fun v p ⟨r, e1, e2⟩ => ⟨r, e1, u _ _ (inH _ _ e2) (sA.2 _ _ e2 rfl)⟩⟩
    have Tx : ∀ H2, Ups H1 H2 [bA, kA] → SameT H H2 := fun H2 u => by
      refine ⟨?_, fun c o e n => u c o (inH c o e) (sA.2 c o e n)⟩
      obtain ⟨qs, t1, t2⟩ := sA.1
      refine ⟨qs, u _ _ (fun hc => ?_) t1, ?_⟩
      · rcases List.mem_cons.mp hc with z | hc
        · rw [z, eb1] at t1; cases t1
        · have z : tabA = kA := by simpa using hc
          rw [z, ek1] at t1; cases t1
      · rcases t2 with t2 | ⟨c, t2, t3⟩
        · exact .inl t2
        · refine .inr ⟨c, t2, u _ _ (fun hc => ?_) t3⟩
          rcases List.mem_cons.mp hc with z | hc
          · rw [z, eb1] at t3; cases t3
          · have z : c = kA := by simpa using hc
            rw [z, ek1] at t3; cases t3
    have hok' : ∀ n ∈ ns', 0 ≤ n ∧ n < (ps.length : Int) := fun n hn => hok n (hp.mem_iff.mp hn)
    have okS : ∀ i, ∀ p ∈ (ns'.take i).map (tar ps), OkT p := fun i p hp' => by
      obtain ⟨n, hn', rfl⟩ := List.mem_map.mp hp'
      obtain ⟨h0, h1⟩ := hok' n (List.mem_of_mem_take hn')
      exact hokT _ (List.mem_of_getElem? (place_ok h0 h1))
    refine ⟨D, rfl, ⟨_, SqL.of hD⟩, for_list (K := K) (a := D) (xs := ns'.map V.int) (fun i σ H2 => Ups H1 H2 [bA, kA] ∧ ∃ v4 v5 v6 v7 st, σ = [some (.ref b), some (.ref a), some (.ref bA), some (.ref kA), v4, v5, v6, v7] ∧ StAt H2 bA kA st ∧ StOk ps ns' i st)
      ⟨ups_refl, _, _, _, _, [], rfl, ⟨[], eb1, .nil, ek1⟩, ⟨.nil rfl, fun _ h => (by cases h), fun _ _ h => (by cases h), Nat.le_refl _, fun h => absurd h (Nat.lt_irrefl _)⟩⟩ (fun i σ H2 _ ⟨u, _⟩ => SqL.of (Dx H2 u)) ?_ ?_⟩
    · rintro i v σ H2 hi ⟨u2, v4, v5, v6, v7, st, rfl, hst, sto⟩
      obtain ⟨n, hni, rfl⟩ := int_at hi
      obtain ⟨n0, n1⟩ := hok' n (List.mem_of_getElem? hni)
      have hpl := place_ok n0 n1
      obtain ⟨vs, hv, ht⟩ := Bx H2 u2
      obtain ⟨w0, hw0, rt, rfl, hrt⟩ := paired_get' ht hpl
      have okt : OkT (tar ps n) := hokT _ (List.mem_of_getElem? hpl)
      refine ⟨_, rfl, _, rfl, b, vs, n, _, rfl, rfl, SqL.of hv, atI_of n0 hw0, ?_⟩
      have rtK : ∀ H3, Ups H1 H3 [bA, kA] → H3 rt = some (.tup [.int (tar ps n).1, .int (tar ps n).2]) := fun H3 u3 => by
        obtain ⟨vs3, hv3, ht3⟩ := Bx H3 u3
        obtain ⟨vs', h1, h2⟩ := hB
        have e1 := u3 _ _ (inH _ _ h1) (sA.2 _ _ h1 rfl)
        have e2 := u2 _ _ (inH _ _ h1) (sA.2 _ _ h1 rfl)
        rw [hv] at e2; cases e2
        rw [hv3] at e1; cases e1
        obtain ⟨w1, hw1, r1, e3, hr1⟩ := paired_get' ht3 hpl
        rw [hw0] at hw1; cases hw1
        cases e3
        exact hr1
      -- the while
      refine ⟨fun m σ H3 => ∃ st3, m = st3.length ∧ Ups H1 H3 [bA, kA] ∧ σ = [some (.ref b), some (.ref a), some (.ref bA), some (.ref kA), some (.int n), some (.ref rt), v6, v7] ∧ StAt H3 bA kA st3 ∧ pops (tar ps n) st3 = pops (tar ps n) st ∧ ∀ e ∈ st3, e ∈ st,
        ⟨_, st, rfl, u2, rfl, hst, rfl, fun _ h => h⟩, ?_⟩
      rintro m σ H3 ⟨st3, rfl, u3, rfl, hst3, hpo, hsub⟩
      obtain ⟨vsB, hB3, ht3⟩ := Bx H3 u3
      have hrt3 := rtK H3 u3
      have tops : ∀ e ∈ st, (0 ≤ e.k ∧ e.k < (ps.length : Int)) ∧ e.t = tar ps e.k ∧ OkT e.t ∧ Ok1 e.x ∧ Ok1 e.y := fun e he => by
        obtain ⟨m1, m2⟩ := sto.mem e he
        obtain ⟨x0, y0⟩ := sto.env.pos e he
        obtain ⟨x1, y1⟩ := sto.env.small (okS i) e he
        exact ⟨hok' _ (List.mem_of_mem_take m1), m2, okS i _ (sto.env.least e he).1, ⟨x0, x1⟩, ⟨by omega, y1⟩⟩
      refine by_val (popC (tar ps n) st3) H3 (fun R' hR => ?_) ?_
      · cases st3 with
        | nil =>
          obtain ⟨us, b1, b2, b3⟩ := hst3
          refine ⟨_, rfl, kA, _, rfl, .inl (SqL.of b3), _, _, rfl, rfl, _, rfl, ?_⟩
          exact iteF hR
        | cons e r =>
          obtain ⟨vs0, rE, c1, c2, c3, c4⟩ := stAt_top hst3
          obtain ⟨⟨k0, k1⟩, tk, ot, ox, oy⟩ := tops e (hsub e List.mem_cons_self)
          obtain ⟨wk, hwk, rk, rfl, hrk⟩ := paired_get' ht3 (place_ok k0 k1)
          have hrk' : H3 rk = some (.tup [.int e.t.1, .int e.t.2]) := by rw [tk]; exact hrk
          refine ⟨_, rfl, kA, _, rfl, .inl (SqL.of c4), _, _, rfl, rfl, _, rfl, ?_⟩
          refine iteY (decide_eq_true (show (0 : Int) < ((r.reverse.map ek ++ [V.int e.k]).length : Nat) by rw [List.length_append]; show (0 : Int) < (((r.reverse.map ek).length + 1 : Nat) : Int); omega)) ?_
          refine ⟨_, rfl, _, rfl, _, rfl, bA, _, -1, _, rfl, rfl, SqL.of c1, atI_last _ _, rt, rE, _, _, e.x, e.y, rfl, hrt3, c3, okt.1.fit, okt.2.fit, ox.fit, oy.fit, ?_⟩
          refine ⟨_, rfl, _, rfl, _, rfl, kA, _, -1, _, rfl, rfl, SqL.of c4, atI_last _ _, b, vsB, e.k, _, rfl, rfl, SqL.of hB3, atI_of k0 hwk, _, rfl, _, rfl, bA, _, -1, _, rfl, rfl, SqL.of c1, atI_last _ _, rk, rE, _, _, e.x, e.y, rfl, hrk', c3, ot.1.fit, ot.2.fit, ox.fit, oy.fit, ?_⟩
          exact ⟨_, _, rfl, rfl, _, rfl, hR⟩
      · refine ite2 (fun c => ?_) (fun c => ?_)
        · obtain ⟨e, r, rfl, hpr⟩ := popC_yes c
          obtain ⟨vs0, rE, c1, c2, c3, c4⟩ := stAt_top hst3
          refine ⟨fun σ' H' => ∃ st4, st4.length < (e :: r).length ∧ Ups H1 H' [bA, kA] ∧ σ' = [some (.ref b), some (.ref a), some (.ref bA), some (.ref kA), some (.int n), some (.ref rt), v6, v7] ∧ StAt H' bA kA st4 ∧ pops (tar ps n) st4 = pops (tar ps n) st ∧ ∀ e ∈ st4, e ∈ st,
            fun σ' H' ⟨st4, l4, r4⟩ => ⟨_, l4, st4, rfl, r4⟩, ?_⟩
          refine ⟨_, rfl, .inl ⟨rfl, _, SqL.of c1⟩, bA, _, V.ref rE, rfl, rfl, c1, by simp, ?_⟩
          rw [List.dropLast_concat]
          have c5 : (upd H3 bA (.lst vs0)) kA = some (.lst (r.reverse.map ek ++ [.int e.k])) := by rw [upd_ne nbk.symm]; exact c4
          refine ⟨_, rfl, .inl ⟨rfl, _, SqL.of c5⟩, kA, _, V.int e.k, rfl, rfl, c5, by simp, ?_⟩
          rw [List.dropLast_concat]
          refine ⟨r, Nat.lt_succ_self _, (u3.trans (ups_put (.inl (by simp)))).trans (ups_put (.inl (by simp))), rfl, ⟨vs0, ?_, tars_put (tars_put c2 c1) c5, upd_same⟩, hpr.symm.trans hpo, fun e' he' => hsub e' (List.mem_cons_of_mem _ he')⟩
          rw [upd_ne nbk, upd_same]
        · have hps := popC_no c
          rw [hps] at hpo
          -- begin
          refine ⟨two_le, fun p1 hp1 => ?_⟩
          have u4 : Ups H3 (upd H3 p1 (.tup [.int 0, .int 1])) [bA, kA] := ups_put (.inr hp1)
          have n1b : bA ≠ p1 := fun z => by
            obtain ⟨us, b1, _⟩ := hst3
            rw [z, hp1] at b1; cases b1
          have n1k : kA ≠ p1 := fun z => by
            obtain ⟨us, _, _, b3⟩ := hst3
            rw [z, hp1] at b3; cases b3
          have g1 : (upd H3 p1 (.tup [.int 0, .int 1])) p1 = some (.tup [.int 0, .int 1]) := upd_same
          have hst4 : StAt (upd H3 p1 (.tup [.int 0, .int 1])) bA kA st3 := by
            obtain ⟨us, b1, b2, b3⟩ := hst3
            exact ⟨us, by rw [upd_ne n1b]; exact b1, b2.same (same_new hp1 _), by rw [upd_ne n1k]; exact b3⟩
          have s34 := same_new hp1 (.tup [.int 0, .int 1])
          generalize upd H3 p1 (.tup [.int 0, .int 1]) = H4 at u4 g1 hst4 s34 ⊢
          have u04 := u3.trans u4
          have len4 : st3.length ≤ 999 := by
            have h1 := sto.len
            have h2 : i < ns'.length := (List.getElem?_eq_some_iff.mp hni).1
            have h3 := pops_len (t := tar ps n) (st := st)
            rw [← hpo] at h3
            omega
          have room : ∀ {l : List V}, l.length = st3.length → l.length < sizeLine := fun e => small1000 (by omega)
          cases st3 with
          | nil =>
            obtain ⟨us, b1, b2, b3⟩ := hst4
            have e5 := st_push (e := ⟨n, tar ps n, 0, 1⟩) nbk b1 b2 b3 g1
            have hlu : us.length = 0 := by rw [b2.len]; rfl
            refine ⟨_, rfl, kA, _, rfl, .inl (SqL.of b3), _, _, rfl, rfl, _, rfl, iteF ?_⟩
            have b3' : (upd H4 bA (.lst (us ++ [.ref p1]))) kA = some (.lst (([] : List My.E).reverse.map ek)) := by rw [upd_ne nbk.symm]; exact b3
            refine ⟨_, rfl, .inl ⟨rfl, _, SqL.of b1⟩, _, rfl, bA, _, _, rfl, rfl, b1, room hlu, _, rfl, .inl ⟨rfl, _, SqL.of b3'⟩, _, rfl, kA, _, _, rfl, rfl, b3', room rfl, ?_⟩
            refine ⟨(u04.trans (ups_put (.inl (by simp)))).trans (ups_put (.inl (by simp))), _, _, _, _, _, rfl, e5, ?_⟩
            have ep : My.push n (tar ps n) st = [⟨n, tar ps n, 0, 1⟩] := by unfold My.push; rw [← hpo]
            rw [← ep]
            exact sto.push hF hni
          | cons e r =>
            obtain ⟨⟨k0, k1⟩, tk, ot, ox, oy⟩ := tops e (hsub e List.mem_cons_self)
            obtain ⟨vs0, rE, c1, c2, c3, c4⟩ := stAt_top hst4
            obtain ⟨vsC, hC3, ht4⟩ := Bx H4 u04
            obtain ⟨wk, hwk, rk, rfl, hrk⟩ := paired_get' ht4 (place_ok k0 k1)
            have hrk' : H4 rk = some (.tup [.int e.t.1, .int e.t.2]) := by rw [tk]; exact hrk
            have hrt4 := rtK H4 u04
            refine ⟨_, rfl, kA, _, rfl, .inl (SqL.of c4), _, _, rfl, rfl, _, rfl, ?_⟩
            refine iteY (decide_eq_true (show (0 : Int) < ((r.reverse.map ek ++ [V.int e.k]).length : Nat) by rw [List.length_append]; show (0 : Int) < (((r.reverse.map ek).length + 1 : Nat) : Int); omega)) ?_
            refine ⟨_, rfl, _, rfl, _, rfl, kA, _, -1, _, rfl, rfl, SqL.of c4, atI_last _ _, b, vsC, e.k, _, rfl, rfl, SqL.of hC3, atI_of k0 hwk, ?_⟩
            refine ⟨_, rfl, rt, _, 0, _, rfl, rfl, SqT.of hrt4, rfl, _, rfl, rk, _, 0, _, rfl, rfl, SqT.of hrk', rfl, _, _, rfl, rfl, _, rfl, rk, _, 1, _, rfl, rfl, SqT.of hrk', rfl, _, rfl, rt, _, 1, _, rfl, rfl, SqT.of hrt4, rfl, _, _, rfl, rfl, two_le, fun p2 hp2 => ?_⟩
            have s45 := same_new hp2 (.tup [.int ((tar ps n).1 - e.t.1), .int (e.t.2 - (tar ps n).2)])
            have g2 : (upd H4 p2 (.tup [.int ((tar ps n).1 - e.t.1), .int (e.t.2 - (tar ps n).2)])) p2 = some (.tup [.int ((tar ps n).1 - e.t.1), .int (e.t.2 - (tar ps n).2)]) := upd_same
            have u5 : Ups H4 (upd H4 p2 (.tup [.int ((tar ps n).1 - e.t.1), .int (e.t.2 - (tar ps n).2)])) [bA, kA] := ups_put (.inr hp2)
            show (fun H5 => _) (upd H4 p2 (.tup [.int ((tar ps n).1 - e.t.1), .int (e.t.2 - (tar ps n).2)]))
            generalize upd H4 p2 (.tup [.int ((tar ps n).1 - e.t.1), .int (e.t.2 - (tar ps n).2)]) = H5 at s45 g2 u5 ⊢
            obtain ⟨us, b1, b2, b3⟩ := hst4
            have b1' := s45 _ _ b1
            have b2' := b2.same s45
            have b3'' := s45 _ _ b3
            have e5 := st_push (e := ⟨n, tar ps n, (tar ps n).1 - e.t.1, e.t.2 - (tar ps n).2⟩) nbk b1' b2' b3'' g2
            have hlu : us.length = (e :: r).length := by rw [b2.len, List.length_map, List.length_reverse]
            have b3' : (upd H5 bA (.lst (us ++ [.ref p2]))) kA = some (.lst ((e :: r).reverse.map ek)) := by rw [upd_ne nbk.symm]; exact b3''
            refine ⟨_, rfl, .inl ⟨rfl, _, SqL.of b1'⟩, _, rfl, bA, _, _, rfl, rfl, b1', room hlu, _, rfl, .inl ⟨rfl, _, SqL.of b3'⟩, _, rfl, kA, _, _, rfl, rfl, b3', room (by rw [List.length_map, List.length_reverse]), ?_⟩
            refine ⟨((u04.trans u5).trans (ups_put (.inl (by simp)))).trans (ups_put (.inl (by simp))), _, _, _, _, _, rfl, e5, ?_⟩
            have ep : My.push n (tar ps n) st = ⟨n, tar ps n, (tar ps n).1 - e.t.1, e.t.2 - (tar ps n).2⟩ :: e :: r := by unfold My.push; rw [← hpo]
            rw [← ep]
            exact sto.push hF hni
    · rintro σ H2 ⟨u2, v4, v5, v6, v7, st, rfl, hst, sto⟩
      rw [List.length_map] at sto
      refine ⟨_, rfl, _, rfl, two_le, fun r hr' => ?_⟩
      obtain ⟨us, b1, b2, b3⟩ := hst
      have s9 := same_new hr' (.tup [.ref bA, .ref kA])
      have hne' : ns' ≠ [] := fun z => by rw [z] at lenN; simp at lenN; exact hne (List.eq_nil_of_length_eq_zero lenN.symm)
      obtain ⟨e0, r0, q0⟩ : ∃ e0 r0, st = e0 :: r0 := by
        cases st with
        | nil => exact absurd rfl (sto.ne (List.length_pos_iff.mpr hne'))
        | cons e0 r0 => exact ⟨e0, r0, rfl⟩
      have et : ns'.take ns'.length = ns' := List.take_of_length_le (Nat.le_refl _)
      obtain ⟨o1, o2, o3, o4, _⟩ := sto
      rw [et] at o1 o2 o3
      refine q r bA kA _ st.reverse us ((Tx H2 u2).then s9) upd_same (s9 _ _ b1) (b2.same s9) (s9 _ _ b3) ((o1.hull q0 (o3 _ _ q0)).perm fun x => ?_) (fun e he => ?_) (by rw [List.length_reverse]; omega) hbA hkA0
      · rw [List.mem_map, List.mem_map]
        exact ⟨fun ⟨y, h1, h2⟩ => ⟨y, hp.mem_iff.mpr h1, h2⟩, fun ⟨y, h1, h2⟩ => ⟨y, hp.mem_iff.mp h1, h2⟩⟩
      · obtain ⟨a1, a2⟩ := o2 e (List.mem_reverse.mp he)
        exact ⟨hp.mem_iff.mp a1, a2⟩
end
end My

set_option Elab.async false
set_option linter.all false
set_option maxRecDepth 100000
set_option maxHeartbeats 8000000
namespace My
open PySem PyProof.Rows L2
/-! ### helpers -/
/-- the answers so far -/
def Alls (c : Nat → Prop) (i : Nat) (ys : List V) : Prop := ∃ bs : List Bool, ys = bs.map V.bl ∧ bs.length ≤ i ∧ (bs.all id = true ↔ ∀ j, j < i → c j)
theorem alls_nil (c : Nat → Prop) : Alls c 0 [] := ⟨[], rfl, Nat.le_refl _, ⟨fun _ j h => absurd h (Nat.not_lt_zero j), fun _ => rfl⟩⟩
theorem Alls.snoc {c : Nat → Prop} {i : Nat} {ys : List V} {v : Bool} (h : Alls c i ys) (hv : v = true ↔ c i) : Alls c (i + 1) (ys ++ [.bl v]) := by
  obtain ⟨bs, rfl, h1, h2⟩ := h
  refine ⟨bs ++ [v], by rw [List.map_append]; rfl, by rw [List.length_append]; show bs.length + 1 ≤ i + 1; omega, ?_⟩
  rw [List.all_append, Bool.and_eq_true, h2]
  constructor
  · rintro ⟨a, b⟩ j hj
    by_cases e : j = i
    · subst e
      exact hv.mp (by simpa using b)
    · exact a j (by omega)
  · intro a
    exact ⟨fun j hj => a j (by omega), by simpa using hv.mpr (a i (by omega))⟩
theorem Alls.lt {c : Nat → Prop} {i : Nat} {ys : List V} (h : Alls c i ys) (hi : i ≤ 1000) : ys.length < sizeLine := by
  obtain ⟨bs, rfl, h1, _⟩ := h
  rw [List.length_map]
  exact small1000 (by omega)
/-- the same for any -/
def Anys (c : Nat → Prop) (i : Nat) (ys : List V) : Prop := ∃ bs : List Bool, ys = bs.map V.bl ∧ bs.length ≤ i ∧ (bs.any id = false ↔ ∀ j, j < i → c j)
theorem anys_nil (c : Nat → Prop) : Anys c 0 [] := ⟨[], rfl, Nat.le_refl _, ⟨fun _ j h => absurd h (Nat.not_lt_zero j), fun _ => rfl⟩⟩
theorem Anys.snoc {c : Nat → Prop} {i : Nat} {ys : List V} {v : Bool} (h : Anys c i ys) (hv : v = false ↔ c i) : Anys c (i + 1) (ys ++ [.bl v]) := by
  obtain ⟨bs, rfl, h1, h2⟩ := h
  refine ⟨bs ++ [v], by rw [List.map_append]; rfl, by rw [List.length_append]; show bs.length + 1 ≤ i + 1; omega, ?_⟩
  rw [List.any_append, Bool.or_eq_false_iff, h2]
  constructor
  · rintro ⟨a, b⟩ j hj
    by_cases e : j = i
    · subst e
      exact hv.mp (by simpa using b)
    · exact a j (by omega)
  · intro a
    exact ⟨fun j hj => a j (by omega), by simpa using hv.mpr (a i (by omega))⟩
theorem Anys.lt {c : Nat → Prop} {i : Nat} {ys : List V} (h : Anys c i ys) (hi : i ≤ 1000) : ys.length < sizeLine := by
  obtain ⟨bs, rfl, h1, _⟩ := h
  rw [List.length_map]
  exact small1000 (by omega)
theorem atI_n {α : Type} {xs : List α} {i : Nat} {v : α} (h : xs[i]? = some v) : atI xs (i : Int) = some v := atI_of (Int.natCast_nonneg i) (by rw [Int.toNat_natCast]; exact h)
theorem costs_at {ps : List (Int × Int)} {k x y : Int} (h0 : 0 ≤ k) (h1 : k < (ps.length : Int)) : ((costs ps x y).map V.int)[k.toNat]? = some (.int (cst (tar ps k) x y)) := by
  rw [List.getElem?_map, costs, List.getElem?_map, place_ok h0 h1]
  rfl
theorem at_map {α β : Type} {f : α → β} {l : List α} {i : Nat} {b : β} (h : (l.map f)[i]? = some b) : ∃ a, l[i]? = some a ∧ f a = b := by
  rw [List.getElem?_map] at h
  cases e : l[i]? with
  | none => rw [e] at h; cases h
  | some a => rw [e] at h; exact ⟨a, rfl, Option.some.inj h⟩
theorem one_le : 1 ≤ sizeLine := by decide
theorem small1000' {n : Nat} (h : n ≤ 1000) : n ≤ sizeLine := Nat.le_trans h (by decide)
/-- a statement and what follows it, by what holds between them -/
theorem seq_by {t u : TS} {D : Ends} {σ : L2.St} {H : Hp} (R : L2.St → Hp → Prop) (h1 : ∀ D' : Ends, (∀ σ' H', R σ' H' → D'.nx σ' H') → t D' σ H) (h2 : ∀ σ' H', R σ' H' → u D σ' H') : tSeq t u D σ H := h1 { D with nx := u D } h2
theorem SameT.seq {K : PySem.W.Frag} {H H' : Hp} {a : Addr} {xs : List V} (e : SameT H H') (h : SqL K H a xs) : SqL K H' a xs := by
  rcases h with (h | ⟨o, h⟩) | h
  · exact .inl (.inl (e.2 _ _ h rfl))
  · exact .inl (.inr ⟨o, e.2 _ _ h rfl⟩)
  · exact .inr h
end My

set_option Elab.async false
set_option linter.all false
set_option maxRecDepth 100000
set_option maxHeartbeats 8000000
namespace My
open PySem PyProof.Rows L2
/-! ### where in turn -/
def Md1 (x : Int) : Prop := 0 ≤ x ∧ x ≤ 10 ^ 50
def MdT (p : Int × Int) : Prop := Md1 p.1 ∧ Md1 p.2
theorem Md1.ok {x : Int} (h : Md1 x) : Ok1 x := ⟨h.1, by have := h.2; omega⟩
theorem MdT.ok {p : Int × Int} (h : MdT p) : OkT p := ⟨h.1.ok, h.2.ok⟩
theorem fit_md {x : Int} (h : Md1 x) : Fit x := h.ok.fit
theorem fit_md2 {x y : Int} (h : Md1 x) (k : Md1 y) : Fit (x + y) := (show Ok1 (x + y) from ⟨by have := h.1; have := k.1; omega, by have := h.2; have := k.2; omega⟩).fit
theorem four_le : 4 ≤ sizeLine := by decide
theorem Sm1.md {x : Int} (h : Sm1 x) : Md1 x := ⟨h.1, by have := h.2; omega⟩
theorem SmT.md {p : Int × Int} (h : SmT p) : MdT p := ⟨h.1.md, h.2.md⟩
def InB (ps : List (Int × Int)) (L : List E) : Prop := ∀ e ∈ L, (0 ≤ e.k ∧ e.k < (ps.length : Int)) ∧ e.t = tar ps e.k
def Desc (L : List E) : Prop := ∀ (i j : Nat) e f, i ≤ j → L[i]? = some e → L[j]? = some f → f.t.2 ≤ e.t.2
theorem Hull.desc {S : List (Int × Int)} {L : List E} (h : Hull S L) : Desc L := fun i j e f hij h1 h2 => by
  obtain ⟨d, rfl⟩ : ∃ d, j = i + d := ⟨j - i, by omega⟩
  exact h.dec h1 d h2
theorem TurnOk.one {L : List E} {t : Int × Int} {n m : Nat} (a : TurnOk L t n) (b : TurnOk L t m) : n = m := by
  have key : ∀ {n m : Nat}, TurnOk L t n → TurnOk L t m → ¬ n < m := fun {n m} a b h => by
    have e : L[n]? = some (L[n]'a.lt) := List.getElem?_eq_getElem a.lt
    have h1 := b.bef n _ h e
    rcases a.at_ with z | z
    · have := b.lt
      omega
    · have := z _ e
      omega
  have h1 := key a b
  have h2 := key b a
  omega
structure MixOk (ps : List (Int × Int)) (p : Int × Int) (k1 k2 w1 w2 : Int) : Prop where
  in1 : 0 ≤ k1 ∧ k1 < (ps.length : Int)
  in2 : 0 ≤ k2 ∧ k2 < (ps.length : Int)
  n1 : 0 ≤ w1
  n2 : 0 ≤ w2
  pos : 0 < w1 + w2
  once : w1 * (tar ps k1).1 + w2 * (tar ps k2).1 ≤ (w1 + w2) * p.1
  piece : w1 * (tar ps k1).2 + w2 * (tar ps k2).2 ≤ (w1 + w2) * p.2
theorem L_at {L : List E} {i : Nat} {e : E} (h : L[i]? = some e) : (L.map ek)[i]? = some (.int e.k) := by rw [List.getElem?_map, h]; rfl
section
variable {P : Program} {w : World} {K : PySem.W.Frag} {mg : Str → Option Value} {base : Heap} {z : Cz}
def spTurn : Sp := fun vs H Q _ => ∃ (t b kA : Addr) (p : Int × Int) (ps : List (Int × Int)) (L : List E), vs = [.ref t, .ref b, .ref kA] ∧ H t = some (.tup [.int p.1, .int p.2]) ∧ BookAt H b ps ∧ H kA = some (.lst (L.map ek)) ∧ L ≠ [] ∧ L.length ≤ 1000 ∧ InB ps L ∧ Desc L ∧
  ∀ n : Nat, TurnOk L p n → Q (.int (n : Int)) H
theorem sc_turn_for : FnScope ["tariff", "book", "places", "low", "high", "middle"] ["tariff", "book", "places"] (defScope s_turn_for) := ⟨rfl, rfl, rfl, by decide +kernel, rfl, by decide +kernel, by decide +kernel⟩
theorem ok_turn_for {f : Addr} {fd : FuncData} (F : Fun K "turn_for" "turn_for" s_turn_for f fd) (B : Bl mg) (T : CT K mg z) : FnOk P w K mg base CX0 1 f fd ["tariff", "book", "places"] spTurn := by
  refine F.ok sc_turn_for (fun vs H Q E h => ?_) (fun cdv A outer s H vs Q E hr h => ?_)
  · obtain ⟨t, b, kA, p, ps, L, rfl, _⟩ := h
    rfl
  · obtain ⟨t, b, kA, p, ps, L, rfl, ht, hB, hk, hne, hln, hin, hds, q⟩ := h
    obtain ⟨vs, hv, htb⟩ := id hB
    have lpos : 0 < L.length := List.length_pos_iff.mpr hne
    refine ⟨_, (pss_cons (ps_set (i := 3) sc_turn_for.nd rfl (Or.inl rfl) pe_int)
          (pss_cons (ps_set (i := 4) sc_turn_for.nd rfl (Or.inl rfl) (pe_op op_sub (pe_callB (lenK K) rfl B.len PySem.boot_len (pa_cons (pv 2) pa_nil)) pe_int))
          (pss_cons (ps_while PassesOwn.never (pt_cmpR op_lt (pv 3) (pv 4) (nomark _)) (pss_cons (ps_set (i := 5) sc_turn_for.nd rfl (Or.inl rfl) (pe_op op_fdivF (pe_op op_add (pv 3) (pv 4)) pe_int))
          (pss_one (ps_if (pt_cmpR op_le (pe_ix (ix_tupK K) (pe_ix (ix_listK K) (pv 1) (pe_ix (ix_listK K) (pv 2) (pv 5) (fun _ _ => rfl)) (fun _ _ => rfl)) pe_int (fun _ _ => rfl)) (pe_ix (ix_tupK K) (pv 0) pe_int (fun _ _ => rfl)) (nomark _)) (pss_one (ps_set (i := 4) sc_turn_for.nd rfl (Or.inl rfl) (pv 5))) (pss_one (ps_set (i := 3) sc_turn_for.nd rfl (Or.inl rfl) (pe_op op_add (pv 5) pe_int)))))))
          (pss_one (ps_ret (pv 3)))))), ?_⟩
    refine ⟨_, rfl, kA, _, rfl, .inl (SqL.of hk), _, _, rfl, rfl, ?_⟩
    rw [List.length_map]
    refine ⟨fun m σ H1 => ∃ (lo hi : Nat) (v5 : Option V), m = hi - lo ∧ H1 = H ∧ σ = [some (.ref t), some (.ref b), some (.ref kA), some (.int (lo : Int)), some (.int (hi : Int)), v5] ∧ lo ≤ hi ∧ hi < L.length ∧ (∀ (j : Nat) e, j < lo → L[j]? = some e → p.2 < e.t.2) ∧ (hi = L.length - 1 ∨ ∀ e, L[hi]? = some e → e.t.2 ≤ p.2),
      ⟨_, 0, L.length - 1, none, rfl, rfl, ?_, Nat.zero_le _, by omega, fun j e hj => absurd hj (Nat.not_lt_zero j), .inl rfl⟩, ?_⟩
    · show [some (V.ref t), some (V.ref b), some (V.ref kA), some (V.int 0), some (V.int (((L.length : Nat) : Int) - 1)), none] = _
      rw [show ((L.length : Nat) : Int) - 1 = ((L.length - 1 : Nat) : Int) by omega]
      rfl
    rintro m σ H1 ⟨lo, hi, v5, rfl, rfl, rfl, hlh, hhi, hbef, hat⟩
    refine ⟨_, rfl, _, rfl, _, _, rfl, rfl, _, rfl, ?_⟩
    by_cases c : (lo : Int) < (hi : Int)
    · refine iteY (decide_eq_true c) ?_
      refine ⟨fun σ' H' => ∃ (lo' hi' : Nat) (v5 : Option V), hi' - lo' < hi - lo ∧ H' = H1 ∧ σ' = [some (.ref t), some (.ref b), some (.ref kA), some (.int (lo' : Int)), some (.int (hi' : Int)), v5] ∧ lo' ≤ hi' ∧ hi' < L.length ∧ (∀ (j : Nat) e, j < lo' → L[j]? = some e → p.2 < e.t.2) ∧ (hi' = L.length - 1 ∨ ∀ e, L[hi']? = some e → e.t.2 ≤ p.2),
        fun σ' H' ⟨lo', hi', v5', h1, h2⟩ => ⟨_, h1, lo', hi', v5', rfl, h2⟩, ?_⟩
      refine ⟨_, rfl, _, rfl, _, _, rfl, rfl, _, _, rfl, rfl, ⟨by decide, fitK (by decide +kernel)⟩, ?_⟩
      have em : ((lo : Int) + (hi : Int)) / 2 = (((lo + hi) / 2 : Nat) : Int) := by omega
      show gName 5 (V.int (((lo : Int) + (hi : Int)) / 2)) _ _ _
      rw [em]
      have m1 : lo ≤ (lo + hi) / 2 := by omega
      have m2 : (lo + hi) / 2 < hi := by omega
      generalize (lo + hi) / 2 = mi at m1 m2 ⊢
      obtain ⟨e, he⟩ : ∃ e, L[mi]? = some e := ⟨L[mi]'(by omega), List.getElem?_eq_getElem (by omega)⟩
      obtain ⟨⟨k0, k1⟩, et⟩ := hin e (List.mem_of_getElem? he)
      obtain ⟨wk, hwk, rk, rfl, hrk⟩ := paired_get' htb (place_ok k0 k1)
      refine ⟨_, rfl, _, rfl, _, rfl, kA, _, _, _, rfl, rfl, SqL.of hk, atI_n (L_at he), b, vs, e.k, _, rfl, rfl, SqL.of hv, atI_of k0 hwk, rk, _, 1, _, rfl, rfl, SqT.of hrk, rfl, _, rfl, t, _, 1, _, rfl, rfl, SqT.of ht, rfl, _, _, rfl, rfl, _, rfl, ?_⟩
      have et2 : (tar ps e.k).2 = e.t.2 := by rw [et]
      by_cases c2 : (tar ps e.k).2 ≤ p.2
      · refine iteY (decide_eq_true c2) ?_
        refine ⟨_, rfl, lo, mi, _, by omega, rfl, rfl, m1, by omega, hbef, .inr fun e' he' => ?_⟩
        rw [he] at he'; cases he'
        omega
      · refine iteN (decide_eq_false c2) ?_
        refine ⟨_, rfl, _, _, rfl, rfl, mi + 1, hi, _, by omega, rfl, rfl, by omega, hhi, fun j e' hj he' => ?_, hat⟩
        have := hds j mi e' e (by omega) he' he
        omega
    · refine iteN (decide_eq_false c) ?_
      refine ⟨_, rfl, ?_⟩
      have e1 : lo = hi := by omega
      subst e1
      exact q lo ⟨hhi, hbef, hat⟩
/-- what both have of the turns -/
structure TurnsAt (H : Hp) (b bA kA : Addr) (ps S : List (Int × Int)) (us : List V) (L : List E) : Prop where
  book : BookAt H b ps
  md : ∀ p ∈ ps, MdT p
  beg : H bA = some (.lst us)
  tars : TarsAt H us (L.map bxy)
  kept : H kA = some (.lst (L.map ek))
  hull : Hull S L
  inb : InB ps L
  len : L.length ≤ 1000
  sub : ∀ s ∈ S, s ∈ ps
def spBelow : Sp := fun vs H Q _ => ∃ (t b bA kA : Addr) (p : Int × Int) (ps S : List (Int × Int)) (us : List V) (L : List E), vs = [.ref t, .ref b, .ref bA, .ref kA] ∧ H t = some (.tup [.int p.1, .int p.2]) ∧ MdT p ∧ TurnsAt H b bA kA ps S us L ∧
  (∀ (r : Addr) (x y : Int), H r = none → OkA x y → (∀ s ∈ S, cst p x y < cst s x y) → Q (.ref r) (upd H r (.tup [.int x, .int y]))) ∧
  (∀ (n : Nat) (e : My.E), TurnOk L p n → L[n]? = some e → ¬ cst p e.x e.y < cst e.t e.x e.y → ¬ p.2 < e.t.2 → Q .non H)
theorem sc_amount_below : FnScope ["tariff", "book", "begins", "places", "turn", "begin", "least", "apart"] ["tariff", "book", "begins", "places"] (defScope s_amount_below) := ⟨rfl, rfl, rfl, by decide +kernel, rfl, by decide +kernel, by decide +kernel⟩
theorem ok_amount_below {f : Addr} {fd : FuncData} {f_lowest_terms f_top_of_cost f_turn_for : Addr} {d_lowest_terms d_top_of_cost d_turn_for : FuncData} (F : Fun K "amount_below" "amount_below" s_amount_below f fd) (B : Bl mg) (T : CT K mg z)
    (c_lowest_terms : Cl P w K mg base 2 "lowest_terms" ["top", "bottom"] spLow f_lowest_terms d_lowest_terms)
    (c_top_of_cost : Cl P w K mg base 1 "top_of_cost" ["tariff", "amount"] spTop f_top_of_cost d_top_of_cost)
    (c_turn_for : Cl P w K mg base 1 "turn_for" ["tariff", "book", "places"] spTurn f_turn_for d_turn_for) : FnOk P w K mg base CX0 3 f fd ["tariff", "book", "begins", "places"] spBelow := by
  refine F.ok sc_amount_below (fun vs H Q E h => ?_) (fun cdv A outer s H vs Q E hr h => ?_)
  · obtain ⟨t, b, bA, kA, p, ps, S, us, L, rfl, _⟩ := h
    rfl
  · obtain ⟨t, b, bA, kA, p, ps, S, us, L, rfl, ht, mp, TA, q1, q2⟩ := h
    obtain ⟨vs, hv, htb⟩ := id TA.book
    have okS : ∀ s ∈ S, OkT s := fun s hs => (TA.md s (TA.sub s hs)).ok
    refine ⟨_, (pss_cons (ps_set (i := 4) sc_amount_below.nd rfl (Or.inl rfl) (pe_call c_turn_for.ok (hr.mono (by decide)) rfl c_turn_for.mg c_turn_for.kp c_turn_for.bd .nil pass0 (pa_cons (pv 0) (pa_cons (pv 1) (pa_cons (pv 3) pa_nil)))))
          (pss_cons (ps_set (i := 5) sc_amount_below.nd rfl (Or.inl rfl) (pe_ix (ix_listK K) (pv 2) (pv 4) (fun _ _ => rfl)))
          (pss_cons (ps_set (i := 6) sc_amount_below.nd rfl (Or.inl rfl) (pe_ix (ix_listK K) (pv 1) (pe_ix (ix_listK K) (pv 3) (pv 4) (fun _ _ => rfl)) (fun _ _ => rfl)))
          (pss_cons (ps_if (pt_cmpR op_gt (pe_call c_top_of_cost.ok (hr.mono (by decide)) rfl c_top_of_cost.mg c_top_of_cost.kp c_top_of_cost.bd .nil pass0 (pa_cons (pv 6) (pa_cons (pv 5) pa_nil))) (pe_call c_top_of_cost.ok (hr.mono (by decide)) rfl c_top_of_cost.mg c_top_of_cost.kp c_top_of_cost.bd .nil pass0 (pa_cons (pv 0) (pa_cons (pv 5) pa_nil))) (nomark _)) (pss_one (ps_ret (pe_call c_lowest_terms.ok (hr.mono (by decide)) rfl c_lowest_terms.mg c_lowest_terms.kp c_lowest_terms.bd .nil pass0 (pa_cons (pe_ix (ix_tupK K) (pv 5) pe_int (fun _ _ => rfl)) (pa_cons (pe_ix (ix_tupK K) (pv 5) pe_int (fun _ _ => rfl)) pa_nil))))) pss_nil)
          (pss_cons (ps_if (pt_cmpR op_gt (pe_ix (ix_tupK K) (pv 6) pe_int (fun _ _ => rfl)) (pe_ix (ix_tupK K) (pv 0) pe_int (fun _ _ => rfl)) (nomark _)) (pss_cons (ps_set (i := 7) sc_amount_below.nd rfl (Or.inl rfl) (pe_op op_sub (pe_ix (ix_tupK K) (pv 6) pe_int (fun _ _ => rfl)) (pe_ix (ix_tupK K) (pv 0) pe_int (fun _ _ => rfl))))
          (pss_one (ps_ret (pe_call c_lowest_terms.ok (hr.mono (by decide)) rfl c_lowest_terms.mg c_lowest_terms.kp c_lowest_terms.bd .nil pass0 (pa_cons (pe_op op_add (pe_op op_sub (pe_ix (ix_tupK K) (pv 0) pe_int (fun _ _ => rfl)) (pe_ix (ix_tupK K) (pv 6) pe_int (fun _ _ => rfl))) (pv 7)) (pa_cons (pv 7) pa_nil)))))) pss_nil)
          (pss_one (ps_ret pe_non))))))), ?_⟩
    refine ⟨_, rfl, _, rfl, _, rfl, t, b, kA, p, ps, L, rfl, ht, TA.book, TA.kept, TA.hull.ne, TA.len, TA.inb, TA.hull.desc, fun n to => ?_⟩
    obtain ⟨e, he⟩ : ∃ e, L[n]? = some e := ⟨L[n]'to.lt, List.getElem?_eq_getElem to.lt⟩
    have me := List.mem_of_getElem? he
    obtain ⟨⟨k0, k1⟩, et⟩ := TA.inb e me
    obtain ⟨x0, y0⟩ := TA.hull.pos e me
    obtain ⟨x1, y1⟩ := TA.hull.small okS e me
    have ox : Ok1 e.x := ⟨x0, x1⟩
    have oy : Ok1 e.y := ⟨Int.le_of_lt y0, y1⟩
    obtain ⟨ue, hue, re, rfl, hre⟩ := paired_get' TA.tars (show (L.map bxy)[n]? = some (e.x, e.y) by rw [List.getElem?_map, he]; rfl)
    obtain ⟨wk, hwk, rk, rfl, hrk0⟩ := paired_get' htb (place_ok k0 k1)
    have hrk : H rk = some (.tup [.int e.t.1, .int e.t.2]) := by rw [et]; exact hrk0
    have me2 := TA.md e.t (TA.sub _ (TA.hull.least e me).1)
    refine ⟨_, rfl, _, rfl, bA, _, _, _, rfl, rfl, SqL.of TA.beg, atI_n hue, ?_⟩
    refine ⟨_, rfl, _, rfl, _, rfl, kA, _, _, _, rfl, rfl, SqL.of TA.kept, atI_n (L_at he), b, vs, e.k, _, rfl, rfl, SqL.of hv, atI_of k0 hwk, ?_⟩
    refine ⟨_, rfl, _, rfl, rk, re, _, _, e.x, e.y, rfl, hrk, hre, me2.ok.1.fit, me2.ok.2.fit, ox.fit, oy.fit, _, rfl, _, rfl, t, re, _, _, e.x, e.y, rfl, ht, hre, mp.ok.1.fit, mp.ok.2.fit, ox.fit, oy.fit, _, _, rfl, rfl, _, rfl, ?_⟩
    by_cases c1 : cst p e.x e.y < cst e.t e.x e.y
    · refine iteY (decide_eq_true c1) ?_
      refine ⟨_, rfl, re, _, 0, _, rfl, rfl, SqT.of hre, rfl, _, rfl, re, _, 1, _, rfl, rfl, SqT.of hre, rfl, e.x, e.y, rfl, x0, y0, oy.fit, fun r hr' => ?_⟩
      exact q1 r _ _ hr' (okA_low ox oy y0) (below1 TA.hull he c1)
    · refine iteN (decide_eq_false c1) ?_
      refine ⟨_, rfl, rk, _, 1, _, rfl, rfl, SqT.of hrk, rfl, _, rfl, t, _, 1, _, rfl, rfl, SqT.of ht, rfl, _, _, rfl, rfl, _, rfl, ?_⟩
      by_cases c2 : p.2 < e.t.2
      · refine iteY (decide_eq_true c2) ?_
        obtain ⟨ge, bel⟩ := below2 TA.hull to he c1 c2
        refine ⟨_, rfl, rk, _, 1, _, rfl, rfl, SqT.of hrk, rfl, _, rfl, t, _, 1, _, rfl, rfl, SqT.of ht, rfl, _, _, rfl, rfl, ?_⟩
        obtain ⟨⟨a1, a2⟩, ⟨a3, a4⟩⟩ := mp
        obtain ⟨⟨b1, b2⟩, ⟨b3, b4⟩⟩ := me2
        have o1 : Ok1 (p.1 - e.t.1 + (e.t.2 - p.2)) := ⟨by omega, by omega⟩
        have o2 : Ok1 (e.t.2 - p.2) := ⟨by omega, by omega⟩
        refine ⟨_, rfl, t, _, 0, _, rfl, rfl, SqT.of ht, rfl, _, rfl, rk, _, 0, _, rfl, rfl, SqT.of hrk, rfl, _, _, rfl, rfl, _, rfl, _, _, rfl, rfl, _, rfl, _, _, rfl, o1.1, by omega, o2.fit, fun r hr' => ?_⟩
        exact q1 r _ _ hr' (okA_low o1 o2 (by omega)) bel
      · refine iteN (decide_eq_false c2) ?_
        exact q2 n e to he c1 c2
def spMix : Sp := fun vs H Q _ => ∃ (t b bA kA : Addr) (p : Int × Int) (ps S : List (Int × Int)) (us : List V) (L : List E) (n : Nat) (e : My.E), vs = [.ref t, .ref b, .ref kA] ∧ H t = some (.tup [.int p.1, .int p.2]) ∧ MdT p ∧ TurnsAt H b bA kA ps S us L ∧ TurnOk L p n ∧ L[n]? = some e ∧ ¬ cst p e.x e.y < cst e.t e.x e.y ∧ ¬ p.2 < e.t.2 ∧
  ∀ (r : Addr) (k1 k2 w1 w2 : Int), H r = none → MixOk ps p k1 k2 w1 w2 → Md1 w1 → Md1 w2 → (∃ e ∈ L, e.k = k1) → (∃ e ∈ L, e.k = k2) → Q (.ref r) (upd H r (.tup [.int k1, .int k2, .int w1, .int w2]))
theorem sc_mixture_for : FnScope ["tariff", "book", "places", "turn", "after", "before"] ["tariff", "book", "places"] (defScope s_mixture_for) := ⟨rfl, rfl, rfl, by decide +kernel, rfl, by decide +kernel, by decide +kernel⟩
theorem ok_mixture_for {f : Addr} {fd : FuncData} {f_turn_for : Addr} {d_turn_for : FuncData} (F : Fun K "mixture_for" "mixture_for" s_mixture_for f fd) (B : Bl mg) (T : CT K mg z)
    (c_turn_for : Cl P w K mg base 1 "turn_for" ["tariff", "book", "places"] spTurn f_turn_for d_turn_for) : FnOk P w K mg base CX0 2 f fd ["tariff", "book", "places"] spMix := by
  refine F.ok sc_mixture_for (fun vs H Q E h => ?_) (fun cdv A outer s H vs Q E hr h => ?_)
  · obtain ⟨t, b, bA, kA, p, ps, S, us, L, n, e, rfl, _⟩ := h
    rfl
  · obtain ⟨t, b, bA, kA, p, ps, S, us, L, n, e, rfl, ht, mp, TA, to, he, c1, c2, q⟩ := h
    obtain ⟨vs, hv, htb⟩ := id TA.book
    refine ⟨_, (pss_cons (ps_set (i := 3) sc_mixture_for.nd rfl (Or.inl rfl) (pe_call c_turn_for.ok (hr.mono (by decide)) rfl c_turn_for.mg c_turn_for.kp c_turn_for.bd .nil pass0 (pa_cons (pv 0) (pa_cons (pv 1) (pa_cons (pv 2) pa_nil)))))
          (pss_cons (ps_set (i := 4) sc_mixture_for.nd rfl (Or.inl rfl) (pe_ix (ix_listK K) (pv 2) (pv 3) (fun _ _ => rfl)))
          (pss_cons (ps_if (pt_cmpR op_eq (pv 3) pe_int (nomark _)) (pss_one (ps_ret (pe_tup (pa_cons (pv 4) (pa_cons (pv 4) (pa_cons pe_int (pa_cons pe_int pa_nil))))))) pss_nil)
          (pss_cons (ps_set (i := 5) sc_mixture_for.nd rfl (Or.inl rfl) (pe_ix (ix_listK K) (pv 2) (pe_op op_sub (pv 3) pe_int) (fun _ _ => rfl)))
          (pss_one (ps_ret (pe_tup (pa_cons (pv 5) (pa_cons (pv 4) (pa_cons (pe_op op_sub (pe_ix (ix_tupK K) (pv 0) pe_int (fun _ _ => rfl)) (pe_ix (ix_tupK K) (pe_ix (ix_listK K) (pv 1) (pv 4) (fun _ _ => rfl)) pe_int (fun _ _ => rfl))) (pa_cons (pe_op op_sub (pe_ix (ix_tupK K) (pe_ix (ix_listK K) (pv 1) (pv 5) (fun _ _ => rfl)) pe_int (fun _ _ => rfl)) (pe_ix (ix_tupK K) (pv 0) pe_int (fun _ _ => rfl))) pa_nil))))))))))), ?_⟩
    refine ⟨_, rfl, _, rfl, _, rfl, t, b, kA, p, ps, L, rfl, ht, TA.book, TA.kept, TA.hull.ne, TA.len, TA.inb, TA.hull.desc, fun n' to' => ?_⟩
    obtain rfl := to'.one to
    have me := List.mem_of_getElem? he
    obtain ⟨⟨k0, k1⟩, et⟩ := TA.inb e me
    obtain ⟨wk, hwk, rk, rfl, hrk0⟩ := paired_get' htb (place_ok k0 k1)
    have hrk : H rk = some (.tup [.int e.t.1, .int e.t.2]) := by rw [et]; exact hrk0
    refine ⟨_, rfl, _, rfl, kA, _, _, _, rfl, rfl, SqL.of TA.kept, atI_n (L_at he), ?_⟩
    refine ⟨_, rfl, rfl, _, rfl, ?_⟩
    have four : 4 ≤ sizeLine := by decide
    by_cases c0 : n' = 0
    · refine iteY (decide_eq_true (by rw [c0]; rfl)) ?_
      subst c0
      refine ⟨_, rfl, _, rfl, four, fun r hr' => q r _ _ _ _ hr' ?_ ⟨by decide, by decide⟩ ⟨by decide, by decide⟩ ⟨e, me, rfl⟩ ⟨e, me, rfl⟩⟩
      have h1 := mix1 TA.hull he c1
      refine ⟨⟨k0, k1⟩, ⟨k0, k1⟩, by decide, by decide, by decide, ?_, ?_⟩
      · rw [← et]; omega
      · rw [← et]; omega
    · refine iteN (decide_eq_false fun z => c0 (by have := V.int.inj z; omega)) ?_
      obtain ⟨m, rfl⟩ : ∃ m, n' = m + 1 := ⟨n' - 1, by omega⟩
      obtain ⟨f, hf⟩ : ∃ f, L[m]? = some f := ⟨L[m]'(by have := to'.lt; omega), List.getElem?_eq_getElem (by have := to'.lt; omega)⟩
      have mf := List.mem_of_getElem? hf
      obtain ⟨⟨f0, f1⟩, ft⟩ := TA.inb f mf
      obtain ⟨wf, hwf, rf, rfl, hrf0⟩ := paired_get' htb (place_ok f0 f1)
      have hrf : H rf = some (.tup [.int f.t.1, .int f.t.2]) := by rw [ft]; exact hrf0
      refine ⟨_, rfl, _, rfl, _, _, rfl, rfl, kA, _, _, _, rfl, rfl, SqL.of TA.kept, (show atI (L.map ek) (((m + 1 : Nat) : Int) - 1) = some (V.int f.k) by rw [show ((m + 1 : Nat) : Int) - 1 = (m : Int) by omega]; exact atI_n (L_at hf)), ?_⟩
      refine ⟨_, rfl, _, rfl, _, rfl, t, _, 1, _, rfl, rfl, SqT.of ht, rfl, _, rfl, _, rfl, b, vs, e.k, _, rfl, rfl, SqL.of hv, atI_of k0 hwk, rk, _, 1, _, rfl, rfl, SqT.of hrk, rfl, _, _, rfl, rfl, _, rfl, _, rfl, b, vs, f.k, _, rfl, rfl, SqL.of hv, atI_of f0 hwf, rf, _, 1, _, rfl, rfl, SqT.of hrf, rfl, _, rfl, t, _, 1, _, rfl, rfl, SqT.of ht, rfl, _, _, rfl, rfl, four, fun r hr' => ?_⟩
      obtain ⟨m1, m2, m3, m4⟩ := mix2 TA.hull to' hf he c1 c2
      obtain ⟨⟨a1, a2⟩, ⟨a3, a4⟩⟩ := mp
      obtain ⟨⟨b1, b2⟩, ⟨b3, b4⟩⟩ := TA.md e.t (TA.sub _ (TA.hull.least e me).1)
      obtain ⟨⟨d1, d2⟩, ⟨d3, d4⟩⟩ := TA.md f.t (TA.sub _ (TA.hull.least f mf).1)
      refine q r _ _ _ _ hr' ⟨⟨f0, f1⟩, ⟨k0, k1⟩, m1, Int.le_of_lt m2, by omega, ?_, ?_⟩ ⟨m1, by omega⟩ ⟨Int.le_of_lt m2, by omega⟩ ⟨f, mf, rfl⟩ ⟨e, me, rfl⟩
      · rw [← et, ← ft]; exact m3
      · rw [← et, ← ft]; exact m4
end
end My

set_option Elab.async false
set_option linter.all false
set_option maxRecDepth 100000
set_option maxHeartbeats 8000000
namespace My
open PySem PyProof.Rows L2
/-! ### mixtures -/
def Weigh (n : Nat) (k1 k2 w1 w2 : Int) : Prop := (0 ≤ k1 ∧ k1 < (n : Int)) ∧ (0 ≤ k2 ∧ k2 < (n : Int)) ∧ 0 ≤ w1 ∧ 0 ≤ w2 ∧ 0 < w1 + w2
theorem andB {a b : Int} {n : Nat} : (decide (0 ≤ a) && decide (a < (n : Int))) = true ↔ 0 ≤ a ∧ a < (n : Int) := by rw [Bool.and_eq_true, decide_eq_true_iff, decide_eq_true_iff]
section
variable {P : Program} {w : World} {K : PySem.W.Frag} {mg : Str → Option Value} {base : Heap} {z : Cz}
def spWeigh : Sp := fun vs H Q _ => ∃ (b r : Addr) (xs : List V) (k1 k2 w1 w2 : Int), vs = [.ref b, .ref r] ∧ H b = some (.lst xs) ∧ H r = some (.tup [.int k1, .int k2, .int w1, .int w2]) ∧ ∀ v, (v = true ↔ Weigh xs.length k1 k2 w1 w2) → Q (.bl v) H
theorem sc_is_weighing : FnScope ["book", "row"] ["book", "row"] (defScope s_is_weighing) := ⟨rfl, rfl, rfl, by decide +kernel, rfl, by decide +kernel, by decide +kernel⟩
theorem ok_is_weighing {f : Addr} {fd : FuncData} {f_is_whole f_is_place : Addr} {d_is_whole d_is_place : FuncData} (F : Fun K "is_weighing" "is_weighing" s_is_weighing f fd) (B : Bl mg) (T : CT K mg z)
    (c_is_whole : Cl P w K mg base 1 "is_whole" ["value"] spWhole f_is_whole d_is_whole)
    (c_is_place : Cl P w K mg base 2 "is_place" ["book", "value"] spIsPlace f_is_place d_is_place) : FnOk P w K mg base CX0 3 f fd ["book", "row"] spWeigh := by
  refine F.ok sc_is_weighing (fun vs H Q E h => ?_) (fun cdv A outer s H vs Q E hr h => ?_)
  · obtain ⟨b, r, xs, k1, k2, w1, w2, rfl, _⟩ := h
    rfl
  · obtain ⟨b, r, xs, k1, k2, w1, w2, rfl, hb, hr', q⟩ := h
    have no : ¬ Weigh xs.length k1 k2 w1 w2 → Q (.bl false) H := fun e => q false ⟨fun z => (by cases z), fun z => absurd z e⟩
    refine ⟨_, (pss_cons (ps_if (PW.pt (pw_or (pt_not (pt_val (pe_callB (isTK K (n := "tuple")) rfl B.isi boot_isinstance (pa_cons (pv 1) (pa_cons (pe_bltn (v := .ty "tuple") rfl B.tuple boot_tuple rfl) pa_nil))))) (pw_or1 (pt_cmpR op_ne (pe_callB (lenK K) rfl B.len PySem.boot_len (pa_cons (pv 1) pa_nil)) pe_int (nomark _))))) (pss_one (ps_ret pe_bl)) pss_nil)
          (pss_cons (ps_if (PW.pt (pw_or (pt_not (pt_val (pe_call c_is_place.ok (hr.mono (by decide)) rfl c_is_place.mg c_is_place.kp c_is_place.bd .nil pass0 (pa_cons (pv 0) (pa_cons (pe_ix (ix_tupK K) (pv 1) pe_int (fun _ _ => rfl)) pa_nil))))) (pw_or1 (pt_not (pt_val (pe_call c_is_place.ok (hr.mono (by decide)) rfl c_is_place.mg c_is_place.kp c_is_place.bd .nil pass0 (pa_cons (pv 0) (pa_cons (pe_ix (ix_tupK K) (pv 1) pe_int (fun _ _ => rfl)) pa_nil)))))))) (pss_one (ps_ret pe_bl)) pss_nil)
          (pss_one (ps_ret (pe_and (pe_call c_is_whole.ok (hr.mono (by decide)) rfl c_is_whole.mg c_is_whole.kp c_is_whole.bd .nil pass0 (pa_cons (pe_ix (ix_tupK K) (pv 1) pe_int (fun _ _ => rfl)) pa_nil)) (pe_and (pe_call c_is_whole.ok (hr.mono (by decide)) rfl c_is_whole.mg c_is_whole.kp c_is_whole.bd .nil pass0 (pa_cons (pe_ix (ix_tupK K) (pv 1) pe_int (fun _ _ => rfl)) pa_nil)) (pe_one (pe_cmpR op_gt (pe_op op_add (pe_ix (ix_tupK K) (pv 1) pe_int (fun _ _ => rfl)) (pe_ix (ix_tupK K) (pv 1) pe_int (fun _ _ => rfl))) pe_int (nomark _))))))))), ?_⟩
    refine ⟨_, rfl, _, _, _, rfl, .tup hr', kit_refl, _, rfl, iteF ?_⟩
    refine ⟨_, rfl, r, _, rfl, .inr (SqT.of hr'), rfl, _, rfl, iteF ?_⟩
    refine ⟨_, rfl, _, rfl, r, _, 0, _, rfl, rfl, SqT.of hr', rfl, b, xs, k1, rfl, hb, _, rfl, ?_⟩
    by_cases c1 : 0 ≤ k1 ∧ k1 < (xs.length : Int)
    case neg =>
      refine iteY (by rw [Bool.not_eq_true', Bool.eq_false_iff]; exact fun z => c1 (andB (b := 0).mp z)) (iteT (no fun z => c1 z.1))
    refine iteN (by rw [andB (b := 0).mpr c1]; rfl) ?_
    refine ⟨_, rfl, _, rfl, r, _, 1, _, rfl, rfl, SqT.of hr', rfl, b, xs, k2, rfl, hb, _, rfl, ?_⟩
    by_cases c2 : 0 ≤ k2 ∧ k2 < (xs.length : Int)
    case neg =>
      refine iteY (by rw [Bool.not_eq_true', Bool.eq_false_iff]; exact fun z => c2 (andB (b := 0).mp z)) (no fun z => c2 z.2.1)
    refine iteN (by rw [andB (b := 0).mpr c2]; rfl) ?_
    refine ⟨_, rfl, r, _, 2, _, rfl, rfl, SqT.of hr', rfl, w1, rfl, _, rfl, ?_⟩
    by_cases c3 : 0 ≤ w1
    case neg =>
      exact iteN (decide_eq_false c3) (no fun z => c3 z.2.2.1)
    refine iteY (decide_eq_true c3) ?_
    refine ⟨_, rfl, r, _, 3, _, rfl, rfl, SqT.of hr', rfl, w2, rfl, _, rfl, ?_⟩
    by_cases c4 : 0 ≤ w2
    case neg =>
      exact iteN (decide_eq_false c4) (no fun z => c4 z.2.2.2.1)
    refine iteY (decide_eq_true c4) ?_
    refine ⟨_, rfl, r, _, 2, _, rfl, rfl, SqT.of hr', rfl, _, rfl, r, _, 3, _, rfl, rfl, SqT.of hr', rfl, _, _, rfl, rfl, _, _, rfl, rfl, q _ ?_⟩
    rw [decide_eq_true_iff]
    exact ⟨fun z => ⟨c1, c2, c3, c4, z⟩, fun z => z.2.2.2.2⟩
def spMixture : Sp := fun vs H Q _ => ∃ (b t r : Addr) (ps : List (Int × Int)) (p : Int × Int) (k1 k2 w1 w2 : Int), vs = [.ref b, .ref t, .ref r] ∧ BookAt H b ps ∧ (∀ p ∈ ps, OkT p) ∧ H t = some (.tup [.int p.1, .int p.2]) ∧ OkT p ∧ H r = some (.tup [.int k1, .int k2, .int w1, .int w2]) ∧ Fit w1 ∧ Fit w2 ∧ Fit (w1 + w2) ∧
  ∀ v, (v = true ↔ MixOk ps p k1 k2 w1 w2) → Q (.bl v) H
theorem sc_is_mixture : FnScope ["book", "tariff", "row", "one", "other", "weights", "at_once", "by_piece"] ["book", "tariff", "row"] (defScope s_is_mixture) := ⟨rfl, rfl, rfl, by decide +kernel, rfl, by decide +kernel, by decide +kernel⟩
theorem ok_is_mixture {f : Addr} {fd : FuncData} {f_is_weighing : Addr} {d_is_weighing : FuncData} (F : Fun K "is_mixture" "is_mixture" s_is_mixture f fd) (B : Bl mg) (T : CT K mg z)
    (c_is_weighing : Cl P w K mg base 3 "is_weighing" ["book", "row"] spWeigh f_is_weighing d_is_weighing) : FnOk P w K mg base CX0 4 f fd ["book", "tariff", "row"] spMixture := by
  refine F.ok sc_is_mixture (fun vs H Q E h => ?_) (fun cdv A outer s H vs Q E hr h => ?_)
  · obtain ⟨b, t, r, ps, p, k1, k2, w1, w2, rfl, _⟩ := h
    rfl
  · obtain ⟨b, t, r, ps, p, k1, k2, w1, w2, rfl, hB, hok, ht, op, hr', f1, f2, f3, q⟩ := h
    obtain ⟨vs, hv, htb⟩ := id hB
    have hlv := htb.len
    have no : ¬ MixOk ps p k1 k2 w1 w2 → Q (.bl false) H := fun e => q false ⟨fun z => (by cases z), fun z => absurd z e⟩
    refine ⟨_, (pss_cons (ps_if (pt_not (pt_val (pe_call c_is_weighing.ok (hr.mono (by decide)) rfl c_is_weighing.mg c_is_weighing.kp c_is_weighing.bd .nil pass0 (pa_cons (pv 0) (pa_cons (pv 2) pa_nil))))) (pss_one (ps_ret pe_bl)) pss_nil)
          (pss_cons (ps_set (i := 3) sc_is_mixture.nd rfl (Or.inl rfl) (pe_ix (ix_listK K) (pv 0) (pe_ix (ix_tupK K) (pv 2) pe_int (fun _ _ => rfl)) (fun _ _ => rfl)))
          (pss_cons (ps_set (i := 4) sc_is_mixture.nd rfl (Or.inl rfl) (pe_ix (ix_listK K) (pv 0) (pe_ix (ix_tupK K) (pv 2) pe_int (fun _ _ => rfl)) (fun _ _ => rfl)))
          (pss_cons (ps_set (i := 5) sc_is_mixture.nd rfl (Or.inl rfl) (pe_op op_add (pe_ix (ix_tupK K) (pv 2) pe_int (fun _ _ => rfl)) (pe_ix (ix_tupK K) (pv 2) pe_int (fun _ _ => rfl))))
          (pss_cons (ps_set (i := 6) sc_is_mixture.nd rfl (Or.inl rfl) (pe_op op_add (pe_op op_mulF (pe_ix (ix_tupK K) (pv 2) pe_int (fun _ _ => rfl)) (pe_ix (ix_tupK K) (pv 3) pe_int (fun _ _ => rfl))) (pe_op op_mulF (pe_ix (ix_tupK K) (pv 2) pe_int (fun _ _ => rfl)) (pe_ix (ix_tupK K) (pv 4) pe_int (fun _ _ => rfl)))))
          (pss_cons (ps_set (i := 7) sc_is_mixture.nd rfl (Or.inl rfl) (pe_op op_add (pe_op op_mulF (pe_ix (ix_tupK K) (pv 2) pe_int (fun _ _ => rfl)) (pe_ix (ix_tupK K) (pv 3) pe_int (fun _ _ => rfl))) (pe_op op_mulF (pe_ix (ix_tupK K) (pv 2) pe_int (fun _ _ => rfl)) (pe_ix (ix_tupK K) (pv 4) pe_int (fun _ _ => rfl)))))
          (pss_one (ps_ret (pe_and (pe_cmpR op_le (pv 6) (pe_op op_mulF (pv 5) (pe_ix (ix_tupK K) (pv 1) pe_int (fun _ _ => rfl))) (nomark _)) (pe_one (pe_cmpR op_le (pv 7) (pe_op op_mulF (pv 5) (pe_ix (ix_tupK K) (pv 1) pe_int (fun _ _ => rfl))) (nomark _)))))))))))), ?_⟩
    refine ⟨_, rfl, _, rfl, b, r, vs, k1, k2, w1, w2, rfl, hv, hr', fun v1 e1 => ⟨_, rfl, ?_⟩⟩
    rw [hlv] at e1
    by_cases c1 : v1 = true
    case neg =>
      have c1' := Bool.eq_false_iff.mpr c1
      exact iteY (by rw [c1']; rfl) (no fun z => c1 (e1.mpr ⟨z.in1, z.in2, z.n1, z.n2, z.pos⟩))
    refine iteN (by rw [c1]; rfl) ?_
    obtain ⟨⟨a0, a1⟩, ⟨b0, b1⟩, n1, n2, ps0⟩ := e1.mp c1
    obtain ⟨u1, hu1, r1, rfl, hr1⟩ := paired_get' htb (place_ok a0 a1)
    obtain ⟨u2, hu2, r2, rfl, hr2⟩ := paired_get' htb (place_ok b0 b1)
    have o1 := hok _ (List.mem_of_getElem? (place_ok a0 a1))
    have o2 := hok _ (List.mem_of_getElem? (place_ok b0 b1))
    refine ⟨_, rfl, _, rfl, r, _, 0, _, rfl, rfl, SqT.of hr', rfl, b, vs, k1, _, rfl, rfl, SqL.of hv, atI_of a0 hu1, ?_⟩
    refine ⟨_, rfl, _, rfl, r, _, 1, _, rfl, rfl, SqT.of hr', rfl, b, vs, k2, _, rfl, rfl, SqL.of hv, atI_of b0 hu2, ?_⟩
    refine ⟨_, rfl, r, _, 2, _, rfl, rfl, SqT.of hr', rfl, _, rfl, r, _, 3, _, rfl, rfl, SqT.of hr', rfl, _, _, rfl, rfl, ?_⟩
    refine ⟨_, rfl, r, _, 2, _, rfl, rfl, SqT.of hr', rfl, _, rfl, r1, _, 0, _, rfl, rfl, SqT.of hr1, rfl, _, _, rfl, rfl, ⟨f1, o1.1.fit⟩, _, rfl, r, _, 3, _, rfl, rfl, SqT.of hr', rfl, _, rfl, r2, _, 0, _, rfl, rfl, SqT.of hr2, rfl, _, _, rfl, rfl, ⟨f2, o2.1.fit⟩, _, _, rfl, rfl, ?_⟩
    refine ⟨_, rfl, r, _, 2, _, rfl, rfl, SqT.of hr', rfl, _, rfl, r1, _, 1, _, rfl, rfl, SqT.of hr1, rfl, _, _, rfl, rfl, ⟨f1, o1.2.fit⟩, _, rfl, r, _, 3, _, rfl, rfl, SqT.of hr', rfl, _, rfl, r2, _, 1, _, rfl, rfl, SqT.of hr2, rfl, _, _, rfl, rfl, ⟨f2, o2.2.fit⟩, _, _, rfl, rfl, ?_⟩
    refine ⟨_, rfl, _, rfl, _, rfl, t, _, 0, _, rfl, rfl, SqT.of ht, rfl, _, _, rfl, rfl, ⟨f3, op.1.fit⟩, _, _, rfl, rfl, _, rfl, ?_⟩
    by_cases c2 : w1 * (tar ps k1).1 + w2 * (tar ps k2).1 ≤ (w1 + w2) * p.1
    case neg =>
      exact iteN (decide_eq_false c2) (no fun z => c2 z.once)
    refine iteY (decide_eq_true c2) ?_
    refine ⟨_, rfl, _, rfl, _, rfl, t, _, 1, _, rfl, rfl, SqT.of ht, rfl, _, _, rfl, rfl, ⟨f3, op.2.fit⟩, _, _, rfl, rfl, q _ ?_⟩
    rw [decide_eq_true_iff]
    exact ⟨fun z => ⟨⟨a0, a1⟩, ⟨b0, b1⟩, n1, n2, ps0, c2, z⟩, fun z => z.piece⟩
/-! ### the law's own look at a mixture -/
def spLMixture : Sp := fun vs H Q _ => ∃ (b r t : Addr) (ps : List (Int × Int)) (p : Int × Int) (k1 k2 w1 w2 : Int), vs = [.ref b, .ref r, .ref t] ∧ BookAt H b ps ∧ (∀ p ∈ ps, OkT p) ∧ H t = some (.tup [.int p.1, .int p.2]) ∧ OkT p ∧ H r = some (.tup [.int k1, .int k2, .int w1, .int w2]) ∧ Fit w1 ∧ Fit w2 ∧ Fit (w1 + w2) ∧
  ∀ v H', (v = true ↔ MixOk ps p k1 k2 w1 w2) → Same H H' → Q (.bl v) H'
theorem sc__law_mixture : FnScope ["_law_book_here", "_law_row", "_law_tariff", "_law_one", "_law_other", "_law_first", "_law_second", "_law_k", "_law_mixed"] ["_law_book_here", "_law_row", "_law_tariff"] (defScope s__law_mixture) := ⟨rfl, rfl, rfl, by decide +kernel, rfl, by decide +kernel, by decide +kernel⟩
theorem ok__law_mixture {f : Addr} {fd : FuncData} (F : Fun K "_law_mixture" "_law_mixture" s__law_mixture f fd) (B : Bl mg) (T : CT K mg z) : FnOk P w K mg base CX0 1 f fd ["_law_book_here", "_law_row", "_law_tariff"] spLMixture := by
  refine F.ok sc__law_mixture (fun vs H Q E h => ?_) (fun cdv A outer s H vs Q E hr h => ?_)
  · obtain ⟨b, r, t, ps, p, k1, k2, w1, w2, rfl, _⟩ := h
    rfl
  · obtain ⟨b, r, t, ps, p, k1, k2, w1, w2, rfl, hB, hok, ht, op, hr', f1, f2, f3, q⟩ := h
    obtain ⟨vs, hv, htb⟩ := id hB
    have hlv := htb.len
    have no : ∀ H', Same H H' → ¬ MixOk ps p k1 k2 w1 w2 → Q (.bl false) H' := fun H' s e => q false H' ⟨fun z => (by cases z), fun z => absurd z e⟩ s
    refine ⟨_, (pss_cons (ps_asg (pv 1) (pg_tupK K (n := 4) rfl rfl (pgs_cons (pg_name (i := 3) sc__law_mixture.nd rfl (Or.inl rfl)) (pgs_cons (pg_name (i := 4) sc__law_mixture.nd rfl (Or.inl rfl)) (pgs_cons (pg_name (i := 5) sc__law_mixture.nd rfl (Or.inl rfl)) (pgs_cons (pg_name (i := 6) sc__law_mixture.nd rfl (Or.inl rfl)) pgs_nil))))))
          (pss_cons (ps_if (PW.pt (pw_or (pt_val (pe_callB (anyK K rfl rfl) rfl B.any boot_any (pa_cons (pe_comp (N' := ["_law_place", "_law_book_here"]) (k := 1) (js := [0]) ⟨rfl, by decide +kernel, by decide +kernel, by rfl, by rfl, rfl⟩ rfl (pi_listK K rfl (pe_lst (pa_cons (pv 3) (pa_cons (pv 4) pa_nil))))
            (fun _ _ _ _ _ => (pg_name (i := 0) (show (["_law_place", "_law_book_here"] : List Str).Nodup by decide +kernel) rfl (Or.inl rfl))) (go_name (by decide)) (fun _ _ _ _ _ => pts_nil)
            (fun _ _ _ _ _ => (pe_not (pe_chain op_le op_lt pe_int (pv 0) (pe_callB (lenK K) rfl B.len PySem.boot_len (pa_cons (pv 1) pa_nil)))))) pa_nil))) (pw_or (pt_cmpR op_lt (pv 5) pe_int (nomark _)) (pw_or (pt_cmpR op_lt (pv 6) pe_int (nomark _)) (pw_or1 (pt_cmpR op_eq (pe_op op_add (pv 5) (pv 6)) pe_int (nomark _))))))) (pss_one (ps_ret pe_bl)) pss_nil)
          (pss_cons (ps_for PassesOwn.never rfl (pi_range1 rfl B.range (pa_cons pe_int pa_nil)) (pg_name (i := 7) sc__law_mixture.nd rfl (Or.inl rfl))
          (pss_cons (ps_set (i := 8) sc__law_mixture.nd rfl (Or.inl rfl) (pe_op op_add (pe_op op_mulF (pv 5) (pe_ix (ix_tupK K) (pe_ix (ix_listK K) (pv 0) (pv 3) (fun _ _ => rfl)) (pv 7) (fun _ _ => rfl))) (pe_op op_mulF (pv 6) (pe_ix (ix_tupK K) (pe_ix (ix_listK K) (pv 0) (pv 4) (fun _ _ => rfl)) (pv 7) (fun _ _ => rfl)))))
          (pss_one (ps_if (pt_cmpR op_gt (pv 8) (pe_op op_mulF (pe_op op_add (pv 5) (pv 6)) (pe_ix (ix_tupK K) (pv 2) (pv 7) (fun _ _ => rfl))) (nomark _)) (pss_one (ps_ret pe_bl)) pss_nil))))
          (pss_one (ps_ret pe_bl))))), ?_⟩
    refine ⟨_, rfl, r, _, rfl, SqT.of hr', rfl, _, _, rfl, _, _, rfl, _, _, rfl, _, _, rfl, rfl, ?_⟩
    refine ⟨_, rfl, _, rfl, two_le, fun l hl => ?_⟩
    have s1 := same_new hl (.lst [.int k1, .int k2])
    have g1 : (upd H l (.lst [.int k1, .int k2])) l = some (.lst ([k1, k2].map V.int)) := upd_same
    generalize upd H l (.lst [.int k1, .int k2]) = H1 at s1 g1 ⊢
    have hv1 := s1 _ _ hv
    refine ⟨l, rfl, ⟨_, SqL.of g1⟩, comp_list (K := K) (a := l) (xs := [k1, k2].map V.int) (fun i ys H3 => H1 = H3 ∧ Anys (fun j => ∀ k, [k1, k2][j]? = some k → 0 ≤ k ∧ k < (ps.length : Int)) i ys) ⟨rfl, anys_nil _⟩ (fun i ys H3 hi ⟨e, ha⟩ => ⟨by rw [← e]; exact SqL.of g1, ha.lt (by have : i ≤ 2 := hi; omega)⟩) ?_ ?_⟩
    · rintro i v ys H3 hi ⟨rfl, ha⟩
      obtain ⟨k, hk, rfl⟩ := int_at hi
      refine nameYes ?_
      refine ⟨_, rfl, _, _, rfl, rfl, _, rfl, ?_⟩
      by_cases k0 : 0 ≤ k
      · refine iteY (decide_eq_true k0) ?_
        refine ⟨_, rfl, b, vs, rfl, .inl (SqL.of hv1), _, _, rfl, rfl, _, rfl, rfl, ha.snoc ?_⟩
        rw [Bool.not_eq_false', decide_eq_true_iff, hlv]
        exact ⟨fun z k' e => by rw [hk] at e; cases e; exact ⟨k0, z⟩, fun z => (z k hk).2⟩
      · refine iteN (decide_eq_false k0) ?_
        refine ⟨_, rfl, rfl, ha.snoc ⟨fun z => (by cases z), fun z => absurd (z k hk).1 k0⟩⟩
    rintro ys H3 ⟨rfl, bs1, rfl, _, hb1⟩ D hD
    refine ⟨D, bs1, rfl, SqL.of upd_same, _, rfl, ?_⟩
    have inb : bs1.any id = false ↔ ((0 ≤ k1 ∧ k1 < (ps.length : Int)) ∧ (0 ≤ k2 ∧ k2 < (ps.length : Int))) := by
      rw [hb1]
      constructor
      · intro z
        exact ⟨z 0 (show 0 < 2 by decide) k1 rfl, z 1 (show 1 < 2 by decide) k2 rfl⟩
      · intro z j hj k e
        match j, e with
        | 0, e => cases e; exact z.1
        | 1, e => cases e; exact z.2
        | n + 2, e => simp at e
    have s2 := s1.trans (same_new hD (.lst (bs1.map V.bl)))
    generalize upd H1 D (.lst (bs1.map V.bl)) = H2 at s2 ⊢
    clear hb1 hD g1 hv1 s1
    by_cases c1 : bs1.any id = false
    case neg =>
      exact iteY (by simpa using c1) (iteT (no H2 s2 fun z => c1 (inb.mpr ⟨z.in1, z.in2⟩)))
    refine iteN c1 ?_
    obtain ⟨⟨a0, a1⟩, ⟨b0, b1⟩⟩ := inb.mp c1
    refine ⟨_, rfl, _, _, rfl, rfl, _, rfl, ?_⟩
    by_cases c2 : w1 < 0
    case pos =>
      exact iteY (decide_eq_true c2) (iteT (no H2 s2 fun z => by have := z.n1; omega))
    refine iteN (decide_eq_false c2) ?_
    refine ⟨_, rfl, _, _, rfl, rfl, _, rfl, ?_⟩
    by_cases c3 : w2 < 0
    case pos =>
      exact iteY (decide_eq_true c3) (iteT (no H2 s2 fun z => by have := z.n2; omega))
    refine iteN (decide_eq_false c3) ?_
    refine ⟨_, rfl, _, rfl, _, _, rfl, rfl, rfl, _, rfl, ?_⟩
    by_cases c4 : w1 + w2 = 0
    case pos =>
      exact iteY (decide_eq_true (congrArg V.int c4)) (no H2 s2 fun z => by have := z.pos; omega)
    refine iteN (decide_eq_false fun z => c4 (V.int.inj z)) ?_
    have htb2 := htb.same s2
    have hv2 := s2 _ _ hv
    obtain ⟨u1, hu1, r1, rfl, hr1⟩ := paired_get' htb2 (place_ok a0 a1)
    obtain ⟨u2, hu2, r2, rfl, hr2⟩ := paired_get' htb2 (place_ok b0 b1)
    have o1 := hok _ (List.mem_of_getElem? (place_ok a0 a1))
    have o2 := hok _ (List.mem_of_getElem? (place_ok b0 b1))
    have ht2 := s2 _ _ ht
    let nth : (Int × Int) → Nat → Int := fun p i => if i = 0 then p.1 else p.2
    have at2 : ∀ (p : Int × Int) (i : Nat), i < 2 → atI [V.int p.1, V.int p.2] ((0 : Int) + (i : Nat)) = some (.int (nth p i)) := fun p i hi => by
      match i, hi with
      | 0, _ => rfl
      | 1, _ => rfl
    have fitn : ∀ (p : Int × Int) (i : Nat), OkT p → Fit (nth p i) := fun p i o => by
      show Fit (if i = 0 then p.1 else p.2)
      split
      · exact o.1.fit
      · exact o.2.fit
    refine ⟨2, rfl, by decide, by decide, for_range (lo := 0) (n := (2 : Int).toNat) (fun i σ H3 => H3 = H2 ∧ (∃ v7 v8, σ = [some (.ref b), some (.ref r), some (.ref t), some (.int k1), some (.int k2), some (.int w1), some (.int w2), v7, v8]) ∧ ∀ j, j < i → w1 * nth (tar ps k1) j + w2 * nth (tar ps k2) j ≤ (w1 + w2) * nth p j)
      ⟨rfl, ⟨_, _, rfl⟩, fun j hj => absurd hj (Nat.not_lt_zero j)⟩ ?_ ?_⟩
    · rintro i σ H3 hi ⟨rfl, ⟨v7, v8, rfl⟩, hall⟩
      have hi2 : i < 2 := hi
      refine ⟨_, rfl, _, rfl, _, rfl, b, vs, k1, _, rfl, rfl, SqL.of hv2, atI_of a0 hu1, _, rfl, r1, _, _, _, rfl, rfl, SqT.of hr1, at2 _ i hi2, _, _, rfl, rfl, ⟨f1, fitn _ i o1⟩, _, rfl, _, rfl, _, rfl, b, vs, k2, _, rfl, rfl, SqL.of hv2, atI_of b0 hu2, _, rfl, r2, _, _, _, rfl, rfl, SqT.of hr2, at2 _ i hi2, _, _, rfl, rfl, ⟨f2, fitn _ i o2⟩, _, _, rfl, rfl, ?_⟩
      refine ⟨_, rfl, _, rfl, _, rfl, _, _, rfl, rfl, _, rfl, _, rfl, t, _, _, _, rfl, rfl, SqT.of ht2, at2 p i hi2, _, _, rfl, rfl, ⟨f3, fitn p i op⟩, _, _, rfl, rfl, _, rfl, ?_⟩
      by_cases c5 : (w1 + w2) * nth p i < w1 * nth (tar ps k1) i + w2 * nth (tar ps k2) i
      · refine iteY (decide_eq_true c5) (no _ s2 fun z => ?_)
        match i, hi2, c5 with
        | 0, _, c5 =>
          have h1 : w1 * (tar ps k1).1 + w2 * (tar ps k2).1 ≤ (w1 + w2) * p.1 := z.once
          have h2 : (w1 + w2) * p.1 < w1 * (tar ps k1).1 + w2 * (tar ps k2).1 := c5
          omega
        | 1, _, c5 =>
          have h1 : w1 * (tar ps k1).2 + w2 * (tar ps k2).2 ≤ (w1 + w2) * p.2 := z.piece
          have h2 : (w1 + w2) * p.2 < w1 * (tar ps k1).2 + w2 * (tar ps k2).2 := c5
          omega
      · refine iteN (decide_eq_false c5) ⟨rfl, ⟨_, _, rfl⟩, fun j hj => ?_⟩
        by_cases ej : j = i
        · subst ej
          omega
        · exact hall j (by omega)
    · rintro σ H3 ⟨rfl, ⟨v7, v8, rfl⟩, hall⟩
      refine q true _ ⟨fun _ => ⟨⟨a0, a1⟩, ⟨b0, b1⟩, by omega, by omega, by omega, hall 0 (by decide), hall 1 (by decide)⟩, fun _ => rfl⟩ s2
end
end My

set_option Elab.async false
set_option linter.all false
set_option maxRecDepth 100000
set_option maxHeartbeats 8000000
namespace My
open PySem PyProof.Rows L2
/-! ### Alone, Needless -/
def AloneOk (ps : List (Int × Int)) (k x y : Int) : Prop := ∀ (j : Nat) p, ps[j]? = some p → (j : Int) ≠ k → cst (tar ps k) x y < cst p x y
structure NeedOk (ps : List (Int × Int)) (k k1 k2 w1 w2 : Int) : Prop where
  mix : MixOk ps (tar ps k) k1 k2 w1 w2
  ne1 : k1 ≠ k
  ne2 : k2 ≠ k
theorem Alls.skip {c : Nat → Prop} {i : Nat} {ys : List V} (h : Alls c i ys) (hc : c i) : Alls c (i + 1) ys := by
  obtain ⟨bs, rfl, h1, h2⟩ := h
  refine ⟨bs, rfl, by omega, ?_⟩
  rw [h2]
  constructor
  · intro a j hj
    by_cases e : j = i
    · subst e; exact hc
    · exact a j (by omega)
  · intro a j hj
    exact a j (by omega)
abbrev fAlone (r : Addr) : List (Str × V) := putF "amount" (.ref r) []
theorem fAlone_amount (r : Addr) : (fAlone r).lookup ("amount" : Str) = some (.ref r) := rfl
theorem fAlone_no (r : Addr) : (fAlone r).lookup ("shows" : Str) = none := rfl
abbrev fNeed (a b c d : Int) : List (Str × V) := putF "second" (.int d) (putF "first" (.int c) (putF "other" (.int b) (putF "one" (.int a) [])))
theorem fNeed_one (a b c d : Int) : (fNeed a b c d).lookup ("one" : Str) = some (.int a) := rfl
theorem fNeed_other (a b c d : Int) : (fNeed a b c d).lookup ("other" : Str) = some (.int b) := rfl
theorem fNeed_first (a b c d : Int) : (fNeed a b c d).lookup ("first" : Str) = some (.int c) := rfl
theorem fNeed_second (a b c d : Int) : (fNeed a b c d).lookup ("second" : Str) = some (.int d) := rfl
theorem fNeed_no (a b c d : Int) : (fNeed a b c d).lookup ("shows" : Str) = none := rfl
inductive Ans2 where
  | alone (x y : Int)
  | need (k1 k2 w1 w2 : Int)
def AnsAt2 (z : Cz) (H : Hp) (a : Addr) : Ans2 → Prop
  | .alone x y => ∃ dx r, H a = some (.ins z.Alone dx (fAlone r)) ∧ H r = some (.tup [.int x, .int y])
  | .need k1 k2 w1 w2 => ∃ dx, H a = some (.ins z.Needless dx (fNeed k1 k2 w1 w2))
def AnsOk2 : Ans2 → Prop
  | .alone x y => OkA x y
  | .need _ _ w1 w2 => Fit w1 ∧ Fit w2 ∧ Fit (w1 + w2)
def AnsP2 (ps : List (Int × Int)) (k : Int) : Ans2 → Prop
  | .alone x y => AloneOk ps k x y
  | .need k1 k2 w1 w2 => NeedOk ps k k1 k2 w1 w2
def clsOf2 (z : Cz) : Ans2 → Addr
  | .alone _ _ => z.Alone
  | .need _ _ _ _ => z.Needless
theorem AnsAt2.same {z : Cz} {H H' : Hp} {a : Addr} {v : Ans2} (h : AnsAt2 z H a v) (s : Same H H') : AnsAt2 z H' a v := by
  cases v with
  | alone x y => obtain ⟨dx, r, h1, h2⟩ := h; exact ⟨dx, r, s _ _ h1, s _ _ h2⟩
  | need k1 k2 w1 w2 => obtain ⟨dx, h1⟩ := h; exact ⟨dx, s _ _ h1⟩
section
variable {P : Program} {w : World} {K : PySem.W.Frag} {mg : Str → Option Value} {base : Heap} {z : Cz}
def spAloneInit (z : Cz) : Sp := fun vs H Q _ => ∃ (a dx r : Addr), vs = [.ref a, .ref r] ∧ H a = some (.ins z.Alone dx []) ∧ Q .non (upd H a (.ins z.Alone dx (fAlone r)))
theorem sc_Alone_init : FnScope ["self", "amount"] ["self", "amount"] (defScope s_Alone_init) := ⟨rfl, rfl, rfl, by decide +kernel, rfl, by decide +kernel, by decide +kernel⟩
theorem ok_Alone_init {f : Addr} {fd : FuncData} (F : Fun K "__init__" "Alone.__init__" s_Alone_init f fd) (B : Bl mg) (T : CT K mg z) : FnOk P w K mg base CX0 1 f fd ["self", "amount"] (spAloneInit z) := by
  refine F.ok sc_Alone_init (fun vs H Q E h => ?_) (fun cdv A outer s H vs Q E hr h => ?_)
  · obtain ⟨a, dx, r, rfl, _⟩ := h
    rfl
  · obtain ⟨a, dx, r, rfl, ha, q⟩ := h
    refine ⟨_, (pss_one (ps_fld (pv 0) (pv 1) rfl)), ?_⟩
    exact ⟨_, rfl, _, rfl, a, _, dx, _, rfl, ha, T.cl_Alone, T.no_Alone_amount, (by show 0 < 1000; decide), q⟩
def spNeedInit (z : Cz) : Sp := fun vs H Q _ => ∃ (a dx : Addr) (k1 k2 w1 w2 : Int), vs = [.ref a, .int k1, .int k2, .int w1, .int w2] ∧ H a = some (.ins z.Needless dx []) ∧ Q .non (upd H a (.ins z.Needless dx (fNeed k1 k2 w1 w2)))
theorem sc_Needless_init : FnScope ["self", "one", "other", "first", "second"] ["self", "one", "other", "first", "second"] (defScope s_Needless_init) := ⟨rfl, rfl, rfl, by decide +kernel, rfl, by decide +kernel, by decide +kernel⟩
theorem ok_Needless_init {f : Addr} {fd : FuncData} (F : Fun K "__init__" "Needless.__init__" s_Needless_init f fd) (B : Bl mg) (T : CT K mg z) : FnOk P w K mg base CX0 1 f fd ["self", "one", "other", "first", "second"] (spNeedInit z) := by
  refine F.ok sc_Needless_init (fun vs H Q E h => ?_) (fun cdv A outer s H vs Q E hr h => ?_)
  · obtain ⟨a, dx, k1, k2, w1, w2, rfl, _⟩ := h
    rfl
  · obtain ⟨a, dx, k1, k2, w1, w2, rfl, ha, q⟩ := h
    refine ⟨_, (pss_cons (ps_fld (pv 0) (pv 1) rfl)
          (pss_cons (ps_fld (pv 0) (pv 2) rfl)
          (pss_cons (ps_fld (pv 0) (pv 3) rfl)
          (pss_one (ps_fld (pv 0) (pv 4) rfl))))), ?_⟩
    refine ⟨_, rfl, _, rfl, a, _, dx, _, rfl, ha, T.cl_Needless, T.no_Needless_one, (by show 0 < 1000; decide), ?_⟩
    refine ⟨_, rfl, _, rfl, a, _, dx, _, rfl, upd_same, T.cl_Needless, T.no_Needless_other, (by show 1 < 1000; decide), ?_⟩
    rw [upd_upd]
    refine ⟨_, rfl, _, rfl, a, _, dx, _, rfl, upd_same, T.cl_Needless, T.no_Needless_first, (by show 2 < 1000; decide), ?_⟩
    rw [upd_upd]
    refine ⟨_, rfl, _, rfl, a, _, dx, _, rfl, upd_same, T.cl_Needless, T.no_Needless_second, (by show 3 < 1000; decide), ?_⟩
    rw [upd_upd]
    exact q
def spAloneShows (z : Cz) : Sp := fun vs H Q _ => ∃ (a b : Addr) (k x y : Int) (ps : List (Int × Int)), vs = [.ref a, .ref b, .int k] ∧ AnsAt2 z H a (.alone x y) ∧ OkA x y ∧ BookAt H b ps ∧ ps.length ≤ 1000 ∧ (∀ p ∈ ps, OkT p) ∧ 0 ≤ k ∧ k < (ps.length : Int) ∧
  ∀ v H', (v = true ↔ AloneOk ps k x y) → Same H H' → Q (.bl v) H'
theorem sc_Alone_shows : FnScope ["self", "book", "place", "tops"] ["self", "book", "place"] (defScope s_Alone_shows) := ⟨rfl, rfl, rfl, by decide +kernel, rfl, by decide +kernel, by decide +kernel⟩
theorem ok_Alone_shows {f : Addr} {fd : FuncData} {f_is_amount f_tops_of_cost : Addr} {d_is_amount d_tops_of_cost : FuncData} (F : Fun K "shows" "Alone.shows" s_Alone_shows f fd) (B : Bl mg) (T : CT K mg z)
    (c_is_amount : Cl P w K mg base 3 "is_amount" ["value"] spIsAm f_is_amount d_is_amount)
    (c_tops_of_cost : Cl P w K mg base 2 "tops_of_cost" ["book", "amount"] spTops f_tops_of_cost d_tops_of_cost) : FnOk P w K mg base CX0 4 f fd ["self", "book", "place"] (spAloneShows z) := by
  refine F.ok sc_Alone_shows (fun vs H Q E h => ?_) (fun cdv A outer s H vs Q E hr h => ?_)
  · obtain ⟨a, b, k, x, y, ps, rfl, _⟩ := h
    rfl
  · obtain ⟨a, b, k, x, y, ps, rfl, ⟨dx, r, ha, hr'⟩, am, hB, hln, hok, k0, k1, q⟩ := h
    refine ⟨_, (pss_cons (ps_if (pt_not (pt_val (pe_call c_is_amount.ok (hr.mono (by decide)) rfl c_is_amount.mg c_is_amount.kp c_is_amount.bd .nil pass0 (pa_cons (pe_fldK K rfl (pv 0) rfl) pa_nil)))) (pss_one (ps_ret pe_bl)) pss_nil)
          (pss_cons (ps_set (i := 3) sc_Alone_shows.nd rfl (Or.inr rfl) (pe_call c_tops_of_cost.ok (hr.mono (by decide)) rfl c_tops_of_cost.mg c_tops_of_cost.kp c_tops_of_cost.bd .nil pass0 (pa_cons (pv 1) (pa_cons (pe_fldK K rfl (pv 0) rfl) pa_nil))))
          (pss_one (ps_ret (pe_callB (allK K rfl rfl) rfl B.all boot_all (pa_cons (pe_comp (N' := ["index", "top", "place", "tops"]) (k := 2) (js := [2, 3]) ⟨rfl, by decide +kernel, by decide +kernel, by rfl, by rfl, rfl⟩ rfl (pi_enumK K rfl rfl B.enum (pa_cons (pv 3) pa_nil))
            (fun _ _ _ _ _ => (pg_tupK K (n := 2) rfl rfl (pgs_cons (pg_name (i := 0) (show (["index", "top", "place", "tops"] : List Str).Nodup by decide +kernel) rfl (Or.inl rfl)) (pgs_cons (pg_name (i := 1) (show (["index", "top", "place", "tops"] : List Str).Nodup by decide +kernel) rfl (Or.inl rfl)) pgs_nil)))) (go_tup (gos_cons (go_name (by decide)) (gos_cons (go_name (by decide)) gos_nil))) (fun _ _ _ _ _ => pts_one (pt_cmpR op_ne (pv 0) (pv 2) (nomark _)))
            (fun _ _ _ _ _ => (pe_cmpR op_gt (pv 1) (pe_ix (ix_listK K) (pv 3) (pv 2) (fun _ _ => rfl)) (nomark _)))) pa_nil)))))), ?_⟩
    refine ⟨_, rfl, a, _, dx, _, _, rfl, ha, T.cl_Alone, T.no_Alone_amount, fAlone_amount r, r, x, y, rfl, hr', am.x0.1, am.y1, am.cop, _, rfl, iteF ?_⟩
    refine ⟨_, rfl, _, rfl, a, _, dx, _, _, rfl, ha, T.cl_Alone, T.no_Alone_amount, fAlone_amount r, b, r, ps, x, y, rfl, hB, hln, hok, hr', am, fun t ht => ?_⟩
    have s1 := same_new ht (.lst ((costs ps x y).map V.int))
    have g1 : (upd H t (.lst ((costs ps x y).map V.int))) t = some (.lst ((costs ps x y).map V.int)) := upd_same
    generalize upd H t (.lst ((costs ps x y).map V.int)) = H1 at s1 g1 ⊢
    have hlc : ((costs ps x y).map V.int).length = ps.length := by rw [List.length_map, costs, List.length_map]
    refine ⟨_, rfl, t, rfl, ⟨_, SqL.of g1⟩, comp_enum (K := K) (a := t) (xs := (costs ps x y).map V.int) (fun i ys H2 => Same H1 H2 ∧ Alls (fun j => ∀ p, ps[j]? = some p → (j : Int) ≠ k → cst (tar ps k) x y < cst p x y) i ys) ⟨Same.refl _, alls_nil _⟩ (fun i ys H2 hi ⟨e, ha⟩ => ⟨e.seq (SqL.of g1), ha.lt (by omega)⟩) ?_ ?_⟩
    · rintro i v ys H2 p hi ⟨s2, ha⟩ hp
      obtain ⟨c, hc, rfl⟩ := int_at hi
      rw [costs] at hc
      obtain ⟨pj, hpj, rfl⟩ := at_map hc
      have s3 := s2.trans (same_new hp (.tup [.int (i : Nat), .int (cst pj x y)]))
      refine ⟨p, _, rfl, SqT.of upd_same, rfl, _, _, rfl, _, _, rfl, rfl, ?_⟩
      refine ⟨_, rfl, _, rfl, rfl, _, rfl, ?_⟩
      by_cases c1 : (i : Int) = k
      · refine iteN (by rw [c1]; simp) ?_
        exact ⟨s3, ha.skip fun p' _ n => absurd c1 n⟩
      · refine iteY (by rw [decide_eq_false (fun e => c1 (V.int.inj e))]; rfl) ?_
        refine ⟨_, rfl, _, rfl, _, rfl, t, _, k, _, rfl, rfl, SqL.of (s3 _ _ g1), atI_of k0 (costs_at k0 k1), _, _, rfl, rfl, s3, ha.snoc ?_⟩
        rw [decide_eq_true_iff]
        refine ⟨fun z p' e _ => ?_, fun z => z pj hpj c1⟩
        rw [hpj] at e; cases e
        exact z
    · rintro ys H2 ⟨s2, bs, rfl, _, hb⟩ D hD
      refine ⟨D, bs, rfl, SqL.of upd_same, q _ _ ?_ ((s1.trans s2).trans (same_new hD _))⟩
      rw [hb]
      exact ⟨fun z j p e n => z j (by rw [hlc]; exact (List.getElem?_eq_some_iff.mp e).1) p e n, fun z j _ p e n => z j p e n⟩
def spNeedShows (z : Cz) : Sp := fun vs H Q _ => ∃ (a b : Addr) (k k1 k2 w1 w2 : Int) (ps : List (Int × Int)), vs = [.ref a, .ref b, .int k] ∧ AnsAt2 z H a (.need k1 k2 w1 w2) ∧ AnsOk2 (.need k1 k2 w1 w2) ∧ BookAt H b ps ∧ (∀ p ∈ ps, OkT p) ∧ 0 ≤ k ∧ k < (ps.length : Int) ∧
  ∀ v H', (v = true ↔ NeedOk ps k k1 k2 w1 w2) → Same H H' → Q (.bl v) H'
theorem sc_Needless_shows : FnScope ["self", "book", "place", "row"] ["self", "book", "place"] (defScope s_Needless_shows) := ⟨rfl, rfl, rfl, by decide +kernel, rfl, by decide +kernel, by decide +kernel⟩
theorem ok_Needless_shows {f : Addr} {fd : FuncData} {f_is_mixture : Addr} {d_is_mixture : FuncData} (F : Fun K "shows" "Needless.shows" s_Needless_shows f fd) (B : Bl mg) (T : CT K mg z)
    (c_is_mixture : Cl P w K mg base 4 "is_mixture" ["book", "tariff", "row"] spMixture f_is_mixture d_is_mixture) : FnOk P w K mg base CX0 5 f fd ["self", "book", "place"] (spNeedShows z) := by
  refine F.ok sc_Needless_shows (fun vs H Q E h => ?_) (fun cdv A outer s H vs Q E hr h => ?_)
  · obtain ⟨a, b, k, k1, k2, w1, w2, ps, rfl, _⟩ := h
    rfl
  · obtain ⟨a, b, k, k1, k2, w1, w2, ps, rfl, ⟨dx, ha⟩, ⟨f1, f2, f3⟩, hB, hok, k0, kl, q⟩ := h
    refine ⟨_, (pss_cons (ps_set (i := 3) sc_Needless_shows.nd rfl (Or.inl rfl) (pe_tup (pa_cons (pe_fldK K rfl (pv 0) rfl) (pa_cons (pe_fldK K rfl (pv 0) rfl) (pa_cons (pe_fldK K rfl (pv 0) rfl) (pa_cons (pe_fldK K rfl (pv 0) rfl) pa_nil))))))
          (pss_one (ps_ret (pe_and (pe_call c_is_mixture.ok (hr.mono (by decide)) rfl c_is_mixture.mg c_is_mixture.kp c_is_mixture.bd .nil pass0 (pa_cons (pv 1) (pa_cons (pe_ix (ix_listK K) (pv 1) (pv 2) (fun _ _ => rfl)) (pa_cons (pv 3) pa_nil)))) (pe_and (pe_cmpR op_ne (pe_fldK K rfl (pv 0) rfl) (pv 2) (nomark _)) (pe_one (pe_cmpR op_ne (pe_fldK K rfl (pv 0) rfl) (pv 2) (nomark _)))))))), ?_⟩
    refine ⟨_, rfl, a, _, dx, _, _, rfl, ha, T.cl_Needless, T.no_Needless_one, fNeed_one _ _ _ _, _, rfl, a, _, dx, _, _, rfl, ha, T.cl_Needless, T.no_Needless_other, fNeed_other _ _ _ _, _, rfl, a, _, dx, _, _, rfl, ha, T.cl_Needless, T.no_Needless_first, fNeed_first _ _ _ _, _, rfl, a, _, dx, _, _, rfl, ha, T.cl_Needless, T.no_Needless_second, fNeed_second _ _ _ _, four_le, fun r hr' => ?_⟩
    have s1 := same_new hr' (.tup [.int k1, .int k2, .int w1, .int w2])
    have g1 : (upd H r (.tup [.int k1, .int k2, .int w1, .int w2])) r = some (.tup [.int k1, .int k2, .int w1, .int w2]) := upd_same
    generalize upd H r (.tup [.int k1, .int k2, .int w1, .int w2]) = H1 at s1 g1 ⊢
    have hB1 := hB.same s1
    obtain ⟨vs, hv, htb⟩ := id hB1
    obtain ⟨u, hu, rt, rfl, hrt⟩ := paired_get' htb (place_ok k0 kl)
    have ot := hok _ (List.mem_of_getElem? (place_ok k0 kl))
    refine ⟨_, rfl, _, rfl, _, rfl, b, vs, k, _, rfl, rfl, SqL.of hv, atI_of k0 hu, _, rfl, b, rt, r, ps, tar ps k, k1, k2, w1, w2, rfl, hB1, hok, hrt, ot, g1, f1, f2, f3, fun v1 e1 => ⟨_, rfl, ?_⟩⟩
    have ha1 := s1 _ _ ha
    by_cases c1 : v1 = true
    case neg =>
      exact iteN (Bool.eq_false_iff.mpr c1) (q false H1 ⟨fun z => (by cases z), fun z => absurd (e1.mpr z.mix) c1⟩ s1)
    refine iteY c1 ?_
    refine ⟨_, rfl, a, _, dx, _, _, rfl, ha1, T.cl_Needless, T.no_Needless_one, fNeed_one _ _ _ _, _, rfl, rfl, _, rfl, ?_⟩
    by_cases c2 : k1 = k
    case pos =>
      exact iteN (by rw [c2]; simp) (q false H1 ⟨fun z => (by cases z), fun z => absurd c2 z.ne1⟩ s1)
    refine iteY (by rw [decide_eq_false (fun e => c2 (V.int.inj e))]; rfl) ?_
    refine ⟨_, rfl, a, _, dx, _, _, rfl, ha1, T.cl_Needless, T.no_Needless_other, fNeed_other _ _ _ _, _, rfl, rfl, q _ H1 ?_ s1⟩
    rw [Bool.not_eq_true', decide_eq_false_iff_not]
    exact ⟨fun z => ⟨e1.mp c1, c2, fun e => z (by rw [e])⟩, fun z e => z.ne2 (V.int.inj e)⟩
/-! ### the law's own look -/
def spLAlone : Sp := fun vs H Q _ => ∃ (b r : Addr) (k x y : Int) (ps : List (Int × Int)), vs = [.ref b, .int k, .ref r] ∧ BookAt H b ps ∧ ps.length ≤ 1000 ∧ (∀ p ∈ ps, OkT p) ∧ 0 ≤ k ∧ k < (ps.length : Int) ∧ H r = some (.tup [.int x, .int y]) ∧ OkA x y ∧
  ∀ v H', (v = true ↔ AloneOk ps k x y) → Same H H' → Q (.bl v) H'
theorem sc__law_alone : FnScope ["_law_book_here", "_law_place", "_law_amount", "_law_others"] ["_law_book_here", "_law_place", "_law_amount"] (defScope s__law_alone) := ⟨rfl, rfl, rfl, by decide +kernel, rfl, by decide +kernel, by decide +kernel⟩
theorem ok__law_alone {f : Addr} {fd : FuncData} {f__law_cost : Addr} {d__law_cost : FuncData} (F : Fun K "_law_alone" "_law_alone" s__law_alone f fd) (B : Bl mg) (T : CT K mg z)
    (c__law_cost : Cl P w K mg base 1 "_law_cost" ["_law_tariff", "_law_amount"] spTop f__law_cost d__law_cost) : FnOk P w K mg base CX0 2 f fd ["_law_book_here", "_law_place", "_law_amount"] spLAlone := by
  refine F.ok sc__law_alone (fun vs H Q E h => ?_) (fun cdv A outer s H vs Q E hr h => ?_)
  · obtain ⟨b, r, k, x, y, ps, rfl, _⟩ := h
    rfl
  · obtain ⟨b, r, k, x, y, ps, rfl, hB, hln, hok, k0, k1, hr', am, q⟩ := h
    obtain ⟨vs, hv, ht⟩ := id hB
    have hlv := ht.len
    refine ⟨_, (pss_cons (ps_setComp (N' := ["_law_at", "_law_tariff", "_law_place"]) (k := 2) (js := [1]) (i := 3) ⟨rfl, by decide +kernel, by decide +kernel, by rfl, by rfl, rfl⟩ rfl sc__law_alone.nd rfl rfl (pi_enumK K rfl rfl B.enum (pa_cons (pv 0) pa_nil))
            (fun _ _ _ _ _ => (pg_tupK K (n := 2) rfl rfl (pgs_cons (pg_name (i := 0) (show (["_law_at", "_law_tariff", "_law_place"] : List Str).Nodup by decide +kernel) rfl (Or.inl rfl)) (pgs_cons (pg_name (i := 1) (show (["_law_at", "_law_tariff", "_law_place"] : List Str).Nodup by decide +kernel) rfl (Or.inl rfl)) pgs_nil)))) (go_tup (gos_cons (go_name (by decide)) (gos_cons (go_name (by decide)) gos_nil))) (fun _ _ _ _ _ => pts_one (pt_cmpR op_ne (pv 0) (pv 2) (nomark _)))
            (fun _ _ _ _ _ => (pv 1)))
          (pss_one (ps_ret (pe_callB (allK K rfl rfl) rfl B.all boot_all (pa_cons (pe_comp (N' := ["_law_tariff", "_law_book_here", "_law_place", "_law_amount"]) (k := 1) (js := [0, 1, 2]) ⟨rfl, by decide +kernel, by decide +kernel, by rfl, by rfl, rfl⟩ rfl (pi_listK K rfl (pv 3))
            (fun _ _ _ _ _ => (pg_name (i := 0) (show (["_law_tariff", "_law_book_here", "_law_place", "_law_amount"] : List Str).Nodup by decide +kernel) rfl (Or.inl rfl))) (go_name (by decide)) (fun _ _ _ _ _ => pts_nil)
            (fun _ _ _ _ _ => (pe_cmpR op_gt (pe_call c__law_cost.ok (hr.mono (by decide)) rfl c__law_cost.mg c__law_cost.kp c__law_cost.bd .nil pass0 (pa_cons (pv 0) (pa_cons (pv 3) pa_nil))) (pe_call c__law_cost.ok (hr.mono (by decide)) rfl c__law_cost.mg c__law_cost.kp c__law_cost.bd .nil pass0 (pa_cons (pe_ix (ix_listK K) (pv 1) (pv 2) (fun _ _ => rfl)) (pa_cons (pv 3) pa_nil))) (nomark _)))) pa_nil))))), ?_⟩
    refine ⟨_, rfl, b, rfl, ⟨_, SqL.of hv⟩, comp_enum (K := K) (a := b) (xs := vs) (fun i ys H2 => Same H H2 ∧ ∃ os, TarsAt H2 ys os ∧ os.length ≤ i ∧ ∀ o, o ∈ os ↔ ∃ j, j < i ∧ ps[j]? = some o ∧ (j : Int) ≠ k)
      ⟨Same.refl _, [], .nil, Nat.le_refl _, fun o => ⟨fun h => (by cases h), fun ⟨j, h, _⟩ => absurd h (Nat.not_lt_zero j)⟩⟩ (fun i ys H2 hi ⟨e, os, h1, h2, _⟩ => ⟨e.seq (SqL.of hv), ?_⟩) ?_ ?_⟩
    · rw [h1.len]
      exact small1000 (by omega)
    · rintro i v ys H2 p hi ⟨s2, os, h1, h2, h3⟩ hp
      obtain ⟨t, ht', r1, rfl, hr1⟩ := paired_get ht hi
      have s3 := same_new hp (.tup [.int (i : Nat), .ref r1])
      refine ⟨p, _, rfl, SqT.of upd_same, rfl, _, _, rfl, _, _, rfl, rfl, ?_⟩
      refine ⟨_, rfl, _, rfl, rfl, _, rfl, ?_⟩
      by_cases c1 : (i : Int) = k
      · refine iteN (by rw [c1]; simp) ?_
        refine ⟨s2.trans s3, os, h1.same s3, by omega, fun o => ?_⟩
        rw [h3]
        constructor
        · rintro ⟨j, a1, a2, a3⟩
          exact ⟨j, by omega, a2, a3⟩
        · rintro ⟨j, a1, a2, a3⟩
          by_cases ej : j = i
          · subst ej; exact absurd c1 a3
          · exact ⟨j, by omega, a2, a3⟩
      · refine iteY (by rw [decide_eq_false (fun e => c1 (V.int.inj e))]; rfl) ?_
        refine ⟨_, rfl, s2.trans s3, os ++ [t], paired_append (h1.same s3) (.cons ⟨r1, rfl, s3 _ _ (s2 _ _ hr1)⟩ .nil), by rw [List.length_append]; show os.length + 1 ≤ i + 1; omega, fun o => ?_⟩
        rw [List.mem_append, h3]
        constructor
        · rintro (⟨j, a1, a2, a3⟩ | h)
          · exact ⟨j, by omega, a2, a3⟩
          · rw [List.mem_singleton.mp h]
            exact ⟨i, by omega, ht', c1⟩
        · rintro ⟨j, a1, a2, a3⟩
          by_cases ej : j = i
          · subst ej
            rw [ht'] at a2; cases a2
            exact .inr (List.mem_singleton.mpr rfl)
          · exact .inl ⟨j, by omega, a2, a3⟩
    · rintro ys H2 ⟨s2, os, h1, h2, h3⟩ D hD
      have s3 := s2.trans (same_new hD (.lst ys))
      have g3 : (upd H2 D (.lst ys)) D = some (.lst ys) := upd_same
      have h1' := h1.same (same_new hD (.lst ys))
      generalize upd H2 D (.lst ys) = H3 at s3 g3 h1' ⊢
      have hv3 := s3 _ _ hv
      have ht3 := ht.same s3
      have hr3 := s3 _ _ hr'
      obtain ⟨u, hu, rt, rfl, hrt⟩ := paired_get' ht3 (place_ok k0 k1)
      have ot := hok _ (List.mem_of_getElem? (place_ok k0 k1))
      have okO : ∀ o ∈ os, OkT o := fun o ho => by
        obtain ⟨j, _, e, _⟩ := (h3 o).mp ho
        exact hok o (List.mem_of_getElem? e)
      have hlo := h1'.len
      refine ⟨_, rfl, D, rfl, ⟨_, SqL.of g3⟩, comp_list (K := K) (a := D) (xs := ys) (fun i zs H4 => H3 = H4 ∧ Alls (fun j => ∀ o, os[j]? = some o → cst (tar ps k) x y < cst o x y) i zs) ⟨rfl, alls_nil _⟩ (fun i zs H4 hi ⟨e, ha⟩ => ⟨by rw [← e]; exact SqL.of g3, ha.lt (by omega)⟩) ?_ ?_⟩
      · rintro i v zs H4 hi ⟨rfl, ha⟩
        obtain ⟨o, ho, ro, rfl, hro⟩ := paired_get h1' hi
        have oo := okO o (List.mem_of_getElem? ho)
        refine nameYes ?_
        refine ⟨_, rfl, _, rfl, ro, r, _, _, x, y, rfl, hro, hr3, oo.1.fit, oo.2.fit, am.x0.fit, am.y0.fit, _, rfl, _, rfl, b, vs, k, _, rfl, rfl, SqL.of hv3, atI_of k0 hu, _, rfl, rt, r, _, _, x, y, rfl, hrt, hr3, ot.1.fit, ot.2.fit, am.x0.fit, am.y0.fit, _, _, rfl, rfl, rfl, ha.snoc ?_⟩
        rw [decide_eq_true_iff]
        refine ⟨fun z o' e => ?_, fun z => z o ho⟩
        rw [ho] at e; cases e
        exact z
      · rintro zs H4 ⟨rfl, bs, rfl, _, hb⟩ D2 hD2
        refine ⟨D2, bs, rfl, SqL.of upd_same, q _ _ ?_ (s3.trans (same_new hD2 _))⟩
        rw [hb]
        constructor
        · intro z j p e n
          obtain ⟨j', hj'⟩ := List.getElem?_of_mem ((h3 p).mpr ⟨j, by rw [hlv]; exact (List.getElem?_eq_some_iff.mp e).1, e, n⟩)
          exact z j' (by rw [hlo]; exact (List.getElem?_eq_some_iff.mp hj').1) p hj'
        · intro z j _ o e
          obtain ⟨j', _, e', n⟩ := (h3 o).mp (List.mem_of_getElem? e)
          exact z j' o e' n
def spLNeed : Sp := fun vs H Q _ => ∃ (b r : Addr) (k k1 k2 w1 w2 : Int) (ps : List (Int × Int)), vs = [.ref b, .int k, .ref r] ∧ BookAt H b ps ∧ (∀ p ∈ ps, OkT p) ∧ 0 ≤ k ∧ k < (ps.length : Int) ∧ H r = some (.tup [.int k1, .int k2, .int w1, .int w2]) ∧ Fit w1 ∧ Fit w2 ∧ Fit (w1 + w2) ∧
  ∀ v H', (v = true ↔ NeedOk ps k k1 k2 w1 w2) → Same H H' → Q (.bl v) H'
theorem sc__law_needless : FnScope ["_law_book_here", "_law_place", "_law_row"] ["_law_book_here", "_law_place", "_law_row"] (defScope s__law_needless) := ⟨rfl, rfl, rfl, by decide +kernel, rfl, by decide +kernel, by decide +kernel⟩
theorem ok__law_needless {f : Addr} {fd : FuncData} {f__law_mixture : Addr} {d__law_mixture : FuncData} (F : Fun K "_law_needless" "_law_needless" s__law_needless f fd) (B : Bl mg) (T : CT K mg z)
    (c__law_mixture : Cl P w K mg base 1 "_law_mixture" ["_law_book_here", "_law_row", "_law_tariff"] spLMixture f__law_mixture d__law_mixture) : FnOk P w K mg base CX0 2 f fd ["_law_book_here", "_law_place", "_law_row"] spLNeed := by
  refine F.ok sc__law_needless (fun vs H Q E h => ?_) (fun cdv A outer s H vs Q E hr h => ?_)
  · obtain ⟨b, r, k, k1, k2, w1, w2, ps, rfl, _⟩ := h
    rfl
  · obtain ⟨b, r, k, k1, k2, w1, w2, ps, rfl, hB, hok, k0, kl, hr', f1, f2, f3, q⟩ := h
    obtain ⟨vs, hv, htb⟩ := id hB
    obtain ⟨u, hu, rt, rfl, hrt⟩ := paired_get' htb (place_ok k0 kl)
    have ot := hok _ (List.mem_of_getElem? (place_ok k0 kl))
    refine ⟨_, (pss_one (ps_ret (pe_and (pe_cmpR op_ne (pv 1) (pe_ix (ix_tupK K) (pv 2) pe_int (fun _ _ => rfl)) (nomark _)) (pe_and (pe_cmpR op_ne (pv 1) (pe_ix (ix_tupK K) (pv 2) pe_int (fun _ _ => rfl)) (nomark _)) (pe_one (pe_call c__law_mixture.ok (hr.mono (by decide)) rfl c__law_mixture.mg c__law_mixture.kp c__law_mixture.bd .nil pass0 (pa_cons (pv 0) (pa_cons (pv 2) (pa_cons (pe_ix (ix_listK K) (pv 0) (pv 1) (fun _ _ => rfl)) pa_nil))))))))), ?_⟩
    refine ⟨_, rfl, _, rfl, r, _, 0, _, rfl, rfl, SqT.of hr', rfl, rfl, _, rfl, ?_⟩
    by_cases c1 : k = k1
    case pos =>
      exact iteN (by rw [c1]; simp) (q false H ⟨fun z => (by cases z), fun z => absurd c1.symm z.ne1⟩ (Same.refl _))
    refine iteY (by rw [decide_eq_false (fun e => c1 (V.int.inj e))]; rfl) ?_
    refine ⟨_, rfl, _, rfl, r, _, 1, _, rfl, rfl, SqT.of hr', rfl, rfl, _, rfl, ?_⟩
    by_cases c2 : k = k2
    case pos =>
      exact iteN (by rw [c2]; simp) (q false H ⟨fun z => (by cases z), fun z => absurd c2.symm z.ne2⟩ (Same.refl _))
    refine iteY (by rw [decide_eq_false (fun e => c2 (V.int.inj e))]; rfl) ?_
    refine ⟨_, rfl, _, rfl, _, rfl, _, rfl, b, vs, k, _, rfl, rfl, SqL.of hv, atI_of k0 hu, b, r, rt, ps, tar ps k, k1, k2, w1, w2, rfl, hB, hok, hrt, ot, hr', f1, f2, f3, fun v H' e s => q v H' ?_ s⟩
    rw [e]
    exact ⟨fun z => ⟨z, fun e => c1 e.symm, fun e => c2 e.symm⟩, fun z => z.mix⟩
def spLDue (z : Cz) : Sp := fun vs H Q _ => ∃ (b a : Addr) (k : Int) (v : Ans2) (ps : List (Int × Int)), vs = [.ref b, .int k, .ref a] ∧ AnsAt2 z H a v ∧ AnsOk2 v ∧ BookAt H b ps ∧ ps.length ≤ 1000 ∧ (∀ p ∈ ps, OkT p) ∧ 0 ≤ k ∧ k < (ps.length : Int) ∧
  ∀ t H', (t = true ↔ AnsP2 ps k v) → Same H H' → Q (.bl t) H'
theorem sc__law_due : FnScope ["_law_book_here", "_law_place", "_law_found"] ["_law_book_here", "_law_place", "_law_found"] (defScope s__law_due) := ⟨rfl, rfl, rfl, by decide +kernel, rfl, by decide +kernel, by decide +kernel⟩
theorem ok__law_due {f : Addr} {fd : FuncData} {f__law_alone f__law_needless : Addr} {d__law_alone d__law_needless : FuncData} (F : Fun K "_law_due" "_law_due" s__law_due f fd) (B : Bl mg) (T : CT K mg z)
    (c__law_alone : Cl P w K mg base 2 "_law_alone" ["_law_book_here", "_law_place", "_law_amount"] spLAlone f__law_alone d__law_alone)
    (c__law_needless : Cl P w K mg base 2 "_law_needless" ["_law_book_here", "_law_place", "_law_row"] spLNeed f__law_needless d__law_needless) : FnOk P w K mg base CX0 3 f fd ["_law_book_here", "_law_place", "_law_found"] (spLDue z) := by
  refine F.ok sc__law_due (fun vs H Q E h => ?_) (fun cdv A outer s H vs Q E hr h => ?_)
  · obtain ⟨b, a, k, v, ps, rfl, _⟩ := h
    rfl
  · obtain ⟨b, a, k, v, ps, rfl, hA, aok, hB, hln, hok, k0, kl, q⟩ := h
    refine ⟨_, (pss_cons (ps_if (pt_val (pe_callB (isCK K (C := z.Alone)) rfl B.isi boot_isinstance (pa_cons (pv 2) (pa_cons (pe_glob (v := .ref z.Alone) rfl T.mg_Alone rfl) pa_nil)))) (pss_one (ps_ret (pe_call c__law_alone.ok (hr.mono (by decide)) rfl c__law_alone.mg c__law_alone.kp c__law_alone.bd .nil pass0 (pa_cons (pv 0) (pa_cons (pv 1) (pa_cons (pe_fldK K rfl (pv 2) rfl) pa_nil)))))) pss_nil)
          (pss_one (ps_ret (pe_call c__law_needless.ok (hr.mono (by decide)) rfl c__law_needless.mg c__law_needless.kp c__law_needless.bd .nil pass0 (pa_cons (pv 0) (pa_cons (pv 1) (pa_cons (pe_tup (pa_cons (pe_fldK K rfl (pv 2) rfl) (pa_cons (pe_fldK K rfl (pv 2) rfl) (pa_cons (pe_fldK K rfl (pv 2) rfl) (pa_cons (pe_fldK K rfl (pv 2) rfl) pa_nil))))) pa_nil))))))), ?_⟩
    cases v with
    | alone x y =>
      obtain ⟨dx, r, h1, h2⟩ := id hA
      refine ⟨_, rfl, _, _, _, rfl, T.ty_Alone.of T.cl_Alone h1, T.kit_Alone_Alone, _, rfl, iteT ?_⟩
      exact ⟨_, rfl, _, rfl, _, rfl, a, _, dx, _, _, rfl, h1, T.cl_Alone, T.no_Alone_amount, fAlone_amount r, b, r, k, x, y, ps, rfl, hB, hln, hok, k0, kl, h2, aok, q⟩
    | need k1 k2 w1 w2 =>
      obtain ⟨dx, h1⟩ := id hA
      obtain ⟨f1, f2, f3⟩ := aok
      refine ⟨_, rfl, _, _, _, rfl, T.ty_Needless.of T.cl_Needless h1, T.kit_Needless_Alone, _, rfl, iteF ?_⟩
      refine ⟨_, rfl, _, rfl, _, rfl, a, _, dx, _, _, rfl, h1, T.cl_Needless, T.no_Needless_one, fNeed_one _ _ _ _, _, rfl, a, _, dx, _, _, rfl, h1, T.cl_Needless, T.no_Needless_other, fNeed_other _ _ _ _, _, rfl, a, _, dx, _, _, rfl, h1, T.cl_Needless, T.no_Needless_first, fNeed_first _ _ _ _, _, rfl, a, _, dx, _, _, rfl, h1, T.cl_Needless, T.no_Needless_second, fNeed_second _ _ _ _, four_le, fun r hr' => ?_⟩
      have s1 := same_new hr' (.tup [.int k1, .int k2, .int w1, .int w2])
      exact ⟨b, r, k, k1, k2, w1, w2, ps, rfl, hB.same s1, hok, k0, kl, upd_same, f1, f2, f3, fun t H' e s => q t H' e (s1.trans s)⟩
end
end My

set_option Elab.async false
set_option linter.all false
set_option maxRecDepth 100000
set_option maxHeartbeats 8000000
namespace My
open PySem PyProof.Rows L2
section
variable {P : Program} {w : World} {K : PySem.W.Frag} {mg : Str → Option Value} {base : Heap} {z : Cz}
def spAlone (z : Cz) : Sp := fun vs H Q _ => ∃ (b : Addr) (k : Int) (ps : List (Int × Int)), vs = [.ref b, .int k] ∧ BookAt H b ps ∧ ps ≠ [] ∧ ps.length ≤ 1000 ∧ (∀ p ∈ ps, MdT p) ∧ 0 ≤ k ∧ k < (ps.length : Int) ∧ Tab H ∧
  ∀ (a : Addr) (v : Ans2) (H' : Hp), SameT H H' → AnsAt2 z H' a v → AnsOk2 v → AnsP2 ps k v → Q (.ref a) H'
theorem sc_alone : FnScope ["book", "place", "others", "turns", "amount", "row"] ["book", "place"] (defScope s_alone) := ⟨rfl, rfl, rfl, by decide +kernel, rfl, by decide +kernel, by decide +kernel⟩
theorem ok_alone {f : Addr} {fd : FuncData} {f_check_book f_check_place f_lowest_terms f_least_in_turn f_amount_below f_mixture_for f_Needless_init f_Alone_init : Addr} {d_check_book d_check_place d_lowest_terms d_least_in_turn d_amount_below d_mixture_for d_Needless_init d_Alone_init : FuncData} (F : Fun K "alone" "alone" s_alone f fd) (B : Bl mg) (T : CT K mg z)
    (c_check_book : Cl P w K mg base 3 "check_book" ["book"] spChBook f_check_book d_check_book)
    (c_check_place : Cl P w K mg base 3 "check_place" ["book", "place"] spChPlace f_check_place d_check_place)
    (c_lowest_terms : Cl P w K mg base 2 "lowest_terms" ["top", "bottom"] spLow f_lowest_terms d_lowest_terms)
    (c_least_in_turn : Cl P w K mg base 2 "least_in_turn" ["book", "places"] spTurns f_least_in_turn d_least_in_turn)
    (c_amount_below : Cl P w K mg base 3 "amount_below" ["tariff", "book", "begins", "places"] spBelow f_amount_below d_amount_below)
    (c_mixture_for : Cl P w K mg base 2 "mixture_for" ["tariff", "book", "places"] spMix f_mixture_for d_mixture_for)
    (i_Needless : Ini P w K mg base 1 z.Needless ["self", "one", "other", "first", "second"] (spNeedInit z) f_Needless_init d_Needless_init)
    (i_Alone : Ini P w K mg base 1 z.Alone ["self", "amount"] (spAloneInit z) f_Alone_init d_Alone_init) : FnOk P w K mg base CX0 4 f fd ["book", "place"] (spAlone z) := by
  refine F.ok sc_alone (fun vs H Q E h => ?_) (fun cdv A outer s H vs Q E hr h => ?_)
  · obtain ⟨b, k, ps, rfl, _⟩ := h
    rfl
  · obtain ⟨b, k, ps, rfl, hB, hne, hln, hmd, k0, kl, hT, q⟩ := h
    have hok : ∀ p ∈ ps, OkT p := fun p hp => (hmd p hp).ok
    obtain ⟨vs, hv, ht⟩ := id hB
    have hlv := ht.len
    refine ⟨_, (pss_cons (ps_expr (pe_call c_check_book.ok (hr.mono (by decide)) rfl c_check_book.mg c_check_book.kp c_check_book.bd .nil pass0 (pa_cons (pv 0) pa_nil)))
          (pss_cons (ps_expr (pe_call c_check_place.ok (hr.mono (by decide)) rfl c_check_place.mg c_check_place.kp c_check_place.bd .nil pass0 (pa_cons (pv 0) (pa_cons (pv 1) pa_nil))))
          (pss_cons (ps_setComp (N' := ["index", "place"]) (k := 1) (js := [1]) (i := 2) ⟨rfl, by decide +kernel, by decide +kernel, by rfl, by rfl, rfl⟩ rfl sc_alone.nd rfl rfl (pi_range1 rfl B.range (pa_cons (pe_callB (lenK K) rfl B.len PySem.boot_len (pa_cons (pv 0) pa_nil)) pa_nil))
            (fun _ _ _ _ _ => (pg_name (i := 0) (show (["index", "place"] : List Str).Nodup by decide +kernel) rfl (Or.inl rfl))) (go_name (by decide)) (fun _ _ _ _ _ => pts_one (pt_cmpR op_ne (pv 0) (pv 1) (nomark _)))
            (fun _ _ _ _ _ => (pv 0)))
          (pss_cons (ps_if (pt_cmpR op_eq (pe_callB (lenK K) rfl B.len PySem.boot_len (pa_cons (pv 2) pa_nil)) pe_int (nomark _)) (pss_one (ps_ret (pe_make i_Alone.mkk i_Alone.ok (hr.mono (by decide)) rfl T.mg_Alone i_Alone.bd .nil pass0 (pa_cons (pe_call c_lowest_terms.ok (hr.mono (by decide)) rfl c_lowest_terms.mg c_lowest_terms.kp c_lowest_terms.bd .nil pass0 (pa_cons pe_int (pa_cons pe_int pa_nil))) pa_nil)))) pss_nil)
          (pss_cons (ps_set (i := 3) sc_alone.nd rfl (Or.inl rfl) (pe_call c_least_in_turn.ok (hr.mono (by decide)) rfl c_least_in_turn.mg c_least_in_turn.kp c_least_in_turn.bd .nil pass0 (pa_cons (pv 0) (pa_cons (pv 2) pa_nil))))
          (pss_cons (ps_set (i := 4) sc_alone.nd rfl (Or.inl rfl) (pe_call c_amount_below.ok (hr.mono (by decide)) rfl c_amount_below.mg c_amount_below.kp c_amount_below.bd .nil pass0 (pa_cons (pe_ix (ix_listK K) (pv 0) (pv 1) (fun _ _ => rfl)) (pa_cons (pv 0) (pa_cons (pe_ix (ix_tupK K) (pv 3) pe_int (fun _ _ => rfl)) (pa_cons (pe_ix (ix_tupK K) (pv 3) pe_int (fun _ _ => rfl)) pa_nil))))))
          (pss_cons (ps_if (pt_cmpR op_notN (pv 4) pe_non (nomark _)) (pss_one (ps_ret (pe_make i_Alone.mkk i_Alone.ok (hr.mono (by decide)) rfl T.mg_Alone i_Alone.bd .nil pass0 (pa_cons (pv 4) pa_nil)))) pss_nil)
          (pss_cons (ps_set (i := 5) sc_alone.nd rfl (Or.inl rfl) (pe_call c_mixture_for.ok (hr.mono (by decide)) rfl c_mixture_for.mg c_mixture_for.kp c_mixture_for.bd .nil pass0 (pa_cons (pe_ix (ix_listK K) (pv 0) (pv 1) (fun _ _ => rfl)) (pa_cons (pv 0) (pa_cons (pe_ix (ix_tupK K) (pv 3) pe_int (fun _ _ => rfl)) pa_nil)))))
          (pss_one (ps_ret (pe_make i_Needless.mkk i_Needless.ok (hr.mono (by decide)) rfl T.mg_Needless i_Needless.bd .nil pass0 (pa_cons (pe_ix (ix_tupK K) (pv 5) pe_int (fun _ _ => rfl)) (pa_cons (pe_ix (ix_tupK K) (pv 5) pe_int (fun _ _ => rfl)) (pa_cons (pe_ix (ix_tupK K) (pv 5) pe_int (fun _ _ => rfl)) (pa_cons (pe_ix (ix_tupK K) (pv 5) pe_int (fun _ _ => rfl)) pa_nil))))))))))))))), ?_⟩
    refine ⟨_, rfl, b, ps, rfl, hB, hne, hok, ?_⟩
    refine ⟨_, rfl, _, rfl, b, vs, k, rfl, hv, k0, by omega, ?_⟩
    -- the others
    refine ⟨_, rfl, b, vs, rfl, .inl (SqL.of hv), _, rfl, by omega, by omega, comp_range (lo := 0) (n := ((vs.length : Nat) : Int).toNat) (fun i ys H2 => H = H2 ∧ ∃ ns : List Int, ys = ns.map V.int ∧ ns.length ≤ i ∧ ∀ n, n ∈ ns ↔ (0 ≤ n ∧ n < (i : Int) ∧ n ≠ k))
      ⟨rfl, [], rfl, Nat.le_refl _, fun n => ⟨fun h => (by cases h), fun h => (by have := h.1; have := h.2.1; omega)⟩⟩ (fun i ys H2 hi ⟨_, ns, e, h2, _⟩ => ?_) ?_ ?_⟩
    · rw [e, List.length_map]
      exact small1000 (by omega)
    · rintro i ys H2 hi ⟨rfl, ns, rfl, h2, h3⟩
      refine ⟨_, rfl, _, rfl, rfl, _, rfl, ?_⟩
      by_cases c1 : (0 : Int) + (i : Nat) = k
      · refine iteN (by rw [c1]; simp) ⟨rfl, ns, rfl, by omega, fun n => ?_⟩
        rw [h3]
        omega
      · refine iteY (by rw [decide_eq_false (fun e => c1 (V.int.inj e))]; rfl) ?_
        refine ⟨_, rfl, rfl, ns ++ [(0 : Int) + (i : Nat)], by rw [List.map_append]; rfl, by rw [List.length_append]; show ns.length + 1 ≤ i + 1; omega, fun n => ?_⟩
        rw [List.mem_append, h3, List.mem_singleton]
        omega
    rintro ys H2 ⟨rfl, ns, rfl, h2, h3⟩ D hD
    have s1 := same_new hD (.lst (ns.map V.int))
    have g1 : (upd H D (.lst (ns.map V.int))) D = some (.lst (ns.map V.int)) := upd_same
    generalize upd H D (.lst (ns.map V.int)) = H1 at s1 g1 ⊢
    have h3' : ∀ n, n ∈ ns ↔ (0 ≤ n ∧ n < (ps.length : Int) ∧ n ≠ k) := fun n => by rw [h3]; omega
    have hnl : ns.length ≤ 1000 := by omega
    clear h2 h3
    refine ⟨_, rfl, D, _, rfl, .inl (SqL.of g1), rfl, _, rfl, ?_⟩
    rw [List.length_map]
    have mkA : ∀ (Hx : Hp) (r : Addr) (x y : Int), SameT H Hx → Hx r = some (.tup [.int x, .int y]) → OkA x y → AloneOk ps k x y → ∀ x' dx, Hx x' = none → Hx dx = none → dx ≠ x' → spAloneInit z (.ref x' :: ([.ref r] ++ [])) (upd (upd Hx dx (.own x')) x' (.ins z.Alone dx [])) (fun v H2 => v = .non ∧ Q (.ref x') H2) E0 := fun Hx r x y sx hr' am ao x' dx hx hdx ndx => by
      have s6 : Same Hx (upd (upd Hx dx (.own x')) x' (.ins z.Alone dx [])) := (same_new hdx _).trans (same_new (by rw [upd_ne ndx.symm]; exact hx) _)
      refine ⟨x', dx, r, rfl, upd_same, rfl, ?_⟩
      rw [upd_upd]
      have s7 : Same Hx (upd (upd Hx dx (.own x')) x' (.ins z.Alone dx (fAlone r))) := (same_new hdx _).trans (same_new (by rw [upd_ne ndx.symm]; exact hx) _)
      exact q x' (.alone x y) _ (sx.then s7) ⟨dx, r, upd_same, s7 _ _ hr'⟩ am ao
    by_cases c0 : ns.length = 0
    · refine iteY (decide_eq_true (by rw [c0]; rfl)) ?_
      refine ⟨0, 1, rfl, by decide, by decide, fitK (by decide +kernel), fun r hr' => ?_⟩
      have s2 := same_new hr' (.tup [.int (lowA 0 1), .int (lowB 0 1)])
      refine mkA _ r _ _ ((s1.trans s2).t hT) upd_same (okA_low ⟨by decide, by decide⟩ ⟨by decide, by decide⟩ (by decide)) (fun j p e n => ?_)
      have hm := (h3' (j : Int)).mpr ⟨by omega, by have := (List.getElem?_eq_some_iff.mp e).1; omega, n⟩
      rw [List.eq_nil_of_length_eq_zero c0] at hm
      cases hm
    · refine iteN (decide_eq_false fun e => c0 (by have := V.int.inj e; omega)) ?_
      have hnn : ns ≠ [] := fun e => c0 (by rw [e]; rfl)
      refine ⟨_, rfl, _, rfl, b, D, ps, ns, rfl, hB.same s1, hok, g1, hnl, hnn, fun n hn => (by have := (h3' n).mp hn; exact ⟨this.1, this.2.1⟩), hT.same s1, fun r bA kA H3 L us sT t1 t2 t3 t4 hull hk hLl _ _ => ?_⟩
      have sA : SameT H H3 := (s1.t hT).trans sT
      have hB3 := hB.sameT sA
      obtain ⟨v3, hv3, ht3⟩ := id hB3
      obtain ⟨u, hu, rt, rfl, hrt⟩ := paired_get' ht3 (place_ok k0 kl)
      have mt : MdT (tar ps k) := hmd _ (List.mem_of_getElem? (place_ok k0 kl))
      have sub : ∀ s ∈ ns.map (tar ps), s ∈ ps := fun s hs => by
        obtain ⟨n, hn, rfl⟩ := List.mem_map.mp hs
        obtain ⟨a0, a1, _⟩ := (h3' n).mp hn
        exact List.mem_of_getElem? (place_ok a0 a1)
      have TA : TurnsAt H3 b bA kA ps (ns.map (tar ps)) us L := ⟨hB3, hmd, t2, t3, t4, hull, fun e he => by
        obtain ⟨a1, a2⟩ := hk e he
        obtain ⟨b0, b1, _⟩ := (h3' _).mp a1
        exact ⟨⟨b0, b1⟩, a2⟩, by omega, sub⟩
      refine ⟨_, rfl, _, rfl, b, v3, k, _, rfl, rfl, SqL.of hv3, atI_of k0 hu, _, rfl, _, rfl, r, _, 0, _, rfl, rfl, SqT.of t1, rfl, _, rfl, r, _, 1, _, rfl, rfl, SqT.of t1, rfl, rt, b, bA, kA, tar ps k, ps, ns.map (tar ps), us, L, rfl, hrt, mt, TA, fun r2 x y hr2 am bel => ?_, fun n e to he c1 c2 => ?_⟩
      · have s4 := same_new hr2 (.tup [.int x, .int y])
        have g4 : (upd H3 r2 (.tup [.int x, .int y])) r2 = some (.tup [.int x, .int y]) := upd_same
        generalize upd H3 r2 (.tup [.int x, .int y]) = H4 at s4 g4 ⊢
        refine ⟨_, rfl, rfl, _, rfl, iteT ?_⟩
        refine ⟨_, rfl, mkA H4 r2 x y (sA.then s4) g4 am fun j p e n => ?_⟩
        refine bel p (List.mem_map.mpr ⟨(j : Int), (h3' _).mpr ⟨by omega, by have := (List.getElem?_eq_some_iff.mp e).1; omega, n⟩, ?_⟩)
        show ps.getD (j : Int).toNat (0, 0) = p
        rw [Int.toNat_natCast, List.getD_eq_getElem?_getD, e]
        rfl
      · refine ⟨_, rfl, rfl, _, rfl, iteF ?_⟩
        refine ⟨_, rfl, _, rfl, b, v3, k, _, rfl, rfl, SqL.of hv3, atI_of k0 hu, _, rfl, _, rfl, r, _, 1, _, rfl, rfl, SqT.of t1, rfl, rt, b, bA, kA, tar ps k, ps, ns.map (tar ps), us, L, n, e, rfl, hrt, mt, TA, to, he, c1, c2, fun r2 k1 k2 w1 w2 hr2 mix m1 m2 e1 e2 => ?_⟩
        have s4 := same_new hr2 (.tup [.int k1, .int k2, .int w1, .int w2])
        have g4 : (upd H3 r2 (.tup [.int k1, .int k2, .int w1, .int w2])) r2 = some (.tup [.int k1, .int k2, .int w1, .int w2]) := upd_same
        generalize upd H3 r2 (.tup [.int k1, .int k2, .int w1, .int w2]) = H4 at s4 g4 ⊢
        refine ⟨_, rfl, r2, _, 0, _, rfl, rfl, SqT.of g4, rfl, _, rfl, r2, _, 1, _, rfl, rfl, SqT.of g4, rfl, _, rfl, r2, _, 2, _, rfl, rfl, SqT.of g4, rfl, _, rfl, r2, _, 3, _, rfl, rfl, SqT.of g4, rfl, fun x' dx hx hdx ndx => ?_⟩
        refine ⟨x', dx, k1, k2, w1, w2, rfl, upd_same, rfl, ?_⟩
        rw [upd_upd]
        have s7 : Same H4 (upd (upd H4 dx (.own x')) x' (.ins z.Needless dx (fNeed k1 k2 w1 w2))) := (same_new hdx _).trans (same_new (by rw [upd_ne ndx.symm]; exact hx) _)
        have inN : ∀ k', (∃ e ∈ L, e.k = k') → k' ≠ k := fun k' ⟨e, he, ee⟩ => by
          rw [← ee]
          exact ((h3' _).mp (hk e he).1).2.2
        exact q x' (.need k1 k2 w1 w2) _ ((sA.then s4).then s7) ⟨dx, upd_same⟩ ⟨fit_md m1, fit_md m2, fit_md2 m1 m2⟩ ⟨mix, inN _ e1, inN _ e2⟩
end
end My

set_option Elab.async false
set_option linter.all false
set_option maxRecDepth 100000
set_option maxHeartbeats 8000000
namespace My
open PySem PyProof.Rows L2
theorem ty_ans {K : PySem.W.Frag} {mg : Str → Option Value} {z : Cz} (T : CT K mg z) {H : Hp} {a : Addr} {v : Ans2} (h : AnsAt2 z H a v) : TyOf K H (.ref a) (.ref (clsOf2 z v)) := by
  cases v with
  | alone x y => obtain ⟨dx, r, h1, h2⟩ := h; exact T.ty_Alone.of T.cl_Alone h1
  | need k1 k2 w1 w2 => obtain ⟨dx, h1⟩ := h; exact T.ty_Needless.of T.cl_Needless h1
def isAl : Ans2 → Bool | .alone _ _ => true | _ => false
def isNe : Ans2 → Bool | .need _ _ _ _ => true | _ => false
section
variable {K : PySem.W.Frag} {mg : Str → Option Value} {z : Cz}
theorem kitAlone (T : CT K mg z) (v : Ans2) : PySem.W.kitOne K (.ref (clsOf2 z v)) (.ref z.Alone) = some (isAl v) := by cases v; exact T.kit_Alone_Alone; exact T.kit_Needless_Alone
theorem kitNeedless (T : CT K mg z) (v : Ans2) : PySem.W.kitOne K (.ref (clsOf2 z v)) (.ref z.Needless) = some (isNe v) := by cases v; exact T.kit_Alone_Needless; exact T.kit_Needless_Needless
theorem kitDear (T : CT K mg z) (v : Ans2) : PySem.W.kitOne K (.ref (clsOf2 z v)) (.ref z.Dear) = some false := by cases v; exact T.kit_Alone_Dear; exact T.kit_Needless_Dear
theorem kitEndless (T : CT K mg z) (v : Ans2) : PySem.W.kitOne K (.ref (clsOf2 z v)) (.ref z.Endless) = some false := by cases v; exact T.kit_Alone_Endless; exact T.kit_Needless_Endless
theorem kitMost (T : CT K mg z) (v : Ans2) : PySem.W.kitOne K (.ref (clsOf2 z v)) (.ref z.Most) = some false := by cases v; exact T.kit_Alone_Most; exact T.kit_Needless_Most
theorem kitOver (T : CT K mg z) (v : Ans2) : PySem.W.kitOne K (.ref (clsOf2 z v)) (.ref z.Over) = some false := by cases v; exact T.kit_Alone_Over; exact T.kit_Needless_Over
theorem kitRanges (T : CT K mg z) (v : Ans2) : PySem.W.kitOne K (.ref (clsOf2 z v)) (.ref z.Ranges) = some false := by cases v; exact T.kit_Alone_Ranges; exact T.kit_Needless_Ranges
theorem kitUnder (T : CT K mg z) (v : Ans2) : PySem.W.kitOne K (.ref (clsOf2 z v)) (.ref z.Under) = some false := by cases v; exact T.kit_Alone_Under; exact T.kit_Needless_Under
theorem kitAnswer (T : CT K mg z) (v : Ans2) : PySem.W.kitOne K (.ref (clsOf2 z v)) (.ref z.Answer) = some true := by cases v; exact T.kit_Alone_Answer; exact T.kit_Needless_Answer
end
/-- found.shows(book, place), whatever the answer is -/
theorem shows_any {z : Cz} {i j l : Nat} {σ : L2.St} {H : Hp} {Q : VK} {a b : Addr} {v : Ans2} {k : Int} {ps : List (Int × Int)} (h1 : σ[i]? = some (some (.ref a))) (h2 : σ[j]? = some (some (.ref b))) (h3 : σ[l]? = some (some (.int k)))
    (hA : AnsAt2 z H a v) (ok : AnsOk2 v) (hB : BookAt H b ps) (hln : ps.length ≤ 1000) (hok : ∀ p ∈ ps, OkT p) (k0 : 0 ≤ k) (kl : k < (ps.length : Int)) (q : ∀ t H', (t = true ↔ AnsP2 ps k v) → Same H H' → Q (.bl t) H') :
    tMeth z.Alone "shows" (spAloneShows z) [] E0 (tVar i) (tCons (tVar j) (tCons (tVar l) tNil)) σ H Q ∨ tMeth z.Needless "shows" (spNeedShows z) [] E0 (tVar i) (tCons (tVar j) (tCons (tVar l) tNil)) σ H Q := by
  cases v with
  | alone x y =>
    obtain ⟨dx, r, e1, e2⟩ := id hA
    exact .inl ⟨_, h1, a, dx, _, rfl, e1, fAlone_no _, _, h2, _, h3, a, b, k, x, y, ps, rfl, hA, ok, hB, hln, hok, k0, kl, q⟩
  | need k1 k2 w1 w2 =>
    obtain ⟨dx, e1⟩ := id hA
    exact .inr ⟨_, h1, a, dx, _, rfl, e1, fNeed_no _ _ _ _, _, h2, _, h3, a, b, k, k1, k2, w1, w2, ps, rfl, hA, ok, hB, hok, k0, kl, q⟩
section
variable {P : Program} {w : World} {K : PySem.W.Frag} {mg : Str → Option Value} {base : Heap} {z : Cz}
def spLRight (z : Cz) : Sp := fun vs H Q _ => ∃ (b : Addr) (k : Int) (ps : List (Int × Int)), vs = [.ref b, .int k] ∧ BookAt H b ps ∧ ps ≠ [] ∧ ps.length ≤ 900 ∧ (∀ p ∈ ps, MdT p) ∧ 0 ≤ k ∧ k < (ps.length : Int) ∧ Tab H ∧ ∀ H', SameT H H' → Q (.bl true) H'
theorem sc__law_right : FnScope ["_law_book_here", "_law_place", "_law_handed", "_law_found", "_law_kinds", "_law_good", "_law_other", "_law_beside"] ["_law_book_here", "_law_place"] (defScope s__law_right) := ⟨rfl, rfl, rfl, by decide +kernel, rfl, by decide +kernel, by decide +kernel⟩
theorem ok__law_right {f : Addr} {fd : FuncData} {f_alone f__law_is_amount f__law_whole f__law_due f_Alone_shows f_Needless_shows : Addr} {d_alone d__law_is_amount d__law_whole d__law_due d_Alone_shows d_Needless_shows : FuncData} (F : Fun K "_law_right" "_law_right" s__law_right f fd) (B : Bl mg) (T : CT K mg z)
    (c_alone : Cl P w K mg base 4 "alone" ["book", "place"] (spAlone z) f_alone d_alone)
    (c__law_is_amount : Cl P w K mg base 2 "_law_is_amount" ["_law_found"] spLIsAm f__law_is_amount d__law_is_amount)
    (c__law_whole : Cl P w K mg base 1 "_law_whole" ["_law_found"] spLWhole f__law_whole d__law_whole)
    (c__law_due : Cl P w K mg base 3 "_law_due" ["_law_book_here", "_law_place", "_law_found"] (spLDue z) f__law_due d__law_due)
    (m_Alone_shows : Mtd P w K mg base 4 z.Alone "shows" ["self", "book", "place"] (spAloneShows z) f_Alone_shows d_Alone_shows)
    (m_Needless_shows : Mtd P w K mg base 5 z.Needless "shows" ["self", "book", "place"] (spNeedShows z) f_Needless_shows d_Needless_shows) : FnOk P w K mg base CX0 6 f fd ["_law_book_here", "_law_place"] (spLRight z) := by
  refine F.ok sc__law_right (fun vs H Q E h => ?_) (fun cdv A outer s H vs Q E hr h => ?_)
  · obtain ⟨b, k, ps, rfl, _⟩ := h
    rfl
  · obtain ⟨b, k, ps, rfl, hB, hne, hln, hmd, k0, kl, hT, q⟩ := h
    have hok : ∀ p ∈ ps, OkT p := fun p hp => (hmd p hp).ok
    obtain ⟨vs, hv, ht⟩ := id hB
    have hlv := ht.len
    refine ⟨_, (pss_cons (ps_set (i := 2) sc__law_right.nd rfl (Or.inl rfl) (pe_callTy (listK K) rfl B.list boot_list (pa_cons (pv 0) pa_nil)))
          (pss_cons (ps_set (i := 3) sc__law_right.nd rfl (Or.inl rfl) (pe_call c_alone.ok (hr.mono (by decide)) rfl c_alone.mg c_alone.kp c_alone.bd .nil pass0 (pa_cons (pv 2) (pa_cons (pv 1) pa_nil))))
          (pss_cons (ps_set (i := 4) sc__law_right.nd rfl (Or.inl rfl) (pe_lst (pa_cons (pe_callB (isCK K (C := z.Alone)) rfl B.isi boot_isinstance (pa_cons (pv 3) (pa_cons (pe_glob (v := .ref z.Alone) rfl T.mg_Alone rfl) pa_nil))) (pa_cons (pe_callB (isCK K (C := z.Dear)) rfl B.isi boot_isinstance (pa_cons (pv 3) (pa_cons (pe_glob (v := .ref z.Dear) rfl T.mg_Dear rfl) pa_nil))) (pa_cons (pe_callB (isCK K (C := z.Endless)) rfl B.isi boot_isinstance (pa_cons (pv 3) (pa_cons (pe_glob (v := .ref z.Endless) rfl T.mg_Endless rfl) pa_nil))) (pa_cons (pe_callB (isCK K (C := z.Most)) rfl B.isi boot_isinstance (pa_cons (pv 3) (pa_cons (pe_glob (v := .ref z.Most) rfl T.mg_Most rfl) pa_nil))) pa_nil))))))
          (pss_cons (ps_set (i := 4) sc__law_right.nd rfl (Or.inl rfl) (pe_op (catK K) (pv 4) (pe_lst (pa_cons (pe_callB (isCK K (C := z.Needless)) rfl B.isi boot_isinstance (pa_cons (pv 3) (pa_cons (pe_glob (v := .ref z.Needless) rfl T.mg_Needless rfl) pa_nil))) (pa_cons (pe_callB (isCK K (C := z.Over)) rfl B.isi boot_isinstance (pa_cons (pv 3) (pa_cons (pe_glob (v := .ref z.Over) rfl T.mg_Over rfl) pa_nil))) (pa_cons (pe_callB (isCK K (C := z.Ranges)) rfl B.isi boot_isinstance (pa_cons (pv 3) (pa_cons (pe_glob (v := .ref z.Ranges) rfl T.mg_Ranges rfl) pa_nil))) pa_nil))))))
          (pss_cons (ps_expr (pe_bm PySem.F.plainAttrs_list PySem.F.slot_list_append PySem.F.type_list_append mt_append (pv 4) (pa_cons (pe_callB (isCK K (C := z.Under)) rfl B.isi boot_isinstance (pa_cons (pv 3) (pa_cons (pe_glob (v := .ref z.Under) rfl T.mg_Under rfl) pa_nil))) pa_nil)))
          (pss_cons (ps_if (PW.pt (pw_or (pt_not (pt_val (pe_callB (isCK K (C := z.Answer)) rfl B.isi boot_isinstance (pa_cons (pv 3) (pa_cons (pe_glob (v := .ref z.Answer) rfl T.mg_Answer rfl) pa_nil))))) (pw_or (pt_cmpR op_ne (pe_bm PySem.F.plainAttrs_list PySem.F.slot_list_count PySem.F.type_list_count (countK K) (pv 4) (pa_cons pe_bl pa_nil)) pe_int (nomark _)) (pw_or1 (pt_cmpR (neK K rfl hr.units) (pv 2) (pv 0) (nomark _)))))) (pss_one (ps_ret pe_bl)) pss_nil)
          (pss_cons (ps_if (pt_val (pe_callB (isCK K (C := z.Alone)) rfl B.isi boot_isinstance (pa_cons (pv 3) (pa_cons (pe_glob (v := .ref z.Alone) rfl T.mg_Alone rfl) pa_nil)))) (pss_one (ps_set (i := 5) sc__law_right.nd rfl (Or.inl rfl) (pe_call c__law_is_amount.ok (hr.mono (by decide)) rfl c__law_is_amount.mg c__law_is_amount.kp c__law_is_amount.bd .nil pass0 (pa_cons (pe_fldK K rfl (pv 3) rfl) pa_nil)))) (pss_cons (ps_set (i := 5) sc__law_right.nd rfl (Or.inl rfl) (pe_and (pe_callB (isCK K (C := z.Needless)) rfl B.isi boot_isinstance (pa_cons (pv 3) (pa_cons (pe_glob (v := .ref z.Needless) rfl T.mg_Needless rfl) pa_nil))) (pe_and (pe_call c__law_whole.ok (hr.mono (by decide)) rfl c__law_whole.mg c__law_whole.kp c__law_whole.bd .nil pass0 (pa_cons (pe_fldK K rfl (pv 3) rfl) pa_nil)) (pe_one (pe_call c__law_whole.ok (hr.mono (by decide)) rfl c__law_whole.mg c__law_whole.kp c__law_whole.bd .nil pass0 (pa_cons (pe_fldK K rfl (pv 3) rfl) pa_nil))))))
          (pss_one (ps_set (i := 5) sc__law_right.nd rfl (Or.inl rfl) (pe_and (pv 5) (pe_and (pe_call c__law_whole.ok (hr.mono (by decide)) rfl c__law_whole.mg c__law_whole.kp c__law_whole.bd .nil pass0 (pa_cons (pe_fldK K rfl (pv 3) rfl) pa_nil)) (pe_one (pe_call c__law_whole.ok (hr.mono (by decide)) rfl c__law_whole.mg c__law_whole.kp c__law_whole.bd .nil pass0 (pa_cons (pe_fldK K rfl (pv 3) rfl) pa_nil)))))))))
          (pss_cons (ps_if (PW.pt (pw_or (pt_not (pt_val (pv 5))) (pw_or (pt_not (pt_val (pe_call c__law_due.ok (hr.mono (by decide)) rfl c__law_due.mg c__law_due.kp c__law_due.bd .nil pass0 (pa_cons (pv 0) (pa_cons (pv 1) (pa_cons (pv 3) pa_nil)))))) (pw_or1 (pt_cmpR op_notB (pe_alt (pe_meth (pv 3) T.cl_Alone m_Alone_shows.mt m_Alone_shows.ok (hr.mono (by decide)) m_Alone_shows.bd .nil pass0 (pa_cons (pv 0) (pa_cons (pv 1) pa_nil))) (pe_meth (pv 3) T.cl_Needless m_Needless_shows.mt m_Needless_shows.ok (hr.mono (by decide)) m_Needless_shows.bd .nil pass0 (pa_cons (pv 0) (pa_cons (pv 1) pa_nil)))) pe_bl (nomark _)))))) (pss_one (ps_ret pe_bl)) pss_nil)
          (pss_cons (ps_for PassesOwn.never rfl (pi_listK K rfl (pe_lst (pa_cons (pe_tup (pa_cons (pv 0) (pa_cons (pe_op op_mod (pe_op op_add (pv 1) pe_int) (pe_callB (lenK K) rfl B.len PySem.boot_len (pa_cons (pv 0) pa_nil))) pa_nil))) (pa_cons (pe_tup (pa_cons (pe_slice3K K rfl (pv 0) po_none po_none (po_some (pe_un un_neg pe_int))) (pa_cons (pv 1) pa_nil))) (pa_cons (pe_tup (pa_cons (pe_op (catK K) (pv 0) (pe_lst (pa_cons (pe_ix (ix_listK K) (pv 0) (pv 1) (fun _ _ => rfl)) pa_nil))) (pa_cons (pv 1) pa_nil))) pa_nil))))) (pg_tupK K (n := 2) rfl rfl (pgs_cons (pg_name (i := 6) sc__law_right.nd rfl (Or.inl rfl)) (pgs_cons (pg_name (i := 7) sc__law_right.nd rfl (Or.inl rfl)) pgs_nil)))
          (pss_one (ps_if (pt_cmpR op_ne (pe_alt (pe_meth (pv 3) T.cl_Alone m_Alone_shows.mt m_Alone_shows.ok (hr.mono (by decide)) m_Alone_shows.bd .nil pass0 (pa_cons (pv 6) (pa_cons (pv 7) pa_nil))) (pe_meth (pv 3) T.cl_Needless m_Needless_shows.mt m_Needless_shows.ok (hr.mono (by decide)) m_Needless_shows.bd .nil pass0 (pa_cons (pv 6) (pa_cons (pv 7) pa_nil)))) (pe_call c__law_due.ok (hr.mono (by decide)) rfl c__law_due.mg c__law_due.kp c__law_due.bd .nil pass0 (pa_cons (pv 6) (pa_cons (pv 7) (pa_cons (pv 3) pa_nil)))) (nomark _)) (pss_one (ps_ret pe_bl)) pss_nil)))
          (pss_one (ps_ret pe_bl))))))))))), ?_⟩
    -- handed, found
    refine ⟨_, rfl, b, vs, rfl, .inl (SqL.of hv), fun h hh => ?_⟩
    have s1 := same_new hh (.lst vs)
    have hH1 : BookAt (upd H h (.lst vs)) h ps := ⟨vs, upd_same, ht.same s1⟩
    have hT1 := TabOk.same hT s1
    generalize upd H h (.lst vs) = H1 at s1 hH1 hT1 ⊢
    have hB1 := hB.same s1
    refine ⟨_, rfl, _, rfl, h, k, ps, rfl, hH1, hne, by omega, hmd, k0, kl, hT1, fun a v H2 sT hA aok hv2 => ?_⟩
    have hH2 := hH1.sameT sT
    have hB2 := hB1.sameT sT
    have sA : SameT H H2 := (s1.t hT).trans sT
    clear s1 hH1 hT1 hB1 sT hv ht hB
    -- kinds
    refine ⟨_, rfl, _, _, _, rfl, ty_ans T hA, kitAlone T v, _, rfl, _, _, _, rfl, ty_ans T hA, kitDear T v, _, rfl, _, _, _, rfl, ty_ans T hA, kitEndless T v, _, rfl, _, _, _, rfl, ty_ans T hA, kitMost T v, four_le, fun l1 hl1 => ?_⟩
    have s3 := same_new hl1 (.lst [.bl (isAl v), .bl false, .bl false, .bl false])
    have e3 : (upd H2 l1 (.lst [.bl (isAl v), .bl false, .bl false, .bl false])) l1 = some (.lst [.bl (isAl v), .bl false, .bl false, .bl false]) := upd_same
    generalize upd H2 l1 (.lst [.bl (isAl v), .bl false, .bl false, .bl false]) = H3 at s3 e3 ⊢
    have hA3 := hA.same s3
    refine ⟨_, rfl, _, rfl, _, _, _, rfl, ty_ans T hA3, kitNeedless T v, _, rfl, _, _, _, rfl, ty_ans T hA3, kitOver T v, _, rfl, _, _, _, rfl, ty_ans T hA3, kitRanges T v, three_le, fun l2 hl2 => ?_⟩
    have s4 := same_new hl2 (.lst [.bl (isNe v), .bl false, .bl false])
    refine ⟨l1, l2, _, _, rfl, rfl, SqL.of (s4 _ _ e3), SqL.of upd_same, (by show 4 + 3 ≤ sizeLine; decide), fun l3 hl3 => ?_⟩
    have s5 := (s3.trans s4).trans (same_new hl3 (.lst ([.bl (isAl v), .bl false, .bl false, .bl false] ++ [.bl (isNe v), .bl false, .bl false])))
    have e5 : (upd (upd H3 l2 (.lst [.bl (isNe v), .bl false, .bl false])) l3 (.lst ([.bl (isAl v), .bl false, .bl false, .bl false] ++ [.bl (isNe v), .bl false, .bl false]))) l3 = some (.lst ([.bl (isAl v), .bl false, .bl false, .bl false] ++ [.bl (isNe v), .bl false, .bl false])) := upd_same
    have n3 : H2 l3 = none := (s3.trans s4).free hl3
    generalize upd (upd H3 l2 (.lst [.bl (isNe v), .bl false, .bl false])) l3 (.lst ([.bl (isAl v), .bl false, .bl false, .bl false] ++ [.bl (isNe v), .bl false, .bl false])) = H5 at s5 e5 ⊢
    clear s3 s4 hA3 e3 hl1 hl2 hl3
    have hA5 := hA.same s5
    refine ⟨_, rfl, .inl ⟨rfl, _, SqL.of e5⟩, _, rfl, _, _, _, rfl, ty_ans T hA5, kitUnder T v, l3, _, _, rfl, rfl, e5, (by show 7 < sizeLine; decide), ?_⟩
    have s6 : Same H2 (upd H5 l3 (.lst ([.bl (isAl v), .bl false, .bl false, .bl false] ++ [.bl (isNe v), .bl false, .bl false] ++ [.bl false]))) := fun c o e => by
      rw [upd_ne (ne_of_none e n3)]; exact s5 c o e
    have e6 : (upd H5 l3 (.lst ([.bl (isAl v), .bl false, .bl false, .bl false] ++ [.bl (isNe v), .bl false, .bl false] ++ [.bl false]))) l3 = some (.lst ([isAl v, false, false, false, isNe v, false, false, false].map V.bl)) := upd_same
    generalize upd H5 l3 (.lst ([.bl (isAl v), .bl false, .bl false, .bl false] ++ [.bl (isNe v), .bl false, .bl false] ++ [.bl false])) = H6 at s6 e6 ⊢
    clear s5 e5 hA5 n3
    have hA6 := hA.same s6
    have hH6 := hH2.same s6
    have hB6 := hB2.same s6
    have sB := sA.then s6
    clear s6 hA hH2 hB2 sA
    -- of one class, and the book stays
    refine ⟨_, rfl, _, _, _, rfl, ty_ans T hA6, kitAnswer T v, _, rfl, iteF ?_⟩
    have hc1 : [isAl v, false, false, false, isNe v, false, false, false].count true = 1 := by cases v <;> rfl
    refine ⟨_, rfl, .inl ⟨rfl, _, SqL.of e6⟩, l3, _, true, rfl, rfl, SqL.of e6, rfl, _, rfl, ?_⟩
    rw [hc1]
    refine iteF ?_
    refine ⟨_, rfl, _, rfl, _, _, hH6.dr, hB6.dr, book_shaped _, book_shaped _, _, rfl, ?_⟩
    rw [show PyData.eqv (.list (ps.map tarD)) (.list (ps.map tarD)) = true from SeqAt.eqv_refl _ (SeqAt.canLay_of_shaped (book_shaped ps))]
    refine iteF ?_
    dsimp only [tNext]
    -- its fields
    refine seq_by (fun σ' H' => Same H6 H' ∧ σ' = [some (.ref b), some (.int k), some (.ref h), some (.ref a), some (.ref l3), some (.bl true), none, none]) (fun D' hD' => ?_) ?_
    · refine ⟨_, rfl, _, _, _, rfl, ty_ans T hA6, kitAlone T v, _, rfl, ?_⟩
      cases v with
      | alone x y =>
        obtain ⟨dx, r, f1, f2⟩ := id hA6
        have am : OkA x y := aok
        refine iteT ?_
        exact ⟨_, rfl, a, _, dx, _, _, rfl, f1, T.cl_Alone, T.no_Alone_amount, fAlone_amount r, r, x, y, rfl, f2, am.x0.1, am.y1, am.y0.fit, am.cop, fun H7 s7 => hD' _ _ ⟨s7, rfl⟩⟩
      | need k1 k2 w1 w2 =>
        obtain ⟨dx, f1⟩ := id hA6
        refine iteF ?_
        refine ⟨_, rfl, _, _, _, rfl, ty_ans T hA6, kitNeedless T _, _, rfl, iteT ?_⟩
        refine ⟨_, rfl, a, _, dx, _, _, rfl, f1, T.cl_Needless, T.no_Needless_one, fNeed_one _ _ _ _, _, rfl, _, rfl, iteT ?_⟩
        refine ⟨_, rfl, a, _, dx, _, _, rfl, f1, T.cl_Needless, T.no_Needless_other, fNeed_other _ _ _ _, _, rfl, ?_⟩
        refine ⟨_, rfl, _, rfl, iteT ?_⟩
        refine ⟨_, rfl, a, _, dx, _, _, rfl, f1, T.cl_Needless, T.no_Needless_first, fNeed_first _ _ _ _, _, rfl, _, rfl, iteT ?_⟩
        exact ⟨_, rfl, a, _, dx, _, _, rfl, f1, T.cl_Needless, T.no_Needless_second, fNeed_second _ _ _ _, _, rfl, hD' _ _ ⟨Same.refl _, rfl⟩⟩
    rintro _ H7 ⟨s7, rfl⟩
    have hA7 := hA6.same s7
    have hB7 := hB6.same s7
    have sC := sB.then s7
    clear s7 hA6 hB6 hH6 e6 hc1 sB
    -- by the law's look, and its own word
    refine ⟨_, rfl, _, rfl, iteF ?_⟩
    refine ⟨_, rfl, _, rfl, _, rfl, b, a, k, v, ps, rfl, hA7, aok, hB7, by omega, hok, k0, kl, fun t8 H8 e8 s8 => ⟨_, rfl, ?_⟩⟩
    obtain rfl : t8 = true := e8.mpr hv2
    refine iteF ?_
    refine shows_any (a := a) (b := b) (v := v) (k := k) rfl rfl rfl (hA7.same s8) aok (hB7.same s8) (by omega) hok k0 kl fun t9 H9 e9 s9 => ?_
    obtain rfl : t9 = true := e9.mpr hv2
    refine ⟨_, _, rfl, rfl, _, rfl, iteF ?_⟩
    have hA9 := (hA7.same s8).same s9
    have hB9 := (hB7.same s8).same s9
    have sD := (sC.then s8).then s9
    clear hA7 hB7 sC s8 s9 e8 e9
    -- the books beside
    obtain ⟨v9, hv9, ht9⟩ := id hB9
    have hl9 := ht9.len
    have hpos : 0 < ps.length := List.length_pos_iff.mpr hne
    have hp9 : (0 : Int) < (v9.length : Nat) := by omega
    refine ⟨_, rfl, _, rfl, _, _, rfl, rfl, _, rfl, b, v9, rfl, .inl (SqL.of hv9), _, _, rfl, rfl, hp9, two_le, fun t1 ht1 => ?_⟩
    have g1 := same_new ht1 (.tup [.ref b, .int ((k + 1) % (v9.length : Nat))])
    have i1 : (upd H9 t1 (.tup [.ref b, .int ((k + 1) % (v9.length : Nat))])) t1 = some (.tup [.ref b, .int ((k + 1) % (v9.length : Nat))]) := upd_same
    generalize upd H9 t1 (.tup [.ref b, .int ((k + 1) % (v9.length : Nat))]) = HA at g1 i1 ⊢
    refine ⟨_, rfl, _, rfl, _, rfl, b, v9, rfl, SqL.of (g1 _ _ hv9), by decide, fun _ r hr' => ?_⟩
    rw [pick_rev]
    have g2 := same_new hr' (.lst v9.reverse)
    have j2 : BookAt (upd HA r (.lst v9.reverse)) r ps.reverse := ⟨_, upd_same, (ht9.same (g1.trans g2)).rev⟩
    generalize upd HA r (.lst v9.reverse) = HB at g2 j2 ⊢
    refine ⟨_, rfl, two_le, fun t2 ht2 => ?_⟩
    have g3 := same_new ht2 (.tup [.ref r, .int k])
    have i2 : (upd HB t2 (.tup [.ref r, .int k])) t2 = some (.tup [.ref r, .int k]) := upd_same
    generalize upd HB t2 (.tup [.ref r, .int k]) = HC at g3 i2 ⊢
    have gC := (g1.trans g2).trans g3
    have hvC := gC _ _ hv9
    have htC := ht9.same gC
    obtain ⟨u, hu, rt, rfl, hrt⟩ := paired_get' htC (place_ok k0 kl)
    refine ⟨_, rfl, _, rfl, _, rfl, b, v9, k, _, rfl, rfl, SqL.of hvC, atI_of k0 hu, one_le, fun l4 hl4 => ?_⟩
    have g4 := same_new hl4 (.lst [.ref rt])
    have e4 : (upd HC l4 (.lst [.ref rt])) l4 = some (.lst [.ref rt]) := upd_same
    generalize upd HC l4 (.lst [.ref rt]) = HD at g4 e4 ⊢
    refine ⟨b, l4, _, _, rfl, rfl, SqL.of (g4 _ _ hvC), SqL.of e4, small1000' (by rw [hl9]; show ps.length + 1 ≤ 1000; omega), fun l5 hl5 => ?_⟩
    have g5 := same_new hl5 (.lst (v9 ++ [.ref rt]))
    have j3 : BookAt (upd HD l5 (.lst (v9 ++ [.ref rt]))) l5 (ps ++ [tar ps k]) := ⟨_, upd_same, paired_append (htC.same (g4.trans g5)) (.cons ⟨rt, rfl, (g4.trans g5) _ _ hrt⟩ .nil)⟩
    generalize upd HD l5 (.lst (v9 ++ [.ref rt])) = HE at g5 j3 ⊢
    refine ⟨_, rfl, two_le, fun t3 ht3 => ⟨three_le, fun l hl' => ?_⟩⟩
    have g6 := same_new ht3 (.tup [.ref l5, .int k])
    have g7 := same_new hl' (.lst [.ref t1, .ref t2, .ref t3])
    have i3 : (upd HE t3 (.tup [.ref l5, .int k])) t3 = some (.tup [.ref l5, .int k]) := upd_same
    have el : (upd (upd HE t3 (.tup [.ref l5, .int k])) l (.lst [.ref t1, .ref t2, .ref t3])) l = some (.lst [.ref t1, .ref t2, .ref t3]) := upd_same
    have i3' := g7 _ _ i3
    have g67 := g6.trans g7
    generalize upd (upd HE t3 (.tup [.ref l5, .int k])) l (.lst [.ref t1, .ref t2, .ref t3]) = HF at g67 i3' el ⊢
    have g57 := g5.trans g67
    have g47 := g4.trans g57
    have gall := gC.trans g47
    have g37 := g3.trans g47
    have i1' := ((g2.trans g3).trans g47) _ _ i1
    have i2' := g47 _ _ i2
    have j2' := j2.same g37
    have j3' := j3.same g67
    have hBF := hB9.same gall
    have hAF := hA9.same gall
    have sE := sD.then gall
    clear g1 g2 g3 g4 g5 g6 g7 g67 g57 g47 g37 gall gC i1 i2 i3 j2 j3 hB9 hA9 sD htC hvC hv9 ht9 hrt e4 ht1 ht2 ht3 hl' hl4 hl5 hr'
    have md := Int.emod_nonneg (k + 1) (show ((v9.length : Nat) : Int) ≠ 0 by omega)
    have md' := Int.emod_lt_of_pos (k + 1) hp9
    have items : ∀ x ∈ [V.ref t1, V.ref t2, V.ref t3], ∃ (t c : Addr) (kk : Int) (pp : List (Int × Int)), x = .ref t ∧ HF t = some (.tup [.ref c, .int kk]) ∧ BookAt HF c pp ∧ pp.length ≤ 1000 ∧ (∀ p ∈ pp, OkT p) ∧ 0 ≤ kk ∧ kk < (pp.length : Int) := fun x hx => by
      simp only [List.mem_cons, List.not_mem_nil, or_false] at hx
      rcases hx with rfl | rfl | rfl
      · exact ⟨t1, b, _, ps, rfl, i1', hBF, by omega, hok, md, by omega⟩
      · exact ⟨t2, r, _, ps.reverse, rfl, i2', j2', by rw [List.length_reverse]; omega, fun p hp => hok p (List.mem_reverse.mp hp), k0, by rw [List.length_reverse]; exact kl⟩
      · refine ⟨t3, l5, _, ps ++ [tar ps k], rfl, i3', j3', by rw [List.length_append]; show ps.length + 1 ≤ 1000; omega, fun p hp => ?_, k0, by rw [List.length_append]; show k < ((ps.length + 1 : Nat) : Int); omega⟩
        rcases List.mem_append.mp hp with hp | hp
        · exact hok p hp
        · rw [List.mem_singleton.mp hp]; exact hok _ (List.mem_of_getElem? (place_ok k0 kl))
    clear i1' i2' i3' j2' j3'
    refine ⟨l, rfl, ⟨_, SqL.of el⟩, for_list (K := K) (a := l) (xs := [.ref t1, .ref t2, .ref t3]) (fun i σ H2 => Same HF H2 ∧ ∃ v6 v7, σ = [some (.ref b), some (.int k), some (.ref h), some (.ref a), some (.ref l3), some (.bl true), v6, v7])
      ⟨Same.refl _, _, _, rfl⟩ (fun i σ H2 _ ⟨e, _⟩ => e.seq (SqL.of el)) ?_ ?_⟩
    · rintro i x σ H2 hi ⟨s2, v6, v7, rfl⟩
      obtain ⟨t, c, kk, pp, rfl, q1, q2, q3, q4, q5, q6⟩ := items x (List.mem_of_getElem? hi)
      refine ⟨t, _, rfl, SqT.of (s2 _ _ q1), rfl, _, _, rfl, _, _, rfl, rfl, ?_⟩
      refine shows_any (a := a) (b := c) (v := v) (k := kk) rfl rfl rfl (hAF.same s2) aok (q2.same s2) q3 q4 q5 q6 fun t9 H9 e9 s9 => ?_
      refine ⟨_, rfl, _, rfl, _, rfl, c, a, kk, v, pp, rfl, (hAF.same s2).same s9, aok, (q2.same s2).same s9, q3, q4, q5, q6, fun t10 H10 e10 s10 => ⟨rfl, _, rfl, ?_⟩⟩
      have ee : t9 = t10 := Bool.eq_iff_iff.mpr (e9.trans e10.symm)
      subst ee
      refine iteN (by simp) ⟨(s2.trans s9).trans s10, _, _, rfl⟩
    · rintro σ H2 ⟨s2, v6, v7, rfl⟩
      exact q _ (sE.then s2)
/-! ### the law -/
def nearly (o p : Int) : List (Int × Int) := [(if o - 1 > 0 then o - 1 else 0, p + 1), (o + 1, if p - 1 > 0 then p - 1 else 0), (o, p), (o + 1, p)]
theorem nearly_md {o p : Int} (h : SmT (o, p)) : ∀ x ∈ nearly o p, MdT x := fun x hx => by
  obtain ⟨⟨a1, a2⟩, ⟨a3, a4⟩⟩ := h
  have a1 : 0 ≤ o := a1
  have a2 : o ≤ 10 ^ 40 := a2
  have a3 : 0 ≤ p := a3
  have a4 : p ≤ 10 ^ 40 := a4
  have m1 : ∀ n : Int, n ≤ 10 ^ 40 → Md1 (if n - 1 > 0 then n - 1 else 0) := fun n hn => by
    constructor <;> split <;> omega
  have m2 : ∀ n : Int, 0 ≤ n → n ≤ 10 ^ 40 → Md1 (n + 1) := fun n h0 hn => ⟨by omega, by omega⟩
  have m3 : ∀ n : Int, 0 ≤ n → n ≤ 10 ^ 40 → Md1 n := fun n h0 hn => ⟨by omega, by omega⟩
  simp only [nearly, List.mem_cons, List.not_mem_nil, or_false] at hx
  rcases hx with rfl | rfl | rfl | rfl
  · exact ⟨m1 o a2, m2 p a3 a4⟩
  · exact ⟨m2 o a1 a2, m1 p a4⟩
  · exact ⟨m3 o a1 a2, m3 p a3 a4⟩
  · exact ⟨m2 o a1 a2, m3 p a3 a4⟩
def spLaw (K : PySem.W.Frag) : Sp := fun vs H Q _ => ∃ (a : Addr) (ns : List Int), vs = [.ref a] ∧ SqL K H a (ns.map V.int) ∧ ns.length ≤ 63 ∧ Tab H ∧ ∀ H', Q (.bl true) H'
theorem sc_law : FnScope ["_law_script", "_law_book_here", "_law_place", "_law_once", "_law_piece", "_law_nearly", "_law_k"] ["_law_script"] (defScope s_law) := ⟨rfl, rfl, rfl, by decide +kernel, rfl, by decide +kernel, by decide +kernel⟩
theorem ok_law {f : Addr} {fd : FuncData} {f__law_book f__law_right : Addr} {d__law_book d__law_right : FuncData} (F : Fun K "law" "law" s_law f fd) (B : Bl mg) (T : CT K mg z)
    (c__law_book : Cl P w K mg base 1 "_law_book" ["_law_script"] (spBook K) f__law_book d__law_book)
    (c__law_right : Cl P w K mg base 6 "_law_right" ["_law_book_here", "_law_place"] (spLRight z) f__law_right d__law_right) : FnOk P w K mg base CX0 7 f fd ["_law_script"] (spLaw K) := by
  refine F.ok sc_law (fun vs H Q E h => ?_) (fun cdv A outer s H vs Q E hr h => ?_)
  · obtain ⟨a, ns, rfl, _⟩ := h
    rfl
  · obtain ⟨a, ns, rfl, hS, hl, hT, q⟩ := h
    refine ⟨_, (pss_cons (ps_set (i := 1) sc_law.nd rfl (Or.inl rfl) (pe_call c__law_book.ok (hr.mono (by decide)) rfl c__law_book.mg c__law_book.kp c__law_book.bd .nil pass0 (pa_cons (pv 0) pa_nil)))
          (pss_cons (ps_for PassesOwn.never rfl (pi_listK K rfl (pe_lst (pa_cons pe_int (pa_cons (pe_op op_sub (pe_callB (lenK K) rfl B.len PySem.boot_len (pa_cons (pv 1) pa_nil)) pe_int) (pa_cons (pe_op op_mod (pe_callB (sumK K rfl rfl) rfl B.sum boot_sum (pa_cons (pv 0) pa_nil)) (pe_callB (lenK K) rfl B.len PySem.boot_len (pa_cons (pv 1) pa_nil))) (pa_cons (pe_op op_mod (pe_op op_fdivF (pe_callB (sumK K rfl rfl) rfl B.sum boot_sum (pa_cons (pv 0) pa_nil)) pe_int) (pe_callB (lenK K) rfl B.len PySem.boot_len (pa_cons (pv 1) pa_nil))) pa_nil)))))) (pg_name (i := 2) sc_law.nd rfl (Or.inl rfl))
          (pss_one (ps_if (PW.pt (pw_or (pt_not (pt_val (pe_call c__law_right.ok (hr.mono (by decide)) rfl c__law_right.mg c__law_right.kp c__law_right.bd .nil pass0 (pa_cons (pv 1) (pa_cons (pv 2) pa_nil))))) (pw_or1 (pt_not (pt_val (pe_call c__law_right.ok (hr.mono (by decide)) rfl c__law_right.mg c__law_right.kp c__law_right.bd .nil pass0 (pa_cons (pe_lst (pa_cons (pe_ix (ix_listK K) (pv 1) (pv 2) (fun _ _ => rfl)) pa_nil)) (pa_cons pe_int pa_nil)))))))) (pss_one (ps_ret pe_bl)) pss_nil)))
          (pss_cons (ps_set (i := 2) sc_law.nd rfl (Or.inl rfl) (pe_op op_mod (pe_op op_fdivF (pe_callB (sumK K rfl rfl) rfl B.sum boot_sum (pa_cons (pv 0) pa_nil)) pe_int) (pe_callB (lenK K) rfl B.len PySem.boot_len (pa_cons (pv 1) pa_nil))))
          (pss_cons (ps_asg (pe_ix (ix_listK K) (pv 1) (pv 2) (fun _ _ => rfl)) (pg_tupK K (n := 2) rfl rfl (pgs_cons (pg_name (i := 3) sc_law.nd rfl (Or.inl rfl)) (pgs_cons (pg_name (i := 4) sc_law.nd rfl (Or.inl rfl)) pgs_nil))))
          (pss_cons (ps_set (i := 5) sc_law.nd rfl (Or.inl rfl) (pe_lst (pa_cons (pe_tup (pa_cons (pe_callB (call_max2 rfl) rfl B.max boot_max (pa_cons pe_int (pa_cons (pe_op op_sub (pv 3) pe_int) pa_nil))) (pa_cons (pe_op op_add (pv 4) pe_int) pa_nil))) (pa_cons (pe_tup (pa_cons (pe_op op_add (pv 3) pe_int) (pa_cons (pe_callB (call_max2 rfl) rfl B.max boot_max (pa_cons pe_int (pa_cons (pe_op op_sub (pv 4) pe_int) pa_nil))) pa_nil))) (pa_cons (pe_tup (pa_cons (pv 3) (pa_cons (pv 4) pa_nil))) (pa_cons (pe_tup (pa_cons (pe_op op_add (pv 3) pe_int) (pa_cons (pv 4) pa_nil))) pa_nil))))))
          (pss_cons (ps_for PassesOwn.never rfl (pi_range1 rfl B.range (pa_cons pe_int pa_nil)) (pg_name (i := 6) sc_law.nd rfl (Or.inl rfl))
          (pss_one (ps_if (pt_not (pt_val (pe_call c__law_right.ok (hr.mono (by decide)) rfl c__law_right.mg c__law_right.kp c__law_right.bd .nil pass0 (pa_cons (pe_op (catK K) (pv 1) (pv 5)) (pa_cons (pe_op op_add (pe_callB (lenK K) rfl B.len PySem.boot_len (pa_cons (pv 1) pa_nil)) (pv 6)) pa_nil))))) (pss_one (ps_ret pe_bl)) pss_nil)))
          (pss_one (ps_ret pe_bl)))))))), ?_⟩
    refine ⟨_, rfl, a, ns, rfl, hS, hl, fun b ps H1 s1 hB hne hln hsm => ?_⟩
    have hmd : ∀ p ∈ ps, MdT p := fun p hp => (hsm p hp).md
    have hT1 : Tab H1 := hT.same s1
    have hS1 := s1.seq hS
    clear hS hT s1
    obtain ⟨vs, hv, ht⟩ := id hB
    have hlv := ht.len
    have hpos : 0 < ps.length := List.length_pos_iff.mpr hne
    have hp1 : (0 : Int) < (vs.length : Nat) := by omega
    refine ⟨_, rfl, b, vs, rfl, .inl (SqL.of hv), _, _, rfl, rfl, _, rfl, a, ns, rfl, hS1, _, rfl, b, vs, rfl, .inl (SqL.of hv), _, _, rfl, rfl, hp1, _, rfl, a, ns, rfl, hS1, _, _, rfl, rfl, ⟨by decide, fitK (by decide +kernel)⟩, _, rfl, b, vs, rfl, .inl (SqL.of hv), _, _, rfl, rfl, hp1, four_le, fun l hl' => ?_⟩
    generalize hc : ns.sum = c
    have mdl : ∀ n : Int, 0 ≤ n % (vs.length : Nat) ∧ n % (vs.length : Nat) < (ps.length : Int) := fun n => ⟨Int.emod_nonneg n (by omega), by have := Int.emod_lt_of_pos n hp1; omega⟩
    have s2 := same_new hl' (.lst [.int 0, .int ((vs.length : Nat) - 1), .int (c % (vs.length : Nat)), .int (c / 5 % (vs.length : Nat))])
    have el : (upd H1 l (.lst [.int 0, .int ((vs.length : Nat) - 1), .int (c % (vs.length : Nat)), .int (c / 5 % (vs.length : Nat))])) l = some (.lst [.int 0, .int ((vs.length : Nat) - 1), .int (c % (vs.length : Nat)), .int (c / 5 % (vs.length : Nat))]) := upd_same
    have hT2 := TabOk.same hT1 s2
    generalize upd H1 l (.lst [.int 0, .int ((vs.length : Nat) - 1), .int (c % (vs.length : Nat)), .int (c / 5 % (vs.length : Nat))]) = H2 at s2 el hT2 ⊢
    have hB2 := hB.same s2
    have hS2 := s2.seq hS1
    clear hv ht hB hS1 hT1 s2
    have items : ∀ x ∈ [V.int 0, V.int ((vs.length : Nat) - 1), V.int (c % (vs.length : Nat)), V.int (c / 5 % (vs.length : Nat))], ∃ k, x = .int k ∧ 0 ≤ k ∧ k < (ps.length : Int) := fun x hx => by
      simp only [List.mem_cons, List.not_mem_nil, or_false] at hx
      rcases hx with rfl | rfl | rfl | rfl
      · exact ⟨0, rfl, by omega, by omega⟩
      · exact ⟨_, rfl, by omega, by omega⟩
      · exact ⟨_, rfl, mdl _⟩
      · exact ⟨_, rfl, mdl _⟩
    refine ⟨l, rfl, ⟨_, SqL.of el⟩, for_list (K := K) (a := l) (xs := [.int 0, .int ((vs.length : Nat) - 1), .int (c % (vs.length : Nat)), .int (c / 5 % (vs.length : Nat))]) (fun i σ H3 => SameT H2 H3 ∧ ∃ v2, σ = [some (.ref a), some (.ref b), v2, none, none, none, none])
      ⟨⟨hT2, fun _ _ e _ => e⟩, _, rfl⟩ (fun i σ H3 _ ⟨e, _⟩ => SqL.of (e.2 _ _ el rfl)) ?_ ?_⟩
    · rintro i x σ H3 hi ⟨s3, v2, rfl⟩
      obtain ⟨k, rfl, k0, kl⟩ := items x (List.mem_of_getElem? hi)
      refine ⟨_, rfl, _, rfl, b, k, ps, rfl, hB2.sameT s3, hne, by omega, hmd, k0, kl, s3.1, fun H4 s4 => ⟨_, rfl, iteF ?_⟩⟩
      have s34 := s3.trans s4
      obtain ⟨v4, hv4, ht4⟩ := hB2.sameT s34
      obtain ⟨u, hu, rt, rfl, hrt⟩ := paired_get' ht4 (place_ok k0 kl)
      refine ⟨_, rfl, _, rfl, b, v4, k, _, rfl, rfl, SqL.of hv4, atI_of k0 hu, one_le, fun o ho => ?_⟩
      have s5 := same_new ho (.lst [.ref rt])
      have hO : BookAt (upd H4 o (.lst [.ref rt])) o [tar ps k] := ⟨_, upd_same, .cons ⟨rt, rfl, s5 _ _ hrt⟩ .nil⟩
      have hT5 := TabOk.same s34.1 s5
      have s35 := s34.then s5
      generalize upd H4 o (.lst [.ref rt]) = H5 at s5 hO hT5 s35 ⊢
      refine ⟨o, 0, [tar ps k], rfl, hO, by simp, by show 1 ≤ 900; decide, fun p hp => ?_, by decide, by show (0 : Int) < 1; decide, hT5, fun H6 s6 => ⟨_, rfl, iteF ?_⟩⟩
      · rw [List.mem_singleton.mp hp]; exact hmd _ (List.mem_of_getElem? (place_ok k0 kl))
      · exact ⟨s35.trans s6, _, rfl⟩
    rintro σ H3 ⟨s3, v2, rfl⟩
    have hB3 := hB2.sameT s3
    have hS3 := s3.seq hS2
    have hT3 := s3.1
    clear s3 hB2 hS2 hT2 el items
    obtain ⟨v3, hv3, ht3⟩ := id hB3
    have hl3 := ht3.len
    have hp3 : (0 : Int) < (v3.length : Nat) := by omega
    -- nearly
    refine ⟨_, rfl, a, ns, rfl, hS3, _, _, rfl, rfl, ⟨by decide, fitK (by decide +kernel)⟩, _, rfl, b, v3, rfl, .inl (SqL.of hv3), _, _, rfl, rfl, hp3, ?_⟩
    dsimp only
    generalize hk : ns.sum / 3 % ((v3.length : Nat) : Int) = k
    have k0 : 0 ≤ k := by rw [← hk]; exact Int.emod_nonneg _ (by omega)
    have kl : k < (ps.length : Int) := by have := Int.emod_lt_of_pos (ns.sum / 3) hp3; omega
    obtain ⟨u, hu, rt, rfl, hrt⟩ := paired_get' ht3 (place_ok k0 kl)
    have st := hsm _ (List.mem_of_getElem? (place_ok k0 kl))
    refine ⟨_, rfl, _, rfl, b, v3, k, _, rfl, rfl, SqL.of hv3, atI_of k0 hu, rt, _, rfl, SqT.of hrt, rfl, _, _, rfl, _, _, rfl, rfl, ?_⟩
    generalize hop : ps.getD k.toNat (0, 0) = op at st hrt ⊢
    obtain ⟨o, p⟩ := op
    refine ⟨_, rfl, _, _, rfl, rfl, _, _, rfl, _, rfl, _, _, rfl, rfl, two_le, fun t1 ht1 => ?_⟩
    have g1 := same_new ht1 (.tup [.int (if o - 1 > 0 then o - 1 else 0), .int (p + 1)])
    have i1 : (upd H3 t1 (.tup [.int (if o - 1 > 0 then o - 1 else 0), .int (p + 1)])) t1 = some (.tup [.int (if o - 1 > 0 then o - 1 else 0), .int (p + 1)]) := upd_same
    generalize upd H3 t1 (.tup [.int (if o - 1 > 0 then o - 1 else 0), .int (p + 1)]) = HA at g1 i1 ⊢
    refine ⟨_, rfl, _, _, rfl, rfl, _, rfl, _, _, rfl, rfl, _, _, rfl, two_le, fun t2 ht2 => ?_⟩
    have g2 := same_new ht2 (.tup [.int (o + 1), .int (if p - 1 > 0 then p - 1 else 0)])
    have i2 : (upd HA t2 (.tup [.int (o + 1), .int (if p - 1 > 0 then p - 1 else 0)])) t2 = some (.tup [.int (o + 1), .int (if p - 1 > 0 then p - 1 else 0)]) := upd_same
    generalize upd HA t2 (.tup [.int (o + 1), .int (if p - 1 > 0 then p - 1 else 0)]) = HB at g2 i2 ⊢
    refine ⟨_, rfl, _, rfl, two_le, fun t3 ht3' => ?_⟩
    have g3 := same_new ht3' (.tup [.int o, .int p])
    have i3 : (upd HB t3 (.tup [.int o, .int p])) t3 = some (.tup [.int o, .int p]) := upd_same
    generalize upd HB t3 (.tup [.int o, .int p]) = HC at g3 i3 ⊢
    refine ⟨_, rfl, _, _, rfl, rfl, _, rfl, two_le, fun t4 ht4 => ⟨four_le, fun m hm => ?_⟩⟩
    have g4 := same_new ht4 (.tup [.int (o + 1), .int p])
    have i4 : (upd HC t4 (.tup [.int (o + 1), .int p])) t4 = some (.tup [.int (o + 1), .int p]) := upd_same
    have g5 := same_new hm (.lst [.ref t1, .ref t2, .ref t3, .ref t4])
    have em : (upd (upd HC t4 (.tup [.int (o + 1), .int p])) m (.lst [.ref t1, .ref t2, .ref t3, .ref t4])) m = some (.lst [.ref t1, .ref t2, .ref t3, .ref t4]) := upd_same
    have i4' := g5 _ _ i4
    have g45 := g4.trans g5
    generalize upd (upd HC t4 (.tup [.int (o + 1), .int p])) m (.lst [.ref t1, .ref t2, .ref t3, .ref t4]) = HD at g45 em i4' ⊢
    have g35 := g3.trans g45
    have g25 := g2.trans g35
    have gall := g1.trans g25
    have hN : BookAt HD m (nearly o p) := ⟨_, em, .cons ⟨t1, rfl, g25 _ _ i1⟩ (.cons ⟨t2, rfl, g35 _ _ i2⟩ (.cons ⟨t3, rfl, g45 _ _ i3⟩ (.cons ⟨t4, rfl, i4'⟩ .nil)))⟩
    have hBD := hB3.same gall
    have hTD := TabOk.same hT3 gall
    have nmd := nearly_md st
    clear g1 g2 g3 g4 g5 g45 g35 g25 gall i1 i2 i3 i4 i4' em hm ht1 ht2 ht3' ht4 hB3 hS3 hT3 hv3 ht3 hrt
    refine ⟨4, rfl, by decide, by decide, for_range (lo := 0) (n := (4 : Int).toNat) (fun i σ H4 => SameT HD H4 ∧ ∃ v6, σ = [some (.ref a), some (.ref b), some (.int k), some (.int o), some (.int p), some (.ref m), v6]) ⟨⟨hTD, fun _ _ e _ => e⟩, _, rfl⟩ ?_ ?_⟩
    · rintro i σ H4 hi ⟨s4, v6, rfl⟩
      have hi4 : i < 4 := hi
      obtain ⟨v4, hv4, ht4⟩ := hBD.sameT s4
      obtain ⟨w4, hw4, hn4⟩ := hN.sameT s4
      have hl4 := ht4.len
      have hlw : w4.length = 4 := hn4.len
      refine ⟨_, rfl, _, rfl, b, m, _, _, rfl, rfl, SqL.of hv4, SqL.of hw4, small1000' (by omega), fun x hx => ?_⟩
      have s5 := same_new hx (.lst (v4 ++ w4))
      have hX : BookAt (upd H4 x (.lst (v4 ++ w4))) x (ps ++ nearly o p) := ⟨_, upd_same, paired_append (ht4.same s5) (hn4.same s5)⟩
      have hv5 := s5 _ _ hv4
      have hT5 := TabOk.same s4.1 s5
      have s45 := s4.then s5
      generalize upd H4 x (.lst (v4 ++ w4)) = H5 at s5 hX hv5 hT5 s45 ⊢
      have hlx : (ps ++ nearly o p).length = ps.length + 4 := List.length_append
      refine ⟨_, rfl, b, v4, rfl, .inl (SqL.of hv5), _, rfl, _, _, rfl, rfl, x, _, ps ++ nearly o p, rfl, hX, by simp [hne], by omega, fun y hy => ?_, by omega, by omega, hT5, fun H6 s6 => ⟨_, rfl, iteF ?_⟩⟩
      · rcases List.mem_append.mp hy with hy | hy
        · exact hmd y hy
        · exact nmd y hy
      · exact ⟨s45.trans s6, _, rfl⟩
    · rintro σ H4 ⟨s4, v6, rfl⟩
      exact q _
end
end My

set_option Elab.async false
set_option linter.all false
set_option maxRecDepth 100000
set_option maxHeartbeats 8000000
namespace My
open PySem PyProof.Rows L2
theorem all_mk {l : PySem.W.OpenLaw} {w : World} {K : PySem.W.Frag} {h : Heap} {mg : Str → Option Value} {fa : Addr} (X : K.In h) (G : h.Ns mainGlobals mg) (hfa : mg "law" = some (.ref fa))
    {z_Answer z_Alone z_Needless z_Ranges z_Under z_Over z_Most z_Endless z_Dear : Addr}
    {g_is_whole g_is_whole_pair g_common_divisor g_is_amount g_is_place g_check_book g_check_place g_lowest_terms g_top_of_cost g_tops_of_cost g_is_weighing g_is_mixture g_Alone_init g_Alone_shows g_Needless_init g_Needless_shows g_by_falling_piece g_least_in_turn g_turn_for g_amount_below g_mixture_for g_alone g__law_book g__law_lowest g__law_is_amount g__law_cost g__law_whole g__law_mixture g__law_alone g__law_needless g__law_due g__law_right g_law : Addr}
    {od_is_whole an_is_whole od_is_whole_pair an_is_whole_pair od_common_divisor an_common_divisor od_is_amount an_is_amount od_is_place an_is_place od_check_book an_check_book od_check_place an_check_place od_lowest_terms an_lowest_terms od_top_of_cost an_top_of_cost od_tops_of_cost an_tops_of_cost od_is_weighing an_is_weighing od_is_mixture an_is_mixture od_Alone_init an_Alone_init od_Alone_shows an_Alone_shows od_Needless_init an_Needless_init od_Needless_shows an_Needless_shows od_by_falling_piece an_by_falling_piece od_least_in_turn an_least_in_turn od_turn_for an_turn_for od_amount_below an_amount_below od_mixture_for an_mixture_for od_alone an_alone od__law_book an__law_book od__law_lowest an__law_lowest od__law_is_amount an__law_is_amount od__law_cost an__law_cost od__law_whole an__law_whole od__law_mixture an__law_mixture od__law_alone an__law_alone od__law_needless an__law_needless od__law_due an__law_due od__law_right an__law_right od_law an_law : Option Addr}
    {sl_is_whole sl_is_whole_pair sl_common_divisor sl_is_amount sl_is_place sl_check_book sl_check_place sl_lowest_terms sl_top_of_cost sl_tops_of_cost sl_is_weighing sl_is_mixture sl_Alone_init sl_Alone_shows sl_Needless_init sl_Needless_shows sl_by_falling_piece sl_least_in_turn sl_turn_for sl_amount_below sl_mixture_for sl_alone sl__law_book sl__law_lowest sl__law_is_amount sl__law_cost sl__law_whole sl__law_mixture sl__law_alone sl__law_needless sl__law_due sl__law_right sl_law : Array (Option Value)}
    {oc_is_whole kV_is_whole dc_is_whole pm_is_whole cd_is_whole ct_is_whole oc_is_whole_pair kV_is_whole_pair dc_is_whole_pair pm_is_whole_pair cd_is_whole_pair ct_is_whole_pair oc_common_divisor kV_common_divisor dc_common_divisor pm_common_divisor cd_common_divisor ct_common_divisor oc_is_amount kV_is_amount dc_is_amount pm_is_amount cd_is_amount ct_is_amount oc_is_place kV_is_place dc_is_place pm_is_place cd_is_place ct_is_place oc_check_book kV_check_book dc_check_book pm_check_book cd_check_book ct_check_book oc_check_place kV_check_place dc_check_place pm_check_place cd_check_place ct_check_place oc_lowest_terms kV_lowest_terms dc_lowest_terms pm_lowest_terms cd_lowest_terms ct_lowest_terms oc_top_of_cost kV_top_of_cost dc_top_of_cost pm_top_of_cost cd_top_of_cost ct_top_of_cost oc_tops_of_cost kV_tops_of_cost dc_tops_of_cost pm_tops_of_cost cd_tops_of_cost ct_tops_of_cost oc_is_weighing kV_is_weighing dc_is_weighing pm_is_weighing cd_is_weighing ct_is_weighing oc_is_mixture kV_is_mixture dc_is_mixture pm_is_mixture cd_is_mixture ct_is_mixture oc_Alone_init kV_Alone_init dc_Alone_init pm_Alone_init cd_Alone_init ct_Alone_init oc_Alone_shows kV_Alone_shows dc_Alone_shows pm_Alone_shows cd_Alone_shows ct_Alone_shows oc_Needless_init kV_Needless_init dc_Needless_init pm_Needless_init cd_Needless_init ct_Needless_init oc_Needless_shows kV_Needless_shows dc_Needless_shows pm_Needless_shows cd_Needless_shows ct_Needless_shows oc_by_falling_piece kV_by_falling_piece dc_by_falling_piece pm_by_falling_piece cd_by_falling_piece ct_by_falling_piece oc_least_in_turn kV_least_in_turn dc_least_in_turn pm_least_in_turn cd_least_in_turn ct_least_in_turn oc_turn_for kV_turn_for dc_turn_for pm_turn_for cd_turn_for ct_turn_for oc_amount_below kV_amount_below dc_amount_below pm_amount_below cd_amount_below ct_amount_below oc_mixture_for kV_mixture_for dc_mixture_for pm_mixture_for cd_mixture_for ct_mixture_for oc_alone kV_alone dc_alone pm_alone cd_alone ct_alone oc__law_book kV__law_book dc__law_book pm__law_book cd__law_book ct__law_book oc__law_lowest kV__law_lowest dc__law_lowest pm__law_lowest cd__law_lowest ct__law_lowest oc__law_is_amount kV__law_is_amount dc__law_is_amount pm__law_is_amount cd__law_is_amount ct__law_is_amount oc__law_cost kV__law_cost dc__law_cost pm__law_cost cd__law_cost ct__law_cost oc__law_whole kV__law_whole dc__law_whole pm__law_whole cd__law_whole ct__law_whole oc__law_mixture kV__law_mixture dc__law_mixture pm__law_mixture cd__law_mixture ct__law_mixture oc__law_alone kV__law_alone dc__law_alone pm__law_alone cd__law_alone ct__law_alone oc__law_needless kV__law_needless dc__law_needless pm__law_needless cd__law_needless ct__law_needless oc__law_due kV__law_due dc__law_due pm__law_due cd__law_due ct__law_due oc__law_right kV__law_right dc__law_right pm__law_right cd__law_right ct__law_right oc_law kV_law dc_law pm_law cd_law ct_law : Value}
    (a_Answer : PySem.W.nsIn K mainGlobals "Answer" = some (some (.ref z_Answer)))
    (a_Alone : PySem.W.nsIn K mainGlobals "Alone" = some (some (.ref z_Alone)))
    (a_Needless : PySem.W.nsIn K mainGlobals "Needless" = some (some (.ref z_Needless)))
    (a_Ranges : PySem.W.nsIn K mainGlobals "Ranges" = some (some (.ref z_Ranges)))
    (a_Under : PySem.W.nsIn K mainGlobals "Under" = some (some (.ref z_Under)))
    (a_Over : PySem.W.nsIn K mainGlobals "Over" = some (some (.ref z_Over)))
    (a_Most : PySem.W.nsIn K mainGlobals "Most" = some (some (.ref z_Most)))
    (a_Endless : PySem.W.nsIn K mainGlobals "Endless" = some (some (.ref z_Endless)))
    (a_Dear : PySem.W.nsIn K mainGlobals "Dear" = some (some (.ref z_Dear)))
    (a_is_whole : PySem.W.nsIn K mainGlobals "is_whole" = some (some (.ref g_is_whole)))
    (l_is_whole : K.lookup g_is_whole = some ⟨oc_is_whole, od_is_whole, .func (PySem.W.fnOf "is_whole" "is_whole" (defArgs s_is_whole) (defBody s_is_whole) (defScope s_is_whole) .none kV_is_whole dc_is_whole pm_is_whole an_is_whole cd_is_whole ct_is_whole), sl_is_whole⟩)
    (c_is_whole : PySem.W.codeIn K cd_is_whole "is_whole" = true)
    (k_is_whole : PySem.W.keepIn K (.ref g_is_whole) = true)
    (a_is_whole_pair : PySem.W.nsIn K mainGlobals "is_whole_pair" = some (some (.ref g_is_whole_pair)))
    (l_is_whole_pair : K.lookup g_is_whole_pair = some ⟨oc_is_whole_pair, od_is_whole_pair, .func (PySem.W.fnOf "is_whole_pair" "is_whole_pair" (defArgs s_is_whole_pair) (defBody s_is_whole_pair) (defScope s_is_whole_pair) .none kV_is_whole_pair dc_is_whole_pair pm_is_whole_pair an_is_whole_pair cd_is_whole_pair ct_is_whole_pair), sl_is_whole_pair⟩)
    (c_is_whole_pair : PySem.W.codeIn K cd_is_whole_pair "is_whole_pair" = true)
    (k_is_whole_pair : PySem.W.keepIn K (.ref g_is_whole_pair) = true)
    (a_common_divisor : PySem.W.nsIn K mainGlobals "common_divisor" = some (some (.ref g_common_divisor)))
    (l_common_divisor : K.lookup g_common_divisor = some ⟨oc_common_divisor, od_common_divisor, .func (PySem.W.fnOf "common_divisor" "common_divisor" (defArgs s_common_divisor) (defBody s_common_divisor) (defScope s_common_divisor) .none kV_common_divisor dc_common_divisor pm_common_divisor an_common_divisor cd_common_divisor ct_common_divisor), sl_common_divisor⟩)
    (c_common_divisor : PySem.W.codeIn K cd_common_divisor "common_divisor" = true)
    (k_common_divisor : PySem.W.keepIn K (.ref g_common_divisor) = true)
    (a_is_amount : PySem.W.nsIn K mainGlobals "is_amount" = some (some (.ref g_is_amount)))
    (l_is_amount : K.lookup g_is_amount = some ⟨oc_is_amount, od_is_amount, .func (PySem.W.fnOf "is_amount" "is_amount" (defArgs s_is_amount) (defBody s_is_amount) (defScope s_is_amount) .none kV_is_amount dc_is_amount pm_is_amount an_is_amount cd_is_amount ct_is_amount), sl_is_amount⟩)
    (c_is_amount : PySem.W.codeIn K cd_is_amount "is_amount" = true)
    (k_is_amount : PySem.W.keepIn K (.ref g_is_amount) = true)
    (a_is_place : PySem.W.nsIn K mainGlobals "is_place" = some (some (.ref g_is_place)))
    (l_is_place : K.lookup g_is_place = some ⟨oc_is_place, od_is_place, .func (PySem.W.fnOf "is_place" "is_place" (defArgs s_is_place) (defBody s_is_place) (defScope s_is_place) .none kV_is_place dc_is_place pm_is_place an_is_place cd_is_place ct_is_place), sl_is_place⟩)
    (c_is_place : PySem.W.codeIn K cd_is_place "is_place" = true)
    (k_is_place : PySem.W.keepIn K (.ref g_is_place) = true)
    (a_check_book : PySem.W.nsIn K mainGlobals "check_book" = some (some (.ref g_check_book)))
    (l_check_book : K.lookup g_check_book = some ⟨oc_check_book, od_check_book, .func (PySem.W.fnOf "check_book" "check_book" (defArgs s_check_book) (defBody s_check_book) (defScope s_check_book) .none kV_check_book dc_check_book pm_check_book an_check_book cd_check_book ct_check_book), sl_check_book⟩)
    (c_check_book : PySem.W.codeIn K cd_check_book "check_book" = true)
    (k_check_book : PySem.W.keepIn K (.ref g_check_book) = true)
    (a_check_place : PySem.W.nsIn K mainGlobals "check_place" = some (some (.ref g_check_place)))
    (l_check_place : K.lookup g_check_place = some ⟨oc_check_place, od_check_place, .func (PySem.W.fnOf "check_place" "check_place" (defArgs s_check_place) (defBody s_check_place) (defScope s_check_place) .none kV_check_place dc_check_place pm_check_place an_check_place cd_check_place ct_check_place), sl_check_place⟩)
    (c_check_place : PySem.W.codeIn K cd_check_place "check_place" = true)
    (k_check_place : PySem.W.keepIn K (.ref g_check_place) = true)
    (a_lowest_terms : PySem.W.nsIn K mainGlobals "lowest_terms" = some (some (.ref g_lowest_terms)))
    (l_lowest_terms : K.lookup g_lowest_terms = some ⟨oc_lowest_terms, od_lowest_terms, .func (PySem.W.fnOf "lowest_terms" "lowest_terms" (defArgs s_lowest_terms) (defBody s_lowest_terms) (defScope s_lowest_terms) .none kV_lowest_terms dc_lowest_terms pm_lowest_terms an_lowest_terms cd_lowest_terms ct_lowest_terms), sl_lowest_terms⟩)
    (c_lowest_terms : PySem.W.codeIn K cd_lowest_terms "lowest_terms" = true)
    (k_lowest_terms : PySem.W.keepIn K (.ref g_lowest_terms) = true)
    (a_top_of_cost : PySem.W.nsIn K mainGlobals "top_of_cost" = some (some (.ref g_top_of_cost)))
    (l_top_of_cost : K.lookup g_top_of_cost = some ⟨oc_top_of_cost, od_top_of_cost, .func (PySem.W.fnOf "top_of_cost" "top_of_cost" (defArgs s_top_of_cost) (defBody s_top_of_cost) (defScope s_top_of_cost) .none kV_top_of_cost dc_top_of_cost pm_top_of_cost an_top_of_cost cd_top_of_cost ct_top_of_cost), sl_top_of_cost⟩)
    (c_top_of_cost : PySem.W.codeIn K cd_top_of_cost "top_of_cost" = true)
    (k_top_of_cost : PySem.W.keepIn K (.ref g_top_of_cost) = true)
    (a_tops_of_cost : PySem.W.nsIn K mainGlobals "tops_of_cost" = some (some (.ref g_tops_of_cost)))
    (l_tops_of_cost : K.lookup g_tops_of_cost = some ⟨oc_tops_of_cost, od_tops_of_cost, .func (PySem.W.fnOf "tops_of_cost" "tops_of_cost" (defArgs s_tops_of_cost) (defBody s_tops_of_cost) (defScope s_tops_of_cost) .none kV_tops_of_cost dc_tops_of_cost pm_tops_of_cost an_tops_of_cost cd_tops_of_cost ct_tops_of_cost), sl_tops_of_cost⟩)
    (c_tops_of_cost : PySem.W.codeIn K cd_tops_of_cost "tops_of_cost" = true)
    (k_tops_of_cost : PySem.W.keepIn K (.ref g_tops_of_cost) = true)
    (a_is_weighing : PySem.W.nsIn K mainGlobals "is_weighing" = some (some (.ref g_is_weighing)))
    (l_is_weighing : K.lookup g_is_weighing = some ⟨oc_is_weighing, od_is_weighing, .func (PySem.W.fnOf "is_weighing" "is_weighing" (defArgs s_is_weighing) (defBody s_is_weighing) (defScope s_is_weighing) .none kV_is_weighing dc_is_weighing pm_is_weighing an_is_weighing cd_is_weighing ct_is_weighing), sl_is_weighing⟩)
    (c_is_weighing : PySem.W.codeIn K cd_is_weighing "is_weighing" = true)
    (k_is_weighing : PySem.W.keepIn K (.ref g_is_weighing) = true)
    (a_is_mixture : PySem.W.nsIn K mainGlobals "is_mixture" = some (some (.ref g_is_mixture)))
    (l_is_mixture : K.lookup g_is_mixture = some ⟨oc_is_mixture, od_is_mixture, .func (PySem.W.fnOf "is_mixture" "is_mixture" (defArgs s_is_mixture) (defBody s_is_mixture) (defScope s_is_mixture) .none kV_is_mixture dc_is_mixture pm_is_mixture an_is_mixture cd_is_mixture ct_is_mixture), sl_is_mixture⟩)
    (c_is_mixture : PySem.W.codeIn K cd_is_mixture "is_mixture" = true)
    (k_is_mixture : PySem.W.keepIn K (.ref g_is_mixture) = true)
    (a_Alone_init : PySem.W.findIn K (.ref z_Alone) "__init__" = some (some (.ref g_Alone_init)))
    (i_Alone_init : PySem.W.isFn K (.ref g_Alone_init) = true)
    (l_Alone_init : K.lookup g_Alone_init = some ⟨oc_Alone_init, od_Alone_init, .func (PySem.W.fnOf "__init__" "Alone.__init__" (defArgs s_Alone_init) (defBody s_Alone_init) (defScope s_Alone_init) .none kV_Alone_init dc_Alone_init pm_Alone_init an_Alone_init cd_Alone_init ct_Alone_init), sl_Alone_init⟩)
    (c_Alone_init : PySem.W.codeIn K cd_Alone_init "Alone.__init__" = true)
    (k_Alone_init : PySem.W.keepIn K (.ref g_Alone_init) = true)
    (a_Alone_shows : PySem.W.findIn K (.ref z_Alone) "shows" = some (some (.ref g_Alone_shows)))
    (i_Alone_shows : PySem.W.isFn K (.ref g_Alone_shows) = true)
    (l_Alone_shows : K.lookup g_Alone_shows = some ⟨oc_Alone_shows, od_Alone_shows, .func (PySem.W.fnOf "shows" "Alone.shows" (defArgs s_Alone_shows) (defBody s_Alone_shows) (defScope s_Alone_shows) .none kV_Alone_shows dc_Alone_shows pm_Alone_shows an_Alone_shows cd_Alone_shows ct_Alone_shows), sl_Alone_shows⟩)
    (c_Alone_shows : PySem.W.codeIn K cd_Alone_shows "Alone.shows" = true)
    (k_Alone_shows : PySem.W.keepIn K (.ref g_Alone_shows) = true)
    (a_Needless_init : PySem.W.findIn K (.ref z_Needless) "__init__" = some (some (.ref g_Needless_init)))
    (i_Needless_init : PySem.W.isFn K (.ref g_Needless_init) = true)
    (l_Needless_init : K.lookup g_Needless_init = some ⟨oc_Needless_init, od_Needless_init, .func (PySem.W.fnOf "__init__" "Needless.__init__" (defArgs s_Needless_init) (defBody s_Needless_init) (defScope s_Needless_init) .none kV_Needless_init dc_Needless_init pm_Needless_init an_Needless_init cd_Needless_init ct_Needless_init), sl_Needless_init⟩)
    (c_Needless_init : PySem.W.codeIn K cd_Needless_init "Needless.__init__" = true)
    (k_Needless_init : PySem.W.keepIn K (.ref g_Needless_init) = true)
    (a_Needless_shows : PySem.W.findIn K (.ref z_Needless) "shows" = some (some (.ref g_Needless_shows)))
    (i_Needless_shows : PySem.W.isFn K (.ref g_Needless_shows) = true)
    (l_Needless_shows : K.lookup g_Needless_shows = some ⟨oc_Needless_shows, od_Needless_shows, .func (PySem.W.fnOf "shows" "Needless.shows" (defArgs s_Needless_shows) (defBody s_Needless_shows) (defScope s_Needless_shows) .none kV_Needless_shows dc_Needless_shows pm_Needless_shows an_Needless_shows cd_Needless_shows ct_Needless_shows), sl_Needless_shows⟩)
    (c_Needless_shows : PySem.W.codeIn K cd_Needless_shows "Needless.shows" = true)
    (k_Needless_shows : PySem.W.keepIn K (.ref g_Needless_shows) = true)
    (a_by_falling_piece : PySem.W.nsIn K mainGlobals "by_falling_piece" = some (some (.ref g_by_falling_piece)))
    (l_by_falling_piece : K.lookup g_by_falling_piece = some ⟨oc_by_falling_piece, od_by_falling_piece, .func (PySem.W.fnOf "by_falling_piece" "by_falling_piece" (defArgs s_by_falling_piece) (defBody s_by_falling_piece) (defScope s_by_falling_piece) .none kV_by_falling_piece dc_by_falling_piece pm_by_falling_piece an_by_falling_piece cd_by_falling_piece ct_by_falling_piece), sl_by_falling_piece⟩)
    (c_by_falling_piece : PySem.W.codeIn K cd_by_falling_piece "by_falling_piece" = true)
    (k_by_falling_piece : PySem.W.keepIn K (.ref g_by_falling_piece) = true)
    (a_least_in_turn : PySem.W.nsIn K mainGlobals "least_in_turn" = some (some (.ref g_least_in_turn)))
    (l_least_in_turn : K.lookup g_least_in_turn = some ⟨oc_least_in_turn, od_least_in_turn, .func (PySem.W.fnOf "least_in_turn" "least_in_turn" (defArgs s_least_in_turn) (defBody s_least_in_turn) (defScope s_least_in_turn) .none kV_least_in_turn dc_least_in_turn pm_least_in_turn an_least_in_turn cd_least_in_turn ct_least_in_turn), sl_least_in_turn⟩)
    (c_least_in_turn : PySem.W.codeIn K cd_least_in_turn "least_in_turn" = true)
    (k_least_in_turn : PySem.W.keepIn K (.ref g_least_in_turn) = true)
    (a_turn_for : PySem.W.nsIn K mainGlobals "turn_for" = some (some (.ref g_turn_for)))
    (l_turn_for : K.lookup g_turn_for = some ⟨oc_turn_for, od_turn_for, .func (PySem.W.fnOf "turn_for" "turn_for" (defArgs s_turn_for) (defBody s_turn_for) (defScope s_turn_for) .none kV_turn_for dc_turn_for pm_turn_for an_turn_for cd_turn_for ct_turn_for), sl_turn_for⟩)
    (c_turn_for : PySem.W.codeIn K cd_turn_for "turn_for" = true)
    (k_turn_for : PySem.W.keepIn K (.ref g_turn_for) = true)
    (a_amount_below : PySem.W.nsIn K mainGlobals "amount_below" = some (some (.ref g_amount_below)))
    (l_amount_below : K.lookup g_amount_below = some ⟨oc_amount_below, od_amount_below, .func (PySem.W.fnOf "amount_below" "amount_below" (defArgs s_amount_below) (defBody s_amount_below) (defScope s_amount_below) .none kV_amount_below dc_amount_below pm_amount_below an_amount_below cd_amount_below ct_amount_below), sl_amount_below⟩)
    (c_amount_below : PySem.W.codeIn K cd_amount_below "amount_below" = true)
    (k_amount_below : PySem.W.keepIn K (.ref g_amount_below) = true)
    (a_mixture_for : PySem.W.nsIn K mainGlobals "mixture_for" = some (some (.ref g_mixture_for)))
    (l_mixture_for : K.lookup g_mixture_for = some ⟨oc_mixture_for, od_mixture_for, .func (PySem.W.fnOf "mixture_for" "mixture_for" (defArgs s_mixture_for) (defBody s_mixture_for) (defScope s_mixture_for) .none kV_mixture_for dc_mixture_for pm_mixture_for an_mixture_for cd_mixture_for ct_mixture_for), sl_mixture_for⟩)
    (c_mixture_for : PySem.W.codeIn K cd_mixture_for "mixture_for" = true)
    (k_mixture_for : PySem.W.keepIn K (.ref g_mixture_for) = true)
    (a_alone : PySem.W.nsIn K mainGlobals "alone" = some (some (.ref g_alone)))
    (l_alone : K.lookup g_alone = some ⟨oc_alone, od_alone, .func (PySem.W.fnOf "alone" "alone" (defArgs s_alone) (defBody s_alone) (defScope s_alone) .none kV_alone dc_alone pm_alone an_alone cd_alone ct_alone), sl_alone⟩)
    (c_alone : PySem.W.codeIn K cd_alone "alone" = true)
    (k_alone : PySem.W.keepIn K (.ref g_alone) = true)
    (a__law_book : PySem.W.nsIn K mainGlobals "_law_book" = some (some (.ref g__law_book)))
    (l__law_book : K.lookup g__law_book = some ⟨oc__law_book, od__law_book, .func (PySem.W.fnOf "_law_book" "_law_book" (defArgs s__law_book) (defBody s__law_book) (defScope s__law_book) .none kV__law_book dc__law_book pm__law_book an__law_book cd__law_book ct__law_book), sl__law_book⟩)
    (c__law_book : PySem.W.codeIn K cd__law_book "_law_book" = true)
    (k__law_book : PySem.W.keepIn K (.ref g__law_book) = true)
    (a__law_lowest : PySem.W.nsIn K mainGlobals "_law_lowest" = some (some (.ref g__law_lowest)))
    (l__law_lowest : K.lookup g__law_lowest = some ⟨oc__law_lowest, od__law_lowest, .func (PySem.W.fnOf "_law_lowest" "_law_lowest" (defArgs s__law_lowest) (defBody s__law_lowest) (defScope s__law_lowest) .none kV__law_lowest dc__law_lowest pm__law_lowest an__law_lowest cd__law_lowest ct__law_lowest), sl__law_lowest⟩)
    (c__law_lowest : PySem.W.codeIn K cd__law_lowest "_law_lowest" = true)
    (k__law_lowest : PySem.W.keepIn K (.ref g__law_lowest) = true)
    (a__law_is_amount : PySem.W.nsIn K mainGlobals "_law_is_amount" = some (some (.ref g__law_is_amount)))
    (l__law_is_amount : K.lookup g__law_is_amount = some ⟨oc__law_is_amount, od__law_is_amount, .func (PySem.W.fnOf "_law_is_amount" "_law_is_amount" (defArgs s__law_is_amount) (defBody s__law_is_amount) (defScope s__law_is_amount) .none kV__law_is_amount dc__law_is_amount pm__law_is_amount an__law_is_amount cd__law_is_amount ct__law_is_amount), sl__law_is_amount⟩)
    (c__law_is_amount : PySem.W.codeIn K cd__law_is_amount "_law_is_amount" = true)
    (k__law_is_amount : PySem.W.keepIn K (.ref g__law_is_amount) = true)
    (a__law_cost : PySem.W.nsIn K mainGlobals "_law_cost" = some (some (.ref g__law_cost)))
    (l__law_cost : K.lookup g__law_cost = some ⟨oc__law_cost, od__law_cost, .func (PySem.W.fnOf "_law_cost" "_law_cost" (defArgs s__law_cost) (defBody s__law_cost) (defScope s__law_cost) .none kV__law_cost dc__law_cost pm__law_cost an__law_cost cd__law_cost ct__law_cost), sl__law_cost⟩)
    (c__law_cost : PySem.W.codeIn K cd__law_cost "_law_cost" = true)
    (k__law_cost : PySem.W.keepIn K (.ref g__law_cost) = true)
    (a__law_whole : PySem.W.nsIn K mainGlobals "_law_whole" = some (some (.ref g__law_whole)))
    (l__law_whole : K.lookup g__law_whole = some ⟨oc__law_whole, od__law_whole, .func (PySem.W.fnOf "_law_whole" "_law_whole" (defArgs s__law_whole) (defBody s__law_whole) (defScope s__law_whole) .none kV__law_whole dc__law_whole pm__law_whole an__law_whole cd__law_whole ct__law_whole), sl__law_whole⟩)
    (c__law_whole : PySem.W.codeIn K cd__law_whole "_law_whole" = true)
    (k__law_whole : PySem.W.keepIn K (.ref g__law_whole) = true)
    (a__law_mixture : PySem.W.nsIn K mainGlobals "_law_mixture" = some (some (.ref g__law_mixture)))
    (l__law_mixture : K.lookup g__law_mixture = some ⟨oc__law_mixture, od__law_mixture, .func (PySem.W.fnOf "_law_mixture" "_law_mixture" (defArgs s__law_mixture) (defBody s__law_mixture) (defScope s__law_mixture) .none kV__law_mixture dc__law_mixture pm__law_mixture an__law_mixture cd__law_mixture ct__law_mixture), sl__law_mixture⟩)
    (c__law_mixture : PySem.W.codeIn K cd__law_mixture "_law_mixture" = true)
    (k__law_mixture : PySem.W.keepIn K (.ref g__law_mixture) = true)
    (a__law_alone : PySem.W.nsIn K mainGlobals "_law_alone" = some (some (.ref g__law_alone)))
    (l__law_alone : K.lookup g__law_alone = some ⟨oc__law_alone, od__law_alone, .func (PySem.W.fnOf "_law_alone" "_law_alone" (defArgs s__law_alone) (defBody s__law_alone) (defScope s__law_alone) .none kV__law_alone dc__law_alone pm__law_alone an__law_alone cd__law_alone ct__law_alone), sl__law_alone⟩)
    (c__law_alone : PySem.W.codeIn K cd__law_alone "_law_alone" = true)
    (k__law_alone : PySem.W.keepIn K (.ref g__law_alone) = true)
    (a__law_needless : PySem.W.nsIn K mainGlobals "_law_needless" = some (some (.ref g__law_needless)))
    (l__law_needless : K.lookup g__law_needless = some ⟨oc__law_needless, od__law_needless, .func (PySem.W.fnOf "_law_needless" "_law_needless" (defArgs s__law_needless) (defBody s__law_needless) (defScope s__law_needless) .none kV__law_needless dc__law_needless pm__law_needless an__law_needless cd__law_needless ct__law_needless), sl__law_needless⟩)
    (c__law_needless : PySem.W.codeIn K cd__law_needless "_law_needless" = true)
    (k__law_needless : PySem.W.keepIn K (.ref g__law_needless) = true)
    (a__law_due : PySem.W.nsIn K mainGlobals "_law_due" = some (some (.ref g__law_due)))
    (l__law_due : K.lookup g__law_due = some ⟨oc__law_due, od__law_due, .func (PySem.W.fnOf "_law_due" "_law_due" (defArgs s__law_due) (defBody s__law_due) (defScope s__law_due) .none kV__law_due dc__law_due pm__law_due an__law_due cd__law_due ct__law_due), sl__law_due⟩)
    (c__law_due : PySem.W.codeIn K cd__law_due "_law_due" = true)
    (k__law_due : PySem.W.keepIn K (.ref g__law_due) = true)
    (a__law_right : PySem.W.nsIn K mainGlobals "_law_right" = some (some (.ref g__law_right)))
    (l__law_right : K.lookup g__law_right = some ⟨oc__law_right, od__law_right, .func (PySem.W.fnOf "_law_right" "_law_right" (defArgs s__law_right) (defBody s__law_right) (defScope s__law_right) .none kV__law_right dc__law_right pm__law_right an__law_right cd__law_right ct__law_right), sl__law_right⟩)
    (c__law_right : PySem.W.codeIn K cd__law_right "_law_right" = true)
    (k__law_right : PySem.W.keepIn K (.ref g__law_right) = true)
    (a_law : PySem.W.nsIn K mainGlobals "law" = some (some (.ref g_law)))
    (l_law : K.lookup g_law = some ⟨oc_law, od_law, .func (PySem.W.fnOf "law" "law" (defArgs s_law) (defBody s_law) (defScope s_law) .none kV_law dc_law pm_law an_law cd_law ct_law), sl_law⟩)
    (c_law : PySem.W.codeIn K cd_law "law" = true)
    (k_law : PySem.W.keepIn K (.ref g_law) = true)
    (pg_Alone : PySem.W.plainGet K z_Alone Str.empty = true)
    (hd_Alone : PySem.W.hasDictIn K z_Alone = true)
    (po_Alone : PySem.W.plainOver K z_Alone = true)
    (sa_Alone : PySem.W.findIn K (.ref z_Alone) "__setattr__" = some (some (.builtin "object.__setattr__")))
    (mk_Alone : PySem.W.makesIn K z_Alone = true)
    (kc_Alone : PySem.W.keepIn K (.ref z_Alone) = true)
    (hc_Alone : PySem.W.findIn K (.ref z_Alone) "__class__" = some (some (.builtin "object.__class__")))
    (hm_Alone : PySem.W.mroIn K z_Alone (.type "object") = some true)
    (no_Alone_amount : PySem.W.findIn K (.ref z_Alone) "amount" = some none)
    (kit_Alone_Answer : PySem.W.kitOne K (.ref z_Alone) (.ref z_Answer) = some true)
    (kit_Alone_Alone : PySem.W.kitOne K (.ref z_Alone) (.ref z_Alone) = some true)
    (kit_Alone_Needless : PySem.W.kitOne K (.ref z_Alone) (.ref z_Needless) = some false)
    (kit_Alone_Ranges : PySem.W.kitOne K (.ref z_Alone) (.ref z_Ranges) = some false)
    (kit_Alone_Under : PySem.W.kitOne K (.ref z_Alone) (.ref z_Under) = some false)
    (kit_Alone_Over : PySem.W.kitOne K (.ref z_Alone) (.ref z_Over) = some false)
    (kit_Alone_Most : PySem.W.kitOne K (.ref z_Alone) (.ref z_Most) = some false)
    (kit_Alone_Endless : PySem.W.kitOne K (.ref z_Alone) (.ref z_Endless) = some false)
    (kit_Alone_Dear : PySem.W.kitOne K (.ref z_Alone) (.ref z_Dear) = some false)
    (pg_Needless : PySem.W.plainGet K z_Needless Str.empty = true)
    (hd_Needless : PySem.W.hasDictIn K z_Needless = true)
    (po_Needless : PySem.W.plainOver K z_Needless = true)
    (sa_Needless : PySem.W.findIn K (.ref z_Needless) "__setattr__" = some (some (.builtin "object.__setattr__")))
    (mk_Needless : PySem.W.makesIn K z_Needless = true)
    (kc_Needless : PySem.W.keepIn K (.ref z_Needless) = true)
    (hc_Needless : PySem.W.findIn K (.ref z_Needless) "__class__" = some (some (.builtin "object.__class__")))
    (hm_Needless : PySem.W.mroIn K z_Needless (.type "object") = some true)
    (no_Needless_one : PySem.W.findIn K (.ref z_Needless) "one" = some none)
    (no_Needless_other : PySem.W.findIn K (.ref z_Needless) "other" = some none)
    (no_Needless_first : PySem.W.findIn K (.ref z_Needless) "first" = some none)
    (no_Needless_second : PySem.W.findIn K (.ref z_Needless) "second" = some none)
    (kit_Needless_Answer : PySem.W.kitOne K (.ref z_Needless) (.ref z_Answer) = some true)
    (kit_Needless_Alone : PySem.W.kitOne K (.ref z_Needless) (.ref z_Alone) = some false)
    (kit_Needless_Needless : PySem.W.kitOne K (.ref z_Needless) (.ref z_Needless) = some true)
    (kit_Needless_Ranges : PySem.W.kitOne K (.ref z_Needless) (.ref z_Ranges) = some false)
    (kit_Needless_Under : PySem.W.kitOne K (.ref z_Needless) (.ref z_Under) = some false)
    (kit_Needless_Over : PySem.W.kitOne K (.ref z_Needless) (.ref z_Over) = some false)
    (kit_Needless_Most : PySem.W.kitOne K (.ref z_Needless) (.ref z_Most) = some false)
    (kit_Needless_Endless : PySem.W.kitOne K (.ref z_Needless) (.ref z_Endless) = some false)
    (kit_Needless_Dear : PySem.W.kitOne K (.ref z_Needless) (.ref z_Dear) = some false)
    (hn : PySem.W.specialIn K (.builtin "object.__class__") "__get__" = some (some (.builtin "getset_descriptor.__get__")))
    (htk : PySem.W.takesIn K (.builtin "object.__class__") = some true)
    (b_isi : PySem.W.nsIn K mainGlobals "isinstance" = some none)
    (b_int : PySem.W.nsIn K mainGlobals "int" = some none)
    (b_bool : PySem.W.nsIn K mainGlobals "bool" = some none)
    (b_tuple : PySem.W.nsIn K mainGlobals "tuple" = some none)
    (b_list : PySem.W.nsIn K mainGlobals "list" = some none)
    (b_len : PySem.W.nsIn K mainGlobals "len" = some none)
    (b_sum : PySem.W.nsIn K mainGlobals "sum" = some none)
    (b_zip : PySem.W.nsIn K mainGlobals "zip" = some none)
    (b_range : PySem.W.nsIn K mainGlobals "range" = some none)
    (b_enum : PySem.W.nsIn K mainGlobals "enumerate" = some none)
    (b_min : PySem.W.nsIn K mainGlobals "min" = some none)
    (b_max : PySem.W.nsIn K mainGlobals "max" = some none)
    (b_all : PySem.W.nsIn K mainGlobals "all" = some none)
    (b_any : PySem.W.nsIn K mainGlobals "any" = some none)
    (b_str : PySem.W.nsIn K mainGlobals "str" = some none)
    (b_sorted : PySem.W.nsIn K mainGlobals "sorted" = some none)
    (lam : LamAt K mg cd_by_falling_piece tabA)
    : ∃ fd : FuncData, (∀ (s : Shared) (v : Value), BindsTo s fd ⟨[v], []⟩ [("_law_script", v)]) ∧ ∀ base : Heap, K.In base → base.Ns mainGlobals mg → FnOk l.prog w K mg base CX0 7 fa fd ["_law_script"] (spLaw K) := by
  have e := hfa.symm.trans (PySem.W.mg_of X G a_law)
  cases e
  have B : Bl mg := ⟨PySem.W.mg_none_of X G b_isi, PySem.W.mg_none_of X G b_int, PySem.W.mg_none_of X G b_bool, PySem.W.mg_none_of X G b_tuple, PySem.W.mg_none_of X G b_list, PySem.W.mg_none_of X G b_len, PySem.W.mg_none_of X G b_sum, PySem.W.mg_none_of X G b_zip, PySem.W.mg_none_of X G b_range, PySem.W.mg_none_of X G b_enum, PySem.W.mg_none_of X G b_min, PySem.W.mg_none_of X G b_max, PySem.W.mg_none_of X G b_all, PySem.W.mg_none_of X G b_any, PySem.W.mg_none_of X G b_str, PySem.W.mg_none_of X G b_sorted⟩
  let z : Cz := ⟨z_Answer, z_Alone, z_Needless, z_Ranges, z_Under, z_Over, z_Most, z_Endless, z_Dear⟩
  have T : CT K mg z := ⟨PySem.W.mg_of X G a_Answer, PySem.W.mg_of X G a_Alone, PySem.W.mg_of X G a_Needless, PySem.W.mg_of X G a_Ranges, PySem.W.mg_of X G a_Under, PySem.W.mg_of X G a_Over, PySem.W.mg_of X G a_Most, PySem.W.mg_of X G a_Endless, PySem.W.mg_of X G a_Dear, ⟨pg_Alone, hd_Alone, po_Alone, sa_Alone⟩, ⟨hc_Alone, hn, htk, hm_Alone⟩, no_Alone_amount, kit_Alone_Answer, kit_Alone_Alone, kit_Alone_Needless, kit_Alone_Ranges, kit_Alone_Under, kit_Alone_Over, kit_Alone_Most, kit_Alone_Endless, kit_Alone_Dear, ⟨pg_Needless, hd_Needless, po_Needless, sa_Needless⟩, ⟨hc_Needless, hn, htk, hm_Needless⟩, no_Needless_one, no_Needless_other, no_Needless_first, no_Needless_second, kit_Needless_Answer, kit_Needless_Alone, kit_Needless_Needless, kit_Needless_Ranges, kit_Needless_Under, kit_Needless_Over, kit_Needless_Most, kit_Needless_Endless, kit_Needless_Dear⟩
  have F_is_whole := fun_mk (st := s_is_whole) l_is_whole c_is_whole k_is_whole
  have bd_is_whole := F_is_whole.binds (ps := ["value"]) fun _ _ _ _ _ _ us hl => match us, hl with | [_], _ => rfl
  have F_is_whole_pair := fun_mk (st := s_is_whole_pair) l_is_whole_pair c_is_whole_pair k_is_whole_pair
  have bd_is_whole_pair := F_is_whole_pair.binds (ps := ["value"]) fun _ _ _ _ _ _ us hl => match us, hl with | [_], _ => rfl
  have F_common_divisor := fun_mk (st := s_common_divisor) l_common_divisor c_common_divisor k_common_divisor
  have bd_common_divisor := F_common_divisor.binds (ps := ["one", "other"]) fun _ _ _ _ _ _ us hl => match us, hl with | [_, _], _ => rfl
  have F_is_amount := fun_mk (st := s_is_amount) l_is_amount c_is_amount k_is_amount
  have bd_is_amount := F_is_amount.binds (ps := ["value"]) fun _ _ _ _ _ _ us hl => match us, hl with | [_], _ => rfl
  have F_is_place := fun_mk (st := s_is_place) l_is_place c_is_place k_is_place
  have bd_is_place := F_is_place.binds (ps := ["book", "value"]) fun _ _ _ _ _ _ us hl => match us, hl with | [_, _], _ => rfl
  have F_check_book := fun_mk (st := s_check_book) l_check_book c_check_book k_check_book
  have bd_check_book := F_check_book.binds (ps := ["book"]) fun _ _ _ _ _ _ us hl => match us, hl with | [_], _ => rfl
  have F_check_place := fun_mk (st := s_check_place) l_check_place c_check_place k_check_place
  have bd_check_place := F_check_place.binds (ps := ["book", "place"]) fun _ _ _ _ _ _ us hl => match us, hl with | [_, _], _ => rfl
  have F_lowest_terms := fun_mk (st := s_lowest_terms) l_lowest_terms c_lowest_terms k_lowest_terms
  have bd_lowest_terms := F_lowest_terms.binds (ps := ["top", "bottom"]) fun _ _ _ _ _ _ us hl => match us, hl with | [_, _], _ => rfl
  have F_top_of_cost := fun_mk (st := s_top_of_cost) l_top_of_cost c_top_of_cost k_top_of_cost
  have bd_top_of_cost := F_top_of_cost.binds (ps := ["tariff", "amount"]) fun _ _ _ _ _ _ us hl => match us, hl with | [_, _], _ => rfl
  have F_tops_of_cost := fun_mk (st := s_tops_of_cost) l_tops_of_cost c_tops_of_cost k_tops_of_cost
  have bd_tops_of_cost := F_tops_of_cost.binds (ps := ["book", "amount"]) fun _ _ _ _ _ _ us hl => match us, hl with | [_, _], _ => rfl
  have F_is_weighing := fun_mk (st := s_is_weighing) l_is_weighing c_is_weighing k_is_weighing
  have bd_is_weighing := F_is_weighing.binds (ps := ["book", "row"]) fun _ _ _ _ _ _ us hl => match us, hl with | [_, _], _ => rfl
  have F_is_mixture := fun_mk (st := s_is_mixture) l_is_mixture c_is_mixture k_is_mixture
  have bd_is_mixture := F_is_mixture.binds (ps := ["book", "tariff", "row"]) fun _ _ _ _ _ _ us hl => match us, hl with | [_, _, _], _ => rfl
  have F_Alone_init := fun_mk (st := s_Alone_init) l_Alone_init c_Alone_init k_Alone_init
  have bd_Alone_init := F_Alone_init.binds (ps := ["self", "amount"]) fun _ _ _ _ _ _ us hl => match us, hl with | [_, _], _ => rfl
  have F_Alone_shows := fun_mk (st := s_Alone_shows) l_Alone_shows c_Alone_shows k_Alone_shows
  have bd_Alone_shows := F_Alone_shows.binds (ps := ["self", "book", "place"]) fun _ _ _ _ _ _ us hl => match us, hl with | [_, _, _], _ => rfl
  have F_Needless_init := fun_mk (st := s_Needless_init) l_Needless_init c_Needless_init k_Needless_init
  have bd_Needless_init := F_Needless_init.binds (ps := ["self", "one", "other", "first", "second"]) fun _ _ _ _ _ _ us hl => match us, hl with | [_, _, _, _, _], _ => rfl
  have F_Needless_shows := fun_mk (st := s_Needless_shows) l_Needless_shows c_Needless_shows k_Needless_shows
  have bd_Needless_shows := F_Needless_shows.binds (ps := ["self", "book", "place"]) fun _ _ _ _ _ _ us hl => match us, hl with | [_, _, _], _ => rfl
  have F_by_falling_piece := fun_mk (st := s_by_falling_piece) l_by_falling_piece c_by_falling_piece k_by_falling_piece
  have bd_by_falling_piece := F_by_falling_piece.binds (ps := ["book", "places"]) fun _ _ _ _ _ _ us hl => match us, hl with | [_, _], _ => rfl
  have F_least_in_turn := fun_mk (st := s_least_in_turn) l_least_in_turn c_least_in_turn k_least_in_turn
  have bd_least_in_turn := F_least_in_turn.binds (ps := ["book", "places"]) fun _ _ _ _ _ _ us hl => match us, hl with | [_, _], _ => rfl
  have F_turn_for := fun_mk (st := s_turn_for) l_turn_for c_turn_for k_turn_for
  have bd_turn_for := F_turn_for.binds (ps := ["tariff", "book", "places"]) fun _ _ _ _ _ _ us hl => match us, hl with | [_, _, _], _ => rfl
  have F_amount_below := fun_mk (st := s_amount_below) l_amount_below c_amount_below k_amount_below
  have bd_amount_below := F_amount_below.binds (ps := ["tariff", "book", "begins", "places"]) fun _ _ _ _ _ _ us hl => match us, hl with | [_, _, _, _], _ => rfl
  have F_mixture_for := fun_mk (st := s_mixture_for) l_mixture_for c_mixture_for k_mixture_for
  have bd_mixture_for := F_mixture_for.binds (ps := ["tariff", "book", "places"]) fun _ _ _ _ _ _ us hl => match us, hl with | [_, _, _], _ => rfl
  have F_alone := fun_mk (st := s_alone) l_alone c_alone k_alone
  have bd_alone := F_alone.binds (ps := ["book", "place"]) fun _ _ _ _ _ _ us hl => match us, hl with | [_, _], _ => rfl
  have F__law_book := fun_mk (st := s__law_book) l__law_book c__law_book k__law_book
  have bd__law_book := F__law_book.binds (ps := ["_law_script"]) fun _ _ _ _ _ _ us hl => match us, hl with | [_], _ => rfl
  have F__law_lowest := fun_mk (st := s__law_lowest) l__law_lowest c__law_lowest k__law_lowest
  have bd__law_lowest := F__law_lowest.binds (ps := ["_law_above", "_law_below"]) fun _ _ _ _ _ _ us hl => match us, hl with | [_, _], _ => rfl
  have F__law_is_amount := fun_mk (st := s__law_is_amount) l__law_is_amount c__law_is_amount k__law_is_amount
  have bd__law_is_amount := F__law_is_amount.binds (ps := ["_law_found"]) fun _ _ _ _ _ _ us hl => match us, hl with | [_], _ => rfl
  have F__law_cost := fun_mk (st := s__law_cost) l__law_cost c__law_cost k__law_cost
  have bd__law_cost := F__law_cost.binds (ps := ["_law_tariff", "_law_amount"]) fun _ _ _ _ _ _ us hl => match us, hl with | [_, _], _ => rfl
  have F__law_whole := fun_mk (st := s__law_whole) l__law_whole c__law_whole k__law_whole
  have bd__law_whole := F__law_whole.binds (ps := ["_law_found"]) fun _ _ _ _ _ _ us hl => match us, hl with | [_], _ => rfl
  have F__law_mixture := fun_mk (st := s__law_mixture) l__law_mixture c__law_mixture k__law_mixture
  have bd__law_mixture := F__law_mixture.binds (ps := ["_law_book_here", "_law_row", "_law_tariff"]) fun _ _ _ _ _ _ us hl => match us, hl with | [_, _, _], _ => rfl
  have F__law_alone := fun_mk (st := s__law_alone) l__law_alone c__law_alone k__law_alone
  have bd__law_alone := F__law_alone.binds (ps := ["_law_book_here", "_law_place", "_law_amount"]) fun _ _ _ _ _ _ us hl => match us, hl with | [_, _, _], _ => rfl
  have F__law_needless := fun_mk (st := s__law_needless) l__law_needless c__law_needless k__law_needless
  have bd__law_needless := F__law_needless.binds (ps := ["_law_book_here", "_law_place", "_law_row"]) fun _ _ _ _ _ _ us hl => match us, hl with | [_, _, _], _ => rfl
  have F__law_due := fun_mk (st := s__law_due) l__law_due c__law_due k__law_due
  have bd__law_due := F__law_due.binds (ps := ["_law_book_here", "_law_place", "_law_found"]) fun _ _ _ _ _ _ us hl => match us, hl with | [_, _, _], _ => rfl
  have F__law_right := fun_mk (st := s__law_right) l__law_right c__law_right k__law_right
  have bd__law_right := F__law_right.binds (ps := ["_law_book_here", "_law_place"]) fun _ _ _ _ _ _ us hl => match us, hl with | [_, _], _ => rfl
  have F_law := fun_mk (st := s_law) l_law c_law k_law
  have bd_law := F_law.binds (ps := ["_law_script"]) fun _ _ _ _ _ _ us hl => match us, hl with | [_], _ => rfl
  refine ⟨PySem.W.fnOf "law" "law" (defArgs s_law) (defBody s_law) (defScope s_law) .none kV_law dc_law pm_law an_law cd_law ct_law, fun s v => .of_eq rfl, fun base _ _ => ?_⟩
  have o_is_whole := ok_is_whole (P := l.prog) (w := w) (base := base) (z := z) F_is_whole B T
  have w_is_whole : Cl l.prog w K mg base 1 "is_whole" ["value"] spWhole g_is_whole _ := ⟨o_is_whole, bd_is_whole, F_is_whole.kp, PySem.W.mg_of X G a_is_whole⟩
  have o_is_whole_pair := ok_is_whole_pair (P := l.prog) (w := w) (base := base) (z := z) F_is_whole_pair B T w_is_whole
  have w_is_whole_pair : Cl l.prog w K mg base 2 "is_whole_pair" ["value"] spPair g_is_whole_pair _ := ⟨o_is_whole_pair, bd_is_whole_pair, F_is_whole_pair.kp, PySem.W.mg_of X G a_is_whole_pair⟩
  have o_common_divisor := ok_common_divisor (P := l.prog) (w := w) (base := base) (z := z) F_common_divisor B T
  have w_common_divisor : Cl l.prog w K mg base 1 "common_divisor" ["one", "other"] spGcd g_common_divisor _ := ⟨o_common_divisor, bd_common_divisor, F_common_divisor.kp, PySem.W.mg_of X G a_common_divisor⟩
  have o_is_amount := ok_is_amount (P := l.prog) (w := w) (base := base) (z := z) F_is_amount B T w_is_whole_pair w_common_divisor
  have w_is_amount : Cl l.prog w K mg base 3 "is_amount" ["value"] spIsAm g_is_amount _ := ⟨o_is_amount, bd_is_amount, F_is_amount.kp, PySem.W.mg_of X G a_is_amount⟩
  have o_is_place := ok_is_place (P := l.prog) (w := w) (base := base) (z := z) F_is_place B T w_is_whole
  have w_is_place : Cl l.prog w K mg base 2 "is_place" ["book", "value"] spIsPlace g_is_place _ := ⟨o_is_place, bd_is_place, F_is_place.kp, PySem.W.mg_of X G a_is_place⟩
  have o_check_book := ok_check_book (P := l.prog) (w := w) (base := base) (z := z) F_check_book B T w_is_whole_pair
  have w_check_book : Cl l.prog w K mg base 3 "check_book" ["book"] spChBook g_check_book _ := ⟨o_check_book, bd_check_book, F_check_book.kp, PySem.W.mg_of X G a_check_book⟩
  have o_check_place := ok_check_place (P := l.prog) (w := w) (base := base) (z := z) F_check_place B T w_is_place
  have w_check_place : Cl l.prog w K mg base 3 "check_place" ["book", "place"] spChPlace g_check_place _ := ⟨o_check_place, bd_check_place, F_check_place.kp, PySem.W.mg_of X G a_check_place⟩
  have o_lowest_terms := ok_lowest_terms (P := l.prog) (w := w) (base := base) (z := z) F_lowest_terms B T w_common_divisor
  have w_lowest_terms : Cl l.prog w K mg base 2 "lowest_terms" ["top", "bottom"] spLow g_lowest_terms _ := ⟨o_lowest_terms, bd_lowest_terms, F_lowest_terms.kp, PySem.W.mg_of X G a_lowest_terms⟩
  have o_top_of_cost := ok_top_of_cost (P := l.prog) (w := w) (base := base) (z := z) F_top_of_cost B T
  have w_top_of_cost : Cl l.prog w K mg base 1 "top_of_cost" ["tariff", "amount"] spTop g_top_of_cost _ := ⟨o_top_of_cost, bd_top_of_cost, F_top_of_cost.kp, PySem.W.mg_of X G a_top_of_cost⟩
  have o_tops_of_cost := ok_tops_of_cost (P := l.prog) (w := w) (base := base) (z := z) F_tops_of_cost B T w_top_of_cost
  have w_tops_of_cost : Cl l.prog w K mg base 2 "tops_of_cost" ["book", "amount"] spTops g_tops_of_cost _ := ⟨o_tops_of_cost, bd_tops_of_cost, F_tops_of_cost.kp, PySem.W.mg_of X G a_tops_of_cost⟩
  have o_is_weighing := ok_is_weighing (P := l.prog) (w := w) (base := base) (z := z) F_is_weighing B T w_is_whole w_is_place
  have w_is_weighing : Cl l.prog w K mg base 3 "is_weighing" ["book", "row"] spWeigh g_is_weighing _ := ⟨o_is_weighing, bd_is_weighing, F_is_weighing.kp, PySem.W.mg_of X G a_is_weighing⟩
  have o_is_mixture := ok_is_mixture (P := l.prog) (w := w) (base := base) (z := z) F_is_mixture B T w_is_weighing
  have w_is_mixture : Cl l.prog w K mg base 4 "is_mixture" ["book", "tariff", "row"] spMixture g_is_mixture _ := ⟨o_is_mixture, bd_is_mixture, F_is_mixture.kp, PySem.W.mg_of X G a_is_mixture⟩
  have o_Alone_init := ok_Alone_init (P := l.prog) (w := w) (base := base) (z := z) F_Alone_init B T
  have w_Alone_init : Ini l.prog w K mg base 1 z.Alone ["self", "amount"] (spAloneInit z) g_Alone_init _ := ⟨o_Alone_init, bd_Alone_init, ⟨mk_Alone, a_Alone_init, i_Alone_init, kc_Alone⟩⟩
  have o_Alone_shows := ok_Alone_shows (P := l.prog) (w := w) (base := base) (z := z) F_Alone_shows B T w_is_amount w_tops_of_cost
  have w_Alone_shows : Mtd l.prog w K mg base 4 z.Alone "shows" ["self", "book", "place"] (spAloneShows z) g_Alone_shows _ := ⟨o_Alone_shows, bd_Alone_shows, ⟨a_Alone_shows, i_Alone_shows, k_Alone_shows⟩⟩
  have o_Needless_init := ok_Needless_init (P := l.prog) (w := w) (base := base) (z := z) F_Needless_init B T
  have w_Needless_init : Ini l.prog w K mg base 1 z.Needless ["self", "one", "other", "first", "second"] (spNeedInit z) g_Needless_init _ := ⟨o_Needless_init, bd_Needless_init, ⟨mk_Needless, a_Needless_init, i_Needless_init, kc_Needless⟩⟩
  have o_Needless_shows := ok_Needless_shows (P := l.prog) (w := w) (base := base) (z := z) F_Needless_shows B T w_is_mixture
  have w_Needless_shows : Mtd l.prog w K mg base 5 z.Needless "shows" ["self", "book", "place"] (spNeedShows z) g_Needless_shows _ := ⟨o_Needless_shows, bd_Needless_shows, ⟨a_Needless_shows, i_Needless_shows, k_Needless_shows⟩⟩
  have o_by_falling_piece := ok_by_falling_piece (P := l.prog) (w := w) (base := base) (z := z) F_by_falling_piece B T lam
  have w_by_falling_piece : Cl l.prog w K mg base 1 "by_falling_piece" ["book", "places"] spFall g_by_falling_piece _ := ⟨o_by_falling_piece, bd_by_falling_piece, F_by_falling_piece.kp, PySem.W.mg_of X G a_by_falling_piece⟩
  have o_least_in_turn := ok_least_in_turn (P := l.prog) (w := w) (base := base) (z := z) F_least_in_turn B T w_top_of_cost w_by_falling_piece
  have w_least_in_turn : Cl l.prog w K mg base 2 "least_in_turn" ["book", "places"] spTurns g_least_in_turn _ := ⟨o_least_in_turn, bd_least_in_turn, F_least_in_turn.kp, PySem.W.mg_of X G a_least_in_turn⟩
  have o_turn_for := ok_turn_for (P := l.prog) (w := w) (base := base) (z := z) F_turn_for B T
  have w_turn_for : Cl l.prog w K mg base 1 "turn_for" ["tariff", "book", "places"] spTurn g_turn_for _ := ⟨o_turn_for, bd_turn_for, F_turn_for.kp, PySem.W.mg_of X G a_turn_for⟩
  have o_amount_below := ok_amount_below (P := l.prog) (w := w) (base := base) (z := z) F_amount_below B T w_lowest_terms w_top_of_cost w_turn_for
  have w_amount_below : Cl l.prog w K mg base 3 "amount_below" ["tariff", "book", "begins", "places"] spBelow g_amount_below _ := ⟨o_amount_below, bd_amount_below, F_amount_below.kp, PySem.W.mg_of X G a_amount_below⟩
  have o_mixture_for := ok_mixture_for (P := l.prog) (w := w) (base := base) (z := z) F_mixture_for B T w_turn_for
  have w_mixture_for : Cl l.prog w K mg base 2 "mixture_for" ["tariff", "book", "places"] spMix g_mixture_for _ := ⟨o_mixture_for, bd_mixture_for, F_mixture_for.kp, PySem.W.mg_of X G a_mixture_for⟩
  have o_alone := ok_alone (P := l.prog) (w := w) (base := base) (z := z) F_alone B T w_check_book w_check_place w_lowest_terms w_least_in_turn w_amount_below w_mixture_for w_Needless_init w_Alone_init
  have w_alone : Cl l.prog w K mg base 4 "alone" ["book", "place"] (spAlone z) g_alone _ := ⟨o_alone, bd_alone, F_alone.kp, PySem.W.mg_of X G a_alone⟩
  have o__law_book := ok__law_book (P := l.prog) (w := w) (base := base) (z := z) F__law_book B T
  have w__law_book : Cl l.prog w K mg base 1 "_law_book" ["_law_script"] (spBook K) g__law_book _ := ⟨o__law_book, bd__law_book, F__law_book.kp, PySem.W.mg_of X G a__law_book⟩
  have o__law_lowest := ok__law_lowest (P := l.prog) (w := w) (base := base) (z := z) F__law_lowest B T
  have w__law_lowest : Cl l.prog w K mg base 1 "_law_lowest" ["_law_above", "_law_below"] spLow g__law_lowest _ := ⟨o__law_lowest, bd__law_lowest, F__law_lowest.kp, PySem.W.mg_of X G a__law_lowest⟩
  have o__law_is_amount := ok__law_is_amount (P := l.prog) (w := w) (base := base) (z := z) F__law_is_amount B T w__law_lowest
  have w__law_is_amount : Cl l.prog w K mg base 2 "_law_is_amount" ["_law_found"] spLIsAm g__law_is_amount _ := ⟨o__law_is_amount, bd__law_is_amount, F__law_is_amount.kp, PySem.W.mg_of X G a__law_is_amount⟩
  have o__law_cost := ok__law_cost (P := l.prog) (w := w) (base := base) (z := z) F__law_cost B T
  have w__law_cost : Cl l.prog w K mg base 1 "_law_cost" ["_law_tariff", "_law_amount"] spTop g__law_cost _ := ⟨o__law_cost, bd__law_cost, F__law_cost.kp, PySem.W.mg_of X G a__law_cost⟩
  have o__law_whole := ok__law_whole (P := l.prog) (w := w) (base := base) (z := z) F__law_whole B T
  have w__law_whole : Cl l.prog w K mg base 1 "_law_whole" ["_law_found"] spLWhole g__law_whole _ := ⟨o__law_whole, bd__law_whole, F__law_whole.kp, PySem.W.mg_of X G a__law_whole⟩
  have o__law_mixture := ok__law_mixture (P := l.prog) (w := w) (base := base) (z := z) F__law_mixture B T
  have w__law_mixture : Cl l.prog w K mg base 1 "_law_mixture" ["_law_book_here", "_law_row", "_law_tariff"] spLMixture g__law_mixture _ := ⟨o__law_mixture, bd__law_mixture, F__law_mixture.kp, PySem.W.mg_of X G a__law_mixture⟩
  have o__law_alone := ok__law_alone (P := l.prog) (w := w) (base := base) (z := z) F__law_alone B T w__law_cost
  have w__law_alone : Cl l.prog w K mg base 2 "_law_alone" ["_law_book_here", "_law_place", "_law_amount"] spLAlone g__law_alone _ := ⟨o__law_alone, bd__law_alone, F__law_alone.kp, PySem.W.mg_of X G a__law_alone⟩
  have o__law_needless := ok__law_needless (P := l.prog) (w := w) (base := base) (z := z) F__law_needless B T w__law_mixture
  have w__law_needless : Cl l.prog w K mg base 2 "_law_needless" ["_law_book_here", "_law_place", "_law_row"] spLNeed g__law_needless _ := ⟨o__law_needless, bd__law_needless, F__law_needless.kp, PySem.W.mg_of X G a__law_needless⟩
  have o__law_due := ok__law_due (P := l.prog) (w := w) (base := base) (z := z) F__law_due B T w__law_alone w__law_needless
  have w__law_due : Cl l.prog w K mg base 3 "_law_due" ["_law_book_here", "_law_place", "_law_found"] (spLDue z) g__law_due _ := ⟨o__law_due, bd__law_due, F__law_due.kp, PySem.W.mg_of X G a__law_due⟩
  have o__law_right := ok__law_right (P := l.prog) (w := w) (base := base) (z := z) F__law_right B T w_alone w__law_is_amount w__law_whole w__law_due w_Alone_shows w_Needless_shows
  have w__law_right : Cl l.prog w K mg base 6 "_law_right" ["_law_book_here", "_law_place"] (spLRight z) g__law_right _ := ⟨o__law_right, bd__law_right, F__law_right.kp, PySem.W.mg_of X G a__law_right⟩
  have o_law := ok_law (P := l.prog) (w := w) (base := base) (z := z) F_law B T w__law_book w__law_right
  exact o_law
theorem walk {l : PySem.W.OpenLaw} {q : Program} {loose : List Str} {XP : (Str → Option Value) → Heap → Prop} {YP : World → Heap → Prop} {d : DefRec} {K : Params → PySem.W.Frag} (hn : l.most = some 63) (hdf : d.params.defaults = [])
    (hY : ∀ (w : World) (h : Heap), YP w h → (K w.params).In h ∧ h.get? tabA = some (PySem.W.tabObj #[])) (hCd : ∀ (w : World) (h : Heap), (K w.params).In h → PySem.W.CodeHd h codA tabA) (hKT : ∀ w : World, (K w.params).lookup tabA = none)
    (F : ∀ (w : World) (mg : Str → Option Value) (fa : Addr) (h : Heap), (K w.params).In h → h.Ns mainGlobals mg → mg d.name = some (.ref fa) →
      ∃ fd : FuncData, (∀ (s : Shared) (u : Value), BindsTo s fd ⟨[u], []⟩ [("_law_script", u)]) ∧ ∀ base : Heap, (K w.params).In base → base.Ns mainGlobals mg → FnOk l.prog w (K w.params) mg base CX0 7 fa fd ["_law_script"] (spLaw (K w.params))) :
    PySem.W.WalkO q loose XP YP l.row.toRowW d [] (fun f vs => PySem.call f vs) :=
  L2.walk_ofT (T := tabA) (c := codA) (n := 63) (k := 7) (x := "_law_script") (CX := fun _ => CX0) (sp := fun w => spLaw (K w.params)) hn (by decide) hdf ⟨rfl, by decide, by decide⟩ hY hCd hKT F (fun _ _ a ns hl hT hS => ⟨a, ns, rfl, hS, hl, ⟨_, hT, .inl rfl⟩, fun _ => rfl⟩) fun _ _ _ _ _ z => z
end My
open PySem PySem.W PyProof.Rows
set_option maxRecDepth 100000 in
set_option maxHeartbeats 0 in
theorem PySem.Challenge.cw_leasttariff_k02_whole_alone_holds : PySem.Challenge.rw_leasttariff_k02_whole_alone.Holds := by
  w_on; o_law
  refine holds_open (q := My.qL) (loose := My.looseL) (Xt := My.XtL) (XP := XL My.qL []) (Yf := My.YfL) (Ya := My.YaL) (YP := fun w h => InK My.KL w h ∧ h.get? My.tabA = some My.tabO) (N := 8200) My.leftL (fun w s e => My.kt_in (My.hYL w s e)) (fun w h h' Y k => ⟨InK.keeps w h h' Y.1 k, k _ _ Y.2⟩) (fun s e => xl_of s (Bool.and_eq_true_iff.mp e).1) XL.keeps (by rfl) (by rfl) (by rfl)
    (fun s e => recFacts_of (Bool.and_eq_true_iff.mp e).2) (by rfl) (by first | assumption | decide +kernel) (by decide +kernel) ⟨rfl, rfl, rfl, rfl, rfl, by decide +kernel⟩ ?hw ?hc
  (case hw => w_witness2)
  k_fill
  refine My.walk (l := PySem.Challenge.rw_leasttariff_k02_whole_alone) rfl rfl (K := My.KL) (fun _ _ Y => Y) (fun _ _ Y => My.cod_hd Y) (fun w => My.tab_out w.params) ?F
  case F =>
    intro w mg fa h KX G hmg
    refine' My.all_mk KX G hmg ?a_Answer ?a_Alone ?a_Needless ?a_Ranges ?a_Under ?a_Over ?a_Most ?a_Endless ?a_Dear ?a_is_whole ?l_is_whole ?c_is_whole ?k_is_whole ?a_is_whole_pair ?l_is_whole_pair ?c_is_whole_pair ?k_is_whole_pair ?a_common_divisor ?l_common_divisor ?c_common_divisor ?k_common_divisor ?a_is_amount ?l_is_amount ?c_is_amount ?k_is_amount ?a_is_place ?l_is_place ?c_is_place ?k_is_place ?a_check_book ?l_check_book ?c_check_book ?k_check_book ?a_check_place ?l_check_place ?c_check_place ?k_check_place ?a_lowest_terms ?l_lowest_terms ?c_lowest_terms ?k_lowest_terms ?a_top_of_cost ?l_top_of_cost ?c_top_of_cost ?k_top_of_cost ?a_tops_of_cost ?l_tops_of_cost ?c_tops_of_cost ?k_tops_of_cost ?a_is_weighing ?l_is_weighing ?c_is_weighing ?k_is_weighing ?a_is_mixture ?l_is_mixture ?c_is_mixture ?k_is_mixture ?a_Alone_init ?i_Alone_init ?l_Alone_init ?c_Alone_init ?k_Alone_init ?a_Alone_shows ?i_Alone_shows ?l_Alone_shows ?c_Alone_shows ?k_Alone_shows ?a_Needless_init ?i_Needless_init ?l_Needless_init ?c_Needless_init ?k_Needless_init ?a_Needless_shows ?i_Needless_shows ?l_Needless_shows ?c_Needless_shows ?k_Needless_shows ?a_by_falling_piece ?l_by_falling_piece ?c_by_falling_piece ?k_by_falling_piece ?a_least_in_turn ?l_least_in_turn ?c_least_in_turn ?k_least_in_turn ?a_turn_for ?l_turn_for ?c_turn_for ?k_turn_for ?a_amount_below ?l_amount_below ?c_amount_below ?k_amount_below ?a_mixture_for ?l_mixture_for ?c_mixture_for ?k_mixture_for ?a_alone ?l_alone ?c_alone ?k_alone ?a__law_book ?l__law_book ?c__law_book ?k__law_book ?a__law_lowest ?l__law_lowest ?c__law_lowest ?k__law_lowest ?a__law_is_amount ?l__law_is_amount ?c__law_is_amount ?k__law_is_amount ?a__law_cost ?l__law_cost ?c__law_cost ?k__law_cost ?a__law_whole ?l__law_whole ?c__law_whole ?k__law_whole ?a__law_mixture ?l__law_mixture ?c__law_mixture ?k__law_mixture ?a__law_alone ?l__law_alone ?c__law_alone ?k__law_alone ?a__law_needless ?l__law_needless ?c__law_needless ?k__law_needless ?a__law_due ?l__law_due ?c__law_due ?k__law_due ?a__law_right ?l__law_right ?c__law_right ?k__law_right ?a_law ?l_law ?c_law ?k_law ?pg_Alone ?hd_Alone ?po_Alone ?sa_Alone ?mk_Alone ?kc_Alone ?hc_Alone ?hm_Alone ?no_Alone_amount ?kit_Alone_Answer ?kit_Alone_Alone ?kit_Alone_Needless ?kit_Alone_Ranges ?kit_Alone_Under ?kit_Alone_Over ?kit_Alone_Most ?kit_Alone_Endless ?kit_Alone_Dear ?pg_Needless ?hd_Needless ?po_Needless ?sa_Needless ?mk_Needless ?kc_Needless ?hc_Needless ?hm_Needless ?no_Needless_one ?no_Needless_other ?no_Needless_first ?no_Needless_second ?kit_Needless_Answer ?kit_Needless_Alone ?kit_Needless_Needless ?kit_Needless_Ranges ?kit_Needless_Under ?kit_Needless_Over ?kit_Needless_Most ?kit_Needless_Endless ?kit_Needless_Dear ?hn ?htk ?b_isi ?b_int ?b_bool ?b_tuple ?b_list ?b_len ?b_sum ?b_zip ?b_range ?b_enum ?b_min ?b_max ?b_all ?b_any ?b_str ?b_sorted ?lam
    (case a_Answer => k_is)
    (case a_Alone => k_is)
    (case a_Needless => k_is)
    (case a_Ranges => k_is)
    (case a_Under => k_is)
    (case a_Over => k_is)
    (case a_Most => k_is)
    (case a_Endless => k_is)
    (case a_Dear => k_is)
    (case a_is_whole => k_is)
    (case l_is_whole => k_is)
    (case c_is_whole => k_is)
    (case k_is_whole => k_is)
    (case a_is_whole_pair => k_is)
    (case l_is_whole_pair => k_is)
    (case c_is_whole_pair => k_is)
    (case k_is_whole_pair => k_is)
    (case a_common_divisor => k_is)
    (case l_common_divisor => k_is)
    (case c_common_divisor => k_is)
    (case k_common_divisor => k_is)
    (case a_is_amount => k_is)
    (case l_is_amount => k_is)
    (case c_is_amount => k_is)
    (case k_is_amount => k_is)
    (case a_is_place => k_is)
    (case l_is_place => k_is)
    (case c_is_place => k_is)
    (case k_is_place => k_is)
    (case a_check_book => k_is)
    (case l_check_book => k_is)
    (case c_check_book => k_is)
    (case k_check_book => k_is)
    (case a_check_place => k_is)
    (case l_check_place => k_is)
    (case c_check_place => k_is)
    (case k_check_place => k_is)
    (case a_lowest_terms => k_is)
    (case l_lowest_terms => k_is)
    (case c_lowest_terms => k_is)
    (case k_lowest_terms => k_is)
    (case a_top_of_cost => k_is)
    (case l_top_of_cost => k_is)
    (case c_top_of_cost => k_is)
    (case k_top_of_cost => k_is)
    (case a_tops_of_cost => k_is)
    (case l_tops_of_cost => k_is)
    (case c_tops_of_cost => k_is)
    (case k_tops_of_cost => k_is)
    (case a_is_weighing => k_is)
    (case l_is_weighing => k_is)
    (case c_is_weighing => k_is)
    (case k_is_weighing => k_is)
    (case a_is_mixture => k_is)
    (case l_is_mixture => k_is)
    (case c_is_mixture => k_is)
    (case k_is_mixture => k_is)
    (case a_Alone_init => k_is)
    (case i_Alone_init => k_is)
    (case l_Alone_init => k_is)
    (case c_Alone_init => k_is)
    (case k_Alone_init => k_is)
    (case a_Alone_shows => k_is)
    (case i_Alone_shows => k_is)
    (case l_Alone_shows => k_is)
    (case c_Alone_shows => k_is)
    (case k_Alone_shows => k_is)
    (case a_Needless_init => k_is)
    (case i_Needless_init => k_is)
    (case l_Needless_init => k_is)
    (case c_Needless_init => k_is)
    (case k_Needless_init => k_is)
    (case a_Needless_shows => k_is)
    (case i_Needless_shows => k_is)
    (case l_Needless_shows => k_is)
    (case c_Needless_shows => k_is)
    (case k_Needless_shows => k_is)
    (case a_by_falling_piece => k_is)
    (case l_by_falling_piece => k_is)
    (case c_by_falling_piece => k_is)
    (case k_by_falling_piece => k_is)
    (case a_least_in_turn => k_is)
    (case l_least_in_turn => k_is)
    (case c_least_in_turn => k_is)
    (case k_least_in_turn => k_is)
    (case a_turn_for => k_is)
    (case l_turn_for => k_is)
    (case c_turn_for => k_is)
    (case k_turn_for => k_is)
    (case a_amount_below => k_is)
    (case l_amount_below => k_is)
    (case c_amount_below => k_is)
    (case k_amount_below => k_is)
    (case a_mixture_for => k_is)
    (case l_mixture_for => k_is)
    (case c_mixture_for => k_is)
    (case k_mixture_for => k_is)
    (case a_alone => k_is)
    (case l_alone => k_is)
    (case c_alone => k_is)
    (case k_alone => k_is)
    (case a__law_book => k_is)
    (case l__law_book => k_is)
    (case c__law_book => k_is)
    (case k__law_book => k_is)
    (case a__law_lowest => k_is)
    (case l__law_lowest => k_is)
    (case c__law_lowest => k_is)
    (case k__law_lowest => k_is)
    (case a__law_is_amount => k_is)
    (case l__law_is_amount => k_is)
    (case c__law_is_amount => k_is)
    (case k__law_is_amount => k_is)
    (case a__law_cost => k_is)
    (case l__law_cost => k_is)
    (case c__law_cost => k_is)
    (case k__law_cost => k_is)
    (case a__law_whole => k_is)
    (case l__law_whole => k_is)
    (case c__law_whole => k_is)
    (case k__law_whole => k_is)
    (case a__law_mixture => k_is)
    (case l__law_mixture => k_is)
    (case c__law_mixture => k_is)
    (case k__law_mixture => k_is)
    (case a__law_alone => k_is)
    (case l__law_alone => k_is)
    (case c__law_alone => k_is)
    (case k__law_alone => k_is)
    (case a__law_needless => k_is)
    (case l__law_needless => k_is)
    (case c__law_needless => k_is)
    (case k__law_needless => k_is)
    (case a__law_due => k_is)
    (case l__law_due => k_is)
    (case c__law_due => k_is)
    (case k__law_due => k_is)
    (case a__law_right => k_is)
    (case l__law_right => k_is)
    (case c__law_right => k_is)
    (case k__law_right => k_is)
    (case a_law => k_is)
    (case l_law => k_is)
    (case c_law => k_is)
    (case k_law => k_is)
    (case pg_Alone => k_is)
    (case hd_Alone => k_is)
    (case po_Alone => k_is)
    (case sa_Alone => k_is)
    (case mk_Alone => k_is)
    (case kc_Alone => k_is)
    (case hc_Alone => k_is)
    (case hm_Alone => k_is)
    (case no_Alone_amount => k_is)
    (case kit_Alone_Answer => kit_is)
    (case kit_Alone_Alone => kit_is)
    (case kit_Alone_Needless => kit_is)
    (case kit_Alone_Ranges => kit_is)
    (case kit_Alone_Under => kit_is)
    (case kit_Alone_Over => kit_is)
    (case kit_Alone_Most => kit_is)
    (case kit_Alone_Endless => kit_is)
    (case kit_Alone_Dear => kit_is)
    (case pg_Needless => k_is)
    (case hd_Needless => k_is)
    (case po_Needless => k_is)
    (case sa_Needless => k_is)
    (case mk_Needless => k_is)
    (case kc_Needless => k_is)
    (case hc_Needless => k_is)
    (case hm_Needless => k_is)
    (case no_Needless_one => k_is)
    (case no_Needless_other => k_is)
    (case no_Needless_first => k_is)
    (case no_Needless_second => k_is)
    (case kit_Needless_Answer => kit_is)
    (case kit_Needless_Alone => kit_is)
    (case kit_Needless_Needless => kit_is)
    (case kit_Needless_Ranges => kit_is)
    (case kit_Needless_Under => kit_is)
    (case kit_Needless_Over => kit_is)
    (case kit_Needless_Most => kit_is)
    (case kit_Needless_Endless => kit_is)
    (case kit_Needless_Dear => kit_is)
    (case hn => k_is)
    (case htk => k_is)
    (case b_isi => k_is)
    (case b_int => k_is)
    (case b_bool => k_is)
    (case b_tuple => k_is)
    (case b_list => k_is)
    (case b_len => k_is)
    (case b_sum => k_is)
    (case b_zip => k_is)
    (case b_range => k_is)
    (case b_enum => k_is)
    (case b_min => k_is)
    (case b_max => k_is)
    (case b_all => k_is)
    (case b_any => k_is)
    (case b_str => k_is)
    (case b_sorted => k_is)
    (case lam => exact My.lamL KX G (by k_is))
#print axioms PySem.Challenge.cw_leasttariff_k02_whole_alone_holds
