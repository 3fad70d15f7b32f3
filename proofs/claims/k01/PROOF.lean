import PyProof.Rows.All
import Wide.All
import OpenK.AllK
import Wide.FinOn
import Lean
import PyProof.EqAt
import PyProof.EqKinds
import PyProof.TupleCall
import PyProof.Rows.EqDataRows
import PyProof.ConsumeWalk
import PyProof.ZipIter
import KE.RegKIsAll
import PyProof.Rows.MinMaxN
import PyProof.SumWalk
import KE.KTupSum
import PyProof.Rows.SortWalk
import PyProof.CompUse
import PyProof.ListMulRoad
import PyProof.FactsAll.tuple
import PyProof.CallStr
import PySem.Challenge.RW_benchends_k01_worlds
set_option genSizeOf false
set_option Elab.async false
set_option linter.all false
set_option maxRecDepth 100000
/-! THE HAND LAYER, for ints, bools, texts, own classes, LISTS and tuples (index, slices, in, append, pop ..), calls, loops. Paste it whole ahead of your own text; what your proof does not reach may be deleted. -/
namespace L2
open PySem PySem.Spec PyProof.Rows

/-- a key: an int or a str -/
abbrev Key := Sum Int Str
def keyIs : Key → Value → Bool
  | .inl k, v => Value.isInt k v
  | .inr x, v => Value.isStrOf x v
def keyH (w : World) : Key → Int
  | .inl k => hashInt k
  | .inr x => hashStr w x
theorem keyIs_shape : ∀ {k : Key} {v : Value}, keyIs k v = true → (∃ i t, k = Sum.inl i ∧ v = Value.int i t) ∨ (∃ x t, k = Sum.inr x ∧ v = Value.str x t)
  | .inl i, v, h => by
    obtain ⟨t, e⟩ := Value.isInt_shape (k := i) (v := v) h
    exact .inl ⟨i, t, rfl, e⟩
  | .inr x, v, h => by
    obtain ⟨t, e⟩ := Value.isStrOf_shape (x := x) (v := v) h
    exact .inr ⟨x, t, rfl, e⟩
theorem keyIs_int (i : Int) (t : Tok) : keyIs (.inl i) (.int i t) = true := by simp [keyIs, Value.isInt]
theorem keyIs_str (x : Str) (t : Tok) : keyIs (.inr x) (.str x t) = true := by simp [keyIs, Value.isStrOf]
theorem key_ll (a b : Int) : decide ((Sum.inl a : Key) = Sum.inl b) = (a == b) := by
  by_cases e : a = b
  · subst e; simp
  · have h : ¬ (Sum.inl a : Key) = Sum.inl b := fun q => e (Sum.inl.inj q)
    rw [decide_eq_false h]
    exact (beq_eq_false_iff_ne.mpr e).symm
theorem key_rr (a b : Str) : decide ((Sum.inr a : Key) = Sum.inr b) = decide (a = b) := by
  by_cases e : a = b
  · subst e; simp
  · have h : ¬ (Sum.inr a : Key) = Sum.inr b := fun q => e (Sum.inr.inj q)
    rw [decide_eq_false h, decide_eq_false e]
theorem key_lr (a : Int) (b : Str) : decide ((Sum.inl a : Key) = Sum.inr b) = false := decide_eq_false (fun q => nomatch q)
theorem key_rl (a : Str) (b : Int) : decide ((Sum.inr a : Key) = Sum.inl b) = false := decide_eq_false (fun q => nomatch q)

def mixKind (prog : Program) (w : World) : PySem.KeyKind prog w Key where
  is := keyIs
  hash := keyH w
  inj := fun v a b ha hb => by
    rcases keyIs_shape ha with ⟨i, t, rfl, rfl⟩ | ⟨x, t, rfl, rfl⟩
    · rcases keyIs_shape hb with ⟨j, u, rfl, e⟩ | ⟨y, u, rfl, e⟩
      · injection e with e1 _; rw [e1]
      · exact nomatch e
    · rcases keyIs_shape hb with ⟨j, u, rfl, e⟩ | ⟨y, u, rfl, e⟩
      · exact nomatch e
      · injection e with e1 _; rw [e1]
  byValue := fun k v h => by
    rcases keyIs_shape h with ⟨i, t, rfl, rfl⟩ | ⟨x, t, rfl, rfl⟩ <;> rfl
  pyHash := fun hv h => by
    rcases keyIs_shape hv with ⟨i, t, rfl, rfl⟩ | ⟨x, t, rfl, rfl⟩
    · exact wpAny_pyHash_int h
    · exact wpAny_pyHash_str h
  eqBool := fun hu hv h => by
    rcases keyIs_shape hu with ⟨i, t, rfl, rfl⟩ | ⟨x, t, rfl, rfl⟩
    · rcases keyIs_shape hv with ⟨j, u, rfl, rfl⟩ | ⟨y, u, rfl, rfl⟩
      · rw [key_ll] at h; exact wpAny_eqBool_int h
      · rw [key_lr] at h; exact SeqAt.EqAt.int_str i t y u _ _ _ _ h
    · rcases keyIs_shape hv with ⟨j, u, rfl, rfl⟩ | ⟨y, u, rfl, rfl⟩
      · rw [key_rl] at h; exact SeqAt.EqAt.str_int x t j u _ _ _ _ h
      · rw [key_rr] at h; exact wpAny_eqBool_str h
  «strs» := fun k x t v h => by
    rcases keyIs_shape h with ⟨i, u, rfl, e⟩ | ⟨y, u, rfl, e⟩
    · exact nomatch e
    · injection e with e1 _
      subst e1
      cases v <;> rfl

theorem mixKind_int (prog : Program) (w : World) (i : Int) (t : Tok) : (mixKind prog w).is (.inl i) (.int i t) = true := keyIs_int i t
theorem mixKind_str (prog : Program) (w : World) (x : Str) (t : Tok) : (mixKind prog w).is (.inr x) (.str x t) = true := keyIs_str x t
end L2

namespace L2
open PySem PySem.Spec PyProof.Rows

/-- a value, without the heap -/
inductive V where
  | non | bl (b : Bool) | int (i : Int) | str (x : Str) | byt (b : Array UInt8) | flt (b : UInt64) | ref (a : Addr) | ty (n : String)
  deriving DecidableEq

def RelV : V → Value → Prop
  | .non, u => u = Value.none
  | .bl b, u => u = Value.bool b
  | .int i, u => ∃ t, u = Value.int i t
  | .str x, u => ∃ t, u = Value.str x t
  | .byt b, u => ∃ t, u = Value.bytes b t
  | .flt b, u => ∃ t, u = Value.float b t
  | .ref a, u => u = Value.ref a
  | .ty n, u => u = Value.type n

abbrev Vals : List V → List Value → Prop := Paired RelV
theorem Vals.length {xs : List V} {us : List Value} (r : Vals xs us) : xs.length = us.length := Paired.length r
theorem Vals.get : ∀ {xs : List V} {us : List Value} {i : Nat} {x : V}, Vals xs us → xs[i]? = some x → ∃ u, us[i]? = some u ∧ RelV x u
  | _, _, _, _, .nil, e => by simp at e
  | _, _, 0, _, .cons r _, e => by simp at e; subst e; exact ⟨_, rfl, r⟩
  | _, _, i + 1, x, .cons _ t, e => by
    obtain ⟨u, h1, h2⟩ := Vals.get (i := i) (x := x) t (by simpa using e)
    exact ⟨u, by simpa using h1, h2⟩
theorem Vals.append : ∀ {xs ys : List V} {us ws : List Value}, Vals xs us → Vals ys ws → Vals (xs ++ ys) (us ++ ws)
  | _, _, _, _, .nil, s => s
  | _, _, _, _, .cons r t, s => .cons r (Vals.append t s)
theorem Vals.take : ∀ {xs : List V} {us : List Value} (n : Nat), Vals xs us → Vals (xs.take n) (us.take n)
  | _, _, 0, _ => .nil
  | _, _, _ + 1, .nil => .nil
  | _, _, n + 1, .cons r t => .cons r (Vals.take n t)
theorem Vals.drop : ∀ {xs : List V} {us : List Value} (n : Nat), Vals xs us → Vals (xs.drop n) (us.drop n)
  | _, _, 0, r => r
  | _, _, _ + 1, .nil => .nil
  | _, _, n + 1, .cons _ t => Vals.drop n t
def RelO : Option V → Option Value → Prop
  | some v, some u => RelV v u
  | none, none => True
  | _, _ => False
def KV {κ : Type} : List (κ × V) → List (κ × Value) → Prop := Paired fun (p : κ × V) (q : κ × Value) => p.1 = q.1 ∧ RelV p.2 q.2

/-- a key of a dict (00_mix): an int or a text -/
def kV : Key → V
  | .inl i => .int i
  | .inr x => .str x

/-- what stands at a tracked address -/
inductive HO where
  /-- a list -/
  | lst (xs : List V)
  /-- a tuple (never changes) -/
  | tup (xs : List V)
  /-- a dict whose keys are ints and texts; one whose keys are tuples of ints and texts (the empty one is both) -/
  | dK (kvs : List (Key × V)) | dT (kvs : List (List Key × V))
  /-- a set of ints: its members, its size -/
  | set (S : Int → Bool) (n : Nat)
  /-- an instance of the class at C, its dict at dx, its attributes -/
  | ins (C dx : Addr) (fs : List (Str × V))
  /-- the dict of the instance at x -/
  | own (x : Addr)
  /-- the dict of an exception -/
  | xd (fs : List (Str × V))
  /-- a bound method, f of x -/
  | met (f x : Addr)
  /-- a range object lo, lo + 1, .. below hi -/
  | rng (lo hi : Int)
  /-- a thing that is known to the object (the script; a dict while a loop walks it): read, never written while it is so -/
  | frz (o : Obj) (u : HO)
  /-- a code object's table -/
  | tbl (ps : Array Value)
  /-- any other thing, by what is true of its one object (a def of one's own: SetO a S n := HO.ext fun h => ..) -/
  | ext (φ : Heap → Prop)

abbrev Hp := Addr → Option HO
def upd (H : Hp) (a : Addr) (o : HO) : Hp := fun b => if b = a then some o else H b
theorem upd_same {H : Hp} {a : Addr} {o : HO} : upd H a o a = some o := by unfold upd; rw [if_pos rfl]
theorem upd_ne {H : Hp} {a b : Addr} {o : HO} (h : b ≠ a) : upd H a o b = H b := by unfold upd; rw [if_neg h]
/-- two objects of different content stand apart -/
theorem ne_of {H : Hp} {a b : Addr} {o u : HO} (h : H a = some o) (h' : H b = some u) (d : o ≠ u) : a ≠ b := by
  intro e; subst e; rw [h] at h'; exact d (Option.some.inj h')
theorem ne_of_none {H : Hp} {a b : Addr} {o : HO} (h : H a = some o) (h' : H b = none) : a ≠ b := by
  intro e; subst e; rw [h] at h'; cases h'

section
variable (P : Program) (w : World)
def TupP (h : Heap) (a : Addr) (items : Array Value) : Prop := ∃ o, h.get? a = some o ∧ o.cls = .type "tuple" ∧ o.dict = none ∧ ∃ n, o.data = .seq items n
theorem TupP.t {h : Heap} {a : Addr} {items : Array Value} (p : TupP h a items) : IsTup h a items := let ⟨o, e, c, _, n, d⟩ := p; ⟨o, e, c, n, d⟩
theorem TupP.new (h : Heap) (items : Array Value) : TupP (h.push { cls := .type "tuple", data := .seq items }) h.objs.size items := ⟨_, Heap.get?_push_size _ rfl, rfl, rfl, 0, rfl⟩
def ObjOk (H : Hp) (h : Heap) (a : Addr) : HO → Prop
  | .lst xs => xs.length ≤ sizeLine ∧ ∃ (its : List Value) (n : Nat), Vals xs its ∧ h.get? a = some { cls := .type "list", data := .seq its.toArray n }
  | .tup xs => xs.length ≤ sizeLine ∧ ∃ its : List Value, Vals xs its ∧ TupP h a its.toArray
  | .dK kvs => kvs.length ≤ sizeLine ∧ (a == sysModules) = false ∧ ∃ vs, KV kvs vs ∧ h.DictOf (mixKind P w) a vs
  | .dT kvs => kvs.length ≤ sizeLine ∧ (a == sysModules) = false ∧ ∃ xs : List (List Key × Addr × Value),
      Paired (fun (p : List Key × V) (q : List Key × Addr × Value) => p.1 = q.1 ∧ H q.2.1 = some (.tup (p.1.map kV)) ∧ RelV p.2 q.2.2) kvs xs ∧
      ∃ o es ep, h.get? a = some o ∧ o.ExactDict ∧ o.data = .dict es ep ∧ es.toList = xs.map (entryOfKey (tupleKind (mixKind P w))) ∧ (xs.map (·.1)).Nodup
  | .set S n => h.SetOf (intKind P w) a S n
  | .ins C dx fs => H dx = some (.own a) ∧ fs.length ≤ 1000 ∧ dx ≠ a ∧ h.get? a = some (PySem.W.instObj C dx) ∧
      ∃ mA, h.Ns1 dx mA ∧ (∀ f, RelO (fs.lookup f) (mA f)) ∧ PySem.Within mA (fs.map (·.1))
  | .own _ => ∃ o, h.get? a = some o
  | .xd fs => ∃ mA, h.Ns1 a mA ∧ ∀ f, RelO (fs.lookup f) (mA f)
  | .rng lo hi => ∃ t u v, h.get? a = some { cls := .type "range", data := .fields #[.int lo t, .int hi u, .int 1 v] }
  | .frz o u => h.get? a = some o ∧ ObjOk H h a u
  | .tbl ps => h.get? a = some { cls := .none, data := .fields ps }
  | .met f x => h.get? a = some (PySem.W.methodObj (.ref f) (.ref x))
  | .ext φ => φ h ∧ (∃ o, h.get? a = some o) ∧ ∀ h1 h2 : Heap, φ h1 → (∀ o, h1.get? a = some o → h2.get? a = some o) → φ h2
/-- the abstract heap is held -/
def HOk (H : Hp) (h : Heap) : Prop := ∀ a o, H a = some o → ObjOk P w H h a o
end

section
variable {P : Program} {w : World} {H H' : Hp} {h h' : Heap} {a : Addr} {o : HO}
theorem ObjOk.lt (x : ObjOk P w H h a o) : a < h.objs.size := by
  cases o with
  | lst xs => obtain ⟨_, _, _, _, e⟩ := x; exact Heap.lt_size e
  | tup xs => obtain ⟨_, _, _, p⟩ := x; exact p.t.lt
  | dK kvs => obtain ⟨_, _, _, _, o, _, _, e, _⟩ := x; exact Heap.lt_size e
  | dT kvs => obtain ⟨_, _, _, _, o, _, _, e, _⟩ := x; exact Heap.lt_size e
  | set S n => obtain ⟨o, _, _, _, e, _⟩ := x; exact Heap.lt_size e
  | ins C dx fs => obtain ⟨_, _, _, e, _⟩ := x; exact Heap.lt_size e
  | own y => obtain ⟨_, e⟩ := x; exact Heap.lt_size e
  | xd fs => obtain ⟨_, ⟨_, _, _, e, _⟩, _⟩ := x; exact Heap.lt_size e
  | rng lo hi => obtain ⟨_, _, _, e⟩ := x; exact Heap.lt_size e
  | frz ob u => obtain ⟨e, _⟩ := x; exact Heap.lt_size e
  | tbl ps => exact Heap.lt_size (show h.get? a = some _ from x)
  | met f y => exact Heap.lt_size (show h.get? a = some _ from x)
  | ext φ => obtain ⟨_, ⟨_, e⟩, _⟩ := x; exact Heap.lt_size e
theorem Paired.mapP {α β : Type} {F G : α → β → Prop} : ∀ {l₁ : List α} {l₂ : List β}, Paired F l₁ l₂ → (∀ a b, F a b → G a b) → Paired G l₁ l₂
  | _, _, .nil, _ => .nil
  | _, _, .cons r t, f => .cons (f _ _ r) (Paired.mapP t f)
/-- what an object's description leans on: its own object, its own dict, the tuples -/
theorem ObjOk.stay (x : ObjOk P w H h a o) (k : ∀ b u, (b = a ∨ H b = some (.own a)) → h.get? b = some u → h'.get? b = some u)
    (ho : ∀ b, H b = some (.own a) → H' b = some (.own a)) (ht : ∀ b xs, H b = some (.tup xs) → H' b = some (.tup xs)) : ObjOk P w H' h' a o := by
  induction o with
  | lst xs => obtain ⟨z, its, n, r, e⟩ := x; exact ⟨z, its, n, r, k _ _ (.inl rfl) e⟩
  | tup xs => obtain ⟨z, its, r, ob, e, c⟩ := x; exact ⟨z, its, r, ob, k _ _ (.inl rfl) e, c⟩
  | dK kvs => obtain ⟨z, y, vs, r, ob, es, ep, e, c⟩ := x; exact ⟨z, y, vs, r, ob, es, ep, k _ _ (.inl rfl) e, c⟩
  | dT kvs =>
    obtain ⟨z, y, xs, r, ob, es, ep, e, c⟩ := x
    exact ⟨z, y, xs, Paired.mapP r fun p q z => ⟨z.1, ht _ _ z.2.1, z.2.2⟩, ob, es, ep, k _ _ (.inl rfl) e, c⟩
  | set S n => obtain ⟨ob, es, ep, t, e, c⟩ := x; exact ⟨ob, es, ep, t, k _ _ (.inl rfl) e, c⟩
  | ins C dx fs =>
    obtain ⟨d, z, ne, e, mA, ⟨od, es, ep, e2, c⟩, r⟩ := x
    exact ⟨ho _ d, z, ne, k _ _ (.inl rfl) e, mA, ⟨od, es, ep, k _ _ (.inr d) e2, c⟩, r⟩
  | own y => obtain ⟨ob, e⟩ := x; exact ⟨ob, k _ _ (.inl rfl) e⟩
  | xd fs => obtain ⟨mA, ⟨od, es, ep, e, c⟩, r⟩ := x; exact ⟨mA, ⟨od, es, ep, k _ _ (.inl rfl) e, c⟩, r⟩
  | rng lo hi => obtain ⟨t, u, v, e⟩ := x; exact ⟨t, u, v, k _ _ (.inl rfl) e⟩
  | frz ob u ih => obtain ⟨e, q⟩ := x; exact ⟨k _ _ (.inl rfl) e, ih q⟩
  | tbl ps =>
    have e : h.get? a = some { cls := .none, data := .fields ps } := x
    show h'.get? a = some { cls := .none, data := .fields ps }
    exact k a _ (.inl rfl) e
  | met f y =>
    have e : h.get? a = some (PySem.W.methodObj (.ref f) (.ref y)) := x
    show h'.get? a = some (PySem.W.methodObj (.ref f) (.ref y))
    exact k a _ (.inl rfl) e
  | ext φ => obtain ⟨p, ⟨o, e⟩, st⟩ := x; exact ⟨st _ _ p fun o q => k _ _ (.inl rfl) q, ⟨o, k _ _ (.inl rfl) e⟩, st⟩
theorem HOk.lt (x : HOk P w H h) (e : H a = some o) : a < h.objs.size := (x a o e).lt
theorem HOk.fresh (x : HOk P w H h) (e : h.objs.size ≤ a) : H a = none := by
  cases q : H a with
  | none => rfl
  | some u => exact absurd (Nat.lt_of_lt_of_le (x.lt q) e) (Nat.lt_irrefl _)
/-- every object of the heap is kept -/
theorem HOk.kept (x : HOk P w H h) (k : ∀ b u, h.get? b = some u → h'.get? b = some u) : HOk P w H h' := fun a o e =>
  (x a o e).stay (fun b u _ q => k b u q) (fun _ q => q) fun _ _ q => q
/-- a new object is laid and tracked -/
theorem HOk.laid (x : HOk P w H h) (k : ∀ b u, h.get? b = some u → h'.get? b = some u) (hp : h.objs.size ≤ a) (new : ObjOk P w (upd H a o) h' a o) : HOk P w (upd H a o) h' := fun b u e => by
  have hn := x.fresh hp
  by_cases hb : b = a
  · subst hb; rw [upd_same] at e; cases e; exact new
  · rw [upd_ne hb] at e
    exact (x b u e).stay (fun c v _ q => k c v q) (fun c q => by rw [upd_ne (ne_of_none q hn)]; exact q) fun c xs q => by rw [upd_ne (ne_of_none q hn)]; exact q
end

/-- what may be read as u: it is u, or a known u -/
def Rd (H : Hp) (a : Addr) (u : HO) : Prop := H a = some u ∨ ∃ o, H a = some (.frz o u)
theorem Rd.ok {P : Program} {w : World} {H : Hp} {h : Heap} {a : Addr} {u : HO} (r : Rd H a u) (x : HOk P w H h) : ObjOk P w H h a u := by
  rcases r with r | ⟨o, r⟩
  · exact x a u r
  · obtain ⟨_, q⟩ := x a _ r
    exact q
/-- what may be written -/
def Mut : Option HO → Prop
  | some (.lst _) => True
  | some (.dK _) => True
  | some (.dT _) => True
  | some (.set _ _) => True
  | some (.ins _ _ _) => True
  | some (.ext _) => True
  | _ => False
section
variable {P : Program} {w : World} {H : Hp} {h h' : Heap} {x e : Addr} {o' : HO}
/-- the object at e is changed: x itself, or the dict of the instance x -/
theorem HOk.write (ok : HOk P w H h) (mu : Mut (H x)) (he : e = x ∨ H e = some (.own x)) (k : ∀ b u, b ≠ e → h.get? b = some u → h'.get? b = some u) (heo : ∃ u, h'.get? e = some u)
    (new : ObjOk P w (upd H x o') h' x o') : HOk P w (upd H x o') h' := fun b u q => by
  have nown : ∀ c y, H c = some (.own y) → c ≠ x := fun c y r z => by subst z; rw [r] at mu; exact mu
  have ntup : ∀ c xs, H c = some (.tup xs) → c ≠ x := fun c xs r z => by subst z; rw [r] at mu; exact mu
  by_cases hb : b = x
  · subst hb; rw [upd_same] at q; cases q; exact new
  · rw [upd_ne hb] at q
    by_cases hbe : b = e
    · have q' : H b = some (.own x) := by
        rcases he with z | z
        · exact absurd (hbe.trans z) hb
        · rw [hbe]; exact z
      rw [q] at q'; cases q'
      obtain ⟨v, hv⟩ := heo
      exact ⟨v, by rw [hbe]; exact hv⟩
    · refine (ok b u q).stay (fun c v hc r => k c v ?_ r) (fun c r => by rw [upd_ne (nown c b r)]; exact r) fun c xs r => by rw [upd_ne (ntup c xs r)]; exact r
      rcases hc with rfl | hc
      · exact hbe
      · rintro rfl
        rcases he with z | z
        · exact nown c b hc z
        · rw [hc] at z; cases z; exact hb rfl
end

/-! ### kept unless tracked; of the frames at fs (the callers') the slots may change (an exception that passes writes there); of the records at ex (iterators) nothing is said -/
structure Un (fs ex : List Addr) (H H' : Hp) (h h' : Heap) : Prop where
  keep : ∀ b o, h.get? b = some o → H b = none → b ∉ fs → b ∉ ex → h'.get? b = some o
  slot : ∀ b o, h.get? b = some o → H b = none → b ∈ fs → b ∉ ex → ∃ sl, h'.get? b = some { o with slots := sl }
  free : ∀ b o, h.get? b = some o → H b = none → b ∉ ex → H' b = none
  there : ∀ b o, h.get? b = some o → b ∉ ex → ∃ o', h'.get? b = some o'
  tups : ∀ b xs, H b = some (.tup xs) → H' b = some (.tup xs)
  frzs : ∀ b o u, H b = some (.frz o u) → H' b = some (.frz o u)
  tbls : ∀ b ps, H b = some (.tbl ps) → ∃ more, H' b = some (.tbl (ps ++ more))
section
variable {fs fs' ex ex' : List Addr} {H H1 H2 : Hp} {h h1 h2 h' : Heap} {a x e : Addr} {o : HO}
theorem Un.any (u : Un fs ex H H1 h h1) {b : Addr} {ob : Obj} (q : h.get? b = some ob) (n : H b = none) (hx : b ∉ ex) : ∃ sl, h1.get? b = some { ob with slots := sl } := by
  by_cases hb : b ∈ fs
  · exact u.slot b ob q n hb hx
  · exact ⟨ob.slots, u.keep b ob q n hb hx⟩
theorem Un.kept (k : ∀ b u, h.get? b = some u → h'.get? b = some u) : Un fs ex H H h h' :=
  ⟨fun b ob q _ _ _ => k b ob q, fun b ob q _ _ _ => ⟨ob.slots, k b ob q⟩, fun _ _ _ n _ => n, fun b ob q _ => ⟨ob, k b ob q⟩, fun _ _ q => q, fun _ _ _ q => q, fun _ ps q => ⟨#[], by rw [q]; simp⟩⟩
theorem Un.refl : Un fs ex H H h h := Un.kept fun _ _ q => q
theorem Un.laid (k : ∀ b u, h.get? b = some u → h'.get? b = some u) (hp : h.objs.size ≤ a) (hn : H a = none) : Un fs ex H (upd H a o) h h' where
  keep := fun b u q _ _ _ => k b u q
  slot := fun b u q _ _ _ => ⟨u.slots, k b u q⟩
  free := fun b u q n _ => by rw [upd_ne (Nat.ne_of_lt (Nat.lt_of_lt_of_le (Heap.lt_size q) hp))]; exact n
  there := fun b u q _ => ⟨u, k b u q⟩
  tups := fun b xs q => by rw [upd_ne (ne_of_none q hn)]; exact q
  frzs := fun b u xs q => by rw [upd_ne (ne_of_none q hn)]; exact q
  tbls := fun b ps q => ⟨#[], by rw [upd_ne (ne_of_none q hn), q]; simp⟩
theorem Un.write (mu : Mut (H x)) (he : e = x ∨ H e = some (.own x)) (k : ∀ b u, b ≠ e → h.get? b = some u → h'.get? b = some u) (heo : ∃ u, h'.get? e = some u) : Un fs ex H (upd H x o) h h' := by
  have hx : ∀ b, H b = none → b ≠ x := fun b n z => by subst z; rw [n] at mu; exact mu
  have hb : ∀ b, H b = none → b ≠ e := fun b n z => by
    subst z
    rcases he with r | r
    · exact hx b n r
    · rw [n] at r; cases r
  have hm : ∀ b u, H b = some u → ¬ Mut (some u) → b ≠ x := fun b u q nm z => by subst z; rw [q] at mu; exact nm mu
  refine ⟨fun b u q n _ _ => k b u (hb b n) q, fun b u q n _ _ => ⟨u.slots, k b u (hb b n) q⟩, fun b u q n _ => by rw [upd_ne (hx b n)]; exact n, fun b u q _ => ?_,
    fun b xs q => by rw [upd_ne (hm b _ q fun z => z)]; exact q, fun b u xs q => by rw [upd_ne (hm b _ q fun z => z)]; exact q, fun b ps q => ⟨#[], by rw [upd_ne (hm b _ q fun z => z), q]; simp⟩⟩
  by_cases hbe : b = e
  · subst hbe; exact heo
  · exact ⟨u, k b u hbe q⟩
end

/-! ### the heap without what is tracked -/
def trk (h : Heap) (H : Hp) : List Addr := (List.range h.objs.size).filter fun a => (H a).isSome
def hidT (h : Heap) (H : Hp) : Heap := PySem.W.hideAll h (trk h H)
theorem hidT_size (h : Heap) (H : Hp) : (hidT h H).objs.size = h.objs.size := PySem.W.hideAll_size _ _
theorem hidT_get {h : Heap} {H : Hp} {b : Addr} {o : Obj} (e : h.get? b = some o) (n : H b = none) : (hidT h H).get? b = some o :=
  PySem.W.hideAll_get _ e fun hm => by
    have q : (H b).isSome = true := (List.mem_filter.mp hm).2
    rw [n] at q; simp at q
theorem of_hidT {h : Heap} {H : Hp} {b : Addr} {o : Obj} (e : (hidT h H).get? b = some o) : h.get? b = some o ∧ H b = none := by
  have e' : h.get? b = some o := PySem.W.of_hideAll (trk h H) e
  refine ⟨e', ?_⟩
  cases q : H b with
  | none => rfl
  | some x =>
    have hm : b ∈ trk h H := List.mem_filter.mpr ⟨List.mem_range.mpr (Heap.lt_size e'), by simp [q]⟩
    have z : (hidT h H).get? b = none := PySem.W.hideAll_none (trk h H) hm
    rw [z] at e; cases e

/-! ### OpenK's ledger, filled with every new object but one -/
end L2

namespace L2
open PySem PySem.Spec PyProof.Rows

/-- the module's facts, over the base: the heap at the law's entry without what is tracked there -/
structure Mod (K : PySem.W.Frag) (mg : Str → Option Value) (base : Heap) : Prop where
  kin : K.In base
  glob : base.Ns mainGlobals mg
  blt : ∃ mb, base.Ns builtinsNs mb ∧ ∀ x : Str, x ≠ "__name__" → mb x = bootBuiltins x
  nolimit : base.NoLimit

/-- the context: a def's body (or a comprehension's block) running. base: fixed through the whole law; s₀, H₀: the entry; outer: the frames whose slots others may change (a def's callers); stack: all frames that run;
   ex: iterators that were made ahead of the entry and are walked here (a comprehension's); fn: the names whose cells were made at the entry (a def: all; a comprehension's block: its own); calm: not within an except suite; pn: pins that every state bears; xe: what is wanted of an exception that leaves the code -/
structure Cx where
  prog : Program
  w : World
  K : PySem.W.Frag
  mg : Str → Option Value
  base : Heap
  A : Around
  N : List Str
  s₀ : Shared
  H₀ : Hp
  env : Env
  outer : List Env
  stack : List Env
  ex : List Addr
  fn : Str → Bool
  calm : Bool
  pn : List (Addr × Obj)
  xe : Value → Shared → Prop
/-- the callers' frames -/
def frs (l : List Env) : List Addr := l.filterMap (·.frame)
abbrev Cx.fs (X : Cx) : List Addr := frs X.outer

def Vis (sc : Scope) (x : Str) : Prop := sc.names.lookup x = some .local ∨ sc.names.lookup x = some .cell ∨ sc.names.lookup x = some .free
def Loc (sc : Scope) (x : Str) : Prop := sc.names.lookup x = some .local ∨ sc.names.lookup x = some .cell
def Look (env : Env) (h : Heap) (m : Str → Option Value) (x : Str) (u : Value) : Prop :=
  (env.kindOf x = some .local ∧ m x = some u) ∨ ((env.kindOf x = some .cell ∨ env.kindOf x = some .free) ∧ ∃ c, env.cells.lookup x = some c ∧ h.IsCell c (some u))

structure Cx.Ok (X : Cx) : Prop where
  mod : Mod X.K X.mg X.base
  kind : X.env.scope.kind = .function
  glob : X.env.globals = mainGlobals
  blt : X.env.builtins = builtinsNs
  above : X.s₀.heap.objs.size ≤ X.env.locals
  inj : ∀ x y c, X.env.cells.lookup x = some c → X.env.cells.lookup y = some c → x = y
  has : ∀ x, (X.env.kindOf x = some .cell ∨ X.env.kindOf x = some .free) → ∃ c, X.env.cells.lookup x = some c
  cab : ∀ x c, X.fn x = true → X.env.cells.lookup x = some c → X.s₀.heap.objs.size ≤ c
  hd : X.calm = true → X.A.handled = none
  frames : X.A.frames = some X.stack
  stk : X.stack = X.outer ∨ (X.stack = X.env :: X.outer ∧ X.env.frame = some X.env.locals)
  exf : ∀ b ∈ X.ex, b ≠ X.env.locals ∧ ∀ x c, X.env.cells.lookup x = some c → c ≠ b
  bs : ∀ b o, X.base.get? b = some o → X.s₀.heap.get? b = some o ∧ X.H₀ b = none
  bsz : X.base.objs.size ≤ X.s₀.heap.objs.size
  noex : ∀ b o, X.base.get? b = some o → b ∉ X.ex
  exfs : ∀ b ∈ X.ex, b ∉ X.fs
  funs : X.s₀.heap.FunFrames X.base X.outer
  frf : ∀ b ∈ X.fs, X.H₀ b = none

structure Inv (X : Cx) (pins : List (Addr × Obj)) (σ : List (Option V)) (H : Hp) (s : Shared) : Prop where
  ok : X.Ok
  os : s.os = X.s₀.os
  bare : AllBare s.gens
  base : Un X.fs X.ex X.H₀ H X.s₀.heap s.heap
  loc : ∃ m, s.heap.Ns X.env.locals m ∧ ∀ (i : Nat) (x : Str) (v : V), X.N[i]? = some x → σ[i]? = some (some v) → Vis X.env.scope x → ∃ u, RelV v u ∧ Look X.env s.heap m x u
  cell : ∀ x c, X.env.cells.lookup x = some c → ∃ v, s.heap.IsCell c v
  free : H X.env.locals = none
  freeC : ∀ x c, X.env.cells.lookup x = some c → H c = none
  pin : ∀ p ∈ X.pn ++ pins, s.heap.get? p.1 = some p.2 ∧ H p.1 = none ∧ p.1 ≠ X.env.locals ∧ p.1 ∉ X.fs ∧ ∀ v, p.2.data ≠ .cell v
  hok : HOk X.prog X.w H s.heap
  len : σ.length = X.N.length

section
variable {X : Cx} {pins : List (Addr × Obj)} {σ : List (Option V)} {H H' : Hp} {s : Shared} {h' : Heap}

theorem Cx.Ok.nofr (ok : X.Ok) {b : Addr} {o : Obj} (e : X.base.get? b = some o) : b ∉ X.fs := fun hb => by
  have := (ok.funs.mem hb).1
  rw [e] at this; cases this
theorem Inv.bs (I : Inv X pins σ H s) : ∀ b o, X.base.get? b = some o → s.heap.get? b = some o ∧ H b = none := fun b o e =>
  ⟨I.base.keep b o (I.ok.bs b o e).1 (I.ok.bs b o e).2 (I.ok.nofr e) (I.ok.noex b o e), I.base.free b o (I.ok.bs b o e).1 (I.ok.bs b o e).2 (I.ok.noex b o e)⟩
theorem Inv.bk (I : Inv X pins σ H s) : ∀ b o, X.base.get? b = some o → s.heap.get? b = some o := fun b o e => (I.bs b o e).1
theorem Inv.mod (I : Inv X pins σ H s) : Mod X.K X.mg X.base := I.ok.mod
theorem Inv.kIn (I : Inv X pins σ H s) : X.K.In s.heap := I.ok.mod.kin.keeps I.bk
/-- the frame over the base: for OpenK's rules (K.In X.base is I.mod.kin) -/
theorem Inv.fr (I : Inv X pins σ H s) : ∃ m, Fr X.base X.env.locals s.heap m :=
  let ⟨m, hn, _⟩ := I.loc
  ⟨m, hn, I.bk, Nat.le_trans I.ok.bsz I.ok.above⟩
theorem Inv.lt (I : Inv X pins σ H s) : X.env.locals < s.heap.objs.size := let ⟨_, hn, _⟩ := I.loc; hn.lt
theorem Inv.sz (I : Inv X pins σ H s) : X.s₀.heap.objs.size ≤ s.heap.objs.size := Nat.le_trans I.ok.above (Nat.le_of_lt I.lt)
theorem Inv.nofs (I : Inv X pins σ H s) {a : Addr} (h : s.heap.objs.size ≤ a) : a ∉ X.fs := fun hb => by
  obtain ⟨_, o, ho, _⟩ := I.ok.funs.mem hb
  exact absurd (Nat.lt_of_lt_of_le (Heap.lt_size ho) (Nat.le_trans I.sz h)) (Nat.lt_irrefl _)
theorem Inv.cne (I : Inv X pins σ H s) : ∀ x c, X.env.cells.lookup x = some c → c ≠ X.env.locals := fun x c e z => by
  obtain ⟨v, o, ho, hd⟩ := I.cell x c e
  obtain ⟨m, ⟨o', es, ep, ho', hd', _⟩, _⟩ := I.loc
  rw [z, ho'] at ho; cases ho; rw [hd'] at hd; cases hd
theorem Inv.funs (I : Inv X pins σ H s) : s.heap.FunFrames X.base X.outer := by
  have all : ∀ (l : List Env), (∀ b ∈ frs l, b ∈ X.fs) → X.s₀.heap.FunFrames X.base l → s.heap.FunFrames X.base l := by
    intro l
    induction l with
    | nil => intro _ _; trivial
    | cons env r ih =>
      intro hs hl
      obtain ⟨hk, ⟨L, o, hf, hn, ho, hd⟩, hr⟩ := hl
      have hL : L ∈ X.fs := hs L (by unfold frs; rw [List.filterMap_cons, hf]; exact List.mem_cons_self)
      obtain ⟨sl, e⟩ := I.base.slot L o ho (I.ok.frf L hL) hL fun z => I.ok.exfs L z hL
      exact ⟨hk, ⟨L, _, hf, hn, e, hd⟩, ih (fun b hb => hs b (by unfold frs; rw [List.filterMap_cons, hf]; exact List.mem_cons_of_mem _ hb)) hr⟩
  exact all X.outer (fun _ hb => hb) I.ok.funs

/-- the frames that run, for a call -/
theorem Inv.stack (I : Inv X pins σ H s) : s.heap.FunFrames X.base X.stack := by
  rcases I.ok.stk with e | ⟨e, hf⟩
  · rw [e]; exact I.funs
  · rw [e]
    obtain ⟨m, hn, _⟩ := I.loc
    refine .cons (by rw [I.ok.kind]; decide) hf hn ?_ I.funs
    exact Heap.get?_none_of_le (Nat.le_trans I.ok.bsz I.ok.above)
theorem Inv.stkSub (I : Inv X pins σ H s) : ∀ b ∈ frs X.stack, b ∈ X.env.locals :: X.fs := fun b hb => by
  rcases I.ok.stk with e | ⟨e, hf⟩
  · rw [e] at hb; exact List.mem_cons_of_mem _ hb
  · rw [e] at hb
    unfold frs at hb
    rw [List.filterMap_cons, hf] at hb
    exact hb
theorem Inv.stkFree (I : Inv X pins σ H s) : ∀ b ∈ frs X.stack, H b = none := fun b hb => by
  rcases List.mem_cons.mp (I.stkSub b hb) with e | hb
  · rw [e]; exact I.free
  · obtain ⟨_, o, ho, _⟩ := I.ok.funs.mem hb
    exact I.base.free b o ho (I.ok.frf b hb) fun z => I.ok.exfs b z hb

/-- THE STEP: the untracked objects but the frame and the records at ch are kept (the callers' frames up to slots), the frame's map is kept, the new abstract heap is held -/
theorem Inv.step {g' : Array GenState} {t' : Nat} {d' : Drawn} {ch : List Addr} (I : Inv X pins σ H s)
    (hch : ∀ b ∈ ch, (b ∈ X.ex ∨ X.s₀.heap.objs.size ≤ b) ∧ b ≠ X.env.locals ∧ (∀ x c, X.env.cells.lookup x = some c → c ≠ b) ∧ ∀ p ∈ X.pn ++ pins, p.1 ≠ b)
    (keep : ∀ b o, b ≠ X.env.locals → b ∉ X.fs → b ∉ ch → s.heap.get? b = some o → H b = none → h'.get? b = some o)
    (slot : ∀ b o, b ≠ X.env.locals → b ∈ X.fs → b ∉ ch → s.heap.get? b = some o → H b = none → ∃ sl, h'.get? b = some { o with slots := sl }) (free : ∀ b o, b ∉ ch → s.heap.get? b = some o → H b = none → H' b = none)
    (there : ∀ b o, b ∉ ch → s.heap.get? b = some o → ∃ o', h'.get? b = some o')
    (tups : ∀ b xs, H b = some (.tup xs) → H' b = some (.tup xs)) (frzs : ∀ b o u, H b = some (.frz o u) → H' b = some (.frz o u)) (tbls : ∀ b ps, H b = some (.tbl ps) → ∃ more, H' b = some (.tbl (ps ++ more)))
    (ns : ∀ m, s.heap.Ns X.env.locals m → h'.Ns X.env.locals m) (hok : HOk X.prog X.w H' h') (hg : AllBare g') :
    Inv X pins σ H' { s with heap := h', gens := g', drawn := d', toks := t' } := by
  have neL : ∀ b o, X.s₀.heap.get? b = some o → b ≠ X.env.locals := fun b o e => Nat.ne_of_lt (Nat.lt_of_lt_of_le (Heap.lt_size e) I.ok.above)
  have neC : ∀ b o, X.s₀.heap.get? b = some o → b ∉ X.ex → b ∉ ch := fun b o e hx hb => by
    rcases (hch b hb).1 with z | z
    · exact hx z
    · exact absurd (Nat.lt_of_lt_of_le (Heap.lt_size e) z) (Nat.lt_irrefl _)
  have cellK : ∀ x c, X.env.cells.lookup x = some c → ∀ v, s.heap.IsCell c v → h'.IsCell c v := fun x c e v ⟨o, ho, hd⟩ => by
    have nch : c ∉ ch := fun z => (hch c z).2.2.1 x c e rfl
    by_cases hc : c ∈ X.fs
    · obtain ⟨sl, q⟩ := slot c o (I.cne x c e) hc nch ho (I.freeC x c e)
      exact ⟨_, q, hd⟩
    · exact ⟨o, keep c o (I.cne x c e) hc nch ho (I.freeC x c e), hd⟩
  refine ⟨I.ok, I.os, hg, ⟨fun b o e n hb hx => ?_, fun b o e n hb hx => ?_, fun b o e n hx => ?_, fun b o e hx => ?_, fun b xs e => tups b xs (I.base.tups b xs e), fun b o xs e => frzs b o xs (I.base.frzs b o xs e), fun b ps e => ?_⟩, ?_, fun x c e => ?_, ?_, fun x c e => ?_, fun p hp => ?_, hok, I.len⟩
  · exact keep b o (neL b o e) hb (neC b o e hx) (I.base.keep b o e n hb hx) (I.base.free b o e n hx)
  · obtain ⟨sl, e1⟩ := I.base.slot b o e n hb hx
    obtain ⟨sl', e2⟩ := slot b _ (neL b o e) hb (neC b o e hx) e1 (I.base.free b o e n hx)
    exact ⟨sl', e2⟩
  · obtain ⟨o', e1⟩ := I.base.there b o e hx
    exact free b o' (neC b o e hx) e1 (I.base.free b o e n hx)
  · obtain ⟨o', e1⟩ := I.base.there b o e hx
    exact there b o' (neC b o e hx) e1
  · obtain ⟨m1, e1⟩ := I.base.tbls b ps e
    obtain ⟨m2, e2⟩ := tbls b _ e1
    exact ⟨m1 ++ m2, by rw [e2, Array.append_assoc]⟩
  · obtain ⟨m, hn, hl⟩ := I.loc
    refine ⟨m, ns m hn, fun i x v e1 e2 e3 => ?_⟩
    obtain ⟨u, r, l⟩ := hl i x v e1 e2 e3
    refine ⟨u, r, ?_⟩
    rcases l with l | ⟨k, c, e, z⟩
    · exact .inl l
    · exact .inr ⟨k, c, e, cellK x c e _ z⟩
  · obtain ⟨v, z⟩ := I.cell x c e
    exact ⟨v, cellK x c e v z⟩
  · obtain ⟨m, ⟨o, _, _, ho, _⟩, _⟩ := I.loc
    exact free _ o (fun z => (hch _ z).2.1 rfl) ho I.free
  · obtain ⟨v, o, ho, hd⟩ := I.cell x c e
    exact free c o (fun z => (hch c z).2.2.1 x c e rfl) ho (I.freeC x c e)
  · obtain ⟨e, n, ne, nf, d⟩ := I.pin p hp
    have nch : p.1 ∉ ch := fun z => (hch p.1 z).2.2.2 p hp rfl
    exact ⟨keep p.1 p.2 ne nf nch e n, free p.1 p.2 nch e n, ne, nf, d⟩
/-- .. where the frame's own object is kept too -/
theorem Inv.un {t' : Nat} (I : Inv X pins σ H s) (u : Un X.fs [] H H' s.heap h') (hok : HOk X.prog X.w H' h') : Inv X pins σ H' { s with heap := h', toks := t' } := by
  obtain ⟨m, ⟨o, es, ep, ho, r⟩, _⟩ := id I.loc
  obtain ⟨sl, hL⟩ := u.any ho I.free (by simp)
  exact I.step (g' := s.gens) (d' := s.drawn) (ch := []) (fun _ z => nomatch z) (fun b o _ hb _ e n => u.keep b o e n hb (by simp)) (fun b o _ hb _ e n => u.slot b o e n hb (by simp)) (fun b o _ e n => u.free b o e n (by simp)) (fun b o _ e => u.there b o e (by simp)) u.tups u.frzs u.tbls (fun m' hm => by
    obtain ⟨o', es', ep', ho', r'⟩ := hm
    rw [ho] at ho'; cases ho'
    exact ⟨_, es', ep', hL, r'⟩) hok I.bare
/-- behind a call (or a comprehension's block): the slots of this frame may have changed too, the records at ch may have turned -/
theorem Inv.call {g' : Array GenState} {t' : Nat} {d' : Drawn} {ch : List Addr} (I : Inv X pins σ H s) (u : Un (frs X.stack) ch H H' s.heap h') (hok : HOk X.prog X.w H' h') (hg : AllBare g')
    (hch : ∀ b ∈ ch, (b ∈ X.ex ∨ X.s₀.heap.objs.size ≤ b) ∧ b ≠ X.env.locals ∧ (∀ x c, X.env.cells.lookup x = some c → c ≠ b) ∧ ∀ p ∈ X.pn ++ pins, p.1 ≠ b) :
    Inv X pins σ H' { s with heap := h', gens := g', drawn := d', toks := t' } := by
  obtain ⟨m, ⟨o, es, ep, ho, r⟩, _⟩ := id I.loc
  obtain ⟨sl, hL⟩ := u.any ho I.free fun z => (hch _ z).2.1 rfl
  exact I.step (ch := ch) hch (fun b o hL hb hc e n => u.keep b o e n (fun z => (List.mem_cons.mp (I.stkSub b z)).elim hL hb) hc) (fun b o _ _ hc e n => u.any e n hc) (fun b o hc e n => u.free b o e n hc) (fun b o hc e => u.there b o e hc) u.tups u.frzs u.tbls (fun m' hm => by
    obtain ⟨o', es', ep', ho', r'⟩ := hm
    rw [ho] at ho'; cases ho'
    exact ⟨_, es', ep', hL, r'⟩) hok hg
/-- an untracked record of ours (an iterator) has turned -/
theorem Inv.turned {t' : Nat} {it : Addr} (I : Inv X pins σ H s) (k : ∀ b o, b ≠ it → s.heap.get? b = some o → h'.get? b = some o) (hn : H it = none) (hL : it ≠ X.env.locals)
    (h1 : it ∈ X.ex ∨ X.s₀.heap.objs.size ≤ it) (h2 : ∀ x c, X.env.cells.lookup x = some c → c ≠ it) (h3 : ∀ p ∈ X.pn ++ pins, p.1 ≠ it) : Inv X pins σ H { s with heap := h', toks := t' } := by
  have nit : ∀ b u, H b = some u → b ≠ it := fun b u e z => by rw [z, hn] at e; cases e
  refine I.step (g' := s.gens) (d' := s.drawn) (ch := [it]) (fun b hb => ?_) (fun b o _ _ hc e _ => k b o (fun z => hc (by simp [z])) e) (fun b o _ _ hc e _ => ⟨o.slots, k b o (fun z => hc (by simp [z])) e⟩) (fun _ _ _ _ n => n)
    (fun b o hc e => ⟨o, k b o (fun z => hc (by simp [z])) e⟩) (fun _ _ e => e) (fun _ _ _ e => e) (fun b ps e => ⟨#[], by rw [e]; simp⟩) (fun m hm => ?_) (fun b u e => ?_) I.bare
  · have e : b = it := by simpa using hb
    subst e
    exact ⟨h1, hL, h2, h3⟩
  · obtain ⟨o, es, ep, ho, r⟩ := hm
    exact ⟨o, es, ep, k _ o (Ne.symm hL) ho, r⟩
  · refine (I.hok b u e).stay (fun c v hc q => k c v ?_ q) (fun _ q => q) fun _ _ q => q
    rcases hc with z | z
    · rw [z]; exact nit b u e
    · exact nit c _ z
theorem Inv.tok (I : Inv X pins σ H s) (t : Nat) : Inv X pins σ H { s with toks := t } := I.un (h' := s.heap) (t' := t) Un.refl I.hok
/-- all objects kept -/
theorem Inv.kept {t' : Nat} (I : Inv X pins σ H s) (k : ∀ b u, s.heap.get? b = some u → h'.get? b = some u) : Inv X pins σ H { s with heap := h', toks := t' } := I.un (Un.kept k) (I.hok.kept k)
/-- a new object laid and tracked -/
theorem Inv.laid {a : Addr} {o : HO} {t' : Nat} (I : Inv X pins σ H s) (k : ∀ b u, s.heap.get? b = some u → h'.get? b = some u) (hp : s.heap.objs.size ≤ a) (new : ObjOk X.prog X.w (upd H a o) h' a o) :
    Inv X pins σ (upd H a o) { s with heap := h', toks := t' } := I.un (Un.laid k hp (I.hok.fresh hp)) (I.hok.laid k hp new)
/-- an object written -/
theorem Inv.write {x e : Addr} {o : HO} {t' : Nat} (I : Inv X pins σ H s) (mu : Mut (H x)) (he : e = x ∨ H e = some (.own x)) (k : ∀ b u, b ≠ e → s.heap.get? b = some u → h'.get? b = some u) (heo : ∃ u, h'.get? e = some u)
    (new : ObjOk X.prog X.w (upd H x o) h' x o) : Inv X pins σ (upd H x o) { s with heap := h', toks := t' } := I.un (Un.write mu he k heo) (I.hok.write mu he k heo new)
/-- forgetting slots, pins -/
theorem Inv.weak {σ' : List (Option V)} (I : Inv X pins σ H s) (hl : σ'.length = σ.length) (w : ∀ (i : Nat) v, σ'[i]? = some (some v) → σ[i]? = some (some v)) : Inv X pins σ' H s :=
  ⟨I.ok, I.os, I.bare, I.base, let ⟨m, hn, hl'⟩ := I.loc; ⟨m, hn, fun i x v e1 e2 e3 => hl' i x v e1 (w i v e2) e3⟩, I.cell, I.free, I.freeC, I.pin, I.hok, hl.trans I.len⟩
theorem Inv.pins_of {pins' : List (Addr × Obj)} (I : Inv X pins σ H s) (h : ∀ p ∈ pins', s.heap.get? p.1 = some p.2 ∧ H p.1 = none ∧ p.1 ≠ X.env.locals ∧ p.1 ∉ X.fs ∧ ∀ v, p.2.data ≠ .cell v) : Inv X pins' σ H s :=
  ⟨I.ok, I.os, I.bare, I.base, I.loc, I.cell, I.free, I.freeC, fun p hp => (List.mem_append.mp hp).elim (fun z => I.pin p (List.mem_append_left _ z)) (h p), I.hok, I.len⟩

theorem nodup_ix {N : List Str} (hN : N.Nodup) {i j : Nat} {x : Str} (a : N[i]? = some x) (b : N[j]? = some x) : i = j := by
  obtain ⟨h1, e1⟩ := List.getElem?_eq_some_iff.mp a
  obtain ⟨h2, e2⟩ := List.getElem?_eq_some_iff.mp b
  exact (List.getElem_inj hN).mp (e1.trans e2.symm)

/-- a name is stored; what changed -/
theorem store_ok2 {M : Model} {A : Around} {E : Value → Shared → Prop} {i : Nat} {x : Str} {v : V} {u : Value} {Q : Unit → Shared → Prop} (I : Inv X pins σ H s) (hN : X.N.Nodup) (hi : X.N[i]? = some x) (hx : Loc X.env.scope x) (r : RelV v u)
    (h : ∀ s', Inv X pins (σ.set i (some v)) H s' → (∃ a, Heap.SameBut a s.heap s'.heap ∧ (a = X.env.locals ∨ X.env.cells.lookup x = some a)) → Q () s') (hf : X.fn x = true ∨ X.env.scope.names.lookup x = some .local := by first | exact .inl rfl | exact .inr rfl | assumption) : wpAny M A (storeName X.env x u) Q E s := by
  obtain ⟨m, hn, hl⟩ := id I.loc
  have hcls : (X.env.scope.kind == .class || (X.env.scope.kind == .module && X.env.locals != X.env.globals)) = false := by rw [I.ok.kind]; rfl
  have hiσ : i < σ.length := by rw [I.len]; exact (List.getElem?_eq_some_iff.mp hi).1
  have cne := I.cne
  have tracked : ∀ {a : Addr} {h' : Heap}, (∃ o, s.heap.get? a = some o ∧ H a = none) → Heap.SameBut a s.heap h' → HOk X.prog X.w H h' := fun {a h'} ha hs b ob e => by
    obtain ⟨_, _, hfree⟩ := ha
    refine (I.hok b ob e).stay (fun c w' hc q => (hs.2 c ?_).trans q) (fun _ q => q) fun _ _ q => q
    rintro rfl
    rcases hc with rfl | hc
    · rw [hfree] at e; cases e
    · rw [hfree] at hc; cases hc
  rcases hx with hk | hk
  · refine wpAny_storeName_local hk hn (fun h' hn' hs => ?_) hcls
    obtain ⟨oL, _, _, hoL, _⟩ := id hn
    refine h _ ⟨I.ok, I.os, I.bare, ⟨fun b o e n hb hx => ?_, fun b o e n hb hx => ?_, I.base.free, fun b o e hx => ?_, I.base.tups, I.base.frzs, I.base.tbls⟩, ⟨_, hn', fun j y v' e1 e2 e3 => ?_⟩, fun y c e => ?_, I.free, I.freeC, fun p hp => ?_, tracked ⟨oL, hoL, I.free⟩ hs, by simpa using I.len⟩ ⟨_, hs, .inl rfl⟩
    · exact (hs.2 b (Nat.ne_of_lt (Nat.lt_of_lt_of_le (Heap.lt_size e) I.ok.above))).trans (I.base.keep b o e n hb hx)
    · obtain ⟨sl, e1⟩ := I.base.slot b o e n hb hx
      exact ⟨sl, (hs.2 b (Nat.ne_of_lt (Nat.lt_of_lt_of_le (Heap.lt_size e) I.ok.above))).trans e1⟩
    · obtain ⟨o', e1⟩ := I.base.there b o e hx
      exact ⟨o', (hs.2 b (Nat.ne_of_lt (Nat.lt_of_lt_of_le (Heap.lt_size e) I.ok.above))).trans e1⟩
    · by_cases hj : j = i
      · subst hj
        rw [hi] at e1; cases e1
        rw [List.getElem?_set_self hiσ] at e2
        cases e2
        exact ⟨u, r, .inl ⟨hk, by simp⟩⟩
      · rw [List.getElem?_set_ne (Ne.symm hj)] at e2
        obtain ⟨u', r', q⟩ := hl j y v' e1 e2 e3
        refine ⟨u', r', ?_⟩
        rcases q with ⟨k, e⟩ | ⟨k, c, e, z⟩
        · refine .inl ⟨k, ?_⟩
          have : y ≠ x := fun e => hj (nodup_ix hN e1 (e ▸ hi))
          simp [this, e]
        · exact .inr ⟨k, c, e, z.sameBut hs (cne y c e)⟩
    · obtain ⟨w', z⟩ := I.cell y c e
      exact ⟨w', z.sameBut hs (cne y c e)⟩
    · obtain ⟨e, n, ne, nf, d⟩ := I.pin p hp
      exact ⟨(hs.2 p.1 ne).trans e, n, ne, nf, d⟩
  · have hfn : X.fn x = true := by
      rcases hf with z | z
      · exact z
      · rw [z] at hk; cases hk
    obtain ⟨c, hc⟩ := I.ok.has x (.inl hk)
    obtain ⟨w', z⟩ := I.cell x c hc
    refine wpAny_storeName_cell I.ok.kind hk hc z (fun h' hc' hs => ?_)
    obtain ⟨oc, hoc, hocd⟩ := id z
    refine h { s with heap := h' } ⟨I.ok, I.os, I.bare, ⟨fun b o e n hb hx => ?_, fun b o e n hb hx => ?_, I.base.free, fun b o e hx => ?_, I.base.tups, I.base.frzs, I.base.tbls⟩, ⟨m, hn.sameBut hs (Ne.symm (cne x c hc)), fun j y v' e1 e2 e3 => ?_⟩, fun y c' e => ?_, I.free, I.freeC, fun p hp => ?_, tracked ⟨oc, hoc, I.freeC x c hc⟩ hs, by simpa using I.len⟩ ⟨c, hs, .inr hc⟩
    · exact (hs.2 b (Nat.ne_of_lt (Nat.lt_of_lt_of_le (Heap.lt_size e) (I.ok.cab x c hfn hc)))).trans (I.base.keep b o e n hb hx)
    · obtain ⟨sl, e1⟩ := I.base.slot b o e n hb hx
      exact ⟨sl, (hs.2 b (Nat.ne_of_lt (Nat.lt_of_lt_of_le (Heap.lt_size e) (I.ok.cab x c hfn hc)))).trans e1⟩
    · obtain ⟨o', e1⟩ := I.base.there b o e hx
      exact ⟨o', (hs.2 b (Nat.ne_of_lt (Nat.lt_of_lt_of_le (Heap.lt_size e) (I.ok.cab x c hfn hc)))).trans e1⟩
    · by_cases hj : j = i
      · subst hj
        rw [hi] at e1; cases e1
        rw [List.getElem?_set_self hiσ] at e2
        cases e2
        exact ⟨u, r, .inr ⟨.inl hk, c, hc, hc'⟩⟩
      · rw [List.getElem?_set_ne (Ne.symm hj)] at e2
        obtain ⟨u', r', q⟩ := hl j y v' e1 e2 e3
        refine ⟨u', r', ?_⟩
        rcases q with q | ⟨k, c', e, z'⟩
        · exact .inl q
        · refine .inr ⟨k, c', e, z'.sameBut hs ?_⟩
          rintro rfl
          exact hj (nodup_ix hN e1 (I.ok.inj _ _ _ e hc ▸ hi))
    · by_cases hcc : c' = c
      · subst hcc; exact ⟨_, hc'⟩
      · obtain ⟨w2, z2⟩ := I.cell y c' e
        exact ⟨w2, z2.sameBut hs hcc⟩
    · obtain ⟨e, n, ne, nf, d⟩ := I.pin p hp
      refine ⟨(hs.2 p.1 ?_).trans e, n, ne, nf, d⟩
      intro q
      rw [q, hoc] at e
      have q' : oc = p.2 := Option.some.inj e
      exact d w' (by rw [← q']; exact hocd)
theorem store_ok {M : Model} {A : Around} {E : Value → Shared → Prop} {i : Nat} {x : Str} {v : V} {u : Value} {Q : Unit → Shared → Prop} (I : Inv X pins σ H s) (hN : X.N.Nodup) (hi : X.N[i]? = some x) (hx : Loc X.env.scope x) (r : RelV v u)
    (h : ∀ s', Inv X pins (σ.set i (some v)) H s' → Q () s') (hf : X.fn x = true ∨ X.env.scope.names.lookup x = some .local := by first | exact .inl rfl | exact .inr rfl | assumption) : wpAny M A (storeName X.env x u) Q E s :=
  store_ok2 I hN hi hx r (fun s' I' _ => h s' I') hf
/-- behind a call or a block, the state as it is -/
theorem Inv.call' {s' : Shared} {ch : List Addr} (I : Inv X pins σ H s) (ho : s'.os = s.os) (u : Un (frs X.stack) ch H H' s.heap s'.heap) (hok : HOk X.prog X.w H' s'.heap) (hg : AllBare s'.gens)
    (hch : ∀ b ∈ ch, (b ∈ X.ex ∨ X.s₀.heap.objs.size ≤ b) ∧ b ≠ X.env.locals ∧ (∀ x c, X.env.cells.lookup x = some c → c ≠ b) ∧ ∀ p ∈ X.pn ++ pins, p.1 ≠ b) : Inv X pins σ H' s' := by
  obtain ⟨h', g', d', t', o'⟩ := s'
  have e : o' = s.os := ho
  subst e
  exact I.call (g' := g') (t' := t') (d' := d') u hok hg hch
end

/-! ### the judgements -/
/-- an exception: its class, its own dict's address (where it has one), the abstract heap behind it -/
abbrev XK := Value → Option Addr → Hp → Prop
abbrev St := List (Option V)
abbrev VK := V → Hp → Prop
/-- an expression's reading; a test's; an argument list's -/
abbrev TE := St → Hp → VK → Prop
abbrev TT := St → Hp → (Bool → Hp → Prop) → Prop
abbrev TA := St → Hp → (List V → Hp → Prop) → Prop
/-- what is wanted behind a statement -/
structure Ends where
  nx : St → Hp → Prop
  rt : VK
  bk : St → Hp → Prop := fun _ _ => False
  ct : St → Hp → Prop := fun _ _ => False
abbrev TS := Ends → St → Hp → Prop

def EP (X : Cx) (pins : List (Addr × Obj)) (σ : St) (Q : VK) (u : Value) (s' : Shared) : Prop := ∃ v H', Inv X pins σ H' s' ∧ RelV v u ∧ Q v H'
def TP (X : Cx) (pins : List (Addr × Obj)) (σ : St) (Q : Bool → Hp → Prop) (b : Bool) (s' : Shared) : Prop := ∃ H', Inv X pins σ H' s' ∧ Q b H'
def AP (X : Cx) (pins : List (Addr × Obj)) (σ : St) (Q : List V → Hp → Prop) (us : List Value) (s' : Shared) : Prop := ∃ vs H', Inv X pins σ H' s' ∧ Vals vs us ∧ Q vs H'
def SP (X : Cx) (pins : List (Addr × Obj)) (D : Ends) (f : Flow) (s' : Shared) : Prop :=
  match f with
  | .next => ∃ σ' H', Inv X pins σ' H' s' ∧ D.nx σ' H'
  | .brk => ∃ σ' H', Inv X pins σ' H' s' ∧ D.bk σ' H'
  | .cont => ∃ σ' H', Inv X pins σ' H' s' ∧ D.ct σ' H'
  | .ret u => ∃ v σ' H', Inv X pins σ' H' s' ∧ RelV v u ∧ D.rt v H'

def PE (X : Cx) (e : Expr) (t : TE) : Prop :=
  ∀ (pins : List (Addr × Obj)) (s : Shared) (σ : St) (H : Hp) (Q : VK), Inv X pins σ H s → t σ H Q → wpAny (model X.prog X.w) X.A (eval e X.env) (EP X pins σ Q) X.xe s
def PT (X : Cx) (e : Expr) (t : TT) : Prop :=
  ∀ (pins : List (Addr × Obj)) (s : Shared) (σ : St) (H : Hp) (Q : Bool → Hp → Prop), Inv X pins σ H s → t σ H Q → wpAny (model X.prog X.w) X.A (isTrue e X.env (eval e X.env)) (TP X pins σ Q) X.xe s
/-- a test whatever its 'whole' is (and, or) -/
def PW (X : Cx) (e : Expr) (t : TT) : Prop :=
  ∀ (whole : Sem Value) (pins : List (Addr × Obj)) (s : Shared) (σ : St) (H : Hp) (Q : Bool → Hp → Prop), Inv X pins σ H s → t σ H Q → wpAny (model X.prog X.w) X.A (isTrue e X.env whole) (TP X pins σ Q) X.xe s
theorem PW.pt {X : Cx} {e : Expr} {t : TT} (h : PW X e t) : PT X e t := h _
/-- an argument list (no star), from the left -/
def PA (X : Cx) (es : List Expr) (t : TA) : Prop :=
  ∀ (pos : Pos) (pins : List (Addr × Obj)) (s : Shared) (σ : St) (H : Hp) (Q : List V → Hp → Prop), Inv X pins σ H s → t σ H Q → wpAny (model X.prog X.w) X.A (spliced (backTo pos (starEach es X.env))) (AP X pins σ Q) X.xe s
def PS (X : Cx) (st : Stmt) (t : TS) : Prop :=
  ∀ (pins : List (Addr × Obj)) (s : Shared) (σ : St) (H : Hp) (D : Ends), Inv X pins σ H s → t D σ H → wpAny (model X.prog X.w) X.A (exec st X.env) (SP X pins D) X.xe s
def PSs (X : Cx) (st : List Stmt) (t : TS) : Prop :=
  ∀ (pins : List (Addr × Obj)) (s : Shared) (σ : St) (H : Hp) (D : Ends), Inv X pins σ H s → t D σ H → wpAny (model X.prog X.w) X.A (execs st X.env) (SP X pins D) X.xe s
/-- weaken the end -/
theorem thn {α : Type} {t : Sem α} {Q Q' : α → Shared → Prop} {M : Model} {A : Around} {E : Value → Shared → Prop} {s : Shared} (h : wpAny M A t Q E s) (hQ : ∀ a s, Q a s → Q' a s) : wpAny M A t Q' E s := wpAny_mono h hQ fun _ _ x => x
end L2

namespace L2
open PySem PySem.Spec PyProof.Rows
section
variable {X : Cx}

/-- two expressions in a row -/
theorem bin {a b : Expr} {ta tb : TE} (ha : PE X a ta) (hb : PE X b tb) {pins : List (Addr × Obj)} {s : Shared} {σ : St} {H : Hp} {R : V → V → Hp → Prop} (I : Inv X pins σ H s) (h : ta σ H fun x H1 => tb σ H1 fun y H2 => R x y H2)
    {α : Type} {Q : α → Shared → Prop} {f : Value → Value → Sem α}
    (hf : ∀ v u s2 x y H2, Inv X pins σ H2 s2 → RelV x v → RelV y u → R x y H2 → wpAny (model X.prog X.w) X.A (f v u) Q X.xe s2) :
    wpAny (model X.prog X.w) X.A (eval a X.env) (fun v s₁ => wpAny (model X.prog X.w) X.A (eval b X.env) (fun u s₂ => wpAny (model X.prog X.w) X.A (f v u) Q X.xe s₂) X.xe s₁) X.xe s := by
  refine thn (ha pins s σ H _ I h) fun v s1 ⟨x, H1, I1, r1, q1⟩ => ?_
  refine thn (hb pins s1 σ H1 _ I1 q1) fun u s2 ⟨y, H2, I2, r2, q2⟩ => ?_
  exact hf v u s2 x y H2 I2 r1 r2 q2

/-! ### names and constants -/
def tVar (i : Nat) : TE := fun σ H Q => ∃ v, σ[i]? = some (some v) ∧ Q v H
def tC (v : V) : TE := fun _ H Q => Q v H
theorem pe_var {i : Nat} {x : Str} {pos : Pos} (hN : X.N[i]? = some x) (hv : Vis X.env.scope x) (hd : (x == ("__debug__" : Str)) = false := by decide) (hcd : (x == ("__classdict__" : Str)) = false := by decide) : PE X (.Name x pos) (tVar i) := by
  intro pins s σ H Q I h
  obtain ⟨v, e, h⟩ := h
  obtain ⟨m, hn, hl⟩ := I.loc
  obtain ⟨u, r, l⟩ := hl i x v hN e hv
  have fin : EP X pins σ Q u s := ⟨v, H, I, r, h⟩
  rcases l with ⟨hk, hm⟩ | ⟨hk, c, hc, hcell⟩
  · exact wpAny_Name (wpAny_loadName_local I.ok.kind hk hn hm fin) hd
  · rcases hk with hk | hk
    · exact wpAny_Name (wpAny_loadName_cell I.ok.kind hk hc hcell fin) hd
    · exact wpAny_Name (wpAny_loadName_free I.ok.kind hk hc hcell fin hcd) hd
theorem pe_int {i j pos} : PE X (.Constant (.int i) j pos) (tC (.int i)) := fun _ _ _ H _ I h => wpAny_Constant_int ⟨.int i, H, I.tok _, ⟨_, rfl⟩, h⟩
theorem pe_bl {b j pos} : PE X (.Constant (.bool b) j pos) (tC (.bl b)) := fun _ _ _ H _ I h => Constant_bool ⟨.bl b, H, I, rfl, h⟩
theorem pe_non {j pos} : PE X (.Constant .none j pos) (tC .non) := fun _ _ _ H _ I h => Constant_none ⟨.non, H, I, rfl, h⟩
theorem pe_str {x j pos} : PE X (.Constant (.str x) j pos) (tC (.str x)) := fun _ _ _ H _ I h => Calls.Constant_str ⟨.str x, H, I.tok _, ⟨_, rfl⟩, h⟩

/-- a global name of the def -/
def Gl (X : Cx) (x : Str) : Prop := X.env.kindOf x = some .globalImplicit
theorem ld_glob {E : Value → Shared → Prop} {pins : List (Addr × Obj)} {s : Shared} {σ : St} {H : Hp} {x : Str} {u : Value} {pos : Pos} {Q : Value → Shared → Prop} (I : Inv X pins σ H s) (hg : Gl X x) (hm : X.mg x = some u) (h : Q u s)
    (hd : (x == ("__debug__" : Str)) = false := by decide) : wpAny (model X.prog X.w) X.A (eval (.Name x pos) X.env) Q E s :=
  Calls.Name_function_global I.ok.kind hg (Calls.loadGlobal_global (by rw [I.ok.glob]; exact I.mod.glob.keeps I.bk) hm h) hd
theorem ld_blt {E : Value → Shared → Prop} {pins : List (Addr × Obj)} {s : Shared} {σ : St} {H : Hp} {x : Str} {u : Value} {pos : Pos} {Q : Value → Shared → Prop} (I : Inv X pins σ H s) (hg : Gl X x) (hm : X.mg x = none) (hv : bootBuiltins x = some u) (h : Q u s)
    (hn : x ≠ "__name__" := by decide) (hd : (x == ("__debug__" : Str)) = false := by decide) : wpAny (model X.prog X.w) X.A (eval (.Name x pos) X.env) Q E s := by
  obtain ⟨mb, h1, h2⟩ := I.mod.blt
  exact Calls.Name_function_global I.ok.kind hg (Calls.loadGlobal_builtin (by rw [I.ok.glob]; exact I.mod.glob.keeps I.bk) hm (by rw [I.ok.blt]; exact h1.keeps I.bk) ((h2 x hn).trans hv) h) hd
/-- a module's constant, a class, a function, as a value -/
theorem pe_glob {x : Str} {v : V} {u : Value} {pos : Pos} (hg : Gl X x) (hm : X.mg x = some u) (r : RelV v u) (hd : (x == ("__debug__" : Str)) = false := by decide) : PE X (.Name x pos) (tC v) :=
  fun _ _ _ H _ I h => ld_glob I hg hm ⟨v, H, I, r, h⟩ hd
theorem pe_bltn {x : Str} {v : V} {u : Value} {pos : Pos} (hg : Gl X x) (hm : X.mg x = none) (hv : bootBuiltins x = some u) (r : RelV v u) (hn : x ≠ "__name__" := by decide) (hd : (x == ("__debug__" : Str)) = false := by decide) : PE X (.Name x pos) (tC v) :=
  fun _ _ _ H _ I h => ld_blt I hg hm hv ⟨v, H, I, r, h⟩ hn hd

/-! ### arithmetic -/
/-- two ints -/
def t2I (ta tb : TE) (k : Int → Int → Hp → Prop) : St → Hp → Prop := fun σ H => ta σ H fun x H1 => tb σ H1 fun y H2 => ∃ i j, x = .int i ∧ y = .int j ∧ k i j H2
variable {a b : Expr} {ta tb : TE} {pos : Pos}
/-! ### comparisons -/
def PC (X : Cx) (op : CmpOp) (a b : Expr) (t : TE) : Prop :=
  ∀ (pins : List (Addr × Obj)) (s : Shared) (σ : St) (H : Hp) (Q : VK), Inv X pins σ H s → t σ H Q →
    wpAny (model X.prog X.w) X.A (eval a X.env) (fun v s₁ => wpAny (model X.prog X.w) X.A (eval b X.env) (fun u s₂ => wpAny (model X.prog X.w) X.A (compareOp op v u) (EP X pins σ Q) X.xe s₂) X.xe s₁) X.xe s
def tCmp (p : Int → Int → Bool) (ta tb : TE) : TE := fun σ H Q => t2I ta tb (fun i j H2 => Q (.bl (p i j)) H2) σ H
/-- a comparison as a value, as a test -/
def tB (t : TE) : TT := fun σ H Q => t σ H fun x H1 => ∃ c, x = .bl c ∧ Q c H1
theorem pt_cmp {op : CmpOp} {t : TE} (h : PC X op a b t) (h1 : behindInMarks op b = false := by first | exact nobehind _ (by decide) (by decide) | rfl) : PT X (.Compare a [op] [b] pos) (tB t) := by
  intro pins s σ H Q I hw
  refine wpAny_isTrue_Compare1 (thn (h pins s σ H _ I hw) fun v s1 h1 => thn h1 fun u s2 h2 => thn h2 fun c s3 ⟨x, H1, I1, r1, q1⟩ => ?_) h1
  obtain ⟨d, rfl, q⟩ := q1
  cases r1
  exact wpAny_truthy_bool ⟨H1, I1, q⟩
/-- an expression whose value is a bool, as a test -/
theorem pt_val {e : Expr} {t : TE} (h : PE X e t) (he : ∀ whole, isTrue e X.env whole = (do let v ← whole; standAt e.pos; holding [v] (truthy v)) := by intro _; rfl) : PT X e (tB t) := by
  intro pins s σ H Q I hw
  refine isTrue_plain (thn (h pins s σ H _ I hw) fun v s1 ⟨x, H1, I1, r1, q1⟩ => ?_) (he _)
  obtain ⟨d, rfl, q⟩ := q1
  cases r1
  exact wpAny_truthy_bool ⟨H1, I1, q⟩

/-! ### and, or, not -/
variable {tA tB' : TT} {rest : List Expr}
def tAnd (t u : TT) : TT := fun σ H Q => t σ H fun c H1 => if c = true then u σ H1 Q else Q false H1
def tOr (t u : TT) : TT := fun σ H Q => t σ H fun c H1 => if c = true then Q true H1 else u σ H1 Q
def tNot (t : TT) : TT := fun σ H Q => t σ H fun c H1 => Q (!c) H1
theorem pw_and1 (ha : PT X a tA) : PW X (.BoolOp .And [a] pos) tA := by
  intro wh pins s σ H Q I h
  refine isTrue_and (thn (ha pins s σ H Q I h) fun c s1 e => ?_)
  cases c with
  | true => exact isTrue_and_nil e
  | false => exact e
theorem pw_or1 (ha : PT X a tA) : PW X (.BoolOp .Or [a] pos) tA := by
  intro wh pins s σ H Q I h
  refine isTrue_or (thn (ha pins s σ H Q I h) fun c s1 e => ?_)
  cases c with
  | false => exact isTrue_or_nil e
  | true => exact e
theorem pw_and (ha : PT X a tA) (hb : PW X (.BoolOp .And (b :: rest) pos) tB') : PW X (.BoolOp .And (a :: b :: rest) pos) (tAnd tA tB') := by
  intro wh pins s σ H Q I h
  refine isTrue_and (thn (ha pins s σ H _ I h) fun c s1 ⟨H1, I1, q1⟩ => ?_)
  cases c with
  | true => exact hb wh pins s1 σ H1 Q I1 q1
  | false => exact ⟨H1, I1, q1⟩
theorem pw_or (ha : PT X a tA) (hb : PW X (.BoolOp .Or (b :: rest) pos) tB') : PW X (.BoolOp .Or (a :: b :: rest) pos) (tOr tA tB') := by
  intro wh pins s σ H Q I h
  refine isTrue_or (thn (ha pins s σ H _ I h) fun c s1 ⟨H1, I1, q1⟩ => ?_)
  cases c with
  | true => exact ⟨H1, I1, q1⟩
  | false => exact hb wh pins s1 σ H1 Q I1 q1
theorem pt_not (ha : PT X a tA) : PT X (.UnaryOp .Not a pos) (tNot tA) := by
  intro pins s σ H Q I h
  exact isTrue_not (ha pins s σ H (fun c H1 => Q (!c) H1) I h)
/-- .. as values (bools) -/
def tAndV (ta tb : TE) : TE := fun σ H Q => ta σ H fun x H1 => ∃ c, x = .bl c ∧ if c = true then tb σ H1 Q else Q (.bl false) H1
def tNotV (ta : TE) : TE := fun σ H Q => ta σ H fun x H1 => ∃ c, x = .bl c ∧ Q (.bl (!c)) H1
theorem pe_one {op} {t : TE} (h : PE X a t) : PE X (.BoolOp op [a] pos) t := fun pins s σ H Q I hw => BoolOp_one (h pins s σ H Q I hw)
theorem pe_and (ha : PE X a ta) (hb : PE X (.BoolOp .And (b :: rest) pos) tb) : PE X (.BoolOp .And (a :: b :: rest) pos) (tAndV ta tb) := by
  intro pins s σ H Q I h
  refine BoolOp_and (thn (ha pins s σ H _ I h) fun v s1 ⟨x, H1, I1, r1, q1⟩ => ?_)
  obtain ⟨c, rfl, q1⟩ := q1
  cases r1
  refine wpAny_truthy_bool ?_
  cases c with
  | true => exact hb pins s1 σ H1 Q I1 q1
  | false => exact ⟨.bl false, H1, I1, rfl, q1⟩
theorem pe_not (ha : PE X a ta) : PE X (.UnaryOp .Not a pos) (tNotV ta) := by
  intro pins s σ H Q I h
  refine UnaryOp_ (thn (ha pins s σ H _ I h) fun v s1 ⟨x, H1, I1, r1, q1⟩ => ?_)
  obtain ⟨c, rfl, q1⟩ := q1
  cases r1
  exact not_of (wpAny_truthy_bool ⟨.bl (!c), H1, I1, rfl, q1⟩)
/-- a if t else b -/
def tIf (t : TT) (ta tb : TE) : TE := fun σ H Q => t σ H fun c H1 => if c = true then ta σ H1 Q else tb σ H1 Q
theorem pe_ifExp {c : Expr} (hc : PT X c tA) (ha : PE X a ta) (hb : PE X b tb) : PE X (.IfExp c a b pos) (tIf tA ta tb) := by
  intro pins s σ H Q I h
  refine wpAny_IfExp (thn (hc pins s σ H _ I h) fun d s1 ⟨H1, I1, q1⟩ => ?_)
  cases d with
  | true => exact ha pins s1 σ H1 Q I1 q1
  | false => exact hb pins s1 σ H1 Q I1 q1
end
end L2

namespace L2
open PySem PySem.Spec PyProof.Rows

/-! ### a list, a tuple that is read: tracked, frozen, or an object of the module -/
def SqL (K : PySem.W.Frag) (H : Hp) (a : Addr) (xs : List V) : Prop :=
  Rd H a (.lst xs) ∨
    ∃ (o : Obj) (its : Array Value) (n : Nat), K.lookup a = some o ∧ o.cls = .type "list" ∧ o.dict = none ∧ o.data = .seq its n ∧ its.size ≤ sizeLine ∧ Vals xs its.toList
def SqT (K : PySem.W.Frag) (H : Hp) (a : Addr) (xs : List V) : Prop :=
  Rd H a (.tup xs) ∨
    ∃ (o : Obj) (its : Array Value) (n : Nat), K.lookup a = some o ∧ o.cls = .type "tuple" ∧ o.data = .seq its n ∧ its.size ≤ sizeLine ∧ Vals xs its.toList
def absV : Value → Option V
  | .none => some .non
  | .bool b => some (.bl b)
  | .int i _ => some (.int i)
  | .str x _ => some (.str x)
  | .bytes b _ => some (.byt b)
  | .float b _ => some (.flt b)
  | .ref a => some (.ref a)
  | .type n => some (.ty n)
  | _ => none
theorem RelV.abs {x : V} {u : Value} (r : RelV x u) : absV u = some x := by
  cases x with
  | non => cases r; rfl
  | bl _ => cases r; rfl
  | int _ => obtain ⟨t, rfl⟩ := r; rfl
  | str _ => obtain ⟨t, rfl⟩ := r; rfl
  | byt _ => obtain ⟨t, rfl⟩ := r; rfl
  | flt _ => obtain ⟨t, rfl⟩ := r; rfl
  | ref _ => cases r; rfl
  | ty _ => cases r; rfl
theorem RelV.inj {x y : V} {u : Value} (r : RelV x u) (q : RelV y u) : x = y := Option.some.inj (r.abs.symm.trans q.abs)
theorem Vals.inj : ∀ {xs ys : List V} {us : List Value}, Vals xs us → Vals ys us → xs = ys
  | _, _, _, .nil, .nil => rfl
  | _, _, _, .cons r t, .cons r' t' => by rw [r.inj r', Vals.inj t t']
section
variable {X : Cx} {pins : List (Addr × Obj)} {σ : St} {H : Hp} {s : Shared} {a : Addr} {xs ys : List V}
theorem SqL.of {K : PySem.W.Frag} (h : H a = some (.lst xs)) : SqL K H a xs := .inl (.inl h)
theorem SqT.of {K : PySem.W.Frag} (h : H a = some (.tup xs)) : SqT K H a xs := .inl (.inl h)
theorem Inv.list (I : Inv X pins σ H s) (h : SqL X.K H a xs) : ∃ its : List Value, Vals xs its ∧ PlainL s.heap a its.toArray ∧ xs.length ≤ sizeLine := by
  rcases h with h | ⟨o, its, n, hk, hc, hd, hs, hz, r⟩
  · obtain ⟨z, its, n, r, e⟩ := h.ok I.hok
    exact ⟨its, r, ⟨_, n, e, rfl, rfl, rfl⟩, z⟩
  · refine ⟨its.toList, r, ⟨o, n, I.kIn a o hk, hc, hd, by simpa using hs⟩, ?_⟩
    have e := r.length
    simp only [Array.length_toList] at e
    omega
theorem Inv.tuple (I : Inv X pins σ H s) (h : SqT X.K H a xs) : ∃ its : List Value, Vals xs its ∧ IsTup s.heap a its.toArray ∧ xs.length ≤ sizeLine := by
  rcases h with h | ⟨o, its, n, hk, hc, hs, hz, r⟩
  · obtain ⟨z, its, r, p⟩ := h.ok I.hok
    exact ⟨its, r, p.t, z⟩
  · refine ⟨its.toList, r, ⟨o, I.kIn a o hk, hc, n, by simpa using hs⟩, ?_⟩
    have e := r.length
    simp only [Array.length_toList] at e
    omega
theorem Inv.list_inj (I : Inv X pins σ H s) (h : SqL X.K H a xs) (h' : SqL X.K H a ys) : xs = ys := by
  obtain ⟨its, r, ⟨o, n, e, _, _, d⟩, _⟩ := I.list h
  obtain ⟨its', r', ⟨o', n', e', _, _, d'⟩, _⟩ := I.list h'
  rw [e] at e'; cases e'
  rw [d] at d'
  injection d' with d1 _
  have : its = its' := by simpa using congrArg Array.toList d1
  subst this
  exact r.inj r'
theorem Inv.tuple_inj (I : Inv X pins σ H s) (h : SqT X.K H a xs) (h' : SqT X.K H a ys) : xs = ys := by
  obtain ⟨its, r, ⟨o, e, _, n, d⟩, _⟩ := I.tuple h
  obtain ⟨its', r', ⟨o', e', _, n', d'⟩, _⟩ := I.tuple h'
  rw [e] at e'; cases e'
  rw [d] at d'
  injection d' with d1 _
  have : its = its' := by simpa using congrArg Array.toList d1
  subst this
  exact r.inj r'
end

/-! ### another wish about exceptions -/
abbrev Cx.wish (X : Cx) (E : Value → Shared → Prop) : Cx := { X with xe := E }
/-- no exception leaves -/
abbrev Cx.nox (X : Cx) : Cx := X.wish fun _ _ => False
theorem Cx.Ok.wish {X : Cx} (ok : X.Ok) (E : Value → Shared → Prop) : (X.wish E).Ok :=
  ⟨ok.mod, ok.kind, ok.glob, ok.blt, ok.above, ok.inj, ok.has, ok.cab, ok.hd, ok.frames, ok.stk, ok.exf, ok.bs, ok.bsz, ok.noex, ok.exfs, ok.funs, ok.frf⟩
theorem Cx.Ok.unwish {X : Cx} {E : Value → Shared → Prop} (ok : (X.wish E).Ok) : X.Ok :=
  ⟨ok.mod, ok.kind, ok.glob, ok.blt, ok.above, ok.inj, ok.has, ok.cab, ok.hd, ok.frames, ok.stk, ok.exf, ok.bs, ok.bsz, ok.noex, ok.exfs, ok.funs, ok.frf⟩
section
variable {X : Cx} {pins : List (Addr × Obj)} {σ : St} {H : Hp} {s : Shared} {E : Value → Shared → Prop}
theorem Inv.wish (I : Inv X pins σ H s) (E : Value → Shared → Prop) : Inv (X.wish E) pins σ H s := ⟨I.ok.wish E, I.os, I.bare, I.base, I.loc, I.cell, I.free, I.freeC, I.pin, I.hok, I.len⟩
theorem Inv.unwish (I : Inv (X.wish E) pins σ H s) : Inv X pins σ H s := ⟨I.ok.unwish, I.os, I.bare, I.base, I.loc, I.cell, I.free, I.freeC, I.pin, I.hok, I.len⟩
theorem SP.unwish {D : Ends} {f : Flow} {s' : Shared} (h : SP (X.wish E) pins D f s') : SP X pins D f s' := by
  cases f with
  | next => obtain ⟨σ', H', I, q⟩ := h; exact ⟨σ', H', I.unwish, q⟩
  | brk => obtain ⟨σ', H', I, q⟩ := h; exact ⟨σ', H', I.unwish, q⟩
  | cont => obtain ⟨σ', H', I, q⟩ := h; exact ⟨σ', H', I.unwish, q⟩
  | ret u => obtain ⟨v, σ', H', I, r, q⟩ := h; exact ⟨v, σ', H', I.unwish, r, q⟩
theorem PSs.nox {st : List Stmt} {t : TS} (h : PSs X.nox st t) : PSs X st t := fun pins s σ H D I hw =>
  wpAny_mono (h pins s σ H D (I.wish _) hw) (fun _ _ q => q.unwish) fun _ _ z => False.elim z
end

/-! ### blocks and small statements -/
section
variable {X : Cx} {st : Stmt} {rest : List Stmt} {t u : TS} {e : Expr} {te : TE} {pos : Pos}
def tNext : TS := fun D σ H => D.nx σ H
def tSeq (t u : TS) : TS := fun D σ H => t { D with nx := u D } σ H
theorem pss_nil : PSs X [] tNext := fun _ _ σ H _ I h => wpAny_execs_nil ⟨σ, H, I, h⟩
theorem pss_cons (h1 : PS X st t) (h2 : PSs X rest u) : PSs X (st :: rest) (tSeq t u) := by
  intro pins s σ H D I h
  refine wpAny_execs_cons (thn (h1 pins s σ H { D with nx := u D } I h) fun f s1 q => ?_)
  cases f with
  | next =>
    obtain ⟨σ', H', I', q⟩ := q
    exact h2 pins s1 σ' H' D I' q
  | ret v => exact q
  | brk => exact q
  | cont => exact q
theorem pss_one (h1 : PS X st t) : PSs X [st] t := by
  intro pins s σ H D I h
  refine wpAny_execs_cons (thn (h1 pins s σ H D I h) fun f s1 q => ?_)
  cases f with
  | next => exact wpAny_execs_nil q
  | ret v => exact q
  | brk => exact q
  | cont => exact q
/-- in a def's body nothing is shown -/
theorem Inv.quiet {pins : List (Addr × Obj)} {σ : St} {H : Hp} {s : Shared} (I : Inv X pins σ H s) : interactive X.env = false := by simp [interactive, I.ok.kind]
/-- an expression whose value is dropped -/
def tDrop (te : TE) : TS := fun D σ H => te σ H fun _ H1 => D.nx σ H1
theorem ps_expr (he : PE X e te) (hs : swapsWith e none pos.line X.env = pure false := by rfl) : PS X (.Expr e pos) (tDrop te) := by
  intro pins s σ H D I h
  exact wpAny_Expr_any (thn (he pins s σ H _ I h) fun v s1 ⟨x, H1, I1, r1, q1⟩ => ⟨σ, H1, I1, q1⟩) I.quiet hs
def tRet (te : TE) : TS := fun D σ H => te σ H D.rt
theorem ps_ret (he : PE X e te) : PS X (.Return (some e) pos) (tRet te) := by
  intro pins s σ H D I h
  exact wpAny_Return_some (thn (he pins s σ H _ I h) fun v s1 ⟨x, H1, I1, r1, q1⟩ => ⟨x, σ, H1, I1, r1, q1⟩)
def tIfS (c : TT) (t u : TS) : TS := fun D σ H => c σ H fun b H1 => if b = true then t D σ H1 else u D σ H1
theorem ps_if {c : Expr} {a b : List Stmt} {tc : TT} (hc : PT X c tc) (ha : PSs X a t) (hb : PSs X b u) : PS X (.If c a b pos) (tIfS tc t u) := by
  intro pins s σ H D I h
  refine wpAny_If (thn (hc pins s σ H _ I h) fun d s1 ⟨H1, I1, q1⟩ => ?_)
  cases d with
  | true => exact ha pins s1 σ H1 D I1 q1
  | false => exact hb pins s1 σ H1 D I1 q1
end

/-! ### targets -/
abbrev TG := V → St → Hp → (St → Hp → Prop) → Prop
abbrev TGs := List V → St → Hp → (St → Hp → Prop) → Prop
def PG (X : Cx) (target : Expr) (t : TG) : Prop :=
  ∀ (pins : List (Addr × Obj)) (s : Shared) (σ : St) (H : Hp) (v : V) (u : Value) (Q : St → Hp → Prop), Inv X pins σ H s → RelV v u → t v σ H Q →
    wpAny (model X.prog X.w) X.A (assign target X.env u) (fun _ s' => ∃ σ' H', Inv X pins σ' H' s' ∧ Q σ' H') X.xe s
/-- several targets, one after another -/
def PGs (X : Cx) (ts : List Expr) (t : TGs) : Prop :=
  ∀ (pins : List (Addr × Obj)) (s : Shared) (σ : St) (H : Hp) (vs : List V) (us : List Value) (Q : St → Hp → Prop), Inv X pins σ H s → Vals vs us → t vs σ H Q →
    wpAny (model X.prog X.w) X.A (assignInOrder ((assignEach ts X.env).map (·.2)) us) (fun _ s' => ∃ σ' H', Inv X pins σ' H' s' ∧ Q σ' H') X.xe s
section
variable {X : Cx} {pos : Pos}
def gName (i : Nat) : TG := fun v σ H Q => Q (σ.set i (some v)) H
theorem pg_name {i : Nat} {x : Str} (hN : X.N.Nodup) (hi : X.N[i]? = some x) (hx : Loc X.env.scope x) (hf : X.fn x = true ∨ X.env.scope.names.lookup x = some .local := by first | exact .inl rfl | exact .inr rfl | assumption) : PG X (.Name x pos) (gName i) := by
  intro pins s σ H v u Q I r h
  exact wpAny_assign_Name (store_ok I hN hi hx r (fun s' I' => ⟨_, H, I', h⟩) hf)
def gNil : TGs := fun vs σ H Q => vs = [] ∧ Q σ H
def gCons (t : TG) (u : TGs) : TGs := fun vs σ H Q => ∃ v r, vs = v :: r ∧ t v σ H fun σ' H' => u r σ' H' Q
theorem pgs_nil : PGs X [] gNil := by
  intro pins s σ H vs us Q I r h
  obtain ⟨e, h⟩ := h
  subst e
  cases r
  exact assignInOrder_nil ⟨σ, H, I, h⟩
theorem pgs_cons {e : Expr} {es : List Expr} {t : TG} {u : TGs} (h1 : PG X e t) (h2 : PGs X es u)
    (hs : (assignEach (e :: es) X.env).map (·.2) = assign e X.env :: (assignEach es X.env).map (·.2) := by rfl) : PGs X (e :: es) (gCons t u) := by
  intro pins s σ H vs us Q I r h
  obtain ⟨v, vr, e1, h⟩ := h
  subst e1
  cases r with
  | cons r rr =>
    rw [hs]
    refine assignInOrder_cons (thn (h1 pins s σ H _ _ _ I r h) fun _ s1 ⟨σ1, H1, I1, q1⟩ => ?_)
    exact h2 pins s1 σ1 H1 _ _ Q I1 rr q1
/-- (a, b, ..) = a tuple of that length -/
def gTup (K : PySem.W.Frag) (n : Nat) (t : TGs) : TG := fun v σ H Q => ∃ a xs, v = .ref a ∧ SqT K H a xs ∧ xs.length = n ∧ t xs σ H Q
theorem pg_tup {es : List Expr} {k : Nat} {t : TGs} {n : Nat} (hc : X.calm = true) (h : PGs X es t)
    (hn : (assignEach es X.env).length = n := by rfl) (hst : (assignEach es X.env).findIdx? (·.1) = none := by rfl) : PG X (.Tuple es k pos) (gTup X.K n t) := by
  intro pins s σ H v u Q I r hw
  obtain ⟨a, xs, e1, hq, hl, hw⟩ := hw
  subst e1
  cases r
  obtain ⟨its, rv, ht, hz⟩ := I.tuple hq
  refine assign_Tuple_tuple (I.ok.hd hc) ht (by simp [hn, ← hl, rv.length]) hst fun h' hx => ?_
  have I1 : Inv X pins σ H { s with heap := h' } := I.kept (t' := s.toks) fun b o e => hx b o (Nat.ne_of_lt (Heap.lt_size e)) e
  exact h pins _ σ H xs _ Q I1 (by simpa using rv) hw
/-- target = value -/
def tAsg (te : TE) (g : TG) : TS := fun D σ H => te σ H fun x H1 => g x σ H1 D.nx
/-- name = value -/
theorem ps_set {i : Nat} {x : Str} {e : Expr} {te : TE} {pos' : Pos} (hN : X.N.Nodup) (hi : X.N[i]? = some x) (hx : Loc X.env.scope x) (he : PE X e te) (hs : swapsWith e (some (.Name x pos')) pos.line X.env = pure false := by rfl) (hf : X.fn x = true ∨ X.env.scope.names.lookup x = some .local := by first | exact .inl rfl | exact .inr rfl | assumption) :
    PS X (.Assign [.Name x pos'] e pos) (tAsg te (gName i)) := by
  intro pins s σ H D I h
  refine wpAny_Assign_Name (thn (he pins s σ H _ I h) fun v s1 ⟨y, H1, I1, r1, q1⟩ => ?_) hs
  exact store_ok I1 hN hi hx r1 (fun s2 I2 => ⟨_, H1, I2, q1⟩) hf
end

/-! ### while -/
section
variable {X : Cx} {pos : Pos}
end

/-! ### what a loop or a comprehension walks -/
/-- at turn i: it yields x (the heap may grow), or it stops -/
structure It where
  go : Nat → Hp → Prop
  yld : Nat → Hp → V → Hp → Prop
  stop : Nat → Hp → Prop
/-- the iterator's own objects may turn: they are not the frame's, not pinned, younger than the entry (or a comprehension's own) -/
def FpOk (X : Cx) (pins : List (Addr × Obj)) (H : Hp) (b : Addr) : Prop :=
  H b = none ∧ b ≠ X.env.locals ∧ b ∉ X.fs ∧ (b ∈ X.ex ∨ X.s₀.heap.objs.size ≤ b) ∧ (∀ x c, X.env.cells.lookup x = some c → c ≠ b) ∧ ∀ p ∈ X.pn ++ pins, p.1 ≠ b
theorem Inv.fpOk {X : Cx} {pins : List (Addr × Obj)} {σ : St} {H H' : Hp} {s : Shared} {b : Addr} (I : Inv X pins σ H s) (hb : s.heap.objs.size ≤ b) (hn : H' b = none) : FpOk X pins H' b := by
  refine ⟨hn, Nat.ne_of_gt (Nat.lt_of_lt_of_le I.lt hb), I.nofs hb, .inr (Nat.le_trans I.sz hb), fun x c e z => ?_, fun p hp z => ?_⟩
  · obtain ⟨v, q⟩ := I.cell x c e
    exact absurd (Nat.lt_of_lt_of_le q.lt (by rw [z]; exact hb)) (Nat.lt_irrefl _)
  · exact absurd (Nat.lt_of_lt_of_le (Heap.lt_size (I.pin p hp).1) (by rw [z]; exact hb)) (Nat.lt_irrefl _)
structure Turn (P : Program) (w : World) (K : PySem.W.Frag) (tg : Expr) (J : It) (fp : List Addr) (it : Addr) (tn : Nat → Heap → Prop) : Prop where
  mem : it ∈ fp
  obj : ∀ i h, tn i h → ∀ b ∈ fp, ∃ o, h.get? b = some o ∧ ∀ v, o.data ≠ .cell v
  keep : ∀ i h h', tn i h → (∀ b ∈ fp, ∀ o, h.get? b = some o → h'.get? b = some o) → tn i h'
  item : ∀ (X : Cx), X.prog = P → X.w = w → X.K = K → X.calm = true → ∀ (i : Nat) (pins : List (Addr × Obj)) (s : Shared) (σ : St) (H : Hp) (E : Value → Shared → Prop), Inv X pins σ H s → (∀ b ∈ fp, FpOk X pins H b) → tn i s.heap → J.go i H →
    wpAny (model P w) X.A (pyNext (.ref it)) (fun r s1 => ∃ u, r = some u ∧
      wpAny (model P w) X.A (letOwnedTupleGo tg (.ref it) u) (fun _ s2 => ∃ x H', Inv X pins σ H' s2 ∧ RelV x u ∧ J.yld i H x H' ∧ tn (i + 1) s2.heap ∧ ∀ b ∈ fp, H' b = none) E s1) E s
  done : ∀ (X : Cx), X.prog = P → X.w = w → X.K = K → X.calm = true → ∀ (i : Nat) (pins : List (Addr × Obj)) (s : Shared) (σ : St) (H : Hp) (E : Value → Shared → Prop), Inv X pins σ H s → (∀ b ∈ fp, FpOk X pins H b) → tn i s.heap → J.stop i H →
    wpAny (model P w) X.A (pyNext (.ref it)) (fun r s1 => r = none ∧ Inv X pins σ H s1) E s
  self : ∀ (A : Around) (i : Nat) (s : Shared) (Q : Value → Shared → Prop) (E : Value → Shared → Prop), tn i s.heap → Q (.ref it) s → wpAny (model P w) A (pyIter (.ref it)) Q E s
abbrev TI := St → Hp → (It → Hp → Prop) → Prop
/-- an iterator has come -/
def PIE (X : Cx) (pins : List (Addr × Obj)) (σ : St) (tg : Expr) (R : It → Hp → Prop) (itv : Value) (s2 : Shared) : Prop :=
  ∃ (it : Addr) (fp : List Addr) (tn : Nat → Heap → Prop) (J : It) (H' : Hp), itv = .ref it ∧ Inv X pins σ H' s2 ∧ Turn X.prog X.w X.K tg J fp it tn ∧ tn 0 s2.heap ∧ (∀ b ∈ fp, FpOk X pins H' b) ∧ R J H'
def PI (X : Cx) (tg iter : Expr) (wi : TI) : Prop :=
  ∀ (pins : List (Addr × Obj)) (s : Shared) (σ : St) (H : Hp) (R : It → Hp → Prop), Inv X pins σ H s → wi σ H R →
    wpAny (model X.prog X.w) X.A (eval iter X.env) (fun v s1 => wpAny (model X.prog X.w) X.A (pyIter v) (PIE X pins σ tg R) X.xe s1) X.xe s

/-- the step ahead of the store is nothing for an iterator that keeps no tuple -/
theorem go_of {M : Model} {A : Around} {E : Value → Shared → Prop} {s : Shared} {tg : Expr} {it : Addr} {u : Value} {o : Obj} {n : String} {vs : Array Value} {Q : Unit → Shared → Prop} (ho : s.heap.get? it = some o) (hc : o.cls = .type n) (hd : o.data = .fields vs)
    (hn : ["enumerate", "zip", "dict_itemiterator", "dict_reverseitemiterator", "odict_iterator", "itertools.zip_longest", "itertools.pairwise"].contains n = false) (hQ : Q () s) : wpAny M A (letOwnedTupleGo tg (.ref it) u) Q E s := by
  unfold letOwnedTupleGo
  cases tg <;> first
    | exact wpAny_pure hQ
    | (cases u <;> first
        | exact wpAny_pure hQ
        | (refine wpAny_bind (wpAny_load ho ?_)
           rw [hc, hd]
           show wpAny M A (if (["enumerate", "zip", "dict_itemiterator", "dict_reverseitemiterator", "odict_iterator", "itertools.zip_longest", "itertools.pairwise"].contains n && vs[0]? == some (rawInt _)) = true then _ else _) Q E s
           rw [if_neg (by intro h; rw [hn, Bool.false_and] at h; cases h)]
           exact wpAny_pure hQ))

/-- the list at a, as it stands at each turn (a loop may append to it) -/
def Itl (K : PySem.W.Frag) (a : Addr) : It :=
  ⟨fun i H => ∃ xs x, SqL K H a xs ∧ xs[i]? = some x, fun i H x H' => H' = H ∧ ∀ xs, SqL K H a xs → xs[i]? = some x, fun i H => ∃ xs, SqL K H a xs ∧ xs.length ≤ i⟩
def Itt (K : PySem.W.Frag) (a : Addr) : It :=
  ⟨fun i H => ∃ xs x, SqT K H a xs ∧ xs[i]? = some x, fun i H x H' => H' = H ∧ ∀ xs, SqT K H a xs → xs[i]? = some x, fun i H => ∃ xs, SqT K H a xs ∧ xs.length ≤ i⟩
/-- lo, lo + 1, .. (n of them) -/
def Itr (lo : Int) (n : Nat) : It := ⟨fun i _ => i < n, fun i H x H' => H' = H ∧ x = .int (lo + i), fun i _ => n ≤ i⟩
theorem turn_list {P : Program} {w : World} {K : PySem.W.Frag} {tg : Expr} (a it : Addr) : Turn P w K tg (Itl K a) [it] it (fun i h => h.IsListIter it a i) where
  mem := by simp
  obj := fun i h st b hb => by
    have e : b = it := by simpa using hb
    subst e
    obtain ⟨o, e, c, d⟩ := st
    exact ⟨o, e, fun v z => by rw [d] at z; cases z⟩
  keep := fun i h h' st k => st.at fun o e => k it (by simp) o e
  item := by
    intro X hP hw hK hc i pins s σ H E I hf st hg
    subst hP hw hK
    obtain ⟨xs, x, hq, hx⟩ := hg
    obtain ⟨its, rv, p, hz⟩ := I.list hq
    obtain ⟨u, hu, ru⟩ := rv.get hx
    obtain ⟨f0, f1, f2, f3, f4, f5⟩ := hf it (by simp)
    refine wpAny_pyNext_list_item st p.isList (x := u) (by simpa using hu) fun h' st' sb => ?_
    have I1 : Inv X pins σ H { s with heap := h' } := I.turned (t' := s.toks) (fun b o hb e => (sb.2 b hb).trans e) f0 f1 f3 f4 f5
    obtain ⟨o, e, c, d⟩ := id st'
    exact ⟨u, rfl, go_of (s := { s with heap := h' }) e c d (by decide) ⟨x, H, I1, ru, ⟨rfl, fun ys hy => by rw [I.list_inj hy hq]; exact hx⟩, st', fun b hb => (hf b hb).1⟩⟩
  done := by
    intro X hP hw hK hc i pins s σ H E I hf st hg
    subst hP hw hK
    obtain ⟨xs, hq, hx⟩ := hg
    obtain ⟨its, rv, p, hz⟩ := I.list hq
    obtain ⟨f0, f1, f2, f3, f4, f5⟩ := hf it (by simp)
    have hl := rv.length
    exact wpAny_pyNext_list_end (I.ok.hd hc) st p.isList (by simp; omega) fun h' eb => ⟨rfl, I.turned (t' := s.toks) (fun b o hb e => eb b o hb e) f0 f1 f3 f4 f5⟩
  self := fun _ _ _ _ _ st h => wpAny_pyIter_listiter st h
theorem turn_tuple {P : Program} {w : World} {K : PySem.W.Frag} {tg : Expr} (a it : Addr) : Turn P w K tg (Itt K a) [it] it (fun i h => h.IsTupleIter it a i) where
  mem := by simp
  obj := fun i h st b hb => by
    have e : b = it := by simpa using hb
    subst e
    obtain ⟨o, e, c, d⟩ := st
    exact ⟨o, e, fun v z => by rw [d] at z; cases z⟩
  keep := fun i h h' st k => st.at fun o e => k it (by simp) o e
  item := by
    intro X hP hw hK hc i pins s σ H E I hf st hg
    subst hP hw hK
    obtain ⟨xs, x, hq, hx⟩ := hg
    obtain ⟨its, rv, p, hz⟩ := I.tuple hq
    obtain ⟨u, hu, ru⟩ := rv.get hx
    obtain ⟨f0, f1, f2, f3, f4, f5⟩ := hf it (by simp)
    refine wpAny_pyNext_tuple_item st (show s.heap.IsTuple a its.toArray from p) (x := u) (by simpa using hu) fun h' st' sb => ?_
    have I1 : Inv X pins σ H { s with heap := h' } := I.turned (t' := s.toks) (fun b o hb e => (sb.2 b hb).trans e) f0 f1 f3 f4 f5
    obtain ⟨o, e, c, d⟩ := id st'
    exact ⟨u, rfl, go_of (s := { s with heap := h' }) e c d (by decide) ⟨x, H, I1, ru, ⟨rfl, fun ys hy => by rw [I.tuple_inj hy hq]; exact hx⟩, st', fun b hb => (hf b hb).1⟩⟩
  done := by
    intro X hP hw hK hc i pins s σ H E I hf st hg
    subst hP hw hK
    obtain ⟨xs, hq, hx⟩ := hg
    obtain ⟨its, rv, p, hz⟩ := I.tuple hq
    obtain ⟨f0, f1, f2, f3, f4, f5⟩ := hf it (by simp)
    have hl := rv.length
    exact wpAny_pyNext_tuple_end (I.ok.hd hc) st (show s.heap.IsTuple a its.toArray from p) (by simp; omega) fun h' eb => ⟨rfl, I.turned (t' := s.toks) (fun b o hb e => eb b o hb e) f0 f1 f3 f4 f5⟩
  self := fun _ _ _ _ _ st h => wpAny_pyIter_tupleiter st h
theorem turn_range {P : Program} {w : World} {K : PySem.W.Frag} {tg : Expr} (it : Addr) (lo : Int) (n : Nat) : Turn P w K tg (Itr lo n) [it] it (fun i h => IsRangeIter h it (lo + (i : Nat) * 1) ((n : Int) - (i : Nat)) 1) where
  mem := by simp
  obj := fun i h st b hb => by
    have e : b = it := by simpa using hb
    subst e
    exact ⟨_, st, fun v z => by
      have z' : Data.fields _ = Data.cell v := z
      cases z'⟩
  keep := fun i h h' st k => k it (by simp) _ st
  item := by
    intro X hP hw hK hc i pins s σ H E I hf st hg
    subst hP hw hK
    obtain ⟨f0, f1, f2, f3, f4, f5⟩ := hf it (by simp)
    have W := Walks.range (prog := X.prog) (w := X.w) (I.ok.hd hc) it lo 1 n
    refine W.item i s _ _ hg st fun v h' tk hv st' kk => ?_
    obtain ⟨t, rfl⟩ := hv
    have I1 : Inv X pins σ H { s with heap := h', toks := tk } := I.turned (fun b o hb e => kk b o (by simpa using hb) e) f0 f1 f3 f4 f5
    refine ⟨_, rfl, go_of (s := { s with heap := h', toks := tk }) (n := "range_iterator") st' rfl rfl (by decide) ⟨.int (lo + i), H, I1, ⟨t, ?_⟩, ⟨rfl, rfl⟩, st', fun b hb => (hf b hb).1⟩⟩
    rw [Int.mul_one]
  done := by
    intro X hP hw hK hc i pins s σ H E I hf st hg
    subst hP hw hK
    obtain ⟨f0, f1, f2, f3, f4, f5⟩ := hf it (by simp)
    exact wpAny_pyNext_range_end (I.ok.hd hc) st (by have : n ≤ i := hg; omega) fun h' eb => ⟨rfl, I.turned (t' := s.toks) (fun b o hb e => eb b o hb e) f0 f1 f3 f4 f5⟩
  self := fun _ _ _ _ _ st h => wpAny_pyIter_rangeiter st h
end L2

namespace L2
open PySem PySem.Spec PyProof.Rows
section
variable {X : Cx} {tg : Expr}
def iList (K : PySem.W.Frag) (tl : TE) : TI := fun σ H R => tl σ H fun x H1 => ∃ a, x = .ref a ∧ (∃ xs, SqL K H1 a xs) ∧ R (Itl K a) H1
def iTup (K : PySem.W.Frag) (tl : TE) : TI := fun σ H R => tl σ H fun x H1 => ∃ a, x = .ref a ∧ (∃ xs, SqT K H1 a xs) ∧ R (Itt K a) H1
theorem pi_list {l : Expr} {tl : TE} (hl : PE X l tl) : PI X tg l (iList X.K tl) := by
  intro pins s σ H R I h
  refine thn (hl pins s σ H _ I h) fun v s1 ⟨x, H1, I1, r1, q1⟩ => ?_
  obtain ⟨a, e, ⟨xs, hq⟩, q⟩ := q1
  subst e
  cases r1
  obtain ⟨its, rv, p, hz⟩ := I1.list hq
  refine wpAny_pyIter_list p.isList ?_
  refine ⟨s1.heap.objs.size, [s1.heap.objs.size], _, _, H1, rfl, I1.kept (t' := s1.toks) fun b o e => Heap.get?_push_of_some _ e, turn_list a _, ⟨_, Heap.get?_push_size _ rfl, rfl, rfl⟩, fun b hb => ?_, q⟩
  have e : b = s1.heap.objs.size := by simpa using hb
  subst e
  exact I1.fpOk (Nat.le_refl _) (I1.hok.fresh (Nat.le_refl _))
theorem pi_tup {l : Expr} {tl : TE} (hl : PE X l tl) : PI X tg l (iTup X.K tl) := by
  intro pins s σ H R I h
  refine thn (hl pins s σ H _ I h) fun v s1 ⟨x, H1, I1, r1, q1⟩ => ?_
  obtain ⟨a, e, ⟨xs, hq⟩, q⟩ := q1
  subst e
  cases r1
  obtain ⟨its, rv, p, hz⟩ := I1.tuple hq
  refine wpAny_pyIter_tuple (show s1.heap.IsTuple a its.toArray from p) ?_
  refine ⟨s1.heap.objs.size, [s1.heap.objs.size], _, _, H1, rfl, I1.kept (t' := s1.toks) fun b o e => Heap.get?_push_of_some _ e, turn_tuple a _, ⟨_, Heap.get?_push_size _ rfl, rfl, rfl⟩, fun b hb => ?_, q⟩
  have e : b = s1.heap.objs.size := by simpa using hb
  subst e
  exact I1.fpOk (Nat.le_refl _) (I1.hok.fresh (Nat.le_refl _))
/-- a range object just made, walked -/
theorem range_it {pins : List (Addr × Obj)} {σ : St} {H : Hp} {s : Shared} {R : It → Hp → Prop} {E : Value → Shared → Prop} {lo hi : Int} {t u v : Tok} {tk : Nat} (I : Inv X pins σ H s) (h1 : -(2 ^ 62) ≤ lo) (h2 : lo < 2 ^ 62) (h3 : -(2 ^ 62) ≤ hi) (h4 : hi < 2 ^ 62)
    (q : R (Itr lo (hi - lo).toNat) H) : wpAny (model X.prog X.w) X.A (pyIter (.ref s.heap.objs.size)) (PIE X pins σ tg R) E { s with heap := s.heap.push { cls := .type "range", data := .fields #[.int lo t, .int hi u, .int 1 v] }, toks := tk } := by
  refine wpAny_pyIter_range (IsRange.new ..) (small_one h1 h2 h3 h4) ?_
  have I1 : Inv X pins σ H { s with heap := s.heap.push { cls := .type "range", data := .fields #[.int lo t, .int hi u, .int 1 v] }, toks := tk } := I.kept fun b o e => Heap.get?_push_of_some _ e
  refine ⟨(s.heap.push { cls := .type "range", data := .fields #[.int lo t, .int hi u, .int 1 v] }).objs.size, [(s.heap.push { cls := .type "range", data := .fields #[.int lo t, .int hi u, .int 1 v] }).objs.size], _, _, H, rfl,
    I1.kept (t' := tk) fun b o e => Heap.get?_push_of_some _ e, turn_range _ lo (hi - lo).toNat, ?_, fun b hb => ?_, q⟩
  · have e1 : lo + ((0 : Nat) : Int) * 1 = lo := by simp
    have e2 : (((hi - lo).toNat : Nat) : Int) - ((0 : Nat) : Int) = Builtin.Range.rangeSize lo hi 1 := by rw [rangeSize_one]; split <;> omega
    show IsRangeIter _ _ (lo + ((0 : Nat) : Int) * 1) ((((hi - lo).toNat : Nat) : Int) - ((0 : Nat) : Int)) 1
    rw [e1, e2]
    exact Heap.get?_push_size _ rfl
  · have e : b = (s.heap.push { cls := .type "range", data := .fields #[.int lo t, .int hi u, .int 1 v] }).objs.size := by simpa using hb
    subst e
    exact I1.fpOk (Nat.le_refl _) (I1.hok.fresh (Nat.le_refl _))
def iRng1 (ta : TA) : TI := fun σ H R => ta σ H fun vs H1 => ∃ j : Int, vs = [.int j] ∧ -(2 ^ 62) ≤ j ∧ j < 2 ^ 62 ∧ R (Itr 0 j.toNat) H1
theorem pi_range1 {a : Expr} {ta : TA} {p pos : Pos} (hg : Gl X "range") (hm : X.mg "range" = none) (ha : PA X [a] ta) (hs : starEach [a] X.env = [(false, eval a X.env)] := by rfl) : PI X tg (.Call (.Name "range" p) [a] [] pos) (iRng1 ta) := by
  intro pins s σ H R I h
  refine Call_ (ld_blt I hg hm boot_range (PyProof.Rows.callWith_type1 (thn (ha pos pins s σ H _ I h) fun us s1 ⟨vs, H1, I1, r1, q1⟩ => ?_) hs rfl))
  obtain ⟨j, e, q1, q2, q⟩ := q1
  subst e
  cases r1 with
  | cons r rr =>
    cases rr
    obtain ⟨t, rfl⟩ := r
    exact call_range_1 (range_it I1 (by omega) (by omega) q1 q2 (by simpa using q))
/-! ### for -/
/-- W: the invariant by the turn and a measure; N: what the body is to reach -/
def tFor (wi : TI) (g : TG) (tb : TS) : TS := fun D σ H => wi σ H fun J H1 => ∃ W : Nat → Nat → St → Hp → Prop, (∃ m, W 0 m σ H1) ∧ ∀ i m σ H, W i m σ H →
  (J.stop i H ∧ D.nx σ H) ∨ (J.go i H ∧ ∃ N : St → Hp → Prop, (∀ σ' H', N σ' H' → ∃ m', m' < m ∧ W (i + 1) m' σ' H') ∧ ∀ x H', J.yld i H x H' → g x σ H' fun σ2 H2 => tb { D with nx := N, ct := N, bk := D.nx } σ2 H2)
/-- the records at fp as they stand -/
def pinsAt (fp : List Addr) (h : Heap) : List (Addr × Obj) := fp.filterMap fun b => (h.get? b).map fun o => (b, o)
theorem mem_pinsAt {fp : List Addr} {h : Heap} {b : Addr} {o : Obj} (hb : b ∈ fp) (e : h.get? b = some o) : (b, o) ∈ pinsAt fp h := List.mem_filterMap.mpr ⟨b, hb, by rw [e]; rfl⟩
theorem of_pinsAt {fp : List Addr} {h : Heap} {p : Addr × Obj} (hp : p ∈ pinsAt fp h) : p.1 ∈ fp ∧ h.get? p.1 = some p.2 := by
  obtain ⟨b, hb, e⟩ := List.mem_filterMap.mp hp
  cases q : h.get? b with
  | none => rw [q] at e; cases e
  | some o =>
    rw [q] at e
    have e' : (b, o) = p := Option.some.inj e
    subst e'
    exact ⟨hb, q⟩
theorem Inv.pinned {pins : List (Addr × Obj)} {σ : St} {H : Hp} {s : Shared} {fp : List Addr} (I : Inv X pins σ H s) (hf : ∀ b ∈ fp, FpOk X pins H b) (ho : ∀ b ∈ fp, ∃ o, s.heap.get? b = some o ∧ ∀ v, o.data ≠ .cell v) : Inv X (pins ++ pinsAt fp s.heap) σ H s :=
  I.pins_of fun p hp => (List.mem_append.mp hp).elim (fun z => I.pin p (List.mem_append_right _ z)) fun z => by
    obtain ⟨hb, e⟩ := of_pinsAt z
    obtain ⟨f0, f1, f2, _⟩ := hf p.1 hb
    obtain ⟨o, e', d⟩ := ho p.1 hb
    rw [e] at e'; cases e'
    exact ⟨e, f0, f1, f2, d⟩
theorem Inv.unpinned {pins pl : List (Addr × Obj)} {σ : St} {H : Hp} {s : Shared} (I : Inv X (pins ++ pl) σ H s) : Inv X pins σ H s := I.pins_of fun p hp => I.pin p (List.mem_append_right _ (List.mem_append_left _ hp))
theorem ps_for {iter : Expr} {body : List Stmt} {wi : TI} {g : TG} {tb : TS} {pos : Pos} (hp : PassesOwn (model X.prog X.w) X.A X.env X.xe) (hc : X.calm = true) (hi : PI X tg iter wi) (hg : PG X tg g) (hb : PSs X body tb)
    (hs : ∀ x, foldedSetIterable iter X.env x = pure x := by intro _; rfl) : PS X (.For tg iter body [] pos) (tFor wi g tb) := by
  intro pins s σ H D I h
  refine wpAny_For (thn (hi pins s σ H _ I h) fun v s1 h1 => thn h1 fun itv s2 h2 => ?_) hs
  obtain ⟨it, fp, tn, J, H2, e, I2, T, st2, f2, W, ⟨m0, w0⟩, turn⟩ := h2
  subst e
  -- what stays true of the iterator's objects through the loop
  have stat : ∀ {H' : Hp}, (∀ b ∈ fp, H' b = none) → ∀ b ∈ fp, FpOk X pins H' b := fun hn b hb => ⟨hn b hb, (f2 b hb).2⟩
  refine codeAny_forLoop_any (fun n s' => ∃ i σ' H', Inv X pins σ' H' s' ∧ tn i s'.heap ∧ (∀ b ∈ fp, H' b = none) ∧ W i n σ' H') ?_ m0 ⟨0, σ, H2, I2, st2, fun b hb => (f2 b hb).1, w0⟩
  rintro n s3 ⟨i, σ3, H3, I3, st3, fr3, w3⟩
  rcases turn i n σ3 H3 w3 with ⟨stop, qn⟩ | ⟨go, N, hN, step⟩
  · refine wpAny_passesOwn hp (thn (T.done X rfl rfl rfl hc i pins s3 σ3 H3 X.xe I3 (stat fr3) st3 stop) fun r s4 ⟨hr, I4⟩ => ?_)
    subst hr
    exact wpAny_execs_nil ⟨σ3, H3, I4, qn⟩
  · refine wpAny_passesOwn hp (thn (T.item X rfl rfl rfl hc i pins s3 σ3 H3 X.xe I3 (stat fr3) st3 go) fun r s4 ⟨u, hr, h4⟩ => ?_)
    subst hr
    refine wpAny_passesOwn hp (thn h4 fun _ s5 ⟨x, H5, I5, r5, y5, st5, fr5⟩ => ?_)
    have I5' := I5.pinned (stat fr5) (T.obj _ _ st5)
    refine wpAny_passesOwn hp (thn (hg _ s5 σ3 H5 x u _ I5' r5 (step x H5 y5)) fun _ s6 ⟨σ6, H6, I6, q6⟩ => ?_)
    refine wpAny_passesOwn hp (thn (hb _ s6 σ6 H6 _ I6 q6) fun f s7 q7 => ?_)
    have again : ∀ {σ7 : St} {H7 : Hp}, Inv X (pins ++ pinsAt fp s5.heap) σ7 H7 s7 → N σ7 H7 → ∃ m, m < n ∧ ∃ i σ' H', Inv X pins σ' H' s7 ∧ tn i s7.heap ∧ (∀ b ∈ fp, H' b = none) ∧ W i m σ' H' := fun {σ7 H7} I7 n7 => by
      obtain ⟨m', hm, w7⟩ := hN σ7 H7 n7
      refine ⟨m', hm, i + 1, σ7, H7, I7.unpinned, T.keep _ _ _ st5 fun b hb o e => (I7.pin (b, o) (List.mem_append_right _ (List.mem_append_right _ (mem_pinsAt hb e)))).1, fun b hb => ?_, w7⟩
      obtain ⟨o, e, d⟩ := T.obj _ _ st5 b hb
      exact (I7.pin (b, o) (List.mem_append_right _ (List.mem_append_right _ (mem_pinsAt hb e)))).2.1
    cases f with
    | next => obtain ⟨σ7, H7, I7, n7⟩ := q7; exact again I7 n7
    | cont => obtain ⟨σ7, H7, I7, n7⟩ := q7; exact again I7 n7
    | brk => obtain ⟨σ7, H7, I7, q7⟩ := q7; exact ⟨σ7, H7, I7.unpinned, q7⟩
    | ret v => obtain ⟨x7, σ7, H7, I7, r7, q7⟩ := q7; exact ⟨x7, σ7, H7, I7.unpinned, r7, q7⟩
end

/-! ### the forms one uses -/
/-- over a list that the body leaves as it is -/
theorem for_list {K : PySem.W.Frag} {a : Addr} {xs : List V} {g : TG} {tb : TS} {D : Ends} {σ : St} {H : Hp} (Pv : Nat → St → Hp → Prop) (h0 : Pv 0 σ H) (hl : ∀ i σ H, i ≤ xs.length → Pv i σ H → SqL K H a xs)
    (hs : ∀ i x σ H, xs[i]? = some x → Pv i σ H → g x σ H fun σ2 H2 => tb { D with nx := Pv (i + 1), ct := Pv (i + 1), bk := D.nx } σ2 H2) (hd : ∀ σ H, Pv xs.length σ H → D.nx σ H) :
    ∃ W : Nat → Nat → St → Hp → Prop, (∃ m, W 0 m σ H) ∧ ∀ i m σ H, W i m σ H →
      ((Itl K a).stop i H ∧ D.nx σ H) ∨ ((Itl K a).go i H ∧ ∃ N : St → Hp → Prop, (∀ σ' H', N σ' H' → ∃ m', m' < m ∧ W (i + 1) m' σ' H') ∧ ∀ x H', (Itl K a).yld i H x H' → g x σ H' fun σ2 H2 => tb { D with nx := N, ct := N, bk := D.nx } σ2 H2) := by
  refine ⟨fun i m σ H => m = xs.length - i ∧ i ≤ xs.length ∧ Pv i σ H, ⟨xs.length, by simp, Nat.zero_le _, h0⟩, ?_⟩
  rintro i m σ H ⟨rfl, hi, p⟩
  have q := hl i σ H hi p
  by_cases hlt : i < xs.length
  · refine .inr ⟨⟨xs, xs[i], q, by simp [hlt]⟩, Pv (i + 1), fun σ' H' p' => ⟨xs.length - (i + 1), by omega, rfl, hlt, p'⟩, fun x H' y => ?_⟩
    obtain ⟨e, y⟩ := y
    subst e
    exact hs i x σ _ (y xs q) p
  · have e : i = xs.length := by omega
    subst e
    exact .inl ⟨⟨xs, q, Nat.le_refl _⟩, hd σ H p⟩
theorem for_tup {K : PySem.W.Frag} {a : Addr} {xs : List V} {g : TG} {tb : TS} {D : Ends} {σ : St} {H : Hp} (Pv : Nat → St → Hp → Prop) (h0 : Pv 0 σ H) (hl : ∀ i σ H, i ≤ xs.length → Pv i σ H → SqT K H a xs)
    (hs : ∀ i x σ H, xs[i]? = some x → Pv i σ H → g x σ H fun σ2 H2 => tb { D with nx := Pv (i + 1), ct := Pv (i + 1), bk := D.nx } σ2 H2) (hd : ∀ σ H, Pv xs.length σ H → D.nx σ H) :
    ∃ W : Nat → Nat → St → Hp → Prop, (∃ m, W 0 m σ H) ∧ ∀ i m σ H, W i m σ H →
      ((Itt K a).stop i H ∧ D.nx σ H) ∨ ((Itt K a).go i H ∧ ∃ N : St → Hp → Prop, (∀ σ' H', N σ' H' → ∃ m', m' < m ∧ W (i + 1) m' σ' H') ∧ ∀ x H', (Itt K a).yld i H x H' → g x σ H' fun σ2 H2 => tb { D with nx := N, ct := N, bk := D.nx } σ2 H2) := by
  refine ⟨fun i m σ H => m = xs.length - i ∧ i ≤ xs.length ∧ Pv i σ H, ⟨xs.length, by simp, Nat.zero_le _, h0⟩, ?_⟩
  rintro i m σ H ⟨rfl, hi, p⟩
  have q := hl i σ H hi p
  by_cases hlt : i < xs.length
  · refine .inr ⟨⟨xs, xs[i], q, by simp [hlt]⟩, Pv (i + 1), fun σ' H' p' => ⟨xs.length - (i + 1), by omega, rfl, hlt, p'⟩, fun x H' y => ?_⟩
    obtain ⟨e, y⟩ := y
    subst e
    exact hs i x σ _ (y xs q) p
  · have e : i = xs.length := by omega
    subst e
    exact .inl ⟨⟨xs, q, Nat.le_refl _⟩, hd σ H p⟩
theorem for_range {lo : Int} {n : Nat} {g : TG} {tb : TS} {D : Ends} {σ : St} {H : Hp} (Pv : Nat → St → Hp → Prop) (h0 : Pv 0 σ H)
    (hs : ∀ i σ H, i < n → Pv i σ H → g (.int (lo + i)) σ H fun σ2 H2 => tb { D with nx := Pv (i + 1), ct := Pv (i + 1), bk := D.nx } σ2 H2) (hd : ∀ σ H, Pv n σ H → D.nx σ H) :
    ∃ W : Nat → Nat → St → Hp → Prop, (∃ m, W 0 m σ H) ∧ ∀ i m σ H, W i m σ H →
      ((Itr lo n).stop i H ∧ D.nx σ H) ∨ ((Itr lo n).go i H ∧ ∃ N : St → Hp → Prop, (∀ σ' H', N σ' H' → ∃ m', m' < m ∧ W (i + 1) m' σ' H') ∧ ∀ x H', (Itr lo n).yld i H x H' → g x σ H' fun σ2 H2 => tb { D with nx := N, ct := N, bk := D.nx } σ2 H2) := by
  refine ⟨fun i m σ H => m = n - i ∧ i ≤ n ∧ Pv i σ H, ⟨n, by simp, Nat.zero_le _, h0⟩, ?_⟩
  rintro i m σ H ⟨rfl, hi, p⟩
  by_cases hlt : i < n
  · refine .inr ⟨hlt, Pv (i + 1), fun σ' H' p' => ⟨n - (i + 1), by omega, rfl, hlt, p'⟩, fun x H' y => ?_⟩
    obtain ⟨e, y⟩ := y
    subst e y
    exact hs i σ _ hlt p
  · have e : i = n := by omega
    subst e
    exact .inl ⟨Nat.le_refl _, hd σ H p⟩
end L2

namespace L2
open PySem PySem.Spec PyProof.Rows

abbrev R2 := V → V → Hp → VK → Prop
/-- a two-place operation on values: f is binaryOp op, inplaceOp op or compareOp op -/
def OpR (X : Cx) (f : Value → Value → Sem Value) (r : R2) : Prop :=
  ∀ (pins : List (Addr × Obj)) (s : Shared) (σ : St) (H : Hp) (x y : V) (v u : Value) (Q : VK), Inv X pins σ H s → RelV x v → RelV y u → r x y H Q →
    wpAny (model X.prog X.w) X.A (f v u) (EP X pins σ Q) X.xe s
/-- a one-place operation -/
def UnR (X : Cx) (f : Value → Sem Value) (r : V → Hp → VK → Prop) : Prop :=
  ∀ (pins : List (Addr × Obj)) (s : Shared) (σ : St) (H : Hp) (x : V) (v : Value) (Q : VK), Inv X pins σ H s → RelV x v → r x H Q →
    wpAny (model X.prog X.w) X.A (f v) (EP X pins σ Q) X.xe s
/-- a call of a value that is known (a builtin, a type) with values -/
def CallR (X : Cx) (f : Value) (r : List V → Hp → VK → Prop) : Prop :=
  ∀ (pins : List (Addr × Obj)) (s : Shared) (σ : St) (H : Hp) (xs : List V) (us : List Value) (Q : VK), Inv X pins σ H s → Vals xs us → r xs H Q →
    wpAny (model X.prog X.w) X.A (call f us) (EP X pins σ Q) X.xe s
def tOp (r : R2) (ta tb : TE) : TE := fun σ H Q => ta σ H fun x H1 => tb σ H1 fun y H2 => r x y H2 Q
def tUn (r : V → Hp → VK → Prop) (ta : TE) : TE := fun σ H Q => ta σ H fun x H1 => r x H1 Q
/-- ints in, under C, and a value out -/
def rI (C : Int → Int → Prop) (g : Int → Int → V) : R2 := fun x y H Q => ∃ i j, x = .int i ∧ y = .int j ∧ C i j ∧ Q (g i j) H
def rI0 (g : Int → Int → V) : R2 := fun x y H Q => ∃ i j, x = .int i ∧ y = .int j ∧ Q (g i j) H
def rU (g : Int → V) : V → Hp → VK → Prop := fun x H Q => ∃ i, x = .int i ∧ Q (g i) H

section
variable {X : Cx} {a b c : Expr} {ta tb tc : TE} {pos : Pos}

theorem binT (ha : PE X a ta) (hb : PE X b tb) {pins : List (Addr × Obj)} {s : Shared} {σ : St} {H : Hp} {R : V → V → Hp → Prop} (I : Inv X pins σ H s)
    (h : ta σ H fun x H1 => tb σ H1 fun y H2 => R x y H2) {Q : Value → Shared → Prop} {f : Value → Value → Sem Value}
    (hf : ∀ v u s2 x y H2, Inv X pins σ H2 s2 → RelV x v → RelV y u → R x y H2 → wpAny (model X.prog X.w) X.A (f v u) Q X.xe s2) :
    wpAny (model X.prog X.w) X.A (eval a X.env) (fun v s₁ => wpAny (model X.prog X.w) X.A (eval b X.env) (fun u s₂ => wpAny (model X.prog X.w) X.A (f v u) Q X.xe s₂) X.xe s₁) X.xe s := by
  refine thn (ha pins s σ H _ I h) fun v s1 ⟨x, H1, I1, r1, q1⟩ => ?_
  refine thn (hb pins s1 σ H1 _ I1 q1) fun u s2 ⟨y, H2, I2, r2, q2⟩ => ?_
  exact hf v u s2 x y H2 I2 r1 r2 q2

theorem pe_op {op : Operator} {r : R2} (ho : OpR X (binaryOp op) r) (ha : PE X a ta) (hb : PE X b tb) : PE X (.BinOp a op b pos) (tOp r ta tb) := by
  intro pins s σ H Q I h
  exact wpAny_BinOp (binT ha hb I h fun v u s2 x y H2 I2 rx ry q => ho pins s2 σ H2 x y v u Q I2 rx ry q)
theorem pe_un {op : UnaryOp} {r : V → Hp → VK → Prop} (ho : UnR X (unaryOp op) r) (ha : PE X a ta) : PE X (.UnaryOp op a pos) (tUn r ta) := by
  intro pins s σ H Q I h
  exact UnaryOp_ (thn (ha pins s σ H _ I h) fun v s1 ⟨x, H1, I1, r1, q1⟩ => ho pins s1 σ H1 x v Q I1 r1 q1)
/-! ### ints -/
theorem opI {f : Value → Value → Sem Value} {C : Int → Int → Prop} {g : Int → Int → Int}
    (rule : ∀ (i j : Int) (t u : Tok) (s : Shared) (Q : Value → Shared → Prop) (E : Value → Shared → Prop), C i j → Q (.int (g i j) s.toks) { s with toks := s.toks + 1 } → wpAny (model X.prog X.w) X.A (f (.int i t) (.int j u)) Q E s) :
    OpR X f (rI C fun i j => .int (g i j)) := by
  intro pins s σ H x y v u Q I rx ry h
  obtain ⟨i, j, rfl, rfl, hc, q⟩ := h
  obtain ⟨t, rfl⟩ := rx
  obtain ⟨t', rfl⟩ := ry
  exact rule i j t t' s _ _ hc ⟨.int (g i j), H, I.tok _, ⟨_, rfl⟩, q⟩
theorem opI0 {f : Value → Value → Sem Value} {g : Int → Int → Int}
    (rule : ∀ (i j : Int) (t u : Tok) (s : Shared) (Q : Value → Shared → Prop) (E : Value → Shared → Prop), Q (.int (g i j) s.toks) { s with toks := s.toks + 1 } → wpAny (model X.prog X.w) X.A (f (.int i t) (.int j u)) Q E s) :
    OpR X f (rI0 fun i j => .int (g i j)) := by
  intro pins s σ H x y v u Q I rx ry h
  obtain ⟨i, j, rfl, rfl, q⟩ := h
  obtain ⟨t, rfl⟩ := rx
  obtain ⟨t', rfl⟩ := ry
  exact rule i j t t' s _ _ ⟨.int (g i j), H, I.tok _, ⟨_, rfl⟩, q⟩
theorem opB0 {f : Value → Value → Sem Value} {g : Int → Int → Bool}
    (rule : ∀ (i j : Int) (t u : Tok) (s : Shared) (Q : Value → Shared → Prop) (E : Value → Shared → Prop), Q (.bool (g i j)) s → wpAny (model X.prog X.w) X.A (f (.int i t) (.int j u)) Q E s) :
    OpR X f (rI0 fun i j => .bl (g i j)) := by
  intro pins s σ H x y v u Q I rx ry h
  obtain ⟨i, j, rfl, rfl, q⟩ := h
  obtain ⟨t, rfl⟩ := rx
  obtain ⟨t', rfl⟩ := ry
  exact rule i j t t' s _ _ ⟨.bl (g i j), H, I, rfl, q⟩

def CMul (i j : Int) : Prop := (-(2 ^ 64) < i ∧ i < 2 ^ 64) ∨ (-(2 ^ 64) < j ∧ j < 2 ^ 64)
theorem CMul.ok {i j : Int} (h : CMul i j) : IntMulOk i j := by
  rcases h with ⟨h1, h2⟩ | ⟨h1, h2⟩
  · exact .of_left (intBits_le_64 h1 h2)
  · exact .of_right (intBits_le_64 h1 h2)
theorem op_add : OpR X (binaryOp .Add) (rI0 fun i j => .int (i + j)) := opI0 fun _ _ _ _ _ _ _ q => add_int q
theorem op_sub : OpR X (binaryOp .Sub) (rI0 fun i j => .int (i - j)) := opI0 fun _ _ _ _ _ _ _ q => sub_int q
theorem op_mul : OpR X (binaryOp .Mult) (rI CMul fun i j => .int (i * j)) := opI fun _ _ _ _ _ _ _ hc q => mul_int q hc.ok
/-- % by a positive divisor of any size -/
theorem op_mod : OpR X (binaryOp .Mod) (rI (fun _ j => 0 < j) fun i j => .int (i % j)) := opI fun i j _ _ _ _ _ hc q => by
  have h1 : (0 : Int) < j := hc
  exact mod_int' (by omega) (by rw [Int.fmod_eq_emod_of_nonneg i (by omega)]; exact q)
theorem unI {f : Value → Sem Value} {g : Int → Int}
    (rule : ∀ (i : Int) (t : Tok) (s : Shared) (Q : Value → Shared → Prop) (E : Value → Shared → Prop), Q (.int (g i) s.toks) { s with toks := s.toks + 1 } → wpAny (model X.prog X.w) X.A (f (.int i t)) Q E s) :
    UnR X f (rU fun i => .int (g i)) := by
  intro pins s σ H x v Q I rx h
  obtain ⟨i, rfl, q⟩ := h
  obtain ⟨t, rfl⟩ := rx
  exact rule i t s _ _ ⟨.int (g i), H, I.tok _, ⟨_, rfl⟩, q⟩
theorem un_neg : UnR X (unaryOp .USub) (rU fun i => .int (-i)) := unI fun _ _ _ _ _ q => neg_int q
/-! ### bools among ints: n += (a < b) -/
end

/-! ### comparisons -/
/-- the scalars that == tells apart as data does -/
def scal : V → V → Bool
  | .non, .non => true | .non, .int _ => true | .int _, .non => true | .non, .bl _ => true | .bl _, .non => true | .non, .str _ => true | .str _, .non => true
  | .int _, .int _ => true | .bl _, .bl _ => true | .str _, .str _ => true | .byt _, .byt _ => true
  | .int _, .str _ => true | .str _, .int _ => true | .bl _, .str _ => true | .str _, .bl _ => true
  | _, _ => false
def rEq : R2 := fun x y H Q => scal x y = true ∧ Q (.bl (decide (x = y))) H
def rNe : R2 := fun x y H Q => scal x y = true ∧ Q (.bl (!decide (x = y))) H

theorem dec_int {i j : Int} : decide (V.int i = V.int j) = (i == j) := by
  rw [Bool.eq_iff_iff]
  simp
theorem dec_bl {i j : Bool} : decide (V.bl i = V.bl j) = (i == j) := by
  rw [Bool.eq_iff_iff]
  simp
theorem dec_str {i j : Str} : decide (V.str i = V.str j) = (i == j) := by
  rw [Bool.eq_iff_iff]
  simp
theorem dec_byt {i j : Array UInt8} : decide (V.byt i = V.byt j) = (i.toList == j.toList) := by
  rw [Bool.eq_iff_iff]
  cases i
  cases j
  simp

section
variable {X : Cx} {a b c : Expr} {ta tb tc : TE} {pos : Pos}
theorem fin_bl {pins : List (Addr × Obj)} {σ : St} {H : Hp} {s : Shared} {Q : VK} {k k' : Bool} (I : Inv X pins σ H s) (q : Q (.bl k) H) (e : k = k') : EP X pins σ Q (.bool k') s := by
  subst e
  exact ⟨.bl k, H, I, rfl, q⟩
theorem op_eq : OpR X (compareOp .Eq) rEq := by
  intro pins s σ H x y v u Q I rx ry h
  obtain ⟨hs, q⟩ := h
  cases x with
  | non =>
    cases rx
    cases y with
    | non => cases ry; exact PySem.EqNone.eq_none_none (fin_bl I q (by simp))
    | bl j => cases ry; exact PySem.EqNone.eq_none_bool (fin_bl I q (by simp))
    | int j => obtain ⟨t', rfl⟩ := ry; exact PySem.EqNone.eq_none_int (fin_bl I q (by simp))
    | str j => obtain ⟨t', rfl⟩ := ry; exact PySem.EqNone.eq_none_str (fin_bl I q (by simp))
    | _ => exact absurd (show false = true from hs) Bool.false_ne_true
  | bl i =>
    cases rx
    cases y with
    | non => cases ry; exact PySem.EqNone.eq_bool_none (fin_bl I q (by simp))
    | bl j => cases ry; exact eq_bool (fin_bl I q dec_bl)
    | str j => obtain ⟨t', rfl⟩ := ry; exact PySem.EqMixed.eq_bool_str (fin_bl I q (by simp))
    | _ => exact absurd (show false = true from hs) Bool.false_ne_true
  | int i =>
    obtain ⟨t, rfl⟩ := rx
    cases y with
    | non => cases ry; exact PySem.EqNone.eq_int_none (fin_bl I q (by simp))
    | int j => obtain ⟨t', rfl⟩ := ry; exact eq_int (fin_bl I q dec_int)
    | str j => obtain ⟨t', rfl⟩ := ry; exact PySem.EqMixed.eq_int_str (fin_bl I q (by simp))
    | _ => exact absurd (show false = true from hs) Bool.false_ne_true
  | str i =>
    obtain ⟨t, rfl⟩ := rx
    cases y with
    | non => cases ry; exact PySem.EqNone.eq_str_none (fin_bl I q (by simp))
    | bl j => cases ry; exact PySem.EqMixed.eq_str_bool (fin_bl I q (by simp))
    | int j => obtain ⟨t', rfl⟩ := ry; exact PySem.EqMixed.eq_str_int (fin_bl I q (by simp))
    | str j => obtain ⟨t', rfl⟩ := ry; exact eq_str (fin_bl I q dec_str)
    | _ => exact absurd (show false = true from hs) Bool.false_ne_true
  | byt i =>
    obtain ⟨t, rfl⟩ := rx
    cases y with
    | byt j => obtain ⟨t', rfl⟩ := ry; exact PySem.W.eq_bytes (fin_bl I q dec_byt)
    | _ => exact absurd (show false = true from hs) Bool.false_ne_true
  | _ => cases y <;> exact absurd (show false = true from hs) Bool.false_ne_true
theorem op_ne : OpR X (compareOp .NotEq) rNe := by
  intro pins s σ H x y v u Q I rx ry h
  obtain ⟨hs, q⟩ := h
  cases x with
  | non =>
    cases rx
    cases y with
    | non => cases ry; exact PySem.EqNone.ne_none_none (fin_bl I q (by simp))
    | bl j => cases ry; exact PySem.EqNone.ne_none_bool (fin_bl I q (by simp))
    | int j => obtain ⟨t', rfl⟩ := ry; exact PySem.EqNone.ne_none_int (fin_bl I q (by simp))
    | str j => obtain ⟨t', rfl⟩ := ry; exact PySem.EqNone.ne_none_str (fin_bl I q (by simp))
    | _ => exact absurd (show false = true from hs) Bool.false_ne_true
  | bl i =>
    cases rx
    cases y with
    | non => cases ry; exact PySem.EqNone.ne_bool_none (fin_bl I q (by simp))
    | bl j => cases ry; exact ne_bool (fin_bl I q (congrArg not dec_bl))
    | str j => obtain ⟨t', rfl⟩ := ry; exact PySem.EqMixed.ne_bool_str (fin_bl I q (by simp))
    | _ => exact absurd (show false = true from hs) Bool.false_ne_true
  | int i =>
    obtain ⟨t, rfl⟩ := rx
    cases y with
    | non => cases ry; exact PySem.EqNone.ne_int_none (fin_bl I q (by simp))
    | int j => obtain ⟨t', rfl⟩ := ry; exact ne_int (fin_bl I q (congrArg not dec_int))
    | str j => obtain ⟨t', rfl⟩ := ry; exact PySem.EqMixed.ne_int_str (fin_bl I q (by simp))
    | _ => exact absurd (show false = true from hs) Bool.false_ne_true
  | str i =>
    obtain ⟨t, rfl⟩ := rx
    cases y with
    | non => cases ry; exact PySem.EqNone.ne_str_none (fin_bl I q (by simp))
    | bl j => cases ry; exact PySem.EqMixed.ne_str_bool (fin_bl I q (by simp))
    | int j => obtain ⟨t', rfl⟩ := ry; exact PySem.EqMixed.ne_str_int (fin_bl I q (by simp))
    | str j => obtain ⟨t', rfl⟩ := ry; exact ne_str (fin_bl I q (congrArg not dec_str))
    | _ => exact absurd (show false = true from hs) Bool.false_ne_true
  | byt i =>
    obtain ⟨t, rfl⟩ := rx
    cases y with
    | byt j => obtain ⟨t', rfl⟩ := ry; exact PySem.W.ne_bytes (fin_bl I q (congrArg not dec_byt))
    | _ => exact absurd (show false = true from hs) Bool.false_ne_true
  | _ => cases y <;> exact absurd (show false = true from hs) Bool.false_ne_true

theorem op_lt : OpR X (compareOp .Lt) (rI0 fun i j => .bl (decide (i < j))) := opB0 fun _ _ _ _ _ _ _ q => lt_int q
theorem op_le : OpR X (compareOp .LtE) (rI0 fun i j => .bl (decide (i ≤ j))) := opB0 fun _ _ _ _ _ _ _ q => le_int q
theorem op_gt : OpR X (compareOp .Gt) (rI0 fun i j => .bl (decide (j < i))) := opB0 fun _ _ _ _ _ _ _ q => gt_int q
theorem nomark (b : Expr) {op : CmpOp} (h : op ≠ .In := by decide) (h2 : op ≠ .NotIn := by decide) : behindInMarks op b = false := by
  have e1 : (op == CmpOp.In) = false := by cases op <;> first | rfl | exact absurd rfl h
  have e2 : (op == CmpOp.NotIn) = false := by cases op <;> first | rfl | exact absurd rfl h2
  cases b <;> simp [behindInMarks, e1, e2]
/-- a comparison as a value; hm: nomark b, or (for in, not in) by with_unfolding_all rfl -/
theorem pe_cmpR {op : CmpOp} {r : R2} (ho : OpR X (compareOp op) r) (ha : PE X a ta) (hb : PE X b tb) (hm : behindInMarks op b = false) : PE X (.Compare a [op] [b] pos) (tOp r ta tb) := by
  intro pins s σ H Q I h
  exact wpAny_Compare1 (binT ha hb I h fun v u s2 x y H2 I2 rx ry q => ho pins s2 σ H2 x y v u Q I2 rx ry q) hm
/-- a reading of a value as a test -/
def tTest (t : TE) : TT := fun σ H Q => t σ H fun x H' => ∃ k, x = .bl k ∧ Q k H'
theorem pt_cmpR {op : CmpOp} {r : R2} (ho : OpR X (compareOp op) r) (ha : PE X a ta) (hb : PE X b tb) (hm : behindInMarks op b = false) : PT X (.Compare a [op] [b] pos) (tTest (tOp r ta tb)) := by
  intro pins s σ H Q I h
  refine wpAny_isTrue_Compare1 (thn (ha pins s σ H _ I h) fun v s1 ⟨x, H1, I1, r1, q1⟩ => thn (hb pins s1 σ H1 _ I1 q1) fun u s2 ⟨y, H2, I2, r2, q2⟩ =>
    thn (ho pins s2 σ H2 x y v u _ I2 r1 r2 q2) fun c s3 ⟨z, H3, I3, r3, k, e, q3⟩ => ?_) hm
  subst e
  cases r3
  exact wpAny_truthy_bool ⟨H3, I3, q3⟩
/-- a op1 b op2 c -/
def tChain (r r' : R2) (ta tb tc : TE) : TE := fun σ H Q => ta σ H fun x H1 => tb σ H1 fun y H2 => r x y H2 fun z H3 => ∃ k, z = .bl k ∧
  (if k = true then tc σ H3 fun w' H4 => r' y w' H4 Q else Q (.bl false) H3)
theorem pe_chain {op op' : CmpOp} {r r' : R2} (ho : OpR X (compareOp op) r) (ho' : OpR X (compareOp op') r') (ha : PE X a ta) (hb : PE X b tb) (hc : PE X c tc)
    (hm : lastMarks [op, op'] [b, c] = false := by with_unfolding_all rfl) : PE X (.Compare a [op, op'] [b, c] pos) (tChain r r' ta tb tc) := by
  intro pins s σ H Q I h
  refine Compare_chain (thn (ha pins s σ H _ I h) fun v s1 ⟨x, H1, I1, r1, q1⟩ => chain_link (thn (hb pins s1 σ H1 _ I1 q1) fun u s2 ⟨y, H2, I2, r2, q2⟩ =>
    thn (ho pins s2 σ H2 x y v u _ I2 r1 r2 q2) fun d s3 ⟨z, H3, I3, r3, k, e, q3⟩ => ?_)) hm
  subst e
  cases r3
  refine wpAny_truthy_bool ?_
  cases k with
  | false => exact ite_ff ⟨.bl false, H3, I3, rfl, q3⟩
  | true => exact ite_tt (chain_last (thn (hc pins s3 σ H3 _ I3 q3) fun w' s4 ⟨z', H4, I4, r4, q4⟩ => ho' pins s4 σ H4 y z' u w' Q I4 r2 r4 q4))
theorem pt_chain {op op' : CmpOp} {r r' : R2} (ho : OpR X (compareOp op) r) (ho' : OpR X (compareOp op') r') (ha : PE X a ta) (hb : PE X b tb) (hc : PE X c tc)
    (hm : lastMarks [op, op'] [b, c] = false := by with_unfolding_all rfl) : PT X (.Compare a [op, op'] [b, c] pos) (tTest (tChain r r' ta tb tc)) := by
  intro pins s σ H Q I h
  refine isTrue_chain (thn (ha pins s σ H _ I h) fun v s1 ⟨x, H1, I1, r1, q1⟩ => test_link (thn (hb pins s1 σ H1 _ I1 q1) fun u s2 ⟨y, H2, I2, r2, q2⟩ =>
    thn (ho pins s2 σ H2 x y v u _ I2 r1 r2 q2) fun d s3 ⟨z, H3, I3, r3, k, e, q3⟩ => ?_)) hm
  subst e
  cases r3
  refine wpAny_truthy_bool ?_
  cases k with
  | false =>
    obtain ⟨k', e', q'⟩ := q3
    cases e'
    exact ite_ff ⟨H3, I3, q'⟩
  | true =>
    refine ite_tt (test_last (thn (hc pins s3 σ H3 _ I3 q3) fun w' s4 ⟨z', H4, I4, r4, q4⟩ => thn (ho' pins s4 σ H4 y z' u w' _ I4 r2 r4 q4) fun d' s5 ⟨z2, H5, I5, r5, k2, e2, q5⟩ => ?_))
    subst e2
    cases r5
    exact wpAny_truthy_bool ⟨H5, I5, q5⟩

/-! ### truth -/
theorem line63 : (sizeLine : Nat) < 2 ^ 63 := by rw [sizeLine_eq]; decide
/-! ### strs and bytes -/
/-! ### scalar builtins, by CallR -/
theorem vals1 {x : V} {us : List Value} (r : Vals [x] us) : ∃ u, us = [u] ∧ RelV x u := by
  cases r with
  | cons r1 r2 => cases r2; exact ⟨_, rfl, r1⟩
theorem vals2 {x y : V} {us : List Value} (r : Vals [x, y] us) : ∃ u w', us = [u, w'] ∧ RelV x u ∧ RelV y w' := by
  cases r with
  | cons r1 r2 =>
    cases r2 with
    | cons r3 r4 => cases r4; exact ⟨_, _, rfl, r1, r3⟩
theorem call_max2 (hc : X.calm = true) : CallR X (.builtin "max") (fun xs H Q => ∃ i j, xs = [.int i, .int j] ∧ Q (.int (if j > i then j else i)) H) := by
  intro pins s σ H xs us Q I r h
  obtain ⟨i, j, rfl, q⟩ := h
  obtain ⟨u, w', rfl, ⟨t, rfl⟩, ⟨t', rfl⟩⟩ := vals2 r
  refine max_two_ints (I.ok.hd hc) fun h' tk k => ⟨_, H, I.kept k, ?_, q⟩
  by_cases hj : j > i
  · rw [if_pos hj, if_pos hj]; exact ⟨_, rfl⟩
  · rw [if_neg hj, if_neg hj]; exact ⟨_, rfl⟩
theorem call_min2 (hc : X.calm = true) : CallR X (.builtin "min") (fun xs H Q => ∃ i j, xs = [.int i, .int j] ∧ Q (.int (if j < i then j else i)) H) := by
  intro pins s σ H xs us Q I r h
  obtain ⟨i, j, rfl, q⟩ := h
  obtain ⟨u, w', rfl, ⟨t, rfl⟩, ⟨t', rfl⟩⟩ := vals2 r
  refine min_two_ints (I.ok.hd hc) fun h' tk k => ⟨_, H, I.kept k, ?_, q⟩
  by_cases hj : j < i
  · rw [if_pos hj, if_pos hj]; exact ⟨_, rfl⟩
  · rw [if_neg hj, if_neg hj]; exact ⟨_, rfl⟩
end
end L2

namespace L2
open PySem PySem.Spec PyProof.Rows

/-! ### an instance, its attributes a map -/
structure ObjM (h : Heap) (x dx C : Addr) (mA : Str → Option Value) : Prop where
  obj : h.get? x = some (PySem.W.instObj C dx)
  ns : h.Ns1 dx mA
  ne : dx ≠ x

theorem lookIn_ns {h : Heap} {dx : Addr} {mA : Str → Option Value} (n : h.Ns1 dx mA) : ∃ od, h.get? dx = some od ∧ ∀ name, PySem.W.lookIn name od = some (mA name) := by
  obtain ⟨o, es, ep, ho, hd, hk, _, hm⟩ := n
  refine ⟨o, ho, fun name => ?_⟩
  have e := hm name
  unfold nsFind findBy at e
  rw [← Array.find?_toList] at e
  unfold PySem.W.lookIn
  rw [hd]
  dsimp only
  split
  · rename_i y q
    rw [q] at e
    exact congrArg some e
  · rename_i q
    rw [q] at e
    have a : es.toList.any (·.refKey) = false := by
      rw [List.any_eq_false]
      intro y hy
      obtain ⟨z, t, hkey⟩ := hk y (Array.mem_toList_iff.mp hy)
      simp [DictEntry.refKey, hkey]
    have a' : ¬ es.toList.any (·.refKey) = true := by rw [a]; exact Bool.false_ne_true
    rw [if_neg a']
    exact congrArg some e

theorem ObjM.look {h : Heap} {x dx C : Addr} {mA : Str → Option Value} (I : ObjM h x dx C mA) : ∃ od, PySem.W.InstAt h x (PySem.W.instObj C dx) C (some od) ∧ ∀ name, PySem.W.lookIn name od = some (mA name) :=
  let ⟨od, ho, hl⟩ := lookIn_ns I.ns
  ⟨od, ⟨I.obj, rfl, rfl, ho⟩, hl⟩

section
variable {prog : Program} {w : World} {A : Around} {E : Value → Shared → Prop} {s : Shared} {K : PySem.W.Frag} {x dx C f : Addr} {mA : Str → Option Value} {name : Str} {v : Value}

theorem get_map {expr : Bool} {Q : Value → Shared → Prop} (X : K.In s.heap) (I : ObjM s.heap x dx C mA) (hg : PySem.W.plainGet K C name = true) (hh : PySem.W.hasDictIn K C = true)
    (ha : PySem.W.findIn K (.ref C) name = some none) (hv : mA name = some v) (hv' : PySem.W.handedIn v = true) (h : Q v { s with toks := s.toks + 1 }) :
    wpAny (model prog w) A (getAttr (.ref x) name expr) Q E s := by
  obtain ⟨od, J, hl⟩ := I.look
  exact PySem.W.get_value X J (PySem.W.plainGet_of hg).1 (PySem.W.findObj_own hh ha rfl (by rw [hl, hv])) hv' h

theorem get_meth {pl : Sem Bool} {Q : Value × List Value → Shared → Prop} (X : K.In s.heap) (I : ObjM s.heap x dx C mA) (hg : PySem.W.plainGet K C name = true)
    (hf : PySem.W.findIn K (.ref C) name = some (some (.ref f))) (ht : PySem.W.isFn K (.ref f) = true) (hv : mA name = none) (h : Q (.ref f, [.ref x]) s) :
    wpAny (model prog w) A (getMethod (.ref x) name pl) Q E s := by
  obtain ⟨od, J, hl⟩ := I.look
  exact PySem.W.method_fn X J (PySem.W.plainGet_of hg).1 (PySem.W.plainGet_of hg).2 hf (beq_iff_eq.mp ht) (by show (PySem.W.lookIn name od).map (·.isSome) = some false; rw [hl, hv]; rfl) h

theorem set_map {ns : List Str} {Q : Unit → Shared → Prop} (X : K.In s.heap) (I : ObjM s.heap x dx C mA)
    (hs : PySem.W.findIn K (.ref C) "__setattr__" = some (some (.builtin "object.__setattr__"))) (hp : PySem.W.plainOver K C = true) (ht : PySem.W.takerIn K C name = some none) (hh : PySem.W.hasDictIn K C = true)
    (hw : PySem.Within mA ns) (hsz : ns.length ≤ sizeLine)
    (h : ∀ h', ObjM h' x dx C (fun y => if y = name then some v else mA y) → Heap.SameBut dx s.heap h' → Q () { s with heap := h', toks := s.toks + 2 }) :
    wpAny (model prog w) A (setAttr (.ref x) name v) Q E s := by
  obtain ⟨od, J, hl⟩ := I.look
  refine PySem.W.set_plain X J hs (PySem.W.osa_open (s := { s with toks := s.toks + 1 }) (r := none) X J hp ht fun b => ?_)
  obtain ⟨cd, hc, hd'⟩ := PySem.W.any_some hh
  have hx : s.heap.get? x = some ⟨.ref C, some dx, .plain, #[]⟩ := I.obj
  refine wpAny_bind (wpAny_pure (wpAny_bind (wpAny_bind (wpAny_loadPart hx (wpAny_bind (PySem.W.Looks.here (s := { s with toks := s.toks + 1 }) (PySem.W.looks_clsIn X hc) ?_))))))
  rw [hd']
  refine wpAny_pure (a := some dx) (wpAny_bind (wpAny_pure (wpAny_bind ?_)))
  refine wpAny_nsSet1 (s := { s with toks := s.toks + 1 }) I.ns fun h' hn2 hs2 => ?_
  obtain ⟨oD, esD, epD, hoD, hdD, hcD⟩ := hn2.count (PySem.Within.cons name v hw)
  refine wpAny_bind (wpAny_lookBehind hoD (by rw [hdD]; exact pastItsLine_dict (Nat.le_trans hcD (by rw [List.length_cons]; omega))) ?_)
  exact wpAny_pure (h _ ⟨(hs2.2 _ (Ne.symm I.ne)).trans I.obj, hn2, I.ne⟩ hs2)

/-- C(..): the dict at the heap's end, the instance behind it; then its __init__ -/
theorem make_map {R : Result → Shared → Prop} {vs : List Value} {kw : List (Str × Value)} (X : K.In s.heap) (hm : PySem.W.makesIn K C = true)
    (hi : PySem.W.findIn K (.ref C) "__init__" = some (some (.ref f))) (hf : PySem.W.typeIn K (.ref f) = some (.type "function"))
    (h : codeAny (model prog w) (A.under (.builtin "type.__call__" ⟨.ref C :: vs, kw⟩)) (.call (.ref f) ⟨.ref (s.heap.objs.size + 1) :: vs, kw⟩) (PySem.W.InitBack (s.heap.objs.size + 1) R)
      { s with heap := (s.heap.push PySem.W.emptyDict).push (PySem.W.instObj C s.heap.objs.size) }) :
    codeAny (model prog w) A (.call (.ref C) ⟨vs, kw⟩) R s := by
  obtain ⟨hh, g, d, t, os⟩ := s
  exact PySem.W.make_core (PySem.W.makes_of X hm) (PySem.W.looks_findIn X hi) (fun self => PySem.W.bind_fn X self hf) (.inl rfl) h
end

/-! ### the attributes as a list of pairs -/
def putF (f : Str) (v : V) : List (Str × V) → List (Str × V)
  | [] => [(f, v)]
  | (g, x) :: r => if g = f then (g, v) :: r else (g, x) :: putF f v r
theorem lookup_putF (f g : Str) (v : V) : ∀ fs : List (Str × V), (putF f v fs).lookup g = if g = f then some v else fs.lookup g
  | [] => by
    show List.lookup g [(f, v)] = _
    by_cases h : g = f
    · have hb : (g == f) = true := beq_iff_eq.mpr h
      simp only [List.lookup, hb, if_pos h]
    · have hb : (g == f) = false := beq_eq_false_iff_ne.mpr h
      simp only [List.lookup, hb, if_neg h]
  | (k, x) :: r => by
    have ih := lookup_putF f g v r
    rw [show putF f v ((k, x) :: r) = (if k = f then (k, v) :: r else (k, x) :: putF f v r) from rfl]
    by_cases hk : k = f
    · rw [if_pos hk]
      by_cases h : g = k
      · have hb : (g == k) = true := beq_iff_eq.mpr h
        simp only [List.lookup, hb, if_pos (h.trans hk)]
      · have hb : (g == k) = false := beq_eq_false_iff_ne.mpr h
        simp only [List.lookup, hb, if_neg (fun e : g = f => h (e.trans hk.symm))]
    · rw [if_neg hk]
      by_cases h : g = k
      · have hb : (g == k) = true := beq_iff_eq.mpr h
        simp only [List.lookup, hb, if_neg (fun e : g = f => hk (h.symm.trans e))]
      · have hb : (g == k) = false := beq_eq_false_iff_ne.mpr h
        simp only [List.lookup, hb]
        exact ih
theorem keys_putF (f : Str) (v : V) : ∀ fs : List (Str × V), f ∈ (putF f v fs).map (·.1) ∧ ∀ g, g ∈ fs.map (·.1) → g ∈ (putF f v fs).map (·.1)
  | [] => ⟨by simp [putF], fun g h => by simp at h⟩
  | (k, x) :: r => by
    obtain ⟨i1, i2⟩ := keys_putF f v r
    rw [show putF f v ((k, x) :: r) = (if k = f then (k, v) :: r else (k, x) :: putF f v r) from rfl]
    by_cases hk : k = f
    · rw [if_pos hk]
      subst hk
      exact ⟨by simp, fun g h => by simpa using h⟩
    · rw [if_neg hk]
      refine ⟨?_, fun g h => ?_⟩
      · rw [List.map_cons]
        exact List.mem_cons_of_mem _ i1
      · rw [List.map_cons] at h ⊢
        rcases List.mem_cons.mp h with e | e
        · exact List.mem_cons.mpr (.inl e)
        · exact List.mem_cons_of_mem _ (i2 g e)
theorem length_putF (f : Str) (v : V) : ∀ fs : List (Str × V), (putF f v fs).length ≤ fs.length + 1
  | [] => by simp [putF]
  | (k, x) :: r => by
    have ih := length_putF f v r
    rw [show putF f v ((k, x) :: r) = (if k = f then (k, v) :: r else (k, x) :: putF f v r) from rfl]
    by_cases hk : k = f
    · rw [if_pos hk, List.length_cons, List.length_cons]; omega
    · rw [if_neg hk, List.length_cons, List.length_cons]; omega

theorem RelO.some_of {v : V} {o : Option Value} (r : RelO (some v) o) : ∃ u, o = some u ∧ RelV v u := by
  cases o with
  | none => exact (show False from r).elim
  | some u => exact ⟨u, rfl, r⟩
theorem RelO.none_of {o : Option Value} (r : RelO none o) : o = none := by
  cases o with
  | none => rfl
  | some u => exact (show False from r).elim
theorem handed_of {v : V} {u : Value} (r : RelV v u) : PySem.W.handedIn u = true := by
  cases v with
  | non => cases (show u = Value.none from r); rfl
  | bl b => cases (show u = Value.bool b from r); rfl
  | int i => obtain ⟨t, e⟩ := (show ∃ t, u = Value.int i t from r); cases e; rfl
  | str x => obtain ⟨t, e⟩ := (show ∃ t, u = Value.str x t from r); cases e; rfl
  | byt b => obtain ⟨t, e⟩ := (show ∃ t, u = Value.bytes b t from r); cases e; rfl
  | flt b => obtain ⟨t, e⟩ := (show ∃ t, u = Value.float b t from r); cases e; rfl
  | ref a => cases (show u = Value.ref a from r); rfl
  | ty n => cases (show u = Value.type n from r); rfl

section
variable {P : Program} {w : World} {H H' : Hp} {h h' : Heap} {a C dx : Addr} {fs fs' : List (Str × V)}
theorem ins_get (hok : HOk P w H h) (e : H a = some (.ins C dx fs)) : ∃ mA, ObjM h a dx C mA ∧ (∀ f, RelO (fs.lookup f) (mA f)) ∧ PySem.Within mA (fs.map (·.1)) ∧ fs.length ≤ 1000 ∧ H dx = some (.own a) := by
  obtain ⟨d, z, ne, ob, mA, n, r, q⟩ := (show ObjOk P w H h a (.ins C dx fs) from hok a _ e)
  exact ⟨mA, ⟨ob, n, ne⟩, r, q, z, d⟩
end

/-! ### what of the text a class must have -/
structure Cls (K : PySem.W.Frag) (C : Addr) : Prop where
  pg : PySem.W.plainGet K C Str.empty = true
  hd : PySem.W.hasDictIn K C = true
  po : PySem.W.plainOver K C = true
  sa : PySem.W.findIn K (.ref C) "__setattr__" = some (some (.builtin "object.__setattr__"))
theorem Cls.get {K : PySem.W.Frag} {C : Addr} (c : Cls K C) (f : Str) : PySem.W.plainGet K C f = true := c.pg
/-- no class of it has the name -/
def NoAttr (K : PySem.W.Frag) (C : Addr) (f : Str) : Prop := PySem.W.findIn K (.ref C) f = some none
theorem NoAttr.taker {K : PySem.W.Frag} {C : Addr} {f : Str} (n : NoAttr K C f) : PySem.W.takerIn K C f = some none := by
  unfold PySem.W.takerIn
  rw [show PySem.W.findIn K (.ref C) f = some none from n]
  rfl
/-- a method: a plain def of the class or of one above it -/
structure Meth (K : PySem.W.Frag) (C : Addr) (m : Str) (f : Addr) : Prop where
  at_ : PySem.W.findIn K (.ref C) m = some (some (.ref f))
  fn : PySem.W.isFn K (.ref f) = true
  kp : PySem.W.keepIn K (.ref f) = true

section
variable {X : Cx} {pins : List (Addr × Obj)} {σ : St} {H : Hp} {s : Shared} {a C dx : Addr} {fs : List (Str × V)} {f : Str} {v : V} {A : Around} {E : Value → Shared → Prop}

theorem getattr_ok {b : Bool} {Q : Value → Shared → Prop} (I : Inv X pins σ H s) (e : H a = some (.ins C dx fs)) (c : Cls X.K C) (n : NoAttr X.K C f) (l : fs.lookup f = some v)
    (h : ∀ u s', Inv X pins σ H s' → RelV v u → Q u s') : wpAny (model X.prog X.w) A (getAttr (.ref a) f b) Q E s := by
  obtain ⟨mA, O, r, _, _, _⟩ := ins_get I.hok e
  obtain ⟨u, hu, ru⟩ := RelO.some_of (v := v) (o := mA f) (by rw [← l]; exact r f)
  exact get_map I.kIn O (c.get f) c.hd n hu (handed_of ru) (h u _ (I.tok _) ru)

theorem getmeth_ok {m : Str} {g : Addr} {pl : Sem Bool} {Q : Value × List Value → Shared → Prop} (I : Inv X pins σ H s) (e : H a = some (.ins C dx fs)) (c : Cls X.K C) (k : Meth X.K C m g) (l : fs.lookup m = none)
    (h : Q (.ref g, [.ref a]) s) : wpAny (model X.prog X.w) A (getMethod (.ref a) m pl) Q E s := by
  obtain ⟨mA, O, r, _, _, _⟩ := ins_get I.hok e
  have hn : mA m = none := RelO.none_of (by rw [← l]; exact r m)
  exact get_meth I.kIn O (c.get m) k.at_ k.fn hn h

theorem setattr_ok {y : V} {u : Value} {Q : Unit → Shared → Prop} (I : Inv X pins σ H s) (e : H a = some (.ins C dx fs)) (c : Cls X.K C) (n : NoAttr X.K C f) (hl : fs.length < 1000) (ry : RelV y u)
    (h : ∀ s', Inv X pins σ (upd H a (.ins C dx (putF f y fs))) s' → Q () s') : wpAny (model X.prog X.w) A (setAttr (.ref a) f u) Q E s := by
  obtain ⟨mA, O, r, wi, _, ho⟩ := ins_get I.hok e
  have hz : (fs.map (·.1)).length ≤ sizeLine := by rw [List.length_map, sizeLine_eq]; omega
  refine set_map I.kIn O c.sa c.po n.taker c.hd wi hz fun h' O' sb => h _ ?_
  have hd : ∃ o, h'.get? dx = some o := let ⟨o, _, _, e', _⟩ := O'.ns; ⟨o, e'⟩
  refine I.write (x := a) (e := dx) (by rw [e]; exact True.intro) (.inr ho) (fun b q hb z => (sb.2 b hb).trans z) hd ?_
  refine ⟨by rw [upd_ne O.ne]; exact ho, ?_, O.ne, O'.obj, _, O'.ns, fun g => ?_, fun g hg => ?_⟩
  · have := length_putF f y fs; omega
  · show RelO ((putF f y fs).lookup g) (if g = f then some u else mA g)
    rw [lookup_putF]
    by_cases q : g = f
    · rw [if_pos q, if_pos q]; exact ry
    · rw [if_neg q, if_neg q]; exact r g
  · by_cases q : g = f
    · rw [q]; exact (keys_putF f y fs).1
    · refine (keys_putF f y fs).2 g (wi g fun z => hg ?_)
      show (if g = f then some u else mA g) = none
      rw [if_neg q]; exact z

/-- a new instance, tracked, without attributes -/
theorem Inv.made (I : Inv X pins σ H s) : Inv X pins σ (upd (upd H s.heap.objs.size (.own (s.heap.objs.size + 1))) (s.heap.objs.size + 1) (.ins C s.heap.objs.size []))
    { s with heap := (s.heap.push PySem.W.emptyDict).push (PySem.W.instObj C s.heap.objs.size) } := by
  have e1 : (s.heap.push PySem.W.emptyDict).get? s.heap.objs.size = some PySem.W.emptyDict := Heap.get?_push_size s.heap rfl
  have e2 : ((s.heap.push PySem.W.emptyDict).push (PySem.W.instObj C s.heap.objs.size)).get? (s.heap.objs.size + 1) = some (PySem.W.instObj C s.heap.objs.size) := by
    have := Heap.get?_push_size (s.heap.push PySem.W.emptyDict) (o := PySem.W.instObj C s.heap.objs.size) rfl
    rwa [Heap.size_push] at this
  have e3 : (s.heap.push PySem.W.emptyDict).Ns s.heap.objs.size (fun _ => none) := ⟨PySem.W.emptyDict, #[], _, e1, rfl, (fun e he => absurd he (by simp)), fun _ => rfl⟩
  have I1 := I.laid (a := s.heap.objs.size) (o := .own (s.heap.objs.size + 1)) (h' := s.heap.push PySem.W.emptyDict) (t' := s.toks) (fun b u q => Heap.get?_push_of_some _ q) (Nat.le_refl _) ⟨_, e1⟩
  refine I1.laid (a := s.heap.objs.size + 1) (o := .ins C s.heap.objs.size []) (t' := s.toks) (fun b u q => Heap.get?_push_of_some _ q) (Nat.le_of_eq (Heap.size_push _ _)) ?_
  have ne : s.heap.objs.size ≠ s.heap.objs.size + 1 := Nat.ne_of_lt (Nat.lt_succ_self _)
  refine ⟨by rw [upd_ne ne, upd_same], Nat.zero_le _, ne, e2, fun _ => none, (Heap.Ns1.of_empty e3).at fun o q => Heap.get?_push_of_some _ q, fun _ => True.intro, fun y hy => absurd rfl hy⟩

/-- e.f where nothing but the object is asked: through attributeBase (super) and the last hold -/
theorem attr_of {prog : Program} {w : World} {env : Env} {e : Expr} {f : Str} {pos : Pos} {s : Shared} {Q : Value → Shared → Prop} (hb : attributeBase e f env (eval e env) = eval e env)
    (h : wpAny (model prog w) A (eval e env) (fun o s₁ => wpAny (model prog w) A (getAttr o f true) Q E s₁) E s) : wpAny (model prog w) A (eval (.Attribute e f pos) env) Q E s :=
  Attribute_any_ h (by rw [arm_eval_Attribute, hb])
end

/-! ### readings and rules -/
/-- e.f, an attribute of the instance -/
def tFld (K : PySem.W.Frag) (ta : TE) (f : Str) : TE := fun σ H Q => ta σ H fun x H1 => ∃ a C dx fs v, x = .ref a ∧ H1 a = some (.ins C dx fs) ∧ Cls K C ∧ NoAttr K C f ∧ fs.lookup f = some v ∧ Q v H1
/-- e.f = value -/
def sFld (K : PySem.W.Frag) (ta tv : TE) (f : Str) : TS := fun D σ H => tv σ H fun y H1 => ta σ H1 fun x H2 => ∃ a C dx fs, x = .ref a ∧ H2 a = some (.ins C dx fs) ∧ Cls K C ∧ NoAttr K C f ∧ fs.length < 1000 ∧
  D.nx σ (upd H2 a (.ins C dx (putF f y fs)))
section
variable {X : Cx} {o e value : Expr} {f : Str} {pos pos' tpos : Pos} {ta tv : TE}
theorem pe_fld (he : PE X e ta) (hb : attributeBase e f X.env (eval e X.env) = eval e X.env) : PE X (.Attribute e f pos) (tFld X.K ta f) := by
  intro pins s σ H Q I h
  refine attr_of hb (thn (he pins s σ H _ I h) fun u s1 ⟨x, H1, I1, rx, a, C, dx, fs, v, ex, ea, c, n, l, q⟩ => ?_)
  subst ex
  obtain rfl : u = Value.ref a := rx
  exact getattr_ok I1 ea c n l fun u' s2 I2 ru => ⟨v, H1, I2, ru, q⟩
theorem ps_fld (ha : PE X o ta) (hv : PE X value tv) (hs : swapsWith value (some (.Attribute o f pos')) pos.line X.env = pure false) : PS X (.Assign [.Attribute o f pos'] value pos) (sFld X.K ta tv f) := by
  intro pins s σ H D I h
  refine plainObj_wpAny_Assign_Attribute (thn (hv pins s σ H _ I h) fun u s1 ⟨y, H1, I1, ry, q⟩ => thn (ha pins s1 σ H1 _ I1 q) fun ov s2 ⟨x, H2, I2, rx, a, C, dx, fs, ex, ea, c, n, l, q2⟩ => ?_) hs
  subst ex
  obtain rfl : ov = Value.ref a := rx
  exact setattr_ok I2 ea c n l ry fun s3 I3 => ⟨σ, _, I3, q2⟩
/-- what is between an instance and its method: the tree of a method call -/
theorem methcall_of {pl : Sem Bool} {m : Str} {apos : Pos} {args : List Expr} {pins : List (Addr × Obj)} {s : Shared} {σ : St} {H : Hp} {Q : Value → Shared → Prop} {te : TE} (he : PE X e te) (I : Inv X pins σ H s)
    (h : te σ H fun x H1 => ∃ a C dx fs g, x = .ref a ∧ H1 a = some (.ins C dx fs) ∧ Cls X.K C ∧ Meth X.K C m g ∧ fs.lookup m = none ∧
      ∀ s1, Inv X pins σ H1 s1 → wpAny (model X.prog X.w) X.A (callWith pos (.ref g) [.ref a] (backTo pos (starEach args X.env)) (backToKw pos (keywordEach [] X.env))) Q X.xe s1)
    (ht : eval (.Call (.Attribute e m apos) args [] pos) X.env = (do
      let ov ← eval e X.env
      standAt apos.atName
      let (f, first) ← holding [ov] (getMethod ov m pl)
      callWith pos f first (backTo pos (starEach args X.env)) (backToKw pos (keywordEach [] X.env)))) :
    wpAny (model X.prog X.w) X.A (eval (.Call (.Attribute e m apos) args [] pos) X.env) Q X.xe s := by
  refine PySem.W.methodCall_KW (pl := pl) (thn (he pins s σ H _ I h) fun u s1 ⟨x, H1, I1, rx, a, C, dx, fs, g, ex, ea, c, k, l, q⟩ => ?_) ht
  subst ex
  obtain rfl : u = Value.ref a := rx
  exact getmeth_ok I1 ea c k l (q s1 I1)
end

/-! ### isinstance -/
section
variable {X : Cx} {pins : List (Addr × Obj)} {σ : St} {H : Hp} {s : Shared} {A : Around} {E : Value → Shared → Prop} {Q : Value → Shared → Prop} {c : Value} {b : Bool}
/-- the type of a value, as the fragment's deciders take it; for an instance its class -/
inductive TyOf (K : PySem.W.Frag) (H : Hp) : V → Value → Prop where
  | non : TyOf K H .non (.type "NoneType")
  | bl (x : Bool) : TyOf K H (.bl x) (.type "bool")
  | int (i : Int) : TyOf K H (.int i) (.type "int")
  | str (x : Str) : TyOf K H (.str x) (.type "str")
  | flt (x : UInt64) : TyOf K H (.flt x) (.type "float")
  | lst {a : Addr} {xs : List V} (e : H a = some (.lst xs)) : TyOf K H (.ref a) (.type "list")
  | frz {a : Addr} {o : Obj} {xs : List V} (e : H a = some (.frz o (.lst xs))) : TyOf K H (.ref a) (.type "list")
  | tup {a : Addr} {xs : List V} (e : H a = some (.tup xs)) : TyOf K H (.ref a) (.type "tuple")
  | dK {a : Addr} {kvs : List (Key × V)} (e : H a = some (.dK kvs)) : TyOf K H (.ref a) (.type "dict")
  | dT {a : Addr} {kvs : List (List Key × V)} (e : H a = some (.dT kvs)) : TyOf K H (.ref a) (.type "dict")
  | ins {a C dx : Addr} {fs : List (Str × V)} (e : H a = some (.ins C dx fs)) (cl : Cls K C) (ha : PySem.W.findIn K (.ref C) "__class__" = some (some (.builtin "object.__class__")))
      (hn : PySem.W.specialIn K (.builtin "object.__class__") "__get__" = some (some (.builtin "getset_descriptor.__get__"))) (htk : PySem.W.takesIn K (.builtin "object.__class__") = some true)
      (hm : PySem.W.mroIn K C (.type "object") = some true) : TyOf K H (.ref a) (.ref C)
/-- isinstance(x, c) for one class c, a built-in or an own one: kitOne's answer -/
theorem isinst_ok {x : V} {u t : Value} (I : Inv X pins σ H s) (rx : RelV x u) (ty : TyOf X.K H x t) (e : PySem.W.kitOne X.K t c = some b) (h : ∀ tk, Q (.bool b) { s with toks := tk }) :
    wpAny (model X.prog X.w) A (call (.builtin "isinstance") [u, c]) Q E s := by
  cases ty with
  | non => cases (show u = Value.none from rx); exact PySem.W.kia_one PySem.W.kitx_none I.kIn True.intro e (fun z => nomatch z) h
  | bl y => cases (show u = Value.bool y from rx); exact PySem.W.kia_one PySem.W.kitx_bool I.kIn True.intro e (fun z => nomatch z) h
  | int i => obtain ⟨t, q⟩ := (show ∃ t, u = Value.int i t from rx); cases q; exact PySem.W.kia_one PySem.W.kitx_int I.kIn True.intro e (fun z => nomatch z) h
  | str y => obtain ⟨t, q⟩ := (show ∃ t, u = Value.str y t from rx); cases q; exact PySem.W.kia_one PySem.W.kitx_str I.kIn True.intro e (fun z => nomatch z) h
  | flt y => obtain ⟨t, q⟩ := (show ∃ t, u = Value.float y t from rx); cases q; exact PySem.W.kia_one PySem.W.kitx_float I.kIn True.intro e (fun z => nomatch z) h
  | @lst a xs ea =>
    cases (show u = Value.ref a from rx)
    obtain ⟨_, _, n, _, h1⟩ := (show ObjOk X.prog X.w H s.heap a (.lst xs) from I.hok a _ ea)
    exact PySem.W.kia_one PySem.W.kitx_list I.kIn ⟨_, h1, rfl⟩ e (fun z => nomatch z) h
  | @frz a ob xs ea =>
    cases (show u = Value.ref a from rx)
    obtain ⟨_, _, _, n, _, h1⟩ := (show ObjOk X.prog X.w H s.heap a (.frz ob (.lst xs)) from I.hok a _ ea)
    exact PySem.W.kia_one PySem.W.kitx_list I.kIn ⟨_, h1, rfl⟩ e (fun z => nomatch z) h
  | @tup a xs ea =>
    cases (show u = Value.ref a from rx)
    obtain ⟨_, _, _, p⟩ := (show ObjOk X.prog X.w H s.heap a (.tup xs) from I.hok a _ ea)
    obtain ⟨o, h1, h2, _⟩ := p
    exact PySem.W.kia_one PySem.W.kitx_tuple I.kIn ⟨o, h1, h2⟩ e (fun z => nomatch z) h
  | @dK a kvs ea =>
    cases (show u = Value.ref a from rx)
    obtain ⟨_, _, vs, _, p⟩ := (show ObjOk X.prog X.w H s.heap a (.dK kvs) from I.hok a _ ea)
    obtain ⟨o, es, ep, h1, h2, _⟩ := p
    exact PySem.W.kia_one PySem.W.kitx_dict I.kIn ⟨o, h1, h2.1⟩ e (fun z => nomatch z) h
  | @dT a kvs ea =>
    cases (show u = Value.ref a from rx)
    obtain ⟨_, _, xs, _, o, es, ep, h1, h2, _⟩ := (show ObjOk X.prog X.w H s.heap a (.dT kvs) from I.hok a _ ea)
    exact PySem.W.kia_one PySem.W.kitx_dict I.kIn ⟨o, h1, h2.1⟩ e (fun z => nomatch z) h
  | @ins a C dx fs ea cl ha hn htk hm =>
    cases (show u = Value.ref a from rx)
    obtain ⟨mA, O, _⟩ := ins_get I.hok ea
    obtain ⟨od, J, _⟩ := O.look
    exact PySem.W.kia_one (PySem.W.kitx_own (cl.get _) cl.hd ha hn htk hm) I.kIn J e (fun z => nomatch z) h
end
end L2

namespace L2
open PySem PySem.Spec PyProof.Rows

/-! ### room -/
structure Room (k : Nat) (A : Around) : Prop where
  hd : A.handled = none
  dp : A.depth + 3 * k + 5 < recursionLimit
  un : A.units + 16 * k + 200 < cLine
theorem Room.mono {j k : Nat} {A : Around} (r : Room k A) (h : j ≤ k) : Room j A := ⟨r.hd, by have := r.dp; omega, by have := r.un; omega⟩
theorem Room.deeper {k : Nat} {A : Around} (r : Room (k + 1) A) (env : Env) : Room k (A.deeper env) :=
  ⟨r.hd, by have := r.dp; show A.depth + 1 + 3 * k + 5 < _; omega, by have := r.un; show A.units + 3 + 16 * k + 200 < _; omega⟩
theorem make_depth {A : Around} {C : Addr} {us : List Value} {kw : List (Str × Value)} : (A.under (.builtin "type.__call__" ⟨.ref C :: us, kw⟩)).depth = A.depth + 1 := by
  first | rfl | simp [Around.under, Code.weight, Code.isCreation, Code.isGuard, Code.isCaller, Code.frames, Code.isFrame, guardIds]
theorem make_units {A : Around} {C : Addr} {us : List Value} {kw : List (Str × Value)} : (A.under (.builtin "type.__call__" ⟨.ref C :: us, kw⟩)).units = A.units + 1 := by
  first | rfl | simp [Around.under, Code.cUnits, Code.frames, Code.isFrame]
theorem Room.make {k : Nat} {A : Around} (r : Room (k + 1) A) (C : Addr) (us : List Value) (kw : List (Str × Value)) : Room k (A.under (.builtin "type.__call__" ⟨.ref C :: us, kw⟩)) :=
  ⟨r.hd, by have := r.dp; rw [make_depth]; omega, by have := r.un; rw [make_units]; omega⟩
theorem Room.depth {k : Nat} {A : Around} (r : Room k A) : A.depth < recursionLimit := by have := r.dp; omega
theorem Room.units {k : Nat} {A : Around} (r : Room k A) : A.units + 64 < cLine := by have := r.un; omega
theorem Room.units0 {k : Nat} {A : Around} (r : Room k A) : A.units < cLine := by have := r.un; omega

/-! ### argument lists and displays -/
def tNil : TA := fun _ H Q => Q [] H
def tCons (ta : TE) (tr : TA) : TA := fun σ H Q => ta σ H fun x H1 => tr σ H1 fun xs H2 => Q (x :: xs) H2
section
variable {X : Cx} {e : Expr} {es : List Expr} {te : TE} {t : TA} {pos : Pos}
theorem pa_nil : PA X [] tNil := fun _ _ _ _ H Q I h => Calls.spliced_nil ⟨[], H, I, .nil, h⟩
theorem pa_cons (ha : PE X e te) (hr : PA X es t) (hs : starEach (e :: es) X.env = (false, eval e X.env) :: starEach es X.env := by rfl) : PA X (e :: es) (tCons te t) := by
  intro pos pins s σ H Q I h
  rw [hs]
  show wpAny _ _ (spliced ((false, eval e X.env) :: backTo pos (starEach es X.env))) _ _ s
  refine Calls.spliced_cons (thn (ha pins s σ H _ I h) fun u s1 ⟨x, H1, I1, r1, q1⟩ => ?_)
  exact thn (hr pos pins s1 σ H1 _ I1 q1) fun us s2 ⟨xs, H2, I2, r2, q2⟩ => ⟨x :: xs, H2, I2, .cons r1 r2, q2⟩

/-- a tuple, a list of written items -/
def tTup (t : TA) : TE := fun σ H Q => t σ H fun xs H1 => xs.length ≤ sizeLine ∧ ∀ p, H1 p = none → Q (.ref p) (upd H1 p (.tup xs))
def tLst (t : TA) : TE := fun σ H Q => t σ H fun xs H1 => xs.length ≤ sizeLine ∧ ∀ p, H1 p = none → Q (.ref p) (upd H1 p (.lst xs))
theorem pe_tup {x1} (h : PA X es t) : PE X (.Tuple es x1 pos) (tTup t) := by
  intro pins s σ H Q I hq
  refine wpAny_Tuple_spliced (thn (h pos pins s σ H _ I hq) fun us s1 ⟨xs, H1, I1, r, z, q⟩ => ⟨by rw [← r.length]; exact z, ?_⟩)
  have hf : H1 s1.heap.objs.size = none := I1.hok.fresh (Nat.le_refl _)
  refine ⟨.ref s1.heap.objs.size, upd H1 s1.heap.objs.size (.tup xs), I1.laid (t' := s1.toks) (fun b u e => Heap.get?_push_of_some _ e) (Nat.le_refl _) ?_, rfl, q _ hf⟩
  exact ⟨z, us, r, ⟨_, Heap.get?_push_size _ rfl, rfl, rfl, _, rfl⟩⟩
theorem pe_lst (h : PA X es t) : PE X (.List es pos) (tLst t) := by
  intro pins s σ H Q I hq
  refine wpAny_List_spliced (thn (h pos pins s σ H _ I hq) fun us s1 ⟨xs, H1, I1, r, z, q⟩ => ⟨by rw [← r.length]; exact z, ?_⟩)
  have hf : H1 s1.heap.objs.size = none := I1.hok.fresh (Nat.le_refl _)
  refine ⟨.ref s1.heap.objs.size, upd H1 s1.heap.objs.size (.lst xs), I1.laid (t' := s1.toks) (fun b u e => Heap.get?_push_of_some _ e) (Nat.le_refl _) ?_, rfl, q _ hf⟩
  exact ⟨z, us, 0, r, Heap.get?_push_size _ rfl⟩
end

/-! ### what a def promises -/
/-- a def's promise: the bound arguments in the parameters' order, the heap, the wanted end, the wanted exception -/
abbrev Sp := List V → Hp → VK → XK → Prop
/-- how an exception lies behind a call (file 08 gives it): the callers' frames, abstract heap and state ahead of the call, the wish, the exception, the state -/
abbrev CXT := List Env → Hp → Shared → XK → Value → Shared → Prop

/-- the state at a call -/
structure Env0 (P : Program) (w : World) (K : PySem.W.Frag) (mg : Str → Option Value) (base : Heap) (A : Around) (outer : List Env) (s : Shared) (H : Hp) : Prop where
  frames : A.frames = some outer
  mod : Mod K mg base
  bs : ∀ b o, base.get? b = some o → s.heap.get? b = some o ∧ H b = none
  bsz : base.objs.size ≤ s.heap.objs.size
  funs : s.heap.FunFrames base outer
  frf : ∀ b ∈ frs outer, H b = none
  hok : HOk P w H s.heap
  bare : AllBare s.gens
/-- a call's end -/
def CE (outer : List Env) (P : Program) (w : World) (H : Hp) (s : Shared) (Q : VK) (u : Value) (s' : Shared) : Prop :=
  ∃ v H', s'.os = s.os ∧ AllBare s'.gens ∧ Un (frs outer) [] H H' s.heap s'.heap ∧ HOk P w H' s'.heap ∧ RelV v u ∧ Q v H'
def CR (CX : CXT) (outer : List Env) (P : Program) (w : World) (H : Hp) (s : Shared) (Q : VK) (E : XK) (r : Result) (s' : Shared) : Prop :=
  match r with
  | .ok (.ret u) => CE outer P w H s Q u s'
  | .ok _ => False
  | .error e => CX outer H s E e s'
structure FnOk (P : Program) (w : World) (K : PySem.W.Frag) (mg : Str → Option Value) (base : Heap) (CX : CXT) (k : Nat) (f : Addr) (fd : FuncData) (ps : List Str) (sp : Sp) : Prop where
  len : ∀ vs H Q E, sp vs H Q E → vs.length = ps.length
  run : ∀ (A : Around) (outer : List Env) (s : Shared) (H : Hp) (args : Args) (us : List Value) (vs : List V) (Q : VK) (E : XK), Room k A → Env0 P w K mg base A outer s H → BindsTo s fd args (ps.zip us) → Vals vs us → sp vs H Q E →
    codeAny (model P w) A (.call (.ref f) args) (CR CX outer P w H s Q E) s
theorem FnOk.mono {P : Program} {w : World} {K : PySem.W.Frag} {mg : Str → Option Value} {base : Heap} {CX : CXT} {j k : Nat} {f : Addr} {fd : FuncData} {ps : List Str} {sp : Sp} (F : FnOk P w K mg base CX j f fd ps sp) (h : j ≤ k) :
    FnOk P w K mg base CX k f fd ps sp := ⟨F.len, fun A outer s H args us vs Q E hr => F.run A outer s H args us vs Q E (hr.mono h)⟩
/-- a weaker promise -/
theorem FnOk.imp {P : Program} {w : World} {K : PySem.W.Frag} {mg : Str → Option Value} {base : Heap} {CX : CXT} {k : Nat} {f : Addr} {fd : FuncData} {ps : List Str} {sp sp' : Sp} (F : FnOk P w K mg base CX k f fd ps sp)
    (h : ∀ vs H Q E, sp' vs H Q E → sp vs H Q E) : FnOk P w K mg base CX k f fd ps sp' :=
  ⟨fun vs H Q E q => F.len vs H Q E (h _ _ _ _ q), fun A outer s H args us vs Q E hr he hb hv hs => F.run A outer s H args us vs Q E hr he hb hv (h _ _ _ _ hs)⟩

theorem Env0.make {P : Program} {w : World} {K : PySem.W.Frag} {mg : Str → Option Value} {base : Heap} {A : Around} {outer : List Env} {s : Shared} {H : Hp} (e : Env0 P w K mg base A outer s H) (C : Addr) (us : List Value) (kw : List (Str × Value)) :
    Env0 P w K mg base (A.under (.builtin "type.__call__" ⟨.ref C :: us, kw⟩)) outer s H := ⟨by first | exact e.frames | (simpa [Around.under, Code.envs, Code.isFrame, pushEnvs] using e.frames), e.mod, e.bs, e.bsz, e.funs, e.frf, e.hok, e.bare⟩
section
variable {X : Cx} {pins : List (Addr × Obj)} {σ : St} {H : Hp} {s s' : Shared}
/-- from a body: what a callee wants -/
theorem Inv.env0 (I : Inv X pins σ H s) : Env0 X.prog X.w X.K X.mg X.base X.A X.stack s H :=
  ⟨I.ok.frames, I.ok.mod, I.bs, Nat.le_trans I.ok.bsz I.sz, I.stack, I.stkFree, I.hok, I.bare⟩
/-- behind a call -/
theorem Inv.after {Q : VK} {u : Value} (I : Inv X pins σ H s) (h : CE X.stack X.prog X.w H s Q u s') : EP X pins σ Q u s' := by
  obtain ⟨v, H', os, bare, un, hok, r, q⟩ := h
  obtain ⟨hh, g, d, t, os'⟩ := s'
  obtain rfl : os' = s.os := os
  exact ⟨v, H', I.call (h' := hh) (g' := g) (d' := d) (t' := t) (ch := []) un hok bare (fun b z => absurd z (by simp)), r, q⟩
end

/-! ### calls -/
/-- f(..): the written arguments, then the defaults dvs; E: what is wanted of an exception -/
def tCall (sp : Sp) (dvs : List V) (E : XK) (t : TA) : TE := fun σ H Q => t σ H fun vs H1 => sp (vs ++ dvs) H1 Q E
/-- o.m(..) of an instance of the class at C -/
def tMeth (C : Addr) (m : Str) (sp : Sp) (dvs : List V) (E : XK) (ta : TE) (t : TA) : TE := fun σ H Q => ta σ H fun x H1 => ∃ a dx fs, x = .ref a ∧ H1 a = some (.ins C dx fs) ∧ fs.lookup m = none ∧
  t σ H1 fun vs H2 => sp (x :: (vs ++ dvs)) H2 Q E
/-- C(..): a new instance and its dict, then __init__ -/
def tMake (C : Addr) (sp : Sp) (dvs : List V) (E : XK) (t : TA) : TE := fun σ H Q => t σ H fun vs H1 => ∀ x dx, H1 x = none → H1 dx = none → dx ≠ x →
  sp (.ref x :: (vs ++ dvs)) (upd (upd H1 dx (.own x)) x (.ins C dx [])) (fun v H2 => v = .non ∧ Q (.ref x) H2) E

/-- how the parameters are bound: us the positional arguments, kw the keywords' values by name, ds the defaults that fill up -/
def Binds (K : PySem.W.Frag) (fd : FuncData) (ps : List Str) (ds : List Value) : Prop :=
  ∀ (s : Shared) (us : List Value), K.In s.heap → (us ++ ds).length = ps.length → BindsTo s fd ⟨us, []⟩ (ps.zip (us ++ ds))
/-- every parameter is given -/
theorem Binds.all {K : PySem.W.Frag} {fd : FuncData} {ps : List Str} (h : ∀ us : List Value, us.length = ps.length → bindArgs fd ⟨us, []⟩ = pure (ps.zip us)) : Binds K fd ps [] := fun s us _ hl => by
  rw [List.append_nil] at hl ⊢
  exact .of_eq (h us hl)

/-- an exception of a callee reaches what this body wants of exceptions -/
def Passes (CX : CXT) (X : Cx) (E : XK) : Prop := ∀ (pins : List (Addr × Obj)) (σ : St) (H : Hp) (s : Shared) (e : Value) (s' : Shared), Inv X pins σ H s → CX X.stack H s E e s' → X.xe e s'

section
variable {X : Cx} {CX : CXT} {k : Nat} {f C : Addr} {fd : FuncData} {ps : List Str} {sp : Sp} {dvs : List V} {ds : List Value} {E : XK} {x m : Str} {p pos apos : Pos} {e o : Expr} {es : List Expr} {ta : TE} {t : TA}

/-- the callee runs -/
theorem run_fn {pins : List (Addr × Obj)} {σ : St} {H : Hp} {s : Shared} {Q : VK} {us : List Value} {vs : List V} (F : FnOk X.prog X.w X.K X.mg X.base CX k f fd ps sp) (hr : Room k X.A) (hb : Binds X.K fd ps ds) (hd : Vals dvs ds) (hx : Passes CX X E)
    (I : Inv X pins σ H s) (r : Vals vs us) (h : sp (vs ++ dvs) H Q E) : wpAny (model X.prog X.w) X.A (call (.ref f) us) (EP X pins σ Q) X.xe s := by
  have r2 : Vals (vs ++ dvs) (us ++ ds) := r.append hd
  have hl : (us ++ ds).length = ps.length := by rw [← r2.length]; exact F.len _ _ _ _ h
  refine wpAny_call (codeAny_mono (F.run X.A X.stack s H ⟨us, []⟩ (us ++ ds) (vs ++ dvs) Q E hr I.env0 (hb s us I.kIn hl) r2 h) fun r s' hq => ?_)
  cases r with
  | error e => exact hx pins σ H s e s' I hq
  | ok fl =>
    cases fl with
    | ret u => exact I.after hq
    | next => exact False.elim hq
    | brk => exact False.elim hq
    | cont => exact False.elim hq

theorem pe_call (F : FnOk X.prog X.w X.K X.mg X.base CX k f fd ps sp) (hr : Room k X.A) (hg : Gl X x) (hm : X.mg x = some (.ref f)) (hk : PySem.W.keepIn X.K (.ref f) = true) (hb : Binds X.K fd ps ds) (hd : Vals dvs ds) (hx : Passes CX X E)
    (ha : PA X (e :: es) t) (hdb : (x == ("__debug__" : Str)) = false := by decide) (he : starEach (e :: es) X.env = (false, eval e X.env) :: starEach es X.env := by rfl) (hpl : (backTo pos (starEach es X.env)).any (·.1) = false := by rfl) :
    PE X (.Call (.Name x p) (e :: es) [] pos) (tCall sp dvs E t) := by
  intro pins s σ H Q I h
  refine wpAny_Call_Name_kw (ld_glob I hg hm ?_ hdb)
  refine PySem.W.callWith_K (h₀ := X.base) I.ok.mod.kin hk (thn (ha pos pins s σ H _ I h) fun us s1 ⟨vs, H1, I1, r, q⟩ => ⟨I1.kIn, ?_⟩) he hpl
  exact run_fn F hr hb hd hx I1 r q
/-- o.m() -/
theorem pe_meth0 {pl : Sem Bool} (he : PE X o ta) (c : Cls X.K C) (hm : Meth X.K C m f) (F : FnOk X.prog X.w X.K X.mg X.base CX k f fd ps sp) (hr : Room k X.A) (hb : Binds X.K fd ps ds) (hd : Vals dvs ds) (hx : Passes CX X E)
    (ht : eval (.Call (.Attribute o m apos) [] [] pos) X.env = (do
      let ov ← eval o X.env
      standAt apos.atName
      let (f, first) ← holding [ov] (getMethod ov m pl)
      callWith pos f first (backTo pos (starEach [] X.env)) (backToKw pos (keywordEach [] X.env))) := by rfl) :
    PE X (.Call (.Attribute o m apos) [] [] pos) (tMeth C m sp dvs E ta tNil) := by
  intro pins s σ H Q I h
  refine PySem.W.methodCall_KW (pl := pl) (thn (he pins s σ H _ I h) fun u s1 ⟨x, H1, I1, rx, a, dx, fs, ex, ea, l, q⟩ => ?_) ht
  subst ex
  obtain rfl : u = Value.ref a := rx
  refine getmeth_ok I1 ea c hm l ?_
  exact PySem.W.callWith_K0 (first := [.ref a]) I1.kIn hm.kp (run_fn (us := [.ref a]) (vs := [.ref a]) F hr hb hd hx I1 (.cons rfl .nil) q)

/-- what a class must have to be made -/
structure Mk (K : PySem.W.Frag) (C f : Addr) : Prop where
  makes : PySem.W.makesIn K C = true
  init : PySem.W.findIn K (.ref C) "__init__" = some (some (.ref f))
  fn : PySem.W.isFn K (.ref f) = true
  kp : PySem.W.keepIn K (.ref C) = true

theorem run_make {pins : List (Addr × Obj)} {σ : St} {H : Hp} {s : Shared} {Q : VK} {us : List Value} {vs : List V} (M : Mk X.K C f) (F : FnOk X.prog X.w X.K X.mg X.base CX k f fd ps sp) (hr : Room (k + 1) X.A) (hb : Binds X.K fd ps ds) (hd : Vals dvs ds)
    (hx : Passes CX X E) (I : Inv X pins σ H s) (r : Vals vs us)
    (h : ∀ x dx, H x = none → H dx = none → dx ≠ x → sp (.ref x :: (vs ++ dvs)) (upd (upd H dx (.own x)) x (.ins C dx [])) (fun v H2 => v = .non ∧ Q (.ref x) H2) E) :
    wpAny (model X.prog X.w) X.A (call (.ref C) us) (EP X pins σ Q) X.xe s := by
  have hq := h (s.heap.objs.size + 1) s.heap.objs.size (I.hok.fresh (Nat.le_succ _)) (I.hok.fresh (Nat.le_refl _)) (Nat.ne_of_lt (Nat.lt_succ_self _))
  have I2 := Inv.made (C := C) I
  have r2 : Vals (V.ref (s.heap.objs.size + 1) :: (vs ++ dvs)) (Value.ref (s.heap.objs.size + 1) :: (us ++ ds)) := .cons rfl (r.append hd)
  have hl : (Value.ref (s.heap.objs.size + 1) :: us ++ ds).length = ps.length := by
    have e := r2.length
    rw [F.len _ _ _ _ hq] at e
    exact e.symm
  refine wpAny_call (make_map (f := f) I.kIn M.makes M.init (beq_iff_eq.mp M.fn) (codeAny_mono (F.run _ X.stack _ _ ⟨Value.ref (s.heap.objs.size + 1) :: us, []⟩ (Value.ref (s.heap.objs.size + 1) :: (us ++ ds)) _ _ E (hr.make C us [])
    (I2.env0.make C us []) (hb _ (Value.ref (s.heap.objs.size + 1) :: us) I2.kIn hl) r2 hq) fun r s' hq' => ?_))
  cases r with
  | error e => exact hx pins σ _ _ e s' I2 hq'
  | ok fl =>
    cases fl with
    | ret u =>
      obtain ⟨v, H', I3, rv, ev, q3⟩ := I2.after hq'
      subst ev
      exact ⟨rv, ⟨V.ref (s.heap.objs.size + 1), H', I3, rfl, q3⟩⟩
    | next => exact False.elim hq'
    | brk => exact False.elim hq'
    | cont => exact False.elim hq'
theorem pe_make (M : Mk X.K C f) (F : FnOk X.prog X.w X.K X.mg X.base CX k f fd ps sp) (hr : Room (k + 1) X.A) (hg : Gl X x) (hm : X.mg x = some (.ref C)) (hb : Binds X.K fd ps ds) (hd : Vals dvs ds) (hx : Passes CX X E)
    (ha : PA X (e :: es) t) (hdb : (x == ("__debug__" : Str)) = false := by decide) (he : starEach (e :: es) X.env = (false, eval e X.env) :: starEach es X.env := by rfl) (hpl : (backTo pos (starEach es X.env)).any (·.1) = false := by rfl) :
    PE X (.Call (.Name x p) (e :: es) [] pos) (tMake C sp dvs E t) := by
  intro pins s σ H Q I h
  refine wpAny_Call_Name_kw (ld_glob I hg hm ?_ hdb)
  refine PySem.W.callWith_K (h₀ := X.base) I.ok.mod.kin M.kp (thn (ha pos pins s σ H _ I h) fun us s1 ⟨vs, H1, I1, r, q⟩ => ⟨I1.kIn, ?_⟩) he hpl
  exact run_make M F hr hb hd hx I1 r q
end

/-! ### keywords -/
section
variable {X : Cx} {CX : CXT} {k : Nat} {f C : Addr} {fd : FuncData} {ps ks : List Str} {sp : Sp} {E : XK} {x m : Str} {p pos apos kpos : Pos} {e o : Expr} {es : List Expr} {kws : List Keyword} {te ta : TE} {t tk : TA} {nm : Option Str}
variable {g : List Value → List Value → List Value} {gV : List V → List V → List V}
end

/-! ### a def's body keeps its promise -/
/-- names: the parameters first -/
structure FnScope (N P : List Str) (sc : Scope) : Prop where
  kind : sc.kind = .function
  co : sc.isCoroutine = false
  gen : sc.isGenerator = false
  nd : N.Nodup
  pre : N.take P.length = P
  par : ∀ x ∈ P, sc.names.lookup x = some .local ∨ sc.names.lookup x = some .cell
  nofree : ∀ y ∈ sc.names, y.2 ≠ .free

theorem bindL_out {kindOf : Str → Option NameKind} {x : Str} : ∀ {binds : List (Str × Value)} {m : Str → Option Value}, (∀ v, (x, v) ∉ binds) → bindL kindOf binds m x = m x
  | [], _, _ => rfl
  | (n, v) :: r, m, h => by
    unfold bindL
    rw [bindL_out fun w hw => h w (List.mem_cons_of_mem _ hw)]
    split
    · have : x ≠ n := by rintro rfl; exact h v List.mem_cons_self
      simp [this]
    · rfl
theorem bindC_out {kindOf : Str → Option NameKind} {x : Str} : ∀ {binds : List (Str × Value)} {m : Str → Option Value}, (∀ v, (x, v) ∉ binds) → bindC kindOf binds m x = m x
  | [], _, _ => rfl
  | (n, v) :: r, m, h => by
    unfold bindC
    rw [bindC_out fun w hw => h w (List.mem_cons_of_mem _ hw)]
    split
    · rfl
    · have : x ≠ n := by rintro rfl; exact h v List.mem_cons_self
      simp [this]
theorem bindL_get {kindOf : Str → Option NameKind} {x : Str} {v : Value} : ∀ {P : List Str} {vs : List Value} {i : Nat} {m : Str → Option Value}, P.Nodup → P[i]? = some x → vs[i]? = some v → kindOf x = some .local →
    bindL kindOf (P.zip vs) m x = some v
  | [], _, _, _, _, h, _, _ => by simp at h
  | _ :: _, [], _, _, _, _, h, _ => by simp at h
  | p :: P, w :: vs, 0, m, nd, h1, h2, hk => by
    simp at h1 h2; subst h1; subst h2
    show bindL kindOf ((p, w) :: P.zip vs) m p = _
    unfold bindL
    rw [bindL_out fun v hv => (List.nodup_cons.mp nd).1 (List.of_mem_zip hv).1, if_pos hk]
    simp
  | p :: P, w :: vs, i + 1, m, nd, h1, h2, hk => by
    show bindL kindOf ((p, w) :: P.zip vs) m x = _
    unfold bindL
    exact bindL_get (i := i) (List.nodup_cons.mp nd).2 (by simpa using h1) (by simpa using h2) hk
theorem bindC_get {kindOf : Str → Option NameKind} {x : Str} {v : Value} : ∀ {P : List Str} {vs : List Value} {i : Nat} {m : Str → Option Value}, P.Nodup → P[i]? = some x → vs[i]? = some v → kindOf x ≠ some .local →
    bindC kindOf (P.zip vs) m x = some v
  | [], _, _, _, _, h, _, _ => by simp at h
  | _ :: _, [], _, _, _, _, h, _ => by simp at h
  | p :: P, w :: vs, 0, m, nd, h1, h2, hk => by
    simp at h1 h2; subst h1; subst h2
    show bindC kindOf ((p, w) :: P.zip vs) m p = _
    unfold bindC
    rw [bindC_out fun v hv => (List.nodup_cons.mp nd).1 (List.of_mem_zip hv).1, if_neg hk]
    simp
  | p :: P, w :: vs, i + 1, m, nd, h1, h2, hk => by
    show bindC kindOf ((p, w) :: P.zip vs) m x = _
    unfold bindC
    exact bindC_get (i := i) (List.nodup_cons.mp nd).2 (by simpa using h1) (by simpa using h2) hk

/-- the names' values at the entry -/
def start (N : List Str) (vs : List V) : St := vs.map some ++ List.replicate (N.length - vs.length) none

/-- the context of a def's body, at its entry; an exception leaves the frame, then lies as CX says -/
def cxOf (CX : CXT) (P : Program) (w : World) (K : PySem.W.Frag) (mg : Str → Option Value) (base : Heap) (N : List Str) (qual : Str) (scope : Scope) (f : Addr) (cd : Value) (A : Around) (outer : List Env) (s : Shared) (H : Hp) (E : XK) : Cx where
  prog := P
  w := w
  K := K
  mg := mg
  base := base
  A := A.deeper (envOfC qual scope s.heap.objs.size f cd)
  N := N
  s₀ := s
  H₀ := H
  env := envOfC qual scope s.heap.objs.size f cd
  outer := outer
  stack := envOfC qual scope s.heap.objs.size f cd :: outer
  ex := []
  calm := true
  fn := fun _ => true
  pn := []
  xe := fun e s' => wpAny (model P w) (A.deeper (envOfC qual scope s.heap.objs.size f cd)) (leaving (envOfC qual scope s.heap.objs.size f cd) e) (fun _ s'' => CX outer H s E e s'') (fun e' s'' => CX outer H s E e' s'') s'

theorem cell_has {sc : Scope} {n : Nat} {x : Str} (h : sc.names.lookup x = some .cell) : ∃ c, (cellsFrom n sc.names []).lookup x = some c := by
  have q := PySem.W.cellsFrom_some sc.names n [] (.inl h)
  exact Option.isSome_iff_exists.mp q

theorem inv_start {CX : CXT} {P : Program} {w : World} {K : PySem.W.Frag} {mg : Str → Option Value} {base : Heap} {N ps : List Str} {qual : Str} {scope : Scope} {f : Addr} {cd : Value} {A : Around} {outer : List Env} {s s1 : Shared} {H : Hp} {E : XK} {us : List Value} {vs : List V}
    (S : FnScope N ps scope) (hd : A.handled = none) (e0 : Env0 P w K mg base A outer s H) (hl : vs.length = ps.length) (r : Vals vs us)
    (x : InCallC s s.heap.objs.size (bindL (envOfC qual scope s.heap.objs.size f cd).kindOf (ps.zip us) fun _ => none) (cellsFrom (s.heap.objs.size + 1) scope.names []) (bindC (envOfC qual scope s.heap.objs.size f cd).kindOf (ps.zip us) fun _ => none) s1) :
    Inv (cxOf CX P w K mg base N qual scope f cd A outer s H E) [] (start N vs) H s1 := by
  have hpl : ps.length ≤ N.length := by have := congrArg List.length S.pre; rw [List.length_take] at this; omega
  obtain ⟨h1, tk, rfl, hk⟩ := x.done
  have noA : ∀ b : Addr, b ∉ (cxOf CX P w K mg base N qual scope f cd A outer s H E).ex := fun b z => absurd (show b ∈ ([] : List Addr) from z) (by simp)
  refine ⟨⟨e0.mod, S.kind, rfl, rfl, Nat.le_refl _, fun y z c h1 h2 => ?_, fun y hy => ?_, fun y c _ h => ?_, fun _ => hd, Around.frames_deeper e0.frames, .inr ⟨rfl, rfl⟩, fun b z => absurd z (noA b), e0.bs, e0.bsz, fun b _ _ => noA b, fun b z => absurd z (noA b), e0.funs, e0.frf⟩,
    rfl, e0.bare, Un.kept hk, ⟨_, x.toInCall.ns, fun i y v h1 h2 h3 => ?_⟩, fun y c h => ⟨_, x.cell y c h⟩, e0.hok.fresh (Nat.le_refl _), fun y c h => ?_, fun p hp => absurd (show p ∈ ([] : List (Addr × Obj)) from hp) (by simp), e0.hok.kept hk, ?_⟩
  · exact name_of_addr x.apart (PySem.mem_of_lookup h1) (PySem.mem_of_lookup h2)
  · have hy : scope.names.lookup y = some .cell ∨ scope.names.lookup y = some .free := hy
    rcases hy with hy | hy
    · exact cell_has hy
    · exact absurd rfl (S.nofree _ (PySem.mem_of_lookup hy))
  · exact Nat.le_of_lt (x.above y c (PySem.mem_of_lookup h))
  · have hi : i < vs.length := by
      unfold start at h2
      by_cases hi : i < vs.length
      · exact hi
      · rw [List.getElem?_append_right (by simpa using hi)] at h2
        rw [List.getElem?_replicate] at h2
        split at h2 <;> cases h2
    have ha : vs[i]? = some v := by
      unfold start at h2
      rw [List.getElem?_append_left (by simpa using hi), List.getElem?_map] at h2
      cases e : vs[i]? with
      | none => rw [e] at h2; cases h2
      | some a => rw [e] at h2; cases h2; rfl
    obtain ⟨u, hu, rv⟩ := r.get ha
    have hp : ps[i]? = some y := by
      rw [← S.pre, List.getElem?_take_of_lt (by omega)]; exact h1
    have ndP : ps.Nodup := by rw [← S.pre]; exact S.nd.sublist (List.take_sublist _ _)
    refine ⟨u, rv, ?_⟩
    rcases S.par y (List.mem_of_getElem? hp) with k | k
    · exact .inl ⟨k, bindL_get ndP hp hu k⟩
    · obtain ⟨c, e⟩ := cell_has (n := s.heap.objs.size + 1) k
      refine .inr ⟨.inl k, c, e, ?_⟩
      have q := x.cell y c e
      rw [bindC_get ndP hp hu (by show scope.names.lookup y ≠ _; rw [k]; decide)] at q
      exact q
  · exact e0.hok.fresh (Nat.le_of_lt (x.above y c (PySem.mem_of_lookup h)))
  · unfold start
    show _ = N.length
    rw [List.length_append, List.length_map, List.length_replicate]
    omega

/-- THE RULE: a def (or a method) of the text, by its body. The body's reading t is chosen for each entry; it is run at the parameters' values -/
theorem fn_of {CX : CXT} {P : Program} {w : World} {K : PySem.W.Frag} {mg : Str → Option Value} {base : Heap} {k : Nat} {f : Addr} {name qual : Str} {params : Arguments} {body : List Stmt} {scope : Scope} {dV kV doc pm cdv ct oc : Value} {an od : Option Addr}
    {osl : Array (Option Value)} {N ps : List Str} {sp : Sp} (lk : K.lookup f = some ⟨oc, od, .func (PySem.W.fnOf name qual params body scope dV kV doc pm an cdv ct), osl⟩) (hcd : PySem.W.codeIn K cdv qual = true) (S : FnScope N ps scope)
    (len : ∀ vs H Q E, sp vs H Q E → vs.length = ps.length)
    (hbody : ∀ (A : Around) (outer : List Env) (s : Shared) (H : Hp) (vs : List V) (Q : VK) (E : XK), Room k (A.deeper (envOfC qual scope s.heap.objs.size f cdv)) → sp vs H Q E →
      ∃ t, PSs (cxOf CX P w K mg base N qual scope f cdv A outer s H E) body t ∧ t { nx := fun _ H' => Q .non H', rt := Q } (start N vs) H) :
    FnOk P w K mg base CX (k + 1) f (PySem.W.fnOf name qual params body scope dV kV doc pm an cdv ct) ps sp := by
  refine ⟨len, fun A outer s H args us vs Q E hr e0 hb r hsp => ?_⟩
  have hl := len _ _ _ _ hsp
  have KX : K.In s.heap := e0.mod.kin.keeps fun b o e => (e0.bs b o e).1
  have lim : s.heap.NoLimit := e0.mod.nolimit.keeps fun b o e => (e0.bs b o e).1
  have hkind : ∀ y ∈ ps.zip us, scope.names.lookup y.1 = some .local ∨ (scope.names.lookup y.1 = some .cell ∧ ((cellsFrom (s.heap.objs.size + 1) scope.names []).lookup y.1).isSome = true) := fun ⟨n, v⟩ hy => by
    rcases S.par n (List.of_mem_zip hy).1 with q | q
    · exact .inl q
    · exact .inr ⟨q, PySem.W.cellsFrom_some _ _ _ (.inl q)⟩
  refine codeAny_call_function hr.depth (KX _ _ lk) rfl S.co S.gen rfl (PySem.W.codeRec_of KX hcd) (hb _ _ _ _ ?_)
  refine wpAny_newFunctionEnv_cells S.kind hkind fun env he s1 x => ?_
  subst he
  refine ⟨lim.keeps x.toInCall.keep, codeAny_func ?_⟩
  obtain ⟨t, ht, hq⟩ := hbody A outer s H vs Q E (hr.deeper _) hsp
  have I : Inv (cxOf CX P w K mg base N qual scope f cdv A outer s H E) [] (start N vs) H s1 := inv_start S hr.hd e0 hl r x
  refine wpAny_mono (ht [] s1 (start N vs) H _ I hq) (fun fl s' hs => ?_) fun e s' hs => hs
  have fin : ∀ {σ' : St} {H' : Hp} {v : V} {u : Value}, Inv (cxOf CX P w K mg base N qual scope f cdv A outer s H E) [] σ' H' s' → RelV v u → Q v H' → CE outer P w H s Q u s' :=
    fun {σ' H' v u} J rv q => ⟨v, H', J.os, J.bare, J.base, J.hok, rv, q⟩
  cases fl with
  | ret u =>
    obtain ⟨v, σ', H', J, rv, q⟩ := hs
    exact fin J rv q
  | next =>
    obtain ⟨σ', H', J, q⟩ := hs
    exact fin (v := V.non) (u := Value.none) J rfl q
  | brk =>
    obtain ⟨_, _, _, q⟩ := hs
    exact False.elim q
  | cont =>
    obtain ⟨_, _, _, q⟩ := hs
    exact False.elim q
end L2

namespace L2
open PySem PySem.Spec PyProof.Rows
section
variable {X : Cx} {x : Str} {p pos : Pos} {e : Expr} {es : List Expr} {t : TA} {id T : String} {r : List V → Hp → VK → Prop}

def tCB (r : List V → Hp → VK → Prop) (t : TA) : TE := fun σ H Q => t σ H fun vs H1 => r vs H1 Q
/-- f(e, ..), f a built-in function -/
theorem pe_callB (hc : CallR X (.builtin id) r) (hg : Gl X x) (hm : X.mg x = none) (hv : bootBuiltins x = some (.builtin id)) (ha : PA X (e :: es) t) (hn : x ≠ "__name__" := by decide) (hdb : (x == ("__debug__" : Str)) = false := by decide)
    (he : starEach (e :: es) X.env = (false, eval e X.env) :: starEach es X.env := by rfl) (hpl : (backTo pos (starEach es X.env)).any (·.1) = false := by rfl) : PE X (.Call (.Name x p) (e :: es) [] pos) (tCB r t) := by
  intro pins s σ H Q I h
  refine wpAny_Call_Name_kw (ld_blt I hg hm hv ?_ hn hdb)
  exact PyProof.Rows.callWith_builtin1 (thn (ha pos pins s σ H _ I h) fun us s1 ⟨vs, H1, I1, r1, q1⟩ => hc pins s1 σ H1 vs us Q I1 r1 q1) he hpl
/-- T(e, ..), T a built-in type -/
theorem pe_callTy (hc : CallR X (.type T) r) (hg : Gl X x) (hm : X.mg x = none) (hv : bootBuiltins x = some (.type T)) (ha : PA X (e :: es) t) (hn : x ≠ "__name__" := by decide) (hdb : (x == ("__debug__" : Str)) = false := by decide)
    (he : starEach (e :: es) X.env = (false, eval e X.env) :: starEach es X.env := by rfl) (hpl : (backTo pos (starEach es X.env)).any (·.1) = false := by rfl) : PE X (.Call (.Name x p) (e :: es) [] pos) (tCB r t) := by
  intro pins s σ H Q I h
  refine wpAny_Call_Name_kw (ld_blt I hg hm hv ?_ hn hdb)
  exact PyProof.Rows.callWith_type1 (thn (ha pos pins s σ H _ I h) fun us s1 ⟨vs, H1, I1, r1, q1⟩ => hc pins s1 σ H1 vs us Q I1 r1 q1) he hpl
end
end L2

namespace HT
open PySem PyProof.Rows

section
open PySem.SeqAt
open PySem.AutoSeq1 (wpAny_loadPart')
open PySem.MeetsSeq PySem.MeetsSeq2 PySem.MeetsSeq3

end

section
variable {prog : Program} {w : World} {A : Around} {E : Value → Shared → Prop} {s : Shared}

/-- t + u, t not empty -/
theorem cat_tup {t b : Addr} {vs ws : List Value} {Q : Value → Shared → Prop} (ht : IsTup s.heap t vs.toArray) (hb : IsTup s.heap b ws.toArray) (hv : vs ≠ [])
    (h1 : ws = [] → Q (.ref t) s) (h2 : ws ≠ [] → Q (.ref s.heap.objs.size) { s with heap := s.heap.push { cls := .type "tuple", data := .seq (vs ++ ws).toArray } })
    (hsz : vs.length + ws.length ≤ sizeLine) : wpAny (model prog w) A (binaryOp .Add (.ref t) (.ref b)) Q E s := by
  obtain ⟨⟨cls, dd, data, sl⟩, ho, hc, n, hd⟩ := id ht
  obtain ⟨⟨cls2, dd2, data2, sl2⟩, ho2, hc2, n2, hd2⟩ := id hb
  simp only at hc hd hc2 hd2
  subst hc hd hc2 hd2
  have e : vs.toArray ++ ws.toArray = (vs ++ ws).toArray := by simp
  by_cases hw : ws = []
  · exact concat_meets ⟨_, ho, rfl⟩ ⟨_, ho2, rfl⟩ noFill_tuple_add seq_tuple_add PySem.F.slot_tuple_add PySem.F.entry_tuple_add (PySem.F.args_tuple_add_2 _ _)
      (tuple_addW1 t b vs.toArray ws.toArray n n2 dd dd2 sl sl2 (by simpa using hv) (by simp [hw])) ⟨ho, ho2, h1 hw⟩
  · refine concat_meets ⟨_, ho, rfl⟩ ⟨_, ho2, rfl⟩ noFill_tuple_add seq_tuple_add PySem.F.slot_tuple_add PySem.F.entry_tuple_add (PySem.F.args_tuple_add_2 _ _)
      (tuple_addW2 t b vs.toArray ws.toArray n n2 dd dd2 sl sl2 (by simpa using hv) (by simpa using hw) (by rw [List.size_toArray, List.size_toArray]; exact hsz)) ⟨ho, ho2, ?_⟩
    rw [e]
    exact h2 hw

/-! ### t[a:b], not the whole -/
/-- a slice's bound as a place among n (d where it is left out) -/
def sIx (n d : Nat) : Option Int → Nat
  | none => d
  | some v => if v < 0 then (v + (n : Int)).toNat else min v.toNat n
theorem sIx_le (n d : Nat) (hd : d ≤ n) (o : Option Int) : sIx n d o ≤ n := by
  cases o with
  | none => exact hd
  | some v =>
    show (if v < 0 then (v + (n : Int)).toNat else min v.toNat n) ≤ n
    by_cases hv : v < 0
    · rw [if_pos hv]; omega
    · rw [if_neg hv]; exact Nat.min_le_right _ _
theorem clip_eq (v : Int) (n d : Nat) : (if v < 0 then max (v + (n : Int)) 0 else min v (n : Int)) = ((sIx n d (some v) : Nat) : Int) := by
  show (if v < 0 then max (v + (n : Int)) 0 else min v (n : Int)) = (((if v < 0 then (v + (n : Int)).toNat else min v.toNat n) : Nat) : Int)
  by_cases hv : v < 0
  · simp only [if_pos hv]; omega
  · simp only [if_neg hv]; omega
theorem adjust_gen (lo hi : Option Int) (n : Nat) : Builtin.Slice.sliceAdjust lo hi 1 (n : Int) = (((sIx n 0 lo : Nat) : Int), ((sIx n n hi : Nat) : Int)) := by
  have h1 : ¬ ((1 : Int) < 0) := by omega
  unfold Builtin.Slice.sliceAdjust
  simp only [h1, if_false]
  refine Prod.ext ?_ ?_
  · cases lo with
    | none => rfl
    | some v => exact clip_eq v n 0
  · cases hi with
    | none => rfl
    | some v => exact clip_eq v n n
theorem places_gen (i j : Nat) : Builtin.Slice.slicePlaces (i : Int) (j : Int) 1 = j - i := by
  unfold Builtin.Slice.slicePlaces
  have h1 : (1 : Int) > 0 := by omega
  simp only [h1, if_true, Int.ediv_one]
  split <;> omega
theorem slicePart_ {v : Value} {o : Option Int} {Q : Option Int → Shared → Prop} (p : IsPart v o) (h : Q o s) : wpAny (model prog w) A (Builtin.Slice.slicePartIndex v) Q E s := by
  cases p with
  | none => exact slicePart_none h
  | int i t => exact slicePart_int h
theorem sliceApplied_gen {sl : Addr} {vl vu : Value} {lo hi : Option Int} {n : Nat} {Q : Int × Int × Nat → Shared → Prop} (hs : s.heap.IsSliceOf sl vl vu .none) (pl : IsPart vl lo) (pu : IsPart vu hi)
    (h : Q (((sIx n 0 lo : Nat) : Int), 1, sIx n n hi - sIx n 0 lo) s) : wpAny (model prog w) A (Builtin.Slice.sliceApplied (.ref sl) (pure (n : Int))) Q E s := by
  obtain ⟨os, hos, hcs, hds⟩ := id hs
  unfold Builtin.Slice.sliceApplied Builtin.Slice.sliceFields
  refine wpAny_bind (wpAny_bind (wpAny_field hos hds (x := vl) rfl (wpAny_bind (wpAny_field hos hds (x := vu) rfl (wpAny_bind (wpAny_field hos hds (x := .none) rfl (wpAny_pure ?_)))))))
  refine wpAny_bind (slicePart_none ?_)
  show wpAny _ _ (if ((1 : Int) == 0) = true then _ else _) _ _ s
  rw [if_neg (by decide)]
  refine wpAny_bind (slicePart_ pl (wpAny_bind (slicePart_ pu (wpAny_bind (wpAny_pure ?_)))))
  show wpAny _ _ (match Builtin.Slice.sliceAdjust lo hi 1 (n : Int) with | (lo, hi) => pure (lo, (1 : Int), Builtin.Slice.slicePlaces lo hi 1)) _ _ s
  rw [adjust_gen lo hi n]
  show wpAny _ _ (pure (((sIx n 0 lo : Nat) : Int), (1 : Int), Builtin.Slice.slicePlaces ((sIx n 0 lo : Nat) : Int) ((sIx n n hi : Nat) : Int) 1)) _ _ s
  rw [places_gen]
  exact wpAny_pure h
theorem pick_gen (xs : Array Value) (i k : Nat) : ((List.range k).filterMap fun (m : Nat) => xs[((i : Int) + (m : Int) * 1).toNat]?).toArray = ((xs.toList.drop i).take k).toArray := by
  have e : (fun (m : Nat) => xs[((i : Int) + (m : Int) * 1).toNat]?) = fun m => xs[i + m]? := by
    funext m
    have : ((i : Int) + (m : Int) * 1).toNat = i + m := by omega
    rw [this]
  rw [e]
  have := pick_run xs i k
  rw [List.filterMap_map] at this
  have e2 : ((fun x => xs[x]?) ∘ fun x => i + x) = fun m => xs[i + m]? := rfl
  rw [e2] at this
  rw [this]

theorem getItem_tuple_cut {t sl : Addr} {items : Array Value} {vl vu : Value} {lo hi : Option Int} {Q : Value → Shared → Prop} (ht : IsTup s.heap t items) (hs : s.heap.IsSliceOf sl vl vu .none) (pl : IsPart vl lo) (pu : IsPart vu hi)
    (hw : ¬ (sIx items.size 0 lo = 0 ∧ sIx items.size items.size hi = items.size))
    (h : Q (.ref s.heap.objs.size) { s with heap := s.heap.push { cls := .type "tuple", data := .seq ((items.toList.drop (sIx items.size 0 lo)).take (sIx items.size items.size hi - sIx items.size 0 lo)).toArray } })
    (hsz : items.size ≤ sizeLine) : wpAny (model prog w) A (getItem (.ref t) (.ref sl)) Q E s := by
  have htake : sizeOk (.seq ((items.toList.drop (sIx items.size 0 lo)).take (sIx items.size items.size hi - sIx items.size 0 lo)).toArray) := by
    show ((items.toList.drop (sIx items.size 0 lo)).take (sIx items.size items.size hi - sIx items.size 0 lo)).toArray.size ≤ sizeLine
    rw [List.size_toArray, List.length_take, List.length_drop, Array.length_toList]
    omega
  have hj : sIx items.size items.size hi ≤ items.size := sIx_le _ _ (Nat.le_refl _) hi
  obtain ⟨os, hos, hcs, hds⟩ := id hs
  have hTs : s.TypeIs (.ref sl) "slice" := ⟨os, hos, hcs⟩
  unfold getItem
  try with_reducible refine wpAny_holding ?_
  first | refine wpAny_bind (wpAny_pure ?_) | skip
  refine wpAny_bind (wpAny_sequenceKey ht.typeIs (by decide) ?_)
  refine wpAny_bind (wpAny_callSpecial?_slot (name := Str.ofString "__getitem__") ht.typeIs PyProof.Rows.slot_tuple_getitem
    (wpAny_call_entry PyProof.Rows.slot_tuple_getitem ht.typeIs entry_tuple_getitem ?_ (args_tuple_getitem _ _)))
  show wpAny _ _ (Builtin.Tuple.tupleItemsOf (.ref t) >>= _) _ _ s
  refine wpAny_bind (tupleItemsOf_ ht ?_)
  refine wpAny_bind (wpAny_typeOf hTs ?_)
  rw [if_pos (by decide)]
  refine wpAny_bind (sliceApplied_gen hs pl pu ?_)
  have hno : ¬ ((((sIx items.size 0 lo : Nat) : Int) == 0 && (1 : Int) == 1 && (sIx items.size items.size hi - sIx items.size 0 lo) == items.size) = true) := by
    intro q
    rw [Bool.and_eq_true, Bool.and_eq_true] at q
    have q1 : ((sIx items.size 0 lo : Nat) : Int) = 0 := eq_of_beq q.1.1
    have q2 : sIx items.size items.size hi - sIx items.size 0 lo = items.size := eq_of_beq q.2
    exact hw ⟨by omega, by omega⟩
  show wpAny _ _ (if (((sIx items.size 0 lo : Nat) : Int) == 0 && (1 : Int) == 1 && (sIx items.size items.size hi - sIx items.size 0 lo) == items.size) = true then _ else _) _ _ s
  rw [if_neg hno, pick_gen]
  first
    | exact wpAny_bind (m := Builtin.Tuple.tupleExact _) (wpAny_newObj_type (wpAny_pure ⟨_, rfl, wpAny_pure h⟩) htake)
    | exact wpAny_bind (m := Builtin.Tuple.tupleExact _) (wpAny_newObj_type (wpAny_bind (wpAny_pure (wpAny_pure ⟨_, rfl, wpAny_pure h⟩))) htake)
    | exact wpAny_bind (wpAny_bind (m := Builtin.Tuple.tupleExact _) (wpAny_newObj_type (wpAny_pure (wpAny_pure ⟨_, rfl, wpAny_pure h⟩)) htake))
    | exact wpAny_bind (wpAny_bind (m := Builtin.Tuple.tupleExact _) (wpAny_newObj_type (wpAny_pure ⟨_, rfl, wpAny_pure h⟩) htake))
end
end HT

namespace L2
open PySem PySem.Spec PyProof.Rows

/-! ### the parts of a slice -/
abbrev TO := St → Hp → (Option Int → Hp → Prop) → Prop
/-- a slice's part (left out, or an int) -/
def PO (X : Cx) (e : Option Expr) (t : TO) : Prop :=
  ∀ (pins : List (Addr × Obj)) (s : Shared) (σ : St) (H : Hp) (Q : Option Int → Hp → Prop), Inv X pins σ H s → t σ H Q →
    wpAny (model X.prog X.w) X.A (evalPart e X.env) (fun u s' => ∃ o H', Inv X pins σ H' s' ∧ IsPart u o ∧ Q o H') X.xe s
def tNoPart : TO := fun _ H Q => Q none H
def tPart (t : TE) : TO := fun σ H Q => t σ H fun x H1 => ∃ i, x = .int i ∧ Q (some i) H1

section
variable {X : Cx} {e : Expr} {te : TE} {lo hi : Option Expr} {tl th : TO} {pos p2 : Pos}

theorem po_none : PO X none tNoPart := by
  intro pins s σ H Q I h
  rw [evalPart_none]
  exact wpAny_pure ⟨none, H, I, .none, h⟩
theorem po_some (h : PE X e te) : PO X (some e) (tPart te) := by
  intro pins s σ H Q I hw
  rw [evalPart_some]
  refine thn (h pins s σ H _ I hw) fun u s1 ⟨x, H1, I1, r1, q1⟩ => ?_
  obtain ⟨i, rfl, q⟩ := q1
  obtain ⟨t, rfl⟩ := r1
  exact ⟨some i, H1, I1, .int i t, q⟩

/-- what a slice of a value is, by values: the slice object stands at sl -/
def SlR (X : Cx) (r : V → Option Int → Option Int → Hp → VK → Prop) : Prop :=
  ∀ (pins : List (Addr × Obj)) (s : Shared) (σ : St) (H : Hp) (x : V) (v vl vu : Value) (lo hi : Option Int) (sl : Addr) (Q : VK), Inv X pins σ H s → RelV x v → s.heap.IsSliceOf sl vl vu .none → IsPart vl lo → IsPart vu hi → r x lo hi H Q →
    ∃ T id, typeLookup (.type T) "__getitem__" = pure (some (.builtin id)) ∧ s.TypeIs v T ∧ wpAny (model X.prog X.w) X.A (getItem v (.ref sl)) (EP X pins σ Q) X.xe s
def tSl (r : V → Option Int → Option Int → Hp → VK → Prop) (te : TE) (tl th : TO) : TE := fun σ H Q => te σ H fun x H1 => tl σ H1 fun l H2 => th σ H2 fun u H3 => r x l u H3 Q
/-- a[lo:hi], any a -/
theorem pe_slice {r : V → Option Int → Option Int → Hp → VK → Prop} (hr : SlR X r) (he : PE X e te) (hl : PO X lo tl) (hu : PO X hi th) : PE X (.Subscript e (.Slice lo hi none p2) pos) (tSl r te tl th) := by
  intro pins s σ H Q I h
  refine Subscript_ (thn (he pins s σ H _ I h) fun v s1 ⟨x, H1, I1, r1, q1⟩ => ?_)
  refine wpAny_Slice (thn (hl pins s1 σ H1 _ I1 q1) fun vl s2 ⟨l, H2, I2, pl, q2⟩ => thn (hu pins s2 σ H2 _ I2 q2) fun vu s3 ⟨u, H3, I3, pu, q3⟩ => ?_)
  rw [evalPart_none]
  refine wpAny_pure ?_
  have I4 : Inv X pins σ H3 { s3 with heap := s3.heap.push { cls := .type "slice", data := .fields #[vl, vu, .none] } } := I3.kept (t' := s3.toks) fun b ob q => Heap.get?_push_of_some _ q
  obtain ⟨T, id, hT, ht, hg⟩ := hr pins { s3 with heap := s3.heap.push { cls := .type "slice", data := .fields #[vl, vu, .none] } } σ H3 x v vl vu l u s3.heap.objs.size Q I4 r1 (Heap.IsSliceOf.new ..) pl pu q3
  show wpAny (model X.prog X.w) X.A (subscriptTail e (.Slice lo hi none p2) v (.ref s3.heap.objs.size)) (EP X pins σ Q) X.xe { s3 with heap := s3.heap.push { cls := .type "slice", data := .fields #[vl, vu, .none] } }
  exact tail_any (ops := [.ref s3.heap.objs.size, v]) ht hT hg (by with_unfolding_all rfl)

/-- the items of xs[lo:hi] -/
def cutV (xs : List V) (lo hi : Option Int) : List V := (xs.drop (HT.sIx xs.length 0 lo)).take (HT.sIx xs.length xs.length hi - HT.sIx xs.length 0 lo)
theorem cutV_length (xs : List V) (lo hi : Option Int) : (cutV xs lo hi).length ≤ xs.length := by
  unfold cutV
  rw [List.length_take, List.length_drop]
  omega
/-- t[lo:hi], not the whole of it (the whole would be t itself) -/
def rSlT (K : PySem.W.Frag) : V → Option Int → Option Int → Hp → VK → Prop := fun x lo hi H Q => ∃ a xs, x = .ref a ∧ SqT K H a xs ∧
  ¬ (HT.sIx xs.length 0 lo = 0 ∧ HT.sIx xs.length xs.length hi = xs.length) ∧ ∀ p, H p = none → Q (.ref p) (upd H p (.tup (cutV xs lo hi)))
theorem sl_tup : SlR X (rSlT X.K) := by
  intro pins s σ H x v vl vu lo hi sl Q I rx hs pl pu h
  obtain ⟨a, xs, rfl, hx, hw, q⟩ := h
  cases rx
  obtain ⟨its, r, ht, hz⟩ := I.tuple hx
  have hlen : its.toArray.size = xs.length := by rw [List.size_toArray]; exact r.length.symm
  refine ⟨"tuple", _, PyProof.Rows.slot_tuple_getitem.lookup, ht.typeIs, ?_⟩
  refine HT.getItem_tuple_cut ht hs pl pu (by rw [hlen]; exact hw) ?_ (by rw [hlen]; exact hz)
  rw [hlen]
  refine ⟨.ref s.heap.objs.size, _, I.laid (t' := s.toks) (o := .tup (cutV xs lo hi)) (fun b ob q => Heap.get?_push_of_some _ q) (Nat.le_refl _) ?_, rfl, q _ (I.hok.fresh (Nat.le_refl _))⟩
  exact ⟨Nat.le_trans (cutV_length xs lo hi) hz, _, (r.drop (HT.sIx xs.length 0 lo)).take (HT.sIx xs.length xs.length hi - HT.sIx xs.length 0 lo), TupP.new _ _⟩

/-! ### t < u, t + u -/
theorem Vals.nil_iff {xs : List V} {us : List Value} (r : Vals xs us) : us = [] ↔ xs = [] := by
  cases r with
  | nil => simp
  | cons _ _ => simp
end
end L2

namespace L2
open PySem PySem.Spec PyProof.Rows

/-! ### places -/
/-- the place that an index of any sign means -/
def ixN (n : Nat) (i : Int) : Option Nat := if 0 ≤ i then (if i < n then some i.toNat else none) else if -(n : Int) ≤ i then some (i + n).toNat else none
def atI {α : Type} (xs : List α) (i : Int) : Option α := (ixN xs.length i).bind fun j => xs[j]?
theorem ixN_seq {n : Nat} {i : Int} {j : Nat} (h : ixN n i = some j) : seqIndex? i n = some j ∧ j < n ∧ -(n : Int) ≤ i ∧ i < n := by
  unfold ixN at h
  by_cases h0 : 0 ≤ i
  · rw [if_pos h0] at h
    by_cases h1 : i < n
    · rw [if_pos h1] at h
      have e : i.toNat = j := Option.some.inj h
      exact ⟨by rw [seqIndex_of h0 h1, e], by omega, by omega, h1⟩
    · rw [if_neg h1] at h; cases h
  · rw [if_neg h0] at h
    by_cases h1 : -(n : Int) ≤ i
    · rw [if_pos h1] at h
      have e : (i + n).toNat = j := Option.some.inj h
      exact ⟨by rw [seqIndex_neg (by omega) h1, e], by omega, h1, by omega⟩
    · rw [if_neg h1] at h; cases h
theorem atI_get {α : Type} {xs : List α} {i : Int} {v : α} (h : atI xs i = some v) : ∃ j, seqIndex? i xs.length = some j ∧ xs[j]? = some v ∧ j < xs.length ∧ -(xs.length : Int) ≤ i ∧ i < xs.length := by
  unfold atI at h
  cases e : ixN xs.length i with
  | none => rw [e] at h; cases h
  | some j =>
    rw [e] at h
    obtain ⟨h1, h2, h3, h4⟩ := ixN_seq e
    exact ⟨j, h1, h, h2, h3, h4⟩
theorem atI_nat {α : Type} {xs : List α} {j : Nat} {v : α} (h : xs[j]? = some v) : atI xs (j : Int) = some v := by
  have hj : j < xs.length := (List.getElem?_eq_some_iff.mp h).1
  have e : ixN xs.length (j : Int) = some j := by
    unfold ixN
    rw [if_pos (by omega), if_pos (by omega)]; simp
  unfold atI; rw [e]; exact h
/-! ### what may be subscripted -/
/-- what stands as an index of a plain subscript -/
def PlainIx (b : Expr) : Prop := ∀ o i, subscripted b false o i = operate [o, i] (getItem o i)
/-- a subscript by values -/
def IxR (X : Cx) (r : R2) : Prop :=
  ∀ (value slice : Expr) (pins : List (Addr × Obj)) (s : Shared) (σ : St) (H : Hp) (x y : V) (v u : Value) (Q : VK), Inv X pins σ H s → RelV x v → RelV y u → r x y H Q →
    subscripted slice false v u = operate [v, u] (getItem v u) → wpAny (model X.prog X.w) X.A (subscriptTail value slice v u) (EP X pins σ Q) X.xe s
/-- a call of a builtin's method by values: the receiver, the arguments -/
def MtR (X : Cx) (id : String) (r : V → List V → Hp → VK → Prop) : Prop :=
  ∀ (pins : List (Addr × Obj)) (s : Shared) (σ : St) (H : Hp) (x : V) (xs : List V) (v : Value) (us : List Value) (Q : VK), Inv X pins σ H s → RelV x v → Vals xs us → r x xs H Q →
    wpAny (model X.prog X.w) X.A (call (.builtin id) (v :: us)) (EP X pins σ Q) X.xe s
section
variable {X : Cx} {a b : Expr} {ta tb : TE} {pos : Pos}
/-- a[b] -/
theorem pe_ix {r : R2} (hr : IxR X r) (ha : PE X a ta) (hb : PE X b tb) (hs : PlainIx b) : PE X (.Subscript a b pos) (tOp r ta tb) := by
  intro pins s σ H Q I h
  exact Subscript_ (binT ha hb I h fun v u s2 x y H2 I2 rx ry q => hr a b pins s2 σ H2 x y v u Q I2 rx ry q (hs _ _))

def rIxL (K : PySem.W.Frag) : R2 := fun x y H Q => ∃ p xs i v, x = .ref p ∧ y = .int i ∧ SqL K H p xs ∧ atI xs i = some v ∧ Q v H
def rIxT (K : PySem.W.Frag) : R2 := fun x y H Q => ∃ p xs i v, x = .ref p ∧ y = .int i ∧ SqT K H p xs ∧ atI xs i = some v ∧ Q v H
theorem ix_list : IxR X (rIxL X.K) := by
  intro value slice pins s σ H x y v u Q I rx ry h hs
  obtain ⟨p, xs, i, z, rfl, rfl, hq, he, q⟩ := h
  cases rx
  obtain ⟨t, rfl⟩ := ry
  obtain ⟨its, r, pl, hz⟩ := I.list hq
  obtain ⟨j, h1, h2, h3, h4, h5⟩ := atI_get he
  obtain ⟨w, ew, rw'⟩ := r.get h2
  have hl := r.length
  have hn := line63
  have fin : EP X pins σ Q w s := ⟨z, H, I, rw', q⟩
  by_cases h0 : 0 ≤ i
  · have hj : i.toNat = j := by
      rw [seqIndex_of h0 h5] at h1
      exact Option.some.inj h1
    exact item_listR pl.isList h0 (by omega) (by rw [hj]; simpa using ew) fin hs
  · have hj : (i + (its.toArray.size : Int)).toNat = j := by
      rw [seqIndex_neg (by omega) h4] at h1
      rw [List.size_toArray, ← hl]
      exact Option.some.inj h1
    exact subscriptTail_builtinR (x := w) pl.isList.typeIs slot_list_getitem.lookup
      (wpAny_getItem_list_neg (Q := fun r s' => r = w ∧ EP X pins σ Q r s') pl.isList (by omega) (by rw [List.size_toArray] <;> omega) (by omega) (by rw [hj]; simpa using ew) ⟨rfl, fin⟩) hs
theorem ix_tup : IxR X (rIxT X.K) := by
  intro value slice pins s σ H x y v u Q I rx ry h hs
  obtain ⟨p, xs, i, z, rfl, rfl, hq, he, q⟩ := h
  cases rx
  obtain ⟨t, rfl⟩ := ry
  obtain ⟨its, r, pl, hz⟩ := I.tuple hq
  obtain ⟨j, h1, h2, h3, h4, h5⟩ := atI_get he
  obtain ⟨w, ew, rw'⟩ := r.get h2
  have hl := r.length
  have hn := line63
  have fin : EP X pins σ Q w s := ⟨z, H, I, rw', q⟩
  exact subscriptTail_builtinR (x := w) pl.typeIs slot_tuple_getitem.lookup
    (getItem_tuple (j := j) (Q := fun r s' => r = w ∧ EP X pins σ Q r s') pl (by omega) (by omega) (by rw [List.size_toArray, ← hl]; exact h1) (by simpa using ew) ⟨rfl, fin⟩) hs
/-! ### xs[i] = v, any sign -/
/-! ### slices -/
theorem slice_bounds (lo hi : Option Int) (n : Nat) : (sliceBounds lo hi none n).1 = ((HT.sIx n 0 lo : Nat) : Int) ∧ (sliceBounds lo hi none n).2.1 = ((HT.sIx n n hi : Nat) : Int) ∧ (sliceBounds lo hi none n).2.2 = 1 := by
  refine ⟨?_, ?_, rfl⟩
  · cases lo with
    | none => simp [sliceBounds, HT.sIx]
    | some i =>
      simp only [sliceBounds, HT.sIx, Option.getD_none, show (1 : Int) > 0 by decide, if_true]
      by_cases h : i < 0
      · simp only [h, if_true] <;> omega
      · simp only [h, if_false] <;> omega
  · cases hi with
    | none => simp [sliceBounds, HT.sIx]
    | some i =>
      simp only [sliceBounds, HT.sIx, Option.getD_none, show (1 : Int) > 0 by decide, if_true]
      by_cases h : i < 0
      · simp only [h, if_true] <;> omega
      · simp only [h, if_false] <;> omega
theorem slicePick_cut (its : List Value) (lo hi : Option Int) : slicePick its.toArray lo hi none = ((its.drop (HT.sIx its.length 0 lo)).take (HT.sIx its.length its.length hi - HT.sIx its.length 0 lo)).toArray := by
  obtain ⟨h1, h2, h3⟩ := slice_bounds lo hi its.toArray.size
  unfold slicePick
  rw [h1, h2, h3]
  simp only [sliceRange_one, pick_run, List.size_toArray] <;> rfl
/-- xs[lo:hi] of a list: a new list -/
def rSlL (K : PySem.W.Frag) : V → Option Int → Option Int → Hp → VK → Prop := fun x lo hi H Q => ∃ a xs, x = .ref a ∧ SqL K H a xs ∧ ∀ p, H p = none → Q (.ref p) (upd H p (.lst (cutV xs lo hi)))
theorem sl_list : SlR X (rSlL X.K) := by
  intro pins s σ H x v vl vu lo hi sl Q I rx hs pl pu h
  obtain ⟨a, xs, rfl, hx, q⟩ := h
  cases rx
  obtain ⟨its, r, ht, hz⟩ := I.list hx
  have hlen := r.length
  refine ⟨"list", _, slot_list_getitem.lookup, ht.isList.typeIs, ?_⟩
  refine wpAny_getItem_list_slice ht.isList hs pl pu .none (by simp) ?_ (by rw [List.size_toArray] <;> omega)
  rw [slicePick_cut, ← hlen]
  refine ⟨.ref s.heap.objs.size, _, I.laid (t' := s.toks) (o := .lst (cutV xs lo hi)) (fun b ob q => Heap.get?_push_of_some _ q) (Nat.le_refl _) ?_, rfl, q _ (I.hok.fresh (Nat.le_refl _))⟩
  exact ⟨Nat.le_trans (cutV_length xs lo hi) hz, _, 0, (r.drop (HT.sIx xs.length 0 lo)).take (HT.sIx xs.length xs.length hi - HT.sIx xs.length 0 lo), Heap.get?_push_size _ rfl⟩

/-! ### in, not in: flat items -/
def flatV : V → Bool
  | .non => true
  | .bl _ => true
  | .int _ => true
  | .str _ => true
  | _ => false
/-- == of flat values -/
def eqV : V → V → Bool
  | .non, .non => true
  | .bl a, .bl b => a == b
  | .bl a, .int b => (if a then 1 else 0) == b
  | .int a, .bl b => a == (if b then 1 else 0)
  | .int a, .int b => a == b
  | .str a, .str b => a == b
  | _, _ => false
theorem eqAt_V {A : Around} {s : Shared} {y x : V} {u v : Value} (ry : RelV y u) (rx : RelV x v) (fy : flatV y = true) (fx : flatV x = true) : SeqAt.EqAt A s u v (eqV y x) := by
  cases y with
  | non =>
    cases ry
    cases x with
    | non => cases rx; exact SeqAt.EqAt.same _
    | bl b => cases rx; exact SeqAt.EqAt.none_bool b
    | int b => obtain ⟨t, rfl⟩ := rx; exact SeqAt.EqAt.none_int b t
    | str b => obtain ⟨t, rfl⟩ := rx; exact SeqAt.EqAt.none_str b t
    | _ => exact absurd (show false = true from fx) Bool.false_ne_true
  | bl a =>
    cases ry
    cases x with
    | non => cases rx; exact SeqAt.EqAt.bool_none a
    | bl b => cases rx; exact SeqAt.EqAt.bool_bool a b
    | int b => obtain ⟨t, rfl⟩ := rx; exact SeqAt.EqAt.bool_int a b t
    | str b => obtain ⟨t, rfl⟩ := rx; exact SeqAt.EqAt.bool_str a b t
    | _ => exact absurd (show false = true from fx) Bool.false_ne_true
  | int a =>
    obtain ⟨t', rfl⟩ := ry
    cases x with
    | non => cases rx; exact SeqAt.EqAt.int_none a t'
    | bl b => cases rx; exact SeqAt.EqAt.int_bool a t' b
    | int b => obtain ⟨t, rfl⟩ := rx; exact SeqAt.EqAt.int_int a t' b t
    | str b => obtain ⟨t, rfl⟩ := rx; exact SeqAt.EqAt.int_str a t' b t
    | _ => exact absurd (show false = true from fx) Bool.false_ne_true
  | str a =>
    obtain ⟨t', rfl⟩ := ry
    cases x with
    | non => cases rx; exact SeqAt.EqAt.str_none a t'
    | bl b => cases rx; exact SeqAt.EqAt.str_bool a t' b
    | int b => obtain ⟨t, rfl⟩ := rx; exact SeqAt.EqAt.str_int a t' b t
    | str b => obtain ⟨t, rfl⟩ := rx; exact SeqAt.EqAt.str_str a t' b t
    | _ => exact absurd (show false = true from fx) Bool.false_ne_true
  | _ => exact absurd (show false = true from fy) Bool.false_ne_true
/-- the items' answers, read off the values (a value's own answer does not lean on its token) -/
def eqU (x : V) (u : Value) : Bool := match u with
  | .none => eqV .non x
  | .bool b => eqV (.bl b) x
  | .int i _ => eqV (.int i) x
  | .str z _ => eqV (.str z) x
  | _ => false
theorem eqU_of {x y : V} {u : Value} (r : RelV y u) (f : flatV y = true) : eqU x u = eqV y x := by
  cases y with
  | non => cases r; rfl
  | bl b => cases r; rfl
  | int i => obtain ⟨t, rfl⟩ := r; rfl
  | str z => obtain ⟨t, rfl⟩ := r; rfl
  | _ => exact absurd (show false = true from f) Bool.false_ne_true
theorem any_eqU {x : V} : ∀ {xs : List V} {us : List Value}, Vals xs us → xs.all flatV = true → us.any (eqU x) = xs.any fun y => eqV y x
  | _, _, .nil, _ => rfl
  | y :: xs, u :: us, .cons r t, f => by
    rw [List.all_cons, Bool.and_eq_true] at f
    rw [List.any_cons, List.any_cons, eqU_of r f.1, any_eqU t f.2]
theorem mem_eqAt {A : Around} {s : Shared} {x : V} {v : Value} (rx : RelV x v) (fx : flatV x = true) : ∀ {xs : List V} {us : List Value}, Vals xs us → xs.all flatV = true → ∀ u ∈ us, SeqAt.EqAt A s u v (eqU x u)
  | _, _, .nil, _ => fun u hu => by cases hu
  | y :: xs, u :: us, .cons r t, f => fun u' hu => by
    rw [List.all_cons, Bool.and_eq_true] at f
    rcases List.mem_cons.mp hu with rfl | hu
    · rw [eqU_of r f.1]; exact eqAt_V r rx f.1 fx
    · exact mem_eqAt rx fx t f.2 u' hu
def inV (x : V) (xs : List V) : Bool := xs.any fun y => eqV y x
/-- x in a list or tuple of flat items -/
def rIn (K : PySem.W.Frag) (neg : Bool) : R2 := fun x y H Q => ∃ p xs, y = .ref p ∧ (SqL K H p xs ∨ SqT K H p xs) ∧ flatV x = true ∧ xs.all flatV = true ∧ Q (.bl (if neg then !inV x xs else inV x xs)) H
theorem op_notIn_seq : OpR X (compareOp .NotIn) (rIn X.K true) := by
  intro pins s σ H x y v u Q I rx ry h
  obtain ⟨p, xs, rfl, hq, fx, fs, q⟩ := h
  cases ry
  rcases hq with hq | hq
  · obtain ⟨its, r, pl, hz⟩ := I.list hq
    refine SeqAt.notIn_listAt (eqU x) pl.isList (fun w hw => mem_eqAt rx fx r fs w (by simpa using hw)) ⟨.bl _, H, I, rfl, ?_⟩
    rw [show its.toArray.any (eqU x) = its.any (eqU x) by simp, any_eqU r fs]
    exact q
  · obtain ⟨its, r, pl, hz⟩ := I.tuple hq
    refine SeqAt.notIn_tupleAt (eqU x) pl (fun w hw => mem_eqAt rx fx r fs w (by simpa using hw)) ⟨.bl _, H, I, rfl, ?_⟩
    rw [show its.toArray.any (eqU x) = its.any (eqU x) by simp, any_eqU r fs]
    exact q
/-! ### len, list(x), tuple(x) of any list or tuple that is read -/
theorem call_len_seq : CallR X (.builtin "len") (fun xs H Q => ∃ p ys, xs = [.ref p] ∧ (SqL X.K H p ys ∨ SqT X.K H p ys) ∧ Q (.int ys.length) H) := by
  intro pins s σ H xs us Q I r h
  obtain ⟨p, ys, rfl, hq, q⟩ := h
  obtain ⟨u, rfl, rx⟩ := vals1 r
  cases rx
  have hn := line63
  rcases hq with hq | hq
  · obtain ⟨its, r', pl, hz⟩ := I.list hq
    have hlen := r'.length
    exact Calls.call_len_list pl.isList (by simp only [List.size_toArray] <;> omega) ⟨.int ys.length, H, I.tok _, ⟨s.toks + 1, by rw [List.size_toArray, hlen]⟩, q⟩
  · obtain ⟨its, r', pl, hz⟩ := I.tuple hq
    have hlen := r'.length
    exact len_tuple pl (by simp only [List.size_toArray] <;> omega) ⟨.int ys.length, H, I.tok _, ⟨s.toks + 1, by rw [List.size_toArray, hlen]⟩, q⟩
theorem call_list_of : CallR X (.type "list") (fun xs H Q => ∃ p ys, xs = [.ref p] ∧ (SqL X.K H p ys ∨ SqT X.K H p ys) ∧ ∀ l, H l = none → Q (.ref l) (upd H l (.lst ys))) := by
  intro pins s σ H xs us Q I r h
  obtain ⟨p, ys, rfl, hq, q⟩ := h
  obtain ⟨u, rfl, rx⟩ := vals1 r
  cases rx
  have fin : ∀ (its : List Value), Vals ys its → ys.length ≤ sizeLine → ∀ (h' : Heap) (c' : Nat), (∀ b o', s.heap.get? b = some o' → h'.get? b = some o') →
      h'.get? s.heap.objs.size = some { cls := .type "list", dict := none, data := .seq its.toArray c', slots := #[] } → EP X pins σ Q (.ref s.heap.objs.size) { s with heap := h' } := fun its r' hz h' c' kp e =>
    ⟨.ref s.heap.objs.size, _, I.laid (t' := s.toks) kp (Nat.le_refl _) (show ObjOk X.prog X.w _ h' _ (.lst ys) from ⟨hz, its, c', r', e⟩), rfl, q _ (I.hok.fresh (Nat.le_refl _))⟩
  rcases hq with hq | hq
  · obtain ⟨its, r', pl, hz⟩ := I.list hq
    have hlen := r'.length
    obtain ⟨o, ho, hc, n, hd⟩ := pl.isList
    exact call_list_seq p (.inl rfl) ho hc hd (fun h' c' kp e => fin its r' hz h' c' kp e) (by simp only [List.size_toArray] <;> omega)
  · obtain ⟨its, r', pl, hz⟩ := I.tuple hq
    have hlen := r'.length
    obtain ⟨o, ho, hc, n, hd⟩ := pl
    exact call_list_seq p (.inr rfl) ho hc hd (fun h' c' kp e => fin its r' hz h' c' kp e) (by simp only [List.size_toArray] <;> omega)
theorem call_tuple_of : CallR X (.type "tuple") (fun xs H Q => ∃ p ys, xs = [.ref p] ∧ ((SqL X.K H p ys ∧ ∀ l, H l = none → Q (.ref l) (upd H l (.tup ys))) ∨ (SqT X.K H p ys ∧ Q (.ref p) H))) := by
  intro pins s σ H xs us Q I r h
  obtain ⟨p, ys, rfl, h⟩ := h
  obtain ⟨u, rfl, rx⟩ := vals1 r
  cases rx
  rcases h with ⟨hq, q⟩ | ⟨hq, q⟩
  · obtain ⟨its, r', pl, hz⟩ := I.list hq
    have hlen := r'.length
    refine call_tuple_list pl.isList (fun h' kp => ?_) (by simp only [List.size_toArray] <;> omega)
    have I1 : Inv X pins σ H { s with heap := h' } := I.kept (t' := s.toks) kp
    have I2 : Inv X pins σ (upd H h'.objs.size (.tup ys)) { s with heap := h'.push { cls := .type "tuple", data := .seq its.toArray } } :=
      I1.laid (t' := s.toks) (fun b o e => Heap.get?_push_of_some _ e) (Nat.le_refl _) (show ObjOk X.prog X.w _ _ _ (.tup ys) from ⟨hz, its, r', TupP.new _ _⟩)
    exact ⟨.ref h'.objs.size, _, I2, rfl, q _ (I1.hok.fresh (Nat.le_refl _))⟩
  · obtain ⟨its, r', pl, hz⟩ := I.tuple hq
    exact call_tuple_same pl ⟨.ref p, H, I, rfl, q⟩

/-! ### the call of a builtin's method: o.m(..) -/
/-- the value is of that builtin type -/
def tyV (K : PySem.W.Frag) (T : String) (x : V) (H : Hp) : Prop := match x with
  | .str _ => T = "str"
  | .int _ => T = "int"
  | .ref p => (T = "list" ∧ ∃ xs, SqL K H p xs) ∨ (T = "tuple" ∧ ∃ o, K.lookup p = some o ∧ o.cls = .type "tuple" ∧ o.dict = none) ∨
      (T = "dict" ∧ ((∃ kvs, H p = some (.dK kvs)) ∨ ∃ kvs, H p = some (.dT kvs))) ∨ (T = "set" ∧ ∃ S n, H p = some (.set S n))
  | _ => False
theorem tyV_is {pins : List (Addr × Obj)} {σ : St} {H : Hp} {s : Shared} {T : String} {x : V} {v : Value} (I : Inv X pins σ H s) (r : RelV x v) (ty : tyV X.K T x H) :
    s.TypeIs v T ∧ ∀ a, v = .ref a → ∃ ob, s.heap.get? a = some ob ∧ ob.dict = none := by
  cases x with
  | str z =>
    obtain ⟨t, rfl⟩ := r
    cases (show T = "str" from ty)
    exact ⟨typeIs_str s z t, fun _ e => nomatch e⟩
  | int i =>
    obtain ⟨t, rfl⟩ := r
    cases (show T = "int" from ty)
    exact ⟨typeIs_int s i t, fun _ e => nomatch e⟩
  | ref p =>
    cases r
    rcases ty with ⟨rfl, xs, hq⟩ | ⟨rfl, o, hk, hc, hd⟩ | ⟨rfl, hk⟩ | ⟨rfl, S, n, hk⟩
    · obtain ⟨its, _, pl, _⟩ := I.list hq
      refine ⟨pl.isList.typeIs, fun a e => ?_⟩
      cases e
      obtain ⟨o, n, e, c, hd, _⟩ := pl
      exact ⟨o, e, hd⟩
    · refine ⟨⟨o, I.kIn p o hk, hc⟩, fun a e => ?_⟩
      cases e
      exact ⟨o, I.kIn _ o hk, hd⟩
    · have z : ∃ o, s.heap.get? p = some o ∧ o.ExactDict := by
        rcases hk with ⟨kvs, hk⟩ | ⟨kvs, hk⟩
        · obtain ⟨_, _, _, _, o, _, _, e, ex, _⟩ := I.hok p _ hk
          exact ⟨o, e, ex⟩
        · obtain ⟨_, _, _, _, o, _, _, e, ex, _⟩ := I.hok p _ hk
          exact ⟨o, e, ex⟩
      obtain ⟨o, e, ex⟩ := z
      refine ⟨⟨o, e, ex.1⟩, fun a e2 => ?_⟩
      cases e2
      exact ⟨o, e, ex.2.1⟩
    · obtain ⟨o, _, _, _, e, ex, _⟩ := I.hok p _ hk
      refine ⟨⟨o, e, ex.1⟩, fun a e2 => ?_⟩
      cases e2
      exact ⟨o, e, ex.2.1⟩
  | _ => exact False.elim ty
def tBM (K : PySem.W.Frag) (T : String) (r : V → List V → Hp → VK → Prop) (to : TE) (t : TA) : TE := fun σ H Q => to σ H fun x H1 => tyV K T x H1 ∧ t σ H1 fun xs H2 => r x xs H2 Q
variable {o e : Expr} {es : List Expr} {to : TE} {t : TA} {name : Str} {apos cpos : Pos} {T id : String} {r : V → List V → Hp → VK → Prop}
theorem pe_bm (pa : PlainAttrs T) (slot : Slot T name id) (hty : typeOf (.builtin id) = pure (.type "method_descriptor")) (hm : MtR X id r) (ho : PE X o to) (ha : PA X (e :: es) t)
    (hbase : attributeBase o name X.env (eval o X.env) = eval o X.env := by rfl)
    (hfew : ((backTo cpos (starEach (e :: es) X.env)).all (fun x => !x.1) && (backToKw cpos (keywordEach [] X.env)).all (fun x => x.1.isSome)
      && decide ((e :: es).length + ([] : List Keyword).length + (if ([] : List Keyword).isEmpty then 0 else 1) < 30)) = true := by rfl)
    (hline : (apos.endLine == cpos.line) = true := by rfl) (hs : starEach (e :: es) X.env = (false, eval e X.env) :: starEach es X.env := by rfl) (hplain : (backTo cpos (starEach es X.env)).any (·.1) = false := by rfl) :
    PE X (.Call (.Attribute o name apos) (e :: es) [] cpos) (tBM X.K T r to t) := by
  intro pins s σ H Q I h
  refine wpAny_Call_method_late hbase hfew hline rfl (thn (ho pins s σ H _ I h) fun v s1 ⟨x, H1, I1, r1, ty, q1⟩ => ?_)
  obtain ⟨h1, h2⟩ := tyV_is I1 r1 ty
  refine ⟨T, id, pa, slot, hty, h1, h2, ?_⟩
  have hA := ha cpos pins s1 σ H1 _ I1 q1
  rw [hs] at hA ⊢
  refine Calls.callWith_builtin (by show (false || (backTo cpos (starEach es X.env)).any (·.1)) = false; rw [hplain] <;> rfl) (Calls.evalArgs_plain ?_)
  exact thn hA fun us s2 ⟨vs, H2, I2, r2, q2⟩ => hm pins s2 σ H2 x vs v us Q I2 r1 r2 q2
/- xs.append(e), list.index on a module's tuple .. are MtR facts of 06m -/
end
end L2

namespace L2
open PySem PySem.Spec PyProof.Rows

def MtM (X : Cx) (id : String) (r : V → List V → Hp → VK → Prop) : Prop :=
  ∀ (pins : List (Addr × Obj)) (s : Shared) (σ : St) (H : Hp) (x : V) (xs : List V) (v : Value) (us : List Value) (Q : VK), Inv X pins σ H s → RelV x v → Vals xs us → r x xs H Q →
    wpAny (model X.prog X.w) X.A (call (.builtin id) (v :: us)) (EP X pins σ Q) X.xe s

/-! ### lists of values -/
theorem Vals.one : ∀ {x : V} {us : List Value}, Vals [x] us → ∃ u, us = [u] ∧ RelV x u
  | _, _, .cons r .nil => ⟨_, rfl, r⟩
theorem Vals.two : ∀ {x y : V} {us : List Value}, Vals [x, y] us → ∃ u v, us = [u, v] ∧ RelV x u ∧ RelV y v
  | _, _, _, .cons r (.cons q .nil) => ⟨_, _, rfl, r, q⟩
theorem Vals.rep {xs : List V} {us : List Value} (h : Vals xs us) : ∀ k : Nat, Vals (List.replicate k xs).flatten (List.replicate k us).flatten
  | 0 => .nil
  | k + 1 => by
    rw [List.replicate_succ, List.replicate_succ, List.flatten_cons, List.flatten_cons]
    exact Vals.append h (Vals.rep h k)
theorem foldl_rep (its : List Value) : ∀ (k : Nat) (acc : List Value),
    List.foldl (fun x1 x2 => x1 ++ x2) acc.toArray (List.replicate k its.toArray) = (acc ++ (List.replicate k its).flatten).toArray
  | 0, acc => by simp
  | k + 1, acc => by
    have e : acc.toArray ++ its.toArray = (acc ++ its).toArray := by simp
    have e2 : (acc ++ its) ++ (List.replicate k its).flatten = acc ++ (List.replicate (k + 1) its).flatten := by
      rw [List.replicate_succ, List.flatten_cons, List.append_assoc]
    rw [← e2, ← foldl_rep its k (acc ++ its), ← e, List.replicate_succ, List.foldl_cons]

section
variable {X : Cx} {pins : List (Addr × Obj)} {σ : St} {H : Hp} {s : Shared} {l b : Addr} {xs ys zs : List V}

/-! ### the two steps: a tracked list is rewritten, a new list is laid -/
theorem Inv.lset {its its' : List Value} {n : Nat} {f : Array Value → Array Value} {t' : Nat} (I : Inv X pins σ H s) (hH : H l = some (.lst xs))
    (e : s.heap.get? l = some { cls := .type "list", data := .seq its.toArray n }) (hf : f its.toArray = its'.toArray) (hv : Vals ys its') (hz : ys.length ≤ sizeLine) :
    Inv X pins σ (upd H l (.lst ys)) { s with heap := s.heap.update l (Obj.mapSeq f), toks := t' } := by
  have q := PySem.IsL.update e f
  rw [hf] at q
  refine I.write (x := l) (e := l) (by rw [hH]; exact trivial) (.inl rfl) (fun b' u hb hu => (Heap.get?_update_other s.heap (Obj.mapSeq f) (Ne.symm hb)).trans hu) ⟨_, q⟩ ?_
  exact ⟨hz, its', _, hv, q⟩
theorem Inv.lnew {its : List Value} {t' : Nat} (I : Inv X pins σ H s) (hv : Vals ys its) (hz : ys.length ≤ sizeLine) :
    Inv X pins σ (upd H s.heap.objs.size (.lst ys)) { s with heap := s.heap.push { cls := .type "list", data := .seq its.toArray }, toks := t' } :=
  I.laid (fun _ _ q => Heap.get?_push_of_some _ q) (Nat.le_refl _) ⟨hz, its, 0, hv, Heap.get?_push_size _ rfl⟩
theorem Inv.fresh (I : Inv X pins σ H s) : H s.heap.objs.size = none := I.hok.fresh (Nat.le_refl _)
theorem Inv.lstM (I : Inv X pins σ H s) (hH : H l = some (.lst xs)) : xs.length ≤ sizeLine ∧ ∃ (its : List Value) (n : Nat), Vals xs its ∧ xs.length = its.length ∧ s.heap.get? l = some { cls := .type "list", data := .seq its.toArray n } := by
  obtain ⟨z, its, n, r, e⟩ := I.hok l _ hH
  exact ⟨z, its, n, r, r.length, e⟩

theorem notLongL {n : Nat} (h : n ≤ sizeLine) : Builtin.List.listTooLong n = false := by
  unfold Builtin.List.listTooLong
  exact decide_eq_false (by omega)
end

section
variable {X : Cx}

/-! ### methods -/
def rAppend : V → List V → Hp → VK → Prop := fun x vs H Q => ∃ l xs y, x = .ref l ∧ vs = [y] ∧ H l = some (.lst xs) ∧ xs.length < sizeLine ∧ Q .non (upd H l (.lst (xs ++ [y])))
theorem mt_append : MtM X "list.append" rAppend := by
  intro pins s σ H x vs v us Q I rx rv h
  obtain ⟨l, xs, y, rfl, rfl, hH, hz, q⟩ := h
  cases rx
  obtain ⟨u, rfl, ru⟩ := rv.one
  obtain ⟨z, its, n, r, hl, e⟩ := I.lstM hH
  refine call_meets F.slot_list_append ⟨_, e, rfl⟩ F.entry_list_append (F.args_list_append_2 _ _) (PySem.list_append l its.toArray n u (by rw [List.size_toArray]; omega)) ⟨e, ?_⟩
  refine ⟨.non, _, I.lset (its' := its ++ [u]) hH e (by simp) (r.append (.cons ru .nil)) ?_, rfl, q⟩
  rw [List.length_append, List.length_singleton]
  omega

def rExtend : V → List V → Hp → VK → Prop := fun x vs H Q => ∃ l b xs zs, x = .ref l ∧ vs = [.ref b] ∧ H l = some (.lst xs) ∧ H b = some (.lst zs) ∧ xs.length + zs.length ≤ sizeLine ∧ Q .non (upd H l (.lst (xs ++ zs)))
theorem mt_extend : MtM X "list.extend" rExtend := by
  intro pins s σ H x vs v us Q I rx rv h
  obtain ⟨l, b, xs, zs, rfl, rfl, hH, hB, hz, q⟩ := h
  cases rx
  obtain ⟨u, rfl, ru⟩ := rv.one
  cases ru
  obtain ⟨z, its, n, r, hl, e⟩ := I.lstM hH
  obtain ⟨z2, its2, n2, r2, hl2, e2⟩ := I.lstM hB
  have hsz : its.toArray.size + its2.toArray.size ≤ sizeLine := by rw [List.size_toArray, List.size_toArray]; omega
  have hlong : ¬ (!its.toArray.isEmpty && Builtin.List.listTooLong (its.toArray.size + its2.toArray.size)) = true := by
    rw [notLongL hsz, Bool.and_false]
    exact Bool.false_ne_true
  refine call_meets F.slot_list_extend ⟨_, e, rfl⟩ F.entry_list_extend (F.args_list_extend_2 _ _)
    (AutoSeq1.list_extend_list_list_0 l its.toArray n b its2.toArray n2 hlong (by rw [List.size_toArray]; omega) (by omega)) ⟨e, e2, ?_⟩
  refine ⟨.non, _, I.lset (its' := its ++ its2) hH e (by simp) (r.append r2) ?_, rfl, q⟩
  rw [List.length_append]
  omega

/-! ### list + list, list += list, list * int -/
def rCat : R2 := fun x y H Q => ∃ l b xs zs, x = .ref l ∧ y = .ref b ∧ H l = some (.lst xs) ∧ H b = some (.lst zs) ∧ xs.length + zs.length ≤ sizeLine ∧ ∀ p, H p = none → Q (.ref p) (upd H p (.lst (xs ++ zs)))
theorem op_cat : OpR X (binaryOp .Add) rCat := by
  intro pins s σ H x y v u Q I rx ry h
  obtain ⟨l, b, xs, zs, rfl, rfl, hH, hB, hz, q⟩ := h
  cases rx
  cases ry
  obtain ⟨z, its, n, r, hl, e⟩ := I.lstM hH
  obtain ⟨z2, its2, n2, r2, hl2, e2⟩ := I.lstM hB
  refine PySem.P.add_list e e2 ?_ (by rw [List.size_toArray, List.size_toArray]; omega)
  have ea : its.toArray ++ its2.toArray = (its ++ its2).toArray := by simp
  rw [ea]
  exact ⟨.ref _, _, I.lnew (t' := s.toks) (r.append r2) (by rw [List.length_append]; omega), rfl, q _ I.fresh⟩
/-- a list times an int (a negative one is nothing) -/
def rRep : R2 := fun x y H Q => ∃ l k xs, x = .ref l ∧ y = .int k ∧ H l = some (.lst xs) ∧ -(2 ^ 63) ≤ k ∧ k < 2 ^ 63 ∧ xs.length * k.toNat ≤ sizeLine ∧
  ∀ p, H p = none → Q (.ref p) (upd H p (.lst (List.replicate k.toNat xs).flatten))
theorem len_rep {α : Type} (xs : List α) (k : Nat) : (List.replicate k xs).flatten.length = k * xs.length := by
  induction k with
  | zero => simp
  | succ k ih => rw [List.replicate_succ, List.flatten_cons, List.length_append, ih, Nat.succ_mul, Nat.add_comm]
theorem op_rep : OpR X (binaryOp .Mult) rRep := by
  intro pins s σ H x y v u Q I rx ry h
  obtain ⟨l, k, xs, rfl, rfl, hH, h1, h2, hz, q⟩ := h
  cases rx
  obtain ⟨t, rfl⟩ := ry
  obtain ⟨z, its, n, r, hl, e⟩ := I.lstM hH
  have hlen : its.toArray.size * k.toNat ≤ sizeLine := by rw [List.size_toArray, ← hl]; exact hz
  have hcap : ¬ its.toArray.size * k.toNat > (2 ^ 63 - 1) / 8 := by
    have : (sizeLine : Nat) ≤ (2 ^ 63 - 1) / 8 := by decide
    omega
  have hfit : ¬ (!Builtin.List.listFitsIndex k) = true := by
    rw [fitsIndex_both h1 h2]
    exact Bool.false_ne_true
  have hlong : ¬ Builtin.List.listTooLong (its.toArray.size * k.toNat) = true := by
    rw [notLongL hlen]
    exact Bool.false_ne_true
  have hnew : List.foldl (fun x1 x2 => x1 ++ x2) #[] (List.replicate (if its.toArray.isEmpty = true then 0 else k.toNat) its.toArray) = (List.replicate k.toNat its).flatten.toArray := by
    have f0 : ∀ m : Nat, List.foldl (fun x1 x2 => x1 ++ x2) #[] (List.replicate m its.toArray) = (List.replicate m its).flatten.toArray := fun m => by
      have := foldl_rep its m []
      rw [List.nil_append] at this
      exact this
    rw [f0]
    cases its with
    | nil => simp
    | cons a r' => rw [if_neg (by simp)]
  refine wpAny_binaryOp_repeat_ref (T := "list") (U := "int") (by decide) ⟨_, e, rfl⟩ (fun s' => typeIs_int s' k t) noFill_list_mul F.fills_int_mul F.slot_int_rmul repeat_list F.slot_int_index.lookup
    (call_meets F.slot_int_rmul (typeIs_int s k t) F.entry_int_rmul (F.args_int_rmul_2 _ _) (int___rmul___int_list k t l its.toArray n)
      ⟨e, rfl, ⟨_, e, rfl⟩, call_meets F.slot_list_mul ⟨_, e, rfl⟩ F.entry_list_mul (F.args_list_mul_2 _ _) (AutoListH.list___mul___list_int_3 l its.toArray n k t hfit hcap hlong) ⟨e, ?_⟩⟩)
  rw [hnew]
  exact ⟨.ref _, _, I.lnew (t' := s.toks) (r.rep k.toNat) (by rw [len_rep, Nat.mul_comm]; exact hz), rfl, q _ I.fresh⟩

/-! ### del xs[i] -/
end

/-! ### xs[a:b] = ys -/
section
variable {prog : Program} {w : World} {A : Around} {E : Value → Shared → Prop} {s : Shared}
end

section
variable {X : Cx}
end
end L2

namespace Att
open PySem PySem.W PySem.Calls PyProof.Rows

/-! ### the script -/
theorem ints_of_wellAll {P : Params} {h : Heap} : ∀ (ns : List Int) (vs : List Value), WellAll P h vs (ns.map WData.int) → IntsAre vs ns := by
  intro ns
  induction ns with
  | nil =>
    intro vs w
    rw [List.map_nil] at w
    cases w
    exact .nil
  | cons n ns ih =>
    intro vs w
    rw [List.map_cons] at w
    cases w with
    | cons a b =>
      cases a
      exact .cons _ _ (ih _ b)

theorem script_of {l : OpenLaw} {n : Nat} (hn : l.most = some n) {P : Params} {h : Heap} {args : List WData} {vals : List Value}
    (hpre : l.row.toRowW.claim.pre args = true) (hwl : WellAll P h vals args) :
    ∃ a vs ns, vals = [Value.ref a] ∧ args = [WData.list (ns.map WData.int)] ∧ h.get? a = some { cls := .type "list", data := .seq vs.toArray } ∧ IntsAre vs ns ∧ ns.length ≤ n := by
  have hsh : WShape.hasAll [] args [.list .int] = true := (pre_splitW hpre).1
  have hc : l.pre.holds [] { args := args } = true := (pre_splitW hpre).2
  obtain ⟨d, r, rfl, h1, h2⟩ := hasAllW_cons hsh
  obtain rfl := hasAllW_nil h2
  obtain ⟨xs, rfl, h3⟩ := hasW_list h1
  obtain ⟨ns, rfl⟩ := items_int h3
  have hlen : ns.length ≤ n := by
    unfold OpenLaw.pre at hc
    have h4 : (WTm.not (.lt (.lit (.int (n : Int))) (.len (.arg 0)))).holds [] { args := [.list (ns.map .int)] } = true := by
      have h4 := (holds_andW hc).1
      rw [hn] at h4
      exact h4
    have h5 := condW_of h4 (w_not (w_lt w_lit (w_len_list (w_arg rfl))))
    rw [List.length_map] at h5
    refine Nat.le_of_not_lt fun q => ?_
    have q' : (n : Int) < ((ns.length : Nat) : Int) := by omega
    first
      | (rw [decide_eq_true q'] at h5; exact absurd h5 (by decide))
      | (simp at h5; omega)
  cases hwl with
  | cons w1 w2 =>
    cases w2
    cases w1 with
    | list ho hall => exact ⟨_, _, ns, rfl, rfl, ho, ints_of_wellAll ns _ hall, hlen⟩

theorem post_true (l : OpenLaw) (args : List WData) : l.row.toRowW.claim.post args (.bool true) args = true :=
  postW_of (r := l.row.toRowW) (X := (true == true))
    (show WShape.has [] (.bool true) .bool = true by first | rfl | decide | simp [WShape.has, WShape.arms, WShape.armsAll])
    (show (WTm.eq .res (.lit (.bool true))).value [] { args := args, res := some (.bool true), after := args } = some (.bool (true == true)) from w_eq_bool (w_res rfl) w_lit) rfl

/-! ### the attachment: holds_open's last premise (the goal 'hc' behind k_head) from a wpAny of the law's body -/
/-- the same from a codeAny of the CALL (for a layer whose function contracts speak of calls) -/
theorem attach_call {l : OpenLaw} {n : Nat} {q : Program} {loose : List Str} {XP : (Str → Option Value) → Heap → Prop} {YP : World → Heap → Prop} {d : DefRec}
    (hn : l.most = some n) (hdf : d.params.defaults = [])
    (call : ∀ (w : World) (s₀ s₁ : Shared) (mg mb : Str → Option Value) (fa : Addr) (o : Obj) (pm cd doc : Value) (a : Addr) (vs : List Value) (ns : List Int),
      Ground q loose [] XP w s₀ mg mb s₁.heap → YP w s₁.heap →
      s₁.heap.get? fa = some o → o.data = .func (docDef d.name d.params d.body d.scope pm cd doc) → s₁.heap.CodeRec cd d.name → mg d.name = some (.ref fa) →
      s₁.heap.get? a = some { cls := .type "list", data := .seq vs.toArray } → IntsAre vs ns → ns.length ≤ n → s₁.gens = #[] →
      codeAny (model l.prog w) callerA (.call (.ref fa) ⟨[.ref a], []⟩) (fun r s' => r = .ok (.ret (.bool true)) ∧ OldK s₁.heap s'.heap ∧ s'.os = s₁.os ∧ AllBare s'.gens) s₁) :
    WalkO q loose XP YP l.row.toRowW d [] (fun f vs => PySem.call f vs) := by
  intro w s₀ s₁ mg mb G Y fa o pm cd doc dV kV ho hd hcd hD hmg hg args vals as hpre hlay hrd hwl hlo
  obtain rfl : dV = .none := Dflts.none hD hdf
  obtain rfl : kV = .none := Dflts.noKw hD
  obtain ⟨a, vs, ns, rfl, rfl, hobj, hints, hlen⟩ := script_of hn hpre hwl
  refine enter_call (codeAny_mono (call w s₀ s₁ mg mb fa o pm cd doc a vs ns G Y ho (fd_plain hd) hcd hmg hobj hints hlen hg) fun r s' hq => ?_)
  obtain ⟨rfl, h2, h3, h4⟩ := hq
  exact ⟨.inl ⟨.bool true, .bool true, [], rfl, fun _ => rfl, .bool true, post_true l _, fun _ => ⟨List.Pairwise.nil, fun _ hm => (nomatch hm)⟩⟩, h2, h3, h4⟩

/-! ### rules over ANY heap (no ledger) from facts about the written part K: the library's own take a ledger (News) for what they write -/
section
variable {prog : Program} {w : World} {A : Around} {E : Value → Shared → Prop} {s : Shared} {K : Frag}

/-! the whole heap as the ledger: makes every rule that writes through a ledger a rule over any heap -/
end
end Att

namespace L2
open PySem PySem.Spec PyProof.Rows

theorem vals_ints : ∀ {vs : List Value} {ns : List Int}, IntsAre vs ns → Vals (ns.map V.int) vs
  | _, _, .nil => .nil
  | _, _, .cons n t h => .cons ⟨t, rfl⟩ (vals_ints h)

/-- nothing is tracked but the script, known to the object (or it is an object of the module) -/
def Only (H : Hp) : Prop := ∀ b, H b = none ∨ ∃ o xs, H b = some (.frz o (.lst xs))

/-- THE HEAD: the law's promise, at the heap behind the top. F, the promise of the law's def, may use that base is part of the heap (so K.In base, base.Ns mainGlobals mg stand in Mod) -/
theorem law_call {P : Program} {w : World} {K : PySem.W.Frag} {mg mb : Str → Option Value} {CX : CXT} {k : Nat} {fa a : Addr} {fd : FuncData} {x : Str} {sp : Sp} {s₁ : Shared} {vs : List Value} {ns : List Int}
    (KX : K.In s₁.heap) (hns : s₁.heap.Ns mainGlobals mg) (hb : s₁.heap.Ns builtinsNs mb) (hbb : ∀ x : Str, x ≠ "__name__" → mb x = bootBuiltins x) (hlim : s₁.heap.NoLimit) (hg : s₁.gens = #[])
    (ha : s₁.heap.get? a = some { cls := .type "list", data := .seq vs.toArray }) (hi : IntsAre vs ns) (hl : ns.length ≤ sizeLine) (hr : Room k callerA)
    (F : ∀ base : Heap, K.In base → base.Ns mainGlobals mg → FnOk P w K mg base CX k fa fd [x] sp) (hbind : ∀ (s : Shared) (u : Value), BindsTo s fd ⟨[u], []⟩ [(x, u)])
    (hsp : ∀ H : Hp, Only H → SqL K H a (ns.map V.int) → sp [.ref a] H (fun v _ => v = .bl true) fun _ _ _ => False)
    (hCX : ∀ H e s', CX [] H s₁ (fun _ _ _ => False) e s' → False) :
    codeAny (model P w) callerA (.call (.ref fa) ⟨[.ref a], []⟩) (fun r s' => r = .ok (.ret (.bool true)) ∧ OldK s₁.heap s'.heap ∧ s'.os = s₁.os ∧ AllBare s'.gens) s₁ := by
  have rv := vals_ints hi
  have lenV := hi.length
  -- from an abstract heap in which nothing but the script may be tracked
  have core : ∀ H : Hp, Only H → SqL K H a (ns.map V.int) → HOk P w H s₁.heap → (∀ b, H b ≠ none → b = a) → (H a ≠ none → K.lookup a = none) →
      codeAny (model P w) callerA (.call (.ref fa) ⟨[.ref a], []⟩) (fun r s' => r = .ok (.ret (.bool true)) ∧ OldK s₁.heap s'.heap ∧ s'.os = s₁.os ∧ AllBare s'.gens) s₁ := by
    intro H hO hS hok hA hK
    have base_of : ∀ {b : Addr} {o : Obj}, s₁.heap.get? b = some o → H b = none → (hidT s₁.heap H).get? b = some o := fun e n => hidT_get e n
    have noA : ∀ {b : Addr} {o : Obj} {es : Array DictEntry} {ep : Nat}, s₁.heap.get? b = some o → o.data = .dict es ep → H b = none := fun {b o es ep} e d => by
      cases q : H b with
      | none => rfl
      | some u =>
        have e' : b = a := hA b (by rw [q]; simp)
        subst e'
        rw [ha] at e; cases e
        have d' : Data.seq vs.toArray _ = Data.dict es ep := d
        cases d'
    have nsK : ∀ {b : Addr} {m : Str → Option Value}, s₁.heap.Ns b m → (hidT s₁.heap H).Ns b m := fun {b m} ⟨o, es, ep, e, d, r⟩ => ⟨o, es, ep, base_of e (noA e d), d, r⟩
    have hKb : K.In (hidT s₁.heap H) := fun b o e => base_of (KX b o e) (by
      cases q : H b with
      | none => rfl
      | some u =>
        have e' : b = a := hA b (by rw [q]; simp)
        subst e'
        rw [hK (by rw [q]; simp)] at e; cases e)
    have hM : Mod K mg (hidT s₁.heap H) := ⟨hKb, nsK hns, ⟨mb, nsK hb, hbb⟩, let ⟨mc, h1, h2⟩ := hlim; ⟨mc, nsK h1, h2⟩⟩
    have e0 : Env0 P w K mg (hidT s₁.heap H) callerA [] s₁ H := ⟨rfl, hM, fun b o e => of_hidT e, Nat.le_of_eq (hidT_size _ _), trivial, fun b hb => absurd (show b ∈ ([] : List Addr) from hb) (by simp), hok, .of_eq hg⟩
    refine codeAny_mono ((F _ hKb (nsK hns)).run callerA [] s₁ H ⟨[.ref a], []⟩ [.ref a] [.ref a] _ _ hr e0 (hbind s₁ (.ref a)) (.cons rfl .nil) (hsp H hO hS)) fun r s' h => ?_
    cases r with
    | error e => exact (hCX H e s' h).elim
    | ok fl =>
      cases fl with
      | next => exact False.elim h
      | brk => exact False.elim h
      | cont => exact False.elim h
      | ret u =>
        obtain ⟨v, H', os, bare, un, hok', r', q⟩ := h
        have q' : v = .bl true := q
        subst q'
        obtain rfl : u = Value.bool true := r'
        refine ⟨rfl, OldK.of_keep fun b o e => ?_, os, bare⟩
        cases q : H b with
        | none => exact un.keep b o e q (by intro z; exact absurd (show b ∈ ([] : List Addr) from z) (by simp)) (by simp)
        | some u =>
          rcases hO b with z | ⟨ob, xs, z⟩
          · rw [q] at z; cases z
          · have z2 := un.frzs b ob _ z
            obtain ⟨e1, _⟩ := hok b _ z
            obtain ⟨e2, _⟩ := hok' b _ z2
            rw [e] at e1; cases e1
            exact e2
  cases hk : K.lookup a with
  | some o =>
    -- the script is one of the module's own objects
    have e := KX a o hk
    rw [ha] at e
    cases e
    refine core (fun _ => none) (fun _ => .inl rfl) (.inr ⟨_, vs.toArray, _, hk, rfl, rfl, rfl, by rw [List.size_toArray, lenV]; exact hl, by simpa using rv⟩) (fun b u z => by have z' : (none : Option HO) = some u := z; cases z') (fun b z => absurd rfl z) fun z => absurd rfl z
  | none =>
    refine core (fun b => if b = a then some (.frz { cls := .type "list", data := .seq vs.toArray } (.lst (ns.map V.int))) else none) (fun b => ?_) (.inl (.inr ⟨{ cls := .type "list", data := .seq vs.toArray }, if_pos rfl⟩)) (fun b u z => ?_) (fun b z => ?_) fun _ => hk
    · by_cases hb : b = a
      · exact .inr ⟨_, _, if_pos hb⟩
      · exact .inl (if_neg hb)
    · by_cases hb : b = a
      · have z' := (if_pos hb).symm.trans z
        cases z'
        subst hb
        exact ⟨ha, by rw [List.length_map]; exact hl, vs, _, rv, ha⟩
      · have z' := (if_neg hb).symm.trans z
        cases z'
    · by_cases hb : b = a
      · exact hb
      · exact absurd (if_neg hb) z
end L2

namespace L2
open PySem PySem.Spec PyProof.Rows

/-- the goal that k_head leaves (case hc), from the law's promise. F gives the function object fd (K's own) once, then the promise over every base -/
theorem walk_of {l : PySem.W.OpenLaw} {n k : Nat} {q : Program} {loose : List Str} {XP : (Str → Option Value) → Heap → Prop} {YP : World → Heap → Prop} {d : DefRec} {K : Params → PySem.W.Frag} {CX : World → CXT} {sp : World → Sp} {x : Str}
    (hn : l.most = some n) (hn2 : n ≤ sizeLine) (hdf : d.params.defaults = []) (hr : Room k callerA)
    (hY : ∀ (w : World) (h : Heap), YP w h → (K w.params).In h)
    (F : ∀ (w : World) (mg : Str → Option Value) (fa : Addr) (h : Heap), (K w.params).In h → h.Ns mainGlobals mg → mg d.name = some (.ref fa) →
      ∃ fd : FuncData, (∀ (s : Shared) (u : Value), BindsTo s fd ⟨[u], []⟩ [(x, u)]) ∧
        ∀ base : Heap, (K w.params).In base → base.Ns mainGlobals mg → FnOk l.prog w (K w.params) mg base (CX w) k fa fd [x] (sp w))
    (hsp : ∀ (w : World) (H : Hp) (a : Addr) (ns : List Int), ns.length ≤ n → Only H → SqL (K w.params) H a (ns.map V.int) → sp w [.ref a] H (fun v _ => v = .bl true) fun _ _ _ => False)
    (hCX : ∀ (w : World) (H : Hp) (s : Shared) (e : Value) (s' : Shared), CX w [] H s (fun _ _ _ => False) e s' → False) :
    PySem.W.WalkO q loose XP YP l.row.toRowW d [] (fun f vs => PySem.call f vs) := by
  refine Att.attach_call hn hdf fun w s₀ s₁ mg mb fa o pm cd doc a vs ns G Y ho hd hcd hmg hobj hints hlen hg => ?_
  have KX := hY w _ Y
  obtain ⟨fd, hb, hF⟩ := F w mg fa _ KX G.T.g hmg
  exact law_call KX G.T.g G.T.b G.T.builtins G.T.nolimit hg hobj hints (Nat.le_trans hlen hn2) hr hF hb (fun H hO hS => hsp w H a ns hlen hO hS) fun H e s' => hCX w H s₁ e s'
end L2

/- THE LAST THEOREM (shape; LID, My.* are yours):
   My.Adr: a structure of the addresses that your layer names (classes, functions); My.Txt K t: a structure (Prop) of the equations over K;
   My.txt_mk : {K} {implicit addresses ..} (e1 : nsIn K mainGlobals "law" = some (some (.ref f))) (e2 : K.lookup f = some ⟨oc, od, .func (fnOf "law" "law" params body scope dV kV doc pm an cdv ct), sl⟩) (e3 : codeIn K cdv "law" = true) .. : ∃ t, My.Txt K t

set_option maxRecDepth 100000 in
set_option maxHeartbeats 0 in
theorem PySem.Challenge.cw_LID_holds : PySem.Challenge.rw_LID.Holds := by
  w_on; o_law; k_head; (case hw => w_witness2)
  k_fill
  refine L2.walk_of (l := PySem.Challenge.rw_LID) (n := 63) (k := 40) (x := "script") (CX := fun w => ..) (sp := fun _ => My.sp_law) rfl (by decide) rfl ⟨rfl, by decide, by decide⟩ (fun w h Y => PySem.W.kIn_of Y) ?F ?S ?C
  case F =>
    intro w mg fa h KX G hmg
    have T : ∃ t, My.Txt (L2.KOf KX) t := by
      dsimp only [L2.KOf]                          -- K must stand as «<heap const> w.params» for k_is
      refine' My.txt_mk ?e1 ?e2 ?e3 ..
      (case e1 => PySem.W.k_is)                    -- in the order: a name -> its address -> its object -> its parts
      (case e2 => PySem.W.k_is)
      ..
    obtain ⟨t, T⟩ := T
    have e0 := hmg.symm.trans (PySem.W.mg_of KX G T.law)
    cases e0                                       -- fa is the law's own address
    exact ⟨_, fun s u => .of_eq rfl, fun base kb nb => My.law_fn T kb nb⟩     -- if «.of_eq rfl» comes too early: refine' ⟨_, ?b, fun base kb nb => My.law_fn T kb nb⟩; exact fun s u => .of_eq rfl
  case S => exact fun w H a ns hl hO hS => ..
  case C => exact ..
(the tactic k_is has no namespace: write k_is) -/

/-! SHORT WORDS over the layer: a def of the text, its body, what a loop and a test want. -/
namespace L2
open PySem PySem.Spec PyProof.Rows

/-! ### the text by places -/
def defArgs (s : Stmt) : Arguments := match s with
  | .FunctionDef _ a _ _ _ _ _ _ _ _ => a
  | _ => { posonlyargs := [], args := [], vararg := none, kwonlyargs := [], kw_defaults := [], kwarg := none, defaults := [] }
def defBody (s : Stmt) : List Stmt := match s with
  | .FunctionDef _ _ b _ _ _ _ _ _ _ => b
  | _ => []
def defScope (s : Stmt) : Scope := match s with
  | .FunctionDef _ _ _ _ _ _ sc _ _ _ => sc
  | _ => { kind := .function, names := [], isGenerator := false, isCoroutine := false }

/-! ### no exception leaves a def -/
abbrev E0 : XK := fun _ _ _ => False
/-! ### a def (or method) of the text as it stands behind the top -/
structure Fun (K : PySem.W.Frag) (x qual : Str) (st : Stmt) (f : Addr) (fd : FuncData) : Prop where
  ex : ∃ (oc : Value) (od : Option Addr) (kV doc pm : Value) (an : Option Addr) (cdv ct : Value) (osl : Array (Option Value)),
    fd = PySem.W.fnOf x qual (defArgs st) (defBody st) (defScope st) .none kV doc pm an cdv ct ∧ K.lookup f = some ⟨oc, od, .func fd, osl⟩ ∧ PySem.W.codeIn K cdv qual = true
  kp : PySem.W.keepIn K (.ref f) = true
section
variable {P : Program} {w : World} {K : PySem.W.Frag} {mg : Str → Option Value} {base : Heap}
/-- how its arguments bind (no defaults): h is «fun _ _ _ _ _ _ us hl => match us, hl with | [_, _], _ => rfl», one _ a parameter -/
theorem Fun.binds {x qual : Str} {st : Stmt} {f : Addr} {fd : FuncData} {ps : List Str} (F : Fun K x qual st f fd)
    (h : ∀ (kV doc pm : Value) (an : Option Addr) (cdv ct : Value) (us : List Value), us.length = ps.length → bindArgs (PySem.W.fnOf x qual (defArgs st) (defBody st) (defScope st) .none kV doc pm an cdv ct) ⟨us, []⟩ = pure (ps.zip us)) : Binds K fd ps [] := by
  obtain ⟨oc, od, kV, doc, pm, an, cdv, ct, osl, rfl, lk, hcd⟩ := F.ex
  exact .all (h kV doc pm an cdv ct)
theorem fun_mk {x qual : Str} {st : Stmt} {f : Addr} {oc : Value} {od an : Option Addr} {osl : Array (Option Value)} {kV doc pm cdv ct : Value} (l : K.lookup f = some ⟨oc, od, .func (PySem.W.fnOf x qual (defArgs st) (defBody st) (defScope st) .none kV doc pm an cdv ct), osl⟩)
    (c : PySem.W.codeIn K cdv qual = true) (k : PySem.W.keepIn K (.ref f) = true) : Fun K x qual st f (PySem.W.fnOf x qual (defArgs st) (defBody st) (defScope st) .none kV doc pm an cdv ct) := ⟨⟨oc, od, kV, doc, pm, an, cdv, ct, osl, rfl, l, c⟩, k⟩
end
theorem hu_of {A : Around} {k : Nat} (hr : Room k A) : A.units + 1 < cLine := Nat.lt_of_le_of_lt (Nat.add_le_add_left (by decide : 1 ≤ 64) _) hr.units
/-! ### expressions in short: the name that stands in the i-th slot -/
section
variable {X : Cx}
theorem pv (i : Nat) {x : Str} {pos : Pos} (hN : X.N[i]? = some x := by rfl) (hv : Vis X.env.scope x := by first | exact Or.inl rfl | exact Or.inr (Or.inl rfl) | exact Or.inr (Or.inr rfl)) (hd : (x == ("__debug__" : Str)) = false := by decide)
    (hcd : (x == ("__classdict__" : Str)) = false := by decide) : PE X (.Name x pos) (tVar i) := pe_var hN hv hd hcd
end

/-! ### tests -/
theorem iteF {A B : Prop} (h : B) : if false = true then A else B := by
  rw [if_neg Bool.false_ne_true]
  exact h
theorem iteT {A B : Prop} (h : A) : if true = true then A else B := by
  rw [if_pos rfl]
  exact h
theorem ite2 {c A B : Prop} [Decidable c] (h1 : c → A) (h2 : ¬ c → B) : if c then A else B := by
  by_cases h : c
  · rw [if_pos h]
    exact h1 h
  · rw [if_neg h]
    exact h2 h
/-! ### heaps -/
/-- all that was tracked is as it was -/
def Same (H H' : Hp) : Prop := ∀ b o, H b = some o → H' b = some o
theorem Same.refl (H : Hp) : Same H H := fun _ _ h => h
theorem Same.trans {H H1 H2 : Hp} (a : Same H H1) (b : Same H1 H2) : Same H H2 := fun c o h => b c o (a c o h)
theorem Same.free {H H' : Hp} (e : Same H H') {l : Addr} (h : H' l = Option.none) : H l = Option.none := by
  cases q : H l with
  | none => rfl
  | some o =>
    rw [e l o q] at h
    cases h
theorem Same.seq {K : PySem.W.Frag} {H H' : Hp} {a : Addr} {xs : List V} (e : Same H H') (h : SqL K H a xs) : SqL K H' a xs := by
  rcases h with (h | ⟨o, h⟩) | h
  · exact .inl (.inl (e _ _ h))
  · exact .inl (.inr ⟨o, e _ _ h⟩)
  · exact .inr h

end L2
set_option Elab.async false
set_option linter.all false
set_option maxRecDepth 100000
/-! Plain data over the hand layer: what a value stands for (a tree of ints, texts, None, bools, lists, tuples), == of such, isinstance of such. -/
namespace L2
open PySem PySem.Spec PyProof.Rows

mutual
/-- the value v stands for the data d -/
inductive Rep (H : Hp) : V → PyData → Prop
  | non : Rep H .non .none
  | bl (b : Bool) : Rep H (.bl b) (.bool b)
  | int (i : Int) : Rep H (.int i) (.int i)
  | str (x : Str) : Rep H (.str x) (.str x)
  | lst {a : Addr} {vs : List V} {ds : List PyData} : H a = some (.lst vs) → Reps H vs ds → Rep H (.ref a) (.list ds)
  | tup {a : Addr} {vs : List V} {ds : List PyData} : H a = some (.tup vs) → Reps H vs ds → Rep H (.ref a) (.tuple ds)
inductive Reps (H : Hp) : List V → List PyData → Prop
  | nil : Reps H [] []
  | cons {v : V} {vs : List V} {d : PyData} {ds : List PyData} : Rep H v d → Reps H vs ds → Reps H (v :: vs) (d :: ds)
end

mutual
theorem Rep.mono {H H' : Hp} (e : Same H H') : ∀ {v : V} {d : PyData}, Rep H v d → Rep H' v d
  | _, _, .non => .non
  | _, _, .bl b => .bl b
  | _, _, .int i => .int i
  | _, _, .str x => .str x
  | _, _, .lst h r => .lst (e _ _ h) (Reps.mono e r)
  | _, _, .tup h r => .tup (e _ _ h) (Reps.mono e r)
theorem Reps.mono {H H' : Hp} (e : Same H H') : ∀ {vs : List V} {ds : List PyData}, Reps H vs ds → Reps H' vs ds
  | _, _, .nil => .nil
  | _, _, .cons r rs => .cons (Rep.mono e r) (Reps.mono e rs)
end

/-- no list within -/
def immut : PyData → Bool
  | .none => true
  | .bool _ => true
  | .int _ => true
  | .str _ => true
  | .list _ => false
  | .tuple ds => all ds
  | .dict _ => false
where all : List PyData → Bool
  | [] => true
  | d :: ds => immut d && all ds

/-- the tuples stand -/
def TSame (H H' : Hp) : Prop := ∀ b xs, H b = some (.tup xs) → H' b = some (.tup xs)
theorem Same.ts {H H' : Hp} (e : Same H H') : TSame H H' := fun b xs h => e b _ h
theorem TSame.trans {H H1 H2 : Hp} (a : TSame H H1) (b : TSame H1 H2) : TSame H H2 := fun c xs h => b c xs (a c xs h)
theorem TSame.new {H : Hp} {p : Addr} (h : H p = none) (o : HO) : TSame H (upd H p o) := fun b xs q => by rw [upd_ne (ne_of_none q h)]; exact q
theorem TSame.lst {H : Hp} {p : Addr} {xs : List V} (h : H p = some (.lst xs)) (o : HO) : TSame H (upd H p o) := fun b ys q => by rw [upd_ne (ne_of q h (by intro z; cases z))]; exact q
theorem same_new {H : Hp} {p : Addr} (h : H p = none) (o : HO) : Same H (upd H p o) := fun b u q => by rw [upd_ne (ne_of_none q h)]; exact q
/-- what is new may be written -/
theorem Same.write {H H' : Hp} (e : Same H H') {p : Addr} (h : H p = none) (o : HO) : Same H (upd H' p o) := fun b u q => by rw [upd_ne (ne_of_none q h)]; exact e b u q

mutual
theorem Rep.tmono {H H' : Hp} (e : TSame H H') : ∀ {v : V} {d : PyData}, immut d = true → Rep H v d → Rep H' v d
  | _, _, _, .non => .non
  | _, _, _, .bl b => .bl b
  | _, _, _, .int i => .int i
  | _, _, _, .str x => .str x
  | _, _, h, .lst _ _ => by simp [immut] at h
  | _, _, h, .tup q r => .tup (e _ _ q) (Reps.tmono e (by simpa [immut] using h) r)
theorem Reps.tmono {H H' : Hp} (e : TSame H H') : ∀ {vs : List V} {ds : List PyData}, immut.all ds = true → Reps H vs ds → Reps H' vs ds
  | _, _, _, .nil => .nil
  | _, d :: ds, h, .cons r rs => by
    have h' : immut d = true ∧ immut.all ds = true := by simpa [immut.all] using h
    exact .cons (Rep.tmono e h'.1 r) (Reps.tmono e h'.2 rs)
end

section
variable {H : Hp}
theorem Rep.int_inv {v : V} {i : Int} (r : Rep H v (.int i)) : v = .int i := by cases r; rfl
theorem Rep.tup_inv {v : V} {ds : List PyData} (r : Rep H v (.tuple ds)) : ∃ a vs, v = .ref a ∧ H a = some (.tup vs) ∧ Reps H vs ds := by
  cases r with | tup h q => exact ⟨_, _, rfl, h, q⟩
theorem Reps.length : ∀ {vs : List V} {ds : List PyData}, Reps H vs ds → vs.length = ds.length
  | _, _, .nil => rfl
  | _, _, .cons _ r => congrArg (· + 1) (Reps.length r)
theorem Reps.get : ∀ {vs : List V} {ds : List PyData} {i : Nat} {d : PyData}, Reps H vs ds → ds[i]? = some d → ∃ v, vs[i]? = some v ∧ Rep H v d
  | _, _, _, _, .nil, e => by simp at e
  | _, _, 0, _, .cons r _, e => by
    have e' := Option.some.inj (show some _ = some _ from e)
    subst e'
    exact ⟨_, rfl, r⟩
  | _, _, i + 1, d, .cons _ t, e => by
    obtain ⟨v, h1, h2⟩ := Reps.get (i := i) (d := d) t (by simpa using e)
    exact ⟨v, by simpa using h1, h2⟩
theorem Reps.get' : ∀ {vs : List V} {ds : List PyData} {i : Nat} {v : V}, Reps H vs ds → vs[i]? = some v → ∃ d, ds[i]? = some d ∧ Rep H v d
  | _, _, _, _, .nil, e => by simp at e
  | _, _, 0, _, .cons r _, e => by
    have e' := Option.some.inj (show some _ = some _ from e)
    subst e'
    exact ⟨_, rfl, r⟩
  | _, _, i + 1, v, .cons _ t, e => by
    obtain ⟨d, h1, h2⟩ := Reps.get' (i := i) (v := v) t (by simpa using e)
    exact ⟨d, by simpa using h1, h2⟩
theorem Reps.append : ∀ {vs us : List V} {ds es : List PyData}, Reps H vs ds → Reps H us es → Reps H (vs ++ us) (ds ++ es)
  | _, _, _, _, .nil, q => q
  | _, _, _, _, .cons r rs, q => .cons r (Reps.append rs q)
theorem Reps.take : ∀ {vs : List V} {ds : List PyData} (n : Nat), Reps H vs ds → Reps H (vs.take n) (ds.take n)
  | _, _, 0, _ => .nil
  | _, _, _ + 1, .nil => .nil
  | _, _, n + 1, .cons r t => .cons r (Reps.take n t)
theorem Reps.drop : ∀ {vs : List V} {ds : List PyData} (n : Nat), Reps H vs ds → Reps H (vs.drop n) (ds.drop n)
  | _, _, 0, r => r
  | _, _, _ + 1, .nil => .nil
  | _, _, n + 1, .cons _ t => Reps.drop n t
theorem Reps.one {v : V} {d : PyData} (r : Rep H v d) : Reps H [v] [d] := .cons r .nil
theorem Reps.ints : ∀ {ns : List Int}, Reps H (ns.map V.int) (ns.map PyData.int)
  | [] => .nil
  | n :: r => .cons (.int n) (Reps.ints (ns := r))
theorem Reps.ints_inv : ∀ {vs : List V} {ns : List Int}, Reps H vs (ns.map PyData.int) → vs = ns.map V.int
  | _, [], r => by cases r; rfl
  | _, n :: ns, r => by
    cases r with
    | cons q t => rw [Rep.int_inv q, Reps.ints_inv (ns := ns) t]; rfl
end

mutual
theorem Rep.reads {P : Program} {w : World} {H : Hp} {h : Heap} (ok : HOk P w H h) : ∀ {v : V} {d : PyData} {u : Value}, Rep H v d → RelV v u → ∃ as, Reads h u d as
  | _, _, _, .non, q => by cases (show _ = Value.none from q); exact ⟨_, .none⟩
  | _, _, _, .bl b, q => by cases (show _ = Value.bool b from q); exact ⟨_, .bool b⟩
  | _, _, _, .int i, q => by obtain ⟨t, e⟩ := q; cases e; exact ⟨_, .int i t⟩
  | _, _, _, .str x, q => by obtain ⟨t, e⟩ := q; cases e; exact ⟨_, .str x t⟩
  | _, _, _, .lst (a := a) (vs := vs) e r, q => by
    cases (show _ = Value.ref a from q)
    obtain ⟨_, its, n, rv, ho⟩ := (show ObjOk P w H h a (.lst vs) from ok a _ e)
    obtain ⟨as, z⟩ := Reps.reads ok r rv
    exact ⟨_, .list ho rfl rfl (by simpa using z)⟩
  | _, _, _, .tup (a := a) (vs := vs) e r, q => by
    cases (show _ = Value.ref a from q)
    obtain ⟨_, its, rv, o, ho, hc, _, n, hd⟩ := (show ObjOk P w H h a (.tup vs) from ok a _ e)
    obtain ⟨as, z⟩ := Reps.reads ok r rv
    exact ⟨_, .tuple ho hc hd (by simpa using z)⟩
theorem Reps.reads {P : Program} {w : World} {H : Hp} {h : Heap} (ok : HOk P w H h) : ∀ {vs : List V} {ds : List PyData} {us : List Value}, Reps H vs ds → Vals vs us → ∃ as, ReadsAll h us ds as
  | _, _, _, .nil, q => by cases q; exact ⟨_, .nil⟩
  | _, _, _, .cons r rs, q => by
    cases q with
    | cons q qs =>
      obtain ⟨as, z⟩ := Rep.reads ok r q
      obtain ⟨bs, zs⟩ := Reps.reads ok rs qs
      exact ⟨_, .cons z zs⟩
end

/-! ### == and != of data -/
def rEqD : R2 := fun x y H Q => ∃ d e, Rep H x d ∧ Rep H y e ∧ SeqAt.shaped d = true ∧ SeqAt.shaped e = true ∧ Q (.bl (PyData.eqv d e)) H
def rNeD : R2 := fun x y H Q => ∃ d e, Rep H x d ∧ Rep H y e ∧ SeqAt.shaped d = true ∧ SeqAt.shaped e = true ∧ Q (.bl (!PyData.eqv d e)) H
section
variable {X : Cx}
theorem op_eqD (hu : X.A.units + 64 < cLine) : OpR X (compareOp .Eq) rEqD := by
  intro pins s σ H x y v u Q I rx ry h
  obtain ⟨d, e, hd, he, sd, se, q⟩ := h
  obtain ⟨as, za⟩ := hd.reads I.hok rx
  obtain ⟨bs, zb⟩ := he.reads I.hok ry
  exact eq_dataH za zb sd se hu ⟨.bl (PyData.eqv d e), H, I, rfl, q⟩
theorem op_neD (hu : X.A.units + 64 < cLine) : OpR X (compareOp .NotEq) rNeD := by
  intro pins s σ H x y v u Q I rx ry h
  obtain ⟨d, e, hd, he, sd, se, q⟩ := h
  obtain ⟨as, za⟩ := hd.reads I.hok rx
  obtain ⟨bs, zb⟩ := he.reads I.hok ry
  exact ne_dataH za zb sd se hu ⟨.bl (!PyData.eqv d e), H, I, rfl, q⟩

/-! ### isinstance(x, a built-in type) -/
/-- the type's name of a data -/
def tyD : PyData → String
  | .none => "NoneType"
  | .bool _ => "bool"
  | .int _ => "int"
  | .str _ => "str"
  | .list _ => "list"
  | .tuple _ => "tuple"
  | .dict _ => "dict"
theorem Rep.ty {K : PySem.W.Frag} {H : Hp} {v : V} {d : PyData} (r : Rep H v d) : TyOf K H v (.type (tyD d)) := by
  cases r with
  | non => exact .non
  | bl b => exact .bl b
  | int i => exact .int i
  | str x => exact .str x
  | lst h _ => exact .lst h
  | tup h _ => exact .tup h
/-- is a data of that type (for int: bools are) -/
def isIntD : PyData → Bool
  | .int _ => true
  | .bool _ => true
  | _ => false
def isBoolD : PyData → Bool
  | .bool _ => true
  | _ => false
def isTupD : PyData → Bool
  | .tuple _ => true
  | _ => false
theorem kit_int (K : PySem.W.Frag) (d : PyData) (hd : ∀ kvs, d ≠ .dict kvs) : PySem.W.kitOne K (.type (tyD d)) (.type "int") = some (isIntD d) := by
  cases d <;> first | exact absurd rfl (hd _) | (with_unfolding_all rfl)
theorem kit_bool (K : PySem.W.Frag) (d : PyData) (hd : ∀ kvs, d ≠ .dict kvs) : PySem.W.kitOne K (.type (tyD d)) (.type "bool") = some (isBoolD d) := by
  cases d <;> first | exact absurd rfl (hd _) | (with_unfolding_all rfl)
theorem kit_tuple (K : PySem.W.Frag) (d : PyData) (hd : ∀ kvs, d ≠ .dict kvs) : PySem.W.kitOne K (.type (tyD d)) (.type "tuple") = some (isTupD d) := by
  cases d <;> first | exact absurd rfl (hd _) | (with_unfolding_all rfl)
theorem Rep.nodict {H : Hp} {v : V} {d : PyData} (r : Rep H v d) : ∀ kvs, d ≠ .dict kvs := fun kvs z => by subst z; cases r
def rIsi (c : String) (f : PyData → Bool) : List V → Hp → VK → Prop := fun xs H Q => ∃ x d, xs = [x, .ty c] ∧ Rep H x d ∧ Q (.bl (f d)) H
theorem call_isi {c : String} {f : PyData → Bool} (kit : ∀ (K : PySem.W.Frag) (d : PyData), (∀ kvs, d ≠ .dict kvs) → PySem.W.kitOne K (.type (tyD d)) (.type c) = some (f d)) : CallR X (.builtin "isinstance") (rIsi c f) := by
  intro pins s σ H xs us Q I rs h
  obtain ⟨x, d, e, hd, q⟩ := h
  subst e
  obtain ⟨u, w', rfl, ru, rw'⟩ := Vals.two rs
  cases (show w' = Value.type c from rw')
  exact isinst_ok I ru hd.ty (kit X.K d hd.nodict) fun tk => ⟨.bl (f d), H, I.tok tk, rfl, q⟩
end
end L2
set_option Elab.async false
set_option linter.all false
set_option maxRecDepth 100000
/-! A list comprehension with one `for` and at most one `if`, over the hand layer. -/
namespace L2
open PySem PySem.Spec PyProof.Rows

/-! ### the tests of a clause -/
def PF (X : Cx) (ifs : List Expr) (t : TT) : Prop :=
  ∀ (pins : List (Addr × Obj)) (s : Shared) (σ : St) (H : Hp) (Q : Bool → Hp → Prop), Inv X pins σ H s → t σ H Q →
    wpAny (model X.prog X.w) X.A (forIn ifs true fun c r => if r = true then do let ok ← isTrue c X.env (eval c X.env); pure (ForInStep.yield ok) else pure (ForInStep.yield r)) (TP X pins σ Q) X.xe s
theorem pf_nil {X : Cx} : PF X [] (fun _ H Q => Q true H) := fun pins s σ H Q I h => wpAny_tests_nil ⟨H, I, h⟩
theorem pf_one {X : Cx} {c : Expr} {t : TT} (hc : PT X c t) : PF X [c] t := fun pins s σ H Q I h => wpAny_tests_one (hc pins s σ H Q I h)

/-! ### the loop of a comprehension, any target -/
section
variable {prog : Program} {w : World} {A : Around} {R : Result → Shared → Prop} {s : Shared}
theorem compLoop_any {elt target iter : Expr} {ifs : List Expr} {scope : Scope} {pos : Pos} {it acc : Value} {env : Env} (I : Nat → Shared → Prop)
    (turn : ∀ n s, I n s → wpAny (model prog w) A (pyNext it) (fun r s₁ => match r with
      | none => R (.ok .next) s₁
      | some v => wpAny (model prog w) A (letOwnedTupleGo target it v) (fun _ s₀ => wpAny (model prog w) A (assign target env v) (fun _ s₂ =>
          wpAny (model prog w) A (forIn ifs true fun c r => if r = true then do let ok ← isTrue c env (eval c env); pure (ForInStep.yield ok) else pure (ForInStep.yield r)) (fun ok s₃ =>
            if ok = true then wpAny (model prog w) A (eval elt env) (fun x s₄ =>
              wpAny (model prog w) A (call (.builtin "list.append") [acc, x]) (fun _ s₅ => ∃ m, m < n ∧ I m s₅) (fun _ _ => False) s₄) (fun _ _ => False) s₃
            else ∃ m, m < n ∧ I m s₃) (fun _ _ => False) s₂) (fun _ _ => False) s₀) (fun _ _ => False) s₁) (fun _ _ => False) s)
    (n : Nat) (h : I n s) :
    codeAny (model prog w) A (.compLoop (.ListComp elt [⟨target, iter, ifs, 0⟩] scope pos) 0 it acc env) R s := by
  refine codeAny_loop rfl I (fun n s hI => ?_) n h
  show wpAny _ A ((compTurn (.ListComp elt [⟨target, iter, ifs, 0⟩] scope pos) 0 it acc env).onRaise (fun x => do noteFrame x env; theTreesLotGoes x)) _ _ s
  refine wpAny_noted ?_
  rw [compTurn_list]
  refine wpAny_bind (wpAny_standAt (wpAny_bind (wpAny_mono (turn n s hI) (fun r s₁ h₁ => ?_) fun _ _ f => f.elim)))
  cases r with
  | none => exact wpAny_pure h₁
  | some v =>
    refine wpAny_bind (wpAny_mono h₁ (fun _ s₀ h₀ => ?_) fun _ _ f => f.elim)
    refine wpAny_bind (wpAny_mono h₀ (fun _ s₂ h₂ => wpAny_bind (wpAny_mono h₂ (fun ok s₃ h₃ => ?_) fun _ _ f => f.elim)) fun _ _ f => f.elim)
    cases ok with
    | false => exact wpAny_pure ⟨rfl, h₃⟩
    | true =>
      exact wpAny_bind (wpAny_bind (wpAny_mono h₃ (fun x s₄ h₄ => wpAny_bind (wpAny_mono h₄ (fun _ s₅ h₅ => wpAny_pure (wpAny_pure ⟨rfl, h₅⟩)) fun _ _ f => f.elim)) fun _ _ f => f.elim))
end

/-! ### the block's context -/
/-- the closure of a block: its free names with the cells of the frame around it -/
def closOf (scope : Scope) (env : Env) : List (Str × Addr) :=
  ((scope.names.filter fun x => x.2 == .free).reverse).map fun x => (x.1, (env.cells.lookup x.1).getD 0)

/-- the context of a comprehension's block: entered at s₂, H₂, its frame at C, its iterator's records fp -/
def blk (X : Cx) (scope : Scope) (NB : List Str) (C : Addr) (s₂ : Shared) (H₂ : Hp) (fp : List Addr) : Cx where
  prog := X.prog
  w := X.w
  K := X.K
  mg := X.mg
  base := X.base
  A := X.A
  N := NB
  s₀ := s₂
  H₀ := H₂
  env := compEnvC scope (closOf scope X.env) C X.env
  outer := X.stack
  stack := X.stack
  ex := fp
  fn := fun _ => false
  calm := X.calm
  pn := []
  xe := fun _ _ => False

/-- the block's slots at its entry: some j: the outer slot j (a free name), none: its own -/
def tau (js : List (Option Nat)) (σ : St) : St := js.map fun o => match o with
  | some j => (match σ[j]? with | some v => v | none => none)
  | none => none

/-- what is asked of the names: NB the block's own names and its free ones, js where the free ones stand outside -/
structure BlkOk (X : Cx) (scope : Scope) (NB : List Str) (js : List (Option Nat)) : Prop where
  kind : scope.kind = .function
  nd : NB.Nodup
  len : js.length = NB.length
  nocell : ∀ y ∈ scope.names, y.2 ≠ .cell
  locs : ∀ y ∈ scope.names, y.2 = .local → scope.names.lookup y.1 = some .local
  clos : closureFor scope X.env = pure (closOf scope X.env)
  there : ∀ y ∈ scope.names, y.2 = .free → ∃ c, X.env.cells.lookup y.1 = some c
  outer : ∀ (i j : Nat), js[i]? = some (some j) → ∃ x, NB[i]? = some x ∧ X.N[j]? = some x ∧ (x, NameKind.free) ∈ scope.names ∧ Vis X.env.scope x ∧ X.env.scope.names.lookup x ≠ some .local
  inner : ∀ (i : Nat) (x : Str), NB[i]? = some x → (x, NameKind.free) ∈ scope.names → Vis (relabel scope X.env) x → (relabel scope X.env).names.lookup x ≠ some .local

/-- the same by looks at the text -/
def outerOk (X : Cx) (scope : Scope) (NB : List Str) (js : List (Option Nat)) : Bool := (js.zip NB).all fun p => match p.1 with
  | none => true
  | some j => X.N[j]? == some p.2 && scope.names.any (fun y => y.1 == p.2 && y.2 == .free) && (X.env.scope.names.lookup p.2 == some .cell || X.env.scope.names.lookup p.2 == some .free)
def innerOk (X : Cx) (scope : Scope) (NB : List Str) : Bool := NB.all fun x => !(scope.names.any fun y => y.1 == x && y.2 == .free) || ((relabel scope X.env).names.lookup x != some .local)
theorem any_free {l : List (Str × NameKind)} {x : Str} : (l.any fun y => y.1 == x && y.2 == NameKind.free) = true ↔ (x, NameKind.free) ∈ l := by
  rw [List.any_eq_true]
  constructor
  · rintro ⟨⟨n, k⟩, hy, e⟩
    simp only [Bool.and_eq_true, beq_iff_eq] at e
    obtain ⟨rfl, rfl⟩ := e
    exact hy
  · intro h
    exact ⟨_, h, by simp⟩
theorem blkOk_of {X : Cx} {scope : Scope} {NB : List Str} {js : List (Option Nat)} (kind : scope.kind = .function) (nd : NB.Nodup) (len : js.length = NB.length) (nocell : ∀ y ∈ scope.names, y.2 ≠ .cell) (locs : ∀ y ∈ scope.names, y.2 = .local → scope.names.lookup y.1 = some .local)
    (clos : closureFor scope X.env = pure (closOf scope X.env)) (there : (scope.names.all fun y => y.2 != .free || (X.env.cells.lookup y.1).isSome) = true) (outer : outerOk X scope NB js = true) (inner : innerOk X scope NB = true) : BlkOk X scope NB js := by
  refine ⟨kind, nd, len, nocell, locs, clos, fun y hy hf => ?_, fun i j e => ?_, fun i x e hm _ => ?_⟩
  · have := List.all_eq_true.mp there y hy
    rw [hf] at this
    exact Option.isSome_iff_exists.mp (by simpa using this)
  · have hi : i < js.length := (List.getElem?_eq_some_iff.mp e).1
    have hx : NB[i]? = some (NB[i]'(by omega)) := List.getElem?_eq_getElem (by omega)
    have hz : (js.zip NB)[i]? = some (some j, NB[i]'(by omega)) := by rw [List.getElem?_zip_eq_some]; exact ⟨e, hx⟩
    have := List.all_eq_true.mp outer _ (List.mem_of_getElem? hz)
    dsimp only at this
    simp only [Bool.and_eq_true, Bool.or_eq_true, beq_iff_eq] at this
    obtain ⟨⟨h1, h2⟩, h3⟩ := this
    refine ⟨_, hx, h1, any_free.mp h2, ?_, ?_⟩
    · rcases h3 with h3 | h3
      · exact .inr (.inl h3)
      · exact .inr (.inr h3)
    · rcases h3 with h3 | h3 <;> rw [h3] <;> decide
  · have := List.all_eq_true.mp inner x (List.mem_of_getElem? e)
    rw [any_free.mpr hm] at this
    simpa using this

theorem mem_closOf {scope : Scope} {env : Env} {x : Str} {c : Addr} (ht : ∀ y ∈ scope.names, y.2 = .free → ∃ c, env.cells.lookup y.1 = some c) (h : (closOf scope env).lookup x = some c) : env.cells.lookup x = some c ∧ (x, NameKind.free) ∈ scope.names := by
  have m := PySem.mem_of_lookup h
  unfold closOf at m
  obtain ⟨y, hy, e⟩ := List.mem_map.mp m
  have hy' := List.mem_filter.mp (List.mem_reverse.mp hy)
  obtain ⟨n, k⟩ := y
  have hk : k = .free := by simpa using hy'.2
  subst hk
  obtain ⟨c', ec⟩ := ht _ hy'.1 rfl
  have e1 : n = x := congrArg Prod.fst e
  have e2 : (env.cells.lookup n).getD 0 = c := congrArg Prod.snd e
  subst e1
  have ec' : env.cells.lookup n = some c' := ec
  rw [ec'] at e2
  have e3 : c' = c := e2
  subst e3
  exact ⟨ec', hy'.1⟩
theorem lookup_of_mem {β : Type} {x : Str} : ∀ {l : List (Str × β)} {b : β}, (x, b) ∈ l → ∃ c, l.lookup x = some c
  | (n, b') :: r, b, h => by
    rw [List.lookup_cons]
    cases e : x == n with
    | true => exact ⟨b', rfl⟩
    | false =>
      rcases List.mem_cons.mp h with q | q
      · have : x = n := congrArg Prod.fst q
        subst this
        simp at e
      · exact lookup_of_mem q
theorem closOf_has {scope : Scope} {env : Env} {x : Str} (h : (x, NameKind.free) ∈ scope.names) : ∃ c, (closOf scope env).lookup x = some c := by
  refine lookup_of_mem (b := (env.cells.lookup x).getD 0) ?_
  unfold closOf
  exact List.mem_map.mpr ⟨(x, NameKind.free), List.mem_reverse.mpr (List.mem_filter.mpr ⟨h, by simp⟩), rfl⟩
theorem relabel_free {scope : Scope} {env : Env} {x : Str} (hc : ∀ y ∈ scope.names, y.2 ≠ .cell) (h : (relabel scope env).names.lookup x = some .cell ∨ (relabel scope env).names.lookup x = some .free) : (x, NameKind.free) ∈ scope.names := by
  have key : ∀ k, (relabel scope env).names.lookup x = some k → k = .cell ∨ k = .free → (x, NameKind.free) ∈ scope.names := by
    intro k e hk
    have m := PySem.mem_of_lookup e
    unfold relabel at m
    obtain ⟨⟨n, k'⟩, hy, q⟩ := List.mem_map.mp m
    dsimp only at q
    split at q
    · rename_i hcond
      have e1 : n = x := congrArg Prod.fst q
      subst e1
      simp only [Bool.and_eq_true, beq_iff_eq] at hcond
      rw [hcond.1.1] at hy
      exact hy
    · have e1 : n = x := congrArg Prod.fst q
      have e2 : k' = k := congrArg Prod.snd q
      subst e1 e2
      rcases hk with hk | hk
      · subst hk
        exact absurd rfl (hc _ hy)
      · subst hk
        exact hy
  rcases h with h | h
  · exact key _ h (.inl rfl)
  · exact key _ h (.inr rfl)

/-- the world but one object -/
theorem Un.but {fs ex : List Addr} {H H' : Hp} {h h1 h2 : Heap} {C : Addr} (u : Un fs ex H H' h h1) (hC : h.objs.size ≤ C) (sb : Heap.SameBut C h1 h2) : Un fs ex H H' h h2 := by
  have ne : ∀ b o, h.get? b = some o → b ≠ C := fun b o e => Nat.ne_of_lt (Nat.lt_of_lt_of_le (Heap.lt_size e) hC)
  refine ⟨fun b o e n hb hx => (sb.2 b (ne b o e)).trans (u.keep b o e n hb hx), fun b o e n hb hx => ?_, u.free, fun b o e hx => ?_, u.tups, u.frzs, u.tbls⟩
  · obtain ⟨sl, q⟩ := u.slot b o e n hb hx
    exact ⟨sl, (sb.2 b (ne b o e)).trans q⟩
  · obtain ⟨o', q⟩ := u.there b o e hx
    exact ⟨o', (sb.2 b (ne b o e)).trans q⟩
theorem HOk.but {P : Program} {w : World} {H : Hp} {h1 h2 : Heap} {C : Addr} (ok : HOk P w H h1) (hC : H C = none) (sb : Heap.SameBut C h1 h2) : HOk P w H h2 := fun b ob e => by
  refine (ok b ob e).stay (fun c w' hc q => (sb.2 c ?_).trans q) (fun _ q => q) fun _ _ q => q
  rintro rfl
  rcases hc with rfl | hc
  · rw [hC] at e; cases e
  · rw [hC] at hc; cases hc

section
variable {X : Cx} {pins : List (Addr × Obj)} {σ : St} {H : Hp} {s : Shared}
theorem blk_ok {scope : Scope} {NB : List Str} {js : List (Option Nat)} {C : Addr} {fp : List Addr} (B : BlkOk X scope NB js) (I : Inv X pins σ H s) (hf : ∀ b ∈ fp, FpOk X pins H b) (hlt : ∀ b ∈ fp, b ≠ C) (hC : s.heap.objs.size ≤ C) :
    (blk X scope NB C s H fp).Ok := by
  refine ⟨I.mod, B.kind, I.ok.glob, I.ok.blt, hC, fun x y c hx hy => ?_, fun x hx => ?_, fun x c h _ => (nomatch h), I.ok.hd, I.ok.frames, .inl rfl, fun b hb => ⟨hlt b hb, fun x c hx => ?_⟩, I.bs, Nat.le_trans I.ok.bsz I.sz, fun b o e hb => ?_, fun b hb hb2 => ?_, I.stack, I.stkFree⟩
  · exact I.ok.inj x y c (mem_closOf B.there hx).1 (mem_closOf B.there hy).1
  · exact closOf_has (relabel_free B.nocell hx)
  · exact (hf b hb).2.2.2.2.1 x c (mem_closOf B.there hx).1
  · rcases (hf b hb).2.2.2.1 with z | z
    · exact I.ok.noex b o e z
    · exact absurd (Nat.lt_of_lt_of_le (Heap.lt_size e) (Nat.le_trans I.ok.bsz z)) (Nat.lt_irrefl _)
  · rcases List.mem_cons.mp (I.stkSub b hb2) with z | z
    · exact (hf b hb).2.1 z
    · exact (hf b hb).2.2.1 z

theorem tau_get {js : List (Option Nat)} {σ : St} {i : Nat} {v : V} (h : (tau js σ)[i]? = some (some v)) : ∃ j, js[i]? = some (some j) ∧ σ[j]? = some (some v) := by
  unfold tau at h
  rw [List.getElem?_map] at h
  cases e : js[i]? with
  | none => rw [e] at h; cases h
  | some o =>
    rw [e] at h
    cases o with
    | none => cases h
    | some j =>
      refine ⟨j, rfl, ?_⟩
      have h' : (match σ[j]? with | some v => v | none => none) = some v := Option.some.inj h
      cases q : σ[j]? with
      | none => rw [q] at h'; cases h'
      | some u => rw [q] at h'; rw [show u = some v from h']
end

/-! ### the reading -/
/-- what a turn of a comprehension's block is to reach -/
def turnC (g : TG) (tt : TT) (te : TE) (τ : St) (D : Addr) (ys : List V) (N : List V → Hp → Prop) (x : V) (H' : Hp) : Prop :=
  g x τ H' fun σ2 H2 => (∀ (k : Nat) (v : V), τ[k]? = some (some v) → σ2[k]? = some (some v)) ∧ tt σ2 H2 fun ok H3 =>
    if ok = true then te σ2 H3 fun v H4 => H4 D = some (.lst ys) ∧ ys.length < sizeLine ∧ N (ys ++ [v]) (upd H4 D (.lst (ys ++ [v]))) else N ys H3
/-- W: the invariant by the turn, a measure, the items so far; the new list stands at D -/
def tComp (js : List (Option Nat)) (wi : TI) (g : TG) (tt : TT) (te : TE) : TE := fun σ H Q => wi σ H fun J H1 => ∀ D, H1 D = none → ∃ W : Nat → Nat → List V → Hp → Prop, (∃ m, W 0 m [] (upd H1 D (.lst []))) ∧
  ∀ i m ys H, W i m ys H → (J.stop i H ∧ Q (.ref D) H) ∨ (J.go i H ∧ ∃ N : List V → Hp → Prop, (∀ ys' H', N ys' H' → ∃ m', m' < m ∧ W (i + 1) m' ys' H') ∧ ∀ x H', J.yld i H x H' → turnC g tt te (tau js σ) D ys N x H')

theorem pe_comp {X : Cx} {elt tg iter : Expr} {ifs : List Expr} {scope : Scope} {pos : Pos} {wi : TI} {g : TG} {tt : TT} {te : TE} {NB : List Str} {js : List (Option Nat)} (hc : X.calm = true) (B : BlkOk X scope NB js) (hi : PI X tg iter wi)
    (hg : ∀ C s₂ H₂ fp, PG (blk X scope NB C s₂ H₂ fp) tg g) (ht : ∀ C s₂ H₂ fp, PF (blk X scope NB C s₂ H₂ fp) ifs tt) (he : ∀ C s₂ H₂ fp, PE (blk X scope NB C s₂ H₂ fp) elt te)
    (hs : ∀ x, foldedSetIterable iter X.env x = pure x := by intro _; rfl) : PE X (.ListComp elt [⟨tg, iter, ifs, 0⟩] scope pos) (tComp js wi g tt te) := by
  intro pins s σ H Q I h
  rw [eval_ListComp]
  refine wpAny_comprehension_free (use := none) rfl hs B.clos B.kind B.locs (thn (hi pins s σ H _ I h) fun v s1 h1 => thn h1 fun itv s2 h2 => ?_)
  obtain ⟨it, fp, tn, J, H2, e, I2, T, st2, f2, hW⟩ := h2
  subst e
  have fresh2 : H2 s2.heap.objs.size = none := I2.hok.fresh (Nat.le_refl _)
  obtain ⟨W, ⟨m0, w0⟩, turn⟩ := hW s2.heap.objs.size fresh2
  refine wpAny_newObj_type (wpAny_newFunctionEnv B.nocell (by intro y hy; simp at hy) (fun h₁ hns₁ hsb₁ => ?_) B.kind)
  dsimp only at hns₁ hsb₁ ⊢
  generalize hH2 : s2.heap.push { cls := .type "list", dict := none, data := .seq ([] : List Value).toArray } = HP at hns₁ hsb₁ ⊢
  have hC : HP.objs.size = s2.heap.objs.size + 1 := by rw [← hH2, Heap.size_push]
  have hCle : s2.heap.objs.size ≤ HP.objs.size := by rw [hC]; exact Nat.le_succ _
  have hDC : s2.heap.objs.size ≠ HP.objs.size := by rw [hC]; exact Nat.ne_of_lt (Nat.lt_succ_self _)
  have below : ∀ b, b < s2.heap.objs.size → b ≠ HP.objs.size := fun b hb => Nat.ne_of_lt (Nat.lt_of_lt_of_le hb hCle)
  have old : ∀ b o, s2.heap.get? b = some o → h₁.get? b = some o := fun b o e => hsb₁.extBut b o (below b (Heap.lt_size e)) (Heap.get?_push_of_some _ (hH2 ▸ Heap.get?_push_of_some _ e))
  have hacc : h₁.get? s2.heap.objs.size = some { cls := .type "list", dict := none, data := .seq ([] : List Value).toArray } := hsb₁.extBut _ _ hDC (Heap.get?_push_of_some _ (hH2 ▸ Heap.get?_push_size _ rfl))
  have fplt : ∀ b ∈ fp, b < s2.heap.objs.size := fun b hb => by
    obtain ⟨o, ho, _⟩ := T.obj 0 _ st2 b hb
    exact Heap.lt_size ho
  have okY : (blk X scope NB HP.objs.size s2 H2 fp).Ok := blk_ok B I2 f2 (fun b hb => below b (fplt b hb)) hCle
  have lenτ : (tau js σ).length = NB.length := by unfold tau; rw [List.length_map]; exact B.len
  have IY : Inv (blk X scope NB HP.objs.size s2 H2 fp) [] (tau js σ) (upd H2 s2.heap.objs.size (.lst [])) { s2 with heap := h₁, toks := s2.toks + ([] : List (Str × Value)).length } := by
    refine ⟨okY, rfl, I2.bare, Un.laid old (Nat.le_refl _) fresh2, ⟨_, hns₁, fun i x v e1 e2 e3 => ?_⟩, fun x c e => ?_, ?_, fun x c e => ?_, fun p hp => absurd (show p ∈ ([] : List (Addr × Obj)) from hp) (by simp), I2.hok.laid old (Nat.le_refl _) ?_, lenτ⟩
    · obtain ⟨j, ej, ev⟩ := tau_get e2
      obtain ⟨x', n1, n2, n3, n4, n5⟩ := B.outer i j ej
      have ex : x' = x := Option.some.inj (n1.symm.trans e1)
      subst ex
      obtain ⟨m, _, hl⟩ := I2.loc
      obtain ⟨u, ru, l⟩ := hl j x' v n2 ev n4
      refine ⟨u, ru, .inr ?_⟩
      have e3' : Vis (relabel scope X.env) x' := e3
      have nl := B.inner i x' e1 n3 e3'
      have kk : (relabel scope X.env).names.lookup x' = some .cell ∨ (relabel scope X.env).names.lookup x' = some .free := by
        rcases e3' with z | z | z
        · exact absurd z nl
        · exact .inl z
        · exact .inr z
      refine ⟨kk, ?_⟩
      rcases l with ⟨z, _⟩ | ⟨_, c, ec, cell⟩
      · exact absurd z n5
      · obtain ⟨c', ec'⟩ := closOf_has (env := X.env) n3
        have q := (mem_closOf B.there ec').1
        rw [ec] at q
        cases q
        exact ⟨c, ec', cell.keeps old⟩
    · obtain ⟨v, z⟩ := I2.cell x c (mem_closOf B.there e).1
      exact ⟨v, z.keeps old⟩
    · show upd H2 s2.heap.objs.size (.lst []) HP.objs.size = none
      rw [upd_ne (Ne.symm hDC)]
      exact I2.hok.fresh hCle
    · have ec := (mem_closOf B.there e).1
      obtain ⟨v, o, ho, _⟩ := I2.cell x c ec
      rw [upd_ne (Nat.ne_of_lt (Heap.lt_size ho))]
      exact I2.freeC x c ec
    · exact ⟨by show 0 ≤ sizeLine; exact Nat.zero_le _, [], 0, .nil, hacc⟩
  have st1 : tn 0 h₁ := T.keep 0 _ _ st2 fun b _ o e => old b o e
  have statY : ∀ {H' : Hp}, (∀ b ∈ fp, H' b = none) → ∀ b ∈ fp, FpOk (blk X scope NB HP.objs.size s2 H2 fp) [] H' b := fun {H'} hn b hb =>
    ⟨hn b hb, below b (fplt b hb), okY.exfs b hb, .inl hb, (okY.exf b hb).2, fun p hp => absurd (show p ∈ ([] : List (Addr × Obj)) from hp) (by simp)⟩
  have frN : ∀ b ∈ fp, upd H2 s2.heap.objs.size (.lst []) b = none := fun b hb => by
    rw [upd_ne (Nat.ne_of_lt (fplt b hb))]
    exact (f2 b hb).1
  have loop : ∀ s₃ : Shared, s₃ = { s2 with heap := h₁, toks := s2.toks + ([] : List (Str × Value)).length } →
      codeAny (model X.prog X.w) X.A (.compLoop (.ListComp elt [⟨tg, iter, ifs, 0⟩] scope pos) 0 (.ref it) (.ref s2.heap.objs.size) (compEnvC scope (closOf scope X.env) HP.objs.size X.env))
        (compPost (model X.prog X.w) X.A X.xe none (EP X pins σ Q) (.ref s2.heap.objs.size) HP.objs.size) s₃ := by
    rintro s₃ rfl
    refine compLoop_any (fun n s' => ∃ i ys H', Inv (blk X scope NB HP.objs.size s2 H2 fp) [] (tau js σ) H' s' ∧ tn i s'.heap ∧ (∀ b ∈ fp, H' b = none) ∧ W i n ys H') ?_ m0 ⟨0, [], _, IY, st1, frN, w0⟩
    rintro n s3 ⟨i, ys, H3, I3, st3, fr3, w3⟩
    rcases turn i n ys H3 w3 with ⟨stop, qq⟩ | ⟨go, NN, hNN, step⟩
    · refine thn (T.done (blk X scope NB HP.objs.size s2 H2 fp) rfl rfl rfl hc i [] s3 (tau js σ) H3 (fun _ _ => False) I3 (statY fr3) st3 stop) fun r s4 ⟨hr, I4⟩ => ?_
      subst hr
      obtain ⟨m4, hn4, _⟩ := id I4.loc
      refine ⟨m4, hn4, fun h' sb => ⟨.ref s2.heap.objs.size, H3, ?_, rfl, qq⟩⟩
      have u4 : Un (frs X.stack) fp H2 H3 s2.heap s4.heap := I4.base
      exact I2.call' (s' := { s4 with heap := h' }) I4.os (u4.but hCle sb) (I4.hok.but I4.free sb) I4.bare fun b hb => ⟨(f2 b hb).2.2.2.1, (f2 b hb).2.1, (f2 b hb).2.2.2.2.1, (f2 b hb).2.2.2.2.2⟩
    · refine thn (T.item (blk X scope NB HP.objs.size s2 H2 fp) rfl rfl rfl hc i [] s3 (tau js σ) H3 (fun _ _ => False) I3 (statY fr3) st3 go) fun r s4 ⟨u, hr, h4⟩ => ?_
      subst hr
      refine thn h4 fun _ s5 ⟨x, H5, I5, r5, y5, st5, fr5⟩ => ?_
      have I5' := I5.pinned (statY fr5) (T.obj _ _ st5)
      refine thn (hg _ _ _ _ _ s5 (tau js σ) H5 x u _ I5' r5 (step x H5 y5)) fun _ s6 ⟨σ6, H6, I6, ag, q6⟩ => ?_
      have back : ∀ {s7 : Shared} {H7 : Hp}, Inv (blk X scope NB HP.objs.size s2 H2 fp) ([] ++ pinsAt fp s5.heap) σ6 H7 s7 → Inv (blk X scope NB HP.objs.size s2 H2 fp) [] (tau js σ) H7 s7 ∧ tn (i + 1) s7.heap ∧ ∀ b ∈ fp, H7 b = none := fun {s7 H7} I7 => by
        refine ⟨I7.unpinned.weak (lenτ.trans I7.len.symm) ag, T.keep _ _ _ st5 fun b hb o e => (I7.pin (b, o) (List.mem_append_right _ (List.mem_append_right _ (mem_pinsAt hb e)))).1, fun b hb => ?_⟩
        obtain ⟨o, e, d⟩ := T.obj _ _ st5 b hb
        exact (I7.pin (b, o) (List.mem_append_right _ (List.mem_append_right _ (mem_pinsAt hb e)))).2.1
      refine thn (ht _ _ _ _ _ s6 σ6 H6 _ I6 q6) fun ok s7 ⟨H7, I7, q7⟩ => ?_
      cases ok with
      | false =>
        obtain ⟨m', hm, w7⟩ := hNN _ _ q7
        obtain ⟨J1, J2, J3⟩ := back I7
        exact ⟨m', hm, i + 1, ys, H7, J1, J2, J3, w7⟩
      | true =>
        refine thn (he _ _ _ _ _ s7 σ6 H7 _ I7 q7) fun v s8 ⟨y, H8, I8, r8, hD8, hz, n8⟩ => ?_
        obtain ⟨m', hm, w8⟩ := hNN _ _ n8
        refine thn (mt_append _ s8 σ6 H8 (.ref s2.heap.objs.size) [y] (.ref s2.heap.objs.size) [v] (fun z H' => z = .non ∧ H' = upd H8 s2.heap.objs.size (.lst (ys ++ [y]))) I8 rfl (.cons r8 .nil) ⟨_, ys, y, rfl, rfl, hD8, hz, ⟨rfl, rfl⟩⟩) fun _ s9 ⟨z, H9, I9, r9, q9⟩ => ?_
        obtain ⟨ez, e9⟩ : z = .non ∧ H9 = upd H8 s2.heap.objs.size (.lst (ys ++ [y])) := q9
        subst e9
        obtain ⟨J1, J2, J3⟩ := back I9
        exact ⟨m', hm, i + 1, ys ++ [y], _, J1, J2, J3, w8⟩
  exact codeAny_compStart_list (loop _ rfl) (T.self _ _ _ _ _ st1 (loop _ rfl))

/-! ### the forms one uses -/
section
variable {g : TG} {tt : TT} {te : TE} {τ : St} {Q : VK} {H1 : Hp} {D : Addr}
theorem comp_range {lo : Int} {n : Nat} (Pv : Nat → List V → Hp → Prop) (h0 : Pv 0 [] (upd H1 D (.lst []))) (hs : ∀ i ys H, i < n → Pv i ys H → turnC g tt te τ D ys (Pv (i + 1)) (.int (lo + i)) H) (hd : ∀ ys H, Pv n ys H → Q (.ref D) H) :
    ∃ W : Nat → Nat → List V → Hp → Prop, (∃ m, W 0 m [] (upd H1 D (.lst []))) ∧ ∀ i m ys H, W i m ys H → ((Itr lo n).stop i H ∧ Q (.ref D) H) ∨ ((Itr lo n).go i H ∧ ∃ N : List V → Hp → Prop, (∀ ys' H', N ys' H' → ∃ m', m' < m ∧ W (i + 1) m' ys' H') ∧ ∀ x H', (Itr lo n).yld i H x H' → turnC g tt te τ D ys N x H') := by
  refine ⟨fun i m ys H => m = n - i ∧ i ≤ n ∧ Pv i ys H, ⟨n, by simp, Nat.zero_le _, h0⟩, ?_⟩
  rintro i m ys H ⟨rfl, hi, p⟩
  by_cases hlt : i < n
  · refine .inr ⟨hlt, Pv (i + 1), fun ys' H' p' => ⟨n - (i + 1), by omega, rfl, hlt, p'⟩, fun x H' y => ?_⟩
    obtain ⟨e, y⟩ := y
    subst e y
    exact hs i ys _ hlt p
  · have e : i = n := by omega
    subst e
    exact .inl ⟨Nat.le_refl _, hd ys H p⟩
theorem comp_list {K : PySem.W.Frag} {a : Addr} {xs : List V} (Pv : Nat → List V → Hp → Prop) (h0 : Pv 0 [] (upd H1 D (.lst []))) (hl : ∀ i ys H, i ≤ xs.length → Pv i ys H → SqL K H a xs)
    (hs : ∀ i ys x H, xs[i]? = some x → Pv i ys H → turnC g tt te τ D ys (Pv (i + 1)) x H) (hd : ∀ ys H, Pv xs.length ys H → Q (.ref D) H) :
    ∃ W : Nat → Nat → List V → Hp → Prop, (∃ m, W 0 m [] (upd H1 D (.lst []))) ∧ ∀ i m ys H, W i m ys H → ((Itl K a).stop i H ∧ Q (.ref D) H) ∨ ((Itl K a).go i H ∧ ∃ N : List V → Hp → Prop, (∀ ys' H', N ys' H' → ∃ m', m' < m ∧ W (i + 1) m' ys' H') ∧ ∀ x H', (Itl K a).yld i H x H' → turnC g tt te τ D ys N x H') := by
  refine ⟨fun i m ys H => m = xs.length - i ∧ i ≤ xs.length ∧ Pv i ys H, ⟨xs.length, by simp, Nat.zero_le _, h0⟩, ?_⟩
  rintro i m ys H ⟨rfl, hi, p⟩
  have q := hl i ys H hi p
  by_cases hlt : i < xs.length
  · refine .inr ⟨⟨xs, xs[i], q, by simp [hlt]⟩, Pv (i + 1), fun ys' H' p' => ⟨xs.length - (i + 1), by omega, rfl, hlt, p'⟩, fun x H' y => ?_⟩
    obtain ⟨e, y⟩ := y
    subst e
    exact hs i ys x _ (y xs q) p
  · have e : i = xs.length := by omega
    subst e
    exact .inl ⟨⟨xs, q, Nat.le_refl _⟩, hd ys H p⟩
theorem comp_tup {K : PySem.W.Frag} {a : Addr} {xs : List V} (Pv : Nat → List V → Hp → Prop) (h0 : Pv 0 [] (upd H1 D (.lst []))) (hl : ∀ i ys H, i ≤ xs.length → Pv i ys H → SqT K H a xs)
    (hs : ∀ i ys x H, xs[i]? = some x → Pv i ys H → turnC g tt te τ D ys (Pv (i + 1)) x H) (hd : ∀ ys H, Pv xs.length ys H → Q (.ref D) H) :
    ∃ W : Nat → Nat → List V → Hp → Prop, (∃ m, W 0 m [] (upd H1 D (.lst []))) ∧ ∀ i m ys H, W i m ys H → ((Itt K a).stop i H ∧ Q (.ref D) H) ∨ ((Itt K a).go i H ∧ ∃ N : List V → Hp → Prop, (∀ ys' H', N ys' H' → ∃ m', m' < m ∧ W (i + 1) m' ys' H') ∧ ∀ x H', (Itt K a).yld i H x H' → turnC g tt te τ D ys N x H') := by
  refine ⟨fun i m ys H => m = xs.length - i ∧ i ≤ xs.length ∧ Pv i ys H, ⟨xs.length, by simp, Nat.zero_le _, h0⟩, ?_⟩
  rintro i m ys H ⟨rfl, hi, p⟩
  have q := hl i ys H hi p
  by_cases hlt : i < xs.length
  · refine .inr ⟨⟨xs, xs[i], q, by simp [hlt]⟩, Pv (i + 1), fun ys' H' p' => ⟨xs.length - (i + 1), by omega, rfl, hlt, p'⟩, fun x H' y => ?_⟩
    obtain ⟨e, y⟩ := y
    subst e
    exact hs i ys x _ (y xs q) p
  · have e : i = xs.length := by omega
    subst e
    exact .inl ⟨⟨xs, q, Nat.le_refl _⟩, hd ys H p⟩
end
end L2
set_option Elab.async false
set_option linter.all false
set_option maxRecDepth 100000
/-! enumerate(a tuple), enumerate(a list): walked by a pair of names, over the hand layer. -/
namespace BE
open PySem PySem.Spec PyProof.Rows
open AutoSeq1 (wpAny_loadPart')
section
variable {prog : Program} {w : World} {A : Around} {E : Value → Shared → Prop} {s : Shared}
theorem nextOf_tup {it t : Addr} {i : Nat} {items : Array Value} {x : Value} {Q : Value → Shared → Prop} (st : s.heap.IsTupleIter it t i) (ht : s.heap.IsTuple t items) (hx : items[i]? = some x)
    (hQ : ∀ h', h'.IsTupleIter it t (i + 1) → Heap.SameBut it s.heap h' → Q x { s with heap := h' }) : wpAny (model prog w) A (Builtin.SmallTypes.nextOf (.ref it)) Q E s := by
  obtain ⟨ob, hob, hcl, hda⟩ := id st
  obtain ⟨ot, hot, _, nt, hdt⟩ := ht
  unfold Builtin.SmallTypes.nextOf
  refine wpAny_bind (wpAny_callSpecial?_slot (name := Str.ofString "__next__") st.typeIs F.slot_tuple_iterator_next (wpAny_call_entry F.slot_tuple_iterator_next st.typeIs F.entry_tuple_iterator_next ?_ (F.args_tuple_iterator_next_1 _)))
  show wpAny _ _ (field (.ref it) 0 >>= _) _ _ s
  refine wpAny_bind (wpAny_field hob hda (x := .ref t) rfl ?_)
  show wpAny _ _ (if (Value.ref t == Value.none) = true then _ else _) _ _ s
  rw [if_neg (show ¬ ((Value.ref t == Value.none) = true) from Bool.false_ne_true)]
  show wpAny _ _ (field (.ref it) 1 >>= _) _ _ s
  refine wpAny_bind (wpAny_field hob hda (x := .int i 0) rfl ?_)
  show wpAny _ _ (seqItems? (.ref t) >>= _) _ _ s
  refine wpAny_bind (wpAny_seqItems hot hdt ?_)
  simp only [Int.toNat_natCast, hx]
  refine wpAny_bind (wpAny_setField hob hda (by simp) (wpAny_pure ⟨x, rfl, wpAny_pure (hQ _ ?_ (Heap.SameBut.update ..))⟩))
  exact ⟨_, Heap.get?_update_self _ hob (Obj.isFreed_of_fields (Obj.data_mapFields hda _)), (Obj.cls_mapFields ..).trans hcl, by rw [Obj.data_mapFields hda]; simp [rawInt]⟩
theorem nextOf_tup_end {it t : Addr} {i : Nat} {items : Array Value} {Q : Value → Shared → Prop} (hh : A.handled = none) (st : s.heap.IsTupleIter it t i) (ht : s.heap.IsTuple t items) (hx : items[i]? = none)
    (hE : ∀ h' e, Heap.ExtBut it s.heap h' → (∃ o, h'.get? e = some o ∧ o.cls = .type "StopIteration") → E (.ref e) { s with heap := h' }) : wpAny (model prog w) A (Builtin.SmallTypes.nextOf (.ref it)) Q E s := by
  obtain ⟨ob, hob, hcl, hda⟩ := id st
  obtain ⟨ot, hot, _, nt, hdt⟩ := ht
  unfold Builtin.SmallTypes.nextOf
  refine wpAny_bind (wpAny_callSpecial?_slot (name := Str.ofString "__next__") st.typeIs F.slot_tuple_iterator_next (wpAny_call_entry F.slot_tuple_iterator_next st.typeIs F.entry_tuple_iterator_next ?_ (F.args_tuple_iterator_next_1 _)))
  show wpAny _ _ (field (.ref it) 0 >>= _) _ _ s
  refine wpAny_bind (wpAny_field hob hda (x := .ref t) rfl ?_)
  show wpAny _ _ (if (Value.ref t == Value.none) = true then _ else _) _ _ s
  rw [if_neg (show ¬ ((Value.ref t == Value.none) = true) from Bool.false_ne_true)]
  show wpAny _ _ (field (.ref it) 1 >>= _) _ _ s
  refine wpAny_bind (wpAny_field hob hda (x := .int i 0) rfl ?_)
  show wpAny _ _ (seqItems? (.ref t) >>= _) _ _ s
  refine wpAny_bind (wpAny_seqItems hot hdt ?_)
  simp only [Int.toNat_natCast, hx]
  refine wpAny_bind (wpAny_rule (wpAny_bind (wpAny_setField hob hda (by simp) ?_)))
  show wpAny _ _ (newExc (.type "StopIteration") [] >>= _) _ _ _
  refine wpAny_bind ?_
  simp only [newExc, newTuple]
  refine wpAny_bind (wpAny_newObj_type ?_ (by size_fits))
  refine wpAny_bind (m := firstArgMember _ _) (wpAny_of_eq (a := Value.none) (by first | rfl | (simp only [firstArgMember]; rfl)) ?_)
  refine wpAny_newObj_type ?_ (by size_fits)
  simp only [raiseNew]
  refine wpAny_bind (wpAny_handled ?_)
  first | rw [show A.in1.handled = none from hh] | rw [hh]
  refine wpAny_bind (wpAny_pure (wpAny_throw ?_))
  exact hE _ _ (((Heap.SameBut.update ..).extBut.push _).push _) ⟨_, Heap.get?_push_size _ rfl, rfl⟩
end
theorem drawsTup {prog : Program} {w : World} {A : Around} (hh : A.handled = none) (it l : Addr) (hne : l ≠ it) (items : Array Value) :
    Draws prog w A it [it, l] items.size (fun i v => items[i]? = some v) (fun i h => h.IsTupleIter it l i ∧ h.IsTuple l items) where
  live := fun _ _ st => let ⟨o, ho, _⟩ := st.1; ⟨o, ho⟩
  frame := fun _ _ _ st hk => ⟨st.1.at fun o e => hk it (by simp) o e, let ⟨o, ho, r⟩ := st.2; ⟨o, hk l (by simp) o ho, r⟩⟩
  item := fun i s Q E hi st hQ => by
    refine nextOf_tup st.1 st.2 (x := items[i]) (by simp [hi]) fun h' st' sb => ?_
    exact hQ _ h' s.toks (by simp [hi]) ⟨st', st.2.extBut sb.extBut hne⟩ sb
  done := fun s Q E st hE => nextOf_tup_end hh st.1 st.2 (by simp) hE

theorem enum_new_tup (l : Addr) (items : Array Value) (n : Nat) (dct : Option Addr) (sl : Array (Option Value)) :
    Meets (Builtin.«enumerate.__new__» ⟨[.type "enumerate", .ref l], []⟩) (fun _ R s => s.heap.get? l = some { cls := .type "tuple", dict := dct, data := .seq items n, slots := sl } ∧
      R (.ok (.ret (.ref (s.heap.push { cls := .type "tuple_iterator", data := .fields #[.ref l, .int 0 0] }).objs.size)))
        { s with heap := (s.heap.push { cls := .type "tuple_iterator", data := .fields #[.ref l, .int 0 0] }).push { cls := .type "enumerate", data := .fields #[.none, .bool false, .ref s.heap.objs.size, rawInt 0, .none, .none] } }) :=
  .of_wp fun prog w A R s h => by
    obtain ⟨hp, g, d, tk, os⟩ := s; obtain ⟨hl, h⟩ := h
    have hsub := sub_enumerate
    have hL : Heap.IsTuple (Shared.heap ⟨hp, g, d, tk, os⟩) l items := ⟨_, hl, rfl, n, rfl⟩
    wp_walk using wpAny_loadPart' hl
    refine wpAny_stack_any fun st => wpAny_pure ?_
    split
    · rename_i c _ _ _ _ _
      cases (c == Value.type "enumerate")
      · wp_walk using wpAny_loadPart' hl, wpAny_pyIter_tuple hL
        exact ⟨_, rfl, h⟩
      · wp_walk using wpAny_loadPart' hl, wpAny_pyIter_tuple hL
        exact ⟨_, rfl, h⟩
    · wp_walk using wpAny_loadPart' hl, wpAny_pyIter_tuple hL
      exact ⟨_, rfl, h⟩
section
variable {prog : Program} {w : World} {A : Around} {E : Value → Shared → Prop} {s : Shared}
theorem call_enum_tup {l : Addr} {items : Array Value} {Q : Value → Shared → Prop} (hL : s.heap.IsTuple l items)
    (h : ∀ h', IsEnum h' (s.heap.objs.size + 1) s.heap.objs.size 0 .none → h'.IsTupleIter s.heap.objs.size l 0 → h'.objs.size = s.heap.objs.size + 2 →
      (∀ b o, s.heap.get? b = some o → h'.get? b = some o) → Q (.ref (s.heap.objs.size + 1)) { s with heap := h' }) :
    wpAny (model prog w) A (call (.type "enumerate") [.ref l]) Q E s := by
  obtain ⟨⟨c, dct, dt, sl⟩, hl, hc, n, hd⟩ := hL
  replace hc : c = .type "tuple" := hc
  replace hd : dt = .seq items n := hd
  subst hc hd
  refine callType_new F.called_enumerate (by decide) (F.typeCall_enumerate_1 _) (F.newCall_enumerate_1 _) (fun obj => F.args_object_init_2 obj _) F.entry_enumerate_new (enum_new_tup l items n dct sl) ⟨hl, ?_⟩
  have hz : (s.heap.push { cls := .type "tuple_iterator", data := .fields #[.ref l, .int 0 0] }).objs.size = s.heap.objs.size + 1 := Heap.size_push ..
  show _ ∧ _
  rw [hz]
  have he : IsEnum ((s.heap.push { cls := .type "tuple_iterator", data := .fields #[.ref l, .int 0 0] }).push
      { cls := .type "enumerate", data := .fields #[.none, .bool false, .ref s.heap.objs.size, rawInt 0, .none, .none] }) (s.heap.objs.size + 1) s.heap.objs.size 0 .none := by
    have q := Heap.get?_push_size (s.heap.push { cls := .type "tuple_iterator", data := .fields #[.ref l, .int 0 0] })
      (o := { cls := .type "enumerate", data := .fields #[.none, .bool false, .ref s.heap.objs.size, rawInt 0, .none, .none] }) rfl
    rw [hz] at q; exact q
  exact ⟨⟨_, he, rfl⟩, h _ he ⟨_, Heap.get?_push_of_some _ (Heap.get?_push_size _ rfl), rfl, rfl⟩ (by rw [Heap.size_push, hz]) fun b o x => Heap.get?_push_of_some _ (Heap.get?_push_of_some _ x)⟩
end
end BE

namespace L2
open PySem PySem.Spec PyProof.Rows
section
variable {X : Cx} {pins : List (Addr × Obj)} {σ : St} {H : Hp} {s : Shared} {h' : Heap}
/-- two records of ours have turned, a new object is laid and tracked -/
theorem Inv.turned2 {t' : Nat} {it e T : Addr} {o : HO} (I : Inv X pins σ H s) (k : ∀ b u, b ≠ it → b ≠ e → s.heap.get? b = some u → h'.get? b = some u) (f1 : FpOk X pins H it) (f2 : FpOk X pins H e) (hp : s.heap.objs.size ≤ T)
    (new : ObjOk X.prog X.w (upd H T o) h' T o) : Inv X pins σ (upd H T o) { s with heap := h', toks := t' } := by
  have hT : H T = none := I.hok.fresh hp
  have old : ∀ b u, s.heap.get? b = some u → b ≠ T := fun b u q => Nat.ne_of_lt (Nat.lt_of_lt_of_le (Heap.lt_size q) hp)
  have up : ∀ b u, H b = some u → upd H T o b = some u := fun b u q => by rw [upd_ne (ne_of_none q hT)]; exact q
  have nit : ∀ b u, H b = some u → b ≠ it := fun b u q z => by rw [z, f1.1] at q; cases q
  have ne : ∀ b u, H b = some u → b ≠ e := fun b u q z => by rw [z, f2.1] at q; cases q
  have nin : ∀ b, b ∉ [it, e] → b ≠ it ∧ b ≠ e := fun b hb => ⟨fun z => hb (by simp [z]), fun z => hb (by simp [z])⟩
  refine I.step (g' := s.gens) (d' := s.drawn) (ch := [it, e]) (fun b hb => ?_) (fun b u _ _ hc q _ => k b u (nin b hc).1 (nin b hc).2 q) (fun b u _ _ hc q _ => ⟨u.slots, k b u (nin b hc).1 (nin b hc).2 q⟩) (fun b u hc q n => by rw [upd_ne (old b u q)]; exact n)
    (fun b u hc q => ⟨u, k b u (nin b hc).1 (nin b hc).2 q⟩) (fun b xs q => up b _ q) (fun b u v q => up b _ q) (fun b ps q => ⟨#[], by rw [up b _ q]; simp⟩) (fun m hm => ?_) (fun b u q => ?_) I.bare
  · have hb' : b = it ∨ b = e := by simpa using hb
    rcases hb' with rfl | rfl
    · exact ⟨f1.2.2.2.1, f1.2.1, f1.2.2.2.2.1, f1.2.2.2.2.2⟩
    · exact ⟨f2.2.2.2.1, f2.2.1, f2.2.2.2.2.1, f2.2.2.2.2.2⟩
  · obtain ⟨u, es, ep, hu, r⟩ := hm
    exact ⟨u, es, ep, k _ u (Ne.symm f1.2.1) (Ne.symm f2.2.1) hu, r⟩
  · by_cases z : b = T
    · subst z
      rw [upd_same] at q
      cases q
      exact new
    · rw [upd_ne z] at q
      refine (I.hok b u q).stay (fun c v hc r => k c v ?_ ?_ r) (fun c r => up c _ r) fun c xs r => up c _ r
      · rcases hc with hc | hc
        · rw [hc]; exact nit b u q
        · exact nit c _ hc
      · rcases hc with hc | hc
        · rw [hc]; exact ne b u q
        · exact ne c _ hc
end
/-- (0, x0), (1, x1), .. of the tuple at a; of the list at a -/
def Ite (K : PySem.W.Frag) (a : Addr) : It :=
  ⟨fun i H => ∃ xs x, SqT K H a xs ∧ xs[i]? = some x, fun i H x H' => ∃ p v, H p = none ∧ x = .ref p ∧ H' = upd H p (.tup [.int i, v]) ∧ ∀ xs, SqT K H a xs → xs[i]? = some v, fun i H => ∃ xs, SqT K H a xs ∧ xs.length ≤ i⟩
theorem tup2_ok {P : Program} {w : World} {H : Hp} {h : Heap} {T : Addr} {i : Nat} {t : Tok} {v : V} {u : Value} (ht : h.get? T = some { cls := .type "tuple", data := .seq #[.int i t, u] }) (r : RelV v u) : ObjOk P w H h T (.tup [.int i, v]) :=
  ⟨by show 2 ≤ sizeLine; decide, [.int i t, u], .cons ⟨t, rfl⟩ (.cons r .nil), ⟨_, ht, rfl, rfl, _, rfl⟩⟩

theorem turn_enumT {P : Program} {w : World} {K : PySem.W.Frag} {es : List Expr} {ek : Nat} {pos : Pos} (a it e : Addr) (hei : e ≠ it) : Turn P w K (.Tuple es ek pos) (Ite K a) [it, e] e (fun i h => (∃ old, IsEnum h e it i old) ∧ h.IsTupleIter it a i) where
  mem := by simp
  obj := fun i h st b hb => by
    obtain ⟨⟨old, he⟩, o, ho, hc, hd⟩ := st
    have hb' : b = it ∨ b = e := by simpa using hb
    rcases hb' with rfl | rfl
    · exact ⟨o, ho, fun v z => by rw [hd] at z; cases z⟩
    · exact ⟨_, he, fun v z => by
        have z' : Data.fields _ = Data.cell v := z
        cases z'⟩
  keep := fun i h h' st k => by
    obtain ⟨⟨old, he⟩, st⟩ := st
    exact ⟨⟨old, k e (by simp) _ he⟩, st.at fun o q => k it (by simp) o q⟩
  item := by
    intro X hP hw hK hc i pins s σ H E I hf st hg
    subst hP hw hK
    obtain ⟨⟨old, he⟩, st⟩ := st
    obtain ⟨xs, x, hq, hx⟩ := hg
    obtain ⟨its, rv, p, hz⟩ := I.tuple hq
    obtain ⟨u, hu, ru⟩ := rv.get hx
    have f1 := hf it (by simp)
    have f2 := hf e (by simp)
    have p' : s.heap.IsTuple a its.toArray := p
    have ha : a ≠ it := fun z => by
      obtain ⟨o, ho, hcl, _⟩ := st
      obtain ⟨o', ho', hcl', _⟩ := p'
      rw [z, ho] at ho'; cases ho'; rw [hcl] at hcl'; exact absurd (Value.type.inj hcl') (by decide)
    have hae : e ∉ [it, a] := fun z => by
      have z' : e = it ∨ e = a := by simpa using z
      rcases z' with z' | z'
      · exact hei z'
      · obtain ⟨o', ho', hcl', _⟩ := p'
        rw [← z', he] at ho'; cases ho'; exact absurd (Value.type.inj hcl') (by decide)
    have hlt : i < its.toArray.size := by
      have := (List.getElem?_eq_some_iff.mp hu).1
      simpa using this
    refine wpAny_pyNext_enum_itemD (BE.drawsTup (A := X.A.in1) (I.ok.hd hc) it a ha its.toArray) he ⟨st, p'⟩ hlt hei hae fun y h1 tk hy ho st1 hT hsz hk => ?_
    have ey : y = u := by
      have hy' : its.toArray[i]? = some y := hy
      rw [List.getElem?_toArray] at hy'
      rw [hu] at hy'; cases hy'; rfl
    subst ey
    refine ⟨_, rfl, wpAny_letOwnedTupleGo_enum ho fun h2 he2 sb2 => ?_⟩
    have neT : s.heap.objs.size ≠ e := Nat.ne_of_gt (Heap.lt_size he)
    have hT2 : h2.get? s.heap.objs.size = some { cls := .type "tuple", data := .seq #[.int i tk, y] } := (sb2.2 _ neT).trans hT
    have fr : H s.heap.objs.size = none := I.hok.fresh (Nat.le_refl _)
    have I2 : Inv X pins σ (upd H s.heap.objs.size (.tup [.int i, x])) { s with heap := h2, toks := tk + 1 } :=
      I.turned2 (it := it) (e := e) (fun b q h1' h2' r => (sb2.2 b h2').trans (hk b q h2' h1' r)) f1 f2 (Nat.le_refl _) (tup2_ok hT2 ru)
    refine ⟨.ref s.heap.objs.size, _, I2, rfl, ⟨_, x, fr, rfl, rfl, fun ys hy => by rw [I.tuple_inj hy hq]; exact hx⟩, ⟨⟨y, ?_⟩, ?_⟩, fun b hb => ?_⟩
    · have := he2
      rw [show ((i + 1 : Nat) : Int) = (i : Int) + 1 from by omega]
      exact this
    · exact st1.1.at fun o q => (sb2.2 it (Ne.symm hei)).trans q
    · have hn := (hf b hb).1
      have hb' : b ≠ s.heap.objs.size := fun z => by
        have hlt' : b < s.heap.objs.size := by
          have hb2 : b = it ∨ b = e := by simpa using hb
          rcases hb2 with rfl | rfl
          · obtain ⟨o, ho, _⟩ := st; exact Heap.lt_size ho
          · exact Heap.lt_size he
        exact absurd z (Nat.ne_of_lt hlt')
      rw [upd_ne hb']
      exact hn
  done := by
    intro X hP hw hK hc i pins s σ H E I hf st hg
    subst hP hw hK
    obtain ⟨⟨old, he⟩, st⟩ := st
    obtain ⟨xs, hq, hx⟩ := hg
    obtain ⟨its, rv, p, hz⟩ := I.tuple hq
    have f1 := hf it (by simp)
    have p' : s.heap.IsTuple a its.toArray := p
    have hT : s.TypeIs (.ref e) "enumerate" := ⟨_, he, rfl⟩
    unfold pyNext
    refine wpAny_bind (wpAny_attempt (wpAny_callSpecial?_slot (name := Str.ofString "__next__") hT F.slot_enumerate_next (wpAny_call_entry F.slot_enumerate_next hT F.entry_enumerate_next ?_ (F.args_enumerate_next_1 _))))
    show wpAny _ _ (field (.ref e) 2 >>= _) _ _ _
    refine wpAny_bind (wpAny_field he rfl (x := .ref it) rfl ?_)
    refine wpAny_bind (BE.nextOf_tup_end (A := X.A.in1) (I.ok.hd hc) st p' (by simp; have := rv.length; omega) fun h1 ex hb hx' => ?_)
    obtain ⟨o, ho, hcl⟩ := hx'
    refine wpAny_bind (wpAny_isInstance (T := "StopIteration") (b := true) ⟨o, ho, hcl⟩ isSubtype_stop ?_)
    exact wpAny_pure ⟨rfl, I.turned (t' := s.toks) (fun b q hb' r => hb b q hb' r) f1.1 f1.2.1 f1.2.2.2.1 f1.2.2.2.2.1 f1.2.2.2.2.2⟩
  self := fun _ _ _ _ _ st h => let ⟨⟨_, he⟩, _⟩ := st; wpAny_pyIter_enum he h

section
variable {X : Cx} {es : List Expr} {ek : Nat} {tpos : Pos}
def iEnumT (K : PySem.W.Frag) (ta : TA) : TI := fun σ H R => ta σ H fun vs H1 => ∃ a xs, vs = [.ref a] ∧ SqT K H1 a xs ∧ R (Ite K a) H1
theorem pi_enumT {x : Expr} {ta : TA} {p pos : Pos} (hg : Gl X "enumerate") (hm : X.mg "enumerate" = none) (ha : PA X [x] ta) (hs : starEach [x] X.env = [(false, eval x X.env)] := by rfl) :
    PI X (.Tuple es ek tpos) (.Call (.Name "enumerate" p) [x] [] pos) (iEnumT X.K ta) := by
  intro pins s σ H R I h
  refine Call_ (ld_blt I hg hm boot_enumerate (PyProof.Rows.callWith_type1 (thn (ha pos pins s σ H _ I h) fun us s1 ⟨vs, H1, I1, r1, q1⟩ => ?_) hs rfl))
  obtain ⟨a, xs, e, hq, q⟩ := q1
  subst e
  cases r1 with
  | cons r rr =>
    cases rr
    cases r
    obtain ⟨its, rv, pt, hz⟩ := I1.tuple hq
    refine BE.call_enum_tup (show s1.heap.IsTuple a its.toArray from pt) fun h' he hit hsz hk => ?_
    refine wpAny_pyIter_enum he ?_
    have hne : s1.heap.objs.size + 1 ≠ s1.heap.objs.size := Nat.succ_ne_self _
    refine ⟨s1.heap.objs.size + 1, [s1.heap.objs.size, s1.heap.objs.size + 1], _, _, H1, rfl, I1.kept (t' := s1.toks) hk, turn_enumT a s1.heap.objs.size (s1.heap.objs.size + 1) hne, ⟨⟨_, he⟩, hit⟩, fun b hb => ?_, q⟩
    have hb' : b = s1.heap.objs.size ∨ b = s1.heap.objs.size + 1 := by simpa using hb
    rcases hb' with rfl | rfl
    · exact I1.fpOk (Nat.le_refl _) (I1.hok.fresh (Nat.le_refl _))
    · exact I1.fpOk (Nat.le_succ _) (I1.hok.fresh (Nat.le_succ _))
end
/-- the form that one uses: over the pairs of a tuple that the body leaves as it is (tuples never change) -/
theorem for_enumT {K : PySem.W.Frag} {a : Addr} {xs : List V} {g : TG} {tb : TS} {D : Ends} {σ : St} {H : Hp} (Pv : Nat → St → Hp → Prop) (h0 : Pv 0 σ H) (hl : ∀ i σ H, i ≤ xs.length → Pv i σ H → SqT K H a xs)
    (hs : ∀ i v p σ H, xs[i]? = some v → H p = none → Pv i σ H → g (.ref p) σ (upd H p (.tup [.int i, v])) fun σ2 H2 => tb { D with nx := Pv (i + 1), ct := Pv (i + 1), bk := D.nx } σ2 H2) (hd : ∀ σ H, Pv xs.length σ H → D.nx σ H) :
    ∃ W : Nat → Nat → St → Hp → Prop, (∃ m, W 0 m σ H) ∧ ∀ i m σ H, W i m σ H →
      ((Ite K a).stop i H ∧ D.nx σ H) ∨ ((Ite K a).go i H ∧ ∃ N : St → Hp → Prop, (∀ σ' H', N σ' H' → ∃ m', m' < m ∧ W (i + 1) m' σ' H') ∧ ∀ x H', (Ite K a).yld i H x H' → g x σ H' fun σ2 H2 => tb { D with nx := N, ct := N, bk := D.nx } σ2 H2) := by
  refine ⟨fun i m σ H => m = xs.length - i ∧ i ≤ xs.length ∧ Pv i σ H, ⟨xs.length, by simp, Nat.zero_le _, h0⟩, ?_⟩
  rintro i m σ H ⟨rfl, hi, p⟩
  have q := hl i σ H hi p
  by_cases hlt : i < xs.length
  · refine .inr ⟨⟨xs, xs[i], q, by simp [hlt]⟩, Pv (i + 1), fun σ' H' p' => ⟨xs.length - (i + 1), by omega, rfl, hlt, p'⟩, fun x H' y => ?_⟩
    obtain ⟨b, v, hb, e1, e2, y⟩ := y
    subst e1 e2
    exact hs i v b σ _ (y xs q) hb p
  · have e : i = xs.length := by omega
    subst e
    exact .inl ⟨⟨xs, q, Nat.le_refl _⟩, hd σ H p⟩
end L2
set_option Elab.async false
set_option linter.all false
set_option maxRecDepth 100000
/-! More rules over the hand layer: t + u and t[a:b] of any tuples, all(list), any(list). -/
namespace L2
open PySem PySem.Spec PyProof.Rows
section
variable {prog : Program} {w : World} {A : Around} {E : Value → Shared → Prop} {s : Shared}
/-- t + u: one of them, or a new one -/
theorem catAny {t b : Addr} {vs ws : List Value} {Q : Value → Shared → Prop} (ht : IsTup s.heap t vs.toArray) (hb : IsTup s.heap b ws.toArray) (h0 : vs = [] → Q (.ref b) s) (h1 : ws = [] → Q (.ref t) s)
    (h2 : Q (.ref s.heap.objs.size) { s with heap := s.heap.push { cls := .type "tuple", data := .seq (vs ++ ws).toArray } }) (hsz : vs.length + ws.length ≤ sizeLine) : wpAny (model prog w) A (binaryOp .Add (.ref t) (.ref b)) Q E s := by
  by_cases hv : vs = []
  · obtain ⟨⟨c1, d1, a1, l1⟩, o1, k1, n1, q1⟩ := id ht
    obtain ⟨⟨c2, d2, a2, l2⟩, o2, k2, n2, q2⟩ := id hb
    simp only at k1 q1 k2 q2
    subst k1 q1 k2 q2
    exact concat_meets ⟨_, o1, rfl⟩ ⟨_, o2, rfl⟩ noFill_tuple_add seq_tuple_add PySem.F.slot_tuple_add PySem.F.entry_tuple_add (PySem.F.args_tuple_add_2 _ _) (tuple_addW0 t b vs.toArray ws.toArray n1 n2 d1 d2 l1 l2 (by simp [hv])) ⟨o1, o2, h0 hv⟩
  · exact HT.cat_tup ht hb hv h1 (fun _ => h2) hsz
/-- t[a:b], the whole of it: t itself -/
theorem sliceWhole {t sl : Addr} {items : Array Value} {vl vu : Value} {lo hi : Option Int} {Q : Value → Shared → Prop} (ht : IsTup s.heap t items) (hs : s.heap.IsSliceOf sl vl vu .none) (pl : IsPart vl lo) (pu : IsPart vu hi)
    (hw : HT.sIx items.size 0 lo = 0 ∧ HT.sIx items.size items.size hi = items.size) (h : Q (.ref t) s) : wpAny (model prog w) A (getItem (.ref t) (.ref sl)) Q E s := by
  obtain ⟨o1, ho1, hc1, hd1⟩ := id hs
  have hTs : s.TypeIs (.ref sl) "slice" := ⟨o1, ho1, hc1⟩
  unfold getItem
  try with_reducible refine wpAny_holding ?_
  first | refine wpAny_bind (wpAny_pure ?_) | skip
  refine wpAny_bind (wpAny_sequenceKey ht.typeIs (by decide) ?_)
  refine wpAny_bind (wpAny_callSpecial?_slot (name := Str.ofString "__getitem__") ht.typeIs PyProof.Rows.slot_tuple_getitem (wpAny_call_entry PyProof.Rows.slot_tuple_getitem ht.typeIs entry_tuple_getitem ?_ (args_tuple_getitem _ _)))
  show wpAny _ _ (Builtin.Tuple.tupleItemsOf (.ref t) >>= _) _ _ s
  refine wpAny_bind (tupleItemsOf_ ht ?_)
  refine wpAny_bind (wpAny_typeOf hTs ?_)
  rw [if_pos (by decide)]
  refine wpAny_bind (HT.sliceApplied_gen hs pl pu ?_)
  have yes : (((HT.sIx items.size 0 lo : Nat) : Int) == 0 && (1 : Int) == 1 && (HT.sIx items.size items.size hi - HT.sIx items.size 0 lo) == items.size) = true := by rw [hw.1, hw.2]; simp
  show wpAny _ _ (if (((HT.sIx items.size 0 lo : Nat) : Int) == 0 && (1 : Int) == 1 && (HT.sIx items.size items.size hi - HT.sIx items.size 0 lo) == items.size) = true then _ else _) _ _ s
  rw [if_pos yes]
  unfold Builtin.Tuple.tupleIsExact
  refine wpAny_bind (wpAny_bind (wpAny_typeOf ht.typeIs (wpAny_pure ?_)))
  rw [if_pos (by decide)]
  first
    | exact wpAny_bind (wpAny_rule (wpAny_pure ⟨_, rfl, wpAny_pure h⟩))
    | exact wpAny_bind (wpAny_rule (wpAny_bind (wpAny_pure (wpAny_pure ⟨_, rfl, wpAny_pure h⟩))))
end
/-- t + u of tuples: a tuple with both's items, all else as it was -/
def rCatA : R2 := fun x y H Q => ∃ a b xs ys, x = .ref a ∧ y = .ref b ∧ H a = some (.tup xs) ∧ H b = some (.tup ys) ∧ xs.length + ys.length ≤ sizeLine ∧ ∀ p H', Same H H' → H' p = some (.tup (xs ++ ys)) → Q (.ref p) H'
/-- t[a:b] of a tuple -/
def rSlA : V → Option Int → Option Int → Hp → VK → Prop := fun x lo hi H Q => ∃ a xs, x = .ref a ∧ H a = some (.tup xs) ∧ ∀ p H', Same H H' → H' p = some (.tup (cutV xs lo hi)) → Q (.ref p) H'
theorem cutV_whole {xs : List V} {lo hi : Option Int} (h : HT.sIx xs.length 0 lo = 0 ∧ HT.sIx xs.length xs.length hi = xs.length) : cutV xs lo hi = xs := by
  unfold cutV
  rw [h.1, h.2]
  simp
section
variable {X : Cx}
theorem op_catA : OpR X (binaryOp .Add) rCatA := by
  intro pins s σ H x y v u Q I rx ry h
  obtain ⟨a, b, xs, ys, rfl, rfl, ha, hb, hz, q⟩ := h
  cases rx
  cases ry
  obtain ⟨i1, r1, p1, _⟩ := I.tuple (SqT.of ha)
  obtain ⟨i2, r2, p2, _⟩ := I.tuple (SqT.of hb)
  refine catAny p1 p2 (fun z => ⟨.ref b, H, I, rfl, q b H (Same.refl H) ?_⟩) (fun z => ⟨.ref a, H, I, rfl, q a H (Same.refl H) ?_⟩) ?_ (by rw [← r1.length, ← r2.length]; exact hz)
  · rw [r1.nil_iff.mp z]; exact hb
  · rw [r2.nil_iff.mp z, List.append_nil]; exact ha
  · have fr : H s.heap.objs.size = none := I.hok.fresh (Nat.le_refl _)
    refine ⟨.ref s.heap.objs.size, _, I.laid (t' := s.toks) (o := .tup (xs ++ ys)) (fun b ob q => Heap.get?_push_of_some _ q) (Nat.le_refl _) ?_, rfl, q _ _ (same_new fr _) upd_same⟩
    exact ⟨by rw [List.length_append]; exact hz, _, r1.append r2, TupP.new _ _⟩
theorem sl_tupA : SlR X rSlA := by
  intro pins s σ H x v vl vu lo hi sl Q I rx hs pl pu h
  obtain ⟨a, xs, rfl, hx, q⟩ := h
  by_cases hw : HT.sIx xs.length 0 lo = 0 ∧ HT.sIx xs.length xs.length hi = xs.length
  · cases rx
    obtain ⟨its, r, ht, hz⟩ := I.tuple (SqT.of hx)
    have hlen : its.toArray.size = xs.length := by rw [List.size_toArray]; exact r.length.symm
    refine ⟨"tuple", _, PyProof.Rows.slot_tuple_getitem.lookup, ht.typeIs, ?_⟩
    exact sliceWhole ht hs pl pu (by rw [hlen]; exact hw) ⟨.ref a, H, I, rfl, q a H (Same.refl H) (by rw [cutV_whole hw]; exact hx)⟩
  · exact sl_tup pins s σ H _ v vl vu lo hi sl Q I rx hs pl pu ⟨a, xs, rfl, SqT.of hx, hw, fun p hp => q p _ (same_new hp _) upd_same⟩

/-! ### all(xs), any(xs) of a list of bools -/
def rAll : List V → Hp → VK → Prop := fun vs H Q => ∃ (a : Addr) (bs : List Bool), vs = [.ref a] ∧ H a = some (.lst (bs.map V.bl)) ∧ Q (.bl (bs.all id)) H
theorem bools_of : ∀ {bs : List Bool} {us : List Value}, Vals (bs.map V.bl) us → us = bs.map Value.bool
  | [], _, .nil => rfl
  | b :: r, _, .cons q t => by rw [show _ = Value.bool b from q, bools_of t]; rfl
theorem range_all (bs : List Bool) : (List.range bs.length).all (fun i => bs.getD i false) = bs.all id := by
  rw [Bool.eq_iff_iff, List.all_eq_true, List.all_eq_true]
  constructor
  · intro h b hb
    obtain ⟨i, hi, e⟩ := List.getElem_of_mem hb
    have := h i (List.mem_range.mpr hi)
    rw [List.getD_eq_getElem?_getD, List.getElem?_eq_getElem hi] at this
    rw [← e]; exact this
  · intro h i hi
    have hi' := List.mem_range.mp hi
    rw [List.getD_eq_getElem?_getD, List.getElem?_eq_getElem hi']
    exact h _ (List.getElem_mem hi')
theorem truth_bools {A : Around} (bs : List Bool) : TruthOf X.prog X.w A (fun i v => (bs.map Value.bool).toArray[i]? = some v) (fun i => bs.getD i false) := fun i v s Q E hP hQ => by
  have h2 : (bs.map Value.bool)[i]? = some v := by simpa using hP
  rw [List.getElem?_map] at h2
  cases e : bs[i]? with
  | none => rw [e] at h2; cases h2
  | some b =>
    rw [e] at h2
    cases h2
    refine wpAny_truthy_bool ?_
    have z : bs.getD i false = b := by rw [List.getD_eq_getElem?_getD, e]; rfl
    have hQ' : Q (bs.getD i false) s := hQ
    rw [z] at hQ'
    exact hQ'
theorem call_allL (hc : X.calm = true) : CallR X (.builtin "all") rAll := by
  intro pins s σ H xs us Q I rs h
  obtain ⟨a, bs, rfl, hl, q⟩ := h
  obtain ⟨u, rfl, ru⟩ := vals1 rs
  cases ru
  obtain ⟨its, rv, p, hz⟩ := I.list (SqL.of hl)
  have e := bools_of rv
  subst e
  obtain ⟨oa, hoa, _⟩ := id p.isList
  have hne : a ≠ s.heap.objs.size := Nat.ne_of_lt (Heap.lt_size hoa)
  refine call_all_walk (wpAny_pyIter_list p.isList ?_)
  refine ⟨s.heap.objs.size, _, _, _, _, _, fun i => bs.getD i false, rfl, Walks.list (A := X.A.in1) (I.ok.hd hc) _ a hne (bs.map Value.bool).toArray, ⟨⟨_, Heap.get?_push_size _ rfl, rfl, rfl⟩, p.isList.at fun o r => Heap.get?_push_of_some _ r⟩, truth_bools bs, fun h' tk hk => ?_⟩
  have en : (List.range (bs.map Value.bool).toArray.size).all (fun i => bs.getD i false) = bs.all id := by
    rw [List.size_toArray, List.length_map]; exact range_all bs
  refine ⟨.bl (bs.all id), H, I.kept (t' := tk) fun b o r => hk b o (fun z => ?_) (Heap.get?_push_of_some _ r), (by rw [en]; exact rfl), q⟩
  have z' : b = s.heap.objs.size := by simpa using z
  exact absurd z' (Nat.ne_of_lt (Heap.lt_size r))
end
end L2
set_option Elab.async false
set_option linter.all false
set_option maxRecDepth 100000
/-! Errors of the program's own over the hand layer: raised, passed on by callers. -/
namespace L2
open PySem PySem.Spec PyProof.Rows
theorem ObjOk.get {P : Program} {w : World} {H : Hp} {h : Heap} {a : Addr} {o : HO} (x : ObjOk P w H h a o) : ∃ ob, h.get? a = some ob := by
  cases o with
  | lst xs => obtain ⟨_, _, _, _, e⟩ := x; exact ⟨_, e⟩
  | tup xs => obtain ⟨_, _, _, o, e, _⟩ := x; exact ⟨_, e⟩
  | dK kvs => obtain ⟨_, _, _, _, o, _, _, e, _⟩ := x; exact ⟨_, e⟩
  | dT kvs => obtain ⟨_, _, _, _, o, _, _, e, _⟩ := x; exact ⟨_, e⟩
  | set S n => obtain ⟨o, _, _, _, e, _⟩ := x; exact ⟨_, e⟩
  | ins C dx fs => obtain ⟨_, _, _, e, _⟩ := x; exact ⟨_, e⟩
  | own y => exact x
  | xd fs => obtain ⟨_, ⟨_, _, _, e, _⟩, _⟩ := x; exact ⟨_, e⟩
  | rng lo hi => obtain ⟨_, _, _, e⟩ := x; exact ⟨_, e⟩
  | frz ob u => obtain ⟨e, _⟩ := x; exact ⟨_, e⟩
  | tbl ps => exact ⟨_, (show h.get? a = some _ from x)⟩
  | met f y => exact ⟨_, (show h.get? a = some _ from x)⟩
  | ext φ => exact x.2.1

/-- an error of the own class C lies behind a call: the object at a flies over the callers' frames; B: all else that stands -/
structure FlyX (P : Program) (w : World) (outer : List Env) (H : Hp) (s : Shared) (a C t : Addr) (H' : Hp) (B : Heap) (s' : Shared) : Prop where
  os : s'.os = s.os
  bare : AllBare s'.gens
  un : Un (frs outer) [] H H' s.heap s'.heap
  hok : HOk P w H' s'.heap
  fly : Heap.FlyingW B outer a (.ref C) (.ref t) s'.heap
  old : ∀ b o, s.heap.get? b = some o → b ∉ frs outer → ∃ ob, B.get? b = some ob
  trk : ∀ b o, H' b = some o → ∃ ob, B.get? b = some ob
def CXr (P : Program) (w : World) : CXT := fun outer H s E e s' => ∃ (a C t : Addr) (H' : Hp) (B : Heap), e = .ref a ∧ FlyX P w outer H s a C t H' B s' ∧ E (.ref C) none H'
/-- where no error is wished none comes -/
theorem passN {P : Program} {w : World} {X : Cx} : Passes (CXr P w) X E0 := fun _ _ _ _ _ _ _ h => let ⟨_, _, _, _, _, _, _, z⟩ := h; False.elim z

/-- from one heap to the next: B stands, the frames change their slots alone -/
theorem fly_step {P : Program} {w : World} {outer : List Env} {H H' : Hp} {h0 h1 h2 B : Heap} (un : Un (frs outer) [] H H' h0 h1) (hok : HOk P w H' h1) (b1 : B.StaysIn h1) (b2 : B.StaysIn h2)
    (old : ∀ b o, h0.get? b = some o → b ∉ frs outer → ∃ ob, B.get? b = some ob) (trk : ∀ b o, H' b = some o → ∃ ob, B.get? b = some ob) (frm : ∀ b ∈ frs outer, ∀ o, h1.get? b = some o → ∃ sl, h2.get? b = some { o with slots := sl }) :
    Un (frs outer) [] H H' h0 h2 ∧ HOk P w H' h2 := by
  have on : ∀ b ob o, B.get? b = some ob → h1.get? b = some o → h2.get? b = some o := fun b ob o q r => by
    have z := b1 b ob q
    rw [r] at z
    cases z
    exact b2 b _ q
  refine ⟨⟨fun b o e n hb hx => ?_, fun b o e n hb hx => ?_, un.free, fun b o e hx => ?_, un.tups, un.frzs, un.tbls⟩, fun b u e => ?_⟩
  · obtain ⟨ob, q⟩ := old b o e hb
    exact on b ob o q (un.keep b o e n hb hx)
  · obtain ⟨sl, q⟩ := un.slot b o e n hb hx
    obtain ⟨sl', r⟩ := frm b hb _ q
    exact ⟨sl', r⟩
  · by_cases hb : b ∈ frs outer
    · obtain ⟨o', q⟩ := un.there b o e hx
      obtain ⟨sl, r⟩ := frm b hb _ q
      exact ⟨_, r⟩
    · obtain ⟨ob, q⟩ := old b o e hb
      exact ⟨_, b2 b ob q⟩
  · refine (hok b u e).stay (fun c v hc q => ?_) (fun _ q => q) fun _ _ q => q
    rcases hc with hc | hc
    · subst hc
      obtain ⟨ob, r⟩ := trk c u e
      exact on c ob v r q
    · obtain ⟨ob, r⟩ := trk c _ hc
      exact on c ob v r q

section
variable {P : Program} {w : World} {K : PySem.W.Frag} {mg : Str → Option Value} {base : Heap} {N : List Str} {qual : Str} {scope : Scope} {f : Addr} {cd : Value} {A : Around} {outer : List Env} {s : Shared} {H : Hp} {E : XK}
/-- an error is made here, and leaves the def -/
theorem leave_made {pins : List (Addr × Obj)} {σ : St} {H1 : Hp} {s1 : Shared} {h' : Heap} {a C : Addr} {vs : List Value} (I : Inv (cxOf (CXr P w) P w K mg base N qual scope f cd A outer s H E) pins σ H1 s1) (hx : Heap.MadeExcOf s1.heap h' a (.ref C) vs)
    (hE : E (.ref C) none H1) : (cxOf (CXr P w) P w K mg base N qual scope f cd A outer s H E).xe (.ref a) { s1 with heap := h' } := by
  have fr : ∀ env ∈ (envOfC qual scope s.heap.objs.size f cd :: outer), ∀ b, env.frame = some b → b ∈ frs (envOfC qual scope s.heap.objs.size f cd :: outer) := fun env he b hb => List.mem_filterMap.mpr ⟨env, he, hb⟩
  have hst : s1.heap.FunFrames base (envOfC qual scope s.heap.objs.size f cd :: outer) := I.stack
  have hout : ∀ b, b ∉ frs outer → b ≠ s.heap.objs.size → b ∉ frs (envOfC qual scope s.heap.objs.size f cd :: outer) := fun b h1 h2 z => by
    rcases List.mem_cons.mp (I.stkSub b z) with q | q
    · exact h2 q
    · exact h1 q
  have B1 : (PySem.W.hideAll s1.heap (frs (envOfC qual scope s.heap.objs.size f cd :: outer))).StaysIn s1.heap := fun b o q => PySem.W.of_hideAll _ q
  have bin : ∀ b o, b ∉ frs (envOfC qual scope s.heap.objs.size f cd :: outer) → s1.heap.get? b = some o → (PySem.W.hideAll s1.heap (frs (envOfC qual scope s.heap.objs.size f cd :: outer))).get? b = some o := fun b o n q => PySem.W.hideAll_get _ q n
  have old : ∀ b o, s.heap.get? b = some o → b ∉ frs outer → ∃ ob, (PySem.W.hideAll s1.heap (frs (envOfC qual scope s.heap.objs.size f cd :: outer))).get? b = some ob := fun b o q n => by
    obtain ⟨o', r⟩ := I.base.there b o q (fun z => nomatch (show b ∈ ([] : List Addr) from z))
    exact ⟨o', bin b o' (hout b n (Nat.ne_of_lt (Heap.lt_size q))) r⟩
  have trk : ∀ b o, H1 b = some o → ∃ ob, (PySem.W.hideAll s1.heap (frs (envOfC qual scope s.heap.objs.size f cd :: outer))).get? b = some ob := fun b o q => by
    obtain ⟨ob, r⟩ := (I.hok b o q).get
    refine ⟨ob, bin b ob (fun z => ?_) r⟩
    rw [I.stkFree b z] at q
    cases q
  refine wpAny_leaves_madeW (base := PySem.W.hideAll s1.heap (frs (envOfC qual scope s.heap.objs.size f cd :: outer))) (L := s.heap.objs.size) I.ok.frames rfl B1 (PySem.W.funFrames_hide hst fr) hx fun h2 t fl tup tn ups => ?_
  have un1 : Un (frs outer) [] H H1 s.heap s1.heap := I.base
  have frm : ∀ b ∈ frs outer, ∀ o, s1.heap.get? b = some o → ∃ sl, h2.get? b = some { o with slots := sl } := fun b hb o q => by
    obtain ⟨_, o', r, nf⟩ := I.funs.mem hb
    rw [q] at r
    cases r
    exact ups b o (hx.keeps b o q) nf
  obtain ⟨un2, hok2⟩ := fly_step un1 I.hok B1 fl.1 old trk frm
  exact ⟨a, C, t, H1, _, rfl, ⟨I.os, I.bare, un2, hok2, fl, old, trk⟩, hE⟩
/-- an error of a callee leaves this def too -/
theorem passR : Passes (CXr P w) (cxOf (CXr P w) P w K mg base N qual scope f cd A outer s H E) E := by
  intro pins σ H1 s1 e s' I h
  obtain ⟨a, C, t, H', B, rfl, F, hE⟩ := h
  have I' : Inv (cxOf (CXr P w) P w K mg base N qual scope f cd A outer s H E) pins σ H' s' := I.call' F.os F.un F.hok F.bare fun b hb => nomatch hb
  have hout : ∀ b, b ∉ frs outer → b ≠ s.heap.objs.size → b ∉ frs (envOfC qual scope s.heap.objs.size f cd :: outer) := fun b h1 h2 z => by
    rcases List.mem_cons.mp (I.stkSub b z) with q | q
    · exact h2 q
    · exact h1 q
  have old : ∀ b o, s.heap.get? b = some o → b ∉ frs outer → ∃ ob, B.get? b = some ob := fun b o q n => by
    obtain ⟨o', r⟩ := I.base.there b o q (fun z => nomatch (show b ∈ ([] : List Addr) from z))
    exact F.old b o' r (hout b n (Nat.ne_of_lt (Heap.lt_size q)))
  refine wpAny_leaves_onW (base := B) (L := s.heap.objs.size) I.ok.frames rfl F.fly fun h2 fl ups => ?_
  have un1 : Un (frs outer) [] H H' s.heap s'.heap := I'.base
  have frm : ∀ b ∈ frs outer, ∀ o, s'.heap.get? b = some o → ∃ sl, h2.get? b = some { o with slots := sl } := fun b hb o q => by
    obtain ⟨_, o', r, nf⟩ := I'.funs.mem hb
    rw [q] at r
    cases r
    exact ups b o q nf
  obtain ⟨un2, hok2⟩ := fly_step un1 I'.hok F.fly.1 fl.1 old F.trk frm
  exact ⟨a, C, t, H', B, rfl, ⟨I'.os, I'.bare, un2, hok2, fl, old, F.trk⟩, hE⟩

/-- an own error class by the looks at the written part -/
theorem own_at {K : PySem.W.Frag} {h : Heap} {mg : Str → Option Value} {x : Str} {C : Addr} {bm : List Value} {newId : String} (X : K.In h) (m : mg x = some (.ref C)) (q : PySem.W.excIn K C bm newId = true) : OwnCls x C bm newId mg h := by
  refine ⟨m, ?_⟩
  unfold PySem.W.excIn at q
  split at q
  · rename_i d1 c1 s1 look
    split at q
    · rename_i C1 b1 e0 e1 e2 e3 n1 e5 mro slots
      simp only [Bool.and_eq_true, beq_iff_eq, Bool.not_eq_true'] at q
      obtain ⟨⟨⟨⟨⟨rfl, rfl⟩, nodel⟩, tail⟩, good⟩, noinit⟩ := q
      obtain ⟨a1, a2, a3, a4, a5, a6, a7, a8, a9, a10, a11⟩ := c1
      dsimp only at mro nodel good noinit
      subst mro nodel
      have es : s1 = #[e0, e1, e2, e3, some (.builtin n1), e5] := by
        obtain ⟨l1⟩ := s1
        simp only at slots
        rw [slots]
      subst es
      exact ⟨b1, a4, a1, a5, a2, a6, a7, a8, a9, a10, d1, e0, e1, e2, e3, e5, _, X _ _ look, .of_isNs (PySem.W.isNs_of_in X good), PySem.W.nsMap_none_of_in X good noinit, PySem.W.tail_of_in X tail⟩
    · cases q
  · cases q
/-- raise C(e), C an own error class -/
theorem ps_raise {x : Str} {C : Addr} {e0 : Expr} {te : TE} {np cpos pos : Pos} {bm : List Value} {Bn newId initId : String} (hm : mg x = some (.ref C)) (hq : PySem.W.excIn K C bm newId = true) (FB : ExcBaseFacts Bn newId initId bm) (hd : (A.deeper (envOfC qual scope s.heap.objs.size f cd)).handled = none)
    (he : PE (cxOf (CXr P w) P w K mg base N qual scope f cd A outer s H E) e0 te) (hg : Gl (cxOf (CXr P w) P w K mg base N qual scope f cd A outer s H E) x) (hdb : (x == ("__debug__" : Str)) = false := by decide)
    (hs : starEach [e0] (envOfC qual scope s.heap.objs.size f cd) = (false, eval e0 (envOfC qual scope s.heap.objs.size f cd)) :: [] := by rfl) :
    PS (cxOf (CXr P w) P w K mg base N qual scope f cd A outer s H E) (.Raise (some (.Call (.Name x np) [e0] [] cpos)) none pos) (fun _ σ H0 => tCons te tNil σ H0 fun xs H1 => xs.length ≤ sizeLine ∧ E (.ref C) none H1) := by
  intro pins s1 σ H1 D I h
  have O : OwnCls x C bm newId mg base := own_at I.mod.kin hm hq
  obtain ⟨tl, Nn, nm, q, bs, hdct, sn, sub, ab, col, dd, k0, k1, k2, k3, k5, mN, hC, hN, hni, T⟩ := O.obj
  refine wpAny_Raise_call_subT (C := C) (nm := nm) (q := q) (N := Nn) (bs := bs) (bm := tl) (hdct := hdct) (sn := sn) (sub := sub) (ab := ab) (col := col) (dd := dd) (k0 := k0) (k1 := k1) (k2 := k2) (k3 := k3) (k5 := k5)
    FB (mN := mN) (T.hasType FB.hasBase) hd (by show (backTo cpos (starEach [e0] (envOfC qual scope s.heap.objs.size f cd))).any (·.1) = false; rw [hs]; rfl) hni (ld_glob I hg O.bound ⟨rfl, ?_⟩ hdb)
  have pa : PA (cxOf (CXr P w) P w K mg base N qual scope f cd A outer s H E) [e0] (tCons te tNil) := pa_cons he pa_nil hs
  have z := pa cpos pins s1 σ H1 (fun xs H2 => xs.length ≤ sizeLine ∧ E (.ref C) none H2) I h
  show wpAny _ _ (evalArgs (.ref C) true (backTo cpos (starEach [e0] (envOfC qual scope s.heap.objs.size f cd))) []) _ _ _
  rw [hs]
  rw [show (cxOf (CXr P w) P w K mg base N qual scope f cd A outer s H E).env = envOfC qual scope s.heap.objs.size f cd from rfl, hs] at z
  refine Calls.evalArgs_plain (wpAny_mono z (fun vs s2 h2 => ?_) fun _ _ y => y)
  obtain ⟨xs, H2, I2, rv, ql, qE⟩ := h2
  have hlen : vs.length ≤ sizeLine := by rw [← rv.length]; exact ql
  exact ⟨rfl, hlen, I2.bk _ _ hC, hN.keeps I2.bk, T.keeps I2.bk, fun h' e hm => leave_made I2 hm qE⟩
end

/-! ### a def whose errors pass on, by its body -/
section
variable {P : Program} {w : World} {K : PySem.W.Frag} {mg : Str → Option Value} {base : Heap}
theorem Fun.okR {x qual : Str} {st : Stmt} {f : Addr} {fd : FuncData} {N ps : List Str} {k : Nat} {sp : Sp} (F : Fun K x qual st f fd) (S : FnScope N ps (defScope st)) (len : ∀ vs H Q E, sp vs H Q E → vs.length = ps.length)
    (hbody : ∀ (cdv : Value) (A : Around) (outer : List Env) (s : Shared) (H : Hp) (vs : List V) (Q : VK) (E : XK), Room k (A.deeper (envOfC qual (defScope st) s.heap.objs.size f cdv)) → sp vs H Q E →
      ∃ t, PSs (cxOf (CXr P w) P w K mg base N qual (defScope st) f cdv A outer s H E) (defBody st) t ∧ t { nx := fun _ H' => Q .non H', rt := Q } (start N vs) H) : FnOk P w K mg base (CXr P w) (k + 1) f fd ps sp := by
  obtain ⟨oc, od, kV, doc, pm, an, cdv, ct, osl, rfl, lk, hcd⟩ := F.ex
  refine fn_of lk hcd S len fun A outer s H vs Q E hr hsp => ?_
  obtain ⟨t, h, q⟩ := hbody cdv A outer s H vs Q E hr hsp
  exact ⟨t, h, q⟩
/-- .. for a def that no error leaves -/
theorem Fun.okN {x qual : Str} {st : Stmt} {f : Addr} {fd : FuncData} {N ps : List Str} {k : Nat} {sp : Sp} (F : Fun K x qual st f fd) (S : FnScope N ps (defScope st)) (len : ∀ vs H Q E, sp vs H Q E → vs.length = ps.length)
    (hbody : ∀ (cdv : Value) (A : Around) (outer : List Env) (s : Shared) (H : Hp) (vs : List V) (Q : VK) (E : XK), Room k (A.deeper (envOfC qual (defScope st) s.heap.objs.size f cdv)) → sp vs H Q E →
      ∃ t, PSs (cxOf (CXr P w) P w K mg base N qual (defScope st) f cdv A outer s H E).nox (defBody st) t ∧ t { nx := fun _ H' => Q .non H', rt := Q } (start N vs) H) : FnOk P w K mg base (CXr P w) (k + 1) f fd ps sp :=
  F.okR S len fun cdv A outer s H vs Q E hr h => let ⟨t, ht, q⟩ := hbody cdv A outer s H vs Q E hr h; ⟨t, ht.nox, q⟩
end
end L2
set_option Elab.async false
set_option linter.all false
set_option maxRecDepth 100000
namespace L2
open PySem PySem.Spec PyProof.Rows
/-! ### Python's own names -/
theorem bt_len : bootBuiltins "len" = some (.builtin "len") := by decide +kernel
theorem bt_isinstance : bootBuiltins "isinstance" = some (.builtin "isinstance") := by decide +kernel
theorem bt_min : bootBuiltins "min" = some (.builtin "min") := by decide +kernel
theorem bt_max : bootBuiltins "max" = some (.builtin "max") := by decide +kernel
theorem bt_all : bootBuiltins "all" = some (.builtin "all") := by decide +kernel
theorem bt_int : bootBuiltins "int" = some (.type "int") := by decide +kernel
theorem bt_bool : bootBuiltins "bool" = some (.type "bool") := by decide +kernel
theorem bt_list : bootBuiltins "list" = some (.type "list") := by decide +kernel
theorem bt_tuple : bootBuiltins "tuple" = some (.type "tuple") := by decide +kernel
/-! ### rules within a block: the written part said once -/
section
variable {X : Cx} (K : PySem.W.Frag)
theorem b_op_notIn_seq (h : X.K = K := by rfl) : OpR X (compareOp .NotIn) (rIn K true) := h ▸ op_notIn_seq
theorem b_ix_list (h : X.K = K := by rfl) : IxR X (rIxL K) := h ▸ ix_list
end
/-! ### a def of the text -/
structure DefAt (K : PySem.W.Frag) (mg : Str → Option Value) (x : Str) (st : Stmt) (ps : List Str) where
  a : Addr
  d : FuncData
  F : Fun K x x st a d
  b : Binds K d ps []
  m : mg x = some (.ref a)
structure ErrAt (K : PySem.W.Frag) (mg : Str → Option Value) (x : Str) where
  C : Addr
  m : mg x = some (.ref C)
  q : PySem.W.excIn K C [.type "ValueError", .type "Exception", .type "BaseException", .type "object"] "ValueError.__new__" = true
/-! ### the script, the town: a list that grows by 0 with each draw -/
def Scr (K : PySem.W.Frag) (H : Hp) (a : Addr) (ns : List Int) : Prop :=
  (∃ o, H a = some (.frz o (.lst (ns.map V.int)))) ∨
    ∃ (o : Obj) (its : Array Value) (n : Nat), K.lookup a = some o ∧ o.cls = .type "list" ∧ o.dict = none ∧ o.data = .seq its n ∧ its.size ≤ sizeLine ∧ Vals (ns.map V.int) its.toList
theorem Scr.sq {K : PySem.W.Frag} {H : Hp} {a : Addr} {ns : List Int} (h : Scr K H a ns) : SqL K H a (ns.map V.int) := h.elim (fun ⟨o, e⟩ => .inl (.inr ⟨o, e⟩)) .inr
theorem Scr.same {K : PySem.W.Frag} {H H' : Hp} {a : Addr} {ns : List Int} (h : Scr K H a ns) (e : Same H H') : Scr K H' a ns := h.elim (fun ⟨o, q⟩ => .inl ⟨o, e _ _ q⟩) .inr
theorem Scr.of {K : PySem.W.Frag} {H : Hp} {a : Addr} {ns : List Int} (h : SqL K H a (ns.map V.int)) (o : Only H) : Scr K H a ns := by
  rcases h with (h | ⟨ob, h⟩) | h
  · rcases o a with z | ⟨_, _, z⟩
    · rw [z] at h; cases h
    · rw [z] at h; cases h
  · exact .inl ⟨ob, h⟩
  · exact .inr h
def zeros (n : Nat) : List V := List.replicate n (.int 0)
theorem zeros_succ (n : Nat) : zeros n ++ [.int 0] = zeros (n + 1) := by unfold zeros; rw [List.replicate_succ']
theorem zeros_len (n : Nat) : (zeros n).length = n := List.length_replicate
/-- all but t is as it was -/
def SameX (t : Addr) (H H' : Hp) : Prop := ∀ b o, b ≠ t → H b = some o → H' b = some o
theorem SameX.refl (t : Addr) (H : Hp) : SameX t H H := fun _ _ _ h => h
theorem SameX.trans {t : Addr} {H H1 H2 : Hp} (a : SameX t H H1) (b : SameX t H1 H2) : SameX t H H2 := fun c o n h => b c o n (a c o n h)
theorem Same.x {H H' : Hp} (e : Same H H') (t : Addr) : SameX t H H' := fun b o _ h => e b o h
theorem SameX.write {t : Addr} {H H' : Hp} (e : SameX t H H') (o : HO) : SameX t H (upd H' t o) := fun b u n h => by rw [upd_ne n]; exact e b u n h
theorem SameX.new {t p : Addr} {H H' : Hp} (e : SameX t H H') (hp : H' p = none) (o : HO) : SameX t H (upd H' p o) := fun b u n h => by
  have q := e b u n h
  rw [upd_ne (ne_of_none q hp)]; exact q
theorem SameX.ts {t : Addr} {H H' : Hp} (e : SameX t H H') {xs : List V} (h : H t = some (.lst xs)) : TSame H H' := fun b ys q => e b _ (ne_of q h (by intro z; cases z)) q
theorem SameX.scr {K : PySem.W.Frag} {t a : Addr} {H H' : Hp} {ns : List Int} (e : SameX t H H') {xs : List V} (h : H t = some (.lst xs)) (s : Scr K H a ns) : Scr K H' a ns := s.elim (fun ⟨o, q⟩ => .inl ⟨o, e _ _ (ne_of q h (by intro z; cases z)) q⟩) .inr
/-! ### a list of ints == [] -/
def rEqNil (K : PySem.W.Frag) : R2 := fun x y H Q => ∃ a b xs, x = .ref a ∧ y = .ref b ∧ SqL K H a xs ∧ SqL K H b [] ∧ Q (.bl (decide (xs = []))) H
theorem op_eqNil {X : Cx} (hu : X.A.units < cLine) : OpR X (compareOp .Eq) (rEqNil X.K) := by
  intro pins s σ H x y v u Q I rx ry h
  obtain ⟨a, b, xs, rfl, rfl, ha, hb, q⟩ := h
  cases rx
  cases ry
  obtain ⟨i1, r1, p1, _⟩ := I.list ha
  obtain ⟨i2, r2, p2, _⟩ := I.list hb
  have e2 : i2 = [] := by cases r2; rfl
  subst e2
  by_cases hx : xs = []
  · subst hx
    have e1 : i1 = [] := by cases r1; rfl
    subst e1
    refine SeqAt.eq_listAt (e := fun _ => true) p1.isList p2.isList rfl hu (fun j h1 _ => absurd h1 (by simp)) ⟨.bl true, H, I, rfl, ?_⟩
    exact q
  · refine SeqAt.eq_list_lengthsAt p1.isList p2.isList ?_ hu ⟨.bl false, H, I, rfl, ?_⟩
    · have := r1.length
      have hx' : xs.length ≠ 0 := fun z => hx (List.length_eq_zero_iff.mp z)
      have h1 : i1 ≠ [] := fun z => hx' (by rw [this, z]; rfl)
      simpa using h1
    · rw [decide_eq_false hx] at q
      exact q
end L2
set_option Elab.async false
set_option linter.all false
set_option maxRecDepth 100000
/-! a class of one's own, and its methods -/
namespace L2
open PySem
end L2
namespace Be
open PySem L2
def inClass (c : Stmt) (j : Nat) : Stmt := match c with
  | .ClassDef _ _ _ body _ _ _ _ _ _ _ => body.getD j (.Pass ⟨0, 0, 0, 0⟩)
  | _ => .Pass ⟨0, 0, 0, 0⟩
structure ClsAt (K : PySem.W.Frag) (mg : Str → Option Value) (x : Str) where
  C : Addr
  m : mg x = some (.ref C)
  cl : Cls K C
  mks : PySem.W.makesIn K C = true
  kc : PySem.W.keepIn K (.ref C) = true
structure MthAt (K : PySem.W.Frag) (C : Addr) (x qual : Str) (st : Stmt) (ps : List Str) where
  a : Addr
  d : FuncData
  F : Fun K x qual st a d
  b : Binds K d ps []
  M : Meth K C x a
theorem MthAt.mk_ {K : PySem.W.Frag} {mg : Str → Option Value} {x qual : Str} {st : Stmt} {ps : List Str} (c : ClsAt K mg x) (m : MthAt K c.C "__init__" qual st ps) : Mk K c.C m.a := ⟨c.mks, m.M.at_, m.M.fn, c.kc⟩
end Be
set_option Elab.async false
set_option linter.all false
set_option maxRecDepth 100000
namespace L2
open PySem
theorem bt_ValueError : bootBuiltins "ValueError" = some (.type "ValueError") := by decide +kernel
end L2
namespace Be
open PySem L2
def top (i : Nat) : Stmt := PySem.Challenge.pw_benchends_k01_worlds.main.body.getD i (.Pass ⟨0, 0, 0, 0⟩)
set_option genInjectivity false in
structure Txt (K : PySem.W.Frag) (mg : Str → Option Value) where
  c_Watch : ClsAt K mg "Watch"
  na_Watch_ended : NoAttr K c_Watch.C "ended"
  na_Watch_world : NoAttr K c_Watch.C "world"
  is_whole_within : DefAt K mg "is_whole_within" (top 16) ["thing", "least", "most"]
  is_pair : DefAt K mg "is_pair" (top 17) ["thing"]
  are_bounds_of_work : DefAt K mg "are_bounds_of_work" (top 18) ["thing"]
  are_bounds : DefAt K mg "are_bounds" (top 19) ["thing"]
  is_world : DefAt K mg "is_world" (top 20) ["thing"]
  check_world : DefAt K mg "check_world" (top 21) ["world"]
  is_order : DefAt K mg "is_order" (top 22) ["world", "thing"]
  check_order : DefAt K mg "check_order" (top 23) ["world", "order"]
  are_lengths : DefAt K mg "are_lengths" (top 24) ["world", "thing"]
  check_lengths : DefAt K mg "check_lengths" (top 25) ["world", "lengths"]
  how_many_benches : DefAt K mg "how_many_benches" (top 26) ["world"]
  how_many_works : DefAt K mg "how_many_works" (top 27) ["world"]
  least_length : DefAt K mg "least_length" (top 28) ["world", "work"]
  greatest_length : DefAt K mg "greatest_length" (top 29) ["world", "work"]
  how_many_began : DefAt K mg "how_many_began" (top 30) ["world", "ends"]
  running : DefAt K mg "running" (top 31) ["world", "order"]
  begin_event : DefAt K mg "begin_event" (top 32) ["world", "work"]
  rules_of_ended : DefAt K mg "rules_of_ended" (top 34) ["world", "work", "end"]
  rule_of_running : DefAt K mg "rule_of_running" (top 35) ["world", "work", "last"]
  rules : DefAt K mg "rules" (top 36) ["world", "order"]
  holds : DefAt K mg "holds" (top 37) ["rule", "event_moments"]
  is_walk : DefAt K mg "is_walk" (top 38) ["told", "thing"]
  first_event : DefAt K mg "first_event" (top 39) ["told", "walk"]
  last_event : DefAt K mg "last_event" (top 40) ["told", "walk"]
  walk_most : DefAt K mg "walk_most" (top 41) ["told", "walk"]
  shorten_walks : DefAt K mg "shorten_walks" (top 42) ["told", "mosts", "firsts"]
  shortest_walks : DefAt K mg "shortest_walks" (top 43) ["told", "events", "goal"]
  walk_by_firsts : DefAt K mg "walk_by_firsts" (top 44) ["told", "firsts", "start", "goal"]
  earliest_moments : DefAt K mg "earliest_moments" (top 46) ["told", "events"]
  could : DefAt K mg "could" (top 47) ["world", "order"]
  check_could : DefAt K mg "check_could" (top 48) ["world", "order"]
  moments : DefAt K mg "moments" (top 49) ["world", "order"]
  are_moments : DefAt K mg "are_moments" (top 50) ["world", "order", "thing"]
  ring_behind : DefAt K mg "ring_behind" (top 51) ["told", "firsts", "start"]
  ring : DefAt K mg "ring" (top 52) ["world", "order"]
  is_ring : DefAt K mg "is_ring" (top 53) ["world", "order", "thing"]
  lengths : DefAt K mg "lengths" (top 54) ["world", "order"]
  may_end : DefAt K mg "may_end" (top 57) ["world", "order"]
  longer_orders : DefAt K mg "longer_orders" (top 58) ["world", "shorter"]
  all_orders : DefAt K mg "all_orders" (top 59) ["world"]
  taken_up : DefAt K mg "taken_up" (top 60) ["world", "lengths"]
  played : DefAt K mg "played" (top 61) ["world", "lengths"]
  benches : DefAt K mg "benches" (top 62) ["world", "lengths"]
  check_work : DefAt K mg "check_work" (top 64) ["world", "order", "work"]
  check_side : DefAt K mg "check_side" (top 65) ["world", "order", "work", "side"]
  chain_start : DefAt K mg "chain_start" (top 66) ["world", "order", "work", "side"]
  chain_goal : DefAt K mg "chain_goal" (top 67) ["world", "order", "work", "side"]
  chain_most : DefAt K mg "chain_most" (top 68) ["side", "number"]
  shortest_chain : DefAt K mg "shortest_chain" (top 69) ["world", "order", "work", "side"]
  length : DefAt K mg "length" (top 70) ["world", "order", "work"]
  chain : DefAt K mg "chain" (top 71) ["world", "order", "work", "side"]
  is_chain : DefAt K mg "is_chain" (top 72) ["world", "order", "work", "side", "number", "thing"]
  shown : DefAt K mg "shown" (top 73) ["world", "order", "work", "side"]
  Watch_init : MthAt K c_Watch.C "__init__" "Watch.__init__" (inClass (top 75) 0) ["self", "world"]
  Watch_order : MthAt K c_Watch.C "order" "Watch.order" (inClass (top 75) 1) ["self"]
  law_cell_at : DefAt K mg "_law_cell_at" (top 77) ["_law_script", "_law_k"]
  law_mixed : DefAt K mg "_law_mixed" (top 78) ["_law_script", "_law_k", "_law_many"]
  law_draw : DefAt K mg "_law_draw" (top 79) ["_law_script", "_law_town", "_law_many"]
  law_pick : DefAt K mg "_law_pick" (top 80) ["_law_script", "_law_town", "_law_some"]
  law_world : DefAt K mg "_law_world" (top 81) ["_law_script", "_law_town", "_law_most", "_law_wide"]
  law_which : DefAt K mg "_law_which" (top 82) ["_law_e"]
  law_ask : DefAt K mg "_law_ask" (top 83) ["_law_what", "_law_world_here", "_law_thing"]
  law_whole : DefAt K mg "_law_whole" (top 84) ["_law_thing", "_law_low", "_law_most"]
  law_is_world : DefAt K mg "_law_is_world" (top 85) ["_law_thing"]
  law_spoilt : DefAt K mg "_law_spoilt" (top 86) ["_law_script", "_law_town", "_law_thing"]
  law : DefAt K mg "law" (top 87) ["_law_script"]
  n_ValueError : mg "ValueError" = none
  n_all : mg "all" = none
  n_bool : mg "bool" = none
  n_enumerate : mg "enumerate" = none
  n_int : mg "int" = none
  n_isinstance : mg "isinstance" = none
  n_len : mg "len" = none
  n_list : mg "list" = none
  n_max : mg "max" = none
  n_min : mg "min" = none
  n_range : mg "range" = none
  n_sorted : mg "sorted" = none
  n_str : mg "str" = none
  n_sum : mg "sum" = none
  n_tuple : mg "tuple" = none
  n_zip : mg "zip" = none
  c_MOST_BENCHES : ∃ t, mg "MOST_BENCHES" = some (.int 4 t)
  c_MOST_WORKS : ∃ t, mg "MOST_WORKS" = some (.int 10 t)
  c_MOST_LENGTH : ∃ t, mg "MOST_LENGTH" = some (.int 99 t)
  c_MOST_NUMBER : ∃ t, mg "MOST_NUMBER" = some (.int 9999 t)
  c_MOST_WORKS_OF_ALL_ORDERS : ∃ t, mg "MOST_WORKS_OF_ALL_ORDERS" = some (.int 6 t)
  e_BenchError : ErrAt K mg "BenchError"
  e_NoWorld : ErrAt K mg "NoWorld"
  e_NoOrder : ErrAt K mg "NoOrder"
  e_NoLengths : ErrAt K mg "NoLengths"
  e_NoWork : ErrAt K mg "NoWork"
  e_NoSide : ErrAt K mg "NoSide"
  e_Never : ErrAt K mg "Never"
  e_TooMany : ErrAt K mg "TooMany"
  e_NoStep : ErrAt K mg "NoStep"
theorem sc_is_whole_within : FnScope ["thing", "least", "most"] ["thing", "least", "most"] (defScope (top 16)) := ⟨rfl, rfl, rfl, by decide +kernel, rfl, by decide +kernel, by decide +kernel⟩
theorem sc_is_pair : FnScope ["thing"] ["thing"] (defScope (top 17)) := ⟨rfl, rfl, rfl, by decide +kernel, rfl, by decide +kernel, by decide +kernel⟩
theorem sc_are_bounds_of_work : FnScope ["thing"] ["thing"] (defScope (top 18)) := ⟨rfl, rfl, rfl, by decide +kernel, rfl, by decide +kernel, by decide +kernel⟩
theorem sc_are_bounds : FnScope ["thing"] ["thing"] (defScope (top 19)) := ⟨rfl, rfl, rfl, by decide +kernel, rfl, by decide +kernel, by decide +kernel⟩
theorem sc_is_world : FnScope ["thing"] ["thing"] (defScope (top 20)) := ⟨rfl, rfl, rfl, by decide +kernel, rfl, by decide +kernel, by decide +kernel⟩
theorem sc_check_world : FnScope ["world"] ["world"] (defScope (top 21)) := ⟨rfl, rfl, rfl, by decide +kernel, rfl, by decide +kernel, by decide +kernel⟩
theorem sc_is_order : FnScope ["world", "thing", "ended", "ahead", "work"] ["world", "thing"] (defScope (top 22)) := ⟨rfl, rfl, rfl, by decide +kernel, rfl, by decide +kernel, by decide +kernel⟩
theorem sc_check_order : FnScope ["world", "order"] ["world", "order"] (defScope (top 23)) := ⟨rfl, rfl, rfl, by decide +kernel, rfl, by decide +kernel, by decide +kernel⟩
theorem sc_check_lengths : FnScope ["world", "lengths"] ["world", "lengths"] (defScope (top 25)) := ⟨rfl, rfl, rfl, by decide +kernel, rfl, by decide +kernel, by decide +kernel⟩
theorem sc_how_many_benches : FnScope ["world"] ["world"] (defScope (top 26)) := ⟨rfl, rfl, rfl, by decide +kernel, rfl, by decide +kernel, by decide +kernel⟩
theorem sc_how_many_works : FnScope ["world"] ["world"] (defScope (top 27)) := ⟨rfl, rfl, rfl, by decide +kernel, rfl, by decide +kernel, by decide +kernel⟩
theorem sc_least_length : FnScope ["world", "work"] ["world", "work"] (defScope (top 28)) := ⟨rfl, rfl, rfl, by decide +kernel, rfl, by decide +kernel, by decide +kernel⟩
theorem sc_greatest_length : FnScope ["world", "work"] ["world", "work"] (defScope (top 29)) := ⟨rfl, rfl, rfl, by decide +kernel, rfl, by decide +kernel, by decide +kernel⟩
theorem sc_how_many_began : FnScope ["world", "ends"] ["world", "ends"] (defScope (top 30)) := ⟨rfl, rfl, rfl, by decide +kernel, rfl, by decide +kernel, by decide +kernel⟩
theorem sc_running : FnScope ["world", "order"] ["world", "order"] (defScope (top 31)) := ⟨rfl, rfl, rfl, by decide +kernel, rfl, by decide +kernel, by decide +kernel⟩
theorem sc_begin_event : FnScope ["world", "work"] ["world", "work"] (defScope (top 32)) := ⟨rfl, rfl, rfl, by decide +kernel, rfl, by decide +kernel, by decide +kernel⟩
theorem sc_rules_of_ended : FnScope ["world", "work", "end", "begin"] ["world", "work", "end"] (defScope (top 34)) := ⟨rfl, rfl, rfl, by decide +kernel, rfl, by decide +kernel, by decide +kernel⟩
theorem sc_rule_of_running : FnScope ["world", "work", "last"] ["world", "work", "last"] (defScope (top 35)) := ⟨rfl, rfl, rfl, by decide +kernel, rfl, by decide +kernel, by decide +kernel⟩
theorem sc_rules : FnScope ["world", "order", "told", "ahead", "work"] ["world", "order"] (defScope (top 36)) := ⟨rfl, rfl, rfl, by decide +kernel, rfl, by decide +kernel, by decide +kernel⟩
theorem sc_could : FnScope ["world", "order", "told", "earliest"] ["world", "order"] (defScope (top 47)) := ⟨rfl, rfl, rfl, by decide +kernel, rfl, by decide +kernel, by decide +kernel⟩
theorem sc_check_could : FnScope ["world", "order"] ["world", "order"] (defScope (top 48)) := ⟨rfl, rfl, rfl, by decide +kernel, rfl, by decide +kernel, by decide +kernel⟩
theorem sc_moments : FnScope ["world", "order"] ["world", "order"] (defScope (top 49)) := ⟨rfl, rfl, rfl, by decide +kernel, rfl, by decide +kernel, by decide +kernel⟩
theorem sc_are_moments : FnScope ["world", "order", "thing", "told", "event_moments"] ["world", "order", "thing"] (defScope (top 50)) := ⟨rfl, rfl, rfl, by decide +kernel, rfl, by decide +kernel, by decide +kernel⟩
theorem sc_ring : FnScope ["world", "order", "told", "events", "earliest", "broken"] ["world", "order"] (defScope (top 52)) := ⟨rfl, rfl, rfl, by decide +kernel, rfl, by decide +kernel, by decide +kernel⟩
theorem sc_is_ring : FnScope ["world", "order", "thing", "told"] ["world", "order", "thing"] (defScope (top 53)) := ⟨rfl, rfl, rfl, by decide +kernel, rfl, by decide +kernel, by decide +kernel⟩
theorem sc_lengths : FnScope ["world", "order", "event_moments"] ["world", "order"] (defScope (top 54)) := ⟨rfl, rfl, rfl, by decide +kernel, rfl, by decide +kernel, by decide +kernel⟩
theorem sc_may_end : FnScope ["world", "order"] ["world", "order"] (defScope (top 57)) := ⟨rfl, rfl, rfl, by decide +kernel, rfl, by decide +kernel, by decide +kernel⟩
theorem sc_all_orders : FnScope ["world", "found", "end"] ["world"] (defScope (top 59)) := ⟨rfl, rfl, rfl, by decide +kernel, rfl, by decide +kernel, by decide +kernel⟩
theorem sc_played : FnScope ["world", "lengths", "ends"] ["world", "lengths"] (defScope (top 61)) := ⟨rfl, rfl, rfl, by decide +kernel, rfl, by decide +kernel, by decide +kernel⟩
theorem sc_benches : FnScope ["world", "lengths", "told", "work", "part"] ["world", "lengths"] (defScope (top 62)) := ⟨rfl, rfl, rfl, by decide +kernel, rfl, by decide +kernel, by decide +kernel⟩
theorem sc_check_work : FnScope ["world", "order", "work"] ["world", "order", "work"] (defScope (top 64)) := ⟨rfl, rfl, rfl, by decide +kernel, rfl, by decide +kernel, by decide +kernel⟩
theorem sc_check_side : FnScope ["world", "order", "work", "side"] ["world", "order", "work", "side"] (defScope (top 65)) := ⟨rfl, rfl, rfl, by decide +kernel, rfl, by decide +kernel, by decide +kernel⟩
theorem sc_length : FnScope ["world", "order", "work", "told", "least", "most"] ["world", "order", "work"] (defScope (top 70)) := ⟨rfl, rfl, rfl, by decide +kernel, rfl, by decide +kernel, by decide +kernel⟩
theorem sc_chain : FnScope ["world", "order", "work", "side"] ["world", "order", "work", "side"] (defScope (top 71)) := ⟨rfl, rfl, rfl, by decide +kernel, rfl, by decide +kernel, by decide +kernel⟩
theorem sc_is_chain : FnScope ["world", "order", "work", "side", "number", "thing", "told"] ["world", "order", "work", "side", "number", "thing"] (defScope (top 72)) := ⟨rfl, rfl, rfl, by decide +kernel, rfl, by decide +kernel, by decide +kernel⟩
theorem sc_shown : FnScope ["world", "order", "work", "side", "told", "most"] ["world", "order", "work", "side"] (defScope (top 73)) := ⟨rfl, rfl, rfl, by decide +kernel, rfl, by decide +kernel, by decide +kernel⟩
theorem sc_Watch_init : FnScope ["self", "world"] ["self", "world"] (defScope (inClass (top 75) 0)) := ⟨rfl, rfl, rfl, by decide +kernel, rfl, by decide +kernel, by decide +kernel⟩
theorem sc_Watch_order : FnScope ["self"] ["self"] (defScope (inClass (top 75) 1)) := ⟨rfl, rfl, rfl, by decide +kernel, rfl, by decide +kernel, by decide +kernel⟩
theorem sc_law_cell_at : FnScope ["_law_script", "_law_k"] ["_law_script", "_law_k"] (defScope (top 77)) := ⟨rfl, rfl, rfl, by decide +kernel, rfl, by decide +kernel, by decide +kernel⟩
theorem sc_law_mixed : FnScope ["_law_script", "_law_k", "_law_many", "_law_drawn"] ["_law_script", "_law_k", "_law_many"] (defScope (top 78)) := ⟨rfl, rfl, rfl, by decide +kernel, rfl, by decide +kernel, by decide +kernel⟩
theorem sc_law_draw : FnScope ["_law_script", "_law_town", "_law_many"] ["_law_script", "_law_town", "_law_many"] (defScope (top 79)) := ⟨rfl, rfl, rfl, by decide +kernel, rfl, by decide +kernel, by decide +kernel⟩
theorem sc_law_pick : FnScope ["_law_script", "_law_town", "_law_some"] ["_law_script", "_law_town", "_law_some"] (defScope (top 80)) := ⟨rfl, rfl, rfl, by decide +kernel, rfl, by decide +kernel, by decide +kernel⟩
theorem sc_law_world : FnScope ["_law_script", "_law_town", "_law_most", "_law_wide", "_law_many", "_law_bounds", "_law_k", "_law_low"] ["_law_script", "_law_town", "_law_most", "_law_wide"] (defScope (top 81)) := ⟨rfl, rfl, rfl, by decide +kernel, rfl, by decide +kernel, by decide +kernel⟩
theorem sc_law_which : FnScope ["_law_e", "_law_own"] ["_law_e"] (defScope (top 82)) := ⟨rfl, rfl, rfl, by decide +kernel, rfl, by decide +kernel, by decide +kernel⟩
theorem sc_law_ask : FnScope ["_law_what", "_law_world_here", "_law_thing", "_law_e"] ["_law_what", "_law_world_here", "_law_thing"] (defScope (top 83)) := ⟨rfl, rfl, rfl, by decide +kernel, rfl, by decide +kernel, by decide +kernel⟩
theorem sc_law_whole : FnScope ["_law_thing", "_law_low", "_law_most"] ["_law_thing", "_law_low", "_law_most"] (defScope (top 84)) := ⟨rfl, rfl, rfl, by decide +kernel, rfl, by decide +kernel, by decide +kernel⟩
theorem sc_law_is_world : FnScope ["_law_thing", "_law_one"] ["_law_thing"] (defScope (top 85)) := ⟨rfl, rfl, rfl, by decide +kernel, rfl, by decide +kernel, by decide +kernel⟩
theorem sc_law_spoilt : FnScope ["_law_script", "_law_town", "_law_thing", "_law_kind", "_law_at"] ["_law_script", "_law_town", "_law_thing"] (defScope (top 86)) := ⟨rfl, rfl, rfl, by decide +kernel, rfl, by decide +kernel, by decide +kernel⟩
theorem sc_law : FnScope ["_law_script", "_law_town", "_law_world_here", "_law_bounds", "_law_bad", "_law_k"] ["_law_script"] (defScope (top 87)) := ⟨rfl, rfl, rfl, by decide +kernel, rfl, by decide +kernel, by decide +kernel⟩

end Be
set_option Elab.async false
set_option linter.all false
/-! The mathematics of worlds, orders, rules: plain Lean. -/
namespace Be
structure Wd where
  b : Int
  bs : List (Int × Int)
structure Wd.Ok (W : Wd) : Prop where
  b1 : 1 ≤ W.b
  b4 : W.b ≤ 4
  l1 : 1 ≤ W.bs.length
  l10 : W.bs.length ≤ 10
  bd : ∀ p ∈ W.bs, 1 ≤ p.1 ∧ p.1 ≤ p.2 ∧ p.2 ≤ 99
/-- how many works have begun behind n ends -/
def began (W : Wd) (n : Nat) : Nat := (min (W.bs.length : Int) (n + W.b)).toNat
def upto (n : Nat) : List Int := (List.range n).map fun (k : Nat) => (k : Int)
/-- the works that run -/
def runM (W : Wd) (o : List Int) : List Int := (upto (began W o.length)).filter fun x => decide (x ∉ o)
def bnd (W : Wd) (x : Int) : Int × Int := W.bs.getD x.toNat (0, 0)
/-- the event with which a work begins -/
def bg (W : Wd) (x : Int) : Int := if x < W.b then 0 else x - W.b + 1
abbrev Ru := Int × Int × Int
def rule3 (W : Wd) (j : Nat) (x : Int) : List Ru := [((j : Int) + 1, bg W x, (bnd W x).2), (bg W x, (j : Int) + 1, -(bnd W x).1), ((j : Int), (j : Int) + 1, 0)]
def rulesPre (W : Wd) (o : List Int) (i : Nat) : List Ru := (List.range i).flatMap fun j => rule3 W j (o.getD j 0)
def ruleR (W : Wd) (n : Nat) (x : Int) : Ru := ((n : Int), bg W x, (bnd W x).2)
def rulesM (W : Wd) (o : List Int) : List Ru := rulesPre W o o.length ++ (runM W o).map (ruleR W o.length)
/-- an order of the world -/
structure VO (W : Wd) (o : List Int) : Prop where
  nd : o.Nodup
  at_ : ∀ (i : Nat) (x : Int), o[i]? = some x → 0 ≤ x ∧ x < (began W i : Int)
theorem upto_succ (n : Nat) : upto (n + 1) = upto n ++ [(n : Int)] := by unfold upto; rw [List.range_succ, List.map_append]; rfl
theorem mem_upto {n : Nat} {x : Int} : x ∈ upto n ↔ 0 ≤ x ∧ x < (n : Int) := by
  unfold upto
  rw [List.mem_map]
  constructor
  · rintro ⟨k, hk, rfl⟩
    have := List.mem_range.mp hk
    omega
  · rintro ⟨h1, h2⟩
    exact ⟨x.toNat, List.mem_range.mpr (by omega), by omega⟩
theorem upto_len (n : Nat) : (upto n).length = n := by unfold upto; rw [List.length_map, List.length_range]
theorem upto_nodup : ∀ n : Nat, (upto n).Nodup
  | 0 => List.nodup_nil
  | n + 1 => by
    rw [upto_succ, List.nodup_append]
    refine ⟨upto_nodup n, by simp, fun a ha b hb e => ?_⟩
    have h1 := mem_upto.mp ha
    have h2 := List.mem_singleton.mp hb
    omega
theorem nodup_le : ∀ {l1 l2 : List Int}, l1.Nodup → (∀ x ∈ l1, x ∈ l2) → l1.length ≤ l2.length
  | [], _, _, _ => Nat.zero_le _
  | a :: r, l2, h, s => by
    have ha : a ∈ l2 := s a List.mem_cons_self
    have hn := List.nodup_cons.mp h
    have ih := nodup_le (l1 := r) (l2 := l2.erase a) hn.2 fun x hx => by
      have hne : x ≠ a := fun e => hn.1 (e ▸ hx)
      exact (List.mem_erase_of_ne hne).mpr (s x (List.mem_cons_of_mem _ hx))
    rw [List.length_erase_of_mem ha] at ih
    have : 0 < l2.length := List.length_pos_of_mem ha
    rw [List.length_cons]
    omega
theorem began_le (W : Wd) (n : Nat) : began W n ≤ W.bs.length := by unfold began; omega
theorem mem_run {W : Wd} {o : List Int} {x : Int} : x ∈ runM W o ↔ (0 ≤ x ∧ x < (began W o.length : Int)) ∧ x ∉ o := by
  unfold runM
  rw [List.mem_filter, mem_upto, decide_eq_true_iff]
theorem run_len (W : Wd) (o : List Int) : (runM W o).length ≤ W.bs.length := by
  unfold runM
  refine Nat.le_trans (List.length_filter_le _ _) ?_
  rw [upto_len]
  exact began_le W _
theorem VO.nil (W : Wd) : VO W [] := ⟨List.nodup_nil, fun i x e => by simp at e⟩
theorem VO.snoc {W : Wd} {o : List Int} {x : Int} (h : VO W o) (hx : x ∈ runM W o) : VO W (o ++ [x]) := by
  obtain ⟨⟨a, b⟩, c⟩ := mem_run.mp hx
  refine ⟨?_, fun i y e => ?_⟩
  · rw [List.nodup_append]
    refine ⟨h.nd, by simp, fun p hp r hr z => ?_⟩
    have := List.mem_singleton.mp hr
    subst this
    exact c (z ▸ hp)
  · by_cases hi : i < o.length
    · rw [List.getElem?_append_left hi] at e
      exact h.at_ i y e
    · have hi' : i = o.length := by
        have := (List.getElem?_eq_some_iff.mp e).1
        rw [List.length_append, List.length_singleton] at this
        omega
      subst hi'
      rw [List.getElem?_append_right (Nat.le_refl _), Nat.sub_self] at e
      cases e
      exact ⟨a, b⟩
theorem VO.lt {W : Wd} {o : List Int} (h : VO W o) {x : Int} (hx : x ∈ o) : 0 ≤ x ∧ x < (W.bs.length : Int) := by
  obtain ⟨i, hi, e⟩ := List.getElem_of_mem hx
  have := h.at_ i x (by rw [List.getElem?_eq_getElem hi, e])
  have := began_le W i
  omega
theorem VO.len {W : Wd} {o : List Int} (h : VO W o) : o.length ≤ W.bs.length := by
  have := nodup_le (l2 := upto W.bs.length) h.nd fun x hx => mem_upto.mpr (h.lt hx)
  rwa [upto_len] at this
theorem rulesPre_succ (W : Wd) (o : List Int) (i : Nat) : rulesPre W o (i + 1) = rulesPre W o i ++ rule3 W i (o.getD i 0) := by
  unfold rulesPre
  rw [List.range_succ, List.flatMap_append]
  simp
theorem rulesPre_len (W : Wd) (o : List Int) : ∀ i : Nat, (rulesPre W o i).length = 3 * i
  | 0 => rfl
  | i + 1 => by
    rw [rulesPre_succ, List.length_append, rulesPre_len W o i]
    show 3 * i + 3 = 3 * (i + 1)
    omega
end Be
set_option Elab.async false
set_option linter.all false
set_option maxRecDepth 100000
/-! zip(a list, a list): walked by a pair of names, over the hand layer. -/
namespace L2
open PySem PySem.Spec PyProof.Rows
section
variable {X : Cx} {pins : List (Addr × Obj)} {σ : St} {H : Hp} {s : Shared} {h' : Heap}
end
section
variable {X : Cx} {es : List Expr} {ek : Nat} {tpos : Pos}
theorem comp_listR {g : TG} {tt : TT} {te : TE} {τ : St} {D : Addr} {H1 : Hp} {R : Hp → Prop} {K : PySem.W.Frag} {a : Addr} {xs : List V} (Pv : Nat → List V → Hp → Prop) (h0 : Pv 0 [] (upd H1 D (.lst []))) (hl : ∀ i ys H, i ≤ xs.length → Pv i ys H → SqL K H a xs)
    (hs : ∀ i ys x H, xs[i]? = some x → Pv i ys H → turnC g tt te τ D ys (Pv (i + 1)) x H) (hd : ∀ ys H, Pv xs.length ys H → R H) :
    ∃ W : Nat → Nat → List V → Hp → Prop, (∃ m, W 0 m [] (upd H1 D (.lst []))) ∧ ∀ i m ys H, W i m ys H → ((Itl K a).stop i H ∧ R H) ∨ ((Itl K a).go i H ∧ ∃ N : List V → Hp → Prop, (∀ ys' H', N ys' H' → ∃ m', m' < m ∧ W (i + 1) m' ys' H') ∧ ∀ x H', (Itl K a).yld i H x H' → turnC g tt te τ D ys N x H') :=
  comp_list (Q := fun _ H => R H) Pv h0 hl hs hd
end
end L2
set_option Elab.async false
set_option linter.all false
set_option maxRecDepth 100000
/-! zip of two things each of which is a list or a tuple. The kind: true for a tuple. -/
namespace BE
open PySem PySem.Spec PyProof.Rows
section
variable {prog : Program} {w : World} {A : Around} {E : Value → Shared → Prop} {s : Shared}
end
section
variable {prog : Program} {w : World} {A : Around} {E : Value → Shared → Prop} {s : Shared}
end
end BE
namespace L2
open PySem PySem.Spec PyProof.Rows
section
variable {X : Cx} {pins : List (Addr × Obj)} {σ : St} {H : Hp} {s : Shared}
end
section
variable {X : Cx} {es : List Expr} {ek : Nat} {tpos : Pos}
end
end L2
set_option Elab.async false
set_option linter.all false
set_option maxRecDepth 100000
/-! min(a list of ints) -/
namespace L2
open PySem PySem.Spec PyProof.Rows
section
variable {X : Cx}
end
end L2
set_option Elab.async false
set_option linter.all false
set_option maxRecDepth 100000
/-! index of an int in a tuple of ints -/
namespace BE
open PySem PySem.Spec PyProof.Rows SeqAt
open AutoSeq1 (wpAny_loadPart')
end BE
namespace L2
open PySem PySem.SeqAt PySem.Spec PyProof.Rows
section
variable {X : Cx}
end
end L2
set_option Elab.async false
set_option linter.all false
set_option maxRecDepth 100000
/-! count and index of a list of bools over the hand layer; a def whose body starts at no pins. -/
namespace L2
open PySem PySem.SeqAt PySem.Spec PyProof.Rows
section
variable {X : Cx}
def rCountB : V → List V → Hp → VK → Prop := fun x vs H Q => ∃ (l : Addr) (bs : List Bool) (k : Bool), x = .ref l ∧ vs = [.bl k] ∧ H l = some (.lst (bs.map V.bl)) ∧ Q (.int (bs.count k : Nat)) H
theorem cntB (k : Bool) : ∀ bs : List Bool, (bs.map Value.bool).countP (isBoolOf k) = bs.count k
  | [] => rfl
  | b :: bs => by
    have ih := cntB k bs
    show List.countP (isBoolOf k) (Value.bool b :: bs.map Value.bool) = _
    rw [List.countP_cons, List.count_cons, ih]
    rfl
theorem mt_countB : MtM X "list.count" rCountB := by
  intro pins s σ H x vs v us Q I rx rv h
  obtain ⟨l, bs, k, rfl, rfl, hH, q⟩ := h
  cases rx
  obtain ⟨u, rfl, ru⟩ := rv.one
  cases ru
  obtain ⟨z, its, n, r, hl, e⟩ := I.lstM hH
  have eb := bools_of r
  subst eb
  refine call_meets F.slot_list_count ⟨_, e, rfl⟩ F.entry_list_count (F.args_list_count_2 _ _) (list_countAt l (bs.map Value.bool).toArray n none #[] (.bool k) (isBoolOf k)) ⟨e, fun y hy => ?_, ?_⟩
  · have hy' : y ∈ bs.map Value.bool := by simpa using hy
    obtain ⟨b, _, rfl⟩ := List.mem_map.mp hy'
    exact EqAt.bool_bool b k
  · refine ⟨.int (bs.count k : Nat), H, I.tok _, ⟨s.toks, ?_⟩, q⟩
    rw [show (bs.map Value.bool).toArray.toList = bs.map Value.bool from rfl, cntB]
def rIndexB : V → List V → Hp → VK → Prop := fun x vs H Q => ∃ (l : Addr) (bs : List Bool) (k : Bool) (j : Nat), x = .ref l ∧ vs = [.bl k] ∧ H l = some (.lst (bs.map V.bl)) ∧ bs[j]? = some k ∧ (∀ m, m < j → bs[m]? ≠ some k) ∧ Q (.int j) H
theorem mt_indexB : MtM X "list.index" rIndexB := by
  intro pins s σ H x vs v us Q I rx rv h
  obtain ⟨l, bs, k, j, rfl, rfl, hH, hj, hn, q⟩ := h
  cases rx
  obtain ⟨u, rfl, ru⟩ := rv.one
  cases ru
  obtain ⟨z, its, n, r, hl, e⟩ := I.lstM hH
  have eb := bools_of r
  subst eb
  have hlt : j < bs.length := (List.getElem?_eq_some_iff.mp hj).1
  have hbj : bs[j] = k := (List.getElem?_eq_some_iff.mp hj).2
  have hz : bs.length ≤ sizeLine := by rw [List.length_map] at z; exact z
  have h63 := line63
  refine call_meets F.slot_list_index ⟨_, e, rfl⟩ F.entry_list_index (F.args_list_index_2 _ _)
    (list_indexAt l (bs.map Value.bool).toArray n none #[] (.bool k) (isBoolOf k) j (by rw [List.size_toArray, List.length_map]; exact hlt) (by omega) ?_ ?_) ⟨e, fun y hy => ?_, ?_⟩
  · rw [List.getElem_toArray, List.getElem_map, hbj]
    show (k == k) = true
    exact beq_self_eq_true k
  · intro m hm hmj
    have hm' : m < bs.length := by rw [List.size_toArray, List.length_map] at hm; exact hm
    rw [List.getElem_toArray, List.getElem_map]
    show (bs[m] == k) = false
    refine beq_eq_false_iff_ne.mpr fun c => hn m hmj ?_
    rw [List.getElem?_eq_getElem hm', c]
  · have hy' : y ∈ bs.map Value.bool := by simpa using hy
    obtain ⟨b, _, rfl⟩ := List.mem_map.mp hy'
    exact EqAt.bool_bool b k
  · exact ⟨.int j, H, I.tok _, ⟨_, rfl⟩, q⟩
end
end L2
set_option Elab.async false
set_option linter.all false
set_option maxRecDepth 100000
/-! range as a value, list of a range. -/
namespace L2
open PySem PySem.Spec PyProof.Rows
section
variable {X : Cx}
end
end L2
set_option Elab.async false
set_option linter.all false
set_option maxRecDepth 100000
/-! max of a list of ints, index in one, sum of a tuple of ints, sorted of a tuple or a list of ints. -/
namespace BE
open PySem PySem.Spec PyProof.Rows
section
variable {prog : Program} {w : World} {A : Around} {E : Value → Shared → Prop} {s : Shared}
end
section
variable {prog : Program} {w : World} {A : Around} {E : Value → Shared → Prop} {s : Shared}
end
end BE
namespace L2
open PySem PySem.SeqAt PySem.Spec PyProof.Rows
section
variable {X : Cx}
end
end L2
set_option Elab.async false
set_option linter.all false
set_option maxRecDepth 100000
namespace L2
open PySem PySem.Spec PyProof.Rows
end L2
set_option Elab.async false
set_option linter.all false
/-! Works taken up one by one by the bench that is free first: plain lists. -/
namespace Be
/-! ### more benches never end later -/
end Be
set_option Elab.async false
set_option linter.all false
set_option maxRecDepth 100000
namespace L2
open PySem PySem.Spec PyProof.Rows
theorem comp_tupR {g : TG} {tt : TT} {te : TE} {τ : St} {D : Addr} {H1 : Hp} {R : Hp → Prop} {K : PySem.W.Frag} {a : Addr} {xs : List V} (Pv : Nat → List V → Hp → Prop) (h0 : Pv 0 [] (upd H1 D (.lst []))) (hl : ∀ i ys H, i ≤ xs.length → Pv i ys H → SqT K H a xs)
    (hs : ∀ i ys x H, xs[i]? = some x → Pv i ys H → turnC g tt te τ D ys (Pv (i + 1)) x H) (hd : ∀ ys H, Pv xs.length ys H → R H) :
    ∃ W : Nat → Nat → List V → Hp → Prop, (∃ m, W 0 m [] (upd H1 D (.lst []))) ∧ ∀ i m ys H, W i m ys H → ((Itt K a).stop i H ∧ R H) ∨ ((Itt K a).go i H ∧ ∃ N : List V → Hp → Prop, (∀ ys' H', N ys' H' → ∃ m', m' < m ∧ W (i + 1) m' ys' H') ∧ ∀ x H', (Itt K a).yld i H x H' → turnC g tt te τ D ys N x H') :=
  comp_tup (Q := fun _ H => R H) Pv h0 hl hs hd
theorem comp_rangeR {g : TG} {tt : TT} {te : TE} {τ : St} {D : Addr} {H1 : Hp} {R : Hp → Prop} {lo : Int} {n : Nat} (Pv : Nat → List V → Hp → Prop) (h0 : Pv 0 [] (upd H1 D (.lst []))) (hs : ∀ i ys H, i < n → Pv i ys H → turnC g tt te τ D ys (Pv (i + 1)) (.int (lo + i)) H) (hd : ∀ ys H, Pv n ys H → R H) :
    ∃ W : Nat → Nat → List V → Hp → Prop, (∃ m, W 0 m [] (upd H1 D (.lst []))) ∧ ∀ i m ys H, W i m ys H → ((Itr lo n).stop i H ∧ R H) ∨ ((Itr lo n).go i H ∧ ∃ N : List V → Hp → Prop, (∀ ys' H', N ys' H' → ∃ m', m' < m ∧ W (i + 1) m' ys' H') ∧ ∀ x H', (Itr lo n).yld i H x H' → turnC g tt te τ D ys N x H') :=
  comp_range (Q := fun _ H => R H) Pv h0 hs hd
theorem pss_any {X : Cx} {st : List Stmt} : PSs X st (fun _ _ _ => False) := fun _ _ _ _ _ _ h => False.elim h
end L2
namespace Be
open PySem L2
/-! ### worlds as data -/
def encB (p : Int × Int) : PyData := .tuple [.int p.1, .int p.2]
def encW (W : Wd) : PyData := .tuple [.int W.b, .tuple (W.bs.map encB)]
def encO (o : List Int) : PyData := .tuple (o.map .int)
theorem all_encB (bs : List (Int × Int)) : immut.all (bs.map encB) = true := by
  induction bs with
  | nil => rfl
  | cons p r ih =>
    rw [List.map_cons]
    show (immut (encB p) && immut.all (r.map encB)) = true
    rw [ih]; rfl
theorem im_W (W : Wd) : immut (encW W) = true := by
  show (immut (.int W.b) && (immut (.tuple (W.bs.map encB)) && true)) = true
  show (true && (immut.all (W.bs.map encB) && true)) = true
  rw [all_encB]; rfl
/-- what stands in the heap of a world -/
structure AtW (H : Hp) (v : V) (W : Wd) (a p : Addr) (vs : List V) : Prop where
  v : v = .ref a
  a : H a = some (.tup [.int W.b, .ref p])
  p : H p = some (.tup vs)
  it : ∀ (i : Nat) (x : Int × Int), W.bs[i]? = some x → ∃ q, vs[i]? = some (.ref q) ∧ H q = some (.tup [.int x.1, .int x.2])
  len : vs.length = W.bs.length
theorem pair_inv {H : Hp} {v : V} {x : Int × Int} (r : Rep H v (encB x)) : ∃ q, v = .ref q ∧ H q = some (.tup [.int x.1, .int x.2]) := by
  obtain ⟨q, vs, rfl, hq, rs⟩ := r.tup_inv
  have e : vs = [.int x.1, .int x.2] := Reps.ints_inv (ns := [x.1, x.2]) rs
  subst e
  exact ⟨q, rfl, hq⟩
theorem atW {H : Hp} {v : V} {W : Wd} (r : Rep H v (encW W)) : ∃ a p vs, AtW H v W a p vs := by
  obtain ⟨a, us, rfl, ha, rs⟩ := r.tup_inv
  cases rs with
  | cons r1 rs =>
    cases rs with
    | cons r2 rs =>
      cases rs
      cases r1.int_inv
      obtain ⟨p, vs, rfl, hp, rv⟩ := r2.tup_inv
      refine ⟨a, p, vs, rfl, ha, hp, fun i x e => ?_, by rw [rv.length, List.length_map]⟩
      obtain ⟨u, hu, ru⟩ := rv.get (i := i) (d := encB x) (by rw [List.getElem?_map, e]; rfl)
      obtain ⟨q, rfl, hq⟩ := pair_inv ru
      exact ⟨q, hu, hq⟩
theorem agree0 {x : V} {r : St} : ∀ (k : Nat) (v : V), (none :: r : St)[k]? = some (some v) → ((none :: r : St).set 0 (some x))[k]? = some (some v)
  | 0, v, h => by cases h
  | k + 1, v, h => h
theorem if_f {c : Bool} {A B : Prop} (h : c = false) (b : B) : if c = true then A else B := by subst h; exact b
theorem if_t {c : Bool} {A B : Prop} (h : c = true) (a : A) : if c = true then A else B := by subst h; exact a
theorem inV_ints (x : Int) : ∀ o : List Int, inV (.int x) (o.map V.int) = decide (x ∈ o)
  | [] => by simp [inV]
  | y :: r => by
    have ih := inV_ints x r
    unfold inV at ih ⊢
    rw [List.map_cons, List.any_cons, ih]
    show ((y == x) || decide (x ∈ r)) = decide (x ∈ y :: r)
    by_cases h : y = x
    · subst h; simp
    · have h2 : ¬ x = y := fun z => h z.symm
      simp [h, h2]
theorem flat_ints : ∀ o : List Int, (o.map V.int).all flatV = true
  | [] => rfl
  | _ :: r => flat_ints r
theorem SqTL.same {K : PySem.W.Frag} {H H' : Hp} {p : Addr} {xs : List V} (e : Same H H') (h : SqL K H p xs ∨ SqT K H p xs) : SqL K H' p xs ∨ SqT K H' p xs := by
  rcases h with h | h
  · exact .inl (e.seq h)
  · refine .inr ?_
    rcases h with (h | ⟨o, h⟩) | h
    · exact .inl (.inl (e _ _ h))
    · exact .inl (.inr ⟨o, e _ _ h⟩)
    · exact .inr h
theorem seqO {K : PySem.W.Frag} {H : Hp} {v : V} {o : List Int} (r : Rep H v (encO o)) : ∃ p, v = .ref p ∧ H p = some (.tup (o.map V.int)) := by
  obtain ⟨p, vs, rfl, hp, rs⟩ := r.tup_inv
  rw [Reps.ints_inv rs] at hp
  exact ⟨p, rfl, hp⟩
section
variable {P : Program} {w : World} {K : PySem.W.Frag} {mg : Str → Option Value} {base : Heap}
theorem atI_ints {ns : List Int} {k : Int} (h0 : 0 ≤ k) (h1 : k < (ns.length : Int)) : ∃ v : Int, atI (ns.map V.int) k = some (.int v) := by
  have hk : k.toNat < ns.length := by omega
  have ek : k = ((k.toNat : Nat) : Int) := by omega
  have q : atI (ns.map V.int) ((k.toNat : Nat) : Int) = some (.int ns[k.toNat]) := atI_nat (by rw [List.getElem?_map, List.getElem?_eq_getElem hk] <;> rfl)
  rw [← ek] at q
  exact ⟨_, q⟩
theorem atI_int {xs : List V} {v : V} {k : Int} (h0 : 0 ≤ k) (h : xs[k.toNat]? = some v) : atI xs k = some v := by
  have q := atI_nat h
  rw [show ((k.toNat : Nat) : Int) = k by omega] at q
  exact q
def sp_cell (K : PySem.W.Frag) : Sp := fun vs H Q _ => ∃ (a : Addr) (ns : List Int) (k : Int), vs = [.ref a, .int k] ∧ Scr K H a ns ∧ 0 ≤ k ∧ ∀ (r : Int) (H' : Hp), Same H H' → Q (.int r) H'
theorem ok_law_cell_at (T : Txt K mg) : FnOk P w K mg base (CXr P w) 1 T.law_cell_at.a T.law_cell_at.d ["_law_script", "_law_k"] (sp_cell K) := by
  refine T.law_cell_at.F.okN sc_law_cell_at (fun vs H Q E h => ?_) (fun cdv A outer s H vs Q E hr h => ?_)
  · obtain ⟨a, ns, k, rfl, _⟩ := h; rfl
  obtain ⟨a, ns, k, rfl, hS, h0, q⟩ := h
  refine ⟨_, (pss_cons (ps_if (pt_cmpR op_lt (pv 1) (pe_callB call_len_seq rfl T.n_len bt_len (pa_cons (pv 0) pa_nil)) (nomark _)) (pss_one (ps_ret (pe_ix ix_list (pv 0) (pv 1) (fun _ _ => rfl)))) pss_nil) (pss_cons (ps_if (pt_cmpR (op_eqNil hr.units0) (pv 0) (pe_lst pa_nil) (nomark _)) (pss_one (ps_ret pe_int)) pss_nil) (pss_one (ps_ret (pe_op op_add (pe_op op_mul (pe_ix ix_list (pv 0) (pe_op op_mod (pv 1) (pe_callB call_len_seq rfl T.n_len bt_len (pa_cons (pv 0) pa_nil))) (fun _ _ => rfl)) pe_int) (pv 1)))))), ?_⟩
  have hl : (ns.map V.int).length = ns.length := List.length_map _
  refine ⟨_, rfl, _, rfl, a, _, rfl, .inl hS.sq, _, _, rfl, rfl, _, rfl, ?_⟩
  refine ite2 (fun c => ?_) (fun c => ?_)
  · have c' := of_decide_eq_true c
    rw [hl] at c'
    obtain ⟨v, hv⟩ := atI_ints (ns := ns) h0 c'
    exact ⟨_, rfl, _, rfl, a, _, _, _, rfl, rfl, hS.sq, hv, q v H (Same.refl H)⟩
  · have c' := of_decide_eq_false (Bool.eq_false_iff.mpr c)
    rw [hl] at c'
    refine ⟨_, rfl, Nat.zero_le _, fun l hl' => ?_⟩
    have g1 := same_new hl' (.lst [])
    have hS1 := hS.same g1
    refine ⟨a, l, _, rfl, rfl, hS1.sq, SqL.of upd_same, _, rfl, ?_⟩
    refine ite2 (fun c2 => ?_) (fun c2 => ?_)
    · exact q 0 _ g1
    · have hne : ns ≠ [] := fun z => c2 (by rw [z]; rfl)
      have hpos : (0 : Int) < ((ns.map V.int).length : Int) := by rw [hl]; have := List.length_pos_iff.mpr hne; omega
      have m0 := Int.emod_nonneg k (show ((ns.map V.int).length : Int) ≠ 0 by omega)
      have m1 := Int.emod_lt_of_pos k hpos
      obtain ⟨v, hv⟩ := atI_ints (ns := ns) m0 (by rw [hl] at m1 ⊢; exact m1)
      exact ⟨_, rfl, _, rfl, _, rfl, a, _, rfl, .inl hS1.sq, _, _, rfl, rfl, hpos, a, _, _, _, rfl, rfl, hS1.sq, hv, _, _, rfl, rfl, .inr ⟨by decide, by decide⟩, _, rfl, _, _, rfl, rfl, q _ _ g1⟩
def sp_mixed (K : PySem.W.Frag) : Sp := fun vs H Q _ => ∃ (a : Addr) (ns : List Int) (k m : Int), vs = [.ref a, .int k, .int m] ∧ Scr K H a ns ∧ 0 ≤ k ∧ 0 < m ∧ ∀ (r : Int) (H' : Hp), 0 ≤ r → r < m → Same H H' → Q (.int r) H'
theorem ok_law_mixed (T : Txt K mg) : FnOk P w K mg base (CXr P w) 2 T.law_mixed.a T.law_mixed.d ["_law_script", "_law_k", "_law_many"] (sp_mixed K) := by
  refine T.law_mixed.F.okN sc_law_mixed (fun vs H Q E h => ?_) (fun cdv A outer s H vs Q E hr h => ?_)
  · obtain ⟨a, ns, k, m, rfl, _⟩ := h; rfl
  obtain ⟨a, ns, k, m, rfl, hS, h0, hm, q⟩ := h
  refine ⟨_, (pss_cons (ps_set (i := 3) sc_law_mixed.nd rfl (by first | exact Or.inl rfl | exact Or.inr rfl) (pe_op op_mod (pe_op op_mul (pe_op op_add (pe_op op_add (pe_call (ok_law_cell_at T) (hr.mono (by decide)) rfl T.law_cell_at.m T.law_cell_at.F.kp T.law_cell_at.b .nil passN (pa_cons (pv 0) (pa_cons (pv 1) pa_nil))) (pe_op op_mul pe_int (pv 1))) pe_int) pe_int) pe_int)) (pss_one (ps_ret (pe_op op_mod (pe_op op_mod (pe_op op_add (pe_op op_add (pe_op op_mul (pv 3) (pv 3)) (pe_op op_mul pe_int (pv 3))) (pv 1)) pe_int) (pv 2))))), ?_⟩
  refine ⟨_, rfl, _, rfl, a, ns, k, rfl, hS, h0, fun r H1 g1 => ?_⟩
  refine ⟨_, rfl, _, _, rfl, rfl, .inl ⟨by decide, by decide⟩, _, _, rfl, rfl, _, _, rfl, rfl, _, _, rfl, rfl, .inr ⟨by decide, by decide⟩, _, _, rfl, rfl, (by show (0 : Int) < 2147483647; decide), ?_⟩
  have l1 := Int.emod_nonneg ((r + 7919 * k + 1) * 48271) (show (2147483647 : Int) ≠ 0 by decide)
  have l2 := Int.emod_lt_of_pos ((r + 7919 * k + 1) * 48271) (show (0 : Int) < 2147483647 by decide)
  refine ⟨_, rfl, _, rfl, _, _, rfl, rfl, .inl ⟨by omega, by omega⟩, _, rfl, _, _, rfl, rfl, .inl ⟨by decide, by decide⟩, _, _, rfl, rfl, _, rfl, _, _, rfl, rfl, _, _, rfl, rfl, (by show (0 : Int) < 2147483629; decide), _, rfl, _, _, rfl, rfl, hm, ?_⟩
  exact q _ H1 (Int.emod_nonneg _ (by omega)) (Int.emod_lt_of_pos _ hm) g1
/-- the town at t holds n draws -/
def sp_draw (K : PySem.W.Frag) : Sp := fun vs H Q _ => ∃ (a t : Addr) (ns : List Int) (n : Nat) (m : Int), vs = [.ref a, .ref t, .int m] ∧ Scr K H a ns ∧ H t = some (.lst (zeros n)) ∧ n < 5000 ∧ 0 < m ∧
  ∀ (r : Int) (H' : Hp), 0 ≤ r → r < m → SameX t H H' → H' t = some (.lst (zeros (n + 1))) → Q (.int r) H'
theorem ok_law_draw (T : Txt K mg) : FnOk P w K mg base (CXr P w) 3 T.law_draw.a T.law_draw.d ["_law_script", "_law_town", "_law_many"] (sp_draw K) := by
  refine T.law_draw.F.okN sc_law_draw (fun vs H Q E h => ?_) (fun cdv A outer s H vs Q E hr h => ?_)
  · obtain ⟨a, t, ns, n, m, rfl, _⟩ := h; rfl
  obtain ⟨a, t, ns, n, m, rfl, hS, ht, hn, hm, q⟩ := h
  refine ⟨_, (pss_cons (ps_expr (pe_bm PySem.F.plainAttrs_list PySem.F.slot_list_append PySem.F.type_list_append mt_append (pv 1) (pa_cons pe_int pa_nil))) (pss_one (ps_ret (pe_call (ok_law_mixed T) (hr.mono (by decide)) rfl T.law_mixed.m T.law_mixed.F.kp T.law_mixed.b .nil passN (pa_cons (pv 0) (pa_cons (pe_callB call_len_seq rfl T.n_len bt_len (pa_cons (pv 1) pa_nil)) (pa_cons (pv 2) pa_nil))))))), ?_⟩
  refine ⟨_, rfl, .inl ⟨rfl, _, SqL.of ht⟩, t, _, _, rfl, rfl, ht, (by rw [zeros_len]; exact Nat.lt_of_lt_of_le hn (by decide)), ?_⟩
  rw [zeros_succ]
  have gx : SameX t H (upd H t (.lst (zeros (n + 1)))) := (SameX.refl t H).write _
  have hS1 := gx.scr ht hS
  refine ⟨_, rfl, _, rfl, t, _, rfl, .inl (SqL.of upd_same), _, rfl, a, ns, _, m, rfl, hS1, by omega, hm, fun r H' l1 l2 g => ?_⟩
  exact q r H' l1 l2 (gx.trans (g.x t)) (g _ _ upd_same)
def sp_pick (K : PySem.W.Frag) : Sp := fun vs H Q _ => ∃ (a t p : Addr) (ns : List Int) (n : Nat) (xs : List V), vs = [.ref a, .ref t, .ref p] ∧ Scr K H a ns ∧ H t = some (.lst (zeros n)) ∧ n < 5000 ∧ H p = some (.lst xs) ∧ p ≠ t ∧ xs ≠ [] ∧
  ∀ (v : V) (H' : Hp), v ∈ xs → SameX t H H' → H' t = some (.lst (zeros (n + 1))) → Q v H'
theorem ok_law_pick (T : Txt K mg) : FnOk P w K mg base (CXr P w) 4 T.law_pick.a T.law_pick.d ["_law_script", "_law_town", "_law_some"] (sp_pick K) := by
  refine T.law_pick.F.okN sc_law_pick (fun vs H Q E h => ?_) (fun cdv A outer s H vs Q E hr h => ?_)
  · obtain ⟨a, t, p, ns, n, xs, rfl, _⟩ := h; rfl
  obtain ⟨a, t, p, ns, n, xs, rfl, hS, ht, hn, hp, hpt, hx, q⟩ := h
  refine ⟨_, (pss_one (ps_ret (pe_ix ix_list (pv 2) (pe_call (ok_law_draw T) (hr.mono (by decide)) rfl T.law_draw.m T.law_draw.F.kp T.law_draw.b .nil passN (pa_cons (pv 0) (pa_cons (pv 1) (pa_cons (pe_callB call_len_seq rfl T.n_len bt_len (pa_cons (pv 2) pa_nil)) pa_nil)))) (fun _ _ => rfl)))), ?_⟩
  have hpos := List.length_pos_iff.mpr hx
  refine ⟨_, rfl, _, rfl, _, rfl, _, rfl, p, _, rfl, .inl (SqL.of hp), a, t, ns, n, _, rfl, hS, ht, hn, by omega, fun r H' l1 l2 g ht' => ?_⟩
  have hr' : r.toNat < xs.length := by omega
  exact ⟨p, xs, r, xs[r.toNat], rfl, rfl, SqL.of (g p _ hpt hp), atI_int l1 (by simp [hr']), q _ H' (List.getElem_mem hr') g ht'⟩
def sp_world (K : PySem.W.Frag) : Sp := fun vs H Q _ => ∃ (a t : Addr) (ns : List Int) (n : Nat) (most wide : Int), vs = [.ref a, .ref t, .int most, .int wide] ∧ Scr K H a ns ∧ H t = some (.lst (zeros n)) ∧ n < 4000 ∧ 1 ≤ most ∧ most ≤ 10 ∧ 2 ≤ wide ∧ wide ≤ 99 ∧
  ∀ (W : Wd) (v : V) (n' : Nat) (H' : Hp), W.Ok → (W.bs.length : Int) ≤ most → (∀ p ∈ W.bs, p.1 ≤ wide ∧ p.2 ≤ p.1 + wide - 1) → Rep H' v (encW W) → SameX t H H' → H' t = some (.lst (zeros n')) → n' ≤ n + 42 → Q v H'
theorem ok_law_world (T : Txt K mg) : FnOk P w K mg base (CXr P w) 5 T.law_world.a T.law_world.d ["_law_script", "_law_town", "_law_most", "_law_wide"] (sp_world K) := by
  refine T.law_world.F.okN sc_law_world (fun vs H Q E h => ?_) (fun cdv A outer s H vs Q E hr h => ?_)
  · obtain ⟨a, t, ns, n, most, wide, rfl, _⟩ := h; rfl
  obtain ⟨a, t, ns, n, most, wide, rfl, hS, ht, hn, hm1, hm2, hw1, hw2, q⟩ := h
  refine ⟨_, (pss_cons (ps_set (i := 4) sc_law_world.nd rfl (by first | exact Or.inl rfl | exact Or.inr rfl) (pe_op op_add pe_int (pe_call (ok_law_draw T) (hr.mono (by decide)) rfl T.law_draw.m T.law_draw.F.kp T.law_draw.b .nil passN (pa_cons (pv 0) (pa_cons (pv 1) (pa_cons (pv 2) pa_nil)))))) (pss_cons (ps_set (i := 5) sc_law_world.nd rfl (by first | exact Or.inl rfl | exact Or.inr rfl) (pe_lst pa_nil)) (pss_cons (ps_for PassesOwn.never rfl (pi_range1 rfl T.n_range (pa_cons (pv 4) pa_nil)) (pg_name (i := 6) sc_law_world.nd rfl (by first | exact Or.inl rfl | exact Or.inr rfl)) (pss_cons (ps_set (i := 7) sc_law_world.nd rfl (by first | exact Or.inl rfl | exact Or.inr rfl) (pe_op op_add pe_int (pe_call (ok_law_draw T) (hr.mono (by decide)) rfl T.law_draw.m T.law_draw.F.kp T.law_draw.b .nil passN (pa_cons (pv 0) (pa_cons (pv 1) (pa_cons (pe_call (ok_law_pick T) (hr.mono (by decide)) rfl T.law_pick.m T.law_pick.F.kp T.law_pick.b .nil passN (pa_cons (pv 0) (pa_cons (pv 1) (pa_cons (pe_lst (pa_cons pe_int (pa_cons (pv 3) (pa_cons (pv 3) pa_nil)))) pa_nil)))) pa_nil)))))) (pss_one (ps_expr (pe_bm PySem.F.plainAttrs_list PySem.F.slot_list_append PySem.F.type_list_append mt_append (pv 5) (pa_cons (pe_tup (pa_cons (pv 7) (pa_cons (pe_callB (call_min2 rfl) rfl T.n_min bt_min (pa_cons pe_int (pa_cons (pe_op op_add (pv 7) (pe_call (ok_law_draw T) (hr.mono (by decide)) rfl T.law_draw.m T.law_draw.F.kp T.law_draw.b .nil passN (pa_cons (pv 0) (pa_cons (pv 1) (pa_cons (pe_call (ok_law_pick T) (hr.mono (by decide)) rfl T.law_pick.m T.law_pick.F.kp T.law_pick.b .nil passN (pa_cons (pv 0) (pa_cons (pv 1) (pa_cons (pe_lst (pa_cons pe_int (pa_cons pe_int (pa_cons (pv 3) pa_nil)))) pa_nil)))) pa_nil))))) pa_nil))) pa_nil))) pa_nil)))))) (pss_one (ps_ret (pe_tup (pa_cons (pe_op op_add pe_int (pe_call (ok_law_draw T) (hr.mono (by decide)) rfl T.law_draw.m T.law_draw.F.kp T.law_draw.b .nil passN (pa_cons (pv 0) (pa_cons (pv 1) (pa_cons pe_int pa_nil))))) (pa_cons (pe_callTy call_tuple_of rfl T.n_tuple bt_tuple (pa_cons (pv 5) pa_nil)) pa_nil)))))))), ?_⟩
  -- many
  refine ⟨_, rfl, _, rfl, _, rfl, a, t, ns, n, most, rfl, hS, ht, by omega, by omega, fun r H1 r0 r1 g1 t1 => ?_⟩
  refine ⟨_, _, rfl, rfl, ?_⟩
  have hS1 := g1.scr ht hS
  -- bounds = []
  refine ⟨Nat.zero_le _, fun l hl => ?_⟩
  have hlt : l ≠ t := fun z => by rw [z, t1] at hl; cases hl
  have fl : H l = none := by
    cases e : H l with
    | none => rfl
    | some o => have := g1 l o hlt e; rw [hl] at this; cases this
  refine ⟨_, rfl, 1 + r, rfl, by omega, by omega, for_range (n := (1 + r).toNat) (fun i σ H2 => ∃ (n2 : Nat) (ws : List V) (bl : List (Int × Int)) (x y : Option V), σ = [some (.ref a), some (.ref t), some (.int most), some (.int wide), some (.int (1 + r)), some (.ref l), x, y] ∧
      SameX t H H2 ∧ H2 t = some (.lst (zeros n2)) ∧ n2 ≤ n + 1 + 4 * i ∧ H2 l = some (.lst ws) ∧ Reps H2 ws (bl.map encB) ∧ bl.length = i ∧ ∀ p ∈ bl, 1 ≤ p.1 ∧ p.1 ≤ p.2 ∧ p.2 ≤ 99 ∧ p.1 ≤ wide ∧ p.2 ≤ p.1 + wide - 1) ?_ ?_ ?_⟩
  · exact ⟨n + 1, [], [], none, none, rfl, g1.new hl _, by rw [upd_ne (Ne.symm hlt)]; exact t1, by omega, upd_same, .nil, rfl, fun p hp => nomatch hp⟩
  · rintro i σ H2 hi ⟨n2, ws, bl, x, y, rfl, g2, t2, hn2, hl2, rs, hbl, hb⟩
    have hi10 : i < 10 := by omega
    have hS2 := g2.scr ht hS
    -- low: pick([2, wide, wide]), draw
    refine ⟨_, rfl, _, rfl, _, rfl, _, rfl, _, rfl, _, rfl, (by show 3 ≤ sizeLine; decide), fun p hp => ?_⟩
    have hpt : p ≠ t := fun z => by rw [z, t2] at hp; cases hp
    have g3 := same_new hp (.lst [.int 2, .int wide, .int wide])
    refine ⟨a, t, p, ns, n2, _, rfl, hS2.same g3, g3 _ _ t2, by omega, upd_same, hpt, by simp, fun v H4 hv g4 t4 => ?_⟩
    obtain ⟨z, rfl, hz⟩ : ∃ z : Int, v = .int z ∧ 2 ≤ z ∧ z ≤ wide := by
      simp only [List.mem_cons, List.not_mem_nil, or_false] at hv
      rcases hv with rfl | rfl | rfl
      · exact ⟨2, rfl, by omega, by omega⟩
      · exact ⟨wide, rfl, by omega, by omega⟩
      · exact ⟨wide, rfl, by omega, by omega⟩
    have g24 : SameX t H2 H4 := (g3.x t).trans g4
    have hS4 := g24.scr t2 hS2
    refine ⟨a, t, ns, n2 + 1, z, rfl, hS4, t4, by omega, by omega, fun r1 H5 a1 a2 g5 t5 => ?_⟩
    have g25 : SameX t H2 H5 := g24.trans g5
    have hS5 := g25.scr t2 hS2
    refine ⟨_, _, rfl, rfl, ?_⟩
    -- append((low, min(99, low + draw(pick([1, 2, wide])))))
    have hl5 : H5 l = some (.lst ws) := g25 l _ hlt hl2
    refine ⟨_, rfl, .inl ⟨rfl, _, SqL.of hl5⟩, ?_⟩
    refine ⟨_, rfl, _, rfl, _, rfl, _, rfl, _, rfl, _, rfl, _, rfl, (by show 3 ≤ sizeLine; decide), fun p2 hp2 => ?_⟩
    have hpt2 : p2 ≠ t := fun z => by rw [z, t5] at hp2; cases hp2
    have g6 := same_new hp2 (.lst [.int 1, .int 2, .int wide])
    refine ⟨a, t, p2, ns, n2 + 2, _, rfl, hS5.same g6, g6 _ _ t5, by omega, upd_same, hpt2, by simp, fun v2 H7 hv2 g7 t7 => ?_⟩
    obtain ⟨z2, rfl, hz2⟩ : ∃ z : Int, v2 = .int z ∧ 1 ≤ z ∧ z ≤ wide := by
      simp only [List.mem_cons, List.not_mem_nil, or_false] at hv2
      rcases hv2 with rfl | rfl | rfl
      · exact ⟨1, rfl, by omega, by omega⟩
      · exact ⟨2, rfl, by omega, by omega⟩
      · exact ⟨wide, rfl, by omega, by omega⟩
    have g27 : SameX t H2 H7 := g25.trans ((g6.x t).trans g7)
    have hS7 := g27.scr t2 hS2
    refine ⟨a, t, ns, n2 + 3, z2, rfl, hS7, t7, by omega, by omega, fun r2 H8 b1 b2 g8 t8 => ?_⟩
    have g28 : SameX t H2 H8 := g27.trans g8
    refine ⟨_, _, rfl, rfl, _, _, rfl, (by show 2 ≤ sizeLine; decide), fun p3 hp3 => ?_⟩
    have hl8 : H8 l = some (.lst ws) := g28 l _ hlt hl2
    have hl9 := same_new hp3 (.tup [.int (1 + r1), .int (if 1 + r1 + r2 < 99 then 1 + r1 + r2 else 99)]) l _ hl8
    refine ⟨l, ws, .ref p3, rfl, rfl, hl9, ?_, ?_⟩
    · have := rs.length
      rw [List.length_map] at this
      exact Nat.lt_of_lt_of_le (show ws.length < 100 by omega) (by decide)
    refine ⟨n2 + 4, ws ++ [.ref p3], bl ++ [(1 + r1, if 1 + r1 + r2 < 99 then 1 + r1 + r2 else 99)], _, _, rfl, ?_, ?_, by omega, upd_same, ?_, by simp [hbl], fun p hp => ?_⟩
    · have e1 : SameX t H (upd H8 p3 (.tup [.int (1 + r1), .int (if 1 + r1 + r2 < 99 then 1 + r1 + r2 else 99)])) := (g2.trans g28).new hp3 _
      intro b o nb hb'
      rw [upd_ne (ne_of_none hb' fl)]
      exact e1 b o nb hb'
    · rw [upd_ne (Ne.symm hlt)]
      exact same_new hp3 _ _ _ t8
    · rw [List.map_append]
      have ts : TSame H2 (upd (upd H8 p3 (.tup [.int (1 + r1), .int (if 1 + r1 + r2 < 99 then 1 + r1 + r2 else 99)])) l (.lst (ws ++ [.ref p3]))) := (g28.ts t2).trans ((TSame.new hp3 _).trans (TSame.lst hl9 _))
      refine (rs.tmono ts (all_encB bl)).append (Reps.one (.tup ?_ (Reps.ints (ns := [_, _]))))
      rw [upd_ne (ne_of (upd_same (H := H8) (a := p3)) hl9 (by intro z; cases z)), upd_same]
      rfl
    · rcases List.mem_append.mp hp with hp | hp
      · exact hb p hp
      · have e := List.mem_singleton.mp hp
        subst e
        dsimp only
        split <;> omega
  · rintro σ H2 ⟨n2, ws, bl, x, y, rfl, g2, t2, hn2, hl2, rs, hbl, hb⟩
    have hS2 := g2.scr ht hS
    have hbl' : bl.length = (1 + r).toNat := hbl
    refine ⟨_, rfl, _, rfl, a, t, ns, n2, 4, rfl, hS2, t2, by omega, by decide, fun r3 H3 c1 c2 g3 t3 => ?_⟩
    have hl3 : H3 l = some (.lst ws) := g3 l _ hlt hl2
    refine ⟨_, _, rfl, rfl, _, rfl, l, ws, rfl, .inl ⟨SqL.of hl3, fun p hp => ?_⟩⟩
    refine ⟨by show 2 ≤ sizeLine; decide, fun p2 hp2 => ?_⟩
    have ts : TSame H2 (upd (upd H3 p (.tup ws)) p2 (.tup [.int (1 + r3), .ref p])) := (g3.ts t2).trans ((TSame.new hp _).trans (TSame.new hp2 _))
    have hpp : p ≠ p2 := ne_of_none (upd_same (H := H3) (a := p)) hp2
    refine q ⟨1 + r3, bl⟩ _ n2.succ _ ⟨by show 1 ≤ 1 + r3; omega, by show 1 + r3 ≤ 4; omega, by show 1 ≤ bl.length; omega, by show bl.length ≤ 10; omega, fun p hp => ?_⟩ (by show (bl.length : Int) ≤ most; omega) (fun p hp => ?_) ?_ (((g2.trans g3).new hp _).new hp2 _) ?_ (by omega)
    · have := hb p hp
      exact ⟨this.1, this.2.1, this.2.2.1⟩
    · have := hb p hp
      exact ⟨this.2.2.2.1, this.2.2.2.2⟩
    · exact .tup upd_same (.cons (.int _) (.cons (.tup (by rw [upd_ne hpp, upd_same]) (rs.tmono ts (all_encB bl))) .nil))
    · rw [upd_ne (fun z => by rw [← z, upd_ne (fun z2 => by rw [← z2, t3] at hp; cases hp), t3] at hp2; cases hp2), upd_ne (fun z2 => by rw [← z2, t3] at hp; cases hp)]
      exact t3
end
end Be
set_option Elab.async false
set_option linter.all false
set_option maxRecDepth 100000
namespace Be
open PySem L2
/-! ### what a world is, on data -/
def wholeIn (d : PyData) (lo hi : Int) : Bool := match d with
  | .int i => decide (lo ≤ i) && decide (i ≤ hi)
  | _ => false
def isPairD : PyData → Bool
  | .tuple ds => decide (ds.length = 2)
  | _ => false
def bowD : PyData → Bool
  | .tuple [.int i, b] => wholeIn (.int i) 1 99 && wholeIn b i 99
  | _ => false
def arBD : PyData → Bool
  | .tuple ds => decide (1 ≤ ds.length) && decide (ds.length ≤ 10) && ds.all bowD
  | _ => false
def isWD : PyData → Bool
  | .tuple [b, x] => wholeIn b 1 4 && arBD x
  | _ => false
theorem pair_of {d : PyData} (h : isPairD d = true) : ∃ x y, d = .tuple [x, y] := by
  cases d with
  | tuple ds =>
    have := of_decide_eq_true (show decide (ds.length = 2) = true from h)
    match ds, this with
    | [x, y], _ => exact ⟨x, y, rfl⟩
  | _ => cases h
theorem bow_no {d : PyData} (h : isPairD d = false) : bowD d = false := by
  unfold bowD
  split
  · cases h
  · rfl
theorem isW_no {d : PyData} (h : isPairD d = false) : isWD d = false := by
  unfold isWD
  split
  · cases h
  · rfl
section
variable {P : Program} {w : World} {K : PySem.W.Frag} {mg : Str → Option Value} {base : Heap}
def sp_whole : Sp := fun vs H Q _ => ∃ (v : V) (d : PyData) (lo hi : Int), vs = [v, .int lo, .int hi] ∧ Rep H v d ∧ Q (.bl (wholeIn d lo hi)) H
theorem ok_is_whole_within (T : Txt K mg) : FnOk P w K mg base (CXr P w) 1 T.is_whole_within.a T.is_whole_within.d ["thing", "least", "most"] sp_whole := by
  refine T.is_whole_within.F.okN sc_is_whole_within (fun vs H Q E h => ?_) (fun cdv A outer s H vs Q E hr h => ?_)
  · obtain ⟨v, d, lo, hi, rfl, _⟩ := h; rfl
  obtain ⟨v, d, lo, hi, rfl, hd, q⟩ := h
  refine ⟨_, (pss_cons (ps_if (PW.pt (pw_or (pt_not (pt_val (pe_callB (call_isi kit_int) rfl T.n_isinstance bt_isinstance (pa_cons (pv 0) (pa_cons (pe_bltn (v := .ty "int") rfl T.n_int bt_int rfl) pa_nil))))) (pw_or1 (pt_val (pe_callB (call_isi kit_bool) rfl T.n_isinstance bt_isinstance (pa_cons (pv 0) (pa_cons (pe_bltn (v := .ty "bool") rfl T.n_bool bt_bool rfl) pa_nil))))))) (pss_one (ps_ret pe_bl)) pss_nil) (pss_one (ps_ret (pe_chain op_le op_le (pv 1) (pv 0) (pv 2))))), ?_⟩
  refine ⟨_, rfl, v, d, rfl, hd, _, rfl, ?_⟩
  cases hd with
  | non => exact iteT (iteT q)
  | str x => exact iteT (iteT q)
  | lst e r => exact iteT (iteT q)
  | tup e r => exact iteT (iteT q)
  | bl b => exact iteF ⟨_, rfl, _, _, rfl, .bl b, _, rfl, iteT q⟩
  | int i =>
    refine iteF ⟨_, rfl, _, _, rfl, .int i, _, rfl, iteF ?_⟩
    refine ⟨_, rfl, _, rfl, _, _, rfl, rfl, _, rfl, ?_⟩
    refine ite2 (fun c => ?_) (fun c => ?_)
    · refine ⟨_, rfl, _, _, rfl, rfl, ?_⟩
      have e : wholeIn (.int i) lo hi = decide (i ≤ hi) := by show (decide (lo ≤ i) && decide (i ≤ hi)) = _; rw [c]; rfl
      rw [e] at q
      exact q
    · have e : wholeIn (.int i) lo hi = false := by show (decide (lo ≤ i) && decide (i ≤ hi)) = _; rw [Bool.eq_false_iff.mpr c]; rfl
      rw [e] at q
      exact q
def sp_pair : Sp := fun vs H Q _ => ∃ (v : V) (d : PyData), vs = [v] ∧ Rep H v d ∧ Q (.bl (isPairD d)) H
theorem ok_is_pair (T : Txt K mg) : FnOk P w K mg base (CXr P w) 1 T.is_pair.a T.is_pair.d ["thing"] sp_pair := by
  refine T.is_pair.F.okN sc_is_pair (fun vs H Q E h => ?_) (fun cdv A outer s H vs Q E hr h => ?_)
  · obtain ⟨v, d, rfl, _⟩ := h; rfl
  obtain ⟨v, d, rfl, hd, q⟩ := h
  refine ⟨_, (pss_one (ps_ret (pe_and (pe_callB (call_isi kit_tuple) rfl T.n_isinstance bt_isinstance (pa_cons (pv 0) (pa_cons (pe_bltn (v := .ty "tuple") rfl T.n_tuple bt_tuple rfl) pa_nil))) (pe_one (pe_cmpR op_eq (pe_callB call_len_seq rfl T.n_len bt_len (pa_cons (pv 0) pa_nil)) pe_int (nomark _)))))), ?_⟩
  refine ⟨_, rfl, v, d, rfl, hd, _, rfl, ?_⟩
  cases hd with
  | non => exact iteF q
  | str x => exact iteF q
  | bl b => exact iteF q
  | int i => exact iteF q
  | lst e r => exact iteF q
  | @tup a vs ds e r =>
    refine iteT ⟨_, rfl, a, _, rfl, .inr (SqT.of e), rfl, ?_⟩
    have z : decide (V.int (vs.length : Int) = V.int 2) = isPairD (.tuple ds) := by
      show _ = decide (ds.length = 2)
      rw [r.length]
      by_cases h2 : ds.length = 2
      · rw [h2]; rfl
      · rw [decide_eq_false h2, decide_eq_false]
        intro z
        have := V.int.inj z
        omega
    rw [z]
    exact q
def sp_bow : Sp := fun vs H Q _ => ∃ (v : V) (d : PyData), vs = [v] ∧ Rep H v d ∧ Q (.bl (bowD d)) H
theorem ok_are_bounds_of_work (T : Txt K mg) : FnOk P w K mg base (CXr P w) 2 T.are_bounds_of_work.a T.are_bounds_of_work.d ["thing"] sp_bow := by
  refine T.are_bounds_of_work.F.okN sc_are_bounds_of_work (fun vs H Q E h => ?_) (fun cdv A outer s H vs Q E hr h => ?_)
  · obtain ⟨v, d, rfl, _⟩ := h; rfl
  obtain ⟨v, d, rfl, hd, q⟩ := h
  refine ⟨_, (pss_cons (ps_if (PW.pt (pw_or (pt_not (pt_val (pe_call (ok_is_pair T) (hr.mono (by decide)) rfl T.is_pair.m T.is_pair.F.kp T.is_pair.b .nil passN (pa_cons (pv 0) pa_nil)))) (pw_or1 (pt_not (pt_val (pe_call (ok_is_whole_within T) (hr.mono (by decide)) rfl T.is_whole_within.m T.is_whole_within.F.kp T.is_whole_within.b .nil passN (pa_cons (pe_ix ix_tup (pv 0) pe_int (fun _ _ => rfl)) (pa_cons pe_int (pa_cons (pe_glob (v := .int 99) rfl T.c_MOST_LENGTH.choose_spec ⟨_, rfl⟩) pa_nil))))))))) (pss_one (ps_ret pe_bl)) pss_nil) (pss_one (ps_ret (pe_call (ok_is_whole_within T) (hr.mono (by decide)) rfl T.is_whole_within.m T.is_whole_within.F.kp T.is_whole_within.b .nil passN (pa_cons (pe_ix ix_tup (pv 0) pe_int (fun _ _ => rfl)) (pa_cons (pe_ix ix_tup (pv 0) pe_int (fun _ _ => rfl)) (pa_cons (pe_glob (v := .int 99) rfl T.c_MOST_LENGTH.choose_spec ⟨_, rfl⟩) pa_nil))))))), ?_⟩
  refine ⟨_, rfl, v, d, rfl, hd, _, rfl, ?_⟩
  cases hp : isPairD d with
  | false =>
    rw [bow_no hp] at q
    exact iteT (iteT q)
  | true =>
    obtain ⟨x, y, rfl⟩ := pair_of hp
    obtain ⟨a, vs, rfl, ha, rs⟩ := hd.tup_inv
    cases rs with
    | @cons v1 _ _ _ r1 rs =>
      cases rs with
      | @cons v2 _ _ _ r2 rs =>
        cases rs
        refine iteF ⟨_, rfl, a, _, _, _, rfl, rfl, SqT.of ha, rfl, _, x, 1, 99, rfl, r1, _, rfl, ?_⟩
        cases hx : wholeIn x 1 99 with
        | false =>
          have e : bowD (.tuple [x, y]) = false := by
            cases x with
            | int i => show (wholeIn (.int i) 1 99 && _) = false; rw [hx]; rfl
            | _ => rfl
          rw [e] at q
          exact iteT q
        | true =>
          cases r1 with
          | int i =>
            refine iteF ?_
            refine ⟨_, rfl, a, _, _, _, rfl, rfl, SqT.of ha, rfl, _, rfl, a, _, _, _, rfl, rfl, SqT.of ha, rfl, v2, y, i, 99, rfl, r2, ?_⟩
            have e : bowD (.tuple [.int i, y]) = wholeIn y i 99 := by show (wholeIn (.int i) 1 99 && _) = _; rw [hx]; rfl
            rw [e] at q
            exact q
          | _ => cases hx
def sp_arb : Sp := fun vs H Q _ => ∃ (v : V) (d : PyData), vs = [v] ∧ Rep H v d ∧ ∀ H', Same H H' → Q (.bl (arBD d)) H'
theorem ok_are_bounds (T : Txt K mg) : FnOk P w K mg base (CXr P w) 3 T.are_bounds.a T.are_bounds.d ["thing"] sp_arb := by
  refine T.are_bounds.F.okN sc_are_bounds (fun vs H Q E h => ?_) (fun cdv A outer s H vs Q E hr h => ?_)
  · obtain ⟨v, d, rfl, _⟩ := h; rfl
  obtain ⟨v, d, rfl, hd, q⟩ := h
  refine ⟨_, (pss_cons (ps_if (PW.pt (pw_or (pt_not (pt_val (pe_callB (call_isi kit_tuple) rfl T.n_isinstance bt_isinstance (pa_cons (pv 0) (pa_cons (pe_bltn (v := .ty "tuple") rfl T.n_tuple bt_tuple rfl) pa_nil))))) (pw_or1 (pt_not (pt_chain op_le op_le pe_int (pe_callB call_len_seq rfl T.n_len bt_len (pa_cons (pv 0) pa_nil)) (pe_glob (v := .int 10) rfl T.c_MOST_WORKS.choose_spec ⟨_, rfl⟩)))))) (pss_one (ps_ret pe_bl)) pss_nil) (pss_one (ps_ret (pe_callB (call_allL rfl) rfl T.n_all bt_all (pa_cons (pe_comp (NB := ["part"]) (js := [none]) rfl (blkOk_of rfl (by decide +kernel) rfl (by decide +kernel) (by decide +kernel) (by with_unfolding_all rfl) (by with_unfolding_all rfl) (by with_unfolding_all rfl) (by with_unfolding_all rfl)) (pi_tup (pv 0)) (fun _ _ _ _ => (pg_name (i := 0) (show (["part"] : List Str).Nodup by decide +kernel) rfl (by first | exact Or.inl rfl | exact Or.inr rfl))) (fun _ _ _ _ => pf_nil) (fun _ _ _ _ => (pe_call (ok_are_bounds_of_work T) (hr.mono (by decide)) rfl T.are_bounds_of_work.m T.are_bounds_of_work.F.kp T.are_bounds_of_work.b .nil passN (pa_cons (pv 0) pa_nil)))) pa_nil))))), ?_⟩
  refine ⟨_, rfl, v, d, rfl, hd, _, rfl, ?_⟩
  cases hd with
  | non => exact iteT (iteT (q H (Same.refl H)))
  | str x => exact iteT (iteT (q H (Same.refl H)))
  | bl b => exact iteT (iteT (q H (Same.refl H)))
  | int i => exact iteT (iteT (q H (Same.refl H)))
  | lst e r => exact iteT (iteT (q H (Same.refl H)))
  | @tup a vs ds e r =>
    have hl := r.length
    refine iteF ⟨_, rfl, a, _, rfl, .inr (SqT.of e), _, _, rfl, rfl, _, rfl, ?_⟩
    refine ite2 (fun c1 => ?_) (fun c1 => ?_)
    · have c1' : 1 ≤ (vs.length : Int) := of_decide_eq_true c1
      refine ⟨_, _, rfl, rfl, _, rfl, ?_⟩
      refine ite2 (fun c2 => ?_) (fun c2 => ?_)
      · have c2' : ¬ ((vs.length : Int) ≤ 10) := by simpa using c2
        have no : arBD (.tuple ds) = false := by
          show (_ && decide (ds.length ≤ 10) && _) = false
          rw [decide_eq_false (show ¬ ds.length ≤ 10 by omega)]; simp
        rw [no] at q
        exact q H (Same.refl H)
      · have c2' : (vs.length : Int) ≤ 10 := by simpa using c2
        have yes : arBD (.tuple ds) = ds.all bowD := by
          show (decide (1 ≤ ds.length) && decide (ds.length ≤ 10) && ds.all bowD) = _
          rw [decide_eq_true (show 1 ≤ ds.length by omega), decide_eq_true (show ds.length ≤ 10 by omega)]; rfl
        rw [yes] at q
        refine ⟨_, rfl, a, rfl, ⟨_, SqT.of e⟩, fun D hD => ?_⟩
        refine comp_tup (K := K) (a := a) (xs := vs) (Q := fun x H1 => rAll [x] H1 Q) (fun i ys H2 => Same H H2 ∧ H2 D = some (.lst ys) ∧ ys = ((ds.take i).map bowD).map V.bl) ⟨same_new hD _, upd_same, rfl⟩ (fun i ys H2 _ hP => SqT.of (hP.1 _ _ e)) (fun i ys x H2 hx hP => ?_) (fun ys H2 hP => ?_)
        · obtain ⟨g, hD2, rfl⟩ := hP
          obtain ⟨d, hd, rx⟩ := (r.mono g).get' hx
          have hi : i < ds.length := (List.getElem?_eq_some_iff.mp hd).1
          refine ⟨agree0, iteT ⟨_, rfl, x, d, rfl, rx, hD2, ?_, g.write hD _, upd_same, ?_⟩⟩
          · rw [List.length_map, List.length_map]
            have := List.length_take_le i ds
            exact Nat.lt_of_lt_of_le (show _ < 100 by omega) (by decide)
          · rw [List.take_add_one, hd, List.map_append, List.map_append]; rfl
        · obtain ⟨g, hD2, rfl⟩ := hP
          rw [hl, List.take_length] at hD2
          refine ⟨D, _, rfl, hD2, ?_⟩
          rw [List.all_map]
          exact q H2 g
    · refine ⟨_, rfl, iteT ?_⟩
      have c1' : ¬ (1 ≤ (vs.length : Int)) := of_decide_eq_false (Bool.eq_false_iff.mpr c1)
      have no : arBD (.tuple ds) = false := by
        show (decide (1 ≤ ds.length) && _ && _) = false
        rw [decide_eq_false (show ¬ 1 ≤ ds.length by omega)]; simp
      rw [no] at q
      exact q H (Same.refl H)
def sp_isw : Sp := fun vs H Q _ => ∃ (v : V) (d : PyData), vs = [v] ∧ Rep H v d ∧ ∀ H', Same H H' → Q (.bl (isWD d)) H'
theorem ok_is_world (T : Txt K mg) : FnOk P w K mg base (CXr P w) 4 T.is_world.a T.is_world.d ["thing"] sp_isw := by
  refine T.is_world.F.okN sc_is_world (fun vs H Q E h => ?_) (fun cdv A outer s H vs Q E hr h => ?_)
  · obtain ⟨v, d, rfl, _⟩ := h; rfl
  obtain ⟨v, d, rfl, hd, q⟩ := h
  refine ⟨_, (pss_one (ps_ret (pe_and (pe_call (ok_is_pair T) (hr.mono (by decide)) rfl T.is_pair.m T.is_pair.F.kp T.is_pair.b .nil passN (pa_cons (pv 0) pa_nil)) (pe_and (pe_call (ok_is_whole_within T) (hr.mono (by decide)) rfl T.is_whole_within.m T.is_whole_within.F.kp T.is_whole_within.b .nil passN (pa_cons (pe_ix ix_tup (pv 0) pe_int (fun _ _ => rfl)) (pa_cons pe_int (pa_cons (pe_glob (v := .int 4) rfl T.c_MOST_BENCHES.choose_spec ⟨_, rfl⟩) pa_nil)))) (pe_one (pe_call (ok_are_bounds T) (hr.mono (by decide)) rfl T.are_bounds.m T.are_bounds.F.kp T.are_bounds.b .nil passN (pa_cons (pe_ix ix_tup (pv 0) pe_int (fun _ _ => rfl)) pa_nil))))))), ?_⟩
  refine ⟨_, rfl, v, d, rfl, hd, _, rfl, ?_⟩
  cases hp : isPairD d with
  | false =>
    rw [isW_no hp] at q
    exact iteF (q H (Same.refl H))
  | true =>
    obtain ⟨x, y, rfl⟩ := pair_of hp
    obtain ⟨a, vs, rfl, ha, rs⟩ := hd.tup_inv
    cases rs with
    | @cons v1 _ _ _ r1 rs =>
      cases rs with
      | @cons v2 _ _ _ r2 rs =>
        cases rs
        refine iteT ⟨_, rfl, a, _, _, _, rfl, rfl, SqT.of ha, rfl, v1, x, 1, 4, rfl, r1, _, rfl, ?_⟩
        cases hx : wholeIn x 1 4 with
        | false =>
          have e : isWD (.tuple [x, y]) = false := by show (wholeIn x 1 4 && _) = false; rw [hx]; rfl
          rw [e] at q
          exact iteF (q H (Same.refl H))
        | true =>
          have e : isWD (.tuple [x, y]) = arBD y := by show (wholeIn x 1 4 && _) = _; rw [hx]; rfl
          rw [e] at q
          exact iteT ⟨_, rfl, a, _, _, _, rfl, rfl, SqT.of ha, rfl, v2, y, rfl, r2, fun H' g => q H' g⟩
def sp_cw (T : Txt K mg) : Sp := fun vs H Q E => ∃ (v : V) (d : PyData), vs = [v] ∧ Rep H v d ∧ (isWD d = true → ∀ H', Same H H' → Q .non H') ∧ (isWD d = false → ∀ H', Same H H' → E (.ref T.e_NoWorld.C) none H')
theorem ok_check_world (T : Txt K mg) : FnOk P w K mg base (CXr P w) 5 T.check_world.a T.check_world.d ["world"] (sp_cw T) := by
  refine T.check_world.F.okR sc_check_world (fun vs H Q E h => ?_) (fun cdv A outer s H vs Q E hr h => ?_)
  · obtain ⟨v, d, rfl, _⟩ := h; rfl
  obtain ⟨v, d, rfl, hd, q1, q2⟩ := h
  refine ⟨_, (pss_one (ps_if (pt_not (pt_val (pe_call (ok_is_world T) (hr.mono (by decide)) rfl T.is_world.m T.is_world.F.kp T.is_world.b .nil passN (pa_cons (pv 0) pa_nil)))) (pss_one (ps_raise T.e_NoWorld.m T.e_NoWorld.q PySem.F.excBase_ValueError hr.hd pe_str rfl)) pss_nil)), ?_⟩
  refine ⟨_, rfl, v, d, rfl, hd, fun H' g => ⟨_, rfl, ?_⟩⟩
  cases hw : isWD d with
  | true => exact iteF (q1 hw H' g)
  | false => exact iteT ⟨by show 1 ≤ sizeLine; decide, q2 hw H' g⟩
end
end Be
set_option Elab.async false
set_option linter.all false
set_option maxRecDepth 100000
namespace Be
open PySem L2
section
variable {P : Program} {w : World} {K : PySem.W.Frag} {mg : Str → Option Value} {base : Heap}
/-- the works that run, as a new list; the order a tuple or a list of ints -/
def sp_running (K : PySem.W.Frag) : Sp := fun vs H Q _ => ∃ (v : V) (p : Addr) (W : Wd) (o : List Int), vs = [v, .ref p] ∧ Rep H v (encW W) ∧ W.Ok ∧ (SqL K H p (o.map V.int) ∨ SqT K H p (o.map V.int)) ∧ o.length ≤ 100 ∧
  ∀ (r : Addr) (H' : Hp), Same H H' → H r = none → H' r = some (.lst ((runM W o).map V.int)) → Q (.ref r) H'
theorem run_pre (o : List Int) (i : Nat) : ((upto (i + 1)).filter fun x => decide (x ∉ o)) = ((upto i).filter fun x => decide (x ∉ o)) ++ (if (i : Int) ∈ o then [] else [(i : Int)]) := by
  rw [upto_succ, List.filter_append]
  by_cases h : (i : Int) ∈ o <;> simp [h]
end
end Be
set_option Elab.async false
set_option linter.all false
set_option maxRecDepth 100000
namespace L2
open PySem PySem.Spec PyProof.Rows

/-! ### lists of pairs as tables -/
section
variable {κ : Type} [DecidableEq κ]
def valV (kvs : List (κ × V)) (k : κ) : Option V := (kvs.find? fun kv => decide (kv.1 = k)).map (·.2)
/-- in its place, or at the end -/
def putK (kvs : List (κ × V)) (k : κ) (v : V) : List (κ × V) :=
  if (kvs.any fun kv => decide (kv.1 = k)) = true then kvs.map (fun kv => if kv.1 = k then (kv.1, v) else kv) else kvs ++ [(k, v)]
theorem valV_pos {p : κ × V} {r : List (κ × V)} {k : κ} (e : p.1 = k) : valV (p :: r) k = some p.2 := by simp [valV, List.find?_cons, e]
theorem valV_neg {p : κ × V} {r : List (κ × V)} {k : κ} (e : ¬ p.1 = k) : valV (p :: r) k = valV r k := by simp [valV, List.find?_cons, e]
theorem valV_any (k : κ) : ∀ kvs : List (κ × V), (kvs.any fun kv => decide (kv.1 = k)) = (valV kvs k).isSome
  | [] => rfl
  | p :: r => by
    rw [List.any_cons]
    by_cases e : p.1 = k
    · simp only [valV_pos e, decide_eq_true e, Bool.true_or, Option.isSome_some]
    · rw [valV_neg e, decide_eq_false e, Bool.false_or]; exact valV_any k r
theorem length_putK (kvs : List (κ × V)) (k : κ) (v : V) : (putK kvs k v).length ≤ kvs.length + 1 := by
  unfold putK
  split
  · rw [List.length_map]; omega
  · rw [List.length_append, List.length_cons, List.length_nil]; omega
theorem putK_new {kvs : List (κ × V)} {k : κ} (v : V) (h : valV kvs k = none) : putK kvs k v = kvs ++ [(k, v)] := by
  unfold putK
  rw [valV_any, h]
  exact if_neg (by decide)

theorem RelO.isSome_eq {o : Option V} {u : Option Value} (r : RelO o u) : o.isSome = u.isSome := by
  cases o with
  | none => cases u with
    | none => rfl
    | some _ => exact (show False from r).elim
  | some _ => cases u with
    | none => exact (show False from r).elim
    | some _ => rfl
/-- raw tables of the same keys -/
theorem KV.val {kvs : List (κ × V)} {vs : List (κ × Value)} (r : KV kvs vs) (k : κ) : RelO (valV kvs k) (valueAt vs k) := by
  unfold KV at r
  induction r with
  | nil => exact True.intro
  | @cons p q ps qs h t ih =>
    obtain ⟨h1, h2⟩ := h
    by_cases e : p.1 = k
    · have e' : q.1 = k := h1.symm.trans e
      have b : valueAt (q :: qs) k = some q.2 := by simp [valueAt, List.find?_cons, e']
      rw [valV_pos e, b]; exact h2
    · have e' : ¬ q.1 = k := fun z => e (h1.trans z)
      have b : valueAt (q :: qs) k = valueAt qs k := by simp [valueAt, List.find?_cons, e']
      rw [valV_neg e, b]; exact ih
theorem KV.any {kvs : List (κ × V)} {vs : List (κ × Value)} (r : KV kvs vs) (k : κ) : (kvs.any fun kv => decide (kv.1 = k)) = vs.any fun kv => decide (kv.1 = k) := by
  unfold KV at r
  induction r with
  | nil => rfl
  | cons h t ih => rw [List.any_cons, List.any_cons, ih, h.1]
theorem KV.repl {kvs : List (κ × V)} {vs : List (κ × Value)} (r : KV kvs vs) (k : κ) {y : V} {u : Value} (ry : RelV y u) :
    KV (kvs.map fun kv => if kv.1 = k then (kv.1, y) else kv) (vs.map fun kv => if kv.1 = k then (kv.1, u) else kv) := by
  unfold KV at r ⊢
  induction r with
  | nil => exact .nil
  | @cons p q ps qs h t ih =>
    rw [List.map_cons, List.map_cons]
    refine .cons ?_ ih
    obtain ⟨h1, h2⟩ := h
    by_cases e : p.1 = k
    · rw [if_pos e, if_pos (h1.symm.trans e)]; exact ⟨h1, ry⟩
    · rw [if_neg e, if_neg (fun z => e (h1.trans z))]; exact ⟨h1, h2⟩
theorem KV.put {kvs : List (κ × V)} {vs : List (κ × Value)} (r : KV kvs vs) (k : κ) {y : V} {u : Value} (ry : RelV y u) : KV (putK kvs k y) (stored vs k u) := by
  unfold putK stored
  rw [r.any k]
  by_cases e : (vs.any fun kv => decide (kv.1 = k)) = true
  · rw [if_pos e, if_pos e]; exact r.repl k ry
  · rw [if_neg e, if_neg e]; exact Paired.snoc r ⟨rfl, ry⟩
theorem KV.length {kvs : List (κ × V)} {vs : List (κ × Value)} (r : KV kvs vs) : kvs.length = vs.length := Paired.length r
end


/-! ### a tracked dict, its keys ints and texts or tuples of these -/
theorem kV_is {P : Program} {w : World} {k : Key} {u : Value} (r : RelV (kV k) u) : (mixKind P w).is k u = true := by
  cases k with
  | inl i => obtain ⟨t, e⟩ := (show ∃ t, u = Value.int i t from r); subst e; exact mixKind_int P w i t
  | inr x => obtain ⟨t, e⟩ := (show ∃ t, u = Value.str x t from r); subst e; exact mixKind_str P w x t
theorem items_are {P : Program} {w : World} : ∀ {ks : List Key} {us : List Value}, Vals (ks.map kV) us → ItemsAre (mixKind P w) ks us
  | [], _, r => by rw [List.map_nil] at r; cases r; exact .nil
  | k :: ks, _, r => by
    rw [List.map_cons] at r
    cases r with
    | cons h t => exact .cons (kV_is h) (items_are t)

/-- raw entries of a dict with tuple keys -/
abbrev KT (H : Hp) : List (List Key × V) → List (List Key × Addr × Value) → Prop := Paired fun p q => p.1 = q.1 ∧ H q.2.1 = some (.tup (p.1.map kV)) ∧ RelV p.2 q.2.2
theorem KT.val {H : Hp} {kvs : List (List Key × V)} {xs : List (List Key × Addr × Value)} (r : KT H kvs xs) (k : List Key) : RelO (valV kvs k) ((atKey xs k).map (·.2)) := by
  induction r with
  | nil => exact True.intro
  | @cons p q ps qs h t ih =>
    obtain ⟨h1, _, h2⟩ := h
    by_cases e : p.1 = k
    · have e' : q.1 = k := h1.symm.trans e
      have b : atKey (q :: qs) k = some q.2 := by simp [atKey, List.find?_cons, e']
      rw [valV_pos e, b]; exact h2
    · have e' : ¬ q.1 = k := fun z => e (h1.trans z)
      have b : atKey (q :: qs) k = atKey qs k := by simp [atKey, List.find?_cons, e']
      rw [valV_neg e, b]; exact ih
theorem KT.repl {H : Hp} {kvs : List (List Key × V)} {xs : List (List Key × Addr × Value)} (r : KT H kvs xs) (k : List Key) {y : V} {u : Value} (ry : RelV y u) :
    KT H (kvs.map fun kv => if kv.1 = k then (kv.1, y) else kv) (xs.map (putAt k u)) := by
  induction r with
  | nil => exact .nil
  | @cons p q ps qs h t ih =>
    rw [List.map_cons, List.map_cons]
    refine .cons ?_ ih
    obtain ⟨h1, h2, h3⟩ := h
    unfold putAt
    by_cases e : p.1 = k
    · rw [if_pos e, if_pos (h1.symm.trans e)]; exact ⟨h1, h2, ry⟩
    · rw [if_neg e, if_neg (fun z => e (h1.trans z))]; exact ⟨h1, h2, h3⟩
theorem KT.put {H : Hp} {kvs : List (List Key × V)} {xs : List (List Key × Addr × Value)} (r : KT H kvs xs) (k : List Key) {b : Addr} {y : V} {u : Value} (hb : H b = some (.tup (k.map kV))) (ry : RelV y u) :
    KT H (putK kvs k y) (storedH xs k b u) := by
  have e : (kvs.any fun kv => decide (kv.1 = k)) = (atKey xs k).isSome := by
    rw [valV_any, (r.val k).isSome_eq, Option.isSome_map]
  unfold putK storedH
  rw [e]
  by_cases q : (atKey xs k).isSome = true
  · rw [if_pos q, if_pos q]; exact r.repl k ry
  · rw [if_neg q, if_neg q]; exact Paired.snoc r ⟨rfl, hb, ry⟩
theorem KT.keeps {H H' : Hp} {kvs : List (List Key × V)} {xs : List (List Key × Addr × Value)} (r : KT H kvs xs) (ht : ∀ b ys, H b = some (.tup ys) → H' b = some (.tup ys)) : KT H' kvs xs :=
  Paired.mapP r fun _ _ z => ⟨z.1, ht _ _ z.2.1, z.2.2⟩

section
variable {P : Program} {w : World} {H : Hp} {h : Heap} {a : Addr}
theorem rd_of {u : HO} (ok : HOk P w H h) (e : Rd H a u) : ObjOk P w H h a u := e.ok ok
theorem dk_rd {kvs : List (Key × V)} (ok : HOk P w H h) (e : Rd H a (.dK kvs)) : kvs.length ≤ sizeLine ∧ (a == sysModules) = false ∧ ∃ vs, KV kvs vs ∧ h.DictOf (mixKind P w) a vs :=
  show ObjOk P w H h a (.dK kvs) from rd_of ok e
theorem dk_of {kvs : List (Key × V)} (ok : HOk P w H h) (e : H a = some (.dK kvs)) : kvs.length ≤ sizeLine ∧ (a == sysModules) = false ∧ ∃ vs, KV kvs vs ∧ h.DictOf (mixKind P w) a vs := dk_rd ok (.inl e)
/-- a tracked tuple of ints and texts is a key -/
theorem key_of {ks : List Key} (ok : HOk P w H h) (e : H a = some (.tup (ks.map kV))) : (tupleKind (mixKind P w)).is h ks a := by
  obtain ⟨_, its, r, o, h1, h2, _, n, h3⟩ := (show ObjOk P w H h a (.tup (ks.map kV)) from ok a _ e)
  exact ⟨o, its.toArray, n, h1, h2, h3, by simpa using items_are r⟩
theorem dt_rd {kvs : List (List Key × V)} (ok : HOk P w H h) (e : Rd H a (.dT kvs)) : kvs.length ≤ sizeLine ∧ (a == sysModules) = false ∧
    ∃ xs, KT H kvs xs ∧ h.DictOfH (tupleKind (mixKind P w)) a xs := by
  obtain ⟨z, y, xs, r, o, es, ep, h1, h2, h3, h4, h5⟩ := (show ObjOk P w H h a (.dT kvs) from rd_of ok e)
  refine ⟨z, y, xs, r, o, es, ep, h1, h2, h3, h4, fun x hx => ?_, h5⟩
  have all : ∀ {l : List (List Key × V)} {m : List (List Key × Addr × Value)}, KT H l m → ∀ x ∈ m, (tupleKind (mixKind P w)).is h x.1 x.2.1 := by
    intro l m q
    induction q with
    | nil => intro x hx; exact nomatch hx
    | @cons p q ps qs hq t ih =>
      intro x hx
      rcases List.mem_cons.mp hx with e | hx
      · subst e
        exact key_of ok (by rw [← hq.1]; exact hq.2.1)
      · exact ih x hx
  exact all r x hx
theorem dt_of {kvs : List (List Key × V)} (ok : HOk P w H h) (e : H a = some (.dT kvs)) : kvs.length ≤ sizeLine ∧ (a == sysModules) = false ∧
    ∃ xs, KT H kvs xs ∧ h.DictOfH (tupleKind (mixKind P w)) a xs := dt_rd ok (.inl e)
end

/-- what the dict at a holds at the key y -/
def DGet (H : Hp) (a : Addr) (y : V) (r : Option V) : Prop :=
  (∃ kvs k, Rd H a (.dK kvs) ∧ y = kV k ∧ r = valV kvs k) ∨ ∃ kvs k b, Rd H a (.dT kvs) ∧ y = .ref b ∧ H b = some (.tup (k.map kV)) ∧ r = valV kvs k
/-- the heap behind a[y] = v -/
def DPut (H : Hp) (a : Addr) (y v : V) (H' : Hp) : Prop :=
  (∃ kvs k, H a = some (.dK kvs) ∧ y = kV k ∧ kvs.length < sizeLine ∧ H' = upd H a (.dK (putK kvs k v))) ∨
  ∃ kvs k b, H a = some (.dT kvs) ∧ y = .ref b ∧ H b = some (.tup (k.map kV)) ∧ kvs.length < sizeLine ∧ H' = upd H a (.dT (putK kvs k v))
theorem DGet.k {H : Hp} {a : Addr} {kvs : List (Key × V)} {k : Key} (e : H a = some (.dK kvs)) : DGet H a (kV k) (valV kvs k) := .inl ⟨kvs, k, .inl e, rfl, rfl⟩
theorem DPut.k {H : Hp} {a : Addr} {kvs : List (Key × V)} {k : Key} {v : V} (e : H a = some (.dK kvs)) (hl : kvs.length < sizeLine) : DPut H a (kV k) v (upd H a (.dK (putK kvs k v))) := .inl ⟨kvs, k, e, rfl, hl, rfl⟩
section
variable {X : Cx} {pins : List (Addr × Obj)} {σ : St} {H : Hp} {s : Shared} {a : Addr} {y v : V} {u r : Value} {o : Option V} {A : Around} {E : Value → Shared → Prop}

theorem Inv.big (I : Inv X pins σ H s) : sysModules < s.heap.objs.size := by
  have h : mainGlobals < s.heap.objs.size := (I.mod.glob.keeps I.bk).lt
  exact Nat.lt_trans (by decide) h

/-- y in d -/
theorem d_in {Q : Value → Shared → Prop} (hu : A.units + 1 < cLine) (I : Inv X pins σ H s) (g : DGet H a y o) (ry : RelV y u) (h : ∀ s', Inv X pins σ H s' → Q (.bool o.isSome) s') :
    wpAny (model X.prog X.w) A (compareOp .In u (.ref a)) Q E s := by
  rcases g with ⟨kvs, k, e, ey, l⟩ | ⟨kvs, k, b, e, ey, eb, l⟩
  · subst ey
    obtain ⟨z, hd, vs, rel, dd⟩ := dk_rd I.hok e
    refine wpAny_in_of (kV_is ry) hd dd.mapOf ?_
    rw [← (rel.val k).isSome_eq, ← l]
    exact h _ (I.tok _)
  · subst ey
    cases (show u = Value.ref b from ry)
    obtain ⟨z, hd, xs, rel, dd⟩ := dt_rd I.hok e
    refine wpAny_in_heap (tupleKind_room_in1 hu) (key_of I.hok eb) hd dd ?_
    have q := (rel.val k).isSome_eq
    rw [Option.isSome_map] at q
    rw [← q, ← l]
    exact h _ (I.tok _)
/-- a dict's object is replaced -/
theorem d_write {h' : Heap} {t' : Nat} {ob : HO} (I : Inv X pins σ H s) (mu : Mut (H a)) (hs : Heap.SameBut a s.heap h') (he : ∃ q, h'.get? a = some q) (new : ObjOk X.prog X.w (upd H a ob) h' a ob) :
    Inv X pins σ (upd H a ob) { s with heap := h', toks := t' } :=
  I.write (x := a) (e := a) mu (.inl rfl) (fun b q hb z => (hs.2 b hb).trans z) he new
theorem dk_new {P : Program} {w : World} {H' : Hp} {h' : Heap} {kvs : List (Key × V)} {vs : List (Key × Value)} (z : kvs.length ≤ sizeLine) (hd : (a == sysModules) = false) (rel : KV kvs vs) (dd : h'.DictOf (mixKind P w) a vs) :
    ObjOk P w H' h' a (.dK kvs) := ⟨z, hd, vs, rel, dd⟩
/-- d[y] = v -/
theorem d_setItem {H' : Hp} {Q : Unit → Shared → Prop} (hu : A.units + 1 < cLine) (I : Inv X pins σ H s) (g : DPut H a y v H') (ry : RelV y u) (rv : RelV v r) (h : ∀ s', Inv X pins σ H' s' → Q () s') :
    wpAny (model X.prog X.w) A (setItem (.ref a) u r) Q E s := by
  rcases g with ⟨kvs, k, e, ey, l, eH⟩ | ⟨kvs, k, b, e, ey, eb, l, eH⟩
  · subst ey eH
    obtain ⟨z, hd, vs, rel, dd⟩ := dk_of I.hok e
    have hz : vs.length ≤ sizeLine := by rw [← rel.length]; exact z
    have hl : (putK kvs k v).length ≤ sizeLine := by have := length_putK kvs k v; omega
    refine wpAny_setItem_pairs (hsz := hz) (kV_is ry) dd fun h' dd' hs => h _ ?_
    have he : ∃ q, h'.get? a = some q := let ⟨q, _, _, hq, _⟩ := dd'; ⟨q, hq⟩
    exact d_write I (by rw [e]; exact True.intro) hs he (dk_new hl hd (rel.put k rv) dd')
  · subst ey eH
    cases (show u = Value.ref b from ry)
    obtain ⟨z, hd, xs, rel, dd⟩ := dt_of I.hok e
    have hz : xs.length ≤ sizeLine := by rw [← Paired.length rel]; exact z
    have hl : (putK kvs k v).length ≤ sizeLine := by have := length_putK kvs k v; omega
    refine wpAny_setItem_heap (hsz := hz) (tupleKind_room_in1 hu) (key_of I.hok eb) dd fun h' dd' hs => h _ ?_
    obtain ⟨q, es, ep, hq, h2, h3, h4, _, h5⟩ := dd'
    refine d_write I (by rw [e]; exact True.intro) hs ⟨q, hq⟩ ⟨hl, hd, _, (rel.put k eb rv).keeps fun c ys ec => ?_, q, es, ep, hq, h2, h3, h4, h5⟩
    rw [upd_ne (ne_of ec e (fun z => nomatch z))]
    exact ec
end

section
variable {X : Cx} {pins : List (Addr × Obj)} {σ : St} {H : Hp} {s : Shared} {a : Addr} {kvs : List (Key × V)} {k : Key} {u : Value} {A : Around} {E : Value → Shared → Prop}
end


/-! ### readings and rules -/
/-- y in d, y not in d -/
def tDIn (ty td : TE) : TE := fun σ H Q => ty σ H fun y H1 => td σ H1 fun x H2 => ∃ a o, x = .ref a ∧ DGet H2 a y o ∧ Q (.bl o.isSome) H2
/-- d[y] = v -/
def sDPut (td ty tv : TE) : TS := fun D σ H => tv σ H fun v H1 => td σ H1 fun x H2 => ty σ H2 fun y H3 => ∃ a H4, x = .ref a ∧ DPut H3 a y v H4 ∧ D.nx σ H4
section
variable {X : Cx} {o i e value : Expr} {pos pos' tpos : Pos} {td ty tv : TE}
theorem pc_din (hu : X.A.units + 1 < cLine) (hi : PE X i ty) (ho : PE X o td) : PC X .In i o (tDIn ty td) := by
  intro pins s σ H Q I h
  refine thn (hi pins s σ H _ I h) fun iv s1 ⟨y, H1, I1, ry, q1⟩ => thn (ho pins s1 σ H1 _ I1 q1) fun u s2 ⟨x, H2, I2, rx, a, ov, ex, g, q2⟩ => ?_
  subst ex
  obtain rfl : u = Value.ref a := rx
  exact d_in hu I2 g ry fun s3 I3 => ⟨.bl ov.isSome, H2, I3, rfl, q2⟩
theorem ps_dput (hu : X.A.units + 1 < cLine) (ho : PE X o td) (hi : PE X i ty) (hv : PE X value tv) (hs : swapsWith value (some (.Subscript o i pos')) pos.line X.env = pure false) :
    PS X (.Assign [.Subscript o i pos'] value pos) (sDPut td ty tv) := by
  intro pins s σ H D I h
  refine wpAny_Assign_Subscript (thn (hv pins s σ H _ I h) fun r s1 ⟨v, H1, I1, rv, q1⟩ => thn (ho pins s1 σ H1 _ I1 q1) fun u s2 ⟨x, H2, I2, rx, q2⟩ => thn (hi pins s2 σ H2 _ I2 q2) fun iv s3 ⟨y, H3, I3, ry, a, H4, ex, g, q3⟩ => ?_) hs
  subst ex
  obtain rfl : u = Value.ref a := rx
  exact d_setItem hu I3 g ry rv fun s4 I4 => ⟨σ, H4, I4, q3⟩
end


/-! ### displays -/
theorem dk_empty {P : Program} {w : World} {H : Hp} (h : Heap) (hb : sysModules < h.objs.size) : ObjOk P w H (h.push { cls := .type "dict", data := .dict #[] }) h.objs.size (.dK []) :=
  ⟨Nat.zero_le _, beq_eq_false_iff_ne.mpr (Ne.symm (Nat.ne_of_lt hb)), [], .nil, Heap.DictOf.new h⟩
/-- {}, to be a dict of the kind that is wanted -/
def tDNewK : TE := fun _ H Q => ∀ p, H p = none → Q (.ref p) (upd H p (.dK []))
section
variable {X : Cx} {pos : Pos}
theorem pe_dnewK : PE X (.Dict [] [] pos) tDNewK := fun pins s σ H Q I h =>
  wpAny_Dict_empty ⟨.ref s.heap.objs.size, _, I.laid (a := s.heap.objs.size) (o := .dK []) (t' := s.toks) (fun _ _ q => Heap.get?_push_of_some _ q) (Nat.le_refl _) (dk_empty s.heap I.big), rfl, h _ (I.hok.fresh (Nat.le_refl _))⟩
end

/-! ### methods -/
section
variable {X : Cx} {pins : List (Addr × Obj)} {σ : St} {H : Hp} {s : Shared} {a : Addr} {y d : V} {u r : Value} {o : Option V} {A : Around} {E : Value → Shared → Prop}
end

section
variable {X : Cx} {o e f : Expr} {apos cpos : Pos} {td ty tx : TE}
end

/-! ### dict(d): a copy -/
section
variable {X : Cx} {pins : List (Addr × Obj)} {σ : St} {H : Hp} {s : Shared} {a : Addr} {kvs : List (Key × V)} {A : Around} {E : Value → Shared → Prop}
end


section
variable {X : Cx} {pins : List (Addr × Obj)} {σ : St} {H : Hp} {s : Shared} {a : Addr} {y : V} {u : Value} {A : Around} {E : Value → Shared → Prop}
end
end L2
set_option Elab.async false
set_option linter.all false
set_option maxRecDepth 100000
namespace Be
open PySem L2
/-! ### what an order is, on data -/
def ordGo (W : Wd) : List PyData → Nat → List Int → Bool
  | [], _, _ => true
  | d :: r, i, seen => match d with
    | .int x => decide (0 ≤ x) && decide (x < (began W i : Int)) && decide (x ∉ seen) && ordGo W r (i + 1) (seen ++ [x])
    | _ => false
def ordD (W : Wd) : PyData → Bool
  | .tuple ds => ordGo W ds 0 []
  | _ => false
def seenK (seen : List Int) : List (Key × V) := seen.map fun x => (Sum.inl x, V.bl true)
theorem valV_seen (x : Int) : ∀ seen : List Int, (valV (seenK seen) (Sum.inl x : Key)).isSome = decide (x ∈ seen)
  | [] => by simp [seenK, valV]
  | y :: r => by
    have ih := valV_seen x r
    by_cases h : y = x
    · subst h
      rw [show seenK (y :: r) = ((Sum.inl y : Key), V.bl true) :: seenK r from rfl, valV_pos rfl]
      simp
    · rw [show seenK (y :: r) = ((Sum.inl y : Key), V.bl true) :: seenK r from rfl, valV_neg (fun z => h (Sum.inl.inj z)), ih]
      have h2 : ¬ x = y := fun z => h z.symm
      simp [h2]
section
variable {P : Program} {w : World} {K : PySem.W.Frag} {mg : Str → Option Value} {base : Heap}
def sp_hmw : Sp := fun vs H Q _ => ∃ (v : V) (W : Wd), vs = [v] ∧ Rep H v (encW W) ∧ Q (.int W.bs.length) H
theorem ok_how_many_works (T : Txt K mg) : FnOk P w K mg base (CXr P w) 1 T.how_many_works.a T.how_many_works.d ["world"] sp_hmw := by
  refine T.how_many_works.F.okN sc_how_many_works (fun vs H Q E h => ?_) (fun cdv A outer s H vs Q E hr h => ?_)
  · obtain ⟨v, W, rfl, _⟩ := h; rfl
  obtain ⟨v, W, rfl, hW, q⟩ := h
  obtain ⟨a, p, vs, AW⟩ := atW hW
  obtain rfl := AW.v
  refine ⟨_, (pss_one (ps_ret (pe_callB call_len_seq rfl T.n_len bt_len (pa_cons (pe_ix ix_tup (pv 0) pe_int (fun _ _ => rfl)) pa_nil)))), ?_⟩
  refine ⟨_, rfl, a, _, _, _, rfl, rfl, SqT.of AW.a, rfl, p, _, rfl, .inr (SqT.of AW.p), ?_⟩
  rw [AW.len]
  exact q
def sp_hmbn : Sp := fun vs H Q _ => ∃ (v : V) (W : Wd), vs = [v] ∧ Rep H v (encW W) ∧ Q (.int W.b) H
theorem ok_how_many_benches (T : Txt K mg) : FnOk P w K mg base (CXr P w) 1 T.how_many_benches.a T.how_many_benches.d ["world"] sp_hmbn := by
  refine T.how_many_benches.F.okN sc_how_many_benches (fun vs H Q E h => ?_) (fun cdv A outer s H vs Q E hr h => ?_)
  · obtain ⟨v, W, rfl, _⟩ := h; rfl
  obtain ⟨v, W, rfl, hW, q⟩ := h
  obtain ⟨a, p, vs, AW⟩ := atW hW
  obtain rfl := AW.v
  refine ⟨_, (pss_one (ps_ret (pe_ix ix_tup (pv 0) pe_int (fun _ _ => rfl)))), ?_⟩
  exact ⟨_, rfl, a, _, _, _, rfl, rfl, SqT.of AW.a, rfl, q⟩
def sp_hmb : Sp := fun vs H Q _ => ∃ (v : V) (W : Wd) (n : Nat), vs = [v, .int n] ∧ Rep H v (encW W) ∧ 0 ≤ W.b ∧ Q (.int (began W n : Int)) H
theorem ok_how_many_began (T : Txt K mg) : FnOk P w K mg base (CXr P w) 2 T.how_many_began.a T.how_many_began.d ["world", "ends"] sp_hmb := by
  refine T.how_many_began.F.okN sc_how_many_began (fun vs H Q E h => ?_) (fun cdv A outer s H vs Q E hr h => ?_)
  · obtain ⟨v, W, n, rfl, _⟩ := h; rfl
  obtain ⟨v, W, n, rfl, hW, hb, q⟩ := h
  obtain ⟨a, p, vs, AW⟩ := atW hW
  obtain rfl := AW.v
  refine ⟨_, (pss_one (ps_ret (pe_callB (call_min2 rfl) rfl T.n_min bt_min (pa_cons (pe_op op_add (pe_call (ok_how_many_benches T) (hr.mono (by decide)) rfl T.how_many_benches.m T.how_many_benches.F.kp T.how_many_benches.b .nil passN (pa_cons (pv 0) pa_nil)) (pv 1)) (pa_cons (pe_call (ok_how_many_works T) (hr.mono (by decide)) rfl T.how_many_works.m T.how_many_works.F.kp T.how_many_works.b .nil passN (pa_cons (pv 0) pa_nil)) pa_nil))))), ?_⟩
  refine ⟨_, rfl, .ref a, W, rfl, hW, _, rfl, _, _, rfl, rfl, _, rfl, .ref a, W, rfl, hW, _, _, rfl, ?_⟩
  have e : (if (W.bs.length : Int) < W.b + (n : Int) then (W.bs.length : Int) else W.b + (n : Int)) = (began W n : Int) := by
    unfold began
    split <;> omega
  rw [e]
  exact q
def sp_least : Sp := fun vs H Q _ => ∃ (v : V) (W : Wd) (x : Int), vs = [v, .int x] ∧ Rep H v (encW W) ∧ 0 ≤ x ∧ x < (W.bs.length : Int) ∧ Q (.int (bnd W x).1) H
def sp_greatest : Sp := fun vs H Q _ => ∃ (v : V) (W : Wd) (x : Int), vs = [v, .int x] ∧ Rep H v (encW W) ∧ 0 ≤ x ∧ x < (W.bs.length : Int) ∧ Q (.int (bnd W x).2) H
theorem bnd_get {W : Wd} {x : Int} (h0 : 0 ≤ x) (h1 : x < (W.bs.length : Int)) : W.bs[x.toNat]? = some (bnd W x) := by
  unfold bnd
  rw [List.getD_eq_getElem?_getD, List.getElem?_eq_getElem (show x.toNat < W.bs.length by omega)]
  rfl
theorem atW_ix {H : Hp} {v : V} {W : Wd} {a p : Addr} {vs : List V} (A : AtW H v W a p vs) {x : Int} (h0 : 0 ≤ x) (h1 : x < (W.bs.length : Int)) : ∃ q, atI vs x = some (.ref q) ∧ H q = some (.tup [.int (bnd W x).1, .int (bnd W x).2]) := by
  obtain ⟨q, hq, e⟩ := A.it _ _ (bnd_get h0 h1)
  refine ⟨q, ?_, e⟩
  have ex : x = ((x.toNat : Nat) : Int) := by omega
  rw [ex]
  exact atI_nat hq
theorem ok_least_length (T : Txt K mg) : FnOk P w K mg base (CXr P w) 1 T.least_length.a T.least_length.d ["world", "work"] sp_least := by
  refine T.least_length.F.okN sc_least_length (fun vs H Q E h => ?_) (fun cdv A outer s H vs Q E hr h => ?_)
  · obtain ⟨v, W, x, rfl, _⟩ := h; rfl
  obtain ⟨v, W, x, rfl, hW, h0, h1, q⟩ := h
  obtain ⟨a, p, vs, AW⟩ := atW hW
  obtain rfl := AW.v
  obtain ⟨b, hb, eb⟩ := atW_ix AW h0 h1
  refine ⟨_, (pss_one (ps_ret (pe_ix ix_tup (pe_ix ix_tup (pe_ix ix_tup (pv 0) pe_int (fun _ _ => rfl)) (pv 1) (fun _ _ => rfl)) pe_int (fun _ _ => rfl)))), ?_⟩
  exact ⟨_, rfl, a, _, _, _, rfl, rfl, SqT.of AW.a, rfl, _, rfl, p, _, _, _, rfl, rfl, SqT.of AW.p, hb, b, _, _, _, rfl, rfl, SqT.of eb, rfl, q⟩
theorem ok_greatest_length (T : Txt K mg) : FnOk P w K mg base (CXr P w) 1 T.greatest_length.a T.greatest_length.d ["world", "work"] sp_greatest := by
  refine T.greatest_length.F.okN sc_greatest_length (fun vs H Q E h => ?_) (fun cdv A outer s H vs Q E hr h => ?_)
  · obtain ⟨v, W, x, rfl, _⟩ := h; rfl
  obtain ⟨v, W, x, rfl, hW, h0, h1, q⟩ := h
  obtain ⟨a, p, vs, AW⟩ := atW hW
  obtain rfl := AW.v
  obtain ⟨b, hb, eb⟩ := atW_ix AW h0 h1
  refine ⟨_, (pss_one (ps_ret (pe_ix ix_tup (pe_ix ix_tup (pe_ix ix_tup (pv 0) pe_int (fun _ _ => rfl)) (pv 1) (fun _ _ => rfl)) pe_int (fun _ _ => rfl)))), ?_⟩
  exact ⟨_, rfl, a, _, _, _, rfl, rfl, SqT.of AW.a, rfl, _, rfl, p, _, _, _, rfl, rfl, SqT.of AW.p, hb, b, _, _, _, rfl, rfl, SqT.of eb, rfl, q⟩
def sp_bev : Sp := fun vs H Q _ => ∃ (v : V) (W : Wd) (x : Int), vs = [v, .int x] ∧ Rep H v (encW W) ∧ Q (.int (bg W x)) H
theorem ok_begin_event (T : Txt K mg) : FnOk P w K mg base (CXr P w) 2 T.begin_event.a T.begin_event.d ["world", "work"] sp_bev := by
  refine T.begin_event.F.okN sc_begin_event (fun vs H Q E h => ?_) (fun cdv A outer s H vs Q E hr h => ?_)
  · obtain ⟨v, W, x, rfl, _⟩ := h; rfl
  obtain ⟨v, W, x, rfl, hW, q⟩ := h
  obtain ⟨a, p, vs, AW⟩ := atW hW
  obtain rfl := AW.v
  refine ⟨_, (pss_one (ps_ret (pe_callB (call_max2 rfl) rfl T.n_max bt_max (pa_cons pe_int (pa_cons (pe_op op_add (pe_op op_sub (pv 1) (pe_call (ok_how_many_benches T) (hr.mono (by decide)) rfl T.how_many_benches.m T.how_many_benches.F.kp T.how_many_benches.b .nil passN (pa_cons (pv 0) pa_nil))) pe_int) pa_nil))))), ?_⟩
  refine ⟨_, rfl, _, rfl, .ref a, W, rfl, hW, _, _, rfl, rfl, _, _, rfl, rfl, _, _, rfl, ?_⟩
  have e : (if x - W.b + 1 > 0 then x - W.b + 1 else 0) = bg W x := by
    unfold bg
    split <;> split <;> omega
  rw [e]
  exact q
theorem ok_running (T : Txt K mg) : FnOk P w K mg base (CXr P w) 3 T.running.a T.running.d ["world", "order"] (sp_running K) := by
  refine T.running.F.okN sc_running (fun vs H Q E h => ?_) (fun cdv A outer s H vs Q E hr h => ?_)
  · obtain ⟨v, p, W, o, rfl, _⟩ := h; rfl
  obtain ⟨v, p, W, o, rfl, hW, hok, ho, hlen, q⟩ := h
  refine ⟨_, (pss_one (ps_ret (pe_comp (NB := ["work", "order"]) (js := [none, some 1]) rfl (blkOk_of rfl (by decide +kernel) rfl (by decide +kernel) (by decide +kernel) (by with_unfolding_all rfl) (by with_unfolding_all rfl) (by with_unfolding_all rfl) (by with_unfolding_all rfl)) (pi_range1 rfl T.n_range (pa_cons (pe_call (ok_how_many_began T) (hr.mono (by decide)) rfl T.how_many_began.m T.how_many_began.F.kp T.how_many_began.b .nil passN (pa_cons (pv 0) (pa_cons (pe_callB call_len_seq rfl T.n_len bt_len (pa_cons (pv 1) pa_nil)) pa_nil))) pa_nil)) (fun _ _ _ _ => (pg_name (i := 0) (show (["work", "order"] : List Str).Nodup by decide +kernel) rfl (by first | exact Or.inl rfl | exact Or.inr rfl))) (fun _ _ _ _ => (pf_one (pt_cmpR (b_op_notIn_seq K) (pv 0) (pv 1) (by with_unfolding_all rfl)))) (fun _ _ _ _ => (pv 0))))), ?_⟩
  have e1 : (o.map V.int).length = o.length := List.length_map _
  have l10 := hok.l10
  have b1 := hok.b1
  refine ⟨_, rfl, _, rfl, p, _, rfl, ho, v, W, _, rfl, hW, by omega, ?_⟩
  have hbe := began_le W (o.map V.int).length
  have hbe2 := began_le W o.length
  refine ⟨_, rfl, by omega, by omega, fun D hD => ?_⟩
  rw [Int.toNat_natCast, e1]
  refine comp_range (fun i ys H2 => Same H H2 ∧ H2 D = some (.lst ys) ∧ ys = ((upto i).filter fun x => decide (x ∉ o)).map V.int) ⟨same_new hD _, upd_same, rfl⟩ (fun i ys H2 hi hP => ?_) (fun ys H2 hP => ?_)
  · obtain ⟨g, hD2, rfl⟩ := hP
    refine ⟨agree0, _, rfl, _, rfl, p, _, rfl, SqTL.same g ho, rfl, flat_ints o, _, rfl, ?_⟩
    by_cases hm : (0 + (i : Int)) ∈ o
    · refine if_f (show (!inV (.int (0 + (i : Int))) (o.map V.int)) = false by rw [inV_ints, decide_eq_true hm]; rfl) ⟨g, hD2, ?_⟩
      rw [run_pre, if_pos (by simpa using hm), List.append_nil]
    · refine if_t (show (!inV (.int (0 + (i : Int))) (o.map V.int)) = true by rw [inV_ints, decide_eq_false hm]; rfl) ?_
      have ez : (((upto (i + 1)).filter fun x => decide (x ∉ o)).map V.int) = ((upto i).filter fun x => decide (x ∉ o)).map V.int ++ [V.int (0 + (i : Int))] := by
        rw [run_pre, if_neg (by simpa using hm), List.map_append]; simp
      refine ⟨_, rfl, hD2, ?_, ?_, ?_, ?_⟩
      · rw [List.length_map]
        have := List.length_filter_le (fun x => decide (x ∉ o)) (upto i)
        rw [upto_len] at this
        exact Nat.lt_of_lt_of_le (show _ < 100 by omega) (by decide)
      · exact g.write hD _
      · exact upd_same
      · exact ez.symm
  · obtain ⟨g, hD2, rfl⟩ := hP
    exact q D H2 g hD hD2
def sp_iso : Sp := fun vs H Q _ => ∃ (v t : V) (W : Wd) (d : PyData), vs = [v, t] ∧ Rep H v (encW W) ∧ W.Ok ∧ Rep H t d ∧ (∀ ds, d = .tuple ds → ds.length ≤ 1000) ∧ ∀ H', Same H H' → Q (.bl (ordD W d)) H'
theorem ok_is_order (T : Txt K mg) : FnOk P w K mg base (CXr P w) 3 T.is_order.a T.is_order.d ["world", "thing"] sp_iso := by
  refine T.is_order.F.okN sc_is_order (fun vs H Q E h => ?_) (fun cdv A outer s H vs Q E hr h => ?_)
  · obtain ⟨v, t, W, d, rfl, _⟩ := h; rfl
  obtain ⟨v, t, W, d, rfl, hW, hok, hd, hln, q⟩ := h
  refine ⟨_, (pss_cons (ps_if (pt_not (pt_val (pe_callB (call_isi kit_tuple) rfl T.n_isinstance bt_isinstance (pa_cons (pv 1) (pa_cons (pe_bltn (v := .ty "tuple") rfl T.n_tuple bt_tuple rfl) pa_nil))))) (pss_one (ps_ret pe_bl)) pss_nil) (pss_cons (ps_set (i := 2) sc_is_order.nd rfl (by first | exact Or.inl rfl | exact Or.inr rfl) pe_dnewK) (pss_cons (ps_for PassesOwn.never rfl (pi_enumT rfl T.n_enumerate (pa_cons (pv 1) pa_nil)) (pg_tup rfl (pgs_cons (pg_name (i := 3) sc_is_order.nd rfl (by first | exact Or.inl rfl | exact Or.inr rfl)) (pgs_cons (pg_name (i := 4) sc_is_order.nd rfl (by first | exact Or.inl rfl | exact Or.inr rfl)) pgs_nil))) (pss_cons (ps_if (PW.pt (pw_or (pt_not (pt_val (pe_call (ok_is_whole_within T) (hr.mono (by decide)) rfl T.is_whole_within.m T.is_whole_within.F.kp T.is_whole_within.b .nil passN (pa_cons (pv 4) (pa_cons pe_int (pa_cons (pe_op op_sub (pe_call (ok_how_many_began T) (hr.mono (by decide)) rfl T.how_many_began.m T.how_many_began.F.kp T.how_many_began.b .nil passN (pa_cons (pv 0) (pa_cons (pv 3) pa_nil))) pe_int) pa_nil)))))) (pw_or1 (pt_cmp (pc_din (hu_of hr) (pv 4) (pv 2)))))) (pss_one (ps_ret pe_bl)) pss_nil) (pss_one (ps_dput (hu_of hr) (pv 2) (pv 4) pe_bl rfl)))) (pss_one (ps_ret pe_bl))))), ?_⟩
  refine ⟨_, rfl, t, d, rfl, hd, _, rfl, ?_⟩
  cases hd with
  | non => exact iteT (q H (Same.refl H))
  | str x => exact iteT (q H (Same.refl H))
  | bl b => exact iteT (q H (Same.refl H))
  | int i => exact iteT (q H (Same.refl H))
  | lst e r => exact iteT (q H (Same.refl H))
  | @tup a vs ds e r =>
    have hl := r.length
    have hln' := hln ds rfl
    refine iteF (fun D hD => ?_)
    have nD : ∀ b o, H b = some o → b ≠ D := fun b o z => ne_of_none z hD
    refine ⟨_, rfl, a, vs, rfl, SqT.of (same_new hD _ _ _ e), for_enumT (K := K) (a := a) (xs := vs) (fun i σ H2 => ∃ (seen : List Int) (x y : Option V), σ = [some v, some (.ref a), some (.ref D), x, y] ∧ Same H H2 ∧ H2 D = some (.dK (seenK seen)) ∧ seen.length = i ∧ ordGo W ds 0 [] = ordGo W (ds.drop i) i seen) ?_ ?_ ?_ ?_⟩
    · exact ⟨[], none, none, rfl, same_new hD _, upd_same, rfl, rfl⟩
    · rintro i σ H2 _ ⟨seen, x, y, rfl, g, _⟩
      exact SqT.of (g _ _ e)
    · rintro i u p σ H2 hu hp ⟨seen, x, y, rfl, g, hD2, hs, ho⟩
      obtain ⟨d, hd, ru⟩ := (r.mono g).get' hu
      have hi : i < ds.length := (List.getElem?_eq_some_iff.mp hd).1
      have hdrop : ds.drop i = d :: ds.drop (i + 1) := by
        have := List.drop_eq_getElem_cons hi
        rw [this]
        congr 1
        exact (List.getElem?_eq_some_iff.mp hd).2
      rw [hdrop] at ho
      have g2 := same_new hp (.tup [.int i, u])
      have gg := g.trans g2
      refine ⟨p, _, rfl, SqT.of upd_same, rfl, _, _, rfl, _, _, rfl, rfl, ?_⟩
      refine ⟨_, rfl, _, rfl, _, rfl, v, W, i, rfl, hW.mono gg, by have := hok.b1; omega, _, _, rfl, rfl, u, d, 0, _, rfl, ru.mono g2, _, rfl, ?_⟩
      cases hw : wholeIn d 0 ((began W i : Int) - 1) with
      | false =>
        have no : ordGo W (d :: ds.drop (i + 1)) i seen = false := by
          unfold ordGo
          cases d with
          | int z =>
            show (decide (0 ≤ z) && decide (z < (began W i : Int)) && _ && _) = false
            have hw' : (decide (0 ≤ z) && decide (z ≤ (began W i : Int) - 1)) = false := hw
            have ez : decide (z < (began W i : Int)) = decide (z ≤ (began W i : Int) - 1) := by
              by_cases hz : z < (began W i : Int)
              · rw [decide_eq_true hz, decide_eq_true (by omega)]
              · rw [decide_eq_false hz, decide_eq_false (by omega)]
            rw [ez, hw']; rfl
          | _ => rfl
        have e0 : ordD W (.tuple ds) = false := by show ordGo W ds 0 [] = false; rw [ho]; exact no
        rw [e0] at q
        exact iteT (iteT (q _ gg))
      | true =>
        cases ru with
        | int z =>
          have hw' : (decide (0 ≤ z) && decide (z ≤ (began W i : Int) - 1)) = true := hw
          rw [Bool.and_eq_true] at hw'
          have z0 := of_decide_eq_true hw'.1
          have z1 := of_decide_eq_true hw'.2
          refine iteF ⟨_, rfl, _, rfl, D, _, rfl, DGet.k (k := Sum.inl z) (g2 _ _ hD2), _, rfl, ?_⟩
          rw [valV_seen]
          have step : ordGo W (.int z :: ds.drop (i + 1)) i seen = (decide (z ∉ seen) && ordGo W (ds.drop (i + 1)) (i + 1) (seen ++ [z])) := by
            show (decide (0 ≤ z) && decide (z < (began W i : Int)) && decide (z ∉ seen) && _) = _
            rw [decide_eq_true z0, decide_eq_true (show z < (began W i : Int) by omega)]; rfl
          rw [step] at ho
          by_cases hm : z ∈ seen
          · have e0 : ordD W (.tuple ds) = false := by show ordGo W ds 0 [] = false; rw [ho, decide_eq_false (by simpa using hm)]; rfl
            rw [e0] at q
            rw [decide_eq_true hm]
            exact iteT (q _ gg)
          · rw [decide_eq_false hm]
            refine iteF ⟨_, rfl, _, rfl, D, _, rfl, DPut.k (k := Sum.inl z) (g2 _ _ hD2) ?_, ?_⟩
            · show (seenK seen).length < sizeLine
              unfold seenK
              rw [List.length_map]
              exact Nat.lt_of_lt_of_le (show seen.length < 2000 by omega) (by decide)
            · refine ⟨seen ++ [z], _, _, rfl, ?_, ?_, by simp [hs], ?_⟩
              · exact gg.write hD _
              · rw [upd_same]
                have nn : valV (seenK seen) (Sum.inl z : Key) = none := by
                  have := valV_seen z seen
                  rw [decide_eq_false hm] at this
                  exact Option.isNone_iff_eq_none.mp (by simpa using this)
                rw [putK_new _ nn]
                unfold seenK
                rw [List.map_append]
                rfl
              · rw [ho, decide_eq_true hm]; rfl
        | _ => cases hw
    · rintro σ H2 ⟨seen, x, y, rfl, g, hD2, hs, ho⟩
      rw [hl, List.drop_length] at ho
      have e0 : ordD W (.tuple ds) = true := ho
      rw [e0] at q
      exact q _ g
end
end Be
set_option Elab.async false
set_option linter.all false
set_option maxRecDepth 100000
namespace L2
open PySem PySem.Spec PyProof.Rows
theorem PS.nox {X : Cx} {st : Stmt} {t : TS} (h : PS X.nox st t) : PS X st t := fun pins s σ H D I hw =>
  wpAny_mono (h pins s σ H D (I.wish _) hw) (fun f s' q => q.unwish) fun _ _ z => z.elim
end L2
namespace Be
open PySem L2
def encR (r : Ru) : PyData := .tuple [.int r.1, .int r.2.1, .int r.2.2]
theorem all_encR (rs : List Ru) : immut.all (rs.map encR) = true := by
  induction rs with
  | nil => rfl
  | cons p r ih =>
    rw [List.map_cons]
    show (immut (encR p) && immut.all (r.map encR)) = true
    rw [ih]; rfl
/-! ### what is a world, what is an order: data and things -/
theorem whole_of {d : PyData} {lo hi : Int} (h : wholeIn d lo hi = true) : ∃ i, d = .int i ∧ lo ≤ i ∧ i ≤ hi := by
  cases d with
  | int i =>
    have h' : (decide (lo ≤ i) && decide (i ≤ hi)) = true := h
    rw [Bool.and_eq_true] at h'
    exact ⟨i, rfl, of_decide_eq_true h'.1, of_decide_eq_true h'.2⟩
  | _ => cases h
theorem bow_of {d : PyData} (h : bowD d = true) : ∃ p : Int × Int, d = encB p ∧ 1 ≤ p.1 ∧ p.1 ≤ p.2 ∧ p.2 ≤ 99 := by
  unfold bowD at h
  split at h
  · rename_i i b
    rw [Bool.and_eq_true] at h
    obtain ⟨j, e, h1, h2⟩ := whole_of h.1
    cases e
    obtain ⟨k, e, h3, h4⟩ := whole_of h.2
    subst e
    exact ⟨(i, k), rfl, h1, h3, h4⟩
  · cases h
theorem bows_of : ∀ {ds : List PyData}, ds.all bowD = true → ∃ bs : List (Int × Int), ds = bs.map encB ∧ ∀ p ∈ bs, 1 ≤ p.1 ∧ p.1 ≤ p.2 ∧ p.2 ≤ 99
  | [], _ => ⟨[], rfl, fun _ z => nomatch z⟩
  | d :: r, h => by
    rw [List.all_cons, Bool.and_eq_true] at h
    obtain ⟨p, rfl, hp⟩ := bow_of h.1
    obtain ⟨bs, rfl, hb⟩ := bows_of h.2
    refine ⟨p :: bs, rfl, fun x hx => ?_⟩
    rcases List.mem_cons.mp hx with rfl | hx
    · exact hp
    · exact hb x hx
theorem isW_of {d : PyData} (h : isWD d = true) : ∃ W : Wd, W.Ok ∧ d = encW W := by
  unfold isWD at h
  split at h
  · rename_i b x
    rw [Bool.and_eq_true] at h
    obtain ⟨i, rfl, h1, h2⟩ := whole_of h.1
    have h' := h.2
    unfold arBD at h'
    split at h'
    · rename_i ds
      rw [Bool.and_eq_true, Bool.and_eq_true] at h'
      obtain ⟨bs, rfl, hb⟩ := bows_of h'.2
      have l1 := of_decide_eq_true h'.1.1
      have l2 := of_decide_eq_true h'.1.2
      rw [List.length_map] at l1 l2
      exact ⟨⟨i, bs⟩, ⟨h1, h2, l1, l2, hb⟩, rfl⟩
    · cases h'
  · cases h
theorem wholeIn_of {i lo hi : Int} (h1 : lo ≤ i) (h2 : i ≤ hi) : wholeIn (.int i) lo hi = true := by
  show (decide (lo ≤ i) && decide (i ≤ hi)) = true
  rw [decide_eq_true h1, decide_eq_true h2]; rfl
theorem bow_enc {p : Int × Int} (h : 1 ≤ p.1 ∧ p.1 ≤ p.2 ∧ p.2 ≤ 99) : bowD (encB p) = true := by
  show (wholeIn (.int p.1) 1 99 && wholeIn (.int p.2) p.1 99) = true
  rw [wholeIn_of h.1 (by omega), wholeIn_of h.2.1 h.2.2]; rfl
theorem isW_enc {W : Wd} (h : W.Ok) : isWD (encW W) = true := by
  show (wholeIn (.int W.b) 1 4 && (decide (1 ≤ (W.bs.map encB).length) && decide ((W.bs.map encB).length ≤ 10) && (W.bs.map encB).all bowD)) = true
  rw [wholeIn_of h.b1 h.b4, List.length_map, decide_eq_true h.l1, decide_eq_true h.l10]
  show (W.bs.map encB).all bowD = true
  rw [List.all_eq_true]
  intro d hd
  obtain ⟨p, hp, rfl⟩ := List.mem_map.mp hd
  exact bow_enc (h.bd p hp)
theorem ordGo_iff (W : Wd) : ∀ (ds : List PyData) (seen : List Int), VO W seen → (ordGo W ds seen.length seen = true ↔ ∃ o, ds = o.map PyData.int ∧ VO W (seen ++ o))
  | [], seen, h => ⟨fun _ => ⟨[], rfl, by rw [List.append_nil]; exact h⟩, fun _ => rfl⟩
  | d :: r, seen, h => by
    constructor
    · intro e
      unfold ordGo at e
      cases d with
      | int x =>
        have e' : (decide (0 ≤ x) && decide (x < (began W seen.length : Int)) && decide (x ∉ seen) && ordGo W r (seen.length + 1) (seen ++ [x])) = true := e
        rw [Bool.and_eq_true, Bool.and_eq_true, Bool.and_eq_true] at e'
        obtain ⟨⟨⟨a, b⟩, c⟩, f⟩ := e'
        have hx : x ∈ runM W seen := mem_run.mpr ⟨⟨of_decide_eq_true a, of_decide_eq_true b⟩, of_decide_eq_true c⟩
        have f' : ordGo W r (seen ++ [x]).length (seen ++ [x]) = true := by rw [List.length_append]; exact f
        obtain ⟨o, rfl, ho⟩ := (ordGo_iff W r (seen ++ [x]) (h.snoc hx)).mp f'
        exact ⟨x :: o, rfl, by rw [List.append_assoc] at ho; exact ho⟩
      | _ => cases e
    · rintro ⟨o, e, ho⟩
      cases o with
      | nil => cases e
      | cons x o =>
        rw [List.map_cons] at e
        injection e with e1 e2
        subst e1 e2
        have at1 := ho.at_ seen.length x (by rw [List.getElem?_append_right (Nat.le_refl _), Nat.sub_self]; rfl)
        have nm : x ∉ seen := fun z => by
          have := (List.nodup_append.mp ho.nd).2.2 x z x List.mem_cons_self
          exact this rfl
        have hx : x ∈ runM W seen := mem_run.mpr ⟨at1, nm⟩
        have ih := (ordGo_iff W (o.map PyData.int) (seen ++ [x]) (h.snoc hx)).mpr ⟨o, rfl, by rw [List.append_assoc]; exact ho⟩
        rw [List.length_append] at ih
        show (decide (0 ≤ x) && decide (x < (began W seen.length : Int)) && decide (x ∉ seen) && ordGo W (o.map PyData.int) (seen.length + 1) (seen ++ [x])) = true
        rw [decide_eq_true at1.1, decide_eq_true at1.2, decide_eq_true nm]
        exact ih
theorem ord_of {W : Wd} {d : PyData} (h : ordD W d = true) : ∃ o, d = encO o ∧ VO W o := by
  unfold ordD at h
  split at h
  · rename_i ds
    obtain ⟨o, rfl, ho⟩ := (ordGo_iff W ds [] (VO.nil W)).mp h
    exact ⟨o, rfl, ho⟩
  · cases h
section
variable {P : Program} {w : World} {K : PySem.W.Frag} {mg : Str → Option Value} {base : Heap}
def sp_co (T : Txt K mg) : Sp := fun vs H Q E => ∃ (v t : V) (d dt : PyData), vs = [v, t] ∧ Rep H v d ∧ Rep H t dt ∧ (∀ ds, dt = .tuple ds → ds.length ≤ 1000) ∧ (isWD d = false → ∀ H', Same H H' → E (.ref T.e_NoWorld.C) none H') ∧
  ∀ W : Wd, W.Ok → d = encW W → (ordD W dt = false → ∀ H', Same H H' → E (.ref T.e_NoOrder.C) none H') ∧ (ordD W dt = true → ∀ H', Same H H' → Q .non H')
theorem ok_check_order (T : Txt K mg) : FnOk P w K mg base (CXr P w) 6 T.check_order.a T.check_order.d ["world", "order"] (sp_co T) := by
  refine T.check_order.F.okR sc_check_order (fun vs H Q E h => ?_) (fun cdv A outer s H vs Q E hr h => ?_)
  · obtain ⟨v, t, d, dt, rfl, _⟩ := h; rfl
  obtain ⟨v, t, d, dt, rfl, hd, ht, hl, q1, q2⟩ := h
  refine ⟨_, (pss_cons (ps_expr (pe_call (ok_check_world T) (hr.mono (by decide)) rfl T.check_world.m T.check_world.F.kp T.check_world.b .nil passR (pa_cons (pv 0) pa_nil))) (pss_one (ps_if (pt_not (pt_val (pe_call (ok_is_order T) (hr.mono (by decide)) rfl T.is_order.m T.is_order.F.kp T.is_order.b .nil passN (pa_cons (pv 0) (pa_cons (pv 1) pa_nil))))) (pss_one (ps_raise T.e_NoOrder.m T.e_NoOrder.q PySem.F.excBase_ValueError hr.hd pe_str rfl)) pss_nil))), ?_⟩
  refine ⟨_, rfl, v, d, rfl, hd, fun hw H1 g1 => ?_, fun hw H1 g1 => q1 hw H1 g1⟩
  obtain ⟨W, hok, rfl⟩ := isW_of hw
  obtain ⟨qn, qy⟩ := q2 W hok rfl
  refine ⟨_, rfl, _, rfl, v, t, W, dt, rfl, hd.mono g1, hok, ht.mono g1, hl, fun H2 g2 => ⟨_, rfl, ?_⟩⟩
  cases ho : ordD W dt with
  | true => exact iteF (qy ho H2 (g1.trans g2))
  | false => exact iteT ⟨by show 1 ≤ sizeLine; decide, qn ho H2 (g1.trans g2)⟩
def sp_roe (K : PySem.W.Frag) : Sp := fun vs H Q _ => ∃ (v : V) (W : Wd) (x e : Int), vs = [v, .int x, .int e] ∧ Rep H v (encW W) ∧ 0 ≤ x ∧ x < (W.bs.length : Int) ∧
  ∀ (r : Addr) (H' : Hp) (ws : List V), Same H H' → H r = none → H' r = some (.lst ws) → Reps H' ws (([(e, bg W x, (bnd W x).2), (bg W x, e, -(bnd W x).1), (e - 1, e, 0)] : List Ru).map encR) → Q (.ref r) H'
theorem rep3 {H : Hp} {p : Addr} {a b c : Int} (h : H p = some (.tup [.int a, .int b, .int c])) : Rep H (.ref p) (encR (a, b, c)) := .tup h (Reps.ints (ns := [a, b, c]))
theorem ok_rules_of_ended (T : Txt K mg) : FnOk P w K mg base (CXr P w) 3 T.rules_of_ended.a T.rules_of_ended.d ["world", "work", "end"] (sp_roe K) := by
  refine T.rules_of_ended.F.okN sc_rules_of_ended (fun vs H Q E h => ?_) (fun cdv A outer s H vs Q E hr h => ?_)
  · obtain ⟨v, W, x, e, rfl, _⟩ := h; rfl
  obtain ⟨v, W, x, e, rfl, hW, h0, h1, q⟩ := h
  refine ⟨_, (pss_cons (ps_set (i := 3) sc_rules_of_ended.nd rfl (by first | exact Or.inl rfl | exact Or.inr rfl) (pe_call (ok_begin_event T) (hr.mono (by decide)) rfl T.begin_event.m T.begin_event.F.kp T.begin_event.b .nil passN (pa_cons (pv 0) (pa_cons (pv 1) pa_nil)))) (pss_one (ps_ret (pe_lst (pa_cons (pe_tup (pa_cons (pv 2) (pa_cons (pv 3) (pa_cons (pe_call (ok_greatest_length T) (hr.mono (by decide)) rfl T.greatest_length.m T.greatest_length.F.kp T.greatest_length.b .nil passN (pa_cons (pv 0) (pa_cons (pv 1) pa_nil))) pa_nil)))) (pa_cons (pe_tup (pa_cons (pv 3) (pa_cons (pv 2) (pa_cons (pe_un un_neg (pe_call (ok_least_length T) (hr.mono (by decide)) rfl T.least_length.m T.least_length.F.kp T.least_length.b .nil passN (pa_cons (pv 0) (pa_cons (pv 1) pa_nil)))) pa_nil)))) (pa_cons (pe_tup (pa_cons (pe_op op_sub (pv 2) pe_int) (pa_cons (pv 2) (pa_cons pe_int pa_nil)))) pa_nil))))))), ?_⟩
  refine ⟨_, rfl, _, rfl, v, W, x, rfl, hW, ?_⟩
  refine ⟨_, rfl, _, rfl, _, rfl, _, rfl, v, W, x, rfl, hW, h0, h1, by show 3 ≤ sizeLine; decide, fun p1 hp1 => ?_⟩
  have g1 := same_new hp1 (.tup [.int e, .int (bg W x), .int (bnd W x).2])
  refine ⟨_, rfl, _, rfl, _, rfl, _, rfl, v, W, x, rfl, hW.mono g1, h0, h1, _, rfl, by show 3 ≤ sizeLine; decide, fun p2 hp2 => ?_⟩
  have g2 := same_new hp2 (.tup [.int (bg W x), .int e, .int (-(bnd W x).1)])
  refine ⟨_, rfl, _, _, rfl, rfl, _, rfl, by show 3 ≤ sizeLine; decide, fun p3 hp3 => ?_⟩
  have g3 := same_new hp3 (.tup [.int (e - 1), .int e, .int 0])
  refine ⟨by show 3 ≤ sizeLine; decide, fun r hr' => ?_⟩
  have g4 := same_new hr' (.lst [.ref p1, .ref p2, .ref p3])
  refine q r _ _ (((g1.trans g2).trans g3).trans g4) ?_ upd_same ?_
  · exact ((g1.trans g2).trans g3).free hr'
  · exact .cons (rep3 (g4 _ _ (g3 _ _ (g2 _ _ upd_same)))) (.cons (rep3 (g4 _ _ (g3 _ _ upd_same))) (.cons (rep3 (g4 _ _ upd_same)) .nil))
def sp_ror (K : PySem.W.Frag) : Sp := fun vs H Q _ => ∃ (v : V) (W : Wd) (x : Int) (n : Nat), vs = [v, .int x, .int n] ∧ Rep H v (encW W) ∧ 0 ≤ x ∧ x < (W.bs.length : Int) ∧
  ∀ (u : V) (H' : Hp), Same H H' → Rep H' u (encR (ruleR W n x)) → Q u H'
theorem ok_rule_of_running (T : Txt K mg) : FnOk P w K mg base (CXr P w) 3 T.rule_of_running.a T.rule_of_running.d ["world", "work", "last"] (sp_ror K) := by
  refine T.rule_of_running.F.okN sc_rule_of_running (fun vs H Q E h => ?_) (fun cdv A outer s H vs Q E hr h => ?_)
  · obtain ⟨v, W, x, n, rfl, _⟩ := h; rfl
  obtain ⟨v, W, x, n, rfl, hW, h0, h1, q⟩ := h
  refine ⟨_, (pss_one (ps_ret (pe_tup (pa_cons (pv 2) (pa_cons (pe_call (ok_begin_event T) (hr.mono (by decide)) rfl T.begin_event.m T.begin_event.F.kp T.begin_event.b .nil passN (pa_cons (pv 0) (pa_cons (pv 1) pa_nil))) (pa_cons (pe_call (ok_greatest_length T) (hr.mono (by decide)) rfl T.greatest_length.m T.greatest_length.F.kp T.greatest_length.b .nil passN (pa_cons (pv 0) (pa_cons (pv 1) pa_nil))) pa_nil)))))), ?_⟩
  refine ⟨_, rfl, _, rfl, _, rfl, v, W, x, rfl, hW, _, rfl, _, rfl, v, W, x, rfl, hW, h0, h1, by show 3 ≤ sizeLine; decide, fun p hp => ?_⟩
  exact q _ _ (same_new hp _) (rep3 upd_same)
end
end Be
set_option Elab.async false
set_option linter.all false
set_option maxRecDepth 100000
namespace Be
open PySem L2
theorem int_at {o : List Int} {i : Nat} {u : V} (h : (o.map V.int)[i]? = some u) : ∃ x, u = .int x ∧ o[i]? = some x ∧ o.getD i 0 = x := by
  rw [List.getElem?_map] at h
  cases e : o[i]? with
  | none => rw [e] at h; cases h
  | some x =>
    rw [e] at h
    exact ⟨x, (Option.some.inj h).symm, rfl, by rw [List.getD_eq_getElem?_getD, e]; rfl⟩
section
variable {P : Program} {w : World} {K : PySem.W.Frag} {mg : Str → Option Value} {base : Heap}
def sp_ru (T : Txt K mg) : Sp := fun vs H Q E => ∃ (v t : V) (d dt : PyData), vs = [v, t] ∧ Rep H v d ∧ Rep H t dt ∧ (∀ ds, dt = .tuple ds → ds.length ≤ 1000) ∧ (isWD d = false → ∀ H', Same H H' → E (.ref T.e_NoWorld.C) none H') ∧
  ∀ W : Wd, W.Ok → d = encW W → (ordD W dt = false → ∀ H', Same H H' → E (.ref T.e_NoOrder.C) none H') ∧
    (∀ o, VO W o → dt = encO o → ∀ (r : Addr) (H' : Hp) (ws : List V), Same H H' → H r = none → H' r = some (.lst ws) → Reps H' ws ((rulesM W o).map encR) → Q (.ref r) H')
theorem ok_rules (T : Txt K mg) : FnOk P w K mg base (CXr P w) 7 T.rules.a T.rules.d ["world", "order"] (sp_ru T) := by
  refine T.rules.F.okR sc_rules (fun vs H Q E h => ?_) (fun cdv A outer s H vs Q E hr h => ?_)
  · obtain ⟨v, t, d, dt, rfl, _⟩ := h; rfl
  obtain ⟨v, t, d, dt, rfl, hd, ht, hln, q1, q2⟩ := h
  refine ⟨_, (pss_cons (ps_expr (pe_call (ok_check_order T) (hr.mono (by decide)) rfl T.check_order.m T.check_order.F.kp T.check_order.b .nil passR (pa_cons (pv 0) (pa_cons (pv 1) pa_nil)))) (pss_cons (ps_set (i := 2) sc_rules.nd rfl (by first | exact Or.inl rfl | exact Or.inr rfl) (pe_lst pa_nil)) (pss_cons (PS.nox (ps_for PassesOwn.never rfl (pi_enumT rfl T.n_enumerate (pa_cons (pv 1) pa_nil)) (pg_tup rfl (pgs_cons (pg_name (i := 3) sc_rules.nd rfl (by first | exact Or.inl rfl | exact Or.inr rfl)) (pgs_cons (pg_name (i := 4) sc_rules.nd rfl (by first | exact Or.inl rfl | exact Or.inr rfl)) pgs_nil))) (pss_one (ps_expr (pe_bm PySem.F.plainAttrs_list PySem.F.slot_list_extend PySem.F.type_list_extend mt_extend (pv 2) (pa_cons (pe_call (ok_rules_of_ended T) (hr.mono (by decide)) rfl T.rules_of_ended.m T.rules_of_ended.F.kp T.rules_of_ended.b .nil passN (pa_cons (pv 0) (pa_cons (pv 4) (pa_cons (pe_op op_add (pv 3) pe_int) pa_nil)))) pa_nil)))))) (pss_cons (PS.nox (ps_for PassesOwn.never rfl (pi_list (pe_call (ok_running T) (hr.mono (by decide)) rfl T.running.m T.running.F.kp T.running.b .nil passN (pa_cons (pv 0) (pa_cons (pv 1) pa_nil)))) (pg_name (i := 4) sc_rules.nd rfl (by first | exact Or.inl rfl | exact Or.inr rfl)) (pss_one (ps_expr (pe_bm PySem.F.plainAttrs_list PySem.F.slot_list_append PySem.F.type_list_append mt_append (pv 2) (pa_cons (pe_call (ok_rule_of_running T) (hr.mono (by decide)) rfl T.rule_of_running.m T.rule_of_running.F.kp T.rule_of_running.b .nil passN (pa_cons (pv 0) (pa_cons (pv 4) (pa_cons (pe_callB call_len_seq rfl T.n_len bt_len (pa_cons (pv 1) pa_nil)) pa_nil)))) pa_nil)))))) (pss_one (ps_ret (pv 2))))))), ?_⟩
  refine ⟨_, rfl, _, rfl, v, t, d, dt, rfl, hd, ht, hln, q1, fun W hok e => ⟨(q2 W hok e).1, fun hy H1 g1 => ?_⟩⟩
  subst e
  obtain ⟨o, rfl, vo⟩ := ord_of hy
  have q := (q2 W hok rfl).2 o vo rfl
  have l10 := hok.l10
  have vl := vo.len
  obtain ⟨po, rfl, hpo⟩ := seqO (K := K) ht
  -- told = []
  refine ⟨Nat.zero_le _, fun l hl => ?_⟩
  have gl := g1.trans (same_new hl (.lst []))
  have fl : H l = none := g1.free hl
  refine ⟨_, rfl, po, _, rfl, SqT.of (gl _ _ hpo), for_enumT (K := K) (a := po) (xs := o.map V.int) (fun i σ H2 => ∃ (ws : List V) (x y : Option V), σ = [some v, some (.ref po), some (.ref l), x, y] ∧ Same H H2 ∧ H2 l = some (.lst ws) ∧ Reps H2 ws ((rulesPre W o i).map encR)) ?_ ?_ ?_ ?_⟩
  · exact ⟨[], none, none, rfl, gl, upd_same, .nil⟩
  · rintro i σ H2 _ ⟨ws, x, y, rfl, g, _⟩
    exact SqT.of (g _ _ hpo)
  · rintro i u p σ H2 hu hp ⟨ws, x, y, rfl, g, hl2, rs⟩
    obtain ⟨z, rfl, hz, hzd⟩ := int_at hu
    have hi : i < o.length := (List.getElem?_eq_some_iff.mp hz).1
    have zb := vo.lt (List.mem_of_getElem? hz)
    have g2 := same_new hp (.tup [.int i, .int z])
    have gg := g.trans g2
    refine ⟨p, _, rfl, SqT.of upd_same, rfl, _, _, rfl, _, _, rfl, rfl, ?_⟩
    refine ⟨_, rfl, .inl ⟨rfl, _, SqL.of (g2 _ _ hl2)⟩, _, rfl, _, rfl, _, rfl, _, _, rfl, rfl, v, W, z, (i : Int) + 1, rfl, hd.mono gg, zb.1, zb.2, fun r H3 w3 g3 fr3 hr3 rs3 => ?_⟩
    have hl3 : H3 l = some (.lst ws) := g3 _ _ (g2 _ _ hl2)
    refine ⟨l, r, ws, w3, rfl, rfl, hl3, hr3, ?_, ?_⟩
    · rw [rs.length, rs3.length, List.length_map, List.length_map, rulesPre_len]
      exact Nat.le_trans (show 3 * i + 3 ≤ 100 by omega) (by decide)
    refine ⟨ws ++ w3, _, _, rfl, (gg.trans g3).write fl _, upd_same, ?_⟩
    rw [rulesPre_succ, List.map_append, hzd]
    have ts : TSame H3 (upd H3 l (.lst (ws ++ w3))) := TSame.lst hl3 _
    have e3 : ([((i : Int) + 1, bg W z, (bnd W z).2), (bg W z, (i : Int) + 1, -(bnd W z).1), ((i : Int) + 1 - 1, (i : Int) + 1, 0)] : List Ru) = rule3 W i z := by
      unfold rule3
      rw [show (i : Int) + 1 - 1 = i by omega]
    rw [e3] at rs3
    exact ((rs.mono (g2.trans g3)).tmono ts (all_encR _)).append (rs3.tmono ts (all_encR _))
  · rintro σ H2 ⟨ws, x, y, rfl, g, hl2, rs⟩
    rw [List.length_map] at rs
    -- for work in running(world, order)
    refine ⟨_, rfl, _, rfl, v, po, W, o, rfl, hd.mono g, hok, .inr (SqT.of (g _ _ hpo)), by omega, fun r H3 g3 fr3 hr3 => ?_⟩
    have hrl : r ≠ l := fun z => by rw [z, hl2] at fr3; cases fr3
    have fr : H r = none := g.free fr3
    have rl := run_len W o
    refine ⟨r, rfl, ⟨_, SqL.of hr3⟩, for_list (K := K) (a := r) (xs := (runM W o).map V.int) (fun i σ H4 => ∃ (ws : List V) (x y : Option V), σ = [some v, some (.ref po), some (.ref l), x, y] ∧ Same H H4 ∧ H4 l = some (.lst ws) ∧ H4 r = some (.lst ((runM W o).map V.int)) ∧ Reps H4 ws ((rulesPre W o o.length ++ ((runM W o).take i).map (ruleR W o.length)).map encR)) ?_ ?_ ?_ ?_⟩
    · refine ⟨ws, x, y, rfl, g.trans g3, g3 _ _ hl2, hr3, ?_⟩
      show Reps H3 ws ((rulesPre W o o.length ++ []).map encR)
      rw [List.append_nil]
      exact rs.mono g3
    · rintro i σ H4 _ ⟨ws, x, y, rfl, g4, hl4, hr4, _⟩
      exact SqL.of hr4
    · rintro i u σ H4 hu ⟨ws, x, y, rfl, g4, hl4, hr4, rs4⟩
      obtain ⟨z, rfl, hz, hzd⟩ := int_at hu
      have zr := mem_run.mp (List.mem_of_getElem? hz)
      have zb : 0 ≤ z ∧ z < (W.bs.length : Int) := by have := began_le W o.length; omega
      have hi : i < (runM W o).length := (List.getElem?_eq_some_iff.mp hz).1
      refine ⟨_, rfl, .inl ⟨rfl, _, SqL.of hl4⟩, _, rfl, _, rfl, _, rfl, po, _, rfl, .inr (SqT.of (g4 _ _ hpo)), v, W, z, _, rfl, hd.mono g4, zb.1, zb.2, fun u5 H5 g5 ru5 => ?_⟩
      have hl5 := g5 _ _ hl4
      refine ⟨l, ws, u5, rfl, rfl, hl5, ?_, ?_⟩
      · rw [rs4.length, List.length_map, List.length_append, rulesPre_len, List.length_map, List.length_take]
        exact Nat.lt_of_lt_of_le (show _ < 100 by omega) (by decide)
      rw [List.length_map] at ru5
      have ts : TSame H5 (upd H5 l (.lst (ws ++ [u5]))) := TSame.lst hl5 _
      refine ⟨ws ++ [u5], _, _, rfl, (g4.trans g5).write fl _, upd_same, ?_, ?_⟩
      · rw [upd_ne hrl]; exact g5 _ _ hr4
      · rw [List.take_add_one, hz]
        show Reps _ _ ((rulesPre W o o.length ++ ((runM W o).take i ++ [z]).map (ruleR W o.length)).map encR)
        rw [show (rulesPre W o o.length ++ ((runM W o).take i ++ [z]).map (ruleR W o.length)).map encR = (rulesPre W o o.length ++ ((runM W o).take i).map (ruleR W o.length)).map encR ++ [encR (ruleR W o.length z)] by simp]
        exact ((rs4.mono g5).tmono ts (all_encR _)).append (Reps.one (ru5.tmono ts (by rfl)))
    · rintro σ H4 ⟨ws, x, y, rfl, g4, hl4, hr4, rs4⟩
      rw [List.length_map, List.take_length] at rs4
      exact ⟨_, rfl, q l H4 ws g4 fl hl4 rs4⟩
end
end Be
set_option Elab.async false
set_option linter.all false
set_option maxRecDepth 100000
/-! isinstance of an error of the program's own. -/
namespace L2
open PySem PySem.Spec PySem.W PyProof.Rows Builtin Builtin.ObjectAttr Builtin.Getset_descriptor
/-- what is asked of an own error class -/
structure ExcK (K : PySem.W.Frag) (C : Addr) : Prop where
  ga : findIn K (.ref C) "__getattribute__" = some (some (.builtin "BaseException.__getattribute__"))
  gt : findIn K (.ref C) "__getattr__" = some none
  cl : findIn K (.ref C) "__class__" = some (some (.builtin "object.__class__"))
  mo : mroIn K C (.type "object") = some true
  mb : mroIn K C (.type "BaseException") = some true
  is : (clsIn K C).isSome = true
section
variable {prog : Program} {w : World} {A : Around} {E : Value → Shared → Prop} {h : Heap} {g : Array GenState} {d : Drawn} {t : Nat} {os : OsState} {K : PySem.W.Frag} {a C : Addr} {o : Obj} {vs : Array Value}
theorem xc_type {M : Model} (hx : h.get? a = some o) (hc : o.cls = .ref C) : Looks M h (typeOf (.ref a)) (.ref C) := hc ▸ (Looks.ld hx).andThen .now
theorem xc_get {R : Result → Shared → Prop} {tp : Value} (X : K.In h) (k : ExcK K C) (hx : h.get? a = some o) (hc : o.cls = .ref C) (hq : R (.ok (.ret (.ref C))) ⟨h, g, d, t, os⟩) :
    codeAny (model prog w) A (.call (.builtin "getset_descriptor.__get__") ⟨[.builtin "object.__class__", .ref a, tp], []⟩) R ⟨h, g, d, t, os⟩ := by
  have L0 := xc_type (M := model prog w) hx hc
  have L1 := looks_mroIn (M := model prog w) X k.mo
  refine codeAny_call_builtin KF.slot_gs.plain KF.entry_gs (KF.slot_gs.check _ _ _ _ _ _ _ _ KF.type_class (KF.args_gs _ _ _) ?_)
  unfold Builtin.«getset_descriptor.__get__» descrGet
  rw [dga_obj]
  refine wpAny_bind (wpAny_pure ?_)
  unfold descrGetter descrCheckInstance descrNameAndClass isInstance
  simp only [KF.owner_class]
  repeat lk
  refine ⟨Code.quiet_builtin _ (by decide +kernel), codeAny_builtin KF.entry_class ?_⟩
  unfold Builtin.«object.__class__» shownTypeOf
  repeat lk
  exact hq
theorem xc_entry {tk : Tok} {Q : Fin → Shared → Prop} (X : K.In h) (k : ExcK K C) (hx : h.get? a = some o) (hc : o.cls = .ref C) (hq : Q (.done (.ret (.ref C))) ⟨h, g, d, t, os⟩) :
    wpAny (model prog w) A (Builtin.«object.__getattribute__» ⟨[.ref a, .str "__class__" tk], []⟩) Q E ⟨h, g, d, t, os⟩ := by
  have hT5 : (⟨h, g, d, t, os⟩ : Shared).TypeIs (.builtin "object.__class__") "getset_descriptor" := F.typeOf_object_class
  have f5 := F.typeOf_object_class
  have f6 := F.slot_gs_get.lookup
  have f7 := F.slot_gs_set.lookup
  have L2 := looks_findIn (M := model prog w) X k.cl
  repeat (any_goals (first | assumption | (with_reducible refine wpAny_loadPart_at hx ?_; rw [hc]) | with_reducible refine Looks.at L2 ?_ | wp_step))
  refine xc_get X k hx hc ?_
  repeat (any_goals (first | assumption | wp_step))
theorem xc_check {M : Model} {nameV : Value} {Q : Unit → Shared → Prop} (X : K.In h) (k : ExcK K C) (hx : h.get? a = some o) (hc : o.cls = .ref C) (hq : Q () ⟨h, g, d, t, os⟩) : wpAny M A (checkBuiltinCall "BaseException.__getattribute__" ⟨[.ref a, nameV], []⟩) Q E ⟨h, g, d, t, os⟩ := by
  have e1 : builtinKind "BaseException.__getattribute__" = some .slot := by decide +kernel
  have e2 : splitId "BaseException.__getattribute__" = some ("BaseException", "__getattribute__") := by decide +kernel
  have L3 := looks_mroIn (M := M) X k.mb
  have ha := F.args_bexc_ga (.ref a) nameV
  simp only [checkBuiltinCall, e1, e2]
  refine wpAny_bind ?_
  unfold isInstance
  repeat (first | (with_reducible refine wpAny_loadPart_at hx ?_; rw [hc]) | with_reducible refine Looks.at L3 ?_ | wp_step)
  exact hq
theorem xc_call {tk : Tok} {R : Result → Shared → Prop} (X : K.In h) (k : ExcK K C) (hx : h.get? a = some o) (hc : o.cls = .ref C) (hq : R (.ok (.ret (.ref C))) ⟨h, g, d, t, os⟩) :
    codeAny (model prog w) A (.call (.builtin "BaseException.__getattribute__") ⟨[.ref a, .str "__class__" tk], []⟩) R ⟨h, g, d, t, os⟩ :=
  codeAny_call_builtin F.attr_ValueError.ga.plain F.entry_bexc_ga (xc_check X k hx hc (xc_entry X k hx hc hq))
theorem xc_by {tk : Tok} {fill expr : Bool} {Q : Value → Shared → Prop} (X : K.In h) (k : ExcK K C) (hx : h.get? a = some o) (hc : o.cls = .ref C) (hq : Q (.ref C) ⟨h, g, d, t, os⟩) :
    wpAny (model prog w) A (getAttrBy (.ref a) (.str "__class__" tk) fill expr) Q E ⟨h, g, d, t, os⟩ := by
  have f3 := F.attr_ValueError.ga.bind (.ref a)
  have hx0 : (expr && onTheHeap (Value.builtin "BaseException.__getattribute__")) = false := by cases expr <;> rfl
  have hx2 : (Value.builtin "BaseException.__getattribute__" == Value.builtin "object.__getattribute__") = false := by decide +kernel
  have hx1 : (onTheHeap (Value.ref C) && Value.builtin "BaseException.__getattribute__" == Value.builtin "object.__getattribute__") = false := by rw [hx2]; rfl
  have L4 := looks_findIn (M := model prog w) X k.ga
  have L5 := looks_findIn (M := model prog w) X k.gt
  repeat (any_goals (first | assumption | (with_reducible refine wpAny_loadPart_at hx ?_; rw [hc]) | with_reducible refine Looks.at L4 ?_ | with_reducible refine Looks.at L5 ?_ | wp_step))
  refine xc_call X k hx hc ?_
  repeat (any_goals (first | assumption | wp_step))
theorem xc_attr {Q : Option Value → Shared → Prop} (X : K.In h) (k : ExcK K C) (hx : h.get? a = some o) (hc : o.cls = .ref C) (hq : Q (some (.ref C)) ⟨h, g, d, t + 1, os⟩) :
    wpAny (model prog w) A (getAttr? (.ref a) "__class__") Q E ⟨h, g, d, t, os⟩ := by
  unfold getAttr? getAttrBy?
  refine wpAny_bind (wpAny_mkText (wpAny_bind (wpAny_attempt ?_)))
  exact xc_by X k hx hc (wpAny_pure hq)
end
/-- an error of the own class C stands at a -/
def XAt (a C : Addr) (h : Heap) : Prop := ∃ o, h.get? a = some o ∧ o.cls = .ref C
theorem kitx_exc {K : PySem.W.Frag} {a C : Addr} (k : ExcK K C) : KitX K (.ref a) (.ref C) (XAt a C) where
  ty := fun _ _ _ ⟨o, hx, hc⟩ => xc_type hx hc
  it := fun _ _ X _ => by
    obtain ⟨cd, e⟩ := Option.isSome_iff_exists.mp k.is
    unfold clsIn at e
    split at e
    · rename_i look
      intro A' Q' E' s' kk q
      unfold isType loadHead
      exact wpAny_bind (wpAny_loadPart (kk _ _ (X _ _ look)) (wpAny_pure q))
    · cases e
  ne := fun h tp dd its n sl X htp => by
    obtain ⟨cd, e⟩ := Option.isSome_iff_exists.mp k.is
    refine Bool.eq_false_iff.mpr fun q => ?_
    have e2 : C = tp := Value.ref.inj (beq_iff_eq.mp q)
    subst e2
    unfold clsIn at e
    split at e
    · rename_i look
      have z := (X _ _ look).symm.trans htp
      cases z
    · cases e
  ca := fun {prog w A E Q s} X ⟨o, hx, hc⟩ q => by
    obtain ⟨h, g, d, t, os⟩ := s
    exact xc_attr X k hx hc q
end L2
set_option Elab.async false
set_option linter.all false
set_option maxRecDepth 100000
/-! An own error caught: try .. except Base as e: return f(e). -/
namespace L2
open PySem PySem.Spec PyProof.Rows
/-! ### an error as a tracked thing -/
def excO (p C : Addr) : HO := .ext (XAt p C)
theorem excO_ok {P : Program} {w : World} {H : Hp} {h : Heap} {p C : Addr} (x : XAt p C h) : ObjOk P w H h p (excO p C) :=
  ⟨x, let ⟨o, e, _⟩ := x; ⟨o, e⟩, fun _ _ ⟨o, e, c⟩ k => ⟨o, k o e, c⟩⟩
theorem call_isx {X : Cx} : CallR X (.builtin "isinstance") (fun xs H Q => ∃ (p C : Addr) (c : V) (t : Value) (b : Bool), xs = [.ref p, c] ∧ H p = some (excO p C) ∧ ExcK X.K C ∧ (∀ u, RelV c u → u = t) ∧ PySem.W.kitOne X.K (.ref C) t = some b ∧ Q (.bl b) H) := by
  intro pins s σ H xs us Q I rs h
  obtain ⟨p, C, c, t, b, e, hp, k, ht, hk, q⟩ := h
  subst e
  obtain ⟨u, u2, rfl, ru, ru2⟩ := Vals.two rs
  cases (show u = Value.ref p from ru)
  cases ht u2 ru2
  have x : XAt p C s.heap := (I.hok p _ hp).1
  exact PySem.W.kia_one (kitx_exc k) I.kIn x hk (fun z => nomatch z) fun tk => ⟨.bl b, H, I.tok tk, rfl, q⟩
/-! ### an own class is caught by an own class above it -/
section
variable {M : Model} {A : Around} {E : Value → Shared → Prop} {h : Heap} {g : Array GenState} {d : Drawn} {t : Nat} {os : OsState}
variable {nm q nm2 q2 : Str} {C N D N2 : Addr} {bs bm bs2 bm2 : List Value} {hdct hdct2 : Bool} {sn sn2 : List Str} {sub sub2 : List Value} {ab ab2 : Bool} {col col2 : Option Bool} {dd dd2 : Option Addr} {k0 k1 k2 k3 k5 j0 j1 j2 j3 j5 : Option Value} {newId newId2 : String}
theorem excMatches_above {e : Addr} {oe : Obj} {Q : Bool → Shared → Prop} (hC : h.get? C = some (excClassObj nm q C N bs bm hdct sn sub ab col dd k0 k1 k2 k3 k5 newId)) (hD : h.get? D = some (excClassObj nm2 q2 D N2 bs2 bm2 hdct2 sn2 sub2 ab2 col2 dd2 j0 j1 j2 j3 j5 newId2))
    (he : h.get? e = some oe) (hcls : oe.cls = .ref C) (hb : (Value.ref D :: bm2).contains (.type "BaseException") = true) (hs : (Value.ref C :: bm).contains (.ref D) = true) (hq : Q true ⟨h, g, d, t, os⟩) : wpAny M A (excMatches (.ref e) (.ref D)) Q E ⟨h, g, d, t, os⟩ := by
  have f := tc_notTuple
  unfold excMatches
  repeat (first | (with_reducible refine wpAny_loadPart_at he ?_; rw [hcls]) | with_reducible refine wpAny_loadPart_at hD ?_ | (with_reducible refine wpAny_isSubtype_exc hD ?_; rw [hb]) | (with_reducible refine wpAny_isSubtype_exc hC ?_; rw [hs]) | wp_step)
  exact hq
theorem own_mro {K : PySem.W.Frag} {base : Value} {r : Bool} (X : K.In h) (hC : h.get? C = some (excClassObj nm q C N bs bm hdct sn sub ab col dd k0 k1 k2 k3 k5 newId)) (e : PySem.W.mroIn K C base = some r) : (Value.ref C :: bm).contains base = r := by
  obtain ⟨cd, a, b⟩ := Option.bind_eq_some_iff.mp e
  unfold PySem.W.clsIn at a
  split at a
  · rename_i look
    have z := X _ _ look
    rw [hC] at z
    cases a
    injection z with z
    injection z with _ _ z3 _
    injection z3 with z3
    subst z3
    split at b
    · cases b
    · exact Option.some.inj b
  · cases a
end
/-! ### a call while an error is handled -/
structure RoomH (k : Nat) (A : Around) : Prop where
  dp : A.depth + 3 * k + 5 < recursionLimit
  un : A.units + 16 * k + 200 < cLine
theorem Room.h {k : Nat} {A : Around} (r : Room k A) : RoomH k A := ⟨r.dp, r.un⟩
theorem RoomH.mono {j k : Nat} {A : Around} (r : RoomH k A) (h : j ≤ k) : RoomH j A := ⟨by have := r.dp; omega, by have := r.un; omega⟩
theorem RoomH.deeper {k : Nat} {A : Around} (r : RoomH (k + 1) A) (env : Env) : RoomH k (A.deeper env) := ⟨by have := r.dp; show A.depth + 1 + 3 * k + 5 < _; omega, by have := r.un; show A.units + 3 + 16 * k + 200 < _; omega⟩
theorem RoomH.depth {k : Nat} {A : Around} (r : RoomH k A) : A.depth < recursionLimit := by have := r.dp; omega
theorem RoomH.mark {k : Nat} {A : Around} (r : RoomH k A) (v : Option Value) : RoomH k (A.mark v) := ⟨r.dp, r.un⟩
structure FnOkH (P : Program) (w : World) (K : PySem.W.Frag) (mg : Str → Option Value) (base : Heap) (k : Nat) (f : Addr) (fd : FuncData) (ps : List Str) (sp : Sp) : Prop where
  len : ∀ vs H Q E, sp vs H Q E → vs.length = ps.length
  run : ∀ (A : Around) (outer : List Env) (s : Shared) (H : Hp) (args : Args) (us : List Value) (vs : List V) (Q : VK) (E : XK), RoomH k A → Env0 P w K mg base A outer s H → BindsTo s fd args (ps.zip us) → Vals vs us → sp vs H Q E →
    codeAny (model P w) A (.call (.ref f) args) (CR (CXr P w) outer P w H s Q E) s
section
variable {P : Program} {w : World} {K : PySem.W.Frag} {mg : Str → Option Value} {base : Heap}
def cxH (P : Program) (w : World) (K : PySem.W.Frag) (mg : Str → Option Value) (base : Heap) (N : List Str) (qual : Str) (scope : Scope) (f : Addr) (cd : Value) (A : Around) (outer : List Env) (s : Shared) (H : Hp) : Cx :=
  { cxOf (CXr P w) P w K mg base N qual scope f cd A outer s H E0 with calm := false, xe := fun _ _ => False }
theorem inv_startH {N ps : List Str} {qual : Str} {scope : Scope} {f : Addr} {cd : Value} {A : Around} {outer : List Env} {s s1 : Shared} {H : Hp} {us : List Value} {vs : List V} (S : FnScope N ps scope) (e0 : Env0 P w K mg base A outer s H) (hl : vs.length = ps.length) (r : Vals vs us)
    (x : InCallC s s.heap.objs.size (bindL (envOfC qual scope s.heap.objs.size f cd).kindOf (ps.zip us) fun _ => none) (cellsFrom (s.heap.objs.size + 1) scope.names []) (bindC (envOfC qual scope s.heap.objs.size f cd).kindOf (ps.zip us) fun _ => none) s1) :
    Inv (cxH P w K mg base N qual scope f cd A outer s H) [] (start N vs) H s1 := by
  have e1 : Env0 P w K mg base { A with handled := none } outer s H := ⟨e0.frames, e0.mod, e0.bs, e0.bsz, e0.funs, e0.frf, e0.hok, e0.bare⟩
  have I := inv_start (CX := CXr P w) (E := E0) (A := { A with handled := none }) S rfl e1 hl r x
  exact ⟨⟨I.ok.mod, I.ok.kind, I.ok.glob, I.ok.blt, I.ok.above, I.ok.inj, I.ok.has, I.ok.cab, fun z => (by cases z), I.ok.frames, I.ok.stk, I.ok.exf, I.ok.bs, I.ok.bsz, I.ok.noex, I.ok.exfs, I.ok.funs, I.ok.frf⟩, I.os, I.bare, I.base, I.loc, I.cell, I.free, I.freeC, I.pin, I.hok, I.len⟩
theorem Fun.okH {x qual : Str} {st : Stmt} {f : Addr} {fd : FuncData} {N ps : List Str} {k : Nat} {sp : Sp} (F : Fun K x qual st f fd) (S : FnScope N ps (defScope st)) (len : ∀ vs H Q E, sp vs H Q E → vs.length = ps.length)
    (hbody : ∀ (cdv : Value) (A : Around) (outer : List Env) (s : Shared) (H : Hp) (vs : List V) (Q : VK) (E : XK), RoomH k (A.deeper (envOfC qual (defScope st) s.heap.objs.size f cdv)) → sp vs H Q E →
      ∃ t, PSs (cxH P w K mg base N qual (defScope st) f cdv A outer s H) (defBody st) t ∧ t { nx := fun _ H' => Q .non H', rt := Q } (start N vs) H) : FnOkH P w K mg base (k + 1) f fd ps sp := by
  obtain ⟨oc, od, kV, doc, pm, an, cdv, ct, osl, rfl, lk, hcd⟩ := F.ex
  refine ⟨len, fun A outer s H args us vs Q E hr e0 hb r hsp => ?_⟩
  have hl := len _ _ _ _ hsp
  have KX : K.In s.heap := e0.mod.kin.keeps fun b o e => (e0.bs b o e).1
  have lim : s.heap.NoLimit := e0.mod.nolimit.keeps fun b o e => (e0.bs b o e).1
  have hkind : ∀ y ∈ ps.zip us, (defScope st).names.lookup y.1 = some .local ∨ ((defScope st).names.lookup y.1 = some .cell ∧ ((cellsFrom (s.heap.objs.size + 1) (defScope st).names []).lookup y.1).isSome = true) := fun ⟨n, v⟩ hy => by
    rcases S.par n (List.of_mem_zip hy).1 with q | q
    · exact .inl q
    · exact .inr ⟨q, PySem.W.cellsFrom_some _ _ _ (.inl q)⟩
  refine codeAny_call_function hr.depth (KX _ _ lk) rfl S.co S.gen rfl (PySem.W.codeRec_of KX hcd) (hb _ _ _ _ ?_)
  refine wpAny_newFunctionEnv_cells S.kind hkind fun env he s1 x => ?_
  subst he
  refine ⟨lim.keeps x.toInCall.keep, codeAny_func ?_⟩
  obtain ⟨t, ht, hq⟩ := hbody cdv A outer s H vs Q E (hr.deeper _) hsp
  have I : Inv (cxH P w K mg base N qual (defScope st) f cdv A outer s H) [] (start N vs) H s1 := inv_startH S e0 hl r x
  refine wpAny_mono (ht [] s1 (start N vs) H _ I hq) (fun fl s' hs => ?_) fun e s' z => z.elim
  have fin : ∀ {σ' : St} {H' : Hp} {v : V} {u : Value}, Inv (cxH P w K mg base N qual (defScope st) f cdv A outer s H) [] σ' H' s' → RelV v u → Q v H' → CE outer P w H s Q u s' :=
    fun {σ' H' v u} J rv q => ⟨v, H', J.os, J.bare, J.base, J.hok, rv, q⟩
  cases fl with
  | ret u => obtain ⟨v, σ', H', J, rv, q⟩ := hs; exact fin J rv q
  | next => obtain ⟨σ', H', J, q⟩ := hs; exact fin (v := V.non) (u := Value.none) J rfl q
  | brk => obtain ⟨_, _, _, q⟩ := hs; exact False.elim q
  | cont => obtain ⟨_, _, _, q⟩ := hs; exact False.elim q
end
section
variable {X : Cx} {k : Nat} {f : Addr} {fd : FuncData} {ps : List Str} {sp : Sp} {x : Str} {p pos : Pos} {e : Expr} {es : List Expr} {t : TA}
theorem pe_callH (F : FnOkH X.prog X.w X.K X.mg X.base k f fd ps sp) (hr : RoomH k X.A) (hg : Gl X x) (hm : X.mg x = some (.ref f)) (hk : PySem.W.keepIn X.K (.ref f) = true) (hb : Binds X.K fd ps []) (ha : PA X (e :: es) t)
    (hdb : (x == ("__debug__" : Str)) = false := by decide) (he : starEach (e :: es) X.env = (false, eval e X.env) :: starEach es X.env := by rfl) (hpl : (backTo pos (starEach es X.env)).any (·.1) = false := by rfl) :
    PE X (.Call (.Name x p) (e :: es) [] pos) (tCall sp [] E0 t) := by
  intro pins s σ H Q I h
  refine wpAny_Call_Name_kw (ld_glob I hg hm ?_ hdb)
  refine PySem.W.callWith_K (h₀ := X.base) I.ok.mod.kin hk (thn (ha pos pins s σ H _ I h) fun us s1 ⟨vs, H1, I1, r, q⟩ => ⟨I1.kIn, ?_⟩) he hpl
  have r2 : Vals (vs ++ []) (us ++ []) := r.append .nil
  have hl : (us ++ []).length = ps.length := by rw [← r2.length]; exact F.len _ _ _ _ q
  refine wpAny_call (codeAny_mono (F.run X.A X.stack s1 H1 ⟨us, []⟩ (us ++ []) (vs ++ []) Q E0 hr I1.env0 (hb s1 us I1.kIn hl) r2 q) fun r s' hq => ?_)
  cases r with
  | error e => obtain ⟨_, _, _, _, _, _, _, z⟩ := hq; exact False.elim z
  | ok fl =>
    cases fl with
    | ret u => exact I1.after hq
    | next => exact False.elim hq
    | brk => exact False.elim hq
    | cont => exact False.elim hq
end
/-! ### within the handler -/
abbrev Cx.inH (X : Cx) (e : Value) : Cx := { X with A := X.A.mark (some e), calm := false, xe := fun _ _ => False }
section
variable {X : Cx} {pins : List (Addr × Obj)} {σ : St} {H : Hp} {s : Shared}
theorem Inv.inH (I : Inv X pins σ H s) (e : Value) : Inv (X.inH e) pins σ H s :=
  ⟨⟨I.ok.mod, I.ok.kind, I.ok.glob, I.ok.blt, I.ok.above, I.ok.inj, I.ok.has, I.ok.cab, fun z => (by cases z), I.ok.frames, I.ok.stk, I.ok.exf, I.ok.bs, I.ok.bsz, I.ok.noex, I.ok.exfs, I.ok.funs, I.ok.frf⟩, I.os, I.bare, I.base, I.loc, I.cell, I.free, I.freeC, I.pin, I.hok, I.len⟩
theorem Inv.outH {e : Value} (ok : X.Ok) (I : Inv (X.inH e) pins σ H s) : Inv X pins σ H s := ⟨ok, I.os, I.bare, I.base, I.loc, I.cell, I.free, I.freeC, I.pin, I.hok, I.len⟩
/-- an untracked new thing is tracked -/
theorem Inv.track {a : Addr} {o : HO} (I : Inv X pins σ H s) (hn : H a = none) (h0 : ∀ ob, X.s₀.heap.get? a ≠ some ob) (hl : a ≠ X.env.locals) (hc : ∀ x c, X.env.cells.lookup x = some c → c ≠ a) (hp : ∀ p ∈ X.pn ++ pins, p.1 ≠ a)
    (new : ObjOk X.prog X.w (upd H a o) s.heap a o) : Inv X pins σ (upd H a o) s := by
  have up : ∀ b u, H b = some u → upd H a o b = some u := fun b u q => by rw [upd_ne (ne_of_none q hn)]; exact q
  refine ⟨I.ok, I.os, I.bare, ⟨I.base.keep, I.base.slot, fun b ob e n hx => ?_, I.base.there, fun b xs e => up b _ (I.base.tups b xs e), fun b u v e => up b _ (I.base.frzs b u v e), fun b ps e => ?_⟩, I.loc, I.cell, ?_, fun x c e => ?_, fun p hp' => ?_, fun b u e => ?_, I.len⟩
  · rw [upd_ne (fun z => h0 ob (by rw [← z]; exact e))]; exact I.base.free b ob e n hx
  · obtain ⟨more, q⟩ := I.base.tbls b ps e
    exact ⟨more, up b _ q⟩
  · rw [upd_ne (Ne.symm hl)]; exact I.free
  · rw [upd_ne (hc x c e)]; exact I.freeC x c e
  · obtain ⟨q1, q2, q3⟩ := I.pin p hp'
    exact ⟨q1, by rw [upd_ne (hp p hp')]; exact q2, q3⟩
  · by_cases z : b = a
    · subst z
      rw [upd_same] at e
      cases e
      exact new
    · rw [upd_ne z] at e
      exact (I.hok b u e).stay (fun _ _ _ q => q) (fun c q => up c _ q) fun c xs q => up c _ q
/-- the frame's names are forgotten -/
theorem Inv.forget {h' : Heap} {m : Str → Option Value} {t : Nat} (I : Inv X pins σ H s) (hm : h'.Ns X.env.locals m) (sb : Heap.SameBut X.env.locals s.heap h') : Inv X pins (List.replicate X.N.length none) H { s with heap := h', toks := t } := by
  refine ⟨I.ok, I.os, I.bare, I.base.but I.ok.above sb, ⟨m, hm, fun i x v e1 e2 e3 => ?_⟩, fun x c e => ?_, I.free, I.freeC, fun p hp => ?_, I.hok.but I.free sb, List.length_replicate⟩
  · rw [List.getElem?_replicate] at e2
    split at e2 <;> cases e2
  · obtain ⟨v, z⟩ := I.cell x c e
    exact ⟨v, z.sameBut sb (I.cne x c e)⟩
  · obtain ⟨q1, q2, q3, q4⟩ := I.pin p hp
    exact ⟨(sb.2 p.1 q3).trans q1, q2, q3, q4⟩
end
end L2
set_option Elab.async false
set_option linter.all false
set_option maxRecDepth 100000
namespace L2
open PySem PySem.Spec PyProof.Rows
section
variable {P : Program} {w : World} {K : PySem.W.Frag} {mg : Str → Option Value} {base : Heap} {N : List Str} {qual : Str} {scope : Scope} {f : Addr} {cd : Value} {A : Around} {outer : List Env} {s : Shared} {H : Hp} {E : XK}
/-- the statement: try: body; except Base as n: return which(n) -/
abbrev tryStmt (body : List Stmt) (xB xW n : Str) (np wp wp2 cpos rpos hpos pos : Pos) : Stmt :=
  .Try body [.ExceptHandler (some (.Name xB np)) (some n) [.Return (some (.Call (.Name xW wp) [.Name n wp2] [] cpos)) rpos] hpos] [] [] pos
theorem try_ok {body : List Stmt} {tb : XK → TS} {xB xW n pn : Str} {np wp wp2 cpos rpos hpos pos : Pos} {j kW : Nat} {Dc fW : Addr} {fdW : FuncData} {spW : Sp} {bmB : List Value} {newId : String}
    (hb : ∀ (E' : XK) (xe' : Value → Shared → Prop), Passes (CXr P w) ((cxOf (CXr P w) P w K mg base N qual scope f cd A outer s H E).wish xe') E' → PSs ((cxOf (CXr P w) P w K mg base N qual scope f cd A outer s H E).wish xe') body (tb E'))
    (hB : mg xB = some (.ref Dc)) (gB : Gl (cxOf (CXr P w) P w K mg base N qual scope f cd A outer s H E) xB) (qB : PySem.W.excIn K Dc bmB newId = true) (mB : PySem.W.mroIn K Dc (.type "BaseException") = some true)
    (FW : FnOkH P w K mg base kW fW fdW [pn] spW) (hrW : RoomH kW (A.deeper (envOfC qual scope s.heap.objs.size f cd))) (gW : Gl (cxOf (CXr P w) P w K mg base N qual scope f cd A outer s H E) xW) (mW : mg xW = some (.ref fW)) (kpW : PySem.W.keepIn K (.ref fW) = true) (bW : Binds K fdW [pn] [])
    (hN : N.Nodup) (hj : N[j]? = some n) (hn : scope.names.lookup n = some .local) (dB : (xB == ("__debug__" : Str)) = false) (dW : (xW == ("__debug__" : Str)) = false) (dn : (n == ("__debug__" : Str)) = false) (dn2 : (n == ("__classdict__" : Str)) = false)
    {s1 : Shared} {σ : St} {H1 : Hp} {D : Ends} (I : Inv (cxOf (CXr P w) P w K mg base N qual scope f cd A outer s H E) [] σ H1 s1)
    (hT : ∃ E' : XK, tb E' D σ H1 ∧ ∀ C H', E' (.ref C) none H' → (∃ bmC idC, PySem.W.excIn K C bmC idC = true ∧ PySem.W.mroIn K C (.ref Dc) = some true) ∧ ∀ p, H' p = none → spW [.ref p] (upd H' p (excO p C)) D.rt E0) :
    wpAny (model P w) (A.deeper (envOfC qual scope s.heap.objs.size f cd)) (exec (tryStmt body xB xW n np wp wp2 cpos rpos hpos pos) (envOfC qual scope s.heap.objs.size f cd)) (SP (cxOf (CXr P w) P w K mg base N qual scope f cd A outer s H E) [] D)
      (cxOf (CXr P w) P w K mg base N qual scope f cd A outer s H E).xe s1 := by
  obtain ⟨E', hbody, hcatch⟩ := hT
  generalize hX : cxOf (CXr P w) P w K mg base N qual scope f cd A outer s H E = X at *
  have eA : X.A = A.deeper (envOfC qual scope s.heap.objs.size f cd) := by rw [← hX]; rfl
  have eE : X.env = envOfC qual scope s.heap.objs.size f cd := by rw [← hX]; rfl
  have eK : X.K = K := by rw [← hX]; rfl
  have eM : X.mg = mg := by rw [← hX]; rfl
  have eN : X.N = N := by rw [← hX]; rfl
  have eP : X.prog = P := by rw [← hX]; rfl
  have ew : X.w = w := by rw [← hX]; rfl
  have eB : X.base = base := by rw [← hX]; rfl
  have eS : X.s₀ = s := by rw [← hX]; rfl
  have epn : X.pn = [] := by rw [← hX]; rfl
  have eX : X.ex = [] := by rw [← hX]; rfl
  have est : X.stack = X.env :: X.outer := by rw [← hX]; rfl
  have eF : X.env.frame = some X.env.locals := by rw [← hX]; rfl
  clear hX
  subst eK eM eN eP ew eB
  rw [← eA, ← eE]
  rw [← eA] at hrW
  refine wpAny_Try_except ?_
  have pass : Passes (CXr X.prog X.w) (X.wish fun e s' => wpAny (model X.prog X.w) X.A (noteFrame e X.env) (fun _ s₂ => wpAny (model X.prog X.w) X.A (setFlight e none) (fun _ s₃ =>
      wpAny (model X.prog X.w) X.A (handleBy e X.env [.ExceptHandler (some (.Name xB np)) (some n) [.Return (some (.Call (.Name xW wp) [.Name n wp2] [] cpos)) rpos] hpos]) (SP X [] D) X.xe s₃) X.xe s₂) X.xe s') E' := by
    intro pins σ1 H2 s2 e s' I2 hcx
    obtain ⟨a, C, t, H', B, rfl, F, hE⟩ := hcx
    have I2' : Inv X pins σ1 H2 s2 := I2.unwish
    obtain ⟨⟨bmC, idC, qC, mC⟩, hsp⟩ := hcatch C H' hE
    have at_ : ∀ h2 : Heap, B.StaysIn h2 → s'.heap.UpToSlots h2 → Inv X [] σ1 H' { s' with heap := h2 } := fun h2 b2 ups => by
      have frm : ∀ b ∈ frs X.stack, ∀ o, s'.heap.get? b = some o → ∃ sl, h2.get? b = some { o with slots := sl } := fun b hb' o q => by
        obtain ⟨_, o', r, nf⟩ := F.fly.2.2.1.mem hb'
        rw [q] at r
        cases r
        exact ups b o q nf
      obtain ⟨un2, hok2⟩ := fly_step F.un F.hok F.fly.1 b2 F.old F.trk frm
      have J : Inv X pins σ1 H' { s' with heap := h2 } := I2'.call' (s' := { s' with heap := h2 }) F.os un2 hok2 F.bare fun b hb' => nomatch hb'
      exact J.pins_of (pins' := []) fun p hp => nomatch hp
    have hfr : X.A.frames = some (X.env :: X.outer) := by rw [← est]; exact I2'.ok.frames
    have fly0 : Heap.FlyingW B (X.env :: X.outer) a (.ref C) (.ref t) s'.heap := by rw [← est]; exact F.fly
    refine wpAny_looks_onW (base := B) hfr eF fly0 fun h4 held4 sm4 => ?_
    refine wpAny_landsW held4 fun h5 fly5 sm5 => ?_
    have sm45 := sm4.trans sm5
    have I5 := at_ h5 fly5.1 sm45
    obtain ⟨ob, hob, hobc⟩ := fly5.there
    refine wpAny_handleBy_cons (codeAny_handlers_test (ld_glob (X := X.inH (.ref a)) (I5.inH _) gB hB ?_ dB)) (by intro q; cases q)
    obtain ⟨b1, N1, nm1, q1, bs1, hd1, sn1, sub1, ab1, col1, dd1, a0, a1, a2, a3, a5, mN1, hC, _, _, _⟩ := (own_at (mg := fun _ => some (.ref C)) (x := "") I5.kIn rfl qC).obj
    obtain ⟨b2, N2, nm2, q2, bs2, hd2, sn2, sub2, ab2, col2, dd2, c0, c1, c2, c3, c5, mN2, hD, _, _, _⟩ := (own_at (mg := fun _ => some (.ref Dc)) (x := "") I5.kIn rfl qB).obj
    refine excMatches_above hC hD hob hobc (own_mro I5.kIn hD mB) (own_mro I5.kIn hC mC) ?_
    refine codeAny_handlers_suite_as ?_
    refine lands_againW fly5 fun h6 fly6 sm6 => ?_
    have I6 := at_ h6 fly6.1 (sm45.trans sm6)
    obtain ⟨oe, ve, hoe, hoc, hod, _⟩ := fly6.first
    have nframe : a ∉ frs X.stack := fun z => by
      rw [est] at z
      obtain ⟨_, o', r, nf⟩ := fly6.2.2.1.mem z
      rw [hoe] at r
      cases r
      exact nf ve hod
    have nB : B.get? a = none := fly6.2.1
    have n2 : ∀ o, s2.heap.get? a ≠ some o := fun o z => by
      obtain ⟨ob', r⟩ := F.old a o z nframe
      rw [nB] at r
      cases r
    have n0 : ∀ o, X.s₀.heap.get? a ≠ some o := fun o z => by
      obtain ⟨o', r⟩ := I2'.base.there a o z (by rw [eX]; simp)
      exact n2 o' r
    have nH : H' a = none := by
      cases q : H' a with
      | none => rfl
      | some o => obtain ⟨ob', r⟩ := F.trk a o q; rw [nB] at r; cases r
    have I6t : Inv X [] σ1 (upd H' a (excO a C)) { s' with heap := h6 } := by
      refine I6.track nH n0 (fun q => nframe ?_) (fun x c hc q => ?_) (fun p hp => ?_) (excO_ok ⟨oe, hoe, hoc⟩)
      · rw [est]; exact List.mem_filterMap.mpr ⟨X.env, List.mem_cons_self, by rw [q]; exact eF⟩
      · obtain ⟨v, o, ho, hd⟩ := I6.cell x c hc
        have ho' : h6.get? c = some o := ho
        rw [q, hoe] at ho'
        cases ho'
        rw [hod] at hd
        cases hd
      · rw [epn] at hp
        exact absurd (show p ∈ ([] : List (Addr × Obj)) from hp) (by simp)
    have hn' : X.env.scope.names.lookup n = some .local := by rw [eE]; exact hn
    refine store_ok I6t hN hj (Or.inl hn') (v := .ref a) rfl (fun s7 I7 => ?_) (Or.inr hn')
    have I7h := I7.inH (.ref a)
    have suite := pss_one (X := X.inH (.ref a)) (ps_ret (pos := rpos) (pe_callH (p := wp) (pos := cpos) FW (hrW.mark _) gW mW kpW bW (pa_cons (pe_var (X := X.inH (.ref a)) (pos := wp2) hj (Or.inl hn') dn dn2) pa_nil) dW))
    have hjl : j < σ1.length := by rw [I6.len]; exact (List.getElem?_eq_some_iff.mp hj).1
    refine wpAny_mono (suite [] s7 _ _ { nx := fun _ _ => False, rt := D.rt } I7h ⟨.ref a, by rw [List.getElem?_set_self hjl], hsp a nH⟩) (fun fl s8 q8 => ?_) fun _ _ z => z.elim
    cases fl with
    | next => obtain ⟨_, _, _, z⟩ := q8; exact False.elim z
    | brk => obtain ⟨_, _, _, z⟩ := q8; exact False.elim z
    | cont => obtain ⟨_, _, _, z⟩ := q8; exact False.elim z
    | ret u =>
      obtain ⟨v, σ8, H8, I8, rv, qr⟩ := q8
      have I8' : Inv X [] σ8 H8 s8 := I8.outH I6.ok
      obtain ⟨m8, hm8, _⟩ := id I8'.loc
      have hcls : (X.env.scope.kind == .class || (X.env.scope.kind == .module && X.env.locals != X.env.globals)) = false := by rw [I8'.ok.kind]; rfl
      refine wpAny_nameGoes hn' hm8 hcls fun h9 m9 hm9 sb9 => ?_
      exact ⟨v, _, H8, I8'.forget hm9 sb9, rv, qr⟩
  refine wpAny_mono (hb E' _ pass [] s1 σ H1 D (I.wish _) hbody) (fun fl s2 q => ?_) fun e s2 q => q
  have q' := q.unwish
  cases fl with
  | next => exact wpAny_execs_nil q'
  | ret v => exact q'
  | brk => exact q'
  | cont => exact q'
end
end L2
set_option Elab.async false
set_option linter.all false
set_option maxRecDepth 100000
/-! A call of what an expression tells; a def whose body is walked from no pins on. -/
namespace L2
open PySem PySem.Spec PyProof.Rows
section
variable {X : Cx} {CX : CXT}
/-- fe(e, ..): fe tells one of the known defs -/
def tCallX (P : Program) (w : World) (K : PySem.W.Frag) (mg : Str → Option Value) (base : Heap) (CX : CXT) (k : Nat) (E : XK) (tf : TE) (t : TA) : TE := fun σ H Q => tf σ H fun x H1 => ∃ (f : Addr) (fd : FuncData) (ps : List Str) (sp : Sp), x = .ref f ∧ FnOk P w K mg base CX k f fd ps sp ∧
  PySem.W.keepIn K (.ref f) = true ∧ Binds K fd ps [] ∧ t σ H1 fun vs H2 => sp vs H2 Q E
theorem pe_callX (P : Program) (w : World) (K : PySem.W.Frag) (mg : Str → Option Value) (base : Heap) {k : Nat} {E : XK} {fe e : Expr} {es : List Expr} {tf : TE} {t : TA} {pos : Pos} (hr : Room k X.A) (hx : Passes CX X E) (hf : PE X fe tf) (ha : PA X (e :: es) t)
    (eP : X.prog = P := by rfl) (ew : X.w = w := by rfl) (eK : X.K = K := by rfl) (em : X.mg = mg := by rfl) (eb : X.base = base := by rfl)
    (ht : eval (.Call fe (e :: es) [] pos) X.env = (do callWith pos (← eval fe X.env) [] (backTo pos (starEach (e :: es) X.env)) (backToKw pos (keywordEach [] X.env))) := by rfl)
    (he : starEach (e :: es) X.env = (false, eval e X.env) :: starEach es X.env := by rfl) (hpl : (backTo pos (starEach es X.env)).any (·.1) = false := by rfl) :
    PE X (.Call fe (e :: es) [] pos) (tCallX P w K mg base CX k E tf t) := by
  subst eP ew eK em eb
  intro pins s σ H Q I h
  rw [ht]
  refine wpAny_bind (thn (hf pins s σ H _ I h) fun u s0 z => ?_)
  obtain ⟨x, H0, I0, rx, f, fd, ps, sp, ex, F, hk, hb, q0⟩ := z
  subst ex
  cases (show u = Value.ref f from rx)
  refine PySem.W.callWith_K (h₀ := X.base) I0.ok.mod.kin hk (thn (ha pos pins s0 σ H0 _ I0 q0) fun us s1 ⟨vs, H1, I1, r, q⟩ => ⟨I1.kIn, ?_⟩) he hpl
  exact run_fn (dvs := []) F hr hb .nil hx I1 r (by rw [List.append_nil]; exact q)
/-- a suite walked from no pins on -/
def PSs0 (X : Cx) (st : List Stmt) (t : TS) : Prop :=
  ∀ (s : Shared) (σ : St) (H : Hp) (D : Ends), Inv X [] σ H s → t D σ H → wpAny (model X.prog X.w) X.A (execs st X.env) (SP X [] D) X.xe s
theorem pss0_one {st : Stmt} {t : TS} (h1 : ∀ (s : Shared) (σ : St) (H : Hp) (D : Ends), Inv X [] σ H s → t D σ H → wpAny (model X.prog X.w) X.A (exec st X.env) (SP X [] D) X.xe s) : PSs0 X [st] t := by
  intro s σ H D I h
  refine wpAny_execs_cons (thn (h1 s σ H D I h) fun f s1 q => ?_)
  cases f with
  | next => exact wpAny_execs_nil q
  | ret v => exact q
  | brk => exact q
  | cont => exact q
end
section
variable {P : Program} {w : World} {K : PySem.W.Frag} {mg : Str → Option Value} {base : Heap}
theorem Fun.okT {x qual : Str} {st : Stmt} {f : Addr} {fd : FuncData} {N ps : List Str} {k : Nat} {sp : Sp} (F : Fun K x qual st f fd) (S : FnScope N ps (defScope st)) (len : ∀ vs H Q E, sp vs H Q E → vs.length = ps.length)
    (hbody : ∀ (cdv : Value) (A : Around) (outer : List Env) (s : Shared) (H : Hp) (vs : List V) (Q : VK) (E : XK), Room k (A.deeper (envOfC qual (defScope st) s.heap.objs.size f cdv)) → sp vs H Q E →
      ∃ t, PSs0 (cxOf (CXr P w) P w K mg base N qual (defScope st) f cdv A outer s H E) (defBody st) t ∧ t { nx := fun _ H' => Q .non H', rt := Q } (start N vs) H) : FnOk P w K mg base (CXr P w) (k + 1) f fd ps sp := by
  obtain ⟨oc, od, kV, doc, pm, an, cdv, ct, osl, rfl, lk, hcd⟩ := F.ex
  refine ⟨len, fun A outer s H args us vs Q E hr e0 hb r hsp => ?_⟩
  have hl := len _ _ _ _ hsp
  have KX : K.In s.heap := e0.mod.kin.keeps fun b o e => (e0.bs b o e).1
  have lim : s.heap.NoLimit := e0.mod.nolimit.keeps fun b o e => (e0.bs b o e).1
  have hkind : ∀ y ∈ ps.zip us, (defScope st).names.lookup y.1 = some .local ∨ ((defScope st).names.lookup y.1 = some .cell ∧ ((cellsFrom (s.heap.objs.size + 1) (defScope st).names []).lookup y.1).isSome = true) := fun ⟨n, v⟩ hy => by
    rcases S.par n (List.of_mem_zip hy).1 with q | q
    · exact .inl q
    · exact .inr ⟨q, PySem.W.cellsFrom_some _ _ _ (.inl q)⟩
  refine codeAny_call_function hr.depth (KX _ _ lk) rfl S.co S.gen rfl (PySem.W.codeRec_of KX hcd) (hb _ _ _ _ ?_)
  refine wpAny_newFunctionEnv_cells S.kind hkind fun env he s1 x => ?_
  subst he
  refine ⟨lim.keeps x.toInCall.keep, codeAny_func ?_⟩
  obtain ⟨t, ht, hq⟩ := hbody cdv A outer s H vs Q E (hr.deeper _) hsp
  have I : Inv (cxOf (CXr P w) P w K mg base N qual (defScope st) f cdv A outer s H E) [] (start N vs) H s1 := inv_start S hr.hd e0 hl r x
  refine wpAny_mono (ht s1 (start N vs) H _ I hq) (fun fl s' hs => ?_) fun e s' hs => hs
  have fin : ∀ {σ' : St} {H' : Hp} {v : V} {u : Value}, Inv (cxOf (CXr P w) P w K mg base N qual (defScope st) f cdv A outer s H E) [] σ' H' s' → RelV v u → Q v H' → CE outer P w H s Q u s' :=
    fun {σ' H' v u} J rv q => ⟨v, H', J.os, J.bare, J.base, J.hok, rv, q⟩
  cases fl with
  | ret u => obtain ⟨v, σ', H', J, rv, q⟩ := hs; exact fin J rv q
  | next => obtain ⟨σ', H', J, q⟩ := hs; exact fin (v := V.non) (u := Value.none) J rfl q
  | brk => obtain ⟨_, _, _, q⟩ := hs; exact False.elim q
  | cont => obtain ⟨_, _, _, q⟩ := hs; exact False.elim q
end
end L2
set_option Elab.async false
set_option linter.all false
set_option maxRecDepth 100000
namespace Be
open PySem L2
section
variable {P : Program} {w : World} {K : PySem.W.Frag} {mg : Str → Option Value} {base : Heap}
/-- what is no world is refused; None and n more things are handed in -/
def sp_ref (T : Txt K mg) (n : Nat) : Sp := fun vs H _ E => ∃ (v : V) (more : List V) (dw : PyData), vs = v :: .non :: more ∧ more.length = n ∧ Rep H v dw ∧ isWD dw = false ∧ ∀ H', Same H H' → E (.ref T.e_NoWorld.C) none H'
def sp_ref1 (T : Txt K mg) : Sp := fun vs H _ E => ∃ (v : V) (dw : PyData), vs = [v] ∧ Rep H v dw ∧ isWD dw = false ∧ ∀ H', Same H H' → E (.ref T.e_NoWorld.C) none H'
theorem co_ref (T : Txt K mg) : FnOk P w K mg base (CXr P w) 6 T.check_order.a T.check_order.d ["world", "order"] (sp_ref T 0) := (ok_check_order T).imp fun vs H Q E h => by
  obtain ⟨v, more, dw, rfl, hm, hv, hf, q⟩ := h
  obtain rfl := List.length_eq_zero_iff.mp hm
  exact ⟨v, .non, dw, .none, rfl, hv, .non, (fun ds z => by cases z), fun _ => q, fun W hok e => by subst e; rw [isW_enc hok] at hf; cases hf⟩
theorem ru_ref (T : Txt K mg) : FnOk P w K mg base (CXr P w) 7 T.rules.a T.rules.d ["world", "order"] (sp_ref T 0) := (ok_rules T).imp fun vs H Q E h => by
  obtain ⟨v, more, dw, rfl, hm, hv, hf, q⟩ := h
  obtain rfl := List.length_eq_zero_iff.mp hm
  exact ⟨v, .non, dw, .none, rfl, hv, .non, (fun ds z => by cases z), fun _ => q, fun W hok e => by subst e; rw [isW_enc hok] at hf; cases hf⟩
theorem cl_ref (T : Txt K mg) : FnOk P w K mg base (CXr P w) 6 T.check_lengths.a T.check_lengths.d ["world", "lengths"] (sp_ref T 0) := by
  refine T.check_lengths.F.okR sc_check_lengths (fun vs H Q E h => ?_) (fun cdv A outer s H vs Q E hr h => ?_)
  · obtain ⟨v, more, dw, rfl, hm, _⟩ := h; show more.length + 1 + 1 = _; rw [hm]; rfl
  obtain ⟨v, more, dw, rfl, hm, hv, hf, q⟩ := h
  match more, hm with
  | [], _ =>
  refine ⟨_, (pss_cons (ps_expr (pe_call (ok_check_world T) (hr.mono (by decide)) rfl T.check_world.m T.check_world.F.kp T.check_world.b .nil passR (pa_cons (pv 0) pa_nil))) pss_any), ?_⟩
  exact ⟨_, rfl, v, dw, rfl, hv, (fun z => by rw [hf] at z; cases z), fun _ => q⟩
theorem ok_all_orders_b (T : Txt K mg) : FnOk P w K mg base (CXr P w) 12 T.all_orders.a T.all_orders.d ["world"] (sp_ref1 T) := by
  refine T.all_orders.F.okR sc_all_orders (fun vs H Q E h => ?_) (fun cdv A outer s H vs Q E hr h => ?_)
  · obtain ⟨v, dw, rfl, _⟩ := h; rfl
  obtain ⟨v, dw, rfl, hv, hf, q⟩ := h
  refine ⟨_, (pss_cons (ps_expr (pe_call (ok_check_world T) (hr.mono (by decide)) rfl T.check_world.m T.check_world.F.kp T.check_world.b .nil passR (pa_cons (pv 0) pa_nil))) pss_any), ?_⟩
  exact ⟨_, rfl, v, dw, rfl, hv, (fun z => by rw [hf] at z; cases z), fun _ => q⟩
theorem ok_could_b (T : Txt K mg) : FnOk P w K mg base (CXr P w) 8 T.could.a T.could.d ["world", "order"] (sp_ref T 0) := by
  refine T.could.F.okR sc_could (fun vs H Q E h => ?_) (fun cdv A outer s H vs Q E hr h => ?_)
  · obtain ⟨v, more, dw, rfl, hm, _⟩ := h; show more.length + 1 + 1 = _; rw [hm]; rfl
  obtain ⟨v, more, dw, rfl, hm, h⟩ := h
  match more, hm with
  | [], _ =>
  refine ⟨_, (pss_cons (ps_set (i := 2) sc_could.nd rfl (by first | exact Or.inl rfl | exact Or.inr rfl) (pe_call (ru_ref T) (hr.mono (by decide)) rfl T.rules.m T.rules.F.kp T.rules.b .nil passR (pa_cons (pv 0) (pa_cons (pv 1) pa_nil)))) pss_any), ?_⟩
  exact ⟨_, rfl, _, rfl, v, _, dw, rfl, rfl, h⟩
theorem ok_check_could_b (T : Txt K mg) : FnOk P w K mg base (CXr P w) 9 T.check_could.a T.check_could.d ["world", "order"] (sp_ref T 0) := by
  refine T.check_could.F.okR sc_check_could (fun vs H Q E h => ?_) (fun cdv A outer s H vs Q E hr h => ?_)
  · obtain ⟨v, more, dw, rfl, hm, _⟩ := h; show more.length + 1 + 1 = _; rw [hm]; rfl
  obtain ⟨v, more, dw, rfl, hm, h⟩ := h
  match more, hm with
  | [], _ =>
  refine ⟨_, (pss_one (ps_if (pt_not (pt_val (pe_call (ok_could_b T) (hr.mono (by decide)) rfl T.could.m T.could.F.kp T.could.b .nil passR (pa_cons (pv 0) (pa_cons (pv 1) pa_nil))))) pss_any pss_nil)), ?_⟩
  exact ⟨_, rfl, _, rfl, v, _, dw, rfl, rfl, h⟩
theorem ok_moments_b (T : Txt K mg) : FnOk P w K mg base (CXr P w) 10 T.moments.a T.moments.d ["world", "order"] (sp_ref T 0) := by
  refine T.moments.F.okR sc_moments (fun vs H Q E h => ?_) (fun cdv A outer s H vs Q E hr h => ?_)
  · obtain ⟨v, more, dw, rfl, hm, _⟩ := h; show more.length + 1 + 1 = _; rw [hm]; rfl
  obtain ⟨v, more, dw, rfl, hm, h⟩ := h
  match more, hm with
  | [], _ =>
  refine ⟨_, (pss_cons (ps_expr (pe_call (ok_check_could_b T) (hr.mono (by decide)) rfl T.check_could.m T.check_could.F.kp T.check_could.b .nil passR (pa_cons (pv 0) (pa_cons (pv 1) pa_nil)))) pss_any), ?_⟩
  exact ⟨_, rfl, _, rfl, v, _, dw, rfl, rfl, h⟩
theorem ok_ring_b (T : Txt K mg) : FnOk P w K mg base (CXr P w) 8 T.ring.a T.ring.d ["world", "order"] (sp_ref T 0) := by
  refine T.ring.F.okR sc_ring (fun vs H Q E h => ?_) (fun cdv A outer s H vs Q E hr h => ?_)
  · obtain ⟨v, more, dw, rfl, hm, _⟩ := h; show more.length + 1 + 1 = _; rw [hm]; rfl
  obtain ⟨v, more, dw, rfl, hm, h⟩ := h
  match more, hm with
  | [], _ =>
  refine ⟨_, (pss_cons (ps_set (i := 2) sc_ring.nd rfl (by first | exact Or.inl rfl | exact Or.inr rfl) (pe_call (ru_ref T) (hr.mono (by decide)) rfl T.rules.m T.rules.F.kp T.rules.b .nil passR (pa_cons (pv 0) (pa_cons (pv 1) pa_nil)))) pss_any), ?_⟩
  exact ⟨_, rfl, _, rfl, v, _, dw, rfl, rfl, h⟩
theorem ok_lengths_b (T : Txt K mg) : FnOk P w K mg base (CXr P w) 11 T.lengths.a T.lengths.d ["world", "order"] (sp_ref T 0) := by
  refine T.lengths.F.okR sc_lengths (fun vs H Q E h => ?_) (fun cdv A outer s H vs Q E hr h => ?_)
  · obtain ⟨v, more, dw, rfl, hm, _⟩ := h; show more.length + 1 + 1 = _; rw [hm]; rfl
  obtain ⟨v, more, dw, rfl, hm, h⟩ := h
  match more, hm with
  | [], _ =>
  refine ⟨_, (pss_cons (ps_set (i := 2) sc_lengths.nd rfl (by first | exact Or.inl rfl | exact Or.inr rfl) (pe_op op_cat (pe_lst (pa_cons pe_int pa_nil)) (pe_call (ok_moments_b T) (hr.mono (by decide)) rfl T.moments.m T.moments.F.kp T.moments.b .nil passR (pa_cons (pv 0) (pa_cons (pv 1) pa_nil))))) pss_any), ?_⟩
  obtain ⟨hv, hf, q⟩ := h
  refine ⟨by show 1 ≤ sizeLine; decide, fun l hlf => ?_⟩
  have gl := same_new hlf (.lst [.int 0])
  exact ⟨_, rfl, _, rfl, v, _, dw, rfl, rfl, hv.mono gl, hf, fun H' g => q H' (gl.trans g)⟩
theorem ok_may_end_b (T : Txt K mg) : FnOk P w K mg base (CXr P w) 10 T.may_end.a T.may_end.d ["world", "order"] (sp_ref T 0) := by
  refine T.may_end.F.okR sc_may_end (fun vs H Q E h => ?_) (fun cdv A outer s H vs Q E hr h => ?_)
  · obtain ⟨v, more, dw, rfl, hm, _⟩ := h; show more.length + 1 + 1 = _; rw [hm]; rfl
  obtain ⟨v, more, dw, rfl, hm, h⟩ := h
  match more, hm with
  | [], _ =>
  refine ⟨_, (pss_cons (ps_expr (pe_call (ok_check_could_b T) (hr.mono (by decide)) rfl T.check_could.m T.check_could.F.kp T.check_could.b .nil passR (pa_cons (pv 0) (pa_cons (pv 1) pa_nil)))) pss_any), ?_⟩
  exact ⟨_, rfl, _, rfl, v, _, dw, rfl, rfl, h⟩
theorem ok_are_moments_b (T : Txt K mg) : FnOk P w K mg base (CXr P w) 8 T.are_moments.a T.are_moments.d ["world", "order", "thing"] (sp_ref T 1) := by
  refine T.are_moments.F.okR sc_are_moments (fun vs H Q E h => ?_) (fun cdv A outer s H vs Q E hr h => ?_)
  · obtain ⟨v, more, dw, rfl, hm, _⟩ := h; show more.length + 1 + 1 = _; rw [hm]; rfl
  obtain ⟨v, more, dw, rfl, hm, h⟩ := h
  match more, hm with
  | [x0], _ =>
  refine ⟨_, (pss_cons (ps_set (i := 3) sc_are_moments.nd rfl (by first | exact Or.inl rfl | exact Or.inr rfl) (pe_call (ru_ref T) (hr.mono (by decide)) rfl T.rules.m T.rules.F.kp T.rules.b .nil passR (pa_cons (pv 0) (pa_cons (pv 1) pa_nil)))) pss_any), ?_⟩
  exact ⟨_, rfl, _, rfl, v, _, dw, rfl, rfl, h⟩
theorem ok_is_ring_b (T : Txt K mg) : FnOk P w K mg base (CXr P w) 8 T.is_ring.a T.is_ring.d ["world", "order", "thing"] (sp_ref T 1) := by
  refine T.is_ring.F.okR sc_is_ring (fun vs H Q E h => ?_) (fun cdv A outer s H vs Q E hr h => ?_)
  · obtain ⟨v, more, dw, rfl, hm, _⟩ := h; show more.length + 1 + 1 = _; rw [hm]; rfl
  obtain ⟨v, more, dw, rfl, hm, h⟩ := h
  match more, hm with
  | [x0], _ =>
  refine ⟨_, (pss_cons (ps_set (i := 3) sc_is_ring.nd rfl (by first | exact Or.inl rfl | exact Or.inr rfl) (pe_call (ru_ref T) (hr.mono (by decide)) rfl T.rules.m T.rules.F.kp T.rules.b .nil passR (pa_cons (pv 0) (pa_cons (pv 1) pa_nil)))) pss_any), ?_⟩
  exact ⟨_, rfl, _, rfl, v, _, dw, rfl, rfl, h⟩
theorem ok_check_work_b (T : Txt K mg) : FnOk P w K mg base (CXr P w) 10 T.check_work.a T.check_work.d ["world", "order", "work"] (sp_ref T 1) := by
  refine T.check_work.F.okR sc_check_work (fun vs H Q E h => ?_) (fun cdv A outer s H vs Q E hr h => ?_)
  · obtain ⟨v, more, dw, rfl, hm, _⟩ := h; show more.length + 1 + 1 = _; rw [hm]; rfl
  obtain ⟨v, more, dw, rfl, hm, h⟩ := h
  match more, hm with
  | [x0], _ =>
  refine ⟨_, (pss_cons (ps_expr (pe_call (co_ref T) (hr.mono (by decide)) rfl T.check_order.m T.check_order.F.kp T.check_order.b .nil passR (pa_cons (pv 0) (pa_cons (pv 1) pa_nil)))) pss_any), ?_⟩
  exact ⟨_, rfl, _, rfl, v, _, dw, rfl, rfl, h⟩
theorem ok_length_b (T : Txt K mg) : FnOk P w K mg base (CXr P w) 11 T.length.a T.length.d ["world", "order", "work"] (sp_ref T 1) := by
  refine T.length.F.okR sc_length (fun vs H Q E h => ?_) (fun cdv A outer s H vs Q E hr h => ?_)
  · obtain ⟨v, more, dw, rfl, hm, _⟩ := h; show more.length + 1 + 1 = _; rw [hm]; rfl
  obtain ⟨v, more, dw, rfl, hm, h⟩ := h
  match more, hm with
  | [x0], _ =>
  refine ⟨_, (pss_cons (ps_expr (pe_call (ok_check_work_b T) (hr.mono (by decide)) rfl T.check_work.m T.check_work.F.kp T.check_work.b .nil passR (pa_cons (pv 0) (pa_cons (pv 1) (pa_cons (pv 2) pa_nil))))) pss_any), ?_⟩
  exact ⟨_, rfl, _, rfl, _, rfl, v, _, dw, rfl, rfl, h⟩
theorem ok_check_side_b (T : Txt K mg) : FnOk P w K mg base (CXr P w) 11 T.check_side.a T.check_side.d ["world", "order", "work", "side"] (sp_ref T 2) := by
  refine T.check_side.F.okR sc_check_side (fun vs H Q E h => ?_) (fun cdv A outer s H vs Q E hr h => ?_)
  · obtain ⟨v, more, dw, rfl, hm, _⟩ := h; show more.length + 1 + 1 = _; rw [hm]; rfl
  obtain ⟨v, more, dw, rfl, hm, h⟩ := h
  match more, hm with
  | [x0, x1], _ =>
  refine ⟨_, (pss_cons (ps_expr (pe_call (ok_check_work_b T) (hr.mono (by decide)) rfl T.check_work.m T.check_work.F.kp T.check_work.b .nil passR (pa_cons (pv 0) (pa_cons (pv 1) (pa_cons (pv 2) pa_nil))))) pss_any), ?_⟩
  exact ⟨_, rfl, _, rfl, _, rfl, v, _, dw, rfl, rfl, h⟩
theorem ok_chain_b (T : Txt K mg) : FnOk P w K mg base (CXr P w) 12 T.chain.a T.chain.d ["world", "order", "work", "side"] (sp_ref T 2) := by
  refine T.chain.F.okR sc_chain (fun vs H Q E h => ?_) (fun cdv A outer s H vs Q E hr h => ?_)
  · obtain ⟨v, more, dw, rfl, hm, _⟩ := h; show more.length + 1 + 1 = _; rw [hm]; rfl
  obtain ⟨v, more, dw, rfl, hm, h⟩ := h
  match more, hm with
  | [x0, x1], _ =>
  refine ⟨_, (pss_cons (ps_expr (pe_call (ok_check_side_b T) (hr.mono (by decide)) rfl T.check_side.m T.check_side.F.kp T.check_side.b .nil passR (pa_cons (pv 0) (pa_cons (pv 1) (pa_cons (pv 2) (pa_cons (pv 3) pa_nil)))))) pss_any), ?_⟩
  exact ⟨_, rfl, _, rfl, _, rfl, _, rfl, v, _, dw, rfl, rfl, h⟩
theorem ok_shown_b (T : Txt K mg) : FnOk P w K mg base (CXr P w) 12 T.shown.a T.shown.d ["world", "order", "work", "side"] (sp_ref T 2) := by
  refine T.shown.F.okR sc_shown (fun vs H Q E h => ?_) (fun cdv A outer s H vs Q E hr h => ?_)
  · obtain ⟨v, more, dw, rfl, hm, _⟩ := h; show more.length + 1 + 1 = _; rw [hm]; rfl
  obtain ⟨v, more, dw, rfl, hm, h⟩ := h
  match more, hm with
  | [x0, x1], _ =>
  refine ⟨_, (pss_cons (ps_expr (pe_call (ok_check_side_b T) (hr.mono (by decide)) rfl T.check_side.m T.check_side.F.kp T.check_side.b .nil passR (pa_cons (pv 0) (pa_cons (pv 1) (pa_cons (pv 2) (pa_cons (pv 3) pa_nil)))))) pss_any), ?_⟩
  exact ⟨_, rfl, _, rfl, _, rfl, _, rfl, v, _, dw, rfl, rfl, h⟩
theorem ok_is_chain_b (T : Txt K mg) : FnOk P w K mg base (CXr P w) 12 T.is_chain.a T.is_chain.d ["world", "order", "work", "side", "number", "thing"] (sp_ref T 4) := by
  refine T.is_chain.F.okR sc_is_chain (fun vs H Q E h => ?_) (fun cdv A outer s H vs Q E hr h => ?_)
  · obtain ⟨v, more, dw, rfl, hm, _⟩ := h; show more.length + 1 + 1 = _; rw [hm]; rfl
  obtain ⟨v, more, dw, rfl, hm, h⟩ := h
  match more, hm with
  | [x0, x1, x2, x3], _ =>
  refine ⟨_, (pss_cons (ps_expr (pe_call (ok_check_side_b T) (hr.mono (by decide)) rfl T.check_side.m T.check_side.F.kp T.check_side.b .nil passR (pa_cons (pv 0) (pa_cons (pv 1) (pa_cons (pv 2) (pa_cons (pv 3) pa_nil)))))) pss_any), ?_⟩
  exact ⟨_, rfl, _, rfl, _, rfl, _, rfl, v, _, dw, rfl, rfl, h⟩
theorem ok_played_b (T : Txt K mg) : FnOk P w K mg base (CXr P w) 7 T.played.a T.played.d ["world", "lengths"] (sp_ref T 0) := by
  refine T.played.F.okR sc_played (fun vs H Q E h => ?_) (fun cdv A outer s H vs Q E hr h => ?_)
  · obtain ⟨v, more, dw, rfl, hm, _⟩ := h; show more.length + 1 + 1 = _; rw [hm]; rfl
  obtain ⟨v, more, dw, rfl, hm, h⟩ := h
  match more, hm with
  | [], _ =>
  refine ⟨_, (pss_cons (ps_expr (pe_call (cl_ref T) (hr.mono (by decide)) rfl T.check_lengths.m T.check_lengths.F.kp T.check_lengths.b .nil passR (pa_cons (pv 0) (pa_cons (pv 1) pa_nil)))) pss_any), ?_⟩
  exact ⟨_, rfl, _, rfl, v, _, dw, rfl, rfl, h⟩
theorem ok_benches_b (T : Txt K mg) : FnOk P w K mg base (CXr P w) 7 T.benches.a T.benches.d ["world", "lengths"] (sp_ref T 0) := by
  refine T.benches.F.okR sc_benches (fun vs H Q E h => ?_) (fun cdv A outer s H vs Q E hr h => ?_)
  · obtain ⟨v, more, dw, rfl, hm, _⟩ := h; show more.length + 1 + 1 = _; rw [hm]; rfl
  obtain ⟨v, more, dw, rfl, hm, h⟩ := h
  match more, hm with
  | [], _ =>
  refine ⟨_, (pss_cons (ps_expr (pe_call (cl_ref T) (hr.mono (by decide)) rfl T.check_lengths.m T.check_lengths.F.kp T.check_lengths.b .nil passR (pa_cons (pv 0) (pa_cons (pv 1) pa_nil)))) pss_any), ?_⟩
  exact ⟨_, rfl, _, rfl, v, _, dw, rfl, rfl, h⟩
end
end Be
set_option Elab.async false
set_option linter.all false
set_option maxRecDepth 100000
namespace Be
open PySem L2
section
variable {P : Program} {w : World} {K : PySem.W.Frag} {mg : Str → Option Value} {base : Heap}
/-- which of the told errors an error is: its place -/
structure IsAt (K : PySem.W.Frag) (C : Addr) (cs : List Addr) (bs : List Bool) (j : Nat) : Prop where
  k : ExcK K C
  len : cs.length = bs.length
  is : ∀ (i : Nat) (c : Addr) (b : Bool), cs[i]? = some c → bs[i]? = some b → PySem.W.kitOne K (.ref C) (.ref c) = some b
  ve : PySem.W.kitOne K (.ref C) (.type "ValueError") = some true
  one : bs.count true = 1
  at_ : bs[j]? = some true
  no : ∀ m, m < j → bs[m]? ≠ some true
def sp_which (K : PySem.W.Frag) (T : Txt K mg) : Sp := fun vs H Q _ => ∃ (p C : Addr) (b0 b1 b2 b3 b4 b5 b6 b7 : Bool) (j : Nat), vs = [.ref p] ∧ H p = some (excO p C) ∧
  IsAt K C [T.e_NoWorld.C, T.e_NoOrder.C, T.e_NoLengths.C, T.e_NoWork.C, T.e_NoSide.C, T.e_Never.C, T.e_TooMany.C, T.e_NoStep.C] [b0, b1, b2, b3, b4, b5, b6, b7] j ∧
  ∀ (r : Addr) (H' : Hp), Same H H' → H r = none → H' r = some (.tup [.str "refused", .int j]) → Q (.ref r) H'
theorem ok_law_which (T : Txt K mg) : FnOkH P w K mg base 1 T.law_which.a T.law_which.d ["_law_e"] (sp_which K T) := by
  refine T.law_which.F.okH sc_law_which (fun vs H Q E h => ?_) (fun cdv A outer s H vs Q E hr h => ?_)
  · obtain ⟨p, C, b0, b1, b2, b3, b4, b5, b6, b7, j, rfl, _⟩ := h; rfl
  obtain ⟨p, C, b0, b1, b2, b3, b4, b5, b6, b7, j, rfl, hp, W, q⟩ := h
  refine ⟨_, (pss_cons (ps_set (i := 1) sc_law_which.nd rfl (by first | exact Or.inl rfl | exact Or.inr rfl) (pe_lst (pa_cons (pe_callB call_isx rfl T.n_isinstance bt_isinstance (pa_cons (pv 0) (pa_cons (pe_glob (v := .ref T.e_NoWorld.C) rfl T.e_NoWorld.m rfl) pa_nil))) (pa_cons (pe_callB call_isx rfl T.n_isinstance bt_isinstance (pa_cons (pv 0) (pa_cons (pe_glob (v := .ref T.e_NoOrder.C) rfl T.e_NoOrder.m rfl) pa_nil))) (pa_cons (pe_callB call_isx rfl T.n_isinstance bt_isinstance (pa_cons (pv 0) (pa_cons (pe_glob (v := .ref T.e_NoLengths.C) rfl T.e_NoLengths.m rfl) pa_nil))) (pa_cons (pe_callB call_isx rfl T.n_isinstance bt_isinstance (pa_cons (pv 0) (pa_cons (pe_glob (v := .ref T.e_NoWork.C) rfl T.e_NoWork.m rfl) pa_nil))) pa_nil)))))) (pss_cons (ps_expr (pe_bm PySem.F.plainAttrs_list PySem.F.slot_list_extend PySem.F.type_list_extend mt_extend (pv 1) (pa_cons (pe_lst (pa_cons (pe_callB call_isx rfl T.n_isinstance bt_isinstance (pa_cons (pv 0) (pa_cons (pe_glob (v := .ref T.e_NoSide.C) rfl T.e_NoSide.m rfl) pa_nil))) (pa_cons (pe_callB call_isx rfl T.n_isinstance bt_isinstance (pa_cons (pv 0) (pa_cons (pe_glob (v := .ref T.e_Never.C) rfl T.e_Never.m rfl) pa_nil))) (pa_cons (pe_callB call_isx rfl T.n_isinstance bt_isinstance (pa_cons (pv 0) (pa_cons (pe_glob (v := .ref T.e_TooMany.C) rfl T.e_TooMany.m rfl) pa_nil))) (pa_cons (pe_callB call_isx rfl T.n_isinstance bt_isinstance (pa_cons (pv 0) (pa_cons (pe_glob (v := .ref T.e_NoStep.C) rfl T.e_NoStep.m rfl) pa_nil))) pa_nil))))) pa_nil))) (pss_cons (ps_if (PW.pt (pw_or (pt_cmpR op_ne (pe_bm PySem.F.plainAttrs_list PySem.F.slot_list_count PySem.F.type_list_count mt_countB (pv 1) (pa_cons pe_bl pa_nil)) pe_int (nomark _)) (pw_or1 (pt_not (pt_val (pe_callB call_isx rfl T.n_isinstance bt_isinstance (pa_cons (pv 0) (pa_cons (pe_bltn (v := .ty "ValueError") rfl T.n_ValueError bt_ValueError rfl) pa_nil)))))))) (pss_one (ps_ret (pe_tup (pa_cons pe_str (pa_cons (pe_un un_neg pe_int) pa_nil))))) pss_nil) (pss_one (ps_ret (pe_tup (pa_cons pe_str (pa_cons (pe_bm PySem.F.plainAttrs_list PySem.F.slot_list_index PySem.F.type_list_index mt_indexB (pv 1) (pa_cons pe_bl pa_nil)) pa_nil)))))))), ?_⟩
  refine ⟨_, rfl, p, C, _, _, b0, rfl, hp, W.k, fun u r => r, W.is 0 _ _ rfl rfl, _, rfl, p, C, _, _, b1, rfl, hp, W.k, fun u r => r, W.is 1 _ _ rfl rfl,
    _, rfl, p, C, _, _, b2, rfl, hp, W.k, fun u r => r, W.is 2 _ _ rfl rfl, _, rfl, p, C, _, _, b3, rfl, hp, W.k, fun u r => r, W.is 3 _ _ rfl rfl, (by show 4 ≤ sizeLine; decide), fun l hl => ?_⟩
  have g1 := same_new hl (.lst [.bl b0, .bl b1, .bl b2, .bl b3])
  have hp1 := g1 _ _ hp
  refine ⟨_, rfl, .inl ⟨rfl, _, SqL.of upd_same⟩, ?_⟩
  refine ⟨_, rfl, p, C, _, _, b4, rfl, hp1, W.k, fun u r => r, W.is 4 _ _ rfl rfl, _, rfl, p, C, _, _, b5, rfl, hp1, W.k, fun u r => r, W.is 5 _ _ rfl rfl,
    _, rfl, p, C, _, _, b6, rfl, hp1, W.k, fun u r => r, W.is 6 _ _ rfl rfl, _, rfl, p, C, _, _, b7, rfl, hp1, W.k, fun u r => r, W.is 7 _ _ rfl rfl, (by show 4 ≤ sizeLine; decide), fun r hr' => ?_⟩
  have g2 := same_new hr' (.lst [.bl b4, .bl b5, .bl b6, .bl b7])
  have hl2 := g2 _ _ (upd_same (H := H) (a := l) (o := .lst [.bl b0, .bl b1, .bl b2, .bl b3]))
  refine ⟨l, r, _, _, rfl, rfl, hl2, upd_same, by show 8 ≤ sizeLine; decide, ?_⟩
  have gw := (g1.trans g2).write hl (.lst [.bl b0, .bl b1, .bl b2, .bl b3, .bl b4, .bl b5, .bl b6, .bl b7])
  have hp3 : upd (upd (upd H l (.lst [.bl b0, .bl b1, .bl b2, .bl b3])) r (.lst [.bl b4, .bl b5, .bl b6, .bl b7])) l (.lst [.bl b0, .bl b1, .bl b2, .bl b3, .bl b4, .bl b5, .bl b6, .bl b7]) p = some (excO p C) := gw _ _ hp
  refine ⟨_, rfl, .inl ⟨rfl, _, SqL.of upd_same⟩, l, [b0, b1, b2, b3, b4, b5, b6, b7], true, rfl, rfl, upd_same, ?_⟩
  refine ⟨rfl, _, rfl, if_f ?_ ?_⟩
  · rw [W.one]; rfl
  refine ⟨_, rfl, p, C, _, _, true, rfl, hp3, W.k, fun u r => r, W.ve, true, rfl, iteF ?_⟩
  refine ⟨_, rfl, .inl ⟨rfl, _, SqL.of upd_same⟩, l, [b0, b1, b2, b3, b4, b5, b6, b7], true, j, rfl, rfl, upd_same, W.at_, W.no, ?_⟩
  refine ⟨by show 2 ≤ sizeLine; decide, fun t ht => ?_⟩
  have g4 := same_new ht (.tup [.str "refused", .int j])
  exact q t _ (gw.trans g4) (by cases z : H t with | none => rfl | some o => exact absurd ((gw _ _ z).symm.trans ht) (by simp)) upd_same
end
end Be
set_option Elab.async false
set_option linter.all false
set_option maxRecDepth 100000
namespace Be
open PySem L2
def tryB (st : Stmt) : List Stmt := match defBody st with | [.Try b _ _ _ _] => b | _ => []
theorem _root_.L2.FnOk.or {P : Program} {w : World} {K : PySem.W.Frag} {mg : Str → Option Value} {base : Heap} {CX : CXT} {k : Nat} {f : Addr} {fd : FuncData} {ps : List Str} {sp sp' : Sp} (F : FnOk P w K mg base CX k f fd ps sp) (G : FnOk P w K mg base CX k f fd ps sp') :
    FnOk P w K mg base CX k f fd ps (fun vs H Q E => sp vs H Q E ∨ sp' vs H Q E) :=
  ⟨fun vs H Q E h => h.elim (F.len vs H Q E) (G.len vs H Q E), fun A outer s H args us vs Q E hr he hb hv h => h.elim (F.run A outer s H args us vs Q E hr he hb hv) (G.run A outer s H args us vs Q E hr he hb hv)⟩
/-- what is asked of the errors -/
structure Errs {K : PySem.W.Frag} {mg : Str → Option Value} (T : Txt K mg) : Prop where
  n0 : IsAt K T.e_NoWorld.C [T.e_NoWorld.C, T.e_NoOrder.C, T.e_NoLengths.C, T.e_NoWork.C, T.e_NoSide.C, T.e_Never.C, T.e_TooMany.C, T.e_NoStep.C] [true, false, false, false, false, false, false, false] 0
  u0 : PySem.W.mroIn K T.e_NoWorld.C (.ref T.e_BenchError.C) = some true
  ba : PySem.W.mroIn K T.e_BenchError.C (.type "BaseException") = some true
def fl (v e : V) : List (Str × V) := putF "ended" e (putF "world" v [])
theorem fl_e (v e : V) : (fl v e).lookup ("ended" : Str) = some e := by
  unfold fl
  rw [lookup_putF, if_pos rfl]
theorem fl_no (v e : V) {m : Str} (h1 : ¬ m = "ended") (h2 : ¬ m = "world") : (fl v e).lookup m = none := by
  unfold fl
  rw [lookup_putF, if_neg h1, lookup_putF, if_neg h2]
  rfl
section
variable {P : Program} {w : World} {K : PySem.W.Frag} {mg : Str → Option Value} {base : Heap}
def sp_wi (T : Txt K mg) : Sp := fun vs H Q _ => ∃ (p dx : Addr) (v : V) (W : Wd), vs = [.ref p, v] ∧ H p = some (.ins T.c_Watch.C dx []) ∧ Rep H v (encW W) ∧ W.Ok ∧ ∀ (e : Addr) (H' : Hp), H e = none → H' p = some (.ins T.c_Watch.C dx (fl v (.ref e))) → H' e = some (.tup []) → SameX p H H' → Q .non H'
theorem ok_Watch_init (T : Txt K mg) : FnOk P w K mg base (CXr P w) 6 T.Watch_init.a T.Watch_init.d ["self", "world"] (sp_wi T) := by
  refine T.Watch_init.F.okR sc_Watch_init (fun vs H Q E h => ?_) (fun cdv A outer s H vs Q E hr h => ?_)
  · obtain ⟨p, dx, v, W, rfl, _⟩ := h; rfl
  obtain ⟨p, dx, v, W, rfl, hp, hW, hok, q⟩ := h
  refine ⟨_, (pss_cons (ps_expr (pe_call (ok_check_world T) (hr.mono (by decide)) rfl T.check_world.m T.check_world.F.kp T.check_world.b .nil passR (pa_cons (pv 1) pa_nil))) (pss_cons (ps_fld (pv 0) (pv 1) rfl) (pss_one (ps_fld (pv 0) (pe_tup pa_nil) rfl)))), ?_⟩
  refine ⟨_, rfl, v, encW W, rfl, hW, fun _ H1 g1 => ?_, fun z => by rw [isW_enc hok] at z; cases z⟩
  have hp1 := g1 _ _ hp
  refine ⟨_, rfl, _, rfl, p, T.c_Watch.C, dx, [], rfl, hp1, T.c_Watch.cl, T.na_Watch_world, (by show 0 < 1000; decide), ?_⟩
  refine ⟨Nat.zero_le _, fun e he => ?_⟩
  have pe : p ≠ e := fun z => by rw [z, ← z, upd_same] at he; cases he
  refine ⟨_, rfl, p, T.c_Watch.C, dx, _, rfl, (by rw [upd_ne pe]; exact upd_same), T.c_Watch.cl, T.na_Watch_ended, (by show 1 < 1000; decide), ?_⟩
  refine q e _ ?_ upd_same (by rw [upd_ne (Ne.symm pe)]; exact upd_same) ?_
  · cases z : H e with
    | none => rfl
    | some ob => rw [upd_ne (Ne.symm pe), g1 _ _ z] at he; cases he
  · intro b ob hb z
    have z1 := g1 _ _ z
    have be : b ≠ e := fun y => by rw [y] at z1; rw [upd_ne (Ne.symm pe), z1] at he; cases he
    rw [upd_ne hb, upd_ne be, upd_ne hb]
    exact z1
/-- a watch stands there -/
def WAt (T : Txt K mg) (H : Hp) (p : Addr) (v e : V) : Prop := ∃ dx, H p = some (.ins T.c_Watch.C dx (fl v e))
def sp_wo (T : Txt K mg) : Sp := fun vs H Q _ => ∃ (p : Addr) (v e : V), vs = [.ref p] ∧ WAt T H p v e ∧ Q e H
theorem ok_Watch_order (T : Txt K mg) : FnOk P w K mg base (CXr P w) 1 T.Watch_order.a T.Watch_order.d ["self"] (sp_wo T) := by
  refine T.Watch_order.F.okN sc_Watch_order (fun vs H Q E h => ?_) (fun cdv A outer s H vs Q E hr h => ?_)
  · obtain ⟨p, v, e, rfl, _⟩ := h; rfl
  obtain ⟨p, v, e, rfl, ⟨dx, hp⟩, q⟩ := h
  refine ⟨_, (pss_one (ps_ret (pe_fld (pv 0) rfl))), ?_⟩
  exact ⟨_, rfl, p, T.c_Watch.C, dx, _, _, rfl, hp, T.c_Watch.cl, T.na_Watch_ended, fl_e _ _, q⟩
def sp_wib (T : Txt K mg) : Sp := fun vs H _ E => ∃ (p : Addr) (v : V) (dw : PyData), vs = [.ref p, v] ∧ Rep H v dw ∧ isWD dw = false ∧ ∀ H', Same H H' → E (.ref T.e_NoWorld.C) none H'
theorem ok_Watch_init_b (T : Txt K mg) : FnOk P w K mg base (CXr P w) 6 T.Watch_init.a T.Watch_init.d ["self", "world"] (sp_wib T) := by
  refine T.Watch_init.F.okR sc_Watch_init (fun vs H Q E h => ?_) (fun cdv A outer s H vs Q E hr h => ?_)
  · obtain ⟨p, v, dw, rfl, _⟩ := h; rfl
  obtain ⟨p, v, dw, rfl, hv, hf, q⟩ := h
  refine ⟨_, (pss_cons (ps_expr (pe_call (ok_check_world T) (hr.mono (by decide)) rfl T.check_world.m T.check_world.F.kp T.check_world.b .nil passR (pa_cons (pv 1) pa_nil))) pss_any), ?_⟩
  exact ⟨_, rfl, v, dw, rfl, hv, (fun z => by rw [hf] at z; cases z), fun _ => q⟩
theorem ok_wi2 (T : Txt K mg) : FnOk P w K mg base (CXr P w) 6 T.Watch_init.a T.Watch_init.d ["self", "world"] (fun vs H Q E => sp_wib T vs H Q E ∨ sp_wi T vs H Q E) := (ok_Watch_init_b T).or (ok_Watch_init T)
def sp_ask : Sp := fun vs H Q _ => ∃ (v : V) (i : Int) (dw : PyData), vs = [.int i, v, .non] ∧ 0 ≤ i ∧ i < 16 ∧ Rep H v dw ∧ isWD dw = false ∧
  ∀ (r : Addr) (H' : Hp), Same H H' → H r = none → H' r = some (.tup [.str "refused", .int 0]) → Q (.ref r) H'
set_option maxHeartbeats 1000000 in
theorem ok_law_ask (T : Txt K mg) (Z : Errs T) : FnOk P w K mg base (CXr P w) 13 T.law_ask.a T.law_ask.d ["_law_what", "_law_world_here", "_law_thing"] (sp_ask) := by
  refine T.law_ask.F.okT sc_law_ask (fun vs H Q E h => ?_) (fun cdv A outer s H vs Q E hr h => ?_)
  · obtain ⟨v, i, dw, rfl, _⟩ := h; rfl
  obtain ⟨v, i, dw, rfl, hi0, hi16, hv, hf, q⟩ := h
  refine ⟨_, pss0_one (fun s1 σ H1 D I hT => try_ok (P := P) (w := w) (K := K) (mg := mg) (base := base) (N := ["_law_what", "_law_world_here", "_law_thing", "_law_e"]) (qual := "_law_ask") (scope := defScope (top 83)) (f := T.law_ask.a) (cd := cdv) (A := A) (outer := outer) (s := s) (H := H) (E := E) (body := tryB (top 83)) (n := "_law_e") (xB := "BenchError") (xW := "_law_which") (j := 3) (fun E' xe' ps => (pss_cons (ps_if (pt_cmpR op_lt (pv 0) pe_int (nomark _)) (pss_one (ps_ret (pe_callX P w K mg base (k := 12) (hr.mono (by decide)) ps (pe_ix (b_ix_list K) (pe_lst (pa_cons (pe_glob (v := .ref T.rules.a) rfl T.rules.m rfl) (pa_cons (pe_glob (v := .ref T.could.a) rfl T.could.m rfl) (pa_cons (pe_glob (v := .ref T.moments.a) rfl T.moments.m rfl) (pa_cons (pe_glob (v := .ref T.ring.a) rfl T.ring.m rfl) (pa_cons (pe_glob (v := .ref T.lengths.a) rfl T.lengths.m rfl) (pa_cons (pe_glob (v := .ref T.may_end.a) rfl T.may_end.m rfl) pa_nil))))))) (pv 0) (fun _ _ => rfl)) (pa_cons (pv 1) (pa_cons (pv 2) pa_nil))))) pss_nil) (pss_cons (ps_if (pt_cmpR op_lt (pv 0) pe_int (nomark _)) (pss_one (ps_ret (pe_callX P w K mg base (k := 12) (hr.mono (by decide)) ps (pe_ix (b_ix_list K) (pe_lst (pa_cons (pe_glob (v := .ref T.are_moments.a) rfl T.are_moments.m rfl) (pa_cons (pe_glob (v := .ref T.is_ring.a) rfl T.is_ring.m rfl) (pa_cons (pe_glob (v := .ref T.length.a) rfl T.length.m rfl) pa_nil)))) (pe_op op_sub (pv 0) pe_int) (fun _ _ => rfl)) (pa_cons (pv 1) (pa_cons (pv 2) (pa_cons (pv 2) pa_nil)))))) pss_nil) (pss_cons (ps_if (pt_cmpR op_eq (pv 0) pe_int (nomark _)) (pss_one (ps_ret (pe_call (ok_played_b T) (hr.mono (by decide)) rfl T.played.m T.played.F.kp T.played.b .nil ps (pa_cons (pv 1) (pa_cons (pv 2) pa_nil))))) pss_nil) (pss_cons (ps_if (pt_cmpR op_eq (pv 0) pe_int (nomark _)) (pss_one (ps_ret (pe_call (ok_all_orders_b T) (hr.mono (by decide)) rfl T.all_orders.m T.all_orders.F.kp T.all_orders.b .nil ps (pa_cons (pv 1) pa_nil)))) pss_nil) (pss_cons (ps_if (pt_cmpR op_lt (pv 0) pe_int (nomark _)) (pss_one (ps_ret (pe_callX P w K mg base (k := 12) (hr.mono (by decide)) ps (pe_ix (b_ix_list K) (pe_lst (pa_cons (pe_glob (v := .ref T.chain.a) rfl T.chain.m rfl) (pa_cons (pe_glob (v := .ref T.shown.a) rfl T.shown.m rfl) pa_nil))) (pe_op op_sub (pv 0) pe_int) (fun _ _ => rfl)) (pa_cons (pv 1) (pa_cons (pv 2) (pa_cons (pv 2) (pa_cons (pv 2) pa_nil))))))) pss_nil) (pss_cons (ps_if (pt_cmpR op_eq (pv 0) pe_int (nomark _)) (pss_one (ps_ret (pe_call (ok_is_chain_b T) (hr.mono (by decide)) rfl T.is_chain.m T.is_chain.F.kp T.is_chain.b .nil ps (pa_cons (pv 1) (pa_cons (pv 2) (pa_cons (pv 2) (pa_cons (pv 2) (pa_cons (pv 2) (pa_cons (pv 2) pa_nil))))))))) pss_nil) (pss_one (ps_ret (pe_ifExp (pt_cmpR op_eq (pv 0) pe_int (nomark _)) (pe_call (ok_benches_b T) (hr.mono (by decide)) rfl T.benches.m T.benches.F.kp T.benches.b .nil ps (pa_cons (pv 1) (pa_cons (pv 2) pa_nil))) (pe_meth0 (pe_make (MthAt.mk_ T.c_Watch T.Watch_init) (ok_wi2 T) (hr.mono (by decide)) rfl T.c_Watch.m T.Watch_init.b .nil ps (pa_cons (pv 1) pa_nil)) T.c_Watch.cl T.Watch_order.M (ok_Watch_order T) (hr.mono (by decide)) T.Watch_order.b .nil ps))))))))))) T.e_BenchError.m rfl T.e_BenchError.q Z.ba (ok_law_which T) (hr.h.mono (by decide)) rfl T.law_which.m T.law_which.F.kp T.law_which.b sc_law_ask.nd rfl rfl (by decide) (by decide) (by decide) (by decide) I hT), ?_⟩
  refine ⟨fun x _ H' => x = .ref T.e_NoWorld.C ∧ Same H H', ?_, fun C H' hE => ?_⟩
  · have hc : i = 0 ∨ i = 1 ∨ i = 2 ∨ i = 3 ∨ i = 4 ∨ i = 5 ∨ i = 6 ∨ i = 7 ∨ i = 8 ∨ i = 9 ∨ i = 10 ∨ i = 11 ∨ i = 12 ∨ i = 13 ∨ i = 14 ∨ i = 15 := by omega
    rcases hc with rfl | rfl | rfl | rfl | rfl | rfl | rfl | rfl | rfl | rfl | rfl | rfl | rfl | rfl | rfl | rfl
    · refine ⟨_, rfl, _, _, rfl, rfl, _, rfl, if_t (by decide) ?_⟩
      refine ⟨by show 6 ≤ sizeLine; decide, fun l hlf => ?_⟩
      have gl := same_new hlf (.lst [.ref T.rules.a, .ref T.could.a, .ref T.moments.a, .ref T.ring.a, .ref T.lengths.a, .ref T.may_end.a])
      refine ⟨_, rfl, l, _, _, _, rfl, rfl, SqL.of upd_same, rfl, T.rules.a, T.rules.d, _, _, rfl, (ru_ref T).mono (by decide), T.rules.F.kp, T.rules.b, _, rfl, _, rfl, ?_⟩
      exact ⟨v, _, dw, rfl, rfl, hv.mono gl, hf, fun H' g => ⟨rfl, gl.trans g⟩⟩
    · refine ⟨_, rfl, _, _, rfl, rfl, _, rfl, if_t (by decide) ?_⟩
      refine ⟨by show 6 ≤ sizeLine; decide, fun l hlf => ?_⟩
      have gl := same_new hlf (.lst [.ref T.rules.a, .ref T.could.a, .ref T.moments.a, .ref T.ring.a, .ref T.lengths.a, .ref T.may_end.a])
      refine ⟨_, rfl, l, _, _, _, rfl, rfl, SqL.of upd_same, rfl, T.could.a, T.could.d, _, _, rfl, (ok_could_b T).mono (by decide), T.could.F.kp, T.could.b, _, rfl, _, rfl, ?_⟩
      exact ⟨v, _, dw, rfl, rfl, hv.mono gl, hf, fun H' g => ⟨rfl, gl.trans g⟩⟩
    · refine ⟨_, rfl, _, _, rfl, rfl, _, rfl, if_t (by decide) ?_⟩
      refine ⟨by show 6 ≤ sizeLine; decide, fun l hlf => ?_⟩
      have gl := same_new hlf (.lst [.ref T.rules.a, .ref T.could.a, .ref T.moments.a, .ref T.ring.a, .ref T.lengths.a, .ref T.may_end.a])
      refine ⟨_, rfl, l, _, _, _, rfl, rfl, SqL.of upd_same, rfl, T.moments.a, T.moments.d, _, _, rfl, (ok_moments_b T).mono (by decide), T.moments.F.kp, T.moments.b, _, rfl, _, rfl, ?_⟩
      exact ⟨v, _, dw, rfl, rfl, hv.mono gl, hf, fun H' g => ⟨rfl, gl.trans g⟩⟩
    · refine ⟨_, rfl, _, _, rfl, rfl, _, rfl, if_t (by decide) ?_⟩
      refine ⟨by show 6 ≤ sizeLine; decide, fun l hlf => ?_⟩
      have gl := same_new hlf (.lst [.ref T.rules.a, .ref T.could.a, .ref T.moments.a, .ref T.ring.a, .ref T.lengths.a, .ref T.may_end.a])
      refine ⟨_, rfl, l, _, _, _, rfl, rfl, SqL.of upd_same, rfl, T.ring.a, T.ring.d, _, _, rfl, (ok_ring_b T).mono (by decide), T.ring.F.kp, T.ring.b, _, rfl, _, rfl, ?_⟩
      exact ⟨v, _, dw, rfl, rfl, hv.mono gl, hf, fun H' g => ⟨rfl, gl.trans g⟩⟩
    · refine ⟨_, rfl, _, _, rfl, rfl, _, rfl, if_t (by decide) ?_⟩
      refine ⟨by show 6 ≤ sizeLine; decide, fun l hlf => ?_⟩
      have gl := same_new hlf (.lst [.ref T.rules.a, .ref T.could.a, .ref T.moments.a, .ref T.ring.a, .ref T.lengths.a, .ref T.may_end.a])
      refine ⟨_, rfl, l, _, _, _, rfl, rfl, SqL.of upd_same, rfl, T.lengths.a, T.lengths.d, _, _, rfl, (ok_lengths_b T).mono (by decide), T.lengths.F.kp, T.lengths.b, _, rfl, _, rfl, ?_⟩
      exact ⟨v, _, dw, rfl, rfl, hv.mono gl, hf, fun H' g => ⟨rfl, gl.trans g⟩⟩
    · refine ⟨_, rfl, _, _, rfl, rfl, _, rfl, if_t (by decide) ?_⟩
      refine ⟨by show 6 ≤ sizeLine; decide, fun l hlf => ?_⟩
      have gl := same_new hlf (.lst [.ref T.rules.a, .ref T.could.a, .ref T.moments.a, .ref T.ring.a, .ref T.lengths.a, .ref T.may_end.a])
      refine ⟨_, rfl, l, _, _, _, rfl, rfl, SqL.of upd_same, rfl, T.may_end.a, T.may_end.d, _, _, rfl, (ok_may_end_b T).mono (by decide), T.may_end.F.kp, T.may_end.b, _, rfl, _, rfl, ?_⟩
      exact ⟨v, _, dw, rfl, rfl, hv.mono gl, hf, fun H' g => ⟨rfl, gl.trans g⟩⟩
    · refine ⟨_, rfl, _, _, rfl, rfl, _, rfl, if_f (by decide) ⟨_, rfl, _, _, rfl, rfl, _, rfl, if_t (by decide) ?_⟩⟩
      refine ⟨by show 3 ≤ sizeLine; decide, fun l hlf => ?_⟩
      have gl := same_new hlf (.lst [.ref T.are_moments.a, .ref T.is_ring.a, .ref T.length.a])
      refine ⟨_, rfl, _, _, rfl, rfl, l, _, _, _, rfl, rfl, SqL.of upd_same, rfl, T.are_moments.a, T.are_moments.d, _, _, rfl, (ok_are_moments_b T).mono (by decide), T.are_moments.F.kp, T.are_moments.b, _, rfl, _, rfl, _, rfl, ?_⟩
      exact ⟨v, _, dw, rfl, rfl, hv.mono gl, hf, fun H' g => ⟨rfl, gl.trans g⟩⟩
    · refine ⟨_, rfl, _, _, rfl, rfl, _, rfl, if_f (by decide) ⟨_, rfl, _, _, rfl, rfl, _, rfl, if_t (by decide) ?_⟩⟩
      refine ⟨by show 3 ≤ sizeLine; decide, fun l hlf => ?_⟩
      have gl := same_new hlf (.lst [.ref T.are_moments.a, .ref T.is_ring.a, .ref T.length.a])
      refine ⟨_, rfl, _, _, rfl, rfl, l, _, _, _, rfl, rfl, SqL.of upd_same, rfl, T.is_ring.a, T.is_ring.d, _, _, rfl, (ok_is_ring_b T).mono (by decide), T.is_ring.F.kp, T.is_ring.b, _, rfl, _, rfl, _, rfl, ?_⟩
      exact ⟨v, _, dw, rfl, rfl, hv.mono gl, hf, fun H' g => ⟨rfl, gl.trans g⟩⟩
    · refine ⟨_, rfl, _, _, rfl, rfl, _, rfl, if_f (by decide) ⟨_, rfl, _, _, rfl, rfl, _, rfl, if_t (by decide) ?_⟩⟩
      refine ⟨by show 3 ≤ sizeLine; decide, fun l hlf => ?_⟩
      have gl := same_new hlf (.lst [.ref T.are_moments.a, .ref T.is_ring.a, .ref T.length.a])
      refine ⟨_, rfl, _, _, rfl, rfl, l, _, _, _, rfl, rfl, SqL.of upd_same, rfl, T.length.a, T.length.d, _, _, rfl, (ok_length_b T).mono (by decide), T.length.F.kp, T.length.b, _, rfl, _, rfl, _, rfl, ?_⟩
      exact ⟨v, _, dw, rfl, rfl, hv.mono gl, hf, fun H' g => ⟨rfl, gl.trans g⟩⟩
    · refine ⟨_, rfl, _, _, rfl, rfl, _, rfl, if_f (by decide) ⟨_, rfl, _, _, rfl, rfl, _, rfl, if_f (by decide) ⟨_, rfl, rfl, _, rfl, if_t (by decide) ?_⟩⟩⟩
      exact ⟨_, rfl, _, rfl, v, _, dw, rfl, rfl, hv, hf, fun H' g => ⟨rfl, g⟩⟩
    · refine ⟨_, rfl, _, _, rfl, rfl, _, rfl, if_f (by decide) ⟨_, rfl, _, _, rfl, rfl, _, rfl, if_f (by decide) ⟨_, rfl, rfl, _, rfl, if_f (by decide) ⟨_, rfl, rfl, _, rfl, if_t (by decide) ?_⟩⟩⟩⟩
      exact ⟨_, rfl, v, dw, rfl, hv, hf, fun H' g => ⟨rfl, g⟩⟩
    · refine ⟨_, rfl, _, _, rfl, rfl, _, rfl, if_f (by decide) ⟨_, rfl, _, _, rfl, rfl, _, rfl, if_f (by decide) ⟨_, rfl, rfl, _, rfl, if_f (by decide) ⟨_, rfl, rfl, _, rfl, if_f (by decide) ⟨_, rfl, _, _, rfl, rfl, _, rfl, if_t (by decide) ?_⟩⟩⟩⟩⟩
      refine ⟨by show 2 ≤ sizeLine; decide, fun l hlf => ?_⟩
      have gl := same_new hlf (.lst [.ref T.chain.a, .ref T.shown.a])
      refine ⟨_, rfl, _, _, rfl, rfl, l, _, _, _, rfl, rfl, SqL.of upd_same, rfl, T.chain.a, T.chain.d, _, _, rfl, (ok_chain_b T).mono (by decide), T.chain.F.kp, T.chain.b, _, rfl, _, rfl, _, rfl, _, rfl, ?_⟩
      exact ⟨v, _, dw, rfl, rfl, hv.mono gl, hf, fun H' g => ⟨rfl, gl.trans g⟩⟩
    · refine ⟨_, rfl, _, _, rfl, rfl, _, rfl, if_f (by decide) ⟨_, rfl, _, _, rfl, rfl, _, rfl, if_f (by decide) ⟨_, rfl, rfl, _, rfl, if_f (by decide) ⟨_, rfl, rfl, _, rfl, if_f (by decide) ⟨_, rfl, _, _, rfl, rfl, _, rfl, if_t (by decide) ?_⟩⟩⟩⟩⟩
      refine ⟨by show 2 ≤ sizeLine; decide, fun l hlf => ?_⟩
      have gl := same_new hlf (.lst [.ref T.chain.a, .ref T.shown.a])
      refine ⟨_, rfl, _, _, rfl, rfl, l, _, _, _, rfl, rfl, SqL.of upd_same, rfl, T.shown.a, T.shown.d, _, _, rfl, (ok_shown_b T).mono (by decide), T.shown.F.kp, T.shown.b, _, rfl, _, rfl, _, rfl, _, rfl, ?_⟩
      exact ⟨v, _, dw, rfl, rfl, hv.mono gl, hf, fun H' g => ⟨rfl, gl.trans g⟩⟩
    · refine ⟨_, rfl, _, _, rfl, rfl, _, rfl, if_f (by decide) ⟨_, rfl, _, _, rfl, rfl, _, rfl, if_f (by decide) ⟨_, rfl, rfl, _, rfl, if_f (by decide) ⟨_, rfl, rfl, _, rfl, if_f (by decide) ⟨_, rfl, _, _, rfl, rfl, _, rfl, if_f (by decide) ⟨_, rfl, rfl, _, rfl, if_t (by decide) ?_⟩⟩⟩⟩⟩⟩
      exact ⟨_, rfl, _, rfl, _, rfl, _, rfl, _, rfl, _, rfl, v, _, dw, rfl, rfl, hv, hf, fun H' g => ⟨rfl, g⟩⟩
    · refine ⟨_, rfl, _, _, rfl, rfl, _, rfl, if_f (by decide) ⟨_, rfl, _, _, rfl, rfl, _, rfl, if_f (by decide) ⟨_, rfl, rfl, _, rfl, if_f (by decide) ⟨_, rfl, rfl, _, rfl, if_f (by decide) ⟨_, rfl, _, _, rfl, rfl, _, rfl, if_f (by decide) ⟨_, rfl, rfl, _, rfl, if_f (by decide) ⟨_, rfl, rfl, _, rfl, if_t (by decide) ?_⟩⟩⟩⟩⟩⟩⟩
      exact ⟨_, rfl, _, rfl, v, _, dw, rfl, rfl, hv, hf, fun H' g => ⟨rfl, g⟩⟩
    · refine ⟨_, rfl, _, _, rfl, rfl, _, rfl, if_f (by decide) ⟨_, rfl, _, _, rfl, rfl, _, rfl, if_f (by decide) ⟨_, rfl, rfl, _, rfl, if_f (by decide) ⟨_, rfl, rfl, _, rfl, if_f (by decide) ⟨_, rfl, _, _, rfl, rfl, _, rfl, if_f (by decide) ⟨_, rfl, rfl, _, rfl, if_f (by decide) ⟨_, rfl, rfl, _, rfl, if_f (by decide) ?_⟩⟩⟩⟩⟩⟩⟩
      refine ⟨_, rfl, fun x dx hx hdx hne => .inl ⟨x, v, dw, rfl, ?_, hf, fun H' g => ⟨rfl, ?_⟩⟩⟩
      · exact (hv.mono (same_new hdx _)).mono (same_new (by rw [upd_ne (Ne.symm hne)]; exact hx) _)
      · exact (same_new hdx _).trans ((same_new (by rw [upd_ne (Ne.symm hne)]; exact hx) _).trans g)
  · obtain ⟨e, g⟩ := hE
    injection e with e
    subst e
    refine ⟨⟨_, _, T.e_NoWorld.q, Z.u0⟩, fun p hp => ?_⟩
    have g2 := g.trans (same_new hp (excO p T.e_NoWorld.C))
    exact ⟨p, _, true, false, false, false, false, false, false, false, 0, rfl, upd_same, Z.n0, fun r H'' g3 hr3 hR => q r H'' (g2.trans g3) (g2.free hr3) hR⟩
def sp_askg : Sp := fun vs H Q _ => ∃ (v : V) (W : Wd), vs = [.int 15, v, .non] ∧ Rep H v (encW W) ∧ W.Ok ∧ ∀ (e : Addr) (H' : Hp), Same H H' → H' e = some (.tup []) → Q (.ref e) H'
set_option maxHeartbeats 1000000 in
theorem ok_law_askg (T : Txt K mg) (Z : Errs T) : FnOk P w K mg base (CXr P w) 13 T.law_ask.a T.law_ask.d ["_law_what", "_law_world_here", "_law_thing"] (sp_askg) := by
  refine T.law_ask.F.okT sc_law_ask (fun vs H Q E h => ?_) (fun cdv A outer s H vs Q E hr h => ?_)
  · obtain ⟨v, W, rfl, _⟩ := h; rfl
  obtain ⟨v, W, rfl, hW, hok, q⟩ := h
  refine ⟨_, pss0_one (fun s1 σ H1 D I hT => try_ok (P := P) (w := w) (K := K) (mg := mg) (base := base) (N := ["_law_what", "_law_world_here", "_law_thing", "_law_e"]) (qual := "_law_ask") (scope := defScope (top 83)) (f := T.law_ask.a) (cd := cdv) (A := A) (outer := outer) (s := s) (H := H) (E := E) (body := tryB (top 83)) (n := "_law_e") (xB := "BenchError") (xW := "_law_which") (j := 3) (fun E' xe' ps => (pss_cons (ps_if (pt_cmpR op_lt (pv 0) pe_int (nomark _)) (pss_one (ps_ret (pe_callX P w K mg base (k := 12) (hr.mono (by decide)) ps (pe_ix (b_ix_list K) (pe_lst (pa_cons (pe_glob (v := .ref T.rules.a) rfl T.rules.m rfl) (pa_cons (pe_glob (v := .ref T.could.a) rfl T.could.m rfl) (pa_cons (pe_glob (v := .ref T.moments.a) rfl T.moments.m rfl) (pa_cons (pe_glob (v := .ref T.ring.a) rfl T.ring.m rfl) (pa_cons (pe_glob (v := .ref T.lengths.a) rfl T.lengths.m rfl) (pa_cons (pe_glob (v := .ref T.may_end.a) rfl T.may_end.m rfl) pa_nil))))))) (pv 0) (fun _ _ => rfl)) (pa_cons (pv 1) (pa_cons (pv 2) pa_nil))))) pss_nil) (pss_cons (ps_if (pt_cmpR op_lt (pv 0) pe_int (nomark _)) (pss_one (ps_ret (pe_callX P w K mg base (k := 12) (hr.mono (by decide)) ps (pe_ix (b_ix_list K) (pe_lst (pa_cons (pe_glob (v := .ref T.are_moments.a) rfl T.are_moments.m rfl) (pa_cons (pe_glob (v := .ref T.is_ring.a) rfl T.is_ring.m rfl) (pa_cons (pe_glob (v := .ref T.length.a) rfl T.length.m rfl) pa_nil)))) (pe_op op_sub (pv 0) pe_int) (fun _ _ => rfl)) (pa_cons (pv 1) (pa_cons (pv 2) (pa_cons (pv 2) pa_nil)))))) pss_nil) (pss_cons (ps_if (pt_cmpR op_eq (pv 0) pe_int (nomark _)) (pss_one (ps_ret (pe_call (ok_played_b T) (hr.mono (by decide)) rfl T.played.m T.played.F.kp T.played.b .nil ps (pa_cons (pv 1) (pa_cons (pv 2) pa_nil))))) pss_nil) (pss_cons (ps_if (pt_cmpR op_eq (pv 0) pe_int (nomark _)) (pss_one (ps_ret (pe_call (ok_all_orders_b T) (hr.mono (by decide)) rfl T.all_orders.m T.all_orders.F.kp T.all_orders.b .nil ps (pa_cons (pv 1) pa_nil)))) pss_nil) (pss_cons (ps_if (pt_cmpR op_lt (pv 0) pe_int (nomark _)) (pss_one (ps_ret (pe_callX P w K mg base (k := 12) (hr.mono (by decide)) ps (pe_ix (b_ix_list K) (pe_lst (pa_cons (pe_glob (v := .ref T.chain.a) rfl T.chain.m rfl) (pa_cons (pe_glob (v := .ref T.shown.a) rfl T.shown.m rfl) pa_nil))) (pe_op op_sub (pv 0) pe_int) (fun _ _ => rfl)) (pa_cons (pv 1) (pa_cons (pv 2) (pa_cons (pv 2) (pa_cons (pv 2) pa_nil))))))) pss_nil) (pss_cons (ps_if (pt_cmpR op_eq (pv 0) pe_int (nomark _)) (pss_one (ps_ret (pe_call (ok_is_chain_b T) (hr.mono (by decide)) rfl T.is_chain.m T.is_chain.F.kp T.is_chain.b .nil ps (pa_cons (pv 1) (pa_cons (pv 2) (pa_cons (pv 2) (pa_cons (pv 2) (pa_cons (pv 2) (pa_cons (pv 2) pa_nil))))))))) pss_nil) (pss_one (ps_ret (pe_ifExp (pt_cmpR op_eq (pv 0) pe_int (nomark _)) (pe_call (ok_benches_b T) (hr.mono (by decide)) rfl T.benches.m T.benches.F.kp T.benches.b .nil ps (pa_cons (pv 1) (pa_cons (pv 2) pa_nil))) (pe_meth0 (pe_make (MthAt.mk_ T.c_Watch T.Watch_init) (ok_wi2 T) (hr.mono (by decide)) rfl T.c_Watch.m T.Watch_init.b .nil ps (pa_cons (pv 1) pa_nil)) T.c_Watch.cl T.Watch_order.M (ok_Watch_order T) (hr.mono (by decide)) T.Watch_order.b .nil ps))))))))))) T.e_BenchError.m rfl T.e_BenchError.q Z.ba (ok_law_which T) (hr.h.mono (by decide)) rfl T.law_which.m T.law_which.F.kp T.law_which.b sc_law_ask.nd rfl rfl (by decide) (by decide) (by decide) (by decide) I hT), ?_⟩
  refine ⟨fun _ _ _ => False, ?_, fun C H' hE => hE.elim⟩
  refine ⟨_, rfl, _, _, rfl, rfl, _, rfl, if_f (by decide) ⟨_, rfl, _, _, rfl, rfl, _, rfl, if_f (by decide) ⟨_, rfl, rfl, _, rfl, if_f (by decide) ⟨_, rfl, rfl, _, rfl, if_f (by decide) ⟨_, rfl, _, _, rfl, rfl, _, rfl, if_f (by decide) ⟨_, rfl, rfl, _, rfl, if_f (by decide) ⟨_, rfl, rfl, _, rfl, if_f (by decide) ?_⟩⟩⟩⟩⟩⟩⟩
  refine ⟨_, rfl, fun x dx hx hdx hne => .inr ?_⟩
  have s1 := same_new hdx (.own x)
  have hx1 : upd H dx (.own x) x = none := by rw [upd_ne (Ne.symm hne)]; exact hx
  have s2 := same_new hx1 (.ins T.c_Watch.C dx [])
  refine ⟨x, dx, v, W, rfl, upd_same, (hW.mono s1).mono s2, hok, fun e H' fe hx' he' sx => ⟨rfl, x, dx, _, rfl, hx', fl_no _ _ (by decide +kernel) (by decide +kernel), x, v, .ref e, rfl, ⟨dx, hx'⟩, ?_⟩⟩
  refine q e H' (fun b u hb => ?_) he'
  have nb : b ≠ x := fun z => by rw [z, hx] at hb; cases hb
  exact sx _ _ nb (s2 _ _ (s1 _ _ hb))
end
end Be
set_option Elab.async false
set_option linter.all false
set_option maxRecDepth 100000
/-! t[::-1] of a tuple -/
namespace HT
open PySem PySem.Spec PyProof.Rows
section
variable {prog : Program} {w : World} {A : Around} {E : Value → Shared → Prop} {s : Shared}
theorem adjust_rev (n : Nat) : Builtin.Slice.sliceAdjust none none (-1) (n : Int) = ((n : Int) - 1, -1) := by
  unfold Builtin.Slice.sliceAdjust
  simp
theorem places_rev (n : Nat) : Builtin.Slice.slicePlaces ((n : Int) - 1) (-1) (-1) = n := by
  unfold Builtin.Slice.slicePlaces
  simp
  omega
theorem sliceApplied_rev {sl : Addr} {t : Tok} {n : Nat} {Q : Int × Int × Nat → Shared → Prop} (hs : s.heap.IsSliceOf sl .none .none (.int (-1) t))
    (h : Q ((n : Int) - 1, -1, n) s) : wpAny (model prog w) A (Builtin.Slice.sliceApplied (.ref sl) (pure (n : Int))) Q E s := by
  obtain ⟨os, hos, hcs, hds⟩ := id hs
  unfold Builtin.Slice.sliceApplied Builtin.Slice.sliceFields
  refine wpAny_bind (wpAny_bind (wpAny_field hos hds (x := .none) rfl (wpAny_bind (wpAny_field hos hds (x := .none) rfl (wpAny_bind (wpAny_field hos hds (x := .int (-1) t) rfl (wpAny_pure ?_)))))))
  refine wpAny_bind (slicePart_int ?_)
  show wpAny _ _ (if ((-1 : Int) == 0) = true then _ else _) _ _ s
  rw [if_neg (by decide)]
  refine wpAny_bind (slicePart_none (wpAny_bind (slicePart_none (wpAny_bind (wpAny_pure ?_)))))
  show wpAny _ _ (match Builtin.Slice.sliceAdjust none none (-1) (n : Int) with | (lo, hi) => pure (lo, (-1 : Int), Builtin.Slice.slicePlaces lo hi (-1))) _ _ s
  rw [adjust_rev n]
  show wpAny _ _ (pure ((n : Int) - 1, (-1 : Int), Builtin.Slice.slicePlaces ((n : Int) - 1) (-1) (-1))) _ _ s
  rw [places_rev]
  exact wpAny_pure h
theorem pick_rev (xs : Array Value) : ((List.range xs.size).filterMap fun (m : Nat) => xs[((xs.size : Int) - 1 + (m : Int) * (-1)).toNat]?) = xs.toList.reverse := by
  have : ∀ k, k ≤ xs.size → ((List.range k).filterMap fun (m : Nat) => xs[((xs.size : Int) - 1 + (m : Int) * (-1)).toNat]?) = xs.toList.reverse.take k := by
    intro k
    induction k with
    | zero => intro _; rfl
    | succ k ih =>
      intro hk
      have hl : k < xs.toList.reverse.length := by rw [List.length_reverse, Array.length_toList]; omega
      rw [List.range_succ, List.filterMap_append, ih (by omega), List.take_add_one, List.getElem?_eq_getElem hl]
      congr 1
      have e : ((xs.size : Int) - 1 + (k : Int) * (-1)).toNat = xs.size - 1 - k := by omega
      show List.filterMap _ [k] = _
      rw [List.filterMap_cons, e, Array.getElem?_eq_getElem (show xs.size - 1 - k < xs.size by omega)]
      show [_] = [_]
      rw [List.getElem_reverse]
      simp
  have h := this xs.size (Nat.le_refl _)
  rw [List.take_of_length_le (by rw [List.length_reverse, Array.length_toList]; exact Nat.le_refl _)] at h
  exact h
theorem getItem_tuple_rev {t sl : Addr} {items : Array Value} {tk : Tok} {Q : Value → Shared → Prop} (ht : IsTup s.heap t items) (hs : s.heap.IsSliceOf sl .none .none (.int (-1) tk))
    (h : Q (.ref s.heap.objs.size) { s with heap := s.heap.push { cls := .type "tuple", data := .seq items.toList.reverse.toArray } })
    (hsz : items.size ≤ sizeLine) : wpAny (model prog w) A (getItem (.ref t) (.ref sl)) Q E s := by
  have htake : sizeOk (.seq items.toList.reverse.toArray) := by
    show items.toList.reverse.toArray.size ≤ sizeLine
    rw [List.size_toArray, List.length_reverse, Array.length_toList]
    exact hsz
  obtain ⟨os, hos, hcs, hds⟩ := id hs
  have hTs : s.TypeIs (.ref sl) "slice" := ⟨os, hos, hcs⟩
  unfold getItem
  try with_reducible refine wpAny_holding ?_
  first | refine wpAny_bind (wpAny_pure ?_) | skip
  refine wpAny_bind (wpAny_sequenceKey ht.typeIs (by decide) ?_)
  refine wpAny_bind (wpAny_callSpecial?_slot (name := Str.ofString "__getitem__") ht.typeIs PyProof.Rows.slot_tuple_getitem
    (wpAny_call_entry PyProof.Rows.slot_tuple_getitem ht.typeIs entry_tuple_getitem ?_ (args_tuple_getitem _ _)))
  show wpAny _ _ (Builtin.Tuple.tupleItemsOf (.ref t) >>= _) _ _ s
  refine wpAny_bind (tupleItemsOf_ ht ?_)
  refine wpAny_bind (wpAny_typeOf hTs ?_)
  rw [if_pos (by decide)]
  refine wpAny_bind (sliceApplied_rev hs ?_)
  have hno : ¬ (((items.size : Int) - 1 == 0 && (-1 : Int) == 1 && items.size == items.size) = true) := by
    intro q
    rw [Bool.and_eq_true, Bool.and_eq_true] at q
    exact absurd q.1.2 (by decide)
  show wpAny _ _ (if ((items.size : Int) - 1 == 0 && (-1 : Int) == 1 && items.size == items.size) = true then _ else _) _ _ s
  rw [if_neg hno, pick_rev]
  first
    | exact wpAny_bind (m := Builtin.Tuple.tupleExact _) (wpAny_newObj_type (wpAny_pure ⟨_, rfl, wpAny_pure h⟩) htake)
    | exact wpAny_bind (m := Builtin.Tuple.tupleExact _) (wpAny_newObj_type (wpAny_bind (wpAny_pure (wpAny_pure ⟨_, rfl, wpAny_pure h⟩))) htake)
    | exact wpAny_bind (wpAny_bind (m := Builtin.Tuple.tupleExact _) (wpAny_newObj_type (wpAny_pure (wpAny_pure ⟨_, rfl, wpAny_pure h⟩)) htake))
    | exact wpAny_bind (wpAny_bind (m := Builtin.Tuple.tupleExact _) (wpAny_newObj_type (wpAny_pure ⟨_, rfl, wpAny_pure h⟩) htake))
end
end HT
namespace L2
open PySem PySem.Spec PyProof.Rows
section
variable {X : Cx} {e st : Expr} {te : TE} {ts : TO} {pos p2 : Pos}
def tSlR (te : TE) (ts : TO) : TE := fun σ H Q => te σ H fun x H1 => ts σ H1 fun k H2 => k = some (-1) ∧ ∃ a xs, x = .ref a ∧ H2 a = some (.tup xs) ∧ ∀ p, H2 p = none → Q (.ref p) (upd H2 p (.tup xs.reverse))
theorem vals_rev {xs : List V} {us : List Value} (r : Vals xs us) : Vals xs.reverse us.reverse := by
  induction r with
  | nil => exact .nil
  | cons h t ih => rw [List.reverse_cons, List.reverse_cons]; exact ih.append (.cons h .nil)
theorem pe_sliceR (he : PE X e te) (hst : PO X (some st) ts) (hlt : ∀ o r, letTemporaryGo e o r = pure () := by intros; rfl) : PE X (.Subscript e (.Slice none none (some st) p2) pos) (tSlR te ts) := by
  intro pins s σ H Q I h
  refine wpAny_Subscript_Slice_step (T := "tuple") PyProof.Rows.slot_tuple_getitem.lookup (thn (he pins s σ H _ I h) fun v s1 ⟨x, H1, I1, r1, q1⟩ => ?_) hlt
  refine wpAny_Slice ?_
  rw [evalPart_none]
  refine wpAny_pure (wpAny_pure (thn (hst pins s1 σ H1 _ I1 q1) fun vs s2 ⟨k, H2, I2, pk, q2⟩ => ?_))
  obtain ⟨rfl, a, xs, rfl, hx, q⟩ := q2
  cases r1
  cases pk with
  | int _ tk =>
  obtain ⟨its, r, ht, hz⟩ := I2.tuple (SqT.of hx)
  have hlen : its.toArray.size = xs.length := by rw [List.size_toArray]; exact r.length.symm
  have I3 : Inv X pins σ H2 { s2 with heap := s2.heap.push { cls := .type "slice", data := .fields #[.none, .none, .int (-1) tk] } } := I2.kept (t' := s2.toks) fun b ob q => Heap.get?_push_of_some _ q
  obtain ⟨its3, r3, ht3, hz3⟩ := I3.tuple (SqT.of hx)
  have hlen3 : its3.toArray.size = xs.length := by rw [List.size_toArray]; exact r3.length.symm
  refine ⟨ht3.typeIs, HT.getItem_tuple_rev ht3 (Heap.IsSliceOf.new ..) ?_ (by rw [hlen3]; exact hz3)⟩
  refine ⟨.ref _, _, I3.laid (t' := s2.toks) (o := .tup xs.reverse) (fun b ob q => Heap.get?_push_of_some _ q) (Nat.le_refl _) ?_, rfl, q _ (I3.hok.fresh (Nat.le_refl _))⟩
  exact ⟨by rw [List.length_reverse]; exact hz3, _, vals_rev r3, TupP.new _ _⟩
end
end L2
set_option Elab.async false
set_option linter.all false
set_option maxRecDepth 100000
namespace Be
open PySem L2
theorem two_of {ds : List PyData} (h : ds.length = 2) : ∃ a b, ds = [a, b] := by
  match ds, h with
  | [a, b], _ => exact ⟨a, b, rfl⟩
theorem reps_two {H : Hp} {vs : List V} {a b : PyData} (r : Reps H vs [a, b]) : ∃ x y, vs = [x, y] ∧ Rep H x a ∧ Rep H y b := by
  cases r with
  | cons h t =>
    cases t with
    | cons h2 t2 =>
      cases t2
      exact ⟨_, _, rfl, h, h2⟩
theorem isw_ne {ds : List PyData} (h : ds.length ≠ 2) : isWD (.tuple ds) = false := by
  match ds, h with
  | [], _ => rfl
  | [_], _ => rfl
  | [_, _], h => exact absurd rfl h
  | _ :: _ :: _ :: _, _ => rfl
theorem bow_ne {ds : List PyData} (h : ds.length ≠ 2) : bowD (.tuple ds) = false := by
  match ds, h with
  | [], _ => rfl
  | [d], _ => cases d <;> rfl
  | [_, _], h => exact absurd rfl h
  | d :: _ :: _ :: _, _ => cases d <;> rfl
section
variable {P : Program} {w : World} {K : PySem.W.Frag} {mg : Str → Option Value} {base : Heap}
def sp_whl : Sp := fun vs H Q _ => ∃ (x : V) (d : PyData) (lo hi : Int), vs = [x, .int lo, .int hi] ∧ Rep H x d ∧ Q (.bl (wholeIn d lo hi)) H
theorem ok_law_whole (T : Txt K mg) : FnOk P w K mg base (CXr P w) 1 T.law_whole.a T.law_whole.d ["_law_thing", "_law_low", "_law_most"] sp_whl := by
  refine T.law_whole.F.okN sc_law_whole (fun vs H Q E h => ?_) (fun cdv A outer s H vs Q E hr h => ?_)
  · obtain ⟨x, d, lo, hi, rfl, _⟩ := h; rfl
  obtain ⟨x, d, lo, hi, rfl, hx, q⟩ := h
  refine ⟨_, (pss_one (ps_ret (pe_and (pe_callB (call_isi kit_int) rfl T.n_isinstance bt_isinstance (pa_cons (pv 0) (pa_cons (pe_bltn (v := .ty "int") rfl T.n_int bt_int rfl) pa_nil))) (pe_and (pe_not (pe_callB (call_isi kit_bool) rfl T.n_isinstance bt_isinstance (pa_cons (pv 0) (pa_cons (pe_bltn (v := .ty "bool") rfl T.n_bool bt_bool rfl) pa_nil)))) (pe_one (pe_chain op_le op_le (pv 1) (pv 0) (pv 2))))))), ?_⟩
  refine ⟨_, rfl, x, d, rfl, hx, _, rfl, ?_⟩
  cases hx with
  | non => exact iteF q
  | str x => exact iteF q
  | lst e r => exact iteF q
  | tup e r => exact iteF q
  | bl b => exact iteT ⟨_, rfl, _, _, rfl, .bl b, _, rfl, _, rfl, iteF q⟩
  | int i =>
    refine iteT ⟨_, rfl, _, _, rfl, .int i, _, rfl, _, rfl, iteT ⟨_, rfl, _, rfl, _, _, rfl, rfl, _, rfl, ?_⟩⟩
    have e : wholeIn (.int i) lo hi = (decide (lo ≤ i) && decide (i ≤ hi)) := rfl
    rw [e] at q
    by_cases c : lo ≤ i
    · rw [decide_eq_true c, Bool.true_and] at q
      exact if_t (decide_eq_true c) ⟨_, rfl, _, _, rfl, rfl, q⟩
    · rw [decide_eq_false c, Bool.false_and] at q
      exact if_f (decide_eq_false c) q
def sp_isl : Sp := fun vs H Q _ => ∃ (v : V) (d : PyData), vs = [v] ∧ Rep H v d ∧ ∀ H', Same H H' → Q (.bl (isWD d)) H'
set_option maxHeartbeats 1000000 in
theorem ok_law_is_world (T : Txt K mg) : FnOk P w K mg base (CXr P w) 2 T.law_is_world.a T.law_is_world.d ["_law_thing"] sp_isl := by
  refine T.law_is_world.F.okN sc_law_is_world (fun vs H Q E h => ?_) (fun cdv A outer s H vs Q E hr h => ?_)
  · obtain ⟨v, d, rfl, _⟩ := h; rfl
  obtain ⟨v, d, rfl, hd, q⟩ := h
  refine ⟨_, (pss_cons (ps_if (PW.pt (pw_or (pt_not (pt_val (pe_callB (call_isi kit_tuple) rfl T.n_isinstance bt_isinstance (pa_cons (pv 0) (pa_cons (pe_bltn (v := .ty "tuple") rfl T.n_tuple bt_tuple rfl) pa_nil))))) (pw_or (pt_cmpR op_ne (pe_callB call_len_seq rfl T.n_len bt_len (pa_cons (pv 0) pa_nil)) pe_int (nomark _)) (pw_or1 (pt_not (pt_val (pe_call (ok_law_whole T) (hr.mono (by decide)) rfl T.law_whole.m T.law_whole.F.kp T.law_whole.b .nil passN (pa_cons (pe_ix ix_tup (pv 0) pe_int (fun _ _ => rfl)) (pa_cons pe_int (pa_cons pe_int pa_nil)))))))))) (pss_one (ps_ret pe_bl)) pss_nil) (pss_cons (ps_if (PW.pt (pw_or (pt_not (pt_val (pe_callB (call_isi kit_tuple) rfl T.n_isinstance bt_isinstance (pa_cons (pe_ix ix_tup (pv 0) pe_int (fun _ _ => rfl)) (pa_cons (pe_bltn (v := .ty "tuple") rfl T.n_tuple bt_tuple rfl) pa_nil))))) (pw_or1 (pt_not (pt_chain op_le op_le pe_int (pe_callB call_len_seq rfl T.n_len bt_len (pa_cons (pe_ix ix_tup (pv 0) pe_int (fun _ _ => rfl)) pa_nil)) pe_int))))) (pss_one (ps_ret pe_bl)) pss_nil) (pss_cons (ps_for PassesOwn.never rfl (pi_tup (pe_ix ix_tup (pv 0) pe_int (fun _ _ => rfl))) (pg_name (i := 1) sc_law_is_world.nd rfl (by first | exact Or.inl rfl | exact Or.inr rfl)) (pss_cons (ps_if (PW.pt (pw_or (pt_not (pt_val (pe_callB (call_isi kit_tuple) rfl T.n_isinstance bt_isinstance (pa_cons (pv 1) (pa_cons (pe_bltn (v := .ty "tuple") rfl T.n_tuple bt_tuple rfl) pa_nil))))) (pw_or (pt_cmpR op_ne (pe_callB call_len_seq rfl T.n_len bt_len (pa_cons (pv 1) pa_nil)) pe_int (nomark _)) (pw_or1 (pt_not (pt_val (pe_callB (call_allL rfl) rfl T.n_all bt_all (pa_cons (pe_comp (NB := ["_law_part"]) (js := [none]) rfl (blkOk_of rfl (by decide +kernel) rfl (by decide +kernel) (by decide +kernel) (by with_unfolding_all rfl) (by with_unfolding_all rfl) (by with_unfolding_all rfl) (by with_unfolding_all rfl)) (pi_tup (pv 1)) (fun _ _ _ _ => (pg_name (i := 0) (show (["_law_part"] : List Str).Nodup by decide +kernel) rfl (by first | exact Or.inl rfl | exact Or.inr rfl))) (fun _ _ _ _ => pf_nil) (fun _ _ _ _ => (pe_call (ok_law_whole T) (hr.mono (by decide)) rfl T.law_whole.m T.law_whole.F.kp T.law_whole.b .nil passN (pa_cons (pv 0) (pa_cons pe_int (pa_cons pe_int pa_nil)))))) pa_nil)))))))) (pss_one (ps_ret pe_bl)) pss_nil) (pss_one (ps_if (pt_cmpR op_gt (pe_ix ix_tup (pv 1) pe_int (fun _ _ => rfl)) (pe_ix ix_tup (pv 1) pe_int (fun _ _ => rfl)) (nomark _)) (pss_one (ps_ret pe_bl)) pss_nil)))) (pss_one (ps_ret pe_bl))))), ?_⟩
  refine ⟨_, rfl, v, d, rfl, hd, _, rfl, ?_⟩
  cases hd with
  | non => exact iteT (iteT (q H (Same.refl H)))
  | str x => exact iteT (iteT (q H (Same.refl H)))
  | bl b => exact iteT (iteT (q H (Same.refl H)))
  | int i => exact iteT (iteT (q H (Same.refl H)))
  | lst e r => exact iteT (iteT (q H (Same.refl H)))
  | @tup a vs ds e r =>
    have hl := r.length
    refine iteF ⟨_, rfl, a, _, rfl, .inr (SqT.of e), rfl, _, rfl, ?_⟩
    by_cases c2 : ds.length = 2
    case neg =>
      rw [isw_ne c2] at q
      exact if_t (show (!decide (V.int (vs.length : Int) = V.int 2)) = true by rw [decide_eq_false (fun z => c2 (by have := V.int.inj z; omega))]; rfl) (iteT (q H (Same.refl H)))
    obtain ⟨dx, dy, rfl⟩ := two_of c2
    obtain ⟨x, y, rfl, rx, ry⟩ := reps_two r
    refine if_f (by rfl) ?_
    have ew : isWD (.tuple [dx, dy]) = (wholeIn dx 1 4 && arBD dy) := rfl
    rw [ew] at q
    refine ⟨_, rfl, a, _, _, _, rfl, rfl, SqT.of e, rfl, x, dx, 1, 4, rfl, rx, _, rfl, ?_⟩
    cases h1 : wholeIn dx 1 4 with
    | false =>
      rw [h1, Bool.false_and] at q
      exact iteT (q H (Same.refl H))
    | true =>
    rw [h1, Bool.true_and] at q
    refine iteF ?_
    refine ⟨_, rfl, a, _, _, _, rfl, rfl, SqT.of e, rfl, y, dy, rfl, ry, _, rfl, ?_⟩
    cases ry with
    | non => exact iteT (iteT (q H (Same.refl H)))
    | str x => exact iteT (iteT (q H (Same.refl H)))
    | bl b => exact iteT (iteT (q H (Same.refl H)))
    | int i => exact iteT (iteT (q H (Same.refl H)))
    | lst e2 r2 => exact iteT (iteT (q H (Same.refl H)))
    | @tup b ws es e2 r2 =>
      have hl2 := r2.length
      have ea : arBD (.tuple es) = (decide (1 ≤ es.length) && decide (es.length ≤ 10) && es.all bowD) := rfl
      refine iteF ⟨_, rfl, a, _, _, _, rfl, rfl, SqT.of e, rfl, b, _, rfl, .inr (SqT.of e2), _, _, rfl, rfl, _, rfl, ?_⟩
      by_cases a1 : 1 ≤ (ws.length : Int)
      case neg =>
        rw [ea, decide_eq_false (show ¬ 1 ≤ es.length by omega), Bool.false_and, Bool.false_and] at q
        exact if_f (decide_eq_false a1) ⟨_, rfl, iteT (q H (Same.refl H))⟩
      refine if_t (decide_eq_true a1) ⟨_, _, rfl, rfl, _, rfl, ?_⟩
      by_cases a2 : (ws.length : Int) ≤ 10
      case neg =>
        rw [ea, decide_eq_false (show ¬ es.length ≤ 10 by omega), Bool.and_false, Bool.false_and] at q
        exact if_t (by rw [decide_eq_false a2]; rfl) (q H (Same.refl H))
      refine if_f (by rw [decide_eq_true a2]; rfl) ?_
      rw [ea, decide_eq_true (show 1 ≤ es.length by omega), decide_eq_true (show es.length ≤ 10 by omega), Bool.true_and, Bool.true_and] at q
      refine ⟨_, rfl, a, _, _, _, rfl, rfl, SqT.of e, rfl, b, rfl, ⟨_, SqT.of e2⟩, for_tup (K := K) (a := b) (xs := ws) (fun i σ H2 => ∃ x1 : Option V, σ = [some (.ref a), x1] ∧ Same H H2 ∧ (es.take i).all bowD = true) ⟨none, rfl, Same.refl H, rfl⟩ ?_ ?_ ?_⟩
      · rintro i σ H2 _ ⟨x1, rfl, g, _⟩
        exact SqT.of (g _ _ e2)
      · rintro i u σ H2 hu ⟨x1, rfl, g, ha⟩
        obtain ⟨d, hd, rx⟩ := (r2.mono g).get' hu
        have no : bowD d = false → es.all bowD = false := fun h => by
          cases z : es.all bowD with
          | false => rfl
          | true => rw [List.all_eq_true.mp z d (List.mem_of_getElem? hd)] at h; cases h
        have yes : bowD d = true → (es.take (i + 1)).all bowD = true := fun h => by rw [List.take_add_one, hd, List.all_append, ha]; show (true && (bowD d && true)) = true; rw [h]; rfl
        refine ⟨_, rfl, u, d, rfl, rx, _, rfl, ?_⟩
        cases rx with
        | non => rw [no rfl] at q; exact iteT (iteT (q H2 g))
        | str x => rw [no rfl] at q; exact iteT (iteT (q H2 g))
        | bl b => rw [no rfl] at q; exact iteT (iteT (q H2 g))
        | int i => rw [no rfl] at q; exact iteT (iteT (q H2 g))
        | lst e3 r3 => rw [no rfl] at q; exact iteT (iteT (q H2 g))
        | @tup p vs3 ds3 e3 r3 =>
          have hl3 := r3.length
          refine iteF ⟨_, rfl, p, _, rfl, .inr (SqT.of e3), rfl, _, rfl, ?_⟩
          by_cases c3 : ds3.length = 2
          case neg =>
            rw [no (bow_ne c3)] at q
            exact if_t (show (!decide (V.int (vs3.length : Int) = V.int 2)) = true by rw [decide_eq_false (fun z => c3 (by have := V.int.inj z; omega))]; rfl) (iteT (q H2 g))
          obtain ⟨d1, d2, rfl⟩ := two_of c3
          obtain ⟨x3, y3, rfl, r31, r32⟩ := reps_two r3
          refine if_f (by rfl) ?_
          refine ⟨_, rfl, p, rfl, ⟨_, SqT.of e3⟩, fun D hD => ?_⟩
          refine comp_tupR (K := K) (a := p) (xs := [x3, y3]) (fun k ys H3 => Same H2 H3 ∧ H3 D = some (.lst ys) ∧ ys = (([wholeIn d1 1 99, wholeIn d2 1 99] : List Bool).take k).map V.bl) ⟨same_new hD _, upd_same, rfl⟩ (fun k ys H3 _ hP => SqT.of (hP.1 _ _ e3)) (fun k ys y3' H3 hy hP => ?_) (fun ys H3 hP => ?_)
          · obtain ⟨g3, hD3, rfl⟩ := hP
            match k, hy with
            | 0, hy =>
              obtain rfl := Option.some.inj hy
              exact ⟨agree0, iteT ⟨_, rfl, _, d1, 1, 99, rfl, r31.mono g3, hD3, Nat.lt_of_lt_of_le (show 0 < 100 by omega) (by decide), g3.write hD _, upd_same, rfl⟩⟩
            | 1, hy =>
              obtain rfl := Option.some.inj hy
              exact ⟨agree0, iteT ⟨_, rfl, _, d2, 1, 99, rfl, r32.mono g3, hD3, Nat.lt_of_lt_of_le (show 1 < 100 by omega) (by decide), g3.write hD _, upd_same, rfl⟩⟩
            | k + 2, hy => simp at hy
          obtain ⟨g3, hD3, rfl⟩ := hP
          have g23 := g.trans g3
          refine ⟨D, [wholeIn d1 1 99, wholeIn d2 1 99], rfl, hD3, _, rfl, ?_⟩
          have ew3 : ([wholeIn d1 1 99, wholeIn d2 1 99] : List Bool).all id = (wholeIn d1 1 99 && wholeIn d2 1 99) := by show (_ && (_ && true)) = _; rw [Bool.and_true]; rfl
          rw [ew3]
          cases w1 : wholeIn d1 1 99 with
          | false =>
            have nb : bowD (.tuple [d1, d2]) = false := by
              cases d1 <;> first | rfl | skip
              rename_i i1
              show (wholeIn (.int i1) 1 99 && _) = false
              rw [w1]; rfl
            rw [no nb] at q
            exact iteT (q H3 g23)
          | true =>
          cases d1 <;> first | exact (Bool.noConfusion (show false = true from w1)) | skip
          rename_i i1
          cases w2 : wholeIn d2 1 99 with
          | false =>
            have h1 : 1 ≤ i1 ∧ i1 ≤ 99 := by
              have : (decide (1 ≤ i1) && decide (i1 ≤ 99)) = true := w1
              simpa using this
            have nb : bowD (.tuple [.int i1, d2]) = false := by
              show (wholeIn (.int i1) 1 99 && wholeIn d2 i1 99) = false
              cases d2 <;> first | (exact Bool.and_false _) | skip
              rename_i i2
              have : (decide (1 ≤ i2) && decide (i2 ≤ 99)) = false := w2
              show (_ && (decide (i1 ≤ i2) && decide (i2 ≤ 99))) = false
              rw [Bool.and_eq_false_iff] at this
              rcases this with h | h
              · have := of_decide_eq_false h
                rw [decide_eq_false (show ¬ i1 ≤ i2 by omega), Bool.false_and, Bool.and_false]
              · rw [h, Bool.and_false, Bool.and_false]
            rw [no nb] at q
            exact iteT (q H3 g23)
          | true =>
          cases d2 <;> first | exact (Bool.noConfusion (show false = true from w2)) | skip
          rename_i i2
          refine iteF ?_
          have ex3 : x3 = .int i1 := Rep.int_inv r31
          have ey3 : y3 = .int i2 := Rep.int_inv r32
          subst ex3 ey3
          refine ⟨_, rfl, p, _, _, _, rfl, rfl, SqT.of (g3 _ _ e3), rfl, _, rfl, p, _, _, _, rfl, rfl, SqT.of (g3 _ _ e3), rfl, _, _, rfl, rfl, _, rfl, ?_⟩
          have h1 : (decide (1 ≤ i1) && decide (i1 ≤ 99)) = true := w1
          have h2 : (decide (1 ≤ i2) && decide (i2 ≤ 99)) = true := w2
          have eb : bowD (.tuple [.int i1, .int i2]) = ((decide (1 ≤ i1) && decide (i1 ≤ 99)) && (decide (i1 ≤ i2) && decide (i2 ≤ 99))) := rfl
          rw [h1, Bool.true_and] at eb
          rw [Bool.and_eq_true] at h2
          by_cases c4 : i2 < i1
          · rw [decide_eq_false (show ¬ i1 ≤ i2 by omega), Bool.false_and] at eb
            rw [no eb] at q
            exact if_t (decide_eq_true c4) (q H3 g23)
          · rw [decide_eq_true (show i1 ≤ i2 by omega), h2.2] at eb
            exact if_f (decide_eq_false c4) ⟨_, rfl, g23, yes eb⟩
      · rintro σ H2 ⟨x1, rfl, g, ha⟩
        rw [hl2, List.take_length] at ha
        rw [ha] at q
        exact q H2 g
end
end Be
set_option Elab.async false
set_option linter.all false
set_option maxRecDepth 100000
/-! a tuple times a number; str of a number -/
namespace BE
open PySem PySem.W PySem.Spec PyProof.Rows
open Builtin
theorem noFill_tuple_mul : fillsNumberSlot (.type "tuple") "mul" = pure false :=
  PySem.fillsNumberSlot_seq (id := "tuple.__mul__") (r := some (.builtin "tuple.__rmul__")) F.slot_tuple_mul.lookup (by decide +kernel) F.slot_tuple_rmul.lookup (by decide +kernel)
theorem repeat_tuple : seqRepeat? (.type "tuple") = pure (some (.builtin "tuple.__mul__")) := by
  unfold seqRepeat?
  rw [PySem.seqSlot_of (T := "tuple") (name := "__mul__") (id := "tuple.__mul__") F.slot_tuple_mul.lookup (by decide +kernel), PySem.seqSlot_of (T := "tuple") (name := "__rmul__") (id := "tuple.__rmul__") F.slot_tuple_rmul.lookup (by decide +kernel)]
  rfl
theorem int_rmul_tuple (a : Int) (t : Tok) (l : Addr) (o : Obj) (hc : o.cls = .type "tuple") (items : Array Value) (n : Nat) (hd : o.data = .seq items n) :
    Meets (Builtin.«int.__rmul__» ⟨[.int a t, .ref l], []⟩) (fun _ R s => s.heap.get? l = some o ∧ R (.ok (.ret Value.notImplemented)) s) :=
  .of_wp fun prog w A R s h => by
    obtain ⟨hp, g, d, tk, os⟩ := s; obtain ⟨hl, h⟩ := h
    obtain ⟨oc, od, odt, osl⟩ := o
    simp only at hc hd
    subst hc hd
    wp_walk; exact ⟨_, rfl, h⟩
section
variable {prog : Program} {w : World} {A : Around} {E : Value → Shared → Prop} {s : Shared}
theorem tuple_mul_tree {a : Addr} {o : Obj} {its : List Value} {n : Nat} {x : Int} {u : Tok} {P : PySem.Fin → Shared → Prop} (ho : s.heap.get? a = some o) (hd : o.data = .seq its.toArray n) (h1 : 2 ≤ x) (h2 : x < 2 ^ 63) (hne : its.toArray.isEmpty = false) (hz : its.toArray.size * x.toNat ≤ sizeLine)
    (h : P (.done (.ret (.ref s.heap.objs.size))) { s with heap := s.heap.push { cls := .type "tuple", data := .seq (List.replicate x.toNat its).flatten.toArray } }) :
    wpAny (model prog w) A (Builtin.«tuple.__mul__» ⟨[.ref a, .int x u], []⟩) P E s := by
  have hnew : List.foldl (fun x1 x2 => x1 ++ x2) #[] (List.replicate x.toNat its.toArray) = (List.replicate x.toNat its).flatten.toArray := by
    have := L2.foldl_rep its x.toNat []
    rw [List.nil_append] at this
    exact this
  show wpAny _ _ (asIndex (.int x u) >>= _) _ _ s
  refine wpAny_bind ?_
  show wpAny _ _ (pure x) _ _ s
  refine wpAny_pure ?_
  have c1 : (decide (x < -(2 ^ 63)) || decide (x ≥ 2 ^ 63)) = false := by
    rw [decide_eq_false (by omega), decide_eq_false (by omega)]; rfl
  simp only [c1, Bool.false_eq_true, if_false]
  refine wpAny_bind (wpAny_tupleItemsOf ho hd ?_)
  have c2 : (its.toArray.isEmpty || x == 1) = false := by rw [hne]; simp; omega
  simp only [c2, Bool.false_eq_true, if_false]
  have c3 : (decide (x ≤ 0) || its.toArray.isEmpty) = false := by rw [hne, decide_eq_false (by omega)]; rfl
  simp only [c3, Bool.false_eq_true, if_false]
  have sl : sizeLine = 16777216 := sizeLine_eq
  have ex : (x.toNat : Int) = x := by omega
  have hz' : (its.toArray.size : Int) * x ≤ 16777216 := by
    have h0 : ((its.toArray.size * x.toNat : Nat) : Int) ≤ 16777216 := by omega
    rw [Int.natCast_mul, ex] at h0
    exact h0
  have c4 : ¬ ((its.toArray.size : Int) * x > (2 ^ 63 - 1) / 8) := by omega
  simp only [c4, if_false]
  have c5 : Builtin.Tuple.tupleTooMany ((its.toArray.size : Int) * x) = false := by unfold Builtin.Tuple.tupleTooMany; exact decide_eq_false (by omega)
  simp only [c5, Bool.false_eq_true, if_false]
  refine wpAny_bind ?_
  unfold Builtin.Tuple.tupleExact
  rw [hnew]
  refine wpAny_newObj_type (wpAny_pure h) (hd := ?_)
  show (List.replicate x.toNat its).flatten.toArray.size ≤ sizeLine
  rw [List.size_toArray, L2.len_rep, Nat.mul_comm, ← List.size_toArray]
  exact hz
end
end BE
namespace L2
open PySem PySem.SeqAt PySem.Spec PyProof.Rows
section
variable {X : Cx}
/-- a tuple so many times, twice at the least -/
def rRepT : R2 := fun x y H Q => ∃ a k xs, x = .ref a ∧ y = .int k ∧ H a = some (.tup xs) ∧ xs ≠ [] ∧ 2 ≤ k ∧ k < 2 ^ 63 ∧ xs.length * k.toNat ≤ sizeLine ∧
  ∀ p, H p = none → Q (.ref p) (upd H p (.tup (List.replicate k.toNat xs).flatten))
theorem op_repT : OpR X (binaryOp .Mult) rRepT := by
  intro pins s σ H x y v u Q I rx ry h
  obtain ⟨a, k, xs, rfl, rfl, hH, hne, h1, h2, hz, q⟩ := h
  cases rx
  obtain ⟨t, rfl⟩ := ry
  obtain ⟨its, r, ⟨o, ho, hc, n, hd⟩, hz2⟩ := I.tuple (SqT.of hH)
  have hl := r.length
  have hlen : its.toArray.size * k.toNat ≤ sizeLine := by rw [List.size_toArray, ← hl]; exact hz
  have hemp : its.toArray.isEmpty = false := by
    cases its with
    | nil => simp at hl; exact absurd hl hne
    | cons a r' => rfl
  refine wpAny_binaryOp_repeat_ref (T := "tuple") (U := "int") (by decide) ⟨_, ho, hc⟩ (fun s' => typeIs_int s' k t) BE.noFill_tuple_mul F.fills_int_mul F.slot_int_rmul BE.repeat_tuple F.slot_int_index.lookup
    (call_meets F.slot_int_rmul (typeIs_int s k t) F.entry_int_rmul (F.args_int_rmul_2 _ _) (BE.int_rmul_tuple k t a o hc _ _ hd)
      ⟨ho, rfl, ⟨_, ho, hc⟩, wpAny_call_entry F.slot_tuple_mul ⟨_, ho, hc⟩ F.entry_tuple_mul (BE.tuple_mul_tree ho hd h1 h2 hemp hlen ⟨_, rfl, ?_⟩) (F.args_tuple_mul_2 _ _)⟩)
  refine ⟨.ref s.heap.objs.size, _, I.laid (t' := s.toks) (o := .tup (List.replicate k.toNat xs).flatten) (fun b ob q => Heap.get?_push_of_some _ q) (Nat.le_refl _) ?_, rfl, q _ (I.hok.fresh (Nat.le_refl _))⟩
  exact ⟨by rw [len_rep, Nat.mul_comm]; exact hz, _, r.rep k.toNat, TupP.new _ _⟩
end
end L2
/-! expressions made of constants alone: the rules of the layer, kept in a structure, so that nothing looks into what they say -/
set_option Elab.async false
set_option linter.all false
namespace Be
open PySem L2
variable {X : Cx} {e a b : Expr} {es : List Expr} {te ta tb : TE} {t : TA} {pos : Pos}
structure CE (X : Cx) (e : Expr) (t : TE) : Prop where
  pr : PE X e t
structure CA (X : Cx) (es : List Expr) (t : TA) : Prop where
  pr : PA X es t
theorem ce_int {i j pos} : CE X (.Constant (.int i) j pos) (tC (.int i)) := ⟨pe_int⟩
theorem ce_bl {b j pos} : CE X (.Constant (.bool b) j pos) (tC (.bl b)) := ⟨pe_bl⟩
theorem ce_non {j pos} : CE X (.Constant .none j pos) (tC .non) := ⟨pe_non⟩
theorem ce_str {x j pos} : CE X (.Constant (.str x) j pos) (tC (.str x)) := ⟨pe_str⟩
theorem ca_nil : CA X [] tNil := ⟨pa_nil⟩
theorem ca_cons (ha : CE X e te) (hr : CA X es t) (hs : starEach (e :: es) X.env = (false, eval e X.env) :: starEach es X.env := by rfl) : CA X (e :: es) (tCons te t) := ⟨pa_cons ha.pr hr.pr hs⟩
theorem ce_tup {x1} (h : CA X es t) : CE X (.Tuple es x1 pos) (tTup t) := ⟨pe_tup h.pr⟩
theorem ce_lst (h : CA X es t) : CE X (.List es pos) (tLst t) := ⟨pe_lst h.pr⟩
theorem ce_op {op : Operator} {r : R2} (ho : OpR X (binaryOp op) r) (ha : CE X a ta) (hb : CE X b tb) : CE X (.BinOp a op b pos) (tOp r ta tb) := ⟨pe_op ho ha.pr hb.pr⟩
theorem ce_un {op : UnaryOp} {r : V → Hp → VK → Prop} (ho : UnR X (unaryOp op) r) (ha : CE X a ta) : CE X (.UnaryOp op a pos) (tUn r ta) := ⟨pe_un ho ha.pr⟩
structure CS (X : Cx) (st : Stmt) (t : TS) : Prop where
  pr : PS X st t
structure CSs (X : Cx) (st : List Stmt) (t : TS) : Prop where
  pr : PSs X st t
theorem css_cons {st : Stmt} {rest : List Stmt} {t u : TS} (h1 : CS X st t) (h2 : CSs X rest u) : CSs X (st :: rest) (tSeq t u) := ⟨pss_cons h1.pr h2.pr⟩
theorem css_one {st : Stmt} {t : TS} (h1 : CS X st t) : CSs X [st] t := ⟨pss_one h1.pr⟩
theorem cs_ret (he : CE X e te) : CS X (.Return (some e) pos) (tRet te) := ⟨ps_ret he.pr⟩
theorem cs_set {i : Nat} {x : Str} {e : Expr} {te : TE} {pos' : Pos} (hN : X.N.Nodup) (hi : X.N[i]? = some x) (hx : Loc X.env.scope x) (he : CE X e te) (hs : swapsWith e (some (.Name x pos')) pos.line X.env = pure false := by rfl) (hf : X.fn x = true ∨ X.env.scope.names.lookup x = some .local := by first | exact .inl rfl | exact .inr rfl | assumption) :
    CS X (.Assign [.Name x pos'] e pos) (tAsg te (gName i)) := ⟨ps_set hN hi hx he.pr hs hf⟩
end Be
set_option Elab.async false
set_option linter.all false
set_option maxRecDepth 100000
namespace Be
open PySem L2
/-- the heap without what stands at l -/
def del (l : Addr) (H : Hp) : Hp := fun a => if a = l then none else H a
theorem del_ts {H : Hp} {l : Addr} {ws : List V} (h : H l = some (.lst ws)) : TSame H (del l H) := fun b ys hb => by
  unfold del; rw [if_neg (fun z => by rw [z, h] at hb; cases hb)]; exact hb
theorem del_same (l : Addr) (H : Hp) : Same (del l H) H := fun a u h => by
  unfold del at h
  by_cases c : a = l
  · rw [if_pos c] at h; cases h
  · rw [if_neg c] at h; exact h
theorem del_mono {t : Addr} {H H' : Hp} (g : SameX t H H') : Same (del t H) (del t H') := fun a u h => by
  unfold del at h ⊢
  by_cases c : a = t
  · rw [if_pos c] at h; cases h
  · rw [if_neg c] at h ⊢; exact g a u c h
theorem del_at {t p : Addr} {H : Hp} {u : HO} (h : p ≠ t) (e : H p = some u) : del t H p = some u := by unfold del; rw [if_neg h]; exact e
theorem seq3_join {t1 t2 t3 rest : TS} {D : Ends} {σ : St} {H : Hp} (M : St → Hp → Prop) (hrest : ∀ σ H, M σ H → rest D σ H) (h : (∀ σ H, M σ H → rest D σ H) → tSeq t1 (tSeq t2 (tSeq t3 rest)) D σ H) : tSeq t1 (tSeq t2 (tSeq t3 rest)) D σ H := h hrest
theorem seq2_join {t1 t2 rest : TS} {D : Ends} {σ : St} {H : Hp} (M : St → Hp → Prop) (hrest : ∀ σ H, M σ H → rest D σ H) (h : (∀ σ H, M σ H → rest D σ H) → tSeq t1 (tSeq t2 rest) D σ H) : tSeq t1 (tSeq t2 rest) D σ H := h hrest
theorem cut_reps {H : Hp} {vs : List V} {ds : List PyData} (r : Reps H vs ds) (lo hi : Option Int) : ∃ es : List PyData, Reps H (cutV vs lo hi) es ∧ es.length ≤ ds.length ∧ ∀ d ∈ es, d ∈ ds := by
  unfold cutV
  exact ⟨(ds.drop (HT.sIx vs.length 0 lo)).take (HT.sIx vs.length vs.length hi - HT.sIx vs.length 0 lo), (r.drop _).take _, by rw [List.length_take, List.length_drop]; omega, fun d hd => List.mem_of_mem_drop (List.mem_of_mem_take hd)⟩
theorem tup_inv {H : Hp} {v : V} {d : PyData} (h : Rep H v d) (ht : isTupD d = true) : ∃ (tp : Addr) (vs : List V) (ds : List PyData), v = .ref tp ∧ d = .tuple ds ∧ H tp = some (.tup vs) ∧ Reps H vs ds := by
  cases h with
  | non => cases ht
  | bl b => cases ht
  | int i => cases ht
  | str x => cases ht
  | lst e r => cases ht
  | tup e r => exact ⟨_, _, _, rfl, rfl, e, r⟩
/-- of at most so many parts each, so deep -/
inductive Sm (m : Nat) : Nat → PyData → Prop
  | non {n : Nat} : Sm m n .none
  | bl {n : Nat} (b : Bool) : Sm m n (.bool b)
  | int {n : Nat} (i : Int) : Sm m n (.int i)
  | str {n : Nat} : Sm m n (.str "1")
  | tup {n : Nat} {ds : List PyData} : ds.length ≤ m → (∀ d ∈ ds, Sm m n d) → Sm m (n + 1) (.tuple ds)
  | lst {n : Nat} {ds : List PyData} : ds.length ≤ m → (∀ d ∈ ds, Sm m n d) → Sm m (n + 1) (.list ds)
theorem Sm.mono {m m' : Nat} (hm : m ≤ m') : ∀ {n n' : Nat} {d : PyData}, Sm m n d → n ≤ n' → Sm m' n' d := by
  intro n n' d h
  induction h generalizing n' with
  | non => intro _; exact .non
  | bl b => intro _; exact .bl b
  | int i => intro _; exact .int i
  | str => intro _; exact .str
  | @tup n ds h1 h2 ih =>
    intro h
    obtain ⟨k, rfl⟩ : ∃ k, n' = k + 1 := ⟨n' - 1, by omega⟩
    exact .tup (by omega) fun d hd => ih d hd (by omega)
  | @lst n ds h1 h2 ih =>
    intro h
    obtain ⟨k, rfl⟩ : ∃ k, n' = k + 1 := ⟨n' - 1, by omega⟩
    exact .lst (by omega) fun d hd => ih d hd (by omega)
theorem lay_alls : ∀ {ds : List PyData} {k : Nat}, (∀ d ∈ ds, PyData.canLay0 d = true ∧ PyData.depth d ≤ k) → PyData.canLayAll0 ds = true ∧ PyData.depthAll ds ≤ k
  | [], _, _ => ⟨rfl, Nat.zero_le _⟩
  | d :: ds, k, h => by
    obtain ⟨a, b⟩ := lay_alls (ds := ds) (k := k) fun d hd => h d (List.mem_cons_of_mem _ hd)
    have c := h d List.mem_cons_self
    refine ⟨?_, ?_⟩
    · show (PyData.canLay0 d && PyData.canLayAll0 ds) = true
      rw [a, c.1]; rfl
    · show max (PyData.depth d) (PyData.depthAll ds) ≤ k
      omega
theorem Sm.lay {m : Nat} : ∀ {n : Nat} {d : PyData}, Sm m n d → PyData.canLay0 d = true ∧ PyData.depth d ≤ n + 1 := by
  intro n d h
  induction h with
  | non => exact ⟨rfl, by simp [PyData.depth]⟩
  | bl b => exact ⟨rfl, by simp [PyData.depth]⟩
  | int i => exact ⟨rfl, by simp [PyData.depth]⟩
  | str => exact ⟨by decide +kernel, by simp [PyData.depth]⟩
  | tup h1 h2 ih =>
    obtain ⟨a, b⟩ := lay_alls ih
    exact ⟨by rw [PyData.canLay0, a], by rw [PyData.depth]; omega⟩
  | lst h1 h2 ih =>
    obtain ⟨a, b⟩ := lay_alls ih
    exact ⟨by rw [PyData.canLay0, a], by rw [PyData.depth]; omega⟩
theorem Sm.shaped {m n : Nat} {d : PyData} (h : Sm m n d) (hn : n ≤ 8) : SeqAt.shaped d = true := by
  obtain ⟨a, b⟩ := h.lay
  unfold SeqAt.shaped
  rw [a, Bool.true_and]
  exact decide_eq_true (by omega)
theorem Reps.rev_ {H : Hp} {vs : List V} {ds : List PyData} (r : Reps H vs ds) : Reps H vs.reverse ds.reverse := by
  induction vs generalizing ds with
  | nil => cases r; exact .nil
  | cons v vs ih =>
    cases r with
    | cons h t => rw [List.reverse_cons, List.reverse_cons]; exact (ih t).append (.cons h .nil)
section
variable {P : Program} {w : World} {K : PySem.W.Frag} {mg : Str → Option Value} {base : Heap}
def sp_sp (K : PySem.W.Frag) (n : Nat) : Sp := fun vs H Q _ => ∃ (a t : Addr) (v : V) (ns : List Int) (k m : Nat) (d : PyData), vs = [.ref a, .ref t, v] ∧ Scr K H a ns ∧ H t = some (.lst (zeros k)) ∧ k + 4 * n < 3000 ∧ m ≤ 100 ∧ 3 ≤ m ∧ n ≤ 8 ∧ Rep (del t H) v d ∧ Sm m n d ∧
  ∀ (v' : V) (d' : PyData) (H' : Hp) (k' : Nat), Rep (del t H') v' d' → Sm (2 * m + 1) (n + 1) d' → SameX t H H' → H' t = some (.lst (zeros k')) → k' ≤ k + 4 * (n + 1) → Q v' H'
def spS (K : PySem.W.Frag) : Nat → Sp
  | 0 => fun _ _ _ _ => False
  | n + 1 => sp_sp K n
set_option maxHeartbeats 2000000 in
theorem spoilt_step (T : Txt K mg) (n : Nat) (F : FnOk P w K mg base (CXr P w) (n + 4) T.law_spoilt.a T.law_spoilt.d ["_law_script", "_law_town", "_law_thing"] (spS K n)) : FnOk P w K mg base (CXr P w) (n + 5) T.law_spoilt.a T.law_spoilt.d ["_law_script", "_law_town", "_law_thing"] (sp_sp K n) := by
  refine T.law_spoilt.F.okN sc_law_spoilt (fun vs H Q E h => ?_) (fun cdv A outer s H vs Q E hr h => ?_)
  · obtain ⟨a, t, v, ns, k, m, d, rfl, _⟩ := h; rfl
  obtain ⟨a, t, v, ns, k, m, d, rfl, hS, ht, hk, hm, hm3, hn8, hv, sm, q⟩ := h
  have hu64 : (A.deeper (PyProof.Rows.envOfC "_law_spoilt" (defScope (top 86)) s.heap.objs.size T.law_spoilt.a cdv)).units + 64 < cLine := by have := hr.un; omega
  refine ⟨_, (pss_cons (ps_set (i := 3) sc_law_spoilt.nd rfl (by first | exact Or.inl rfl | exact Or.inr rfl) (pe_call (ok_law_draw T) (hr.mono (by omega)) rfl T.law_draw.m T.law_draw.F.kp T.law_draw.b .nil passN (pa_cons (pv 0) (pa_cons (pv 1) (pa_cons pe_int pa_nil))))) (pss_cons (ps_if (PW.pt (pw_and (pt_val (pe_callB (call_isi kit_tuple) rfl T.n_isinstance bt_isinstance (pa_cons (pv 2) (pa_cons (pe_bltn (v := .ty "tuple") rfl T.n_tuple bt_tuple rfl) pa_nil)))) (pw_and (pt_cmpR (op_neD hu64) (pv 2) (pe_tup pa_nil) (nomark _)) (pw_and1 (pt_cmpR op_gt (pv 3) pe_int (nomark _)))))) (pss_cons (ps_set (i := 4) sc_law_spoilt.nd rfl (by first | exact Or.inl rfl | exact Or.inr rfl) (pe_call (ok_law_draw T) (hr.mono (by omega)) rfl T.law_draw.m T.law_draw.F.kp T.law_draw.b .nil passN (pa_cons (pv 0) (pa_cons (pv 1) (pa_cons (pe_callB call_len_seq rfl T.n_len bt_len (pa_cons (pv 2) pa_nil)) pa_nil))))) (pss_one (ps_ret (pe_op op_catA (pe_op op_catA (pe_slice sl_tupA (pv 2) po_none (po_some (pv 4))) (pe_tup (pa_cons (pe_call F (hr.mono (by omega)) rfl T.law_spoilt.m T.law_spoilt.F.kp T.law_spoilt.b .nil passN (pa_cons (pv 0) (pa_cons (pv 1) (pa_cons (pe_ix ix_tup (pv 2) (pv 4) (fun _ _ => rfl)) pa_nil)))) pa_nil))) (pe_slice sl_tupA (pv 2) (po_some (pe_op op_add (pv 4) pe_int)) po_none))))) pss_nil) (pss_cons (ps_if (PW.pt (pw_and (pt_val (pe_callB (call_isi kit_tuple) rfl T.n_isinstance bt_isinstance (pa_cons (pv 2) (pa_cons (pe_bltn (v := .ty "tuple") rfl T.n_tuple bt_tuple rfl) pa_nil)))) (pw_and1 (pt_cmpR op_eq (pv 3) pe_int (nomark _))))) (pss_one (ps_ret (pe_call (ok_law_pick T) (hr.mono (by omega)) rfl T.law_pick.m T.law_pick.F.kp T.law_pick.b .nil passN (CA.pr (ca_cons (CE.mk (pv 0)) (ca_cons (CE.mk (pv 1)) (ca_cons (ce_lst (ca_cons (CE.mk (pe_callTy call_list_of rfl T.n_list bt_list (pa_cons (pv 2) pa_nil))) (ca_cons (ce_op op_catA (CE.mk (pv 2)) (CE.mk (pv 2))) (ca_cons (CE.mk (pe_slice sl_tupA (pv 2) (po_some pe_int) po_none)) (ca_cons (CE.mk (pe_sliceR (pv 2) (po_some (pe_un un_neg pe_int)))) (ca_cons (ce_op op_catA (CE.mk (pv 2)) (CE.mk (pe_slice sl_tupA (pv 2) (po_some (pe_un un_neg pe_int)) po_none))) ca_nil)))))) ca_nil))))))) pss_nil) (pss_one (ps_ret (pe_call (ok_law_pick T) (hr.mono (by omega)) rfl T.law_pick.m T.law_pick.F.kp T.law_pick.b .nil passN (CA.pr (ca_cons (CE.mk (pv 0)) (ca_cons (CE.mk (pv 1)) (ca_cons (ce_lst (ca_cons ce_non (ca_cons ce_bl (ca_cons ce_str (ca_cons ce_int (ca_cons ce_int (ca_cons ce_int (ca_cons ce_int (ca_cons ce_int (ca_cons ce_int (ca_cons (ce_un un_neg ce_int) (ca_cons (ce_tup ca_nil) (ca_cons (ce_tup (ca_cons ce_int (ca_cons ce_int ca_nil))) (ca_cons (ce_tup (ca_cons ce_int (ca_cons ce_int ca_nil))) (ca_cons (ce_lst (ca_cons ce_int (ca_cons ce_int ca_nil))) (ca_cons (ce_tup (ca_cons ce_int (ca_cons ce_int (ca_cons ce_int ca_nil)))) ca_nil)))))))))))))))) ca_nil)))))))))), ?_⟩
  refine seq3_join (fun σ H1 => ∃ (kd : Int) (k1 : Nat), σ = [some (.ref a), some (.ref t), some v, some (.int kd), none] ∧ SameX t H H1 ∧ H1 t = some (.lst (zeros k1)) ∧ k1 ≤ k + 1) (fun σ H1 hM => ?_) (fun last => ?_)
  · skip
    obtain ⟨kd, k1, rfl, g1, t1, hk1⟩ := hM
    have hS1 := g1.scr ht hS
    have e0 : ∃ C0, C0 = H1 := ⟨H1, rfl⟩
    obtain ⟨C0, hC0⟩ := e0
    rw [← hC0] at hS1 t1 g1 ⊢
    clear hC0
    refine ⟨_, rfl, _, rfl, 1, rfl, by show 0 ≤ sizeLine; decide, fun p1 hp1 => ?_⟩
    generalize hq1 : upd C0 p1 (.tup []) = C1
    have sp1 : Same C0 C1 := hq1 ▸ same_new hp1 (.tup [])
    have ep1 : C1 p1 = some (.tup []) := by rw [← hq1]; exact upd_same
    clear hq1
    refine ⟨by show 2 ≤ sizeLine; decide, fun p2 hp2 => ?_⟩
    generalize hq2 : upd C1 p2 (.tup [.int 1, .int 2]) = C2
    have sp2 : Same C1 C2 := hq2 ▸ same_new hp2 (.tup [.int 1, .int 2])
    have ep2 : C2 p2 = some (.tup [.int 1, .int 2]) := by rw [← hq2]; exact upd_same
    clear hq2
    refine ⟨by show 2 ≤ sizeLine; decide, fun p3 hp3 => ?_⟩
    generalize hq3 : upd C2 p3 (.tup [.int 2, .int 1]) = C3
    have sp3 : Same C2 C3 := hq3 ▸ same_new hp3 (.tup [.int 2, .int 1])
    have ep3 : C3 p3 = some (.tup [.int 2, .int 1]) := by rw [← hq3]; exact upd_same
    clear hq3
    refine ⟨by show 2 ≤ sizeLine; decide, fun p4 hp4 => ?_⟩
    generalize hq4 : upd C3 p4 (.lst [.int 1, .int 2]) = C4
    have sp4 : Same C3 C4 := hq4 ▸ same_new hp4 (.lst [.int 1, .int 2])
    have ep4 : C4 p4 = some (.lst [.int 1, .int 2]) := by rw [← hq4]; exact upd_same
    clear hq4
    refine ⟨by show 3 ≤ sizeLine; decide, fun p5 hp5 => ?_⟩
    generalize hq5 : upd C4 p5 (.tup [.int 1, .int 1, .int 1]) = C5
    have sp5 : Same C4 C5 := hq5 ▸ same_new hp5 (.tup [.int 1, .int 1, .int 1])
    have ep5 : C5 p5 = some (.tup [.int 1, .int 1, .int 1]) := by rw [← hq5]; exact upd_same
    clear hq5
    refine ⟨by show 15 ≤ sizeLine; decide, fun p6 hp6 => ?_⟩
    generalize hq6 : upd C5 p6 (.lst [.non, .bl true, .str "1", .int 0, .int 1, .int 4, .int 5, .int 99, .int 100, .int (-1), .ref p1, .ref p2, .ref p3, .ref p4, .ref p5]) = C6
    have sp6 : Same C5 C6 := hq6 ▸ same_new hp6 (.lst [.non, .bl true, .str "1", .int 0, .int 1, .int 4, .int 5, .int 99, .int 100, .int (-1), .ref p1, .ref p2, .ref p3, .ref p4, .ref p5])
    have ep6 : C6 p6 = some (.lst [.non, .bl true, .str "1", .int 0, .int 1, .int 4, .int 5, .int 99, .int 100, .int (-1), .ref p1, .ref p2, .ref p3, .ref p4, .ref p5]) := by rw [← hq6]; exact upd_same
    clear hq6
    have GG : Same C0 C6 := (sp1.trans (sp2.trans (sp3.trans (sp4.trans (sp5.trans (sp6))))))
    have n1 : p1 ≠ t := fun z => by rw [z, (Same.refl _) _ _ t1] at hp1; cases hp1
    have n2 : p2 ≠ t := fun z => by rw [z, (sp1) _ _ t1] at hp2; cases hp2
    have n3 : p3 ≠ t := fun z => by rw [z, (sp1.trans (sp2)) _ _ t1] at hp3; cases hp3
    have n4 : p4 ≠ t := fun z => by rw [z, (sp1.trans (sp2.trans (sp3))) _ _ t1] at hp4; cases hp4
    have n5 : p5 ≠ t := fun z => by rw [z, (sp1.trans (sp2.trans (sp3.trans (sp4)))) _ _ t1] at hp5; cases hp5
    have n6 : p6 ≠ t := fun z => by rw [z, (sp1.trans (sp2.trans (sp3.trans (sp4.trans (sp5))))) _ _ t1] at hp6; cases hp6
    refine ⟨a, t, p6, ns, k1, _, rfl, hS1.same GG, GG _ _ t1, by omega, ep6, n6, by simp, fun v' HZ hv' gz tz => ?_⟩
    have gT : SameX t H HZ := g1.trans ((GG.x t).trans gz)
    have fin : ∀ (d' : PyData), Rep (del t HZ) v' d' → Sm (2 * m + 1) (n + 1) d' → Q v' HZ := fun d' hr' sm' => q v' d' HZ _ hr' sm' gT tz (by omega)
    have z1 := del_at n1 (gz _ _ n1 ((sp2.trans (sp3.trans (sp4.trans (sp5.trans (sp6))))) _ _ ep1))
    have z2 := del_at n2 (gz _ _ n2 ((sp3.trans (sp4.trans (sp5.trans (sp6)))) _ _ ep2))
    have z3 := del_at n3 (gz _ _ n3 ((sp4.trans (sp5.trans (sp6))) _ _ ep3))
    have z4 := del_at n4 (gz _ _ n4 ((sp5.trans (sp6)) _ _ ep4))
    have z5 := del_at n5 (gz _ _ n5 ((sp6) _ _ ep5))
    simp only [List.mem_cons, List.not_mem_nil, or_false] at hv'
    rcases hv' with rfl | rfl | rfl | rfl | rfl | rfl | rfl | rfl | rfl | rfl | rfl | rfl | rfl | rfl | rfl
    · exact fin _ .non .non
    · exact fin _ (.bl _) (.bl _)
    · exact fin _ (.str _) .str
    · exact fin _ (.int _) (.int _)
    · exact fin _ (.int _) (.int _)
    · exact fin _ (.int _) (.int _)
    · exact fin _ (.int _) (.int _)
    · exact fin _ (.int _) (.int _)
    · exact fin _ (.int _) (.int _)
    · exact fin _ (.int _) (.int _)
    · exact fin (.tuple []) (.tup z1 .nil) (.tup (by show 0 ≤ 2 * m + 1; omega) (fun d hd => by cases hd))
    · exact fin (.tuple [.int 1, .int 2]) (.tup z2 (.cons (.int _) (.cons (.int _) (.nil)))) (.tup (by show 2 ≤ 2 * m + 1; omega) (fun d hd => by simp only [List.mem_cons, List.not_mem_nil, or_false] at hd; rcases hd with rfl | rfl <;> exact .int _))
    · exact fin (.tuple [.int 2, .int 1]) (.tup z3 (.cons (.int _) (.cons (.int _) (.nil)))) (.tup (by show 2 ≤ 2 * m + 1; omega) (fun d hd => by simp only [List.mem_cons, List.not_mem_nil, or_false] at hd; rcases hd with rfl | rfl <;> exact .int _))
    · exact fin (.list [.int 1, .int 2]) (.lst z4 (.cons (.int _) (.cons (.int _) (.nil)))) (.lst (by show 2 ≤ 2 * m + 1; omega) (fun d hd => by simp only [List.mem_cons, List.not_mem_nil, or_false] at hd; rcases hd with rfl | rfl <;> exact .int _))
    · exact fin (.tuple [.int 1, .int 1, .int 1]) (.tup z5 (.cons (.int _) (.cons (.int _) (.cons (.int _) (.nil))))) (.tup (by show 3 ≤ 2 * m + 1; omega) (fun d hd => by simp only [List.mem_cons, List.not_mem_nil, or_false] at hd; rcases hd with rfl | rfl | rfl <;> exact .int _))
  refine seq2_join (fun σ H1 => ∃ (kd : Int) (k1 : Nat), σ = [some (.ref a), some (.ref t), some v, some (.int kd), none] ∧ SameX t H H1 ∧ H1 t = some (.lst (zeros k1)) ∧ k1 ≤ k + 1) (fun σ H1 hM => ?_) (fun second => ?_)
  · skip
    obtain ⟨kd, k1, rfl, g1, t1, hk1⟩ := hM
    have hS1 := g1.scr ht hS
    have hv1 : Rep (del t H1) v d := hv.mono (del_mono g1)
    refine ⟨_, rfl, v, d, rfl, hv1.mono (del_same _ _), _, rfl, ?_⟩
    cases htd : isTupD d with
    | false => exact iteF (iteF (last _ _ ⟨kd, k1, rfl, g1, t1, hk1⟩))
    | true =>
    refine iteT ⟨_, rfl, rfl, _, rfl, ?_⟩
    by_cases c1 : kd = 1
    case neg => exact if_f (decide_eq_false (fun z => c1 (V.int.inj z))) (last _ _ ⟨kd, k1, rfl, g1, t1, hk1⟩)
    refine if_t (decide_eq_true (by rw [c1])) ?_
    obtain ⟨tp, vs, ds, rfl, rfl, ed, r⟩ := tup_inv hv1 htd
    obtain ⟨n0, rfl, hl, hd⟩ : ∃ n0, n = n0 + 1 ∧ ds.length ≤ m ∧ ∀ d ∈ ds, Sm m n0 d := by
      cases sm with
      | tup a b => exact ⟨_, rfl, a, b⟩
    have e1 := del_same t H1 _ _ ed
    have vl := r.length
    have ntp : tp ≠ t := fun z => by rw [z, t1] at e1; cases e1
    have nt : ∀ {HH : Hp} {p : Addr} {xs : List V}, HH t = some (.lst (zeros k1)) → HH p = some (.tup xs) → p ≠ t := fun {HH p xs} h1 h2 z => by rw [z, h1] at h2; cases h2
    have big : ∀ x : Nat, x ≤ 300 → x ≤ sizeLine := fun x h => Nat.le_trans h (by decide)
    refine ⟨_, rfl, _, rfl, _, rfl, tp, _, rfl, .inr (SqT.of e1), fun l1 hl1 => ?_⟩
    have k1' := same_new hl1 (.lst vs)
    have el1 : upd H1 l1 (.lst vs) l1 = some (.lst vs) := upd_same
    have nl1 : l1 ≠ t := fun z => by rw [z, t1] at hl1; cases hl1
    generalize upd H1 l1 (.lst vs) = G1 at *
    refine ⟨_, rfl, _, rfl, tp, tp, vs, vs, rfl, rfl, k1' _ _ e1, k1' _ _ e1, big _ (by omega), fun p2 G2 g2 hp2 => ?_⟩
    have s2 := k1'.trans g2
    refine ⟨_, rfl, _, rfl, tp, _, rfl, s2 _ _ e1, fun p3 G3 g3 hp3 => ?_⟩
    have s3 := s2.trans g3
    refine ⟨_, rfl, 1, rfl, _, rfl, rfl, tp, vs, rfl, s3 _ _ e1, fun p4 hp4 => ?_⟩
    have k4 := same_new hp4 (.tup vs.reverse)
    have ep4 : upd G3 p4 (.tup vs.reverse) p4 = some (.tup vs.reverse) := upd_same
    generalize upd G3 p4 (.tup vs.reverse) = G4 at *
    have s4 := s3.trans k4
    refine ⟨_, rfl, _, rfl, 1, rfl, _, rfl, tp, _, rfl, s4 _ _ e1, fun p5 G5 g5 hp5 => ?_⟩
    have s5 := s4.trans g5
    have cl := cutV_length vs (some (-1)) none
    refine ⟨tp, p5, vs, _, rfl, rfl, s5 _ _ e1, hp5, big _ (by omega), fun p6 G6 g6 hp6 => ?_⟩
    have s6 := s5.trans g6
    refine ⟨by show 5 ≤ sizeLine; decide, fun l7 hl7 => ?_⟩
    have k7 := same_new hl7 (.lst [.ref l1, .ref p2, .ref p3, .ref p4, .ref p6])
    have el7 : upd G6 l7 (.lst [.ref l1, .ref p2, .ref p3, .ref p4, .ref p6]) l7 = some (.lst [.ref l1, .ref p2, .ref p3, .ref p4, .ref p6]) := upd_same
    have nl7 : l7 ≠ t := fun z => by rw [z, s6 _ _ t1] at hl7; cases hl7
    generalize upd G6 l7 (.lst [.ref l1, .ref p2, .ref p3, .ref p4, .ref p6]) = G7 at *
    have s7 := s6.trans k7
    refine ⟨a, t, l7, ns, k1, _, rfl, hS1.same s7, s7 _ _ t1, by omega, el7, nl7, by simp, fun v' HZ hv' gz tz => ?_⟩
    have gT : SameX t H HZ := g1.trans ((s7.x t).trans gz)
    have rz : Reps (del t HZ) vs ds := (r.mono (del_mono ((s7.x t).trans gz)))
    have fin : ∀ (d' : PyData), Rep (del t HZ) v' d' → Sm (2 * m + 1) (n0 + 1 + 1) d' → Q v' HZ := fun d' hr' sm' => q v' d' HZ _ hr' sm' gT tz (by omega)
    have up : ∀ {p : Addr} {u : HO} {GG : Hp}, p ≠ t → Same GG G7 → GG p = some u → del t HZ p = some u := fun {p u GG} h g e => del_at h (gz _ _ h (g _ _ e))
    have st : ∀ {es : List PyData}, es.length ≤ 2 * m + 1 → (∀ d ∈ es, d ∈ ds) → Sm (2 * m + 1) (n0 + 1 + 1) (.tuple es) := fun {es} h1 h2 => .tup h1 fun d hd' => (hd d (h2 d hd')).mono (by omega) (by omega)
    simp only [List.mem_cons, List.not_mem_nil, or_false] at hv'
    rcases hv' with rfl | rfl | rfl | rfl | rfl
    · exact fin (.list ds) (.lst (up nl1 (g2.trans (g3.trans (k4.trans (g5.trans (g6.trans k7))))) el1) rz) (.lst (by omega) fun d hd' => (hd d hd').mono (by omega) (by omega))
    · exact fin (.tuple (ds ++ ds)) (.tup (up (nt (s2 _ _ t1) hp2) (g3.trans (k4.trans (g5.trans (g6.trans k7)))) hp2) (rz.append rz)) (st (by rw [List.length_append]; omega) fun d hd' => by simpa using hd')
    · obtain ⟨es, re, le, me⟩ := cut_reps rz (some 1) none
      exact fin (.tuple es) (.tup (up (nt (s3 _ _ t1) hp3) (k4.trans (g5.trans (g6.trans k7))) hp3) re) (st (by omega) me)
    · exact fin (.tuple ds.reverse) (.tup (up (nt (s4 _ _ t1) ep4) (g5.trans (g6.trans k7)) ep4) (Reps.rev_ rz)) (st (by rw [List.length_reverse]; omega) fun d hd' => by simpa using hd')
    · obtain ⟨es, re, le, me⟩ := cut_reps rz (some (-1)) none
      exact fin (.tuple (ds ++ es)) (.tup (up (nt (s6 _ _ t1) hp6) k7 hp6) (rz.append re)) (st (by rw [List.length_append]; omega) fun d hd' => (List.mem_append.mp hd').elim id (me d))
  refine ⟨_, rfl, _, rfl, a, t, ns, k, 8, rfl, hS, ht, by omega, by omega, fun kd H1 c0 c1 g1 t1 => ?_⟩
  have hS1 := g1.scr ht hS
  have hv1 : Rep (del t H1) v d := hv.mono (del_mono g1)
  have go : ∀ H2, Same H1 H2 → ∃ (kd' : Int) (k1 : Nat), [some (V.ref a), some (V.ref t), some v, some (V.int kd), none] = [some (.ref a), some (.ref t), some v, some (.int kd'), none] ∧ SameX t H H2 ∧ H2 t = some (.lst (zeros k1)) ∧ k1 ≤ k + 1 := fun H2 g => ⟨kd, k + 1, rfl, g1.trans (g.x t), g _ _ t1, Nat.le_refl _⟩
  refine ⟨_, rfl, v, d, rfl, hv1.mono (del_same _ _), _, rfl, ?_⟩
  cases htd : isTupD d with
  | false => exact iteF (iteF (second _ _ (go _ (Same.refl _))))
  | true =>
  refine iteT ⟨_, rfl, Nat.zero_le _, fun e0 he0 => ?_⟩
  have k0 := same_new he0 (.tup [])
  have ee0 : upd H1 e0 (.tup []) e0 = some (.tup []) := upd_same
  have go2 := go _ k0
  generalize upd H1 e0 (.tup []) = H2 at *
  refine ⟨_, _, (hv1.mono (del_same _ _)).mono k0, .tup ee0 .nil, sm.shaped hn8, rfl, _, rfl, ?_⟩
  obtain ⟨tp, vs, ds, rfl, rfl, ed, r⟩ := tup_inv hv1 htd
  have eqn : PyData.eqv (.tuple ds) (.tuple []) = decide (ds = []) := by
    cases ds with
    | nil => rfl
    | cons x xs => rfl
  rw [eqn]
  by_cases cn : ds = []
  · exact if_f (by rw [decide_eq_true cn]; rfl) (iteF (second _ _ go2))
  refine if_t (by rw [decide_eq_false cn]; rfl) ⟨_, rfl, _, _, rfl, rfl, _, rfl, ?_⟩
  by_cases ck : 1 < kd
  case neg => exact if_f (decide_eq_false ck) (second _ _ go2)
  refine if_t (decide_eq_true ck) ?_
  obtain ⟨n0, rfl, hl, hd⟩ : ∃ n0, n = n0 + 1 ∧ ds.length ≤ m ∧ ∀ d ∈ ds, Sm m n0 d := by
    cases sm with
    | tup a b => exact ⟨_, rfl, a, b⟩
  have e1 := k0 _ _ (del_same t H1 _ _ ed)
  have vl := r.length
  have t2 := k0 _ _ t1
  have ntp : tp ≠ t := fun z => by rw [z, t2] at e1; cases e1
  have d0 : 0 < ds.length := List.length_pos_iff.mpr cn
  have big : ∀ x : Nat, x ≤ 300 → x ≤ sizeLine := fun x h => Nat.le_trans h (by decide)
  have hS2 := hS1.same k0
  -- where
  refine ⟨_, rfl, _, rfl, _, rfl, tp, _, rfl, .inr (SqT.of e1), a, t, ns, k + 1, (vs.length : Int), rfl, hS2, t2, by omega, by omega, fun at_ H3 a0 a1 g3 t3 => ?_⟩
  have hS3 := g3.scr t2 hS2
  have e3 := g3 _ _ ntp e1
  have r3 : Reps (del t H3) vs ds := r.mono (del_mono ((k0.x t).trans g3))
  have nt : ∀ {HH : Hp} {p : Addr} {xs : List V} {kk : Nat}, HH t = some (.lst (zeros kk)) → HH p = some (.tup xs) → p ≠ t := fun {HH p xs kk} h1 h2 z => by rw [z, h1] at h2; cases h2
  refine ⟨_, rfl, _, rfl, _, rfl, tp, _, rfl, e3, fun p1 H4 g4 hp1 => ?_⟩
  have e4 := g4 _ _ e3
  have t4 := g4 _ _ t3
  have hat : at_.toNat < vs.length := by omega
  have hatd : at_.toNat < ds.length := by omega
  obtain ⟨x, hx, rx⟩ := r3.get (List.getElem?_eq_getElem hatd)
  have hix : atI vs at_ = some x := atI_int a0 hx
  have cl1 := cutV_length vs none (some at_)
  refine ⟨_, rfl, _, rfl, _, rfl, _, rfl, tp, _, _, _, rfl, rfl, SqT.of e4, hix, ?_⟩
  refine ⟨a, t, x, ns, k + 1 + 1, m, ds[at_.toNat], rfl, hS3.same g4, t4, by omega, hm, hm3, by omega, rx.mono (del_mono (g4.x t)), hd _ (List.getElem_mem hatd), fun v' d' H5 k3 hr' sm' g5 t5 hk3 => ?_⟩
  refine ⟨by show 1 ≤ sizeLine; decide, fun p2 hp2 => ?_⟩
  have k2 := same_new hp2 (.tup [v'])
  have ep2 : upd H5 p2 (.tup [v']) p2 = some (.tup [v']) := upd_same
  generalize upd H5 p2 (.tup [v']) = H6 at *
  have np1 := nt t4 hp1
  have hp16 := k2 _ _ (g5 _ _ np1 hp1)
  refine ⟨p1, p2, _, _, rfl, rfl, hp16, ep2, big _ (by show _ + 1 ≤ 300; omega), fun p3 H7 g7 hp3 => ?_⟩
  have s57 := k2.trans g7
  have e7 := s57 _ _ (g5 _ _ ntp e4)
  refine ⟨_, rfl, _, rfl, _, _, rfl, rfl, _, rfl, tp, _, rfl, e7, fun p4 H8 g8 hp4 => ?_⟩
  have cl2 := cutV_length vs (some (at_ + 1)) none
  refine ⟨p3, p4, _, _, rfl, rfl, g8 _ _ hp3, hp4, big _ (by rw [List.length_append]; show _ + 1 + _ ≤ 300; omega), fun p5 H9 g9 hp5 => ?_⟩
  have s59 := s57.trans (g8.trans g9)
  have g39 : SameX t H3 H9 := (g4.x t).trans (g5.trans (s59.x t))
  have rz : Reps (del t H9) vs ds := r3.mono (del_mono g39)
  obtain ⟨es1, re1, le1, me1⟩ := cut_reps rz none (some at_)
  obtain ⟨es2, re2, le2, me2⟩ := cut_reps rz (some (at_ + 1)) none
  have t9 := s59 _ _ t5
  refine q (.ref p5) (.tuple (es1 ++ [d'] ++ es2)) H9 k3 (.tup (del_at (nt t9 hp5) hp5) ((re1.append (.cons (hr'.mono (del_mono (s59.x t))) .nil)).append re2)) (.tup (by rw [List.length_append, List.length_append]; show es1.length + 1 + es2.length ≤ _; omega) fun d hd' => ?_) (g1.trans ((k0.x t).trans (g3.trans g39))) t9 (by omega)
  rcases List.mem_append.mp hd' with h | h
  · rcases List.mem_append.mp h with h | h
    · exact (hd d (me1 d h)).mono (by omega) (by omega)
    · rw [List.mem_singleton.mp h]; exact sm'
  · exact (hd d (me2 d h)).mono (by omega) (by omega)
theorem ok_law_spoilt (T : Txt K mg) : ∀ n : Nat, FnOk P w K mg base (CXr P w) (n + 5) T.law_spoilt.a T.law_spoilt.d ["_law_script", "_law_town", "_law_thing"] (sp_sp K n)
  | 0 => spoilt_step T 0 ⟨fun _ _ _ _ h => h.elim, fun _ _ _ _ _ _ _ _ _ _ _ _ _ h => h.elim⟩
  | n + 1 => spoilt_step T (n + 1) (ok_law_spoilt T n)
end
end Be
set_option Elab.async false
set_option linter.all false
set_option maxRecDepth 100000
namespace Be
open PySem L2
theorem refs_all {H : Hp} {d : PyData} : ∀ {ys : List V}, (∀ y ∈ ys, Rep H y d) → Reps H ys (List.replicate ys.length d)
  | [], _ => .nil
  | y :: ys, h => .cons (h y (by simp)) (refs_all fun z hz => h z (by simp [hz]))
def rfD (j : Int) : PyData := .tuple [.str "refused", .int j]
theorem rf_rep {H : Hp} {r : Addr} {j : Int} (h : H r = some (.tup [.str "refused", .int j])) : Rep H (.ref r) (rfD j) := .tup h (.cons (.str _) (.cons (.int _) .nil))
theorem ok_g {W : Wd} (b1 : 1 ≤ W.b) (b4 : W.b ≤ 4) (l1 : 1 ≤ W.bs.length) (l10 : W.bs.length ≤ 10) (h : W.bs.all (fun p => decide (1 ≤ p.1) && decide (p.1 ≤ p.2) && decide (p.2 ≤ 99)) = true) : W.Ok := ⟨b1, b4, l1, l10, fun p hp => by
  have := List.all_eq_true.mp h p hp
  rw [Bool.and_eq_true, Bool.and_eq_true] at this
  exact ⟨of_decide_eq_true this.1.1, of_decide_eq_true this.1.2, of_decide_eq_true this.2⟩⟩
theorem sm_W {W : Wd} (hok : W.Ok) : Sm 10 3 (encW W) := by
  refine .tup (by show 2 ≤ 10; omega) fun d hd => ?_
  rcases List.mem_cons.mp hd with rfl | hd
  · exact .int _
  rw [List.mem_singleton.mp hd]
  refine .tup (by rw [List.length_map]; exact hok.l10) fun d hd => ?_
  obtain ⟨p, _, rfl⟩ := List.mem_map.mp hd
  refine .tup (by show 2 ≤ 10; omega) fun d hd => ?_
  rcases List.mem_cons.mp hd with rfl | hd
  · exact .int _
  · rw [List.mem_singleton.mp hd]; exact .int _
section
variable {K : PySem.W.Frag}
def tR16 : TE := tOp rRep (tLst (tCons (tTup (tCons (tC (V.str "refused")) (tCons (tC (V.int 0)) tNil))) tNil)) (tC (V.int 16))
def u4 : TS := tSeq (tIfS (tB (tCall sp_isl [] E0 (tCons (tVar 4) tNil))) (tRet (tOp rEqD (tCall sp_askg [] E0 (tCons (tC (V.int 15)) (tCons (tVar 4) (tCons (tC V.non) tNil)))) (tTup tNil))) tNext)
  (tRet (tOp rEqD (tComp [none, some 4] (iRng1 (tCons (tC (V.int 16)) tNil)) (gName 0) (fun x H Q => Q true H) (tCall sp_ask [] E0 (tCons (tVar 0) (tCons (tVar 1) (tCons (tC V.non) tNil))))) tR16))
theorem s4 {D0 : Ends} {H : Hp} {x0 x1 x2 x3 x5 : Option V} {bad : V} {d : PyData} (hd : Rep H bad d) (q : ∀ H', D0.rt (.bl true) H') : u4 D0 [x0, x1, x2, x3, some bad, x5] H := by
  refine ⟨_, rfl, bad, d, rfl, hd, fun HB g => ⟨_, rfl, ?_⟩⟩
  cases hw : isWD d with
  | true =>
    obtain ⟨W, hok, rfl⟩ := isW_of hw
    refine iteT ?_
    refine ⟨_, rfl, bad, W, rfl, hd.mono g, hok, fun e HC gC he => ?_⟩
    refine ⟨Nat.zero_le _, fun e0 he0 => ?_⟩
    have k0 := same_new he0 (.tup [])
    refine ⟨_, _, .tup (k0 _ _ he) .nil, .tup upd_same .nil, rfl, rfl, ?_⟩
    exact q _
  | false =>
    refine if_f rfl ?_
    have hb := hd.mono g
    refine ⟨16, rfl, by decide, by decide, fun D hD => ?_⟩
    refine comp_rangeR (n := 16) (fun i ys H2 => Same HB H2 ∧ H2 D = some (.lst ys) ∧ ys.length = i ∧ ∀ y ∈ ys, Rep H2 y (rfD 0)) ⟨same_new hD _, upd_same, rfl, fun y hy => by cases hy⟩ (fun i ys H2 hi hP => ?_) (fun ys H2 hP => ?_)
    · obtain ⟨g, hD2, hl, hy⟩ := hP
      refine ⟨agree0, iteT ⟨_, rfl, _, rfl, bad, _, d, rfl, by omega, by omega, hb.mono g, hw, fun r H3 g3 fr hr3 => ⟨g3 _ _ hD2, Nat.lt_of_lt_of_le (show _ < 100 by omega) (by decide), (g.trans g3).write hD _, upd_same, by rw [List.length_append, hl]; rfl, fun y hy' => ?_⟩⟩⟩
      have tsd := TSame.lst (g3 _ _ hD2) (.lst (ys ++ [V.ref r]))
      refine (List.mem_append.mp hy').elim (fun h => (hy y h).tmono (g3.ts.trans tsd) rfl) (fun h => ?_)
      have e := List.mem_singleton.mp h
      subst e
      exact rf_rep (tsd _ _ hr3)
    obtain ⟨g, hD2, hl, hy⟩ := hP
    have lh : ys.length = 16 := hl
    refine ⟨by show 2 ≤ sizeLine; decide, fun r1 hr1 => ?_⟩
    generalize hq1 : upd H2 r1 (.tup [.str "refused", .int 0]) = R1
    have z1 : Same H2 R1 := hq1 ▸ same_new hr1 _
    have f1 : R1 r1 = some (.tup [.str "refused", .int 0]) := by rw [← hq1]; exact upd_same
    clear hq1
    refine ⟨by show 1 ≤ sizeLine; decide, fun r2 hr2 => ?_⟩
    generalize hq2 : upd R1 r2 (.lst [.ref r1]) = R2
    have z2 : Same R1 R2 := hq2 ▸ same_new hr2 _
    have f2 : R2 r2 = some (.lst [.ref r1]) := by rw [← hq2]; exact upd_same
    clear hq2
    refine ⟨r2, 16, _, rfl, rfl, f2, by decide, by decide, (by show 1 * 16 ≤ sizeLine; decide), fun r3 hr3 => ?_⟩
    generalize hq3 : upd R2 r3 (.lst (List.replicate (16 : Int).toNat [V.ref r1]).flatten) = R3
    have z3 : Same R2 R3 := hq3 ▸ same_new hr3 _
    have f3 : R3 r3 = some (.lst (List.replicate 16 (V.ref r1))) := by rw [← hq3]; exact upd_same
    clear hq3
    have zz := z1.trans (z2.trans z3)
    have L1 : Rep R3 (.ref D) (.list (List.replicate 16 (rfD 0))) := .lst (zz _ _ hD2) (by have := refs_all (H := R3) (d := rfD 0) (ys := ys) (fun y h => (hy y h).mono zz); rw [lh] at this; exact this)
    have L2 : Rep R3 (.ref r3) (.list (List.replicate 16 (rfD 0))) := .lst f3 (by have := refs_all (H := R3) (d := rfD 0) (ys := List.replicate 16 (V.ref r1)) (fun y h => by rw [(List.mem_replicate.mp h).2]; exact rf_rep ((z2.trans z3) _ _ f1)); rw [List.length_replicate] at this; exact this)
    have sh : SeqAt.shaped (.list (List.replicate 16 (rfD 0))) = true := by decide +kernel
    refine ⟨_, _, L1, L2, sh, sh, ?_⟩
    rw [SeqAt.eqv_refl _ (SeqAt.canLay_of_shaped sh)]
    exact q _
def sp_spA (K : PySem.W.Frag) : Sp := fun vs H Q E => sp_sp K 3 vs H Q E ∨ sp_sp K 4 vs H Q E
def u3 (K : PySem.W.Frag) : TS := tSeq (tAsg (tVar 2) (gName 4)) (tSeq (tFor (iRng1 (tCons (tOp (rI0 fun i j => V.int (i + j)) (tC (V.int 1)) (tCall (sp_draw K) [] E0 (tCons (tVar 0) (tCons (tVar 1) (tCons (tC (V.int 2)) tNil))))) tNil)) (gName 5)
  (tAsg (tCall (sp_spA K) [] E0 (tCons (tVar 0) (tCons (tVar 1) (tCons (tVar 4) tNil)))) (gName 4))) u4)
theorem s3 {D0 : Ends} {H : Hp} {x3 x4 x5 : Option V} {a t : Addr} {ns : List Int} {k : Nat} {v : V} {W : Wd} (hS : Scr K H a ns) (ht : H t = some (.lst (zeros k))) (hk : k ≤ 100) (hok : W.Ok) (hW : Rep H v (encW W)) (q : ∀ H', D0.rt (.bl true) H') :
    u3 K D0 [some (.ref a), some (.ref t), some v, x3, x4, x5] H := by
  refine ⟨_, rfl, ?_⟩
  refine ⟨_, rfl, _, rfl, a, t, ns, k, 2, rfl, hS, ht, by omega, by decide, fun r H1 r0 r2 g1 t1 => ?_⟩
  refine ⟨1, r, rfl, rfl, 1 + r, rfl, by omega, by omega, ?_⟩
  have hS1 := g1.scr ht hS
  have hW1 : Rep (del t H1) v (encW W) := hW.tmono ((g1.ts ht).trans (del_ts t1)) (im_W W)
  refine for_range (n := (1 + r).toNat) (fun i σ H2 => ∃ (bad : V) (d : PyData) (k' m : Nat) (x5 : Option V), σ = [some (.ref a), some (.ref t), some v, x3, some bad, x5] ∧ SameX t H1 H2 ∧ H2 t = some (.lst (zeros k')) ∧ k' ≤ 101 + 24 * i ∧ Rep (del t H2) bad d ∧ Sm m (3 + i) d ∧ m ≤ 10 + 12 * i + 12 * i * i ∧ 10 ≤ m)
    ⟨v, _, k + 1, 10, x5, rfl, SameX.refl _ _, t1, by omega, hW1, sm_W hok, by omega, by omega⟩ (fun i σ H2 hi hP => ?_) (fun σ H2 hP => ?_)
  · obtain ⟨bad, d, k', m, y5, rfl, g2, t2, hk', hb, hsm, hm, hm2⟩ := hP
    have hS2 := g2.scr t1 hS1
    have i2 : i = 0 ∨ i = 1 := by omega
    rcases i2 with rfl | rfl
    · refine ⟨_, rfl, _, rfl, _, rfl, .inl ⟨a, t, bad, ns, k', m, d, rfl, hS2, t2, by omega, by omega, by omega, by omega, hb, hsm, fun v' d' H' k2 hr' hs' g' t' hk2 => ?_⟩⟩
      exact ⟨v', d', k2, 2 * m + 1, _, rfl, g2.trans g', t', by omega, hr', hs', by omega, by omega⟩
    · refine ⟨_, rfl, _, rfl, _, rfl, .inr ⟨a, t, bad, ns, k', m, d, rfl, hS2, t2, by omega, by omega, by omega, by omega, hb, hsm, fun v' d' H' k2 hr' hs' g' t' hk2 => ?_⟩⟩
      exact ⟨v', d', k2, 2 * m + 1, _, rfl, g2.trans g', t', by omega, hr', hs', by omega, by omega⟩
  · obtain ⟨bad, d, k', m, y5, rfl, g2, t2, hk', hb, hsm, hm, hm2⟩ := hP
    exact s4 (hb.mono (del_same t H2)) q
def u2 (K : PySem.W.Frag) : TS := tSeq (tIfS (tTest (tOp rNeD (tComp [none, some 0, some 1, some 3] (iRng1 (tCons (tC (V.int 16)) tNil)) (gName 0) (fun x H Q => Q true H)
  (tCall sp_ask [] E0 (tCons (tVar 0) (tCons (tCall (sp_pick K) [] E0 (tCons (tVar 1) (tCons (tVar 2) (tCons (tVar 3) tNil)))) (tCons (tC V.non) tNil))))) tR16)) (tRet (tC (V.bl false))) tNext) (u3 K)
def u1 (K : PySem.W.Frag) : TS := tSeq (tAsg (tLst (tCons (tTup (tCons (tC (V.int 1)) (tCons (tTup (tCons (tTup (tCons (tC (V.int 1)) (tCons (tC (V.int 100)) tNil))) tNil)) tNil))) (tCons (tTup (tCons (tC (V.int 5)) (tCons (tTup (tCons (tTup (tCons (tC (V.int 1)) (tCons (tC (V.int 1)) tNil))) tNil)) tNil))) (tCons (tTup (tCons (tC (V.int 1)) (tCons (tOp rRepT (tTup (tCons (tTup (tCons (tC (V.int 1)) (tCons (tC (V.int 1)) tNil))) tNil)) (tC (V.int 11))) tNil))) (tCons (tTup (tCons (tC (V.int 0)) (tCons (tTup (tCons (tTup (tCons (tC (V.int 1)) (tCons (tC (V.int 1)) tNil))) tNil)) tNil))) tNil))))) (gName 3)) (tSeq (tDrop (tBM K "list" rExtend (tVar 3) (tCons (tLst (tCons (tTup (tCons (tC (V.int 1)) (tCons (tTup (tCons (tTup (tCons (tC (V.int 0)) (tCons (tC (V.int 1)) tNil))) tNil)) tNil))) (tCons (tTup (tCons (tC (V.int 1)) (tCons (tTup tNil) tNil))) (tCons (tTup (tCons (tC (V.int 1)) (tCons (tTup (tCons (tTup (tCons (tC (V.int 2)) (tCons (tC (V.int 1)) tNil))) tNil)) tNil))) tNil)))) tNil))) (u2 K))
def u0 (K : PySem.W.Frag) : TS := tSeq (tIfS (tTest (tOp rNeD (tComp [none] (iList K (tVar 3)) (gName 0) (fun x H Q => Q true H) (tCall sp_askg [] E0 (tCons (tC (V.int 15)) (tCons (tVar 0) (tCons (tC V.non) tNil)))))
  (tOp rRep (tLst (tCons (tTup tNil) tNil)) (tC (V.int 4))))) (tRet (tC (V.bl false))) tNext) (u1 K)
def uA (K : PySem.W.Frag) : TS := tSeq (tAsg (tLst (tCons (tTup (tCons (tC (V.int 1)) (tCons (tTup (tCons (tTup (tCons (tC (V.int 1)) (tCons (tC (V.int 99)) tNil))) tNil)) tNil))) (tCons (tTup (tCons (tC (V.int 4)) (tCons (tOp rRepT (tTup (tCons (tTup (tCons (tC (V.int 99)) (tCons (tC (V.int 99)) tNil))) tNil)) (tC (V.int 10))) tNil))) (tCons (tTup (tCons (tC (V.int 1)) (tCons (tOp rRepT (tTup (tCons (tTup (tCons (tC (V.int 1)) (tCons (tC (V.int 1)) tNil))) tNil)) (tC (V.int 10))) tNil))) (tCons (tTup (tCons (tC (V.int 4)) (tCons (tTup (tCons (tTup (tCons (tC (V.int 1)) (tCons (tC (V.int 1)) tNil))) tNil)) tNil))) tNil))))) (gName 3)) (u0 K)
def uL (K : PySem.W.Frag) : TS := tSeq (tAsg (tLst tNil) (gName 1)) (tSeq (tAsg (tCall (sp_world K) [] E0 (tCons (tVar 0) (tCons (tVar 1) (tCons (tC (V.int 10)) (tCons (tC (V.int 99)) tNil))))) (gName 2))
  (tSeq (tIfS (tTest (tOp rNeD (tCall sp_askg [] E0 (tCons (tC (V.int 15)) (tCons (tVar 2) (tCons (tC V.non) tNil)))) (tTup tNil))) (tRet (tC (V.bl false))) tNext) (uA K)))
theorem s2 {D0 : Ends} {H : Hp} {x4 x5 : Option V} {a t b : Addr} {ns : List Int} {k : Nat} {v : V} {W : Wd} {xs : List V} (hS : Scr K H a ns) (ht : H t = some (.lst (zeros k))) (hk : k ≤ 50) (hok : W.Ok) (hW : Rep H v (encW W)) (hb : H b = some (.lst xs)) (hbt : b ≠ t) (hx : xs ≠ [])
    (hbad : ∀ y ∈ xs, ∃ d, Rep H y d ∧ immut d = true ∧ isWD d = false) (q : ∀ H', D0.rt (.bl true) H') : u2 K D0 [some (.ref a), some (.ref t), some v, some (.ref b), x4, x5] H := by
  refine ⟨16, rfl, by decide, by decide, fun D hD => ?_⟩
  have hDt : D ≠ t := fun e => by rw [e, ht] at hD; cases hD
  have hDb : b ≠ D := fun e => by rw [← e, hb] at hD; cases hD
  refine comp_rangeR (n := 16) (fun i ys H2 => SameX t H H2 ∧ H2 t = some (.lst (zeros (k + i))) ∧ H2 D = some (.lst ys) ∧ ys.length = i ∧ ∀ y ∈ ys, Rep H2 y (rfD 0)) ⟨(same_new hD _).x t, (same_new hD _) _ _ ht, upd_same, rfl, fun y hy => by cases hy⟩ (fun i ys H2 hi hP => ?_) (fun ys H2 hP => ?_)
  · obtain ⟨g, t2, hD2, hl, hy⟩ := hP
    refine ⟨agree0, iteT ⟨_, rfl, _, rfl, _, rfl, _, rfl, a, t, b, ns, k + i, xs, rfl, g.scr ht hS, t2, by omega, g _ _ hbt hb, hbt, hx, fun y H3 hy3 g3 t3 => ?_⟩⟩
    obtain ⟨d, hd, him, hw⟩ := hbad y hy3
    refine ⟨y, _, d, rfl, by omega, by omega, hd.tmono ((g.ts ht).trans (g3.ts t2)) him, hw, fun r H4 g4 fr hr4 => ?_⟩
    have hD3 := g3 _ _ hDt hD2
    have hD4 := g4 _ _ hD3
    have tsd := TSame.lst hD4 (.lst (ys ++ [V.ref r]))
    refine ⟨hD4, Nat.lt_of_lt_of_le (show _ < 100 by omega) (by decide), fun c u nc hc => by rw [upd_ne (ne_of_none hc hD)]; exact g4 _ _ (g3 _ _ nc (g _ _ nc hc)), by rw [upd_ne (Ne.symm hDt)]; exact g4 _ _ t3, upd_same, by rw [List.length_append, hl]; rfl, fun y' hy' => ?_⟩
    refine (List.mem_append.mp hy').elim (fun h => (hy y' h).tmono (((g3.ts t2).trans g4.ts).trans tsd) rfl) (fun h => ?_)
    have e := List.mem_singleton.mp h
    subst e
    exact rf_rep (tsd _ _ hr4)
  obtain ⟨g, t2, hD2, hl, hy⟩ := hP
  have lh : ys.length = 16 := hl
  refine ⟨by show 2 ≤ sizeLine; decide, fun r1 hr1 => ?_⟩
  generalize hq1 : upd H2 r1 (.tup [.str "refused", .int 0]) = R1
  have z1 : Same H2 R1 := hq1 ▸ same_new hr1 _
  have f1 : R1 r1 = some (.tup [.str "refused", .int 0]) := by rw [← hq1]; exact upd_same
  clear hq1
  refine ⟨by show 1 ≤ sizeLine; decide, fun r2 hr2 => ?_⟩
  generalize hq2 : upd R1 r2 (.lst [.ref r1]) = R2
  have z2 : Same R1 R2 := hq2 ▸ same_new hr2 _
  have f2 : R2 r2 = some (.lst [.ref r1]) := by rw [← hq2]; exact upd_same
  clear hq2
  refine ⟨r2, 16, _, rfl, rfl, f2, by decide, by decide, (by show 1 * 16 ≤ sizeLine; decide), fun r3 hr3 => ?_⟩
  generalize hq3 : upd R2 r3 (.lst (List.replicate (16 : Int).toNat [V.ref r1]).flatten) = R3
  have z3 : Same R2 R3 := hq3 ▸ same_new hr3 _
  have f3 : R3 r3 = some (.lst (List.replicate 16 (V.ref r1))) := by rw [← hq3]; exact upd_same
  clear hq3
  have zz := z1.trans (z2.trans z3)
  have L1 : Rep R3 (.ref D) (.list (List.replicate 16 (rfD 0))) := .lst (zz _ _ hD2) (by have := refs_all (H := R3) (d := rfD 0) (ys := ys) (fun y h => (hy y h).mono zz); rw [lh] at this; exact this)
  have L2 : Rep R3 (.ref r3) (.list (List.replicate 16 (rfD 0))) := .lst f3 (by have := refs_all (H := R3) (d := rfD 0) (ys := List.replicate 16 (V.ref r1)) (fun y h => by rw [(List.mem_replicate.mp h).2]; exact rf_rep ((z2.trans z3) _ _ f1)); rw [List.length_replicate] at this; exact this)
  have sh : SeqAt.shaped (.list (List.replicate 16 (rfD 0))) = true := by decide +kernel
  refine ⟨_, _, L1, L2, sh, sh, _, rfl, if_f (by rw [SeqAt.eqv_refl _ (SeqAt.canLay_of_shaped sh)]; rfl) ?_⟩
  have gE := g.trans (zz.x t)
  clear L1 L2 sh f1 f2 f3 lh hl hy
  exact s3 (gE.scr ht hS) (zz _ _ t2) (by omega) hok (hW.tmono (gE.ts ht) (im_W W)) q
theorem s1 {a t : Addr} {ns : List Int} {k : Nat} {v : V} {W : Wd} {D0 : Ends} {x3 x4 x5 : Option V} {HHb0 : Hp} (hS : Scr K HHb0 a ns) (ht : HHb0 t = some (.lst (zeros k))) (hk : k ≤ 50) (hok : W.Ok) (hW : Rep HHb0 v (encW W)) (q : ∀ H', D0.rt (.bl true) H') : u1 K D0 [some (.ref a), some (.ref t), some v, x3, x4, x5] HHb0 := by
  refine ⟨by show 2 ≤ sizeLine; decide, fun pb1 hpb1 => ?_⟩
  generalize hqb1 : upd HHb0 pb1 (.tup [.int 1, .int 100]) = HHb1
  have gb1 : Same HHb0 HHb1 := hqb1 ▸ same_new hpb1 (.tup [.int 1, .int 100])
  have eb1 : HHb1 pb1 = some (.tup [.int 1, .int 100]) := by rw [← hqb1]; exact upd_same
  clear hqb1
  refine ⟨by show 1 ≤ sizeLine; decide, fun pb2 hpb2 => ?_⟩
  generalize hqb2 : upd HHb1 pb2 (.tup [.ref pb1]) = HHb2
  have gb2 : Same HHb1 HHb2 := hqb2 ▸ same_new hpb2 (.tup [.ref pb1])
  have eb2 : HHb2 pb2 = some (.tup [.ref pb1]) := by rw [← hqb2]; exact upd_same
  clear hqb2
  refine ⟨by show 2 ≤ sizeLine; decide, fun pb3 hpb3 => ?_⟩
  generalize hqb3 : upd HHb2 pb3 (.tup [.int 1, .ref pb2]) = HHb3
  have gb3 : Same HHb2 HHb3 := hqb3 ▸ same_new hpb3 (.tup [.int 1, .ref pb2])
  have eb3 : HHb3 pb3 = some (.tup [.int 1, .ref pb2]) := by rw [← hqb3]; exact upd_same
  clear hqb3
  refine ⟨by show 2 ≤ sizeLine; decide, fun pb4 hpb4 => ?_⟩
  generalize hqb4 : upd HHb3 pb4 (.tup [.int 1, .int 1]) = HHb4
  have gb4 : Same HHb3 HHb4 := hqb4 ▸ same_new hpb4 (.tup [.int 1, .int 1])
  have eb4 : HHb4 pb4 = some (.tup [.int 1, .int 1]) := by rw [← hqb4]; exact upd_same
  clear hqb4
  refine ⟨by show 1 ≤ sizeLine; decide, fun pb5 hpb5 => ?_⟩
  generalize hqb5 : upd HHb4 pb5 (.tup [.ref pb4]) = HHb5
  have gb5 : Same HHb4 HHb5 := hqb5 ▸ same_new hpb5 (.tup [.ref pb4])
  have eb5 : HHb5 pb5 = some (.tup [.ref pb4]) := by rw [← hqb5]; exact upd_same
  clear hqb5
  refine ⟨by show 2 ≤ sizeLine; decide, fun pb6 hpb6 => ?_⟩
  generalize hqb6 : upd HHb5 pb6 (.tup [.int 5, .ref pb5]) = HHb6
  have gb6 : Same HHb5 HHb6 := hqb6 ▸ same_new hpb6 (.tup [.int 5, .ref pb5])
  have eb6 : HHb6 pb6 = some (.tup [.int 5, .ref pb5]) := by rw [← hqb6]; exact upd_same
  clear hqb6
  refine ⟨by show 2 ≤ sizeLine; decide, fun pb7 hpb7 => ?_⟩
  generalize hqb7 : upd HHb6 pb7 (.tup [.int 1, .int 1]) = HHb7
  have gb7 : Same HHb6 HHb7 := hqb7 ▸ same_new hpb7 (.tup [.int 1, .int 1])
  have eb7 : HHb7 pb7 = some (.tup [.int 1, .int 1]) := by rw [← hqb7]; exact upd_same
  clear hqb7
  refine ⟨by show 1 ≤ sizeLine; decide, fun pb8 hpb8 => ?_⟩
  generalize hqb8 : upd HHb7 pb8 (.tup [.ref pb7]) = HHb8
  have gb8 : Same HHb7 HHb8 := hqb8 ▸ same_new hpb8 (.tup [.ref pb7])
  have eb8 : HHb8 pb8 = some (.tup [.ref pb7]) := by rw [← hqb8]; exact upd_same
  clear hqb8
  refine ⟨pb8, 11, _, rfl, rfl, eb8, by simp, by decide, by decide, (by show 1 * 11 ≤ sizeLine; decide), fun pb9 hpb9 => ?_⟩
  generalize hqb9 : upd HHb8 pb9 (.tup (List.replicate (11 : Int).toNat [V.ref pb7]).flatten) = HHb9
  have gb9 : Same HHb8 HHb9 := hqb9 ▸ same_new hpb9 (.tup (List.replicate (11 : Int).toNat [V.ref pb7]).flatten)
  have eb9 : HHb9 pb9 = some (.tup [.ref pb7, .ref pb7, .ref pb7, .ref pb7, .ref pb7, .ref pb7, .ref pb7, .ref pb7, .ref pb7, .ref pb7, .ref pb7]) := by rw [← hqb9]; exact upd_same
  clear hqb9
  refine ⟨by show 2 ≤ sizeLine; decide, fun pb10 hpb10 => ?_⟩
  generalize hqb10 : upd HHb9 pb10 (.tup [.int 1, .ref pb9]) = HHb10
  have gb10 : Same HHb9 HHb10 := hqb10 ▸ same_new hpb10 (.tup [.int 1, .ref pb9])
  have eb10 : HHb10 pb10 = some (.tup [.int 1, .ref pb9]) := by rw [← hqb10]; exact upd_same
  clear hqb10
  refine ⟨by show 2 ≤ sizeLine; decide, fun pb11 hpb11 => ?_⟩
  generalize hqb11 : upd HHb10 pb11 (.tup [.int 1, .int 1]) = HHb11
  have gb11 : Same HHb10 HHb11 := hqb11 ▸ same_new hpb11 (.tup [.int 1, .int 1])
  have eb11 : HHb11 pb11 = some (.tup [.int 1, .int 1]) := by rw [← hqb11]; exact upd_same
  clear hqb11
  refine ⟨by show 1 ≤ sizeLine; decide, fun pb12 hpb12 => ?_⟩
  generalize hqb12 : upd HHb11 pb12 (.tup [.ref pb11]) = HHb12
  have gb12 : Same HHb11 HHb12 := hqb12 ▸ same_new hpb12 (.tup [.ref pb11])
  have eb12 : HHb12 pb12 = some (.tup [.ref pb11]) := by rw [← hqb12]; exact upd_same
  clear hqb12
  refine ⟨by show 2 ≤ sizeLine; decide, fun pb13 hpb13 => ?_⟩
  generalize hqb13 : upd HHb12 pb13 (.tup [.int 0, .ref pb12]) = HHb13
  have gb13 : Same HHb12 HHb13 := hqb13 ▸ same_new hpb13 (.tup [.int 0, .ref pb12])
  have eb13 : HHb13 pb13 = some (.tup [.int 0, .ref pb12]) := by rw [← hqb13]; exact upd_same
  clear hqb13
  refine ⟨by show 4 ≤ sizeLine; decide, fun pb14 hpb14 => ?_⟩
  generalize hqb14 : upd HHb13 pb14 (.lst [.ref pb3, .ref pb6, .ref pb10, .ref pb13]) = HHb14
  have gb14 : Same HHb13 HHb14 := hqb14 ▸ same_new hpb14 (.lst [.ref pb3, .ref pb6, .ref pb10, .ref pb13])
  have eb14 : HHb14 pb14 = some (.lst [.ref pb3, .ref pb6, .ref pb10, .ref pb13]) := by rw [← hqb14]; exact upd_same
  clear hqb14
  refine ⟨_, rfl, .inl ⟨rfl, _, SqL.of eb14⟩, ?_⟩
  refine ⟨by show 2 ≤ sizeLine; decide, fun pb15 hpb15 => ?_⟩
  generalize hqb15 : upd HHb14 pb15 (.tup [.int 0, .int 1]) = HHb15
  have gb15 : Same HHb14 HHb15 := hqb15 ▸ same_new hpb15 (.tup [.int 0, .int 1])
  have eb15 : HHb15 pb15 = some (.tup [.int 0, .int 1]) := by rw [← hqb15]; exact upd_same
  clear hqb15
  refine ⟨by show 1 ≤ sizeLine; decide, fun pb16 hpb16 => ?_⟩
  generalize hqb16 : upd HHb15 pb16 (.tup [.ref pb15]) = HHb16
  have gb16 : Same HHb15 HHb16 := hqb16 ▸ same_new hpb16 (.tup [.ref pb15])
  have eb16 : HHb16 pb16 = some (.tup [.ref pb15]) := by rw [← hqb16]; exact upd_same
  clear hqb16
  refine ⟨by show 2 ≤ sizeLine; decide, fun pb17 hpb17 => ?_⟩
  generalize hqb17 : upd HHb16 pb17 (.tup [.int 1, .ref pb16]) = HHb17
  have gb17 : Same HHb16 HHb17 := hqb17 ▸ same_new hpb17 (.tup [.int 1, .ref pb16])
  have eb17 : HHb17 pb17 = some (.tup [.int 1, .ref pb16]) := by rw [← hqb17]; exact upd_same
  clear hqb17
  refine ⟨by show 0 ≤ sizeLine; decide, fun pb18 hpb18 => ?_⟩
  generalize hqb18 : upd HHb17 pb18 (.tup []) = HHb18
  have gb18 : Same HHb17 HHb18 := hqb18 ▸ same_new hpb18 (.tup [])
  have eb18 : HHb18 pb18 = some (.tup []) := by rw [← hqb18]; exact upd_same
  clear hqb18
  refine ⟨by show 2 ≤ sizeLine; decide, fun pb19 hpb19 => ?_⟩
  generalize hqb19 : upd HHb18 pb19 (.tup [.int 1, .ref pb18]) = HHb19
  have gb19 : Same HHb18 HHb19 := hqb19 ▸ same_new hpb19 (.tup [.int 1, .ref pb18])
  have eb19 : HHb19 pb19 = some (.tup [.int 1, .ref pb18]) := by rw [← hqb19]; exact upd_same
  clear hqb19
  refine ⟨by show 2 ≤ sizeLine; decide, fun pb20 hpb20 => ?_⟩
  generalize hqb20 : upd HHb19 pb20 (.tup [.int 2, .int 1]) = HHb20
  have gb20 : Same HHb19 HHb20 := hqb20 ▸ same_new hpb20 (.tup [.int 2, .int 1])
  have eb20 : HHb20 pb20 = some (.tup [.int 2, .int 1]) := by rw [← hqb20]; exact upd_same
  clear hqb20
  refine ⟨by show 1 ≤ sizeLine; decide, fun pb21 hpb21 => ?_⟩
  generalize hqb21 : upd HHb20 pb21 (.tup [.ref pb20]) = HHb21
  have gb21 : Same HHb20 HHb21 := hqb21 ▸ same_new hpb21 (.tup [.ref pb20])
  have eb21 : HHb21 pb21 = some (.tup [.ref pb20]) := by rw [← hqb21]; exact upd_same
  clear hqb21
  refine ⟨by show 2 ≤ sizeLine; decide, fun pb22 hpb22 => ?_⟩
  generalize hqb22 : upd HHb21 pb22 (.tup [.int 1, .ref pb21]) = HHb22
  have gb22 : Same HHb21 HHb22 := hqb22 ▸ same_new hpb22 (.tup [.int 1, .ref pb21])
  have eb22 : HHb22 pb22 = some (.tup [.int 1, .ref pb21]) := by rw [← hqb22]; exact upd_same
  clear hqb22
  refine ⟨by show 3 ≤ sizeLine; decide, fun pb23 hpb23 => ?_⟩
  generalize hqb23 : upd HHb22 pb23 (.lst [.ref pb17, .ref pb19, .ref pb22]) = HHb23
  have gb23 : Same HHb22 HHb23 := hqb23 ▸ same_new hpb23 (.lst [.ref pb17, .ref pb19, .ref pb22])
  have eb23 : HHb23 pb23 = some (.lst [.ref pb17, .ref pb19, .ref pb22]) := by rw [← hqb23]; exact upd_same
  clear hqb23
  have Wb0 : Same HHb0 HHb23 := (gb1.trans (gb2.trans (gb3.trans (gb4.trans (gb5.trans (gb6.trans (gb7.trans (gb8.trans (gb9.trans (gb10.trans (gb11.trans (gb12.trans (gb13.trans (gb14.trans (gb15.trans (gb16.trans (gb17.trans (gb18.trans (gb19.trans (gb20.trans (gb21.trans (gb22.trans (gb23)))))))))))))))))))))))
  have Wb1 : Same HHb1 HHb23 := (gb2.trans (gb3.trans (gb4.trans (gb5.trans (gb6.trans (gb7.trans (gb8.trans (gb9.trans (gb10.trans (gb11.trans (gb12.trans (gb13.trans (gb14.trans (gb15.trans (gb16.trans (gb17.trans (gb18.trans (gb19.trans (gb20.trans (gb21.trans (gb22.trans (gb23))))))))))))))))))))))
  have Wb2 : Same HHb2 HHb23 := (gb3.trans (gb4.trans (gb5.trans (gb6.trans (gb7.trans (gb8.trans (gb9.trans (gb10.trans (gb11.trans (gb12.trans (gb13.trans (gb14.trans (gb15.trans (gb16.trans (gb17.trans (gb18.trans (gb19.trans (gb20.trans (gb21.trans (gb22.trans (gb23)))))))))))))))))))))
  have Wb3 : Same HHb3 HHb23 := (gb4.trans (gb5.trans (gb6.trans (gb7.trans (gb8.trans (gb9.trans (gb10.trans (gb11.trans (gb12.trans (gb13.trans (gb14.trans (gb15.trans (gb16.trans (gb17.trans (gb18.trans (gb19.trans (gb20.trans (gb21.trans (gb22.trans (gb23))))))))))))))))))))
  have Wb4 : Same HHb4 HHb23 := (gb5.trans (gb6.trans (gb7.trans (gb8.trans (gb9.trans (gb10.trans (gb11.trans (gb12.trans (gb13.trans (gb14.trans (gb15.trans (gb16.trans (gb17.trans (gb18.trans (gb19.trans (gb20.trans (gb21.trans (gb22.trans (gb23)))))))))))))))))))
  have Wb5 : Same HHb5 HHb23 := (gb6.trans (gb7.trans (gb8.trans (gb9.trans (gb10.trans (gb11.trans (gb12.trans (gb13.trans (gb14.trans (gb15.trans (gb16.trans (gb17.trans (gb18.trans (gb19.trans (gb20.trans (gb21.trans (gb22.trans (gb23))))))))))))))))))
  have Wb6 : Same HHb6 HHb23 := (gb7.trans (gb8.trans (gb9.trans (gb10.trans (gb11.trans (gb12.trans (gb13.trans (gb14.trans (gb15.trans (gb16.trans (gb17.trans (gb18.trans (gb19.trans (gb20.trans (gb21.trans (gb22.trans (gb23)))))))))))))))))
  have Wb7 : Same HHb7 HHb23 := (gb8.trans (gb9.trans (gb10.trans (gb11.trans (gb12.trans (gb13.trans (gb14.trans (gb15.trans (gb16.trans (gb17.trans (gb18.trans (gb19.trans (gb20.trans (gb21.trans (gb22.trans (gb23))))))))))))))))
  have Wb8 : Same HHb8 HHb23 := (gb9.trans (gb10.trans (gb11.trans (gb12.trans (gb13.trans (gb14.trans (gb15.trans (gb16.trans (gb17.trans (gb18.trans (gb19.trans (gb20.trans (gb21.trans (gb22.trans (gb23)))))))))))))))
  have Wb9 : Same HHb9 HHb23 := (gb10.trans (gb11.trans (gb12.trans (gb13.trans (gb14.trans (gb15.trans (gb16.trans (gb17.trans (gb18.trans (gb19.trans (gb20.trans (gb21.trans (gb22.trans (gb23))))))))))))))
  have Wb10 : Same HHb10 HHb23 := (gb11.trans (gb12.trans (gb13.trans (gb14.trans (gb15.trans (gb16.trans (gb17.trans (gb18.trans (gb19.trans (gb20.trans (gb21.trans (gb22.trans (gb23)))))))))))))
  have Wb11 : Same HHb11 HHb23 := (gb12.trans (gb13.trans (gb14.trans (gb15.trans (gb16.trans (gb17.trans (gb18.trans (gb19.trans (gb20.trans (gb21.trans (gb22.trans (gb23))))))))))))
  have Wb12 : Same HHb12 HHb23 := (gb13.trans (gb14.trans (gb15.trans (gb16.trans (gb17.trans (gb18.trans (gb19.trans (gb20.trans (gb21.trans (gb22.trans (gb23)))))))))))
  have Wb13 : Same HHb13 HHb23 := (gb14.trans (gb15.trans (gb16.trans (gb17.trans (gb18.trans (gb19.trans (gb20.trans (gb21.trans (gb22.trans (gb23))))))))))
  have Wb14 : Same HHb14 HHb23 := (gb15.trans (gb16.trans (gb17.trans (gb18.trans (gb19.trans (gb20.trans (gb21.trans (gb22.trans (gb23)))))))))
  have Wb15 : Same HHb15 HHb23 := (gb16.trans (gb17.trans (gb18.trans (gb19.trans (gb20.trans (gb21.trans (gb22.trans (gb23))))))))
  have Wb16 : Same HHb16 HHb23 := (gb17.trans (gb18.trans (gb19.trans (gb20.trans (gb21.trans (gb22.trans (gb23)))))))
  have Wb17 : Same HHb17 HHb23 := (gb18.trans (gb19.trans (gb20.trans (gb21.trans (gb22.trans (gb23))))))
  have Wb18 : Same HHb18 HHb23 := (gb19.trans (gb20.trans (gb21.trans (gb22.trans (gb23)))))
  have Wb19 : Same HHb19 HHb23 := (gb20.trans (gb21.trans (gb22.trans (gb23))))
  have Wb20 : Same HHb20 HHb23 := (gb21.trans (gb22.trans (gb23)))
  have Wb21 : Same HHb21 HHb23 := (gb22.trans (gb23))
  have Wb22 : Same HHb22 HHb23 := (gb23)
  have Wb23 : Same HHb23 HHb23 := (Same.refl _)
  refine ⟨pb14, pb23, _, _, rfl, rfl, Wb14 _ _ eb14, eb23, by show 7 ≤ sizeLine; decide, ?_⟩
  have tsf := TSame.lst (Wb14 _ _ eb14) (.lst (([.ref pb3, .ref pb6, .ref pb10, .ref pb13] : List V) ++ [.ref pb17, .ref pb19, .ref pb22]))
  have nt : pb14 ≠ t := fun e => by have hh := hpb14; rw [e] at hh; have := (gb1.trans (gb2.trans (gb3.trans (gb4.trans (gb5.trans (gb6.trans (gb7.trans (gb8.trans (gb9.trans (gb10.trans (gb11.trans (gb12.trans (gb13))))))))))))) _ _ ht; rw [this] at hh; cases hh
  have Wt := Wb0 _ _ ht
  have hS2 := ((Wb14.x pb14).write (.lst (([.ref pb3, .ref pb6, .ref pb10, .ref pb13] : List V) ++ [.ref pb17, .ref pb19, .ref pb22]))).scr eb14 (hS.same (gb1.trans (gb2.trans (gb3.trans (gb4.trans (gb5.trans (gb6.trans (gb7.trans (gb8.trans (gb9.trans (gb10.trans (gb11.trans (gb12.trans (gb13.trans (gb14)))))))))))))))
  refine s2 (b := pb14) (k := k) (W := W) hS2 (by rw [upd_ne (Ne.symm nt)]; exact Wt) hk hok (hW.tmono (Wb0.ts.trans tsf) (im_W W)) upd_same nt (by simp) (fun y hy => ?_) q
  simp only [List.cons_append, List.nil_append, List.mem_cons, List.not_mem_nil, or_false] at hy
  rcases hy with rfl | rfl | rfl | rfl | rfl | rfl | rfl
  · exact ⟨.tuple [.int 1, .tuple [.tuple [.int 1, .int 100]]], Rep.tmono tsf rfl (.tup (Wb3 _ _ eb3) (.cons (.int _) (.cons (.tup (Wb2 _ _ eb2) (.cons (.tup (Wb1 _ _ eb1) (.cons (.int _) (.cons (.int _) .nil))) .nil)) .nil))), rfl, by decide +kernel⟩
  · exact ⟨.tuple [.int 5, .tuple [.tuple [.int 1, .int 1]]], Rep.tmono tsf rfl (.tup (Wb6 _ _ eb6) (.cons (.int _) (.cons (.tup (Wb5 _ _ eb5) (.cons (.tup (Wb4 _ _ eb4) (.cons (.int _) (.cons (.int _) .nil))) .nil)) .nil))), rfl, by decide +kernel⟩
  · exact ⟨.tuple [.int 1, .tuple [.tuple [.int 1, .int 1], .tuple [.int 1, .int 1], .tuple [.int 1, .int 1], .tuple [.int 1, .int 1], .tuple [.int 1, .int 1], .tuple [.int 1, .int 1], .tuple [.int 1, .int 1], .tuple [.int 1, .int 1], .tuple [.int 1, .int 1], .tuple [.int 1, .int 1], .tuple [.int 1, .int 1]]], Rep.tmono tsf rfl (.tup (Wb10 _ _ eb10) (.cons (.int _) (.cons (.tup (Wb9 _ _ eb9) (.cons (.tup (Wb7 _ _ eb7) (.cons (.int _) (.cons (.int _) .nil))) (.cons (.tup (Wb7 _ _ eb7) (.cons (.int _) (.cons (.int _) .nil))) (.cons (.tup (Wb7 _ _ eb7) (.cons (.int _) (.cons (.int _) .nil))) (.cons (.tup (Wb7 _ _ eb7) (.cons (.int _) (.cons (.int _) .nil))) (.cons (.tup (Wb7 _ _ eb7) (.cons (.int _) (.cons (.int _) .nil))) (.cons (.tup (Wb7 _ _ eb7) (.cons (.int _) (.cons (.int _) .nil))) (.cons (.tup (Wb7 _ _ eb7) (.cons (.int _) (.cons (.int _) .nil))) (.cons (.tup (Wb7 _ _ eb7) (.cons (.int _) (.cons (.int _) .nil))) (.cons (.tup (Wb7 _ _ eb7) (.cons (.int _) (.cons (.int _) .nil))) (.cons (.tup (Wb7 _ _ eb7) (.cons (.int _) (.cons (.int _) .nil))) (.cons (.tup (Wb7 _ _ eb7) (.cons (.int _) (.cons (.int _) .nil))) .nil)))))))))))) .nil))), rfl, by decide +kernel⟩
  · exact ⟨.tuple [.int 0, .tuple [.tuple [.int 1, .int 1]]], Rep.tmono tsf rfl (.tup (Wb13 _ _ eb13) (.cons (.int _) (.cons (.tup (Wb12 _ _ eb12) (.cons (.tup (Wb11 _ _ eb11) (.cons (.int _) (.cons (.int _) .nil))) .nil)) .nil))), rfl, by decide +kernel⟩
  · exact ⟨.tuple [.int 1, .tuple [.tuple [.int 0, .int 1]]], Rep.tmono tsf rfl (.tup (Wb17 _ _ eb17) (.cons (.int _) (.cons (.tup (Wb16 _ _ eb16) (.cons (.tup (Wb15 _ _ eb15) (.cons (.int _) (.cons (.int _) .nil))) .nil)) .nil))), rfl, by decide +kernel⟩
  · exact ⟨.tuple [.int 1, .tuple []], Rep.tmono tsf rfl (.tup (Wb19 _ _ eb19) (.cons (.int _) (.cons (.tup (Wb18 _ _ eb18) .nil) .nil))), rfl, by decide +kernel⟩
  · exact ⟨.tuple [.int 1, .tuple [.tuple [.int 2, .int 1]]], Rep.tmono tsf rfl (.tup (Wb22 _ _ eb22) (.cons (.int _) (.cons (.tup (Wb21 _ _ eb21) (.cons (.tup (Wb20 _ _ eb20) (.cons (.int _) (.cons (.int _) .nil))) .nil)) .nil))), rfl, by decide +kernel⟩
theorem s0 {a t b : Addr} {ns : List Int} {k : Nat} {v : V} {W : Wd} {D0 : Ends} {x4 x5 : Option V} {H : Hp} {y0 y1 y2 y3 : V} (hS : Scr K H a ns) (ht : H t = some (.lst (zeros k))) (hk : k ≤ 50) (hok : W.Ok) (hW : Rep H v (encW W)) (q : ∀ H', D0.rt (.bl true) H') (hb : H b = some (.lst [y0, y1, y2, y3])) (hg : ∀ y ∈ ([y0, y1, y2, y3] : List V), ∃ W : Wd, W.Ok ∧ Rep H y (encW W)) : u0 K D0 [some (.ref a), some (.ref t), some v, some (.ref b), x4, x5] H := by
  refine ⟨_, rfl, b, rfl, ⟨_, SqL.of hb⟩, fun D hD => ?_⟩
  refine comp_listR (K := K) (a := b) (xs := [y0, y1, y2, y3]) (fun i ys H2 => Same H H2 ∧ H2 D = some (.lst ys) ∧ ys.length = i ∧ ∀ y ∈ ys, Rep H2 y (.tuple [])) ⟨same_new hD _, upd_same, rfl, fun y hy => by cases hy⟩ (fun i ys H2 _ hP => SqL.of (hP.1 _ _ hb)) (fun i ys x H2 hx hP => ?_) (fun ys H2 hP => ?_)
  · obtain ⟨g, hD2, hl, hy⟩ := hP
    have hi : i < 4 := by rcases Nat.lt_or_ge i 4 with h | h; exact h; rw [List.getElem?_eq_none (by show 4 ≤ i; exact h)] at hx; cases hx
    obtain ⟨W1, hok1, hr1⟩ := hg x (List.mem_of_getElem? hx)
    refine ⟨agree0, iteT ⟨_, rfl, x, W1, rfl, hr1.mono g, hok1, fun r H3 g3 hr3 => ⟨g3 _ _ hD2, Nat.lt_of_lt_of_le (show _ < 100 by omega) (by decide), (g.trans g3).write hD _, upd_same, by rw [List.length_append, hl]; rfl, fun y hy' => ?_⟩⟩⟩
    have tsd := TSame.lst (g3 _ _ hD2) (.lst (ys ++ [V.ref r]))
    refine (List.mem_append.mp hy').elim (fun h => (hy y h).tmono (g3.ts.trans tsd) rfl) (fun h => ?_)
    have e := List.mem_singleton.mp h
    subst e
    exact .tup (tsd _ _ hr3) .nil
  obtain ⟨g, hD2, hl, hy⟩ := hP
  have lh : ys.length = 4 := hl
  refine ⟨by show 0 ≤ sizeLine; decide, fun r1 hr1 => ?_⟩
  generalize hq1 : upd H2 r1 (.tup []) = R1
  have z1 : Same H2 R1 := hq1 ▸ same_new hr1 _
  have f1 : R1 r1 = some (.tup []) := by rw [← hq1]; exact upd_same
  clear hq1
  refine ⟨by show 1 ≤ sizeLine; decide, fun r2 hr2 => ?_⟩
  generalize hq2 : upd R1 r2 (.lst [.ref r1]) = R2
  have z2 : Same R1 R2 := hq2 ▸ same_new hr2 _
  have f2 : R2 r2 = some (.lst [.ref r1]) := by rw [← hq2]; exact upd_same
  clear hq2
  refine ⟨r2, 4, _, rfl, rfl, f2, by decide, by decide, (by show 1 * 4 ≤ sizeLine; decide), fun r3 hr3 => ?_⟩
  generalize hq3 : upd R2 r3 (.lst (List.replicate (4 : Int).toNat [V.ref r1]).flatten) = R3
  have z3 : Same R2 R3 := hq3 ▸ same_new hr3 _
  have f3 : R3 r3 = some (.lst (List.replicate 4 (V.ref r1))) := by rw [← hq3]; exact upd_same
  clear hq3
  have zz := z1.trans (z2.trans z3)
  have L1 : Rep R3 (.ref D) (.list (List.replicate 4 (.tuple []))) := .lst (zz _ _ hD2) (by have := refs_all (H := R3) (d := .tuple []) (ys := ys) (fun y h => (hy y h).mono zz); rw [lh] at this; exact this)
  have L2 : Rep R3 (.ref r3) (.list (List.replicate 4 (.tuple []))) := .lst f3 (refs_all (H := R3) (d := .tuple []) (ys := List.replicate 4 (V.ref r1)) (fun y h => by rw [(List.mem_replicate.mp h).2]; exact .tup ((z2.trans z3) _ _ f1) .nil))
  have sh : SeqAt.shaped (.list (List.replicate 4 (.tuple []))) = true := by decide +kernel
  refine ⟨_, _, L1, L2, sh, sh, _, rfl, if_f (by rw [SeqAt.eqv_refl _ (SeqAt.canLay_of_shaped sh)]; rfl) ?_⟩
  have gE := g.trans zz
  exact s1 (hS.same gE) (gE _ _ ht) hk hok (hW.mono gE) q
theorem sA {a t : Addr} {ns : List Int} {k : Nat} {v : V} {W : Wd} {D0 : Ends} {x3 x4 x5 : Option V} {HHa0 : Hp} (hS : Scr K HHa0 a ns) (ht : HHa0 t = some (.lst (zeros k))) (hk : k ≤ 50) (hok : W.Ok) (hW : Rep HHa0 v (encW W)) (q : ∀ H', D0.rt (.bl true) H') : uA K D0 [some (.ref a), some (.ref t), some v, x3, x4, x5] HHa0 := by
  refine ⟨by show 2 ≤ sizeLine; decide, fun pa1 hpa1 => ?_⟩
  generalize hqa1 : upd HHa0 pa1 (.tup [.int 1, .int 99]) = HHa1
  have ga1 : Same HHa0 HHa1 := hqa1 ▸ same_new hpa1 (.tup [.int 1, .int 99])
  have ea1 : HHa1 pa1 = some (.tup [.int 1, .int 99]) := by rw [← hqa1]; exact upd_same
  clear hqa1
  refine ⟨by show 1 ≤ sizeLine; decide, fun pa2 hpa2 => ?_⟩
  generalize hqa2 : upd HHa1 pa2 (.tup [.ref pa1]) = HHa2
  have ga2 : Same HHa1 HHa2 := hqa2 ▸ same_new hpa2 (.tup [.ref pa1])
  have ea2 : HHa2 pa2 = some (.tup [.ref pa1]) := by rw [← hqa2]; exact upd_same
  clear hqa2
  refine ⟨by show 2 ≤ sizeLine; decide, fun pa3 hpa3 => ?_⟩
  generalize hqa3 : upd HHa2 pa3 (.tup [.int 1, .ref pa2]) = HHa3
  have ga3 : Same HHa2 HHa3 := hqa3 ▸ same_new hpa3 (.tup [.int 1, .ref pa2])
  have ea3 : HHa3 pa3 = some (.tup [.int 1, .ref pa2]) := by rw [← hqa3]; exact upd_same
  clear hqa3
  refine ⟨by show 2 ≤ sizeLine; decide, fun pa4 hpa4 => ?_⟩
  generalize hqa4 : upd HHa3 pa4 (.tup [.int 99, .int 99]) = HHa4
  have ga4 : Same HHa3 HHa4 := hqa4 ▸ same_new hpa4 (.tup [.int 99, .int 99])
  have ea4 : HHa4 pa4 = some (.tup [.int 99, .int 99]) := by rw [← hqa4]; exact upd_same
  clear hqa4
  refine ⟨by show 1 ≤ sizeLine; decide, fun pa5 hpa5 => ?_⟩
  generalize hqa5 : upd HHa4 pa5 (.tup [.ref pa4]) = HHa5
  have ga5 : Same HHa4 HHa5 := hqa5 ▸ same_new hpa5 (.tup [.ref pa4])
  have ea5 : HHa5 pa5 = some (.tup [.ref pa4]) := by rw [← hqa5]; exact upd_same
  clear hqa5
  refine ⟨pa5, 10, _, rfl, rfl, ea5, by simp, by decide, by decide, (by show 1 * 10 ≤ sizeLine; decide), fun pa6 hpa6 => ?_⟩
  generalize hqa6 : upd HHa5 pa6 (.tup (List.replicate (10 : Int).toNat [V.ref pa4]).flatten) = HHa6
  have ga6 : Same HHa5 HHa6 := hqa6 ▸ same_new hpa6 (.tup (List.replicate (10 : Int).toNat [V.ref pa4]).flatten)
  have ea6 : HHa6 pa6 = some (.tup [.ref pa4, .ref pa4, .ref pa4, .ref pa4, .ref pa4, .ref pa4, .ref pa4, .ref pa4, .ref pa4, .ref pa4]) := by rw [← hqa6]; exact upd_same
  clear hqa6
  refine ⟨by show 2 ≤ sizeLine; decide, fun pa7 hpa7 => ?_⟩
  generalize hqa7 : upd HHa6 pa7 (.tup [.int 4, .ref pa6]) = HHa7
  have ga7 : Same HHa6 HHa7 := hqa7 ▸ same_new hpa7 (.tup [.int 4, .ref pa6])
  have ea7 : HHa7 pa7 = some (.tup [.int 4, .ref pa6]) := by rw [← hqa7]; exact upd_same
  clear hqa7
  refine ⟨by show 2 ≤ sizeLine; decide, fun pa8 hpa8 => ?_⟩
  generalize hqa8 : upd HHa7 pa8 (.tup [.int 1, .int 1]) = HHa8
  have ga8 : Same HHa7 HHa8 := hqa8 ▸ same_new hpa8 (.tup [.int 1, .int 1])
  have ea8 : HHa8 pa8 = some (.tup [.int 1, .int 1]) := by rw [← hqa8]; exact upd_same
  clear hqa8
  refine ⟨by show 1 ≤ sizeLine; decide, fun pa9 hpa9 => ?_⟩
  generalize hqa9 : upd HHa8 pa9 (.tup [.ref pa8]) = HHa9
  have ga9 : Same HHa8 HHa9 := hqa9 ▸ same_new hpa9 (.tup [.ref pa8])
  have ea9 : HHa9 pa9 = some (.tup [.ref pa8]) := by rw [← hqa9]; exact upd_same
  clear hqa9
  refine ⟨pa9, 10, _, rfl, rfl, ea9, by simp, by decide, by decide, (by show 1 * 10 ≤ sizeLine; decide), fun pa10 hpa10 => ?_⟩
  generalize hqa10 : upd HHa9 pa10 (.tup (List.replicate (10 : Int).toNat [V.ref pa8]).flatten) = HHa10
  have ga10 : Same HHa9 HHa10 := hqa10 ▸ same_new hpa10 (.tup (List.replicate (10 : Int).toNat [V.ref pa8]).flatten)
  have ea10 : HHa10 pa10 = some (.tup [.ref pa8, .ref pa8, .ref pa8, .ref pa8, .ref pa8, .ref pa8, .ref pa8, .ref pa8, .ref pa8, .ref pa8]) := by rw [← hqa10]; exact upd_same
  clear hqa10
  refine ⟨by show 2 ≤ sizeLine; decide, fun pa11 hpa11 => ?_⟩
  generalize hqa11 : upd HHa10 pa11 (.tup [.int 1, .ref pa10]) = HHa11
  have ga11 : Same HHa10 HHa11 := hqa11 ▸ same_new hpa11 (.tup [.int 1, .ref pa10])
  have ea11 : HHa11 pa11 = some (.tup [.int 1, .ref pa10]) := by rw [← hqa11]; exact upd_same
  clear hqa11
  refine ⟨by show 2 ≤ sizeLine; decide, fun pa12 hpa12 => ?_⟩
  generalize hqa12 : upd HHa11 pa12 (.tup [.int 1, .int 1]) = HHa12
  have ga12 : Same HHa11 HHa12 := hqa12 ▸ same_new hpa12 (.tup [.int 1, .int 1])
  have ea12 : HHa12 pa12 = some (.tup [.int 1, .int 1]) := by rw [← hqa12]; exact upd_same
  clear hqa12
  refine ⟨by show 1 ≤ sizeLine; decide, fun pa13 hpa13 => ?_⟩
  generalize hqa13 : upd HHa12 pa13 (.tup [.ref pa12]) = HHa13
  have ga13 : Same HHa12 HHa13 := hqa13 ▸ same_new hpa13 (.tup [.ref pa12])
  have ea13 : HHa13 pa13 = some (.tup [.ref pa12]) := by rw [← hqa13]; exact upd_same
  clear hqa13
  refine ⟨by show 2 ≤ sizeLine; decide, fun pa14 hpa14 => ?_⟩
  generalize hqa14 : upd HHa13 pa14 (.tup [.int 4, .ref pa13]) = HHa14
  have ga14 : Same HHa13 HHa14 := hqa14 ▸ same_new hpa14 (.tup [.int 4, .ref pa13])
  have ea14 : HHa14 pa14 = some (.tup [.int 4, .ref pa13]) := by rw [← hqa14]; exact upd_same
  clear hqa14
  refine ⟨by show 4 ≤ sizeLine; decide, fun pa15 hpa15 => ?_⟩
  generalize hqa15 : upd HHa14 pa15 (.lst [.ref pa3, .ref pa7, .ref pa11, .ref pa14]) = HHa15
  have ga15 : Same HHa14 HHa15 := hqa15 ▸ same_new hpa15 (.lst [.ref pa3, .ref pa7, .ref pa11, .ref pa14])
  have ea15 : HHa15 pa15 = some (.lst [.ref pa3, .ref pa7, .ref pa11, .ref pa14]) := by rw [← hqa15]; exact upd_same
  clear hqa15
  have Wa0 : Same HHa0 HHa15 := (ga1.trans (ga2.trans (ga3.trans (ga4.trans (ga5.trans (ga6.trans (ga7.trans (ga8.trans (ga9.trans (ga10.trans (ga11.trans (ga12.trans (ga13.trans (ga14.trans (ga15)))))))))))))))
  have Wa1 : Same HHa1 HHa15 := (ga2.trans (ga3.trans (ga4.trans (ga5.trans (ga6.trans (ga7.trans (ga8.trans (ga9.trans (ga10.trans (ga11.trans (ga12.trans (ga13.trans (ga14.trans (ga15))))))))))))))
  have Wa2 : Same HHa2 HHa15 := (ga3.trans (ga4.trans (ga5.trans (ga6.trans (ga7.trans (ga8.trans (ga9.trans (ga10.trans (ga11.trans (ga12.trans (ga13.trans (ga14.trans (ga15)))))))))))))
  have Wa3 : Same HHa3 HHa15 := (ga4.trans (ga5.trans (ga6.trans (ga7.trans (ga8.trans (ga9.trans (ga10.trans (ga11.trans (ga12.trans (ga13.trans (ga14.trans (ga15))))))))))))
  have Wa4 : Same HHa4 HHa15 := (ga5.trans (ga6.trans (ga7.trans (ga8.trans (ga9.trans (ga10.trans (ga11.trans (ga12.trans (ga13.trans (ga14.trans (ga15)))))))))))
  have Wa5 : Same HHa5 HHa15 := (ga6.trans (ga7.trans (ga8.trans (ga9.trans (ga10.trans (ga11.trans (ga12.trans (ga13.trans (ga14.trans (ga15))))))))))
  have Wa6 : Same HHa6 HHa15 := (ga7.trans (ga8.trans (ga9.trans (ga10.trans (ga11.trans (ga12.trans (ga13.trans (ga14.trans (ga15)))))))))
  have Wa7 : Same HHa7 HHa15 := (ga8.trans (ga9.trans (ga10.trans (ga11.trans (ga12.trans (ga13.trans (ga14.trans (ga15))))))))
  have Wa8 : Same HHa8 HHa15 := (ga9.trans (ga10.trans (ga11.trans (ga12.trans (ga13.trans (ga14.trans (ga15)))))))
  have Wa9 : Same HHa9 HHa15 := (ga10.trans (ga11.trans (ga12.trans (ga13.trans (ga14.trans (ga15))))))
  have Wa10 : Same HHa10 HHa15 := (ga11.trans (ga12.trans (ga13.trans (ga14.trans (ga15)))))
  have Wa11 : Same HHa11 HHa15 := (ga12.trans (ga13.trans (ga14.trans (ga15))))
  have Wa12 : Same HHa12 HHa15 := (ga13.trans (ga14.trans (ga15)))
  have Wa13 : Same HHa13 HHa15 := (ga14.trans (ga15))
  have Wa14 : Same HHa14 HHa15 := (ga15)
  have Wa15 : Same HHa15 HHa15 := (Same.refl _)
  refine s0 (hS.same Wa0) (Wa0 _ _ ht) hk hok (hW.mono Wa0) q ea15 (fun y hy => ?_)
  simp only [List.mem_cons, List.not_mem_nil, or_false] at hy
  rcases hy with rfl | rfl | rfl | rfl
  · exact ⟨⟨1, [(1, 99)]⟩, ok_g (by decide) (by decide) (by decide) (by decide) (by decide), .tup (Wa3 _ _ ea3) (.cons (.int _) (.cons (.tup (Wa2 _ _ ea2) (.cons (.tup (Wa1 _ _ ea1) (.cons (.int _) (.cons (.int _) .nil))) .nil)) .nil))⟩
  · exact ⟨⟨4, List.replicate 10 (99, 99)⟩, ok_g (by decide) (by decide) (by decide) (by decide) (by decide), .tup (Wa7 _ _ ea7) (.cons (.int _) (.cons (.tup (Wa6 _ _ ea6) (.cons (.tup (Wa4 _ _ ea4) (.cons (.int _) (.cons (.int _) .nil))) (.cons (.tup (Wa4 _ _ ea4) (.cons (.int _) (.cons (.int _) .nil))) (.cons (.tup (Wa4 _ _ ea4) (.cons (.int _) (.cons (.int _) .nil))) (.cons (.tup (Wa4 _ _ ea4) (.cons (.int _) (.cons (.int _) .nil))) (.cons (.tup (Wa4 _ _ ea4) (.cons (.int _) (.cons (.int _) .nil))) (.cons (.tup (Wa4 _ _ ea4) (.cons (.int _) (.cons (.int _) .nil))) (.cons (.tup (Wa4 _ _ ea4) (.cons (.int _) (.cons (.int _) .nil))) (.cons (.tup (Wa4 _ _ ea4) (.cons (.int _) (.cons (.int _) .nil))) (.cons (.tup (Wa4 _ _ ea4) (.cons (.int _) (.cons (.int _) .nil))) (.cons (.tup (Wa4 _ _ ea4) (.cons (.int _) (.cons (.int _) .nil))) .nil))))))))))) .nil))⟩
  · exact ⟨⟨1, List.replicate 10 (1, 1)⟩, ok_g (by decide) (by decide) (by decide) (by decide) (by decide), .tup (Wa11 _ _ ea11) (.cons (.int _) (.cons (.tup (Wa10 _ _ ea10) (.cons (.tup (Wa8 _ _ ea8) (.cons (.int _) (.cons (.int _) .nil))) (.cons (.tup (Wa8 _ _ ea8) (.cons (.int _) (.cons (.int _) .nil))) (.cons (.tup (Wa8 _ _ ea8) (.cons (.int _) (.cons (.int _) .nil))) (.cons (.tup (Wa8 _ _ ea8) (.cons (.int _) (.cons (.int _) .nil))) (.cons (.tup (Wa8 _ _ ea8) (.cons (.int _) (.cons (.int _) .nil))) (.cons (.tup (Wa8 _ _ ea8) (.cons (.int _) (.cons (.int _) .nil))) (.cons (.tup (Wa8 _ _ ea8) (.cons (.int _) (.cons (.int _) .nil))) (.cons (.tup (Wa8 _ _ ea8) (.cons (.int _) (.cons (.int _) .nil))) (.cons (.tup (Wa8 _ _ ea8) (.cons (.int _) (.cons (.int _) .nil))) (.cons (.tup (Wa8 _ _ ea8) (.cons (.int _) (.cons (.int _) .nil))) .nil))))))))))) .nil))⟩
  · exact ⟨⟨4, [(1, 1)]⟩, ok_g (by decide) (by decide) (by decide) (by decide) (by decide), .tup (Wa14 _ _ ea14) (.cons (.int _) (.cons (.tup (Wa13 _ _ ea13) (.cons (.tup (Wa12 _ _ ea12) (.cons (.int _) (.cons (.int _) .nil))) .nil)) .nil))⟩
theorem sL {D0 : Ends} {H : Hp} {a : Addr} {ns : List Int} (hS : Scr K H a ns) (q : ∀ H', D0.rt (.bl true) H') : uL K D0 [some (.ref a), none, none, none, none, none] H := by
  refine ⟨Nat.zero_le _, fun t ht => ?_⟩
  have g1 := same_new ht (.lst [])
  have hS1 := hS.same g1
  have t1 : upd H t (.lst []) t = some (.lst (zeros 0)) := upd_same
  generalize upd H t (.lst []) = HA at *
  refine ⟨_, rfl, _, rfl, a, t, ns, 0, 10, 99, rfl, hS1, t1, by omega, by omega, by omega, by omega, by omega, fun W v n1 HB hok hwl hwd hW g2 t2 hn1 => ?_⟩
  have hS2 := g2.scr t1 hS1
  refine ⟨_, rfl, v, W, rfl, hW, hok, fun e HC gC he => ?_⟩
  refine ⟨Nat.zero_le _, fun e0 he0 => ?_⟩
  have k0 := same_new he0 (.tup [])
  refine ⟨_, _, .tup (k0 _ _ he) .nil, .tup upd_same .nil, rfl, rfl, _, rfl, if_f rfl ?_⟩
  have gD := gC.trans k0
  exact sA (hS2.same gD) (gD _ _ t2) (by omega) hok (hW.mono gD) q
end
end Be
set_option Elab.async false
set_option linter.all false
set_option maxRecDepth 100000
namespace Be
open PySem L2
section
variable {P : Program} {w : World} {K : PySem.W.Frag} {mg : Str → Option Value} {base : Heap}
theorem ok_law_spA (T : Txt K mg) : FnOk P w K mg base (CXr P w) 9 T.law_spoilt.a T.law_spoilt.d ["_law_script", "_law_town", "_law_thing"] (sp_spA K) := ((ok_law_spoilt T 3).mono (by omega)).or (ok_law_spoilt T 4)
def sp_law (K : PySem.W.Frag) : Sp := fun vs H Q _ => ∃ (a : Addr) (ns : List Int), vs = [.ref a] ∧ Scr K H a ns ∧ ∀ H', Q (.bl true) H'
set_option maxHeartbeats 4000000 in
theorem ok_law (T : Txt K mg) (Z : Errs T) : FnOk P w K mg base (CXr P w) 14 T.law.a T.law.d ["_law_script"] (sp_law K) := by
  refine T.law.F.okN sc_law (fun vs H Q E h => ?_) (fun cdv A outer s H vs Q E hr h => ?_)
  · obtain ⟨a, ns, rfl, _⟩ := h; rfl
  obtain ⟨a, ns, rfl, hS, q⟩ := h
  have hu64 : (A.deeper (PyProof.Rows.envOfC "law" (defScope (top 87)) s.heap.objs.size T.law.a cdv)).units + 64 < cLine := by have := hr.un; omega
  suffices hh : ∃ t, CSs _ _ t ∧ t _ _ _ from hh.elim fun t h => ⟨t, h.1.pr, h.2⟩
  refine ⟨uL K, (css_cons (cs_set (i := 1) sc_law.nd rfl (by first | exact Or.inl rfl | exact Or.inr rfl) (ce_lst ca_nil)) (css_cons (cs_set (i := 2) sc_law.nd rfl (by first | exact Or.inl rfl | exact Or.inr rfl) (CE.mk (pe_call (ok_law_world T) (hr.mono (by decide)) rfl T.law_world.m T.law_world.F.kp T.law_world.b .nil passN (CA.pr (ca_cons (CE.mk (pv 0)) (ca_cons (CE.mk (pv 1)) (ca_cons ce_int (ca_cons ce_int ca_nil)))))))) (css_cons (CS.mk (ps_if (pt_cmpR (op_neD hu64) (pe_call (ok_law_askg T Z) (hr.mono (by decide)) rfl T.law_ask.m T.law_ask.F.kp T.law_ask.b .nil passN (pa_cons pe_int (pa_cons (pv 2) (pa_cons pe_non pa_nil)))) (pe_tup pa_nil) (nomark _)) (pss_one (ps_ret pe_bl)) pss_nil)) (css_cons (cs_set (i := 3) sc_law.nd rfl (by first | exact Or.inl rfl | exact Or.inr rfl) (ce_lst (ca_cons (ce_tup (ca_cons ce_int (ca_cons (ce_tup (ca_cons (ce_tup (ca_cons ce_int (ca_cons ce_int ca_nil))) ca_nil)) ca_nil))) (ca_cons (ce_tup (ca_cons ce_int (ca_cons (ce_op op_repT (ce_tup (ca_cons (ce_tup (ca_cons ce_int (ca_cons ce_int ca_nil))) ca_nil)) ce_int) ca_nil))) (ca_cons (ce_tup (ca_cons ce_int (ca_cons (ce_op op_repT (ce_tup (ca_cons (ce_tup (ca_cons ce_int (ca_cons ce_int ca_nil))) ca_nil)) ce_int) ca_nil))) (ca_cons (ce_tup (ca_cons ce_int (ca_cons (ce_tup (ca_cons (ce_tup (ca_cons ce_int (ca_cons ce_int ca_nil))) ca_nil)) ca_nil))) ca_nil)))))) (css_cons (CS.mk (ps_if (pt_cmpR (op_neD hu64) (pe_comp (NB := ["_law_good"]) (js := [none]) rfl (blkOk_of rfl (by decide +kernel) rfl (by decide +kernel) (by decide +kernel) (by with_unfolding_all rfl) (by with_unfolding_all rfl) (by with_unfolding_all rfl) (by with_unfolding_all rfl)) (pi_list (pv 3)) (fun _ _ _ _ => (pg_name (i := 0) (show (["_law_good"] : List Str).Nodup by decide +kernel) rfl (by first | exact Or.inl rfl | exact Or.inr rfl))) (fun _ _ _ _ => pf_nil) (fun _ _ _ _ => (pe_call (ok_law_askg T Z) (hr.mono (by decide)) rfl T.law_ask.m T.law_ask.F.kp T.law_ask.b .nil passN (pa_cons pe_int (pa_cons (pv 0) (pa_cons pe_non pa_nil)))))) (pe_op op_rep (pe_lst (pa_cons (pe_tup pa_nil) pa_nil)) pe_int) (nomark _)) (pss_one (ps_ret pe_bl)) pss_nil)) (css_cons (cs_set (i := 3) sc_law.nd rfl (by first | exact Or.inl rfl | exact Or.inr rfl) (ce_lst (ca_cons (ce_tup (ca_cons ce_int (ca_cons (ce_tup (ca_cons (ce_tup (ca_cons ce_int (ca_cons ce_int ca_nil))) ca_nil)) ca_nil))) (ca_cons (ce_tup (ca_cons ce_int (ca_cons (ce_tup (ca_cons (ce_tup (ca_cons ce_int (ca_cons ce_int ca_nil))) ca_nil)) ca_nil))) (ca_cons (ce_tup (ca_cons ce_int (ca_cons (ce_op op_repT (ce_tup (ca_cons (ce_tup (ca_cons ce_int (ca_cons ce_int ca_nil))) ca_nil)) ce_int) ca_nil))) (ca_cons (ce_tup (ca_cons ce_int (ca_cons (ce_tup (ca_cons (ce_tup (ca_cons ce_int (ca_cons ce_int ca_nil))) ca_nil)) ca_nil))) ca_nil)))))) (css_cons (CS.mk (ps_expr (pe_bm PySem.F.plainAttrs_list PySem.F.slot_list_extend PySem.F.type_list_extend mt_extend (pv 3) (CA.pr (ca_cons (ce_lst (ca_cons (ce_tup (ca_cons ce_int (ca_cons (ce_tup (ca_cons (ce_tup (ca_cons ce_int (ca_cons ce_int ca_nil))) ca_nil)) ca_nil))) (ca_cons (ce_tup (ca_cons ce_int (ca_cons (ce_tup ca_nil) ca_nil))) (ca_cons (ce_tup (ca_cons ce_int (ca_cons (ce_tup (ca_cons (ce_tup (ca_cons ce_int (ca_cons ce_int ca_nil))) ca_nil)) ca_nil))) ca_nil)))) ca_nil))))) (css_cons (CS.mk (ps_if (pt_cmpR (op_neD hu64) (pe_comp (NB := ["_law_what", "_law_script", "_law_town", "_law_bounds"]) (js := [none, some 0, some 1, some 3]) rfl (blkOk_of rfl (by decide +kernel) rfl (by decide +kernel) (by decide +kernel) (by with_unfolding_all rfl) (by with_unfolding_all rfl) (by with_unfolding_all rfl) (by with_unfolding_all rfl)) (pi_range1 rfl T.n_range (pa_cons pe_int pa_nil)) (fun _ _ _ _ => (pg_name (i := 0) (show (["_law_what", "_law_script", "_law_town", "_law_bounds"] : List Str).Nodup by decide +kernel) rfl (by first | exact Or.inl rfl | exact Or.inr rfl))) (fun _ _ _ _ => pf_nil) (fun _ _ _ _ => (pe_call (ok_law_ask T Z) (hr.mono (by decide)) rfl T.law_ask.m T.law_ask.F.kp T.law_ask.b .nil passN (pa_cons (pv 0) (pa_cons (pe_call (ok_law_pick T) (hr.mono (by decide)) rfl T.law_pick.m T.law_pick.F.kp T.law_pick.b .nil passN (pa_cons (pv 1) (pa_cons (pv 2) (pa_cons (pv 3) pa_nil)))) (pa_cons pe_non pa_nil)))))) (pe_op op_rep (pe_lst (pa_cons (pe_tup (pa_cons pe_str (pa_cons pe_int pa_nil))) pa_nil)) pe_int) (nomark _)) (pss_one (ps_ret pe_bl)) pss_nil)) (css_cons (cs_set (i := 4) sc_law.nd rfl (by first | exact Or.inl rfl | exact Or.inr rfl) (CE.mk (pv 2))) (css_cons (CS.mk (ps_for PassesOwn.never rfl (pi_range1 rfl T.n_range (pa_cons (pe_op op_add pe_int (pe_call (ok_law_draw T) (hr.mono (by decide)) rfl T.law_draw.m T.law_draw.F.kp T.law_draw.b .nil passN (pa_cons (pv 0) (pa_cons (pv 1) (pa_cons pe_int pa_nil))))) pa_nil)) (pg_name (i := 5) sc_law.nd rfl (by first | exact Or.inl rfl | exact Or.inr rfl)) (pss_one (ps_set (i := 4) sc_law.nd rfl (by first | exact Or.inl rfl | exact Or.inr rfl) (pe_call (ok_law_spA T) (hr.mono (by decide)) rfl T.law_spoilt.m T.law_spoilt.F.kp T.law_spoilt.b .nil passN (pa_cons (pv 0) (pa_cons (pv 1) (pa_cons (pv 4) pa_nil)))))))) (css_cons (CS.mk (ps_if (pt_val (pe_call (ok_law_is_world T) (hr.mono (by decide)) rfl T.law_is_world.m T.law_is_world.F.kp T.law_is_world.b .nil passN (pa_cons (pv 4) pa_nil))) (pss_one (ps_ret (pe_cmpR (op_eqD hu64) (pe_call (ok_law_askg T Z) (hr.mono (by decide)) rfl T.law_ask.m T.law_ask.F.kp T.law_ask.b .nil passN (pa_cons pe_int (pa_cons (pv 4) (pa_cons pe_non pa_nil)))) (pe_tup pa_nil) (nomark _)))) pss_nil)) (css_one (cs_ret (CE.mk (pe_cmpR (op_eqD hu64) (pe_comp (NB := ["_law_what", "_law_bad"]) (js := [none, some 4]) rfl (blkOk_of rfl (by decide +kernel) rfl (by decide +kernel) (by decide +kernel) (by with_unfolding_all rfl) (by with_unfolding_all rfl) (by with_unfolding_all rfl) (by with_unfolding_all rfl)) (pi_range1 rfl T.n_range (pa_cons pe_int pa_nil)) (fun _ _ _ _ => (pg_name (i := 0) (show (["_law_what", "_law_bad"] : List Str).Nodup by decide +kernel) rfl (by first | exact Or.inl rfl | exact Or.inr rfl))) (fun _ _ _ _ => pf_nil) (fun _ _ _ _ => (pe_call (ok_law_ask T Z) (hr.mono (by decide)) rfl T.law_ask.m T.law_ask.F.kp T.law_ask.b .nil passN (pa_cons (pv 0) (pa_cons (pv 1) (pa_cons pe_non pa_nil)))))) (pe_op op_rep (pe_lst (pa_cons (pe_tup (pa_cons pe_str (pa_cons pe_int pa_nil))) pa_nil)) pe_int) (nomark _)))))))))))))))), ?_⟩
  exact sL hS q
end
end Be
set_option Elab.async false
set_option linter.all false
set_option maxRecDepth 100000
namespace Be
open PySem L2
theorem ar1 {F : List Value → Prop} (h : ∀ a, F [a]) : ∀ us, us.length = 1 → F us
  | [a], _ => h a
theorem ar2 {F : List Value → Prop} (h : ∀ a b, F [a, b]) : ∀ us, us.length = 2 → F us
  | [a, b], _ => h a b
theorem ar3 {F : List Value → Prop} (h : ∀ a b c, F [a, b, c]) : ∀ us, us.length = 3 → F us
  | [a, b, c], _ => h a b c
theorem ar4 {F : List Value → Prop} (h : ∀ a b c d, F [a, b, c, d]) : ∀ us, us.length = 4 → F us
  | [a, b, c, d], _ => h a b c d
theorem ar5 {F : List Value → Prop} (h : ∀ a b c d e, F [a, b, c, d, e]) : ∀ us, us.length = 5 → F us
  | [a, b, c, d, e], _ => h a b c d e
theorem ar6 {F : List Value → Prop} (h : ∀ a b c d e f, F [a, b, c, d, e, f]) : ∀ us, us.length = 6 → F us
  | [a, b, c, d, e, f], _ => h a b c d e f
def def_mk {K : PySem.W.Frag} {h : Heap} {mg : Str → Option Value} {x : Str} {st : Stmt} {ps : List Str} {f : Addr} {od an : Option Addr} {sl : Array (Option Value)} {oc kV dc pm cd ct : Value} (X : K.In h) (G : h.Ns mainGlobals mg) (a : PySem.W.nsIn K mainGlobals x = some (some (.ref f)))
    (l : K.lookup f = some ⟨oc, od, .func (PySem.W.fnOf x x (defArgs st) (defBody st) (defScope st) .none kV dc pm an cd ct), sl⟩) (c : PySem.W.codeIn K cd x = true) (k : PySem.W.keepIn K (.ref f) = true)
    (hb : ∀ (kV doc pm : Value) (an : Option Addr) (cdv ct : Value) (us : List Value), us.length = ps.length → bindArgs (PySem.W.fnOf x x (defArgs st) (defBody st) (defScope st) .none kV doc pm an cdv ct) ⟨us, []⟩ = pure (ps.zip us)) : DefAt K mg x st ps :=
  ⟨f, _, fun_mk l c k, (fun_mk l c k).binds hb, PySem.W.mg_of X G a⟩
inductive AllIs (K : PySem.W.Frag) (C : Addr) : List Addr → List Bool → Prop
  | nil : AllIs K C [] []
  | cons {c : Addr} {b : Bool} {cs : List Addr} {bs : List Bool} (h : PySem.W.kitOne K (.ref C) (.ref c) = some b) (r : AllIs K C cs bs) : AllIs K C (c :: cs) (b :: bs)
theorem AllIs.at {K : PySem.W.Frag} {C : Addr} {cs : List Addr} {bs : List Bool} (h : AllIs K C cs bs) : ∀ (i : Nat) (c : Addr) (b : Bool), cs[i]? = some c → bs[i]? = some b → PySem.W.kitOne K (.ref C) (.ref c) = some b := by
  induction h with
  | nil => intro i c b h1 _; cases i <;> cases h1
  | cons h r ih =>
    intro i c b h1 h2
    cases i with
    | zero => cases h1; cases h2; exact h
    | succ i => exact ih i c b h1 h2
theorem no_at {bs : List Bool} {j : Nat} (h : ((List.range j).all fun m => bs[m]? != some true) = true) : ∀ m, m < j → bs[m]? ≠ some true := fun m hm z => by
  have := List.all_eq_true.mp h m (List.mem_range.mpr hm)
  rw [z] at this
  exact absurd this (by decide)
set_option maxHeartbeats 4000000 in
theorem txt_mk {K : PySem.W.Frag} {h : Heap} {mg : Str → Option Value} (X : K.In h) (G : h.Ns mainGlobals mg)
    {C_Watch : Addr}
    {f0 : Addr} {od0 an0 : Option Addr} {sl0 : Array (Option Value)} {oc0 kV0 dc0 pm0 cd0 ct0 : Value}
    {f1 : Addr} {od1 an1 : Option Addr} {sl1 : Array (Option Value)} {oc1 kV1 dc1 pm1 cd1 ct1 : Value}
    {f2 : Addr} {od2 an2 : Option Addr} {sl2 : Array (Option Value)} {oc2 kV2 dc2 pm2 cd2 ct2 : Value}
    {f3 : Addr} {od3 an3 : Option Addr} {sl3 : Array (Option Value)} {oc3 kV3 dc3 pm3 cd3 ct3 : Value}
    {f4 : Addr} {od4 an4 : Option Addr} {sl4 : Array (Option Value)} {oc4 kV4 dc4 pm4 cd4 ct4 : Value}
    {f5 : Addr} {od5 an5 : Option Addr} {sl5 : Array (Option Value)} {oc5 kV5 dc5 pm5 cd5 ct5 : Value}
    {f6 : Addr} {od6 an6 : Option Addr} {sl6 : Array (Option Value)} {oc6 kV6 dc6 pm6 cd6 ct6 : Value}
    {f7 : Addr} {od7 an7 : Option Addr} {sl7 : Array (Option Value)} {oc7 kV7 dc7 pm7 cd7 ct7 : Value}
    {f8 : Addr} {od8 an8 : Option Addr} {sl8 : Array (Option Value)} {oc8 kV8 dc8 pm8 cd8 ct8 : Value}
    {f9 : Addr} {od9 an9 : Option Addr} {sl9 : Array (Option Value)} {oc9 kV9 dc9 pm9 cd9 ct9 : Value}
    {f10 : Addr} {od10 an10 : Option Addr} {sl10 : Array (Option Value)} {oc10 kV10 dc10 pm10 cd10 ct10 : Value}
    {f11 : Addr} {od11 an11 : Option Addr} {sl11 : Array (Option Value)} {oc11 kV11 dc11 pm11 cd11 ct11 : Value}
    {f12 : Addr} {od12 an12 : Option Addr} {sl12 : Array (Option Value)} {oc12 kV12 dc12 pm12 cd12 ct12 : Value}
    {f13 : Addr} {od13 an13 : Option Addr} {sl13 : Array (Option Value)} {oc13 kV13 dc13 pm13 cd13 ct13 : Value}
    {f14 : Addr} {od14 an14 : Option Addr} {sl14 : Array (Option Value)} {oc14 kV14 dc14 pm14 cd14 ct14 : Value}
    {f15 : Addr} {od15 an15 : Option Addr} {sl15 : Array (Option Value)} {oc15 kV15 dc15 pm15 cd15 ct15 : Value}
    {f16 : Addr} {od16 an16 : Option Addr} {sl16 : Array (Option Value)} {oc16 kV16 dc16 pm16 cd16 ct16 : Value}
    {f17 : Addr} {od17 an17 : Option Addr} {sl17 : Array (Option Value)} {oc17 kV17 dc17 pm17 cd17 ct17 : Value}
    {f18 : Addr} {od18 an18 : Option Addr} {sl18 : Array (Option Value)} {oc18 kV18 dc18 pm18 cd18 ct18 : Value}
    {f19 : Addr} {od19 an19 : Option Addr} {sl19 : Array (Option Value)} {oc19 kV19 dc19 pm19 cd19 ct19 : Value}
    {f20 : Addr} {od20 an20 : Option Addr} {sl20 : Array (Option Value)} {oc20 kV20 dc20 pm20 cd20 ct20 : Value}
    {f21 : Addr} {od21 an21 : Option Addr} {sl21 : Array (Option Value)} {oc21 kV21 dc21 pm21 cd21 ct21 : Value}
    {f22 : Addr} {od22 an22 : Option Addr} {sl22 : Array (Option Value)} {oc22 kV22 dc22 pm22 cd22 ct22 : Value}
    {f23 : Addr} {od23 an23 : Option Addr} {sl23 : Array (Option Value)} {oc23 kV23 dc23 pm23 cd23 ct23 : Value}
    {f24 : Addr} {od24 an24 : Option Addr} {sl24 : Array (Option Value)} {oc24 kV24 dc24 pm24 cd24 ct24 : Value}
    {f25 : Addr} {od25 an25 : Option Addr} {sl25 : Array (Option Value)} {oc25 kV25 dc25 pm25 cd25 ct25 : Value}
    {f26 : Addr} {od26 an26 : Option Addr} {sl26 : Array (Option Value)} {oc26 kV26 dc26 pm26 cd26 ct26 : Value}
    {f27 : Addr} {od27 an27 : Option Addr} {sl27 : Array (Option Value)} {oc27 kV27 dc27 pm27 cd27 ct27 : Value}
    {f28 : Addr} {od28 an28 : Option Addr} {sl28 : Array (Option Value)} {oc28 kV28 dc28 pm28 cd28 ct28 : Value}
    {f29 : Addr} {od29 an29 : Option Addr} {sl29 : Array (Option Value)} {oc29 kV29 dc29 pm29 cd29 ct29 : Value}
    {f30 : Addr} {od30 an30 : Option Addr} {sl30 : Array (Option Value)} {oc30 kV30 dc30 pm30 cd30 ct30 : Value}
    {f31 : Addr} {od31 an31 : Option Addr} {sl31 : Array (Option Value)} {oc31 kV31 dc31 pm31 cd31 ct31 : Value}
    {f32 : Addr} {od32 an32 : Option Addr} {sl32 : Array (Option Value)} {oc32 kV32 dc32 pm32 cd32 ct32 : Value}
    {f33 : Addr} {od33 an33 : Option Addr} {sl33 : Array (Option Value)} {oc33 kV33 dc33 pm33 cd33 ct33 : Value}
    {f34 : Addr} {od34 an34 : Option Addr} {sl34 : Array (Option Value)} {oc34 kV34 dc34 pm34 cd34 ct34 : Value}
    {f35 : Addr} {od35 an35 : Option Addr} {sl35 : Array (Option Value)} {oc35 kV35 dc35 pm35 cd35 ct35 : Value}
    {f36 : Addr} {od36 an36 : Option Addr} {sl36 : Array (Option Value)} {oc36 kV36 dc36 pm36 cd36 ct36 : Value}
    {f37 : Addr} {od37 an37 : Option Addr} {sl37 : Array (Option Value)} {oc37 kV37 dc37 pm37 cd37 ct37 : Value}
    {f38 : Addr} {od38 an38 : Option Addr} {sl38 : Array (Option Value)} {oc38 kV38 dc38 pm38 cd38 ct38 : Value}
    {f39 : Addr} {od39 an39 : Option Addr} {sl39 : Array (Option Value)} {oc39 kV39 dc39 pm39 cd39 ct39 : Value}
    {f40 : Addr} {od40 an40 : Option Addr} {sl40 : Array (Option Value)} {oc40 kV40 dc40 pm40 cd40 ct40 : Value}
    {f41 : Addr} {od41 an41 : Option Addr} {sl41 : Array (Option Value)} {oc41 kV41 dc41 pm41 cd41 ct41 : Value}
    {f42 : Addr} {od42 an42 : Option Addr} {sl42 : Array (Option Value)} {oc42 kV42 dc42 pm42 cd42 ct42 : Value}
    {f43 : Addr} {od43 an43 : Option Addr} {sl43 : Array (Option Value)} {oc43 kV43 dc43 pm43 cd43 ct43 : Value}
    {f44 : Addr} {od44 an44 : Option Addr} {sl44 : Array (Option Value)} {oc44 kV44 dc44 pm44 cd44 ct44 : Value}
    {f45 : Addr} {od45 an45 : Option Addr} {sl45 : Array (Option Value)} {oc45 kV45 dc45 pm45 cd45 ct45 : Value}
    {f46 : Addr} {od46 an46 : Option Addr} {sl46 : Array (Option Value)} {oc46 kV46 dc46 pm46 cd46 ct46 : Value}
    {f47 : Addr} {od47 an47 : Option Addr} {sl47 : Array (Option Value)} {oc47 kV47 dc47 pm47 cd47 ct47 : Value}
    {f48 : Addr} {od48 an48 : Option Addr} {sl48 : Array (Option Value)} {oc48 kV48 dc48 pm48 cd48 ct48 : Value}
    {f49 : Addr} {od49 an49 : Option Addr} {sl49 : Array (Option Value)} {oc49 kV49 dc49 pm49 cd49 ct49 : Value}
    {f50 : Addr} {od50 an50 : Option Addr} {sl50 : Array (Option Value)} {oc50 kV50 dc50 pm50 cd50 ct50 : Value}
    {f51 : Addr} {od51 an51 : Option Addr} {sl51 : Array (Option Value)} {oc51 kV51 dc51 pm51 cd51 ct51 : Value}
    {f52 : Addr} {od52 an52 : Option Addr} {sl52 : Array (Option Value)} {oc52 kV52 dc52 pm52 cd52 ct52 : Value}
    {f53 : Addr} {od53 an53 : Option Addr} {sl53 : Array (Option Value)} {oc53 kV53 dc53 pm53 cd53 ct53 : Value}
    {f54 : Addr} {od54 an54 : Option Addr} {sl54 : Array (Option Value)} {oc54 kV54 dc54 pm54 cd54 ct54 : Value}
    {f55 : Addr} {od55 an55 : Option Addr} {sl55 : Array (Option Value)} {oc55 kV55 dc55 pm55 cd55 ct55 : Value}
    {f56 : Addr} {od56 an56 : Option Addr} {sl56 : Array (Option Value)} {oc56 kV56 dc56 pm56 cd56 ct56 : Value}
    {f57 : Addr} {od57 an57 : Option Addr} {sl57 : Array (Option Value)} {oc57 kV57 dc57 pm57 cd57 ct57 : Value}
    {f58 : Addr} {od58 an58 : Option Addr} {sl58 : Array (Option Value)} {oc58 kV58 dc58 pm58 cd58 ct58 : Value}
    {f59 : Addr} {od59 an59 : Option Addr} {sl59 : Array (Option Value)} {oc59 kV59 dc59 pm59 cd59 ct59 : Value}
    {f60 : Addr} {od60 an60 : Option Addr} {sl60 : Array (Option Value)} {oc60 kV60 dc60 pm60 cd60 ct60 : Value}
    {f61 : Addr} {od61 an61 : Option Addr} {sl61 : Array (Option Value)} {oc61 kV61 dc61 pm61 cd61 ct61 : Value}
    {f62 : Addr} {od62 an62 : Option Addr} {sl62 : Array (Option Value)} {oc62 kV62 dc62 pm62 cd62 ct62 : Value}
    {f63 : Addr} {od63 an63 : Option Addr} {sl63 : Array (Option Value)} {oc63 kV63 dc63 pm63 cd63 ct63 : Value}
    {f64 : Addr} {od64 an64 : Option Addr} {sl64 : Array (Option Value)} {oc64 kV64 dc64 pm64 cd64 ct64 : Value}
    {f65 : Addr} {od65 an65 : Option Addr} {sl65 : Array (Option Value)} {oc65 kV65 dc65 pm65 cd65 ct65 : Value}
    {t_MOST_BENCHES : Tok}
    {t_MOST_WORKS : Tok}
    {t_MOST_LENGTH : Tok}
    {t_MOST_NUMBER : Tok}
    {t_MOST_WORKS_OF_ALL_ORDERS : Tok}
    {C_BenchError : Addr}
    {C_NoWorld : Addr}
    {C_NoOrder : Addr}
    {C_NoLengths : Addr}
    {C_NoWork : Addr}
    {C_NoSide : Addr}
    {C_Never : Addr}
    {C_TooMany : Addr}
    {C_NoStep : Addr}
    (x_Watch : PySem.W.nsIn K mainGlobals "Watch" = some (some (.ref C_Watch)))
    (pg_Watch : PySem.W.plainGet K C_Watch Str.empty = true)
    (hd_Watch : PySem.W.hasDictIn K C_Watch = true)
    (po_Watch : PySem.W.plainOver K C_Watch = true)
    (sa_Watch : PySem.W.findIn K (.ref C_Watch) "__setattr__" = some (some (.builtin "object.__setattr__")))
    (mk_Watch : PySem.W.makesIn K C_Watch = true)
    (kc_Watch : PySem.W.keepIn K (.ref C_Watch) = true)
    (na_Watch_ended : PySem.W.findIn K (.ref C_Watch) "ended" = some none)
    (na_Watch_world : PySem.W.findIn K (.ref C_Watch) "world" = some none)
    (a0 : PySem.W.nsIn K mainGlobals "is_whole_within" = some (some (.ref f0)))
    (l0 : K.lookup f0 = some ⟨oc0, od0, .func (PySem.W.fnOf "is_whole_within" "is_whole_within" (defArgs (top 16)) (defBody (top 16)) (defScope (top 16)) .none kV0 dc0 pm0 an0 cd0 ct0), sl0⟩)
    (c0 : PySem.W.codeIn K cd0 "is_whole_within" = true)
    (k0 : PySem.W.keepIn K (.ref f0) = true)
    (a1 : PySem.W.nsIn K mainGlobals "is_pair" = some (some (.ref f1)))
    (l1 : K.lookup f1 = some ⟨oc1, od1, .func (PySem.W.fnOf "is_pair" "is_pair" (defArgs (top 17)) (defBody (top 17)) (defScope (top 17)) .none kV1 dc1 pm1 an1 cd1 ct1), sl1⟩)
    (c1 : PySem.W.codeIn K cd1 "is_pair" = true)
    (k1 : PySem.W.keepIn K (.ref f1) = true)
    (a2 : PySem.W.nsIn K mainGlobals "are_bounds_of_work" = some (some (.ref f2)))
    (l2 : K.lookup f2 = some ⟨oc2, od2, .func (PySem.W.fnOf "are_bounds_of_work" "are_bounds_of_work" (defArgs (top 18)) (defBody (top 18)) (defScope (top 18)) .none kV2 dc2 pm2 an2 cd2 ct2), sl2⟩)
    (c2 : PySem.W.codeIn K cd2 "are_bounds_of_work" = true)
    (k2 : PySem.W.keepIn K (.ref f2) = true)
    (a3 : PySem.W.nsIn K mainGlobals "are_bounds" = some (some (.ref f3)))
    (l3 : K.lookup f3 = some ⟨oc3, od3, .func (PySem.W.fnOf "are_bounds" "are_bounds" (defArgs (top 19)) (defBody (top 19)) (defScope (top 19)) .none kV3 dc3 pm3 an3 cd3 ct3), sl3⟩)
    (c3 : PySem.W.codeIn K cd3 "are_bounds" = true)
    (k3 : PySem.W.keepIn K (.ref f3) = true)
    (a4 : PySem.W.nsIn K mainGlobals "is_world" = some (some (.ref f4)))
    (l4 : K.lookup f4 = some ⟨oc4, od4, .func (PySem.W.fnOf "is_world" "is_world" (defArgs (top 20)) (defBody (top 20)) (defScope (top 20)) .none kV4 dc4 pm4 an4 cd4 ct4), sl4⟩)
    (c4 : PySem.W.codeIn K cd4 "is_world" = true)
    (k4 : PySem.W.keepIn K (.ref f4) = true)
    (a5 : PySem.W.nsIn K mainGlobals "check_world" = some (some (.ref f5)))
    (l5 : K.lookup f5 = some ⟨oc5, od5, .func (PySem.W.fnOf "check_world" "check_world" (defArgs (top 21)) (defBody (top 21)) (defScope (top 21)) .none kV5 dc5 pm5 an5 cd5 ct5), sl5⟩)
    (c5 : PySem.W.codeIn K cd5 "check_world" = true)
    (k5 : PySem.W.keepIn K (.ref f5) = true)
    (a6 : PySem.W.nsIn K mainGlobals "is_order" = some (some (.ref f6)))
    (l6 : K.lookup f6 = some ⟨oc6, od6, .func (PySem.W.fnOf "is_order" "is_order" (defArgs (top 22)) (defBody (top 22)) (defScope (top 22)) .none kV6 dc6 pm6 an6 cd6 ct6), sl6⟩)
    (c6 : PySem.W.codeIn K cd6 "is_order" = true)
    (k6 : PySem.W.keepIn K (.ref f6) = true)
    (a7 : PySem.W.nsIn K mainGlobals "check_order" = some (some (.ref f7)))
    (l7 : K.lookup f7 = some ⟨oc7, od7, .func (PySem.W.fnOf "check_order" "check_order" (defArgs (top 23)) (defBody (top 23)) (defScope (top 23)) .none kV7 dc7 pm7 an7 cd7 ct7), sl7⟩)
    (c7 : PySem.W.codeIn K cd7 "check_order" = true)
    (k7 : PySem.W.keepIn K (.ref f7) = true)
    (a8 : PySem.W.nsIn K mainGlobals "are_lengths" = some (some (.ref f8)))
    (l8 : K.lookup f8 = some ⟨oc8, od8, .func (PySem.W.fnOf "are_lengths" "are_lengths" (defArgs (top 24)) (defBody (top 24)) (defScope (top 24)) .none kV8 dc8 pm8 an8 cd8 ct8), sl8⟩)
    (c8 : PySem.W.codeIn K cd8 "are_lengths" = true)
    (k8 : PySem.W.keepIn K (.ref f8) = true)
    (a9 : PySem.W.nsIn K mainGlobals "check_lengths" = some (some (.ref f9)))
    (l9 : K.lookup f9 = some ⟨oc9, od9, .func (PySem.W.fnOf "check_lengths" "check_lengths" (defArgs (top 25)) (defBody (top 25)) (defScope (top 25)) .none kV9 dc9 pm9 an9 cd9 ct9), sl9⟩)
    (c9 : PySem.W.codeIn K cd9 "check_lengths" = true)
    (k9 : PySem.W.keepIn K (.ref f9) = true)
    (a10 : PySem.W.nsIn K mainGlobals "how_many_benches" = some (some (.ref f10)))
    (l10 : K.lookup f10 = some ⟨oc10, od10, .func (PySem.W.fnOf "how_many_benches" "how_many_benches" (defArgs (top 26)) (defBody (top 26)) (defScope (top 26)) .none kV10 dc10 pm10 an10 cd10 ct10), sl10⟩)
    (c10 : PySem.W.codeIn K cd10 "how_many_benches" = true)
    (k10 : PySem.W.keepIn K (.ref f10) = true)
    (a11 : PySem.W.nsIn K mainGlobals "how_many_works" = some (some (.ref f11)))
    (l11 : K.lookup f11 = some ⟨oc11, od11, .func (PySem.W.fnOf "how_many_works" "how_many_works" (defArgs (top 27)) (defBody (top 27)) (defScope (top 27)) .none kV11 dc11 pm11 an11 cd11 ct11), sl11⟩)
    (c11 : PySem.W.codeIn K cd11 "how_many_works" = true)
    (k11 : PySem.W.keepIn K (.ref f11) = true)
    (a12 : PySem.W.nsIn K mainGlobals "least_length" = some (some (.ref f12)))
    (l12 : K.lookup f12 = some ⟨oc12, od12, .func (PySem.W.fnOf "least_length" "least_length" (defArgs (top 28)) (defBody (top 28)) (defScope (top 28)) .none kV12 dc12 pm12 an12 cd12 ct12), sl12⟩)
    (c12 : PySem.W.codeIn K cd12 "least_length" = true)
    (k12 : PySem.W.keepIn K (.ref f12) = true)
    (a13 : PySem.W.nsIn K mainGlobals "greatest_length" = some (some (.ref f13)))
    (l13 : K.lookup f13 = some ⟨oc13, od13, .func (PySem.W.fnOf "greatest_length" "greatest_length" (defArgs (top 29)) (defBody (top 29)) (defScope (top 29)) .none kV13 dc13 pm13 an13 cd13 ct13), sl13⟩)
    (c13 : PySem.W.codeIn K cd13 "greatest_length" = true)
    (k13 : PySem.W.keepIn K (.ref f13) = true)
    (a14 : PySem.W.nsIn K mainGlobals "how_many_began" = some (some (.ref f14)))
    (l14 : K.lookup f14 = some ⟨oc14, od14, .func (PySem.W.fnOf "how_many_began" "how_many_began" (defArgs (top 30)) (defBody (top 30)) (defScope (top 30)) .none kV14 dc14 pm14 an14 cd14 ct14), sl14⟩)
    (c14 : PySem.W.codeIn K cd14 "how_many_began" = true)
    (k14 : PySem.W.keepIn K (.ref f14) = true)
    (a15 : PySem.W.nsIn K mainGlobals "running" = some (some (.ref f15)))
    (l15 : K.lookup f15 = some ⟨oc15, od15, .func (PySem.W.fnOf "running" "running" (defArgs (top 31)) (defBody (top 31)) (defScope (top 31)) .none kV15 dc15 pm15 an15 cd15 ct15), sl15⟩)
    (c15 : PySem.W.codeIn K cd15 "running" = true)
    (k15 : PySem.W.keepIn K (.ref f15) = true)
    (a16 : PySem.W.nsIn K mainGlobals "begin_event" = some (some (.ref f16)))
    (l16 : K.lookup f16 = some ⟨oc16, od16, .func (PySem.W.fnOf "begin_event" "begin_event" (defArgs (top 32)) (defBody (top 32)) (defScope (top 32)) .none kV16 dc16 pm16 an16 cd16 ct16), sl16⟩)
    (c16 : PySem.W.codeIn K cd16 "begin_event" = true)
    (k16 : PySem.W.keepIn K (.ref f16) = true)
    (a17 : PySem.W.nsIn K mainGlobals "rules_of_ended" = some (some (.ref f17)))
    (l17 : K.lookup f17 = some ⟨oc17, od17, .func (PySem.W.fnOf "rules_of_ended" "rules_of_ended" (defArgs (top 34)) (defBody (top 34)) (defScope (top 34)) .none kV17 dc17 pm17 an17 cd17 ct17), sl17⟩)
    (c17 : PySem.W.codeIn K cd17 "rules_of_ended" = true)
    (k17 : PySem.W.keepIn K (.ref f17) = true)
    (a18 : PySem.W.nsIn K mainGlobals "rule_of_running" = some (some (.ref f18)))
    (l18 : K.lookup f18 = some ⟨oc18, od18, .func (PySem.W.fnOf "rule_of_running" "rule_of_running" (defArgs (top 35)) (defBody (top 35)) (defScope (top 35)) .none kV18 dc18 pm18 an18 cd18 ct18), sl18⟩)
    (c18 : PySem.W.codeIn K cd18 "rule_of_running" = true)
    (k18 : PySem.W.keepIn K (.ref f18) = true)
    (a19 : PySem.W.nsIn K mainGlobals "rules" = some (some (.ref f19)))
    (l19 : K.lookup f19 = some ⟨oc19, od19, .func (PySem.W.fnOf "rules" "rules" (defArgs (top 36)) (defBody (top 36)) (defScope (top 36)) .none kV19 dc19 pm19 an19 cd19 ct19), sl19⟩)
    (c19 : PySem.W.codeIn K cd19 "rules" = true)
    (k19 : PySem.W.keepIn K (.ref f19) = true)
    (a20 : PySem.W.nsIn K mainGlobals "holds" = some (some (.ref f20)))
    (l20 : K.lookup f20 = some ⟨oc20, od20, .func (PySem.W.fnOf "holds" "holds" (defArgs (top 37)) (defBody (top 37)) (defScope (top 37)) .none kV20 dc20 pm20 an20 cd20 ct20), sl20⟩)
    (c20 : PySem.W.codeIn K cd20 "holds" = true)
    (k20 : PySem.W.keepIn K (.ref f20) = true)
    (a21 : PySem.W.nsIn K mainGlobals "is_walk" = some (some (.ref f21)))
    (l21 : K.lookup f21 = some ⟨oc21, od21, .func (PySem.W.fnOf "is_walk" "is_walk" (defArgs (top 38)) (defBody (top 38)) (defScope (top 38)) .none kV21 dc21 pm21 an21 cd21 ct21), sl21⟩)
    (c21 : PySem.W.codeIn K cd21 "is_walk" = true)
    (k21 : PySem.W.keepIn K (.ref f21) = true)
    (a22 : PySem.W.nsIn K mainGlobals "first_event" = some (some (.ref f22)))
    (l22 : K.lookup f22 = some ⟨oc22, od22, .func (PySem.W.fnOf "first_event" "first_event" (defArgs (top 39)) (defBody (top 39)) (defScope (top 39)) .none kV22 dc22 pm22 an22 cd22 ct22), sl22⟩)
    (c22 : PySem.W.codeIn K cd22 "first_event" = true)
    (k22 : PySem.W.keepIn K (.ref f22) = true)
    (a23 : PySem.W.nsIn K mainGlobals "last_event" = some (some (.ref f23)))
    (l23 : K.lookup f23 = some ⟨oc23, od23, .func (PySem.W.fnOf "last_event" "last_event" (defArgs (top 40)) (defBody (top 40)) (defScope (top 40)) .none kV23 dc23 pm23 an23 cd23 ct23), sl23⟩)
    (c23 : PySem.W.codeIn K cd23 "last_event" = true)
    (k23 : PySem.W.keepIn K (.ref f23) = true)
    (a24 : PySem.W.nsIn K mainGlobals "walk_most" = some (some (.ref f24)))
    (l24 : K.lookup f24 = some ⟨oc24, od24, .func (PySem.W.fnOf "walk_most" "walk_most" (defArgs (top 41)) (defBody (top 41)) (defScope (top 41)) .none kV24 dc24 pm24 an24 cd24 ct24), sl24⟩)
    (c24 : PySem.W.codeIn K cd24 "walk_most" = true)
    (k24 : PySem.W.keepIn K (.ref f24) = true)
    (a25 : PySem.W.nsIn K mainGlobals "shorten_walks" = some (some (.ref f25)))
    (l25 : K.lookup f25 = some ⟨oc25, od25, .func (PySem.W.fnOf "shorten_walks" "shorten_walks" (defArgs (top 42)) (defBody (top 42)) (defScope (top 42)) .none kV25 dc25 pm25 an25 cd25 ct25), sl25⟩)
    (c25 : PySem.W.codeIn K cd25 "shorten_walks" = true)
    (k25 : PySem.W.keepIn K (.ref f25) = true)
    (a26 : PySem.W.nsIn K mainGlobals "shortest_walks" = some (some (.ref f26)))
    (l26 : K.lookup f26 = some ⟨oc26, od26, .func (PySem.W.fnOf "shortest_walks" "shortest_walks" (defArgs (top 43)) (defBody (top 43)) (defScope (top 43)) .none kV26 dc26 pm26 an26 cd26 ct26), sl26⟩)
    (c26 : PySem.W.codeIn K cd26 "shortest_walks" = true)
    (k26 : PySem.W.keepIn K (.ref f26) = true)
    (a27 : PySem.W.nsIn K mainGlobals "walk_by_firsts" = some (some (.ref f27)))
    (l27 : K.lookup f27 = some ⟨oc27, od27, .func (PySem.W.fnOf "walk_by_firsts" "walk_by_firsts" (defArgs (top 44)) (defBody (top 44)) (defScope (top 44)) .none kV27 dc27 pm27 an27 cd27 ct27), sl27⟩)
    (c27 : PySem.W.codeIn K cd27 "walk_by_firsts" = true)
    (k27 : PySem.W.keepIn K (.ref f27) = true)
    (a28 : PySem.W.nsIn K mainGlobals "earliest_moments" = some (some (.ref f28)))
    (l28 : K.lookup f28 = some ⟨oc28, od28, .func (PySem.W.fnOf "earliest_moments" "earliest_moments" (defArgs (top 46)) (defBody (top 46)) (defScope (top 46)) .none kV28 dc28 pm28 an28 cd28 ct28), sl28⟩)
    (c28 : PySem.W.codeIn K cd28 "earliest_moments" = true)
    (k28 : PySem.W.keepIn K (.ref f28) = true)
    (a29 : PySem.W.nsIn K mainGlobals "could" = some (some (.ref f29)))
    (l29 : K.lookup f29 = some ⟨oc29, od29, .func (PySem.W.fnOf "could" "could" (defArgs (top 47)) (defBody (top 47)) (defScope (top 47)) .none kV29 dc29 pm29 an29 cd29 ct29), sl29⟩)
    (c29 : PySem.W.codeIn K cd29 "could" = true)
    (k29 : PySem.W.keepIn K (.ref f29) = true)
    (a30 : PySem.W.nsIn K mainGlobals "check_could" = some (some (.ref f30)))
    (l30 : K.lookup f30 = some ⟨oc30, od30, .func (PySem.W.fnOf "check_could" "check_could" (defArgs (top 48)) (defBody (top 48)) (defScope (top 48)) .none kV30 dc30 pm30 an30 cd30 ct30), sl30⟩)
    (c30 : PySem.W.codeIn K cd30 "check_could" = true)
    (k30 : PySem.W.keepIn K (.ref f30) = true)
    (a31 : PySem.W.nsIn K mainGlobals "moments" = some (some (.ref f31)))
    (l31 : K.lookup f31 = some ⟨oc31, od31, .func (PySem.W.fnOf "moments" "moments" (defArgs (top 49)) (defBody (top 49)) (defScope (top 49)) .none kV31 dc31 pm31 an31 cd31 ct31), sl31⟩)
    (c31 : PySem.W.codeIn K cd31 "moments" = true)
    (k31 : PySem.W.keepIn K (.ref f31) = true)
    (a32 : PySem.W.nsIn K mainGlobals "are_moments" = some (some (.ref f32)))
    (l32 : K.lookup f32 = some ⟨oc32, od32, .func (PySem.W.fnOf "are_moments" "are_moments" (defArgs (top 50)) (defBody (top 50)) (defScope (top 50)) .none kV32 dc32 pm32 an32 cd32 ct32), sl32⟩)
    (c32 : PySem.W.codeIn K cd32 "are_moments" = true)
    (k32 : PySem.W.keepIn K (.ref f32) = true)
    (a33 : PySem.W.nsIn K mainGlobals "ring_behind" = some (some (.ref f33)))
    (l33 : K.lookup f33 = some ⟨oc33, od33, .func (PySem.W.fnOf "ring_behind" "ring_behind" (defArgs (top 51)) (defBody (top 51)) (defScope (top 51)) .none kV33 dc33 pm33 an33 cd33 ct33), sl33⟩)
    (c33 : PySem.W.codeIn K cd33 "ring_behind" = true)
    (k33 : PySem.W.keepIn K (.ref f33) = true)
    (a34 : PySem.W.nsIn K mainGlobals "ring" = some (some (.ref f34)))
    (l34 : K.lookup f34 = some ⟨oc34, od34, .func (PySem.W.fnOf "ring" "ring" (defArgs (top 52)) (defBody (top 52)) (defScope (top 52)) .none kV34 dc34 pm34 an34 cd34 ct34), sl34⟩)
    (c34 : PySem.W.codeIn K cd34 "ring" = true)
    (k34 : PySem.W.keepIn K (.ref f34) = true)
    (a35 : PySem.W.nsIn K mainGlobals "is_ring" = some (some (.ref f35)))
    (l35 : K.lookup f35 = some ⟨oc35, od35, .func (PySem.W.fnOf "is_ring" "is_ring" (defArgs (top 53)) (defBody (top 53)) (defScope (top 53)) .none kV35 dc35 pm35 an35 cd35 ct35), sl35⟩)
    (c35 : PySem.W.codeIn K cd35 "is_ring" = true)
    (k35 : PySem.W.keepIn K (.ref f35) = true)
    (a36 : PySem.W.nsIn K mainGlobals "lengths" = some (some (.ref f36)))
    (l36 : K.lookup f36 = some ⟨oc36, od36, .func (PySem.W.fnOf "lengths" "lengths" (defArgs (top 54)) (defBody (top 54)) (defScope (top 54)) .none kV36 dc36 pm36 an36 cd36 ct36), sl36⟩)
    (c36 : PySem.W.codeIn K cd36 "lengths" = true)
    (k36 : PySem.W.keepIn K (.ref f36) = true)
    (a37 : PySem.W.nsIn K mainGlobals "may_end" = some (some (.ref f37)))
    (l37 : K.lookup f37 = some ⟨oc37, od37, .func (PySem.W.fnOf "may_end" "may_end" (defArgs (top 57)) (defBody (top 57)) (defScope (top 57)) .none kV37 dc37 pm37 an37 cd37 ct37), sl37⟩)
    (c37 : PySem.W.codeIn K cd37 "may_end" = true)
    (k37 : PySem.W.keepIn K (.ref f37) = true)
    (a38 : PySem.W.nsIn K mainGlobals "longer_orders" = some (some (.ref f38)))
    (l38 : K.lookup f38 = some ⟨oc38, od38, .func (PySem.W.fnOf "longer_orders" "longer_orders" (defArgs (top 58)) (defBody (top 58)) (defScope (top 58)) .none kV38 dc38 pm38 an38 cd38 ct38), sl38⟩)
    (c38 : PySem.W.codeIn K cd38 "longer_orders" = true)
    (k38 : PySem.W.keepIn K (.ref f38) = true)
    (a39 : PySem.W.nsIn K mainGlobals "all_orders" = some (some (.ref f39)))
    (l39 : K.lookup f39 = some ⟨oc39, od39, .func (PySem.W.fnOf "all_orders" "all_orders" (defArgs (top 59)) (defBody (top 59)) (defScope (top 59)) .none kV39 dc39 pm39 an39 cd39 ct39), sl39⟩)
    (c39 : PySem.W.codeIn K cd39 "all_orders" = true)
    (k39 : PySem.W.keepIn K (.ref f39) = true)
    (a40 : PySem.W.nsIn K mainGlobals "taken_up" = some (some (.ref f40)))
    (l40 : K.lookup f40 = some ⟨oc40, od40, .func (PySem.W.fnOf "taken_up" "taken_up" (defArgs (top 60)) (defBody (top 60)) (defScope (top 60)) .none kV40 dc40 pm40 an40 cd40 ct40), sl40⟩)
    (c40 : PySem.W.codeIn K cd40 "taken_up" = true)
    (k40 : PySem.W.keepIn K (.ref f40) = true)
    (a41 : PySem.W.nsIn K mainGlobals "played" = some (some (.ref f41)))
    (l41 : K.lookup f41 = some ⟨oc41, od41, .func (PySem.W.fnOf "played" "played" (defArgs (top 61)) (defBody (top 61)) (defScope (top 61)) .none kV41 dc41 pm41 an41 cd41 ct41), sl41⟩)
    (c41 : PySem.W.codeIn K cd41 "played" = true)
    (k41 : PySem.W.keepIn K (.ref f41) = true)
    (a42 : PySem.W.nsIn K mainGlobals "benches" = some (some (.ref f42)))
    (l42 : K.lookup f42 = some ⟨oc42, od42, .func (PySem.W.fnOf "benches" "benches" (defArgs (top 62)) (defBody (top 62)) (defScope (top 62)) .none kV42 dc42 pm42 an42 cd42 ct42), sl42⟩)
    (c42 : PySem.W.codeIn K cd42 "benches" = true)
    (k42 : PySem.W.keepIn K (.ref f42) = true)
    (a43 : PySem.W.nsIn K mainGlobals "check_work" = some (some (.ref f43)))
    (l43 : K.lookup f43 = some ⟨oc43, od43, .func (PySem.W.fnOf "check_work" "check_work" (defArgs (top 64)) (defBody (top 64)) (defScope (top 64)) .none kV43 dc43 pm43 an43 cd43 ct43), sl43⟩)
    (c43 : PySem.W.codeIn K cd43 "check_work" = true)
    (k43 : PySem.W.keepIn K (.ref f43) = true)
    (a44 : PySem.W.nsIn K mainGlobals "check_side" = some (some (.ref f44)))
    (l44 : K.lookup f44 = some ⟨oc44, od44, .func (PySem.W.fnOf "check_side" "check_side" (defArgs (top 65)) (defBody (top 65)) (defScope (top 65)) .none kV44 dc44 pm44 an44 cd44 ct44), sl44⟩)
    (c44 : PySem.W.codeIn K cd44 "check_side" = true)
    (k44 : PySem.W.keepIn K (.ref f44) = true)
    (a45 : PySem.W.nsIn K mainGlobals "chain_start" = some (some (.ref f45)))
    (l45 : K.lookup f45 = some ⟨oc45, od45, .func (PySem.W.fnOf "chain_start" "chain_start" (defArgs (top 66)) (defBody (top 66)) (defScope (top 66)) .none kV45 dc45 pm45 an45 cd45 ct45), sl45⟩)
    (c45 : PySem.W.codeIn K cd45 "chain_start" = true)
    (k45 : PySem.W.keepIn K (.ref f45) = true)
    (a46 : PySem.W.nsIn K mainGlobals "chain_goal" = some (some (.ref f46)))
    (l46 : K.lookup f46 = some ⟨oc46, od46, .func (PySem.W.fnOf "chain_goal" "chain_goal" (defArgs (top 67)) (defBody (top 67)) (defScope (top 67)) .none kV46 dc46 pm46 an46 cd46 ct46), sl46⟩)
    (c46 : PySem.W.codeIn K cd46 "chain_goal" = true)
    (k46 : PySem.W.keepIn K (.ref f46) = true)
    (a47 : PySem.W.nsIn K mainGlobals "chain_most" = some (some (.ref f47)))
    (l47 : K.lookup f47 = some ⟨oc47, od47, .func (PySem.W.fnOf "chain_most" "chain_most" (defArgs (top 68)) (defBody (top 68)) (defScope (top 68)) .none kV47 dc47 pm47 an47 cd47 ct47), sl47⟩)
    (c47 : PySem.W.codeIn K cd47 "chain_most" = true)
    (k47 : PySem.W.keepIn K (.ref f47) = true)
    (a48 : PySem.W.nsIn K mainGlobals "shortest_chain" = some (some (.ref f48)))
    (l48 : K.lookup f48 = some ⟨oc48, od48, .func (PySem.W.fnOf "shortest_chain" "shortest_chain" (defArgs (top 69)) (defBody (top 69)) (defScope (top 69)) .none kV48 dc48 pm48 an48 cd48 ct48), sl48⟩)
    (c48 : PySem.W.codeIn K cd48 "shortest_chain" = true)
    (k48 : PySem.W.keepIn K (.ref f48) = true)
    (a49 : PySem.W.nsIn K mainGlobals "length" = some (some (.ref f49)))
    (l49 : K.lookup f49 = some ⟨oc49, od49, .func (PySem.W.fnOf "length" "length" (defArgs (top 70)) (defBody (top 70)) (defScope (top 70)) .none kV49 dc49 pm49 an49 cd49 ct49), sl49⟩)
    (c49 : PySem.W.codeIn K cd49 "length" = true)
    (k49 : PySem.W.keepIn K (.ref f49) = true)
    (a50 : PySem.W.nsIn K mainGlobals "chain" = some (some (.ref f50)))
    (l50 : K.lookup f50 = some ⟨oc50, od50, .func (PySem.W.fnOf "chain" "chain" (defArgs (top 71)) (defBody (top 71)) (defScope (top 71)) .none kV50 dc50 pm50 an50 cd50 ct50), sl50⟩)
    (c50 : PySem.W.codeIn K cd50 "chain" = true)
    (k50 : PySem.W.keepIn K (.ref f50) = true)
    (a51 : PySem.W.nsIn K mainGlobals "is_chain" = some (some (.ref f51)))
    (l51 : K.lookup f51 = some ⟨oc51, od51, .func (PySem.W.fnOf "is_chain" "is_chain" (defArgs (top 72)) (defBody (top 72)) (defScope (top 72)) .none kV51 dc51 pm51 an51 cd51 ct51), sl51⟩)
    (c51 : PySem.W.codeIn K cd51 "is_chain" = true)
    (k51 : PySem.W.keepIn K (.ref f51) = true)
    (a52 : PySem.W.nsIn K mainGlobals "shown" = some (some (.ref f52)))
    (l52 : K.lookup f52 = some ⟨oc52, od52, .func (PySem.W.fnOf "shown" "shown" (defArgs (top 73)) (defBody (top 73)) (defScope (top 73)) .none kV52 dc52 pm52 an52 cd52 ct52), sl52⟩)
    (c52 : PySem.W.codeIn K cd52 "shown" = true)
    (k52 : PySem.W.keepIn K (.ref f52) = true)
    (a53 : PySem.W.findIn K (.ref C_Watch) "__init__" = some (some (.ref f53)))
    (i53 : PySem.W.isFn K (.ref f53) = true)
    (l53 : K.lookup f53 = some ⟨oc53, od53, .func (PySem.W.fnOf "__init__" "Watch.__init__" (defArgs (inClass (top 75) 0)) (defBody (inClass (top 75) 0)) (defScope (inClass (top 75) 0)) .none kV53 dc53 pm53 an53 cd53 ct53), sl53⟩)
    (c53 : PySem.W.codeIn K cd53 "Watch.__init__" = true)
    (k53 : PySem.W.keepIn K (.ref f53) = true)
    (a54 : PySem.W.findIn K (.ref C_Watch) "order" = some (some (.ref f54)))
    (i54 : PySem.W.isFn K (.ref f54) = true)
    (l54 : K.lookup f54 = some ⟨oc54, od54, .func (PySem.W.fnOf "order" "Watch.order" (defArgs (inClass (top 75) 1)) (defBody (inClass (top 75) 1)) (defScope (inClass (top 75) 1)) .none kV54 dc54 pm54 an54 cd54 ct54), sl54⟩)
    (c54 : PySem.W.codeIn K cd54 "Watch.order" = true)
    (k54 : PySem.W.keepIn K (.ref f54) = true)
    (a55 : PySem.W.nsIn K mainGlobals "_law_cell_at" = some (some (.ref f55)))
    (l55 : K.lookup f55 = some ⟨oc55, od55, .func (PySem.W.fnOf "_law_cell_at" "_law_cell_at" (defArgs (top 77)) (defBody (top 77)) (defScope (top 77)) .none kV55 dc55 pm55 an55 cd55 ct55), sl55⟩)
    (c55 : PySem.W.codeIn K cd55 "_law_cell_at" = true)
    (k55 : PySem.W.keepIn K (.ref f55) = true)
    (a56 : PySem.W.nsIn K mainGlobals "_law_mixed" = some (some (.ref f56)))
    (l56 : K.lookup f56 = some ⟨oc56, od56, .func (PySem.W.fnOf "_law_mixed" "_law_mixed" (defArgs (top 78)) (defBody (top 78)) (defScope (top 78)) .none kV56 dc56 pm56 an56 cd56 ct56), sl56⟩)
    (c56 : PySem.W.codeIn K cd56 "_law_mixed" = true)
    (k56 : PySem.W.keepIn K (.ref f56) = true)
    (a57 : PySem.W.nsIn K mainGlobals "_law_draw" = some (some (.ref f57)))
    (l57 : K.lookup f57 = some ⟨oc57, od57, .func (PySem.W.fnOf "_law_draw" "_law_draw" (defArgs (top 79)) (defBody (top 79)) (defScope (top 79)) .none kV57 dc57 pm57 an57 cd57 ct57), sl57⟩)
    (c57 : PySem.W.codeIn K cd57 "_law_draw" = true)
    (k57 : PySem.W.keepIn K (.ref f57) = true)
    (a58 : PySem.W.nsIn K mainGlobals "_law_pick" = some (some (.ref f58)))
    (l58 : K.lookup f58 = some ⟨oc58, od58, .func (PySem.W.fnOf "_law_pick" "_law_pick" (defArgs (top 80)) (defBody (top 80)) (defScope (top 80)) .none kV58 dc58 pm58 an58 cd58 ct58), sl58⟩)
    (c58 : PySem.W.codeIn K cd58 "_law_pick" = true)
    (k58 : PySem.W.keepIn K (.ref f58) = true)
    (a59 : PySem.W.nsIn K mainGlobals "_law_world" = some (some (.ref f59)))
    (l59 : K.lookup f59 = some ⟨oc59, od59, .func (PySem.W.fnOf "_law_world" "_law_world" (defArgs (top 81)) (defBody (top 81)) (defScope (top 81)) .none kV59 dc59 pm59 an59 cd59 ct59), sl59⟩)
    (c59 : PySem.W.codeIn K cd59 "_law_world" = true)
    (k59 : PySem.W.keepIn K (.ref f59) = true)
    (a60 : PySem.W.nsIn K mainGlobals "_law_which" = some (some (.ref f60)))
    (l60 : K.lookup f60 = some ⟨oc60, od60, .func (PySem.W.fnOf "_law_which" "_law_which" (defArgs (top 82)) (defBody (top 82)) (defScope (top 82)) .none kV60 dc60 pm60 an60 cd60 ct60), sl60⟩)
    (c60 : PySem.W.codeIn K cd60 "_law_which" = true)
    (k60 : PySem.W.keepIn K (.ref f60) = true)
    (a61 : PySem.W.nsIn K mainGlobals "_law_ask" = some (some (.ref f61)))
    (l61 : K.lookup f61 = some ⟨oc61, od61, .func (PySem.W.fnOf "_law_ask" "_law_ask" (defArgs (top 83)) (defBody (top 83)) (defScope (top 83)) .none kV61 dc61 pm61 an61 cd61 ct61), sl61⟩)
    (c61 : PySem.W.codeIn K cd61 "_law_ask" = true)
    (k61 : PySem.W.keepIn K (.ref f61) = true)
    (a62 : PySem.W.nsIn K mainGlobals "_law_whole" = some (some (.ref f62)))
    (l62 : K.lookup f62 = some ⟨oc62, od62, .func (PySem.W.fnOf "_law_whole" "_law_whole" (defArgs (top 84)) (defBody (top 84)) (defScope (top 84)) .none kV62 dc62 pm62 an62 cd62 ct62), sl62⟩)
    (c62 : PySem.W.codeIn K cd62 "_law_whole" = true)
    (k62 : PySem.W.keepIn K (.ref f62) = true)
    (a63 : PySem.W.nsIn K mainGlobals "_law_is_world" = some (some (.ref f63)))
    (l63 : K.lookup f63 = some ⟨oc63, od63, .func (PySem.W.fnOf "_law_is_world" "_law_is_world" (defArgs (top 85)) (defBody (top 85)) (defScope (top 85)) .none kV63 dc63 pm63 an63 cd63 ct63), sl63⟩)
    (c63 : PySem.W.codeIn K cd63 "_law_is_world" = true)
    (k63 : PySem.W.keepIn K (.ref f63) = true)
    (a64 : PySem.W.nsIn K mainGlobals "_law_spoilt" = some (some (.ref f64)))
    (l64 : K.lookup f64 = some ⟨oc64, od64, .func (PySem.W.fnOf "_law_spoilt" "_law_spoilt" (defArgs (top 86)) (defBody (top 86)) (defScope (top 86)) .none kV64 dc64 pm64 an64 cd64 ct64), sl64⟩)
    (c64 : PySem.W.codeIn K cd64 "_law_spoilt" = true)
    (k64 : PySem.W.keepIn K (.ref f64) = true)
    (a65 : PySem.W.nsIn K mainGlobals "law" = some (some (.ref f65)))
    (l65 : K.lookup f65 = some ⟨oc65, od65, .func (PySem.W.fnOf "law" "law" (defArgs (top 87)) (defBody (top 87)) (defScope (top 87)) .none kV65 dc65 pm65 an65 cd65 ct65), sl65⟩)
    (c65 : PySem.W.codeIn K cd65 "law" = true)
    (k65 : PySem.W.keepIn K (.ref f65) = true)
    (z_ValueError : PySem.W.nsIn K mainGlobals "ValueError" = some none)
    (z_all : PySem.W.nsIn K mainGlobals "all" = some none)
    (z_bool : PySem.W.nsIn K mainGlobals "bool" = some none)
    (z_enumerate : PySem.W.nsIn K mainGlobals "enumerate" = some none)
    (z_int : PySem.W.nsIn K mainGlobals "int" = some none)
    (z_isinstance : PySem.W.nsIn K mainGlobals "isinstance" = some none)
    (z_len : PySem.W.nsIn K mainGlobals "len" = some none)
    (z_list : PySem.W.nsIn K mainGlobals "list" = some none)
    (z_max : PySem.W.nsIn K mainGlobals "max" = some none)
    (z_min : PySem.W.nsIn K mainGlobals "min" = some none)
    (z_range : PySem.W.nsIn K mainGlobals "range" = some none)
    (z_sorted : PySem.W.nsIn K mainGlobals "sorted" = some none)
    (z_str : PySem.W.nsIn K mainGlobals "str" = some none)
    (z_sum : PySem.W.nsIn K mainGlobals "sum" = some none)
    (z_tuple : PySem.W.nsIn K mainGlobals "tuple" = some none)
    (z_zip : PySem.W.nsIn K mainGlobals "zip" = some none)
    (x_MOST_BENCHES : PySem.W.nsIn K mainGlobals "MOST_BENCHES" = some (some (.int 4 t_MOST_BENCHES)))
    (x_MOST_WORKS : PySem.W.nsIn K mainGlobals "MOST_WORKS" = some (some (.int 10 t_MOST_WORKS)))
    (x_MOST_LENGTH : PySem.W.nsIn K mainGlobals "MOST_LENGTH" = some (some (.int 99 t_MOST_LENGTH)))
    (x_MOST_NUMBER : PySem.W.nsIn K mainGlobals "MOST_NUMBER" = some (some (.int 9999 t_MOST_NUMBER)))
    (x_MOST_WORKS_OF_ALL_ORDERS : PySem.W.nsIn K mainGlobals "MOST_WORKS_OF_ALL_ORDERS" = some (some (.int 6 t_MOST_WORKS_OF_ALL_ORDERS)))
    (x_BenchError : PySem.W.nsIn K mainGlobals "BenchError" = some (some (.ref C_BenchError)))
    (q_BenchError : PySem.W.excIn K C_BenchError [.type "ValueError", .type "Exception", .type "BaseException", .type "object"] "ValueError.__new__" = true)
    (x_NoWorld : PySem.W.nsIn K mainGlobals "NoWorld" = some (some (.ref C_NoWorld)))
    (q_NoWorld : PySem.W.excIn K C_NoWorld [.type "ValueError", .type "Exception", .type "BaseException", .type "object"] "ValueError.__new__" = true)
    (x_NoOrder : PySem.W.nsIn K mainGlobals "NoOrder" = some (some (.ref C_NoOrder)))
    (q_NoOrder : PySem.W.excIn K C_NoOrder [.type "ValueError", .type "Exception", .type "BaseException", .type "object"] "ValueError.__new__" = true)
    (x_NoLengths : PySem.W.nsIn K mainGlobals "NoLengths" = some (some (.ref C_NoLengths)))
    (q_NoLengths : PySem.W.excIn K C_NoLengths [.type "ValueError", .type "Exception", .type "BaseException", .type "object"] "ValueError.__new__" = true)
    (x_NoWork : PySem.W.nsIn K mainGlobals "NoWork" = some (some (.ref C_NoWork)))
    (q_NoWork : PySem.W.excIn K C_NoWork [.type "ValueError", .type "Exception", .type "BaseException", .type "object"] "ValueError.__new__" = true)
    (x_NoSide : PySem.W.nsIn K mainGlobals "NoSide" = some (some (.ref C_NoSide)))
    (q_NoSide : PySem.W.excIn K C_NoSide [.type "ValueError", .type "Exception", .type "BaseException", .type "object"] "ValueError.__new__" = true)
    (x_Never : PySem.W.nsIn K mainGlobals "Never" = some (some (.ref C_Never)))
    (q_Never : PySem.W.excIn K C_Never [.type "ValueError", .type "Exception", .type "BaseException", .type "object"] "ValueError.__new__" = true)
    (x_TooMany : PySem.W.nsIn K mainGlobals "TooMany" = some (some (.ref C_TooMany)))
    (q_TooMany : PySem.W.excIn K C_TooMany [.type "ValueError", .type "Exception", .type "BaseException", .type "object"] "ValueError.__new__" = true)
    (x_NoStep : PySem.W.nsIn K mainGlobals "NoStep" = some (some (.ref C_NoStep)))
    (q_NoStep : PySem.W.excIn K C_NoStep [.type "ValueError", .type "Exception", .type "BaseException", .type "object"] "ValueError.__new__" = true)
    {cd_NoWorld : ClassData}
    (v0_ga : PySem.W.findIn K (.ref C_NoWorld) "__getattribute__" = some (some (.builtin "BaseException.__getattribute__")))
    (v0_gt : PySem.W.findIn K (.ref C_NoWorld) "__getattr__" = some none)
    (v0_cl : PySem.W.findIn K (.ref C_NoWorld) "__class__" = some (some (.builtin "object.__class__")))
    (v0_mo : PySem.W.mroIn K C_NoWorld (.type "object") = some true)
    (v0_mb : PySem.W.mroIn K C_NoWorld (.type "BaseException") = some true)
    (v0_is : PySem.W.clsIn K C_NoWorld = some cd_NoWorld)
    (v0_0 : PySem.W.kitOne K (.ref C_NoWorld) (.ref C_NoWorld) = some true)
    (v0_1 : PySem.W.kitOne K (.ref C_NoWorld) (.ref C_NoOrder) = some false)
    (v0_2 : PySem.W.kitOne K (.ref C_NoWorld) (.ref C_NoLengths) = some false)
    (v0_3 : PySem.W.kitOne K (.ref C_NoWorld) (.ref C_NoWork) = some false)
    (v0_4 : PySem.W.kitOne K (.ref C_NoWorld) (.ref C_NoSide) = some false)
    (v0_5 : PySem.W.kitOne K (.ref C_NoWorld) (.ref C_Never) = some false)
    (v0_6 : PySem.W.kitOne K (.ref C_NoWorld) (.ref C_TooMany) = some false)
    (v0_7 : PySem.W.kitOne K (.ref C_NoWorld) (.ref C_NoStep) = some false)
    (v0_ve : PySem.W.kitOne K (.ref C_NoWorld) (.type "ValueError") = some true)
    (v0_up : PySem.W.mroIn K C_NoWorld (.ref C_BenchError) = some true)
    (v_ba : PySem.W.mroIn K C_BenchError (.type "BaseException") = some true) : ∃ T : Txt K mg, Errs T :=
  ⟨{ c_Watch := ⟨C_Watch, PySem.W.mg_of X G x_Watch, ⟨pg_Watch, hd_Watch, po_Watch, sa_Watch⟩, mk_Watch, kc_Watch⟩,
     na_Watch_ended := na_Watch_ended,
     na_Watch_world := na_Watch_world,
     is_whole_within := def_mk X G a0 l0 c0 k0 (fun _ _ _ _ _ _ => ar3 fun _ _ _ => rfl),
     is_pair := def_mk X G a1 l1 c1 k1 (fun _ _ _ _ _ _ => ar1 fun _ => rfl),
     are_bounds_of_work := def_mk X G a2 l2 c2 k2 (fun _ _ _ _ _ _ => ar1 fun _ => rfl),
     are_bounds := def_mk X G a3 l3 c3 k3 (fun _ _ _ _ _ _ => ar1 fun _ => rfl),
     is_world := def_mk X G a4 l4 c4 k4 (fun _ _ _ _ _ _ => ar1 fun _ => rfl),
     check_world := def_mk X G a5 l5 c5 k5 (fun _ _ _ _ _ _ => ar1 fun _ => rfl),
     is_order := def_mk X G a6 l6 c6 k6 (fun _ _ _ _ _ _ => ar2 fun _ _ => rfl),
     check_order := def_mk X G a7 l7 c7 k7 (fun _ _ _ _ _ _ => ar2 fun _ _ => rfl),
     are_lengths := def_mk X G a8 l8 c8 k8 (fun _ _ _ _ _ _ => ar2 fun _ _ => rfl),
     check_lengths := def_mk X G a9 l9 c9 k9 (fun _ _ _ _ _ _ => ar2 fun _ _ => rfl),
     how_many_benches := def_mk X G a10 l10 c10 k10 (fun _ _ _ _ _ _ => ar1 fun _ => rfl),
     how_many_works := def_mk X G a11 l11 c11 k11 (fun _ _ _ _ _ _ => ar1 fun _ => rfl),
     least_length := def_mk X G a12 l12 c12 k12 (fun _ _ _ _ _ _ => ar2 fun _ _ => rfl),
     greatest_length := def_mk X G a13 l13 c13 k13 (fun _ _ _ _ _ _ => ar2 fun _ _ => rfl),
     how_many_began := def_mk X G a14 l14 c14 k14 (fun _ _ _ _ _ _ => ar2 fun _ _ => rfl),
     running := def_mk X G a15 l15 c15 k15 (fun _ _ _ _ _ _ => ar2 fun _ _ => rfl),
     begin_event := def_mk X G a16 l16 c16 k16 (fun _ _ _ _ _ _ => ar2 fun _ _ => rfl),
     rules_of_ended := def_mk X G a17 l17 c17 k17 (fun _ _ _ _ _ _ => ar3 fun _ _ _ => rfl),
     rule_of_running := def_mk X G a18 l18 c18 k18 (fun _ _ _ _ _ _ => ar3 fun _ _ _ => rfl),
     rules := def_mk X G a19 l19 c19 k19 (fun _ _ _ _ _ _ => ar2 fun _ _ => rfl),
     holds := def_mk X G a20 l20 c20 k20 (fun _ _ _ _ _ _ => ar2 fun _ _ => rfl),
     is_walk := def_mk X G a21 l21 c21 k21 (fun _ _ _ _ _ _ => ar2 fun _ _ => rfl),
     first_event := def_mk X G a22 l22 c22 k22 (fun _ _ _ _ _ _ => ar2 fun _ _ => rfl),
     last_event := def_mk X G a23 l23 c23 k23 (fun _ _ _ _ _ _ => ar2 fun _ _ => rfl),
     walk_most := def_mk X G a24 l24 c24 k24 (fun _ _ _ _ _ _ => ar2 fun _ _ => rfl),
     shorten_walks := def_mk X G a25 l25 c25 k25 (fun _ _ _ _ _ _ => ar3 fun _ _ _ => rfl),
     shortest_walks := def_mk X G a26 l26 c26 k26 (fun _ _ _ _ _ _ => ar3 fun _ _ _ => rfl),
     walk_by_firsts := def_mk X G a27 l27 c27 k27 (fun _ _ _ _ _ _ => ar4 fun _ _ _ _ => rfl),
     earliest_moments := def_mk X G a28 l28 c28 k28 (fun _ _ _ _ _ _ => ar2 fun _ _ => rfl),
     could := def_mk X G a29 l29 c29 k29 (fun _ _ _ _ _ _ => ar2 fun _ _ => rfl),
     check_could := def_mk X G a30 l30 c30 k30 (fun _ _ _ _ _ _ => ar2 fun _ _ => rfl),
     moments := def_mk X G a31 l31 c31 k31 (fun _ _ _ _ _ _ => ar2 fun _ _ => rfl),
     are_moments := def_mk X G a32 l32 c32 k32 (fun _ _ _ _ _ _ => ar3 fun _ _ _ => rfl),
     ring_behind := def_mk X G a33 l33 c33 k33 (fun _ _ _ _ _ _ => ar3 fun _ _ _ => rfl),
     ring := def_mk X G a34 l34 c34 k34 (fun _ _ _ _ _ _ => ar2 fun _ _ => rfl),
     is_ring := def_mk X G a35 l35 c35 k35 (fun _ _ _ _ _ _ => ar3 fun _ _ _ => rfl),
     lengths := def_mk X G a36 l36 c36 k36 (fun _ _ _ _ _ _ => ar2 fun _ _ => rfl),
     may_end := def_mk X G a37 l37 c37 k37 (fun _ _ _ _ _ _ => ar2 fun _ _ => rfl),
     longer_orders := def_mk X G a38 l38 c38 k38 (fun _ _ _ _ _ _ => ar2 fun _ _ => rfl),
     all_orders := def_mk X G a39 l39 c39 k39 (fun _ _ _ _ _ _ => ar1 fun _ => rfl),
     taken_up := def_mk X G a40 l40 c40 k40 (fun _ _ _ _ _ _ => ar2 fun _ _ => rfl),
     played := def_mk X G a41 l41 c41 k41 (fun _ _ _ _ _ _ => ar2 fun _ _ => rfl),
     benches := def_mk X G a42 l42 c42 k42 (fun _ _ _ _ _ _ => ar2 fun _ _ => rfl),
     check_work := def_mk X G a43 l43 c43 k43 (fun _ _ _ _ _ _ => ar3 fun _ _ _ => rfl),
     check_side := def_mk X G a44 l44 c44 k44 (fun _ _ _ _ _ _ => ar4 fun _ _ _ _ => rfl),
     chain_start := def_mk X G a45 l45 c45 k45 (fun _ _ _ _ _ _ => ar4 fun _ _ _ _ => rfl),
     chain_goal := def_mk X G a46 l46 c46 k46 (fun _ _ _ _ _ _ => ar4 fun _ _ _ _ => rfl),
     chain_most := def_mk X G a47 l47 c47 k47 (fun _ _ _ _ _ _ => ar2 fun _ _ => rfl),
     shortest_chain := def_mk X G a48 l48 c48 k48 (fun _ _ _ _ _ _ => ar4 fun _ _ _ _ => rfl),
     length := def_mk X G a49 l49 c49 k49 (fun _ _ _ _ _ _ => ar3 fun _ _ _ => rfl),
     chain := def_mk X G a50 l50 c50 k50 (fun _ _ _ _ _ _ => ar4 fun _ _ _ _ => rfl),
     is_chain := def_mk X G a51 l51 c51 k51 (fun _ _ _ _ _ _ => ar6 fun _ _ _ _ _ _ => rfl),
     shown := def_mk X G a52 l52 c52 k52 (fun _ _ _ _ _ _ => ar4 fun _ _ _ _ => rfl),
     Watch_init := ⟨f53, _, fun_mk l53 c53 k53, (fun_mk l53 c53 k53).binds (fun _ _ _ _ _ _ => ar2 fun _ _ => rfl), ⟨a53, i53, k53⟩⟩,
     Watch_order := ⟨f54, _, fun_mk l54 c54 k54, (fun_mk l54 c54 k54).binds (fun _ _ _ _ _ _ => ar1 fun _ => rfl), ⟨a54, i54, k54⟩⟩,
     law_cell_at := def_mk X G a55 l55 c55 k55 (fun _ _ _ _ _ _ => ar2 fun _ _ => rfl),
     law_mixed := def_mk X G a56 l56 c56 k56 (fun _ _ _ _ _ _ => ar3 fun _ _ _ => rfl),
     law_draw := def_mk X G a57 l57 c57 k57 (fun _ _ _ _ _ _ => ar3 fun _ _ _ => rfl),
     law_pick := def_mk X G a58 l58 c58 k58 (fun _ _ _ _ _ _ => ar3 fun _ _ _ => rfl),
     law_world := def_mk X G a59 l59 c59 k59 (fun _ _ _ _ _ _ => ar4 fun _ _ _ _ => rfl),
     law_which := def_mk X G a60 l60 c60 k60 (fun _ _ _ _ _ _ => ar1 fun _ => rfl),
     law_ask := def_mk X G a61 l61 c61 k61 (fun _ _ _ _ _ _ => ar3 fun _ _ _ => rfl),
     law_whole := def_mk X G a62 l62 c62 k62 (fun _ _ _ _ _ _ => ar3 fun _ _ _ => rfl),
     law_is_world := def_mk X G a63 l63 c63 k63 (fun _ _ _ _ _ _ => ar1 fun _ => rfl),
     law_spoilt := def_mk X G a64 l64 c64 k64 (fun _ _ _ _ _ _ => ar3 fun _ _ _ => rfl),
     law := def_mk X G a65 l65 c65 k65 (fun _ _ _ _ _ _ => ar1 fun _ => rfl),
     n_ValueError := PySem.W.mg_none_of X G z_ValueError,
     n_all := PySem.W.mg_none_of X G z_all,
     n_bool := PySem.W.mg_none_of X G z_bool,
     n_enumerate := PySem.W.mg_none_of X G z_enumerate,
     n_int := PySem.W.mg_none_of X G z_int,
     n_isinstance := PySem.W.mg_none_of X G z_isinstance,
     n_len := PySem.W.mg_none_of X G z_len,
     n_list := PySem.W.mg_none_of X G z_list,
     n_max := PySem.W.mg_none_of X G z_max,
     n_min := PySem.W.mg_none_of X G z_min,
     n_range := PySem.W.mg_none_of X G z_range,
     n_sorted := PySem.W.mg_none_of X G z_sorted,
     n_str := PySem.W.mg_none_of X G z_str,
     n_sum := PySem.W.mg_none_of X G z_sum,
     n_tuple := PySem.W.mg_none_of X G z_tuple,
     n_zip := PySem.W.mg_none_of X G z_zip,
     c_MOST_BENCHES := ⟨_, PySem.W.mg_of X G x_MOST_BENCHES⟩,
     c_MOST_WORKS := ⟨_, PySem.W.mg_of X G x_MOST_WORKS⟩,
     c_MOST_LENGTH := ⟨_, PySem.W.mg_of X G x_MOST_LENGTH⟩,
     c_MOST_NUMBER := ⟨_, PySem.W.mg_of X G x_MOST_NUMBER⟩,
     c_MOST_WORKS_OF_ALL_ORDERS := ⟨_, PySem.W.mg_of X G x_MOST_WORKS_OF_ALL_ORDERS⟩,
     e_BenchError := ⟨C_BenchError, PySem.W.mg_of X G x_BenchError, q_BenchError⟩,
     e_NoWorld := ⟨C_NoWorld, PySem.W.mg_of X G x_NoWorld, q_NoWorld⟩,
     e_NoOrder := ⟨C_NoOrder, PySem.W.mg_of X G x_NoOrder, q_NoOrder⟩,
     e_NoLengths := ⟨C_NoLengths, PySem.W.mg_of X G x_NoLengths, q_NoLengths⟩,
     e_NoWork := ⟨C_NoWork, PySem.W.mg_of X G x_NoWork, q_NoWork⟩,
     e_NoSide := ⟨C_NoSide, PySem.W.mg_of X G x_NoSide, q_NoSide⟩,
     e_Never := ⟨C_Never, PySem.W.mg_of X G x_Never, q_Never⟩,
     e_TooMany := ⟨C_TooMany, PySem.W.mg_of X G x_TooMany, q_TooMany⟩,
     e_NoStep := ⟨C_NoStep, PySem.W.mg_of X G x_NoStep, q_NoStep⟩ },
   ⟨⟨⟨v0_ga, v0_gt, v0_cl, v0_mo, v0_mb, (by rw [v0_is]; rfl)⟩, rfl, AllIs.at (.cons v0_0 (.cons v0_1 (.cons v0_2 (.cons v0_3 (.cons v0_4 (.cons v0_5 (.cons v0_6 (.cons v0_7 (.nil))))))))), v0_ve, rfl, rfl, no_at (by decide)⟩,
    v0_up,
    v_ba⟩⟩

theorem walk {l : PySem.W.OpenLaw} {q : Program} {loose : List Str} {XP : (Str → Option Value) → Heap → Prop} {YP : World → Heap → Prop} {d : DefRec} {K : Params → PySem.W.Frag} (hn : l.most = some 63) (hdf : d.params.defaults = [])
    (hY : ∀ (w : World) (h : Heap), YP w h → (K w.params).In h) (hd : d.name = "law")
    (F : ∀ (w : World) (mg : Str → Option Value) (h : Heap), (K w.params).In h → h.Ns mainGlobals mg → ∃ T : Txt (K w.params) mg, Errs T) :
    PySem.W.WalkO q loose XP YP l.row.toRowW d [] (fun f vs => PySem.call f vs) := by
  refine walk_of (l := l) (n := 63) (k := 14) (x := "_law_script") (K := K) (CX := fun w => CXr l.prog w) (sp := fun w => sp_law (K w.params)) hn (by decide) hdf ⟨rfl, by decide, by decide⟩ hY ?_ ?_ ?_
  · intro w mg fa h KX G hmg
    obtain ⟨T, Z⟩ := F w mg h KX G
    rw [hd] at hmg
    have e : T.law.a = fa := by
      have z := T.law.m.symm.trans hmg
      injection z with z
      injection z
    subst e
    obtain ⟨oc, od, kV, doc, pm, an, cdv, ct, osl, ed, lk, hcd⟩ := T.law.F.ex
    refine ⟨T.law.d, fun s u => ?_, fun base _ _ => ok_law T Z⟩
    rw [ed]
    exact .of_eq rfl
  · intro w H a ns hl hO hS
    exact ⟨a, ns, rfl, Scr.of hS hO, fun _ => rfl⟩
  · intro w H s e s' h
    obtain ⟨_, _, _, _, _, _, _, z⟩ := h
    exact z
end Be
def PySem.W.Fast.tw3775036603750254051 : Unit := ()
def PySem.W.Fast.tw11310503989428033555 : Unit := ()
def PySem.W.Fast.tw7632427489707372612 : Unit := ()
def PySem.W.Fast.tw15062339040404083964 : Unit := ()
def PySem.W.Fast.tw2858705826352499950 : Unit := ()
def PySem.W.Fast.tw1837201515390474740 : Unit := ()
def PySem.W.Fast.tw3753206746972622059 : Unit := ()
def PySem.W.Fast.tw12589582682583788875 : Unit := ()
def PySem.W.Fast.tw6420387294189161941 : Unit := ()
def PySem.W.Fast.tw18325125373078744073 : Unit := ()
def PySem.W.Fast.tw16326857212646062336 : Unit := ()
def PySem.W.Fast.tw10854503104679342702 : Unit := ()
def PySem.W.Fast.tw15486284673865743853 : Unit := ()
def PySem.W.Fast.tw5043182521480587406 : Unit := ()
def PySem.W.Fast.tw15607769218739645858 : Unit := ()
def PySem.W.Fast.tw14988929485498496314 : Unit := ()
def PySem.W.Fast.tw14058777831950899709 : Unit := ()
def PySem.W.Fast.tw5327009312593790157 : Unit := ()
def PySem.W.Fast.tw11017996135787435793 : Unit := ()
def PySem.W.Fast.tw9095077214196140519 : Unit := ()
def PySem.W.Fast.tw8790305321550417312 : Unit := ()
def PySem.W.Fast.tw6245329168593895686 : Unit := ()
def PySem.W.Fast.tw3254407062476806367 : Unit := ()
def PySem.W.Fast.tw14541999807979781374 : Unit := ()
def PySem.W.Fast.tw12246069638587476256 : Unit := ()
def PySem.W.Fast.tw12181760580841995463 : Unit := ()
def PySem.W.Fast.tw16280296011174424701 : Unit := ()
def PySem.W.Fast.tw78421305157871534 : Unit := ()
def PySem.W.Fast.tw9018023579815712780 : Unit := ()
def PySem.W.Fast.tw7833410676048237575 : Unit := ()
def PySem.W.Fast.tw10393490486937043445 : Unit := ()
def PySem.W.Fast.tw667504452596937472 : Unit := ()
def PySem.W.Fast.tw7972210400091538435 : Unit := ()
def PySem.W.Fast.tw13482761917695217989 : Unit := ()
def PySem.W.Fast.tw2863777857874075616 : Unit := ()
def PySem.W.Fast.tw2658709517454345710 : Unit := ()
def PySem.W.Fast.tw1583045751363186276 : Unit := ()
def PySem.W.Fast.tw12891368126917670022 : Unit := ()
def PySem.W.Fast.tw12462446655045688197 : Unit := ()
def PySem.W.Fast.tw860715810360343664 : Unit := ()
def PySem.W.Fast.tw12608246876855144040 : Unit := ()
def PySem.W.Fast.tw11242152843023234832 : Unit := ()
def PySem.W.Fast.tw3482413225988575358 : Unit := ()
def PySem.W.Fast.tw13409418258925975521 : Unit := ()
def PySem.W.Fast.tw11160626798114213508 : Unit := ()
def PySem.W.Fast.tw14644324108230603381 : Unit := ()
def PySem.W.Fast.tw5107636510684457673 : Unit := ()
def PySem.W.Fast.tw7289367649827920879 : Unit := ()
def PySem.W.Fast.tw18262677929954195062 : Unit := ()
def PySem.W.Fast.tw7930683729625980778 : Unit := ()
def PySem.W.Fast.tw15316835996250287289 : Unit := ()
def PySem.W.Fast.tw10359584821110231037 : Unit := ()
def PySem.W.Fast.tw1144096220675198834 : Unit := ()
def PySem.W.Fast.tw17073959278489859876 : Unit := ()
def PySem.W.Fast.tw12754570511574577968 : Unit := ()
def PySem.W.Fast.tw2158990416097473173 : Unit := ()
def PySem.W.Fast.tw5979455163488482493 : Unit := ()
def PySem.W.Fast.tw7253386612551988245 : Unit := ()
def PySem.W.Fast.tw5927435895825652339 : Unit := ()
def PySem.W.Fast.tw2467233353186183904 : Unit := ()
def PySem.W.Fast.tw18139732675582717096 : Unit := ()
def PySem.W.Fast.tw3758207771488330215 : Unit := ()
def PySem.W.Fast.tw4142542383845390056 : Unit := ()
def PySem.W.Fast.tw16107823940054364079 : Unit := ()
def PySem.W.Fast.tw13610356415606028853 : Unit := ()
def PySem.W.Fast.tw15393183543506810144 : Unit := ()
def PySem.W.Fast.tw11259721636605321784 : Unit := ()
def PySem.W.Fast.tw11040447028700500112 : Unit := ()
def PySem.W.Fast.tw7166194395190932308 : Unit := ()
def PySem.W.Fast.tw11700676657836626147 : Unit := ()
def PySem.W.Fast.tw6389797172204766885 : Unit := ()
def PySem.W.Fast.tw5775323058116229253 : Unit := ()
def PySem.W.Fast.tw6882796575109923335 : Unit := ()
def PySem.W.Fast.tw6998281317357145916 : Unit := ()
def PySem.W.Fast.tw7802691019452473086 : Unit := ()
def PySem.W.Fast.tw3907249823588215708 : Unit := ()
def PySem.W.Fast.tw11407628446116472160 : Unit := ()
def PySem.W.Fast.tw6111324410714018014 : Unit := ()
def PySem.W.Fast.tw2245920115305278341 : Unit := ()
def PySem.W.Fast.tw752249368038407039 : Unit := ()
def PySem.W.Fast.tw6689094149539490029 : Unit := ()
def PySem.W.Fast.tw16574357912729842796 : Unit := ()
def PySem.W.Fast.tw11403115003767799044 : Unit := ()
def PySem.W.Fast.tw7291843743382004111 : Unit := ()
def PySem.W.Fast.tw15249566448392604426 : Unit := ()
def PySem.W.Fast.tw16587966744582420558 : Unit := ()
def PySem.W.Fast.tw9778062977559798531 : Unit := ()
def PySem.W.Fast.tw8991928534366233845 : Unit := ()
def PySem.W.Fast.tw13978717034527656758 : Unit := ()
def PySem.W.Fast.tw17618477146617158065 : Unit := ()
def PySem.W.Fast.tw4720865962347649176 : Unit := ()
def PySem.W.Fast.tw8196298034360782314 : Unit := ()
def PySem.W.Fast.tw15090927946315065295 : Unit := ()
def PySem.W.Fast.tw1193988365303294625 : Unit := ()
def PySem.W.Fast.tw6482250300779080747 : Unit := ()
def PySem.W.Fast.tw17324400639607297479 : Unit := ()
def PySem.W.Fast.tw7556012813054337945 : Unit := ()
def PySem.W.Fast.tw7965130520049470811 : Unit := ()
def PySem.W.Fast.tw7281154509204218300 : Unit := ()
def PySem.W.Fast.tw8351242737381376825 : Unit := ()
def PySem.W.Fast.tw11435432375405013797 : Unit := ()
def PySem.W.Fast.tw12932603461288444036 : Unit := ()
def PySem.W.Fast.tw1422808766637953773 : Unit := ()
def PySem.W.Fast.tw935364429516324447 : Unit := ()
def PySem.W.Fast.tw13516141364304467360 : Unit := ()
def PySem.W.Fast.tw6365048930532180627 : Unit := ()
def PySem.W.Fast.tw11724923043607199326 : Unit := ()
def PySem.W.Fast.tw18305451921846455628 : Unit := ()
def PySem.W.Fast.tw4050629590212031324 : Unit := ()
def PySem.W.Fast.tw4103052814211300630 : Unit := ()
def PySem.W.Fast.tw10600322995434887624 : Unit := ()
def PySem.W.Fast.tw2253301330225425874 : Unit := ()
def PySem.W.Fast.tw9987941531227246177 : Unit := ()
def PySem.W.Fast.tw11007422577363655488 : Unit := ()
def PySem.W.Fast.tw14785053965846688500 : Unit := ()
def PySem.W.Fast.tw9737269544581323067 : Unit := ()
def PySem.W.Fast.tw6457225143085738961 : Unit := ()
def PySem.W.Fast.tw7233572292063080198 : Unit := ()
def PySem.W.Fast.tw12182285869658640727 : Unit := ()
open PySem PySem.W PyProof.Rows
set_option maxRecDepth 100000 in
set_option maxHeartbeats 0 in
theorem PySem.Challenge.cw_benchends_k01_worlds_holds : PySem.Challenge.rw_benchends_k01_worlds.Holds := by
  w_on; o_law; k_head; (case hw => w_witness2)
  k_fill
  refine Be.walk (l := PySem.Challenge.rw_benchends_k01_worlds) rfl rfl (fun w h Y => PySem.W.kIn_of Y) rfl ?F
  case F =>
    intro w mg h KX G
    refine' Be.txt_mk KX G ?x_Watch ?pg_Watch ?hd_Watch ?po_Watch ?sa_Watch ?mk_Watch ?kc_Watch ?na_Watch_ended ?na_Watch_world ?a0 ?l0 ?c0 ?k0 ?a1 ?l1 ?c1 ?k1 ?a2 ?l2 ?c2 ?k2 ?a3 ?l3 ?c3 ?k3 ?a4 ?l4 ?c4 ?k4 ?a5 ?l5 ?c5 ?k5 ?a6 ?l6 ?c6 ?k6 ?a7 ?l7 ?c7 ?k7 ?a8 ?l8 ?c8 ?k8 ?a9 ?l9 ?c9 ?k9 ?a10 ?l10 ?c10 ?k10 ?a11 ?l11 ?c11 ?k11 ?a12 ?l12 ?c12 ?k12 ?a13 ?l13 ?c13 ?k13 ?a14 ?l14 ?c14 ?k14 ?a15 ?l15 ?c15 ?k15 ?a16 ?l16 ?c16 ?k16 ?a17 ?l17 ?c17 ?k17 ?a18 ?l18 ?c18 ?k18 ?a19 ?l19 ?c19 ?k19 ?a20 ?l20 ?c20 ?k20 ?a21 ?l21 ?c21 ?k21 ?a22 ?l22 ?c22 ?k22 ?a23 ?l23 ?c23 ?k23 ?a24 ?l24 ?c24 ?k24 ?a25 ?l25 ?c25 ?k25 ?a26 ?l26 ?c26 ?k26 ?a27 ?l27 ?c27 ?k27 ?a28 ?l28 ?c28 ?k28 ?a29 ?l29 ?c29 ?k29 ?a30 ?l30 ?c30 ?k30 ?a31 ?l31 ?c31 ?k31 ?a32 ?l32 ?c32 ?k32 ?a33 ?l33 ?c33 ?k33 ?a34 ?l34 ?c34 ?k34 ?a35 ?l35 ?c35 ?k35 ?a36 ?l36 ?c36 ?k36 ?a37 ?l37 ?c37 ?k37 ?a38 ?l38 ?c38 ?k38 ?a39 ?l39 ?c39 ?k39 ?a40 ?l40 ?c40 ?k40 ?a41 ?l41 ?c41 ?k41 ?a42 ?l42 ?c42 ?k42 ?a43 ?l43 ?c43 ?k43 ?a44 ?l44 ?c44 ?k44 ?a45 ?l45 ?c45 ?k45 ?a46 ?l46 ?c46 ?k46 ?a47 ?l47 ?c47 ?k47 ?a48 ?l48 ?c48 ?k48 ?a49 ?l49 ?c49 ?k49 ?a50 ?l50 ?c50 ?k50 ?a51 ?l51 ?c51 ?k51 ?a52 ?l52 ?c52 ?k52 ?a53 ?i53 ?l53 ?c53 ?k53 ?a54 ?i54 ?l54 ?c54 ?k54 ?a55 ?l55 ?c55 ?k55 ?a56 ?l56 ?c56 ?k56 ?a57 ?l57 ?c57 ?k57 ?a58 ?l58 ?c58 ?k58 ?a59 ?l59 ?c59 ?k59 ?a60 ?l60 ?c60 ?k60 ?a61 ?l61 ?c61 ?k61 ?a62 ?l62 ?c62 ?k62 ?a63 ?l63 ?c63 ?k63 ?a64 ?l64 ?c64 ?k64 ?a65 ?l65 ?c65 ?k65 ?z_ValueError ?z_all ?z_bool ?z_enumerate ?z_int ?z_isinstance ?z_len ?z_list ?z_max ?z_min ?z_range ?z_sorted ?z_str ?z_sum ?z_tuple ?z_zip ?x_MOST_BENCHES ?x_MOST_WORKS ?x_MOST_LENGTH ?x_MOST_NUMBER ?x_MOST_WORKS_OF_ALL_ORDERS ?x_BenchError ?q_BenchError ?x_NoWorld ?q_NoWorld ?x_NoOrder ?q_NoOrder ?x_NoLengths ?q_NoLengths ?x_NoWork ?q_NoWork ?x_NoSide ?q_NoSide ?x_Never ?q_Never ?x_TooMany ?q_TooMany ?x_NoStep ?q_NoStep ?v0_ga ?v0_gt ?v0_cl ?v0_mo ?v0_mb ?v0_is ?v0_0 ?v0_1 ?v0_2 ?v0_3 ?v0_4 ?v0_5 ?v0_6 ?v0_7 ?v0_ve ?v0_up ?v_ba
    (case x_Watch => k_is)
    (case pg_Watch => k_is)
    (case hd_Watch => k_is)
    (case po_Watch => k_is)
    (case sa_Watch => k_is)
    (case mk_Watch => k_is)
    (case kc_Watch => k_is)
    (case na_Watch_ended => k_is)
    (case na_Watch_world => k_is)
    (case a0 => k_is)
    (case l0 => k_is)
    (case c0 => k_is)
    (case k0 => k_is)
    (case a1 => k_is)
    (case l1 => k_is)
    (case c1 => k_is)
    (case k1 => k_is)
    (case a2 => k_is)
    (case l2 => k_is)
    (case c2 => k_is)
    (case k2 => k_is)
    (case a3 => k_is)
    (case l3 => k_is)
    (case c3 => k_is)
    (case k3 => k_is)
    (case a4 => k_is)
    (case l4 => k_is)
    (case c4 => k_is)
    (case k4 => k_is)
    (case a5 => k_is)
    (case l5 => k_is)
    (case c5 => k_is)
    (case k5 => k_is)
    (case a6 => k_is)
    (case l6 => k_is)
    (case c6 => k_is)
    (case k6 => k_is)
    (case a7 => k_is)
    (case l7 => k_is)
    (case c7 => k_is)
    (case k7 => k_is)
    (case a8 => k_is)
    (case l8 => k_is)
    (case c8 => k_is)
    (case k8 => k_is)
    (case a9 => k_is)
    (case l9 => k_is)
    (case c9 => k_is)
    (case k9 => k_is)
    (case a10 => k_is)
    (case l10 => k_is)
    (case c10 => k_is)
    (case k10 => k_is)
    (case a11 => k_is)
    (case l11 => k_is)
    (case c11 => k_is)
    (case k11 => k_is)
    (case a12 => k_is)
    (case l12 => k_is)
    (case c12 => k_is)
    (case k12 => k_is)
    (case a13 => k_is)
    (case l13 => k_is)
    (case c13 => k_is)
    (case k13 => k_is)
    (case a14 => k_is)
    (case l14 => k_is)
    (case c14 => k_is)
    (case k14 => k_is)
    (case a15 => k_is)
    (case l15 => k_is)
    (case c15 => k_is)
    (case k15 => k_is)
    (case a16 => k_is)
    (case l16 => k_is)
    (case c16 => k_is)
    (case k16 => k_is)
    (case a17 => k_is)
    (case l17 => k_is)
    (case c17 => k_is)
    (case k17 => k_is)
    (case a18 => k_is)
    (case l18 => k_is)
    (case c18 => k_is)
    (case k18 => k_is)
    (case a19 => k_is)
    (case l19 => k_is)
    (case c19 => k_is)
    (case k19 => k_is)
    (case a20 => k_is)
    (case l20 => k_is)
    (case c20 => k_is)
    (case k20 => k_is)
    (case a21 => k_is)
    (case l21 => k_is)
    (case c21 => k_is)
    (case k21 => k_is)
    (case a22 => k_is)
    (case l22 => k_is)
    (case c22 => k_is)
    (case k22 => k_is)
    (case a23 => k_is)
    (case l23 => k_is)
    (case c23 => k_is)
    (case k23 => k_is)
    (case a24 => k_is)
    (case l24 => k_is)
    (case c24 => k_is)
    (case k24 => k_is)
    (case a25 => k_is)
    (case l25 => k_is)
    (case c25 => k_is)
    (case k25 => k_is)
    (case a26 => k_is)
    (case l26 => k_is)
    (case c26 => k_is)
    (case k26 => k_is)
    (case a27 => k_is)
    (case l27 => k_is)
    (case c27 => k_is)
    (case k27 => k_is)
    (case a28 => k_is)
    (case l28 => k_is)
    (case c28 => k_is)
    (case k28 => k_is)
    (case a29 => k_is)
    (case l29 => k_is)
    (case c29 => k_is)
    (case k29 => k_is)
    (case a30 => k_is)
    (case l30 => k_is)
    (case c30 => k_is)
    (case k30 => k_is)
    (case a31 => k_is)
    (case l31 => k_is)
    (case c31 => k_is)
    (case k31 => k_is)
    (case a32 => k_is)
    (case l32 => k_is)
    (case c32 => k_is)
    (case k32 => k_is)
    (case a33 => k_is)
    (case l33 => k_is)
    (case c33 => k_is)
    (case k33 => k_is)
    (case a34 => k_is)
    (case l34 => k_is)
    (case c34 => k_is)
    (case k34 => k_is)
    (case a35 => k_is)
    (case l35 => k_is)
    (case c35 => k_is)
    (case k35 => k_is)
    (case a36 => k_is)
    (case l36 => k_is)
    (case c36 => k_is)
    (case k36 => k_is)
    (case a37 => k_is)
    (case l37 => k_is)
    (case c37 => k_is)
    (case k37 => k_is)
    (case a38 => k_is)
    (case l38 => k_is)
    (case c38 => k_is)
    (case k38 => k_is)
    (case a39 => k_is)
    (case l39 => k_is)
    (case c39 => k_is)
    (case k39 => k_is)
    (case a40 => k_is)
    (case l40 => k_is)
    (case c40 => k_is)
    (case k40 => k_is)
    (case a41 => k_is)
    (case l41 => k_is)
    (case c41 => k_is)
    (case k41 => k_is)
    (case a42 => k_is)
    (case l42 => k_is)
    (case c42 => k_is)
    (case k42 => k_is)
    (case a43 => k_is)
    (case l43 => k_is)
    (case c43 => k_is)
    (case k43 => k_is)
    (case a44 => k_is)
    (case l44 => k_is)
    (case c44 => k_is)
    (case k44 => k_is)
    (case a45 => k_is)
    (case l45 => k_is)
    (case c45 => k_is)
    (case k45 => k_is)
    (case a46 => k_is)
    (case l46 => k_is)
    (case c46 => k_is)
    (case k46 => k_is)
    (case a47 => k_is)
    (case l47 => k_is)
    (case c47 => k_is)
    (case k47 => k_is)
    (case a48 => k_is)
    (case l48 => k_is)
    (case c48 => k_is)
    (case k48 => k_is)
    (case a49 => k_is)
    (case l49 => k_is)
    (case c49 => k_is)
    (case k49 => k_is)
    (case a50 => k_is)
    (case l50 => k_is)
    (case c50 => k_is)
    (case k50 => k_is)
    (case a51 => k_is)
    (case l51 => k_is)
    (case c51 => k_is)
    (case k51 => k_is)
    (case a52 => k_is)
    (case l52 => k_is)
    (case c52 => k_is)
    (case k52 => k_is)
    (case a53 => k_is)
    (case i53 => k_is)
    (case l53 => k_is)
    (case c53 => k_is)
    (case k53 => k_is)
    (case a54 => k_is)
    (case i54 => k_is)
    (case l54 => k_is)
    (case c54 => k_is)
    (case k54 => k_is)
    (case a55 => k_is)
    (case l55 => k_is)
    (case c55 => k_is)
    (case k55 => k_is)
    (case a56 => k_is)
    (case l56 => k_is)
    (case c56 => k_is)
    (case k56 => k_is)
    (case a57 => k_is)
    (case l57 => k_is)
    (case c57 => k_is)
    (case k57 => k_is)
    (case a58 => k_is)
    (case l58 => k_is)
    (case c58 => k_is)
    (case k58 => k_is)
    (case a59 => k_is)
    (case l59 => k_is)
    (case c59 => k_is)
    (case k59 => k_is)
    (case a60 => k_is)
    (case l60 => k_is)
    (case c60 => k_is)
    (case k60 => k_is)
    (case a61 => k_is)
    (case l61 => k_is)
    (case c61 => k_is)
    (case k61 => k_is)
    (case a62 => k_is)
    (case l62 => k_is)
    (case c62 => k_is)
    (case k62 => k_is)
    (case a63 => k_is)
    (case l63 => k_is)
    (case c63 => k_is)
    (case k63 => k_is)
    (case a64 => k_is)
    (case l64 => k_is)
    (case c64 => k_is)
    (case k64 => k_is)
    (case a65 => k_is)
    (case l65 => k_is)
    (case c65 => k_is)
    (case k65 => k_is)
    (case z_ValueError => k_is)
    (case z_all => k_is)
    (case z_bool => k_is)
    (case z_enumerate => k_is)
    (case z_int => k_is)
    (case z_isinstance => k_is)
    (case z_len => k_is)
    (case z_list => k_is)
    (case z_max => k_is)
    (case z_min => k_is)
    (case z_range => k_is)
    (case z_sorted => k_is)
    (case z_str => k_is)
    (case z_sum => k_is)
    (case z_tuple => k_is)
    (case z_zip => k_is)
    (case x_MOST_BENCHES => k_is)
    (case x_MOST_WORKS => k_is)
    (case x_MOST_LENGTH => k_is)
    (case x_MOST_NUMBER => k_is)
    (case x_MOST_WORKS_OF_ALL_ORDERS => k_is)
    (case x_BenchError => k_is)
    (case q_BenchError => k_exc)
    (case x_NoWorld => k_is)
    (case q_NoWorld => k_exc)
    (case x_NoOrder => k_is)
    (case q_NoOrder => k_exc)
    (case x_NoLengths => k_is)
    (case q_NoLengths => k_exc)
    (case x_NoWork => k_is)
    (case q_NoWork => k_exc)
    (case x_NoSide => k_is)
    (case q_NoSide => k_exc)
    (case x_Never => k_is)
    (case q_Never => k_exc)
    (case x_TooMany => k_is)
    (case q_TooMany => k_exc)
    (case x_NoStep => k_is)
    (case q_NoStep => k_exc)
    (case v0_ga => k_is)
    (case v0_gt => k_is)
    (case v0_cl => k_is)
    (case v0_mo => k_is)
    (case v0_mb => k_is)
    (case v0_is => k_is)
    (case v0_0 => kit_is)
    (case v0_1 => kit_is)
    (case v0_2 => kit_is)
    (case v0_3 => kit_is)
    (case v0_4 => kit_is)
    (case v0_5 => kit_is)
    (case v0_6 => kit_is)
    (case v0_7 => kit_is)
    (case v0_ve => kit_is)
    (case v0_up => k_is)
    (case v_ba => k_is)
