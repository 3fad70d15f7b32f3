import PyProof.Rows.All
import Wide.All
import OpenK.AllK
import Wide.FinOn
import Lean
import PyProof.EqAt
import PyProof.EqKinds
import PyProof.TupleCall
import PyProof.Rows.EqDataRows
import PyProof.ConsumeWalk
import PyProof.ZipIter
import KE.RegKIsAll
import PyProof.Rows.MinMaxN
import PyProof.SumWalk
import KE.KTupSum
import PyProof.Rows.SortWalk
import PyProof.CompUse
import PyProof.EnumMake
import KE.KSortTup
import PyProof.ListRange
import PyProof.DictWalks
import PyProof.CollectIter
import PyProof.ListMulRoad
import PyProof.FactsAll.tuple
import PyProof.CallStr
import PyProof.Conv_int_bool
import PySem.Challenge.RW_benchends_k04_whole_by_lengths
set_option genSizeOf false
set_option Elab.async false
set_option linter.all false
set_option maxRecDepth 100000
/-! THE HAND LAYER, for ints, bools, texts, own classes, LISTS and tuples (index, slices, in, append, pop ..), calls, loops. Paste it whole ahead of your own text; what your proof does not reach may be deleted. -/
namespace L2
open PySem PySem.Spec PyProof.Rows

/-- a key: an int or a str -/
abbrev Key := Sum Int Str
def keyIs : Key → Value → Bool
  | .inl k, v => Value.isInt k v
  | .inr x, v => Value.isStrOf x v
def keyH (w : World) : Key → Int
  | .inl k => hashInt k
  | .inr x => hashStr w x
theorem keyIs_shape : ∀ {k : Key} {v : Value}, keyIs k v = true → (∃ i t, k = Sum.inl i ∧ v = Value.int i t) ∨ (∃ x t, k = Sum.inr x ∧ v = Value.str x t)
  | .inl i, v, h => by
    obtain ⟨t, e⟩ := Value.isInt_shape (k := i) (v := v) h
    exact .inl ⟨i, t, rfl, e⟩
  | .inr x, v, h => by
    obtain ⟨t, e⟩ := Value.isStrOf_shape (x := x) (v := v) h
    exact .inr ⟨x, t, rfl, e⟩
theorem keyIs_int (i : Int) (t : Tok) : keyIs (.inl i) (.int i t) = true := by simp [keyIs, Value.isInt]
theorem keyIs_str (x : Str) (t : Tok) : keyIs (.inr x) (.str x t) = true := by simp [keyIs, Value.isStrOf]
theorem key_ll (a b : Int) : decide ((Sum.inl a : Key) = Sum.inl b) = (a == b) := by
  by_cases e : a = b
  · subst e; simp
  · have h : ¬ (Sum.inl a : Key) = Sum.inl b := fun q => e (Sum.inl.inj q)
    rw [decide_eq_false h]
    exact (beq_eq_false_iff_ne.mpr e).symm
theorem key_rr (a b : Str) : decide ((Sum.inr a : Key) = Sum.inr b) = decide (a = b) := by
  by_cases e : a = b
  · subst e; simp
  · have h : ¬ (Sum.inr a : Key) = Sum.inr b := fun q => e (Sum.inr.inj q)
    rw [decide_eq_false h, decide_eq_false e]
theorem key_lr (a : Int) (b : Str) : decide ((Sum.inl a : Key) = Sum.inr b) = false := decide_eq_false (fun q => nomatch q)
theorem key_rl (a : Str) (b : Int) : decide ((Sum.inr a : Key) = Sum.inl b) = false := decide_eq_false (fun q => nomatch q)

def mixKind (prog : Program) (w : World) : PySem.KeyKind prog w Key where
  is := keyIs
  hash := keyH w
  inj := fun v a b ha hb => by
    rcases keyIs_shape ha with ⟨i, t, rfl, rfl⟩ | ⟨x, t, rfl, rfl⟩
    · rcases keyIs_shape hb with ⟨j, u, rfl, e⟩ | ⟨y, u, rfl, e⟩
      · injection e with e1 _; rw [e1]
      · exact nomatch e
    · rcases keyIs_shape hb with ⟨j, u, rfl, e⟩ | ⟨y, u, rfl, e⟩
      · exact nomatch e
      · injection e with e1 _; rw [e1]
  byValue := fun k v h => by
    rcases keyIs_shape h with ⟨i, t, rfl, rfl⟩ | ⟨x, t, rfl, rfl⟩ <;> rfl
  pyHash := fun hv h => by
    rcases keyIs_shape hv with ⟨i, t, rfl, rfl⟩ | ⟨x, t, rfl, rfl⟩
    · exact wpAny_pyHash_int h
    · exact wpAny_pyHash_str h
  eqBool := fun hu hv h => by
    rcases keyIs_shape hu with ⟨i, t, rfl, rfl⟩ | ⟨x, t, rfl, rfl⟩
    · rcases keyIs_shape hv with ⟨j, u, rfl, rfl⟩ | ⟨y, u, rfl, rfl⟩
      · rw [key_ll] at h; exact wpAny_eqBool_int h
      · rw [key_lr] at h; exact SeqAt.EqAt.int_str i t y u _ _ _ _ h
    · rcases keyIs_shape hv with ⟨j, u, rfl, rfl⟩ | ⟨y, u, rfl, rfl⟩
      · rw [key_rl] at h; exact SeqAt.EqAt.str_int x t j u _ _ _ _ h
      · rw [key_rr] at h; exact wpAny_eqBool_str h
  «strs» := fun k x t v h => by
    rcases keyIs_shape h with ⟨i, u, rfl, e⟩ | ⟨y, u, rfl, e⟩
    · exact nomatch e
    · injection e with e1 _
      subst e1
      cases v <;> rfl

theorem mixKind_int (prog : Program) (w : World) (i : Int) (t : Tok) : (mixKind prog w).is (.inl i) (.int i t) = true := keyIs_int i t
theorem mixKind_str (prog : Program) (w : World) (x : Str) (t : Tok) : (mixKind prog w).is (.inr x) (.str x t) = true := keyIs_str x t
end L2

namespace L2
open PySem PySem.Spec PyProof.Rows

/-- a value, without the heap -/
inductive V where
  | non | bl (b : Bool) | int (i : Int) | str (x : Str) | byt (b : Array UInt8) | flt (b : UInt64) | ref (a : Addr) | ty (n : String)
  deriving DecidableEq

def RelV : V → Value → Prop
  | .non, u => u = Value.none
  | .bl b, u => u = Value.bool b
  | .int i, u => ∃ t, u = Value.int i t
  | .str x, u => ∃ t, u = Value.str x t
  | .byt b, u => ∃ t, u = Value.bytes b t
  | .flt b, u => ∃ t, u = Value.float b t
  | .ref a, u => u = Value.ref a
  | .ty n, u => u = Value.type n

abbrev Vals : List V → List Value → Prop := Paired RelV
theorem Vals.length {xs : List V} {us : List Value} (r : Vals xs us) : xs.length = us.length := Paired.length r
theorem Vals.get : ∀ {xs : List V} {us : List Value} {i : Nat} {x : V}, Vals xs us → xs[i]? = some x → ∃ u, us[i]? = some u ∧ RelV x u
  | _, _, _, _, .nil, e => by simp at e
  | _, _, 0, _, .cons r _, e => by simp at e; subst e; exact ⟨_, rfl, r⟩
  | _, _, i + 1, x, .cons _ t, e => by
    obtain ⟨u, h1, h2⟩ := Vals.get (i := i) (x := x) t (by simpa using e)
    exact ⟨u, by simpa using h1, h2⟩
theorem Vals.set {x : V} {u : Value} (r : RelV x u) : ∀ {xs : List V} {us : List Value} (i : Nat), Vals xs us → Vals (xs.set i x) (us.set i u)
  | _, _, _, .nil => .nil
  | _, _, 0, .cons _ t => .cons r t
  | _, _, i + 1, .cons q t => .cons q (Vals.set r i t)
theorem Vals.append : ∀ {xs ys : List V} {us ws : List Value}, Vals xs us → Vals ys ws → Vals (xs ++ ys) (us ++ ws)
  | _, _, _, _, .nil, s => s
  | _, _, _, _, .cons r t, s => .cons r (Vals.append t s)
theorem Vals.take : ∀ {xs : List V} {us : List Value} (n : Nat), Vals xs us → Vals (xs.take n) (us.take n)
  | _, _, 0, _ => .nil
  | _, _, _ + 1, .nil => .nil
  | _, _, n + 1, .cons r t => .cons r (Vals.take n t)
theorem Vals.drop : ∀ {xs : List V} {us : List Value} (n : Nat), Vals xs us → Vals (xs.drop n) (us.drop n)
  | _, _, 0, r => r
  | _, _, _ + 1, .nil => .nil
  | _, _, n + 1, .cons _ t => Vals.drop n t
def RelO : Option V → Option Value → Prop
  | some v, some u => RelV v u
  | none, none => True
  | _, _ => False
def KV {κ : Type} : List (κ × V) → List (κ × Value) → Prop := Paired fun (p : κ × V) (q : κ × Value) => p.1 = q.1 ∧ RelV p.2 q.2

/-- a key of a dict (00_mix): an int or a text -/
def kV : Key → V
  | .inl i => .int i
  | .inr x => .str x

/-- what stands at a tracked address -/
inductive HO where
  /-- a list -/
  | lst (xs : List V)
  /-- a tuple (never changes) -/
  | tup (xs : List V)
  /-- a dict whose keys are ints and texts; one whose keys are tuples of ints and texts (the empty one is both) -/
  | dK (kvs : List (Key × V)) | dT (kvs : List (List Key × V))
  /-- a set of ints: its members, its size -/
  | set (S : Int → Bool) (n : Nat)
  /-- an instance of the class at C, its dict at dx, its attributes -/
  | ins (C dx : Addr) (fs : List (Str × V))
  /-- the dict of the instance at x -/
  | own (x : Addr)
  /-- the dict of an exception -/
  | xd (fs : List (Str × V))
  /-- a bound method, f of x -/
  | met (f x : Addr)
  /-- a range object lo, lo + 1, .. below hi -/
  | rng (lo hi : Int)
  /-- a thing that is known to the object (the script; a dict while a loop walks it): read, never written while it is so -/
  | frz (o : Obj) (u : HO)
  /-- a code object's table -/
  | tbl (ps : Array Value)
  /-- any other thing, by what is true of its one object (a def of one's own: SetO a S n := HO.ext fun h => ..) -/
  | ext (φ : Heap → Prop)

abbrev Hp := Addr → Option HO
def upd (H : Hp) (a : Addr) (o : HO) : Hp := fun b => if b = a then some o else H b
theorem upd_same {H : Hp} {a : Addr} {o : HO} : upd H a o a = some o := by unfold upd; rw [if_pos rfl]
theorem upd_ne {H : Hp} {a b : Addr} {o : HO} (h : b ≠ a) : upd H a o b = H b := by unfold upd; rw [if_neg h]
/-- two objects of different content stand apart -/
theorem ne_of {H : Hp} {a b : Addr} {o u : HO} (h : H a = some o) (h' : H b = some u) (d : o ≠ u) : a ≠ b := by
  intro e; subst e; rw [h] at h'; exact d (Option.some.inj h')
theorem ne_of_none {H : Hp} {a b : Addr} {o : HO} (h : H a = some o) (h' : H b = none) : a ≠ b := by
  intro e; subst e; rw [h] at h'; cases h'

section
variable (P : Program) (w : World)
def TupP (h : Heap) (a : Addr) (items : Array Value) : Prop := ∃ o, h.get? a = some o ∧ o.cls = .type "tuple" ∧ o.dict = none ∧ ∃ n, o.data = .seq items n
theorem TupP.t {h : Heap} {a : Addr} {items : Array Value} (p : TupP h a items) : IsTup h a items := let ⟨o, e, c, _, n, d⟩ := p; ⟨o, e, c, n, d⟩
theorem TupP.new (h : Heap) (items : Array Value) : TupP (h.push { cls := .type "tuple", data := .seq items }) h.objs.size items := ⟨_, Heap.get?_push_size _ rfl, rfl, rfl, 0, rfl⟩
def ObjOk (H : Hp) (h : Heap) (a : Addr) : HO → Prop
  | .lst xs => xs.length ≤ sizeLine ∧ ∃ (its : List Value) (n : Nat), Vals xs its ∧ h.get? a = some { cls := .type "list", data := .seq its.toArray n }
  | .tup xs => xs.length ≤ sizeLine ∧ ∃ its : List Value, Vals xs its ∧ TupP h a its.toArray
  | .dK kvs => kvs.length ≤ sizeLine ∧ (a == sysModules) = false ∧ ∃ vs, KV kvs vs ∧ h.DictOf (mixKind P w) a vs
  | .dT kvs => kvs.length ≤ sizeLine ∧ (a == sysModules) = false ∧ ∃ xs : List (List Key × Addr × Value),
      Paired (fun (p : List Key × V) (q : List Key × Addr × Value) => p.1 = q.1 ∧ H q.2.1 = some (.tup (p.1.map kV)) ∧ RelV p.2 q.2.2) kvs xs ∧
      ∃ o es ep, h.get? a = some o ∧ o.ExactDict ∧ o.data = .dict es ep ∧ es.toList = xs.map (entryOfKey (tupleKind (mixKind P w))) ∧ (xs.map (·.1)).Nodup
  | .set S n => h.SetOf (intKind P w) a S n
  | .ins C dx fs => H dx = some (.own a) ∧ fs.length ≤ 1000 ∧ dx ≠ a ∧ h.get? a = some (PySem.W.instObj C dx) ∧
      ∃ mA, h.Ns1 dx mA ∧ (∀ f, RelO (fs.lookup f) (mA f)) ∧ PySem.Within mA (fs.map (·.1))
  | .own _ => ∃ o, h.get? a = some o
  | .xd fs => ∃ mA, h.Ns1 a mA ∧ ∀ f, RelO (fs.lookup f) (mA f)
  | .rng lo hi => ∃ t u v, h.get? a = some { cls := .type "range", data := .fields #[.int lo t, .int hi u, .int 1 v] }
  | .frz o u => h.get? a = some o ∧ ObjOk H h a u
  | .tbl ps => h.get? a = some { cls := .none, data := .fields ps }
  | .met f x => h.get? a = some (PySem.W.methodObj (.ref f) (.ref x))
  | .ext φ => φ h ∧ (∃ o, h.get? a = some o) ∧ ∀ h1 h2 : Heap, φ h1 → (∀ o, h1.get? a = some o → h2.get? a = some o) → φ h2
/-- the abstract heap is held -/
def HOk (H : Hp) (h : Heap) : Prop := ∀ a o, H a = some o → ObjOk P w H h a o
end

section
variable {P : Program} {w : World} {H H' : Hp} {h h' : Heap} {a : Addr} {o : HO}
theorem ObjOk.lt (x : ObjOk P w H h a o) : a < h.objs.size := by
  cases o with
  | lst xs => obtain ⟨_, _, _, _, e⟩ := x; exact Heap.lt_size e
  | tup xs => obtain ⟨_, _, _, p⟩ := x; exact p.t.lt
  | dK kvs => obtain ⟨_, _, _, _, o, _, _, e, _⟩ := x; exact Heap.lt_size e
  | dT kvs => obtain ⟨_, _, _, _, o, _, _, e, _⟩ := x; exact Heap.lt_size e
  | set S n => obtain ⟨o, _, _, _, e, _⟩ := x; exact Heap.lt_size e
  | ins C dx fs => obtain ⟨_, _, _, e, _⟩ := x; exact Heap.lt_size e
  | own y => obtain ⟨_, e⟩ := x; exact Heap.lt_size e
  | xd fs => obtain ⟨_, ⟨_, _, _, e, _⟩, _⟩ := x; exact Heap.lt_size e
  | rng lo hi => obtain ⟨_, _, _, e⟩ := x; exact Heap.lt_size e
  | frz ob u => obtain ⟨e, _⟩ := x; exact Heap.lt_size e
  | tbl ps => exact Heap.lt_size (show h.get? a = some _ from x)
  | met f y => exact Heap.lt_size (show h.get? a = some _ from x)
  | ext φ => obtain ⟨_, ⟨_, e⟩, _⟩ := x; exact Heap.lt_size e
theorem Paired.mapP {α β : Type} {F G : α → β → Prop} : ∀ {l₁ : List α} {l₂ : List β}, Paired F l₁ l₂ → (∀ a b, F a b → G a b) → Paired G l₁ l₂
  | _, _, .nil, _ => .nil
  | _, _, .cons r t, f => .cons (f _ _ r) (Paired.mapP t f)
/-- what an object's description leans on: its own object, its own dict, the tuples -/
theorem ObjOk.stay (x : ObjOk P w H h a o) (k : ∀ b u, (b = a ∨ H b = some (.own a)) → h.get? b = some u → h'.get? b = some u)
    (ho : ∀ b, H b = some (.own a) → H' b = some (.own a)) (ht : ∀ b xs, H b = some (.tup xs) → H' b = some (.tup xs)) : ObjOk P w H' h' a o := by
  induction o with
  | lst xs => obtain ⟨z, its, n, r, e⟩ := x; exact ⟨z, its, n, r, k _ _ (.inl rfl) e⟩
  | tup xs => obtain ⟨z, its, r, ob, e, c⟩ := x; exact ⟨z, its, r, ob, k _ _ (.inl rfl) e, c⟩
  | dK kvs => obtain ⟨z, y, vs, r, ob, es, ep, e, c⟩ := x; exact ⟨z, y, vs, r, ob, es, ep, k _ _ (.inl rfl) e, c⟩
  | dT kvs =>
    obtain ⟨z, y, xs, r, ob, es, ep, e, c⟩ := x
    exact ⟨z, y, xs, Paired.mapP r fun p q z => ⟨z.1, ht _ _ z.2.1, z.2.2⟩, ob, es, ep, k _ _ (.inl rfl) e, c⟩
  | set S n => obtain ⟨ob, es, ep, t, e, c⟩ := x; exact ⟨ob, es, ep, t, k _ _ (.inl rfl) e, c⟩
  | ins C dx fs =>
    obtain ⟨d, z, ne, e, mA, ⟨od, es, ep, e2, c⟩, r⟩ := x
    exact ⟨ho _ d, z, ne, k _ _ (.inl rfl) e, mA, ⟨od, es, ep, k _ _ (.inr d) e2, c⟩, r⟩
  | own y => obtain ⟨ob, e⟩ := x; exact ⟨ob, k _ _ (.inl rfl) e⟩
  | xd fs => obtain ⟨mA, ⟨od, es, ep, e, c⟩, r⟩ := x; exact ⟨mA, ⟨od, es, ep, k _ _ (.inl rfl) e, c⟩, r⟩
  | rng lo hi => obtain ⟨t, u, v, e⟩ := x; exact ⟨t, u, v, k _ _ (.inl rfl) e⟩
  | frz ob u ih => obtain ⟨e, q⟩ := x; exact ⟨k _ _ (.inl rfl) e, ih q⟩
  | tbl ps =>
    have e : h.get? a = some { cls := .none, data := .fields ps } := x
    show h'.get? a = some { cls := .none, data := .fields ps }
    exact k a _ (.inl rfl) e
  | met f y =>
    have e : h.get? a = some (PySem.W.methodObj (.ref f) (.ref y)) := x
    show h'.get? a = some (PySem.W.methodObj (.ref f) (.ref y))
    exact k a _ (.inl rfl) e
  | ext φ => obtain ⟨p, ⟨o, e⟩, st⟩ := x; exact ⟨st _ _ p fun o q => k _ _ (.inl rfl) q, ⟨o, k _ _ (.inl rfl) e⟩, st⟩
theorem HOk.lt (x : HOk P w H h) (e : H a = some o) : a < h.objs.size := (x a o e).lt
theorem HOk.fresh (x : HOk P w H h) (e : h.objs.size ≤ a) : H a = none := by
  cases q : H a with
  | none => rfl
  | some u => exact absurd (Nat.lt_of_lt_of_le (x.lt q) e) (Nat.lt_irrefl _)
/-- every object of the heap is kept -/
theorem HOk.kept (x : HOk P w H h) (k : ∀ b u, h.get? b = some u → h'.get? b = some u) : HOk P w H h' := fun a o e =>
  (x a o e).stay (fun b u _ q => k b u q) (fun _ q => q) fun _ _ q => q
/-- a new object is laid and tracked -/
theorem HOk.laid (x : HOk P w H h) (k : ∀ b u, h.get? b = some u → h'.get? b = some u) (hp : h.objs.size ≤ a) (new : ObjOk P w (upd H a o) h' a o) : HOk P w (upd H a o) h' := fun b u e => by
  have hn := x.fresh hp
  by_cases hb : b = a
  · subst hb; rw [upd_same] at e; cases e; exact new
  · rw [upd_ne hb] at e
    exact (x b u e).stay (fun c v _ q => k c v q) (fun c q => by rw [upd_ne (ne_of_none q hn)]; exact q) fun c xs q => by rw [upd_ne (ne_of_none q hn)]; exact q
end

/-- what may be read as u: it is u, or a known u -/
def Rd (H : Hp) (a : Addr) (u : HO) : Prop := H a = some u ∨ ∃ o, H a = some (.frz o u)
theorem Rd.ok {P : Program} {w : World} {H : Hp} {h : Heap} {a : Addr} {u : HO} (r : Rd H a u) (x : HOk P w H h) : ObjOk P w H h a u := by
  rcases r with r | ⟨o, r⟩
  · exact x a u r
  · obtain ⟨_, q⟩ := x a _ r
    exact q
/-- what may be written -/
def Mut : Option HO → Prop
  | some (.lst _) => True
  | some (.dK _) => True
  | some (.dT _) => True
  | some (.set _ _) => True
  | some (.ins _ _ _) => True
  | some (.ext _) => True
  | _ => False
section
variable {P : Program} {w : World} {H : Hp} {h h' : Heap} {x e : Addr} {o' : HO}
/-- the object at e is changed: x itself, or the dict of the instance x -/
theorem HOk.write (ok : HOk P w H h) (mu : Mut (H x)) (he : e = x ∨ H e = some (.own x)) (k : ∀ b u, b ≠ e → h.get? b = some u → h'.get? b = some u) (heo : ∃ u, h'.get? e = some u)
    (new : ObjOk P w (upd H x o') h' x o') : HOk P w (upd H x o') h' := fun b u q => by
  have nown : ∀ c y, H c = some (.own y) → c ≠ x := fun c y r z => by subst z; rw [r] at mu; exact mu
  have ntup : ∀ c xs, H c = some (.tup xs) → c ≠ x := fun c xs r z => by subst z; rw [r] at mu; exact mu
  by_cases hb : b = x
  · subst hb; rw [upd_same] at q; cases q; exact new
  · rw [upd_ne hb] at q
    by_cases hbe : b = e
    · have q' : H b = some (.own x) := by
        rcases he with z | z
        · exact absurd (hbe.trans z) hb
        · rw [hbe]; exact z
      rw [q] at q'; cases q'
      obtain ⟨v, hv⟩ := heo
      exact ⟨v, by rw [hbe]; exact hv⟩
    · refine (ok b u q).stay (fun c v hc r => k c v ?_ r) (fun c r => by rw [upd_ne (nown c b r)]; exact r) fun c xs r => by rw [upd_ne (ntup c xs r)]; exact r
      rcases hc with rfl | hc
      · exact hbe
      · rintro rfl
        rcases he with z | z
        · exact nown c b hc z
        · rw [hc] at z; cases z; exact hb rfl
end

/-! ### kept unless tracked; of the frames at fs (the callers') the slots may change (an exception that passes writes there); of the records at ex (iterators) nothing is said -/
structure Un (fs ex : List Addr) (H H' : Hp) (h h' : Heap) : Prop where
  keep : ∀ b o, h.get? b = some o → H b = none → b ∉ fs → b ∉ ex → h'.get? b = some o
  slot : ∀ b o, h.get? b = some o → H b = none → b ∈ fs → b ∉ ex → ∃ sl, h'.get? b = some { o with slots := sl }
  free : ∀ b o, h.get? b = some o → H b = none → b ∉ ex → H' b = none
  there : ∀ b o, h.get? b = some o → b ∉ ex → ∃ o', h'.get? b = some o'
  tups : ∀ b xs, H b = some (.tup xs) → H' b = some (.tup xs)
  frzs : ∀ b o u, H b = some (.frz o u) → H' b = some (.frz o u)
  tbls : ∀ b ps, H b = some (.tbl ps) → ∃ more, H' b = some (.tbl (ps ++ more))
section
variable {fs fs' ex ex' : List Addr} {H H1 H2 : Hp} {h h1 h2 h' : Heap} {a x e : Addr} {o : HO}
theorem Un.any (u : Un fs ex H H1 h h1) {b : Addr} {ob : Obj} (q : h.get? b = some ob) (n : H b = none) (hx : b ∉ ex) : ∃ sl, h1.get? b = some { ob with slots := sl } := by
  by_cases hb : b ∈ fs
  · exact u.slot b ob q n hb hx
  · exact ⟨ob.slots, u.keep b ob q n hb hx⟩
theorem Un.kept (k : ∀ b u, h.get? b = some u → h'.get? b = some u) : Un fs ex H H h h' :=
  ⟨fun b ob q _ _ _ => k b ob q, fun b ob q _ _ _ => ⟨ob.slots, k b ob q⟩, fun _ _ _ n _ => n, fun b ob q _ => ⟨ob, k b ob q⟩, fun _ _ q => q, fun _ _ _ q => q, fun _ ps q => ⟨#[], by rw [q]; simp⟩⟩
theorem Un.refl : Un fs ex H H h h := Un.kept fun _ _ q => q
theorem Un.laid (k : ∀ b u, h.get? b = some u → h'.get? b = some u) (hp : h.objs.size ≤ a) (hn : H a = none) : Un fs ex H (upd H a o) h h' where
  keep := fun b u q _ _ _ => k b u q
  slot := fun b u q _ _ _ => ⟨u.slots, k b u q⟩
  free := fun b u q n _ => by rw [upd_ne (Nat.ne_of_lt (Nat.lt_of_lt_of_le (Heap.lt_size q) hp))]; exact n
  there := fun b u q _ => ⟨u, k b u q⟩
  tups := fun b xs q => by rw [upd_ne (ne_of_none q hn)]; exact q
  frzs := fun b u xs q => by rw [upd_ne (ne_of_none q hn)]; exact q
  tbls := fun b ps q => ⟨#[], by rw [upd_ne (ne_of_none q hn), q]; simp⟩
theorem Un.write (mu : Mut (H x)) (he : e = x ∨ H e = some (.own x)) (k : ∀ b u, b ≠ e → h.get? b = some u → h'.get? b = some u) (heo : ∃ u, h'.get? e = some u) : Un fs ex H (upd H x o) h h' := by
  have hx : ∀ b, H b = none → b ≠ x := fun b n z => by subst z; rw [n] at mu; exact mu
  have hb : ∀ b, H b = none → b ≠ e := fun b n z => by
    subst z
    rcases he with r | r
    · exact hx b n r
    · rw [n] at r; cases r
  have hm : ∀ b u, H b = some u → ¬ Mut (some u) → b ≠ x := fun b u q nm z => by subst z; rw [q] at mu; exact nm mu
  refine ⟨fun b u q n _ _ => k b u (hb b n) q, fun b u q n _ _ => ⟨u.slots, k b u (hb b n) q⟩, fun b u q n _ => by rw [upd_ne (hx b n)]; exact n, fun b u q _ => ?_,
    fun b xs q => by rw [upd_ne (hm b _ q fun z => z)]; exact q, fun b u xs q => by rw [upd_ne (hm b _ q fun z => z)]; exact q, fun b ps q => ⟨#[], by rw [upd_ne (hm b _ q fun z => z), q]; simp⟩⟩
  by_cases hbe : b = e
  · subst hbe; exact heo
  · exact ⟨u, k b u hbe q⟩
end

/-! ### the heap without what is tracked -/
def trk (h : Heap) (H : Hp) : List Addr := (List.range h.objs.size).filter fun a => (H a).isSome
def hidT (h : Heap) (H : Hp) : Heap := PySem.W.hideAll h (trk h H)
theorem hidT_size (h : Heap) (H : Hp) : (hidT h H).objs.size = h.objs.size := PySem.W.hideAll_size _ _
theorem hidT_get {h : Heap} {H : Hp} {b : Addr} {o : Obj} (e : h.get? b = some o) (n : H b = none) : (hidT h H).get? b = some o :=
  PySem.W.hideAll_get _ e fun hm => by
    have q : (H b).isSome = true := (List.mem_filter.mp hm).2
    rw [n] at q; simp at q
theorem of_hidT {h : Heap} {H : Hp} {b : Addr} {o : Obj} (e : (hidT h H).get? b = some o) : h.get? b = some o ∧ H b = none := by
  have e' : h.get? b = some o := PySem.W.of_hideAll (trk h H) e
  refine ⟨e', ?_⟩
  cases q : H b with
  | none => rfl
  | some x =>
    have hm : b ∈ trk h H := List.mem_filter.mpr ⟨List.mem_range.mpr (Heap.lt_size e'), by simp [q]⟩
    have z : (hidT h H).get? b = none := PySem.W.hideAll_none (trk h H) hm
    rw [z] at e; cases e

/-! ### OpenK's ledger, filled with every new object but one -/
end L2

namespace L2
open PySem PySem.Spec PyProof.Rows

/-- the module's facts, over the base: the heap at the law's entry without what is tracked there -/
structure Mod (K : PySem.W.Frag) (mg : Str → Option Value) (base : Heap) : Prop where
  kin : K.In base
  glob : base.Ns mainGlobals mg
  blt : ∃ mb, base.Ns builtinsNs mb ∧ ∀ x : Str, x ≠ "__name__" → mb x = bootBuiltins x
  nolimit : base.NoLimit

/-- the context: a def's body (or a comprehension's block) running. base: fixed through the whole law; s₀, H₀: the entry; outer: the frames whose slots others may change (a def's callers); stack: all frames that run;
   ex: iterators that were made ahead of the entry and are walked here (a comprehension's); fn: the names whose cells were made at the entry (a def: all; a comprehension's block: its own); calm: not within an except suite; pn: pins that every state bears; xe: what is wanted of an exception that leaves the code -/
structure Cx where
  prog : Program
  w : World
  K : PySem.W.Frag
  mg : Str → Option Value
  base : Heap
  A : Around
  N : List Str
  s₀ : Shared
  H₀ : Hp
  env : Env
  outer : List Env
  stack : List Env
  ex : List Addr
  fn : Str → Bool
  calm : Bool
  pn : List (Addr × Obj)
  xe : Value → Shared → Prop
/-- the callers' frames -/
def frs (l : List Env) : List Addr := l.filterMap (·.frame)
abbrev Cx.fs (X : Cx) : List Addr := frs X.outer

def Vis (sc : Scope) (x : Str) : Prop := sc.names.lookup x = some .local ∨ sc.names.lookup x = some .cell ∨ sc.names.lookup x = some .free
def Loc (sc : Scope) (x : Str) : Prop := sc.names.lookup x = some .local ∨ sc.names.lookup x = some .cell
def Look (env : Env) (h : Heap) (m : Str → Option Value) (x : Str) (u : Value) : Prop :=
  (env.kindOf x = some .local ∧ m x = some u) ∨ ((env.kindOf x = some .cell ∨ env.kindOf x = some .free) ∧ ∃ c, env.cells.lookup x = some c ∧ h.IsCell c (some u))

structure Cx.Ok (X : Cx) : Prop where
  mod : Mod X.K X.mg X.base
  kind : X.env.scope.kind = .function
  glob : X.env.globals = mainGlobals
  blt : X.env.builtins = builtinsNs
  above : X.s₀.heap.objs.size ≤ X.env.locals
  inj : ∀ x y c, X.env.cells.lookup x = some c → X.env.cells.lookup y = some c → x = y
  has : ∀ x, (X.env.kindOf x = some .cell ∨ X.env.kindOf x = some .free) → ∃ c, X.env.cells.lookup x = some c
  cab : ∀ x c, X.fn x = true → X.env.cells.lookup x = some c → X.s₀.heap.objs.size ≤ c
  hd : X.calm = true → X.A.handled = none
  frames : X.A.frames = some X.stack
  stk : X.stack = X.outer ∨ (X.stack = X.env :: X.outer ∧ X.env.frame = some X.env.locals)
  exf : ∀ b ∈ X.ex, b ≠ X.env.locals ∧ ∀ x c, X.env.cells.lookup x = some c → c ≠ b
  bs : ∀ b o, X.base.get? b = some o → X.s₀.heap.get? b = some o ∧ X.H₀ b = none
  bsz : X.base.objs.size ≤ X.s₀.heap.objs.size
  noex : ∀ b o, X.base.get? b = some o → b ∉ X.ex
  exfs : ∀ b ∈ X.ex, b ∉ X.fs
  funs : X.s₀.heap.FunFrames X.base X.outer
  frf : ∀ b ∈ X.fs, X.H₀ b = none

structure Inv (X : Cx) (pins : List (Addr × Obj)) (σ : List (Option V)) (H : Hp) (s : Shared) : Prop where
  ok : X.Ok
  os : s.os = X.s₀.os
  bare : AllBare s.gens
  base : Un X.fs X.ex X.H₀ H X.s₀.heap s.heap
  loc : ∃ m, s.heap.Ns X.env.locals m ∧ ∀ (i : Nat) (x : Str) (v : V), X.N[i]? = some x → σ[i]? = some (some v) → Vis X.env.scope x → ∃ u, RelV v u ∧ Look X.env s.heap m x u
  cell : ∀ x c, X.env.cells.lookup x = some c → ∃ v, s.heap.IsCell c v
  free : H X.env.locals = none
  freeC : ∀ x c, X.env.cells.lookup x = some c → H c = none
  pin : ∀ p ∈ X.pn ++ pins, s.heap.get? p.1 = some p.2 ∧ H p.1 = none ∧ p.1 ≠ X.env.locals ∧ p.1 ∉ X.fs ∧ ∀ v, p.2.data ≠ .cell v
  hok : HOk X.prog X.w H s.heap
  len : σ.length = X.N.length

section
variable {X : Cx} {pins : List (Addr × Obj)} {σ : List (Option V)} {H H' : Hp} {s : Shared} {h' : Heap}

theorem Cx.Ok.nofr (ok : X.Ok) {b : Addr} {o : Obj} (e : X.base.get? b = some o) : b ∉ X.fs := fun hb => by
  have := (ok.funs.mem hb).1
  rw [e] at this; cases this
theorem Inv.bs (I : Inv X pins σ H s) : ∀ b o, X.base.get? b = some o → s.heap.get? b = some o ∧ H b = none := fun b o e =>
  ⟨I.base.keep b o (I.ok.bs b o e).1 (I.ok.bs b o e).2 (I.ok.nofr e) (I.ok.noex b o e), I.base.free b o (I.ok.bs b o e).1 (I.ok.bs b o e).2 (I.ok.noex b o e)⟩
theorem Inv.bk (I : Inv X pins σ H s) : ∀ b o, X.base.get? b = some o → s.heap.get? b = some o := fun b o e => (I.bs b o e).1
theorem Inv.mod (I : Inv X pins σ H s) : Mod X.K X.mg X.base := I.ok.mod
theorem Inv.kIn (I : Inv X pins σ H s) : X.K.In s.heap := I.ok.mod.kin.keeps I.bk
/-- the frame over the base: for OpenK's rules (K.In X.base is I.mod.kin) -/
theorem Inv.fr (I : Inv X pins σ H s) : ∃ m, Fr X.base X.env.locals s.heap m :=
  let ⟨m, hn, _⟩ := I.loc
  ⟨m, hn, I.bk, Nat.le_trans I.ok.bsz I.ok.above⟩
theorem Inv.lt (I : Inv X pins σ H s) : X.env.locals < s.heap.objs.size := let ⟨_, hn, _⟩ := I.loc; hn.lt
theorem Inv.sz (I : Inv X pins σ H s) : X.s₀.heap.objs.size ≤ s.heap.objs.size := Nat.le_trans I.ok.above (Nat.le_of_lt I.lt)
theorem Inv.nofs (I : Inv X pins σ H s) {a : Addr} (h : s.heap.objs.size ≤ a) : a ∉ X.fs := fun hb => by
  obtain ⟨_, o, ho, _⟩ := I.ok.funs.mem hb
  exact absurd (Nat.lt_of_lt_of_le (Heap.lt_size ho) (Nat.le_trans I.sz h)) (Nat.lt_irrefl _)
theorem Inv.cne (I : Inv X pins σ H s) : ∀ x c, X.env.cells.lookup x = some c → c ≠ X.env.locals := fun x c e z => by
  obtain ⟨v, o, ho, hd⟩ := I.cell x c e
  obtain ⟨m, ⟨o', es, ep, ho', hd', _⟩, _⟩ := I.loc
  rw [z, ho'] at ho; cases ho; rw [hd'] at hd; cases hd
theorem Inv.funs (I : Inv X pins σ H s) : s.heap.FunFrames X.base X.outer := by
  have all : ∀ (l : List Env), (∀ b ∈ frs l, b ∈ X.fs) → X.s₀.heap.FunFrames X.base l → s.heap.FunFrames X.base l := by
    intro l
    induction l with
    | nil => intro _ _; trivial
    | cons env r ih =>
      intro hs hl
      obtain ⟨hk, ⟨L, o, hf, hn, ho, hd⟩, hr⟩ := hl
      have hL : L ∈ X.fs := hs L (by unfold frs; rw [List.filterMap_cons, hf]; exact List.mem_cons_self)
      obtain ⟨sl, e⟩ := I.base.slot L o ho (I.ok.frf L hL) hL fun z => I.ok.exfs L z hL
      exact ⟨hk, ⟨L, _, hf, hn, e, hd⟩, ih (fun b hb => hs b (by unfold frs; rw [List.filterMap_cons, hf]; exact List.mem_cons_of_mem _ hb)) hr⟩
  exact all X.outer (fun _ hb => hb) I.ok.funs

/-- the frames that run, for a call -/
theorem Inv.stack (I : Inv X pins σ H s) : s.heap.FunFrames X.base X.stack := by
  rcases I.ok.stk with e | ⟨e, hf⟩
  · rw [e]; exact I.funs
  · rw [e]
    obtain ⟨m, hn, _⟩ := I.loc
    refine .cons (by rw [I.ok.kind]; decide) hf hn ?_ I.funs
    exact Heap.get?_none_of_le (Nat.le_trans I.ok.bsz I.ok.above)
theorem Inv.stkSub (I : Inv X pins σ H s) : ∀ b ∈ frs X.stack, b ∈ X.env.locals :: X.fs := fun b hb => by
  rcases I.ok.stk with e | ⟨e, hf⟩
  · rw [e] at hb; exact List.mem_cons_of_mem _ hb
  · rw [e] at hb
    unfold frs at hb
    rw [List.filterMap_cons, hf] at hb
    exact hb
theorem Inv.stkFree (I : Inv X pins σ H s) : ∀ b ∈ frs X.stack, H b = none := fun b hb => by
  rcases List.mem_cons.mp (I.stkSub b hb) with e | hb
  · rw [e]; exact I.free
  · obtain ⟨_, o, ho, _⟩ := I.ok.funs.mem hb
    exact I.base.free b o ho (I.ok.frf b hb) fun z => I.ok.exfs b z hb

/-- THE STEP: the untracked objects but the frame and the records at ch are kept (the callers' frames up to slots), the frame's map is kept, the new abstract heap is held -/
theorem Inv.step {g' : Array GenState} {t' : Nat} {d' : Drawn} {ch : List Addr} (I : Inv X pins σ H s)
    (hch : ∀ b ∈ ch, (b ∈ X.ex ∨ X.s₀.heap.objs.size ≤ b) ∧ b ≠ X.env.locals ∧ (∀ x c, X.env.cells.lookup x = some c → c ≠ b) ∧ ∀ p ∈ X.pn ++ pins, p.1 ≠ b)
    (keep : ∀ b o, b ≠ X.env.locals → b ∉ X.fs → b ∉ ch → s.heap.get? b = some o → H b = none → h'.get? b = some o)
    (slot : ∀ b o, b ≠ X.env.locals → b ∈ X.fs → b ∉ ch → s.heap.get? b = some o → H b = none → ∃ sl, h'.get? b = some { o with slots := sl }) (free : ∀ b o, b ∉ ch → s.heap.get? b = some o → H b = none → H' b = none)
    (there : ∀ b o, b ∉ ch → s.heap.get? b = some o → ∃ o', h'.get? b = some o')
    (tups : ∀ b xs, H b = some (.tup xs) → H' b = some (.tup xs)) (frzs : ∀ b o u, H b = some (.frz o u) → H' b = some (.frz o u)) (tbls : ∀ b ps, H b = some (.tbl ps) → ∃ more, H' b = some (.tbl (ps ++ more)))
    (ns : ∀ m, s.heap.Ns X.env.locals m → h'.Ns X.env.locals m) (hok : HOk X.prog X.w H' h') (hg : AllBare g') :
    Inv X pins σ H' { s with heap := h', gens := g', drawn := d', toks := t' } := by
  have neL : ∀ b o, X.s₀.heap.get? b = some o → b ≠ X.env.locals := fun b o e => Nat.ne_of_lt (Nat.lt_of_lt_of_le (Heap.lt_size e) I.ok.above)
  have neC : ∀ b o, X.s₀.heap.get? b = some o → b ∉ X.ex → b ∉ ch := fun b o e hx hb => by
    rcases (hch b hb).1 with z | z
    · exact hx z
    · exact absurd (Nat.lt_of_lt_of_le (Heap.lt_size e) z) (Nat.lt_irrefl _)
  have cellK : ∀ x c, X.env.cells.lookup x = some c → ∀ v, s.heap.IsCell c v → h'.IsCell c v := fun x c e v ⟨o, ho, hd⟩ => by
    have nch : c ∉ ch := fun z => (hch c z).2.2.1 x c e rfl
    by_cases hc : c ∈ X.fs
    · obtain ⟨sl, q⟩ := slot c o (I.cne x c e) hc nch ho (I.freeC x c e)
      exact ⟨_, q, hd⟩
    · exact ⟨o, keep c o (I.cne x c e) hc nch ho (I.freeC x c e), hd⟩
  refine ⟨I.ok, I.os, hg, ⟨fun b o e n hb hx => ?_, fun b o e n hb hx => ?_, fun b o e n hx => ?_, fun b o e hx => ?_, fun b xs e => tups b xs (I.base.tups b xs e), fun b o xs e => frzs b o xs (I.base.frzs b o xs e), fun b ps e => ?_⟩, ?_, fun x c e => ?_, ?_, fun x c e => ?_, fun p hp => ?_, hok, I.len⟩
  · exact keep b o (neL b o e) hb (neC b o e hx) (I.base.keep b o e n hb hx) (I.base.free b o e n hx)
  · obtain ⟨sl, e1⟩ := I.base.slot b o e n hb hx
    obtain ⟨sl', e2⟩ := slot b _ (neL b o e) hb (neC b o e hx) e1 (I.base.free b o e n hx)
    exact ⟨sl', e2⟩
  · obtain ⟨o', e1⟩ := I.base.there b o e hx
    exact free b o' (neC b o e hx) e1 (I.base.free b o e n hx)
  · obtain ⟨o', e1⟩ := I.base.there b o e hx
    exact there b o' (neC b o e hx) e1
  · obtain ⟨m1, e1⟩ := I.base.tbls b ps e
    obtain ⟨m2, e2⟩ := tbls b _ e1
    exact ⟨m1 ++ m2, by rw [e2, Array.append_assoc]⟩
  · obtain ⟨m, hn, hl⟩ := I.loc
    refine ⟨m, ns m hn, fun i x v e1 e2 e3 => ?_⟩
    obtain ⟨u, r, l⟩ := hl i x v e1 e2 e3
    refine ⟨u, r, ?_⟩
    rcases l with l | ⟨k, c, e, z⟩
    · exact .inl l
    · exact .inr ⟨k, c, e, cellK x c e _ z⟩
  · obtain ⟨v, z⟩ := I.cell x c e
    exact ⟨v, cellK x c e v z⟩
  · obtain ⟨m, ⟨o, _, _, ho, _⟩, _⟩ := I.loc
    exact free _ o (fun z => (hch _ z).2.1 rfl) ho I.free
  · obtain ⟨v, o, ho, hd⟩ := I.cell x c e
    exact free c o (fun z => (hch c z).2.2.1 x c e rfl) ho (I.freeC x c e)
  · obtain ⟨e, n, ne, nf, d⟩ := I.pin p hp
    have nch : p.1 ∉ ch := fun z => (hch p.1 z).2.2.2 p hp rfl
    exact ⟨keep p.1 p.2 ne nf nch e n, free p.1 p.2 nch e n, ne, nf, d⟩
/-- .. where the frame's own object is kept too -/
theorem Inv.un {t' : Nat} (I : Inv X pins σ H s) (u : Un X.fs [] H H' s.heap h') (hok : HOk X.prog X.w H' h') : Inv X pins σ H' { s with heap := h', toks := t' } := by
  obtain ⟨m, ⟨o, es, ep, ho, r⟩, _⟩ := id I.loc
  obtain ⟨sl, hL⟩ := u.any ho I.free (by simp)
  exact I.step (g' := s.gens) (d' := s.drawn) (ch := []) (fun _ z => nomatch z) (fun b o _ hb _ e n => u.keep b o e n hb (by simp)) (fun b o _ hb _ e n => u.slot b o e n hb (by simp)) (fun b o _ e n => u.free b o e n (by simp)) (fun b o _ e => u.there b o e (by simp)) u.tups u.frzs u.tbls (fun m' hm => by
    obtain ⟨o', es', ep', ho', r'⟩ := hm
    rw [ho] at ho'; cases ho'
    exact ⟨_, es', ep', hL, r'⟩) hok I.bare
/-- behind a call (or a comprehension's block): the slots of this frame may have changed too, the records at ch may have turned -/
theorem Inv.call {g' : Array GenState} {t' : Nat} {d' : Drawn} {ch : List Addr} (I : Inv X pins σ H s) (u : Un (frs X.stack) ch H H' s.heap h') (hok : HOk X.prog X.w H' h') (hg : AllBare g')
    (hch : ∀ b ∈ ch, (b ∈ X.ex ∨ X.s₀.heap.objs.size ≤ b) ∧ b ≠ X.env.locals ∧ (∀ x c, X.env.cells.lookup x = some c → c ≠ b) ∧ ∀ p ∈ X.pn ++ pins, p.1 ≠ b) :
    Inv X pins σ H' { s with heap := h', gens := g', drawn := d', toks := t' } := by
  obtain ⟨m, ⟨o, es, ep, ho, r⟩, _⟩ := id I.loc
  obtain ⟨sl, hL⟩ := u.any ho I.free fun z => (hch _ z).2.1 rfl
  exact I.step (ch := ch) hch (fun b o hL hb hc e n => u.keep b o e n (fun z => (List.mem_cons.mp (I.stkSub b z)).elim hL hb) hc) (fun b o _ _ hc e n => u.any e n hc) (fun b o hc e n => u.free b o e n hc) (fun b o hc e => u.there b o e hc) u.tups u.frzs u.tbls (fun m' hm => by
    obtain ⟨o', es', ep', ho', r'⟩ := hm
    rw [ho] at ho'; cases ho'
    exact ⟨_, es', ep', hL, r'⟩) hok hg
/-- an untracked record of ours (an iterator) has turned -/
theorem Inv.turned {t' : Nat} {it : Addr} (I : Inv X pins σ H s) (k : ∀ b o, b ≠ it → s.heap.get? b = some o → h'.get? b = some o) (hn : H it = none) (hL : it ≠ X.env.locals)
    (h1 : it ∈ X.ex ∨ X.s₀.heap.objs.size ≤ it) (h2 : ∀ x c, X.env.cells.lookup x = some c → c ≠ it) (h3 : ∀ p ∈ X.pn ++ pins, p.1 ≠ it) : Inv X pins σ H { s with heap := h', toks := t' } := by
  have nit : ∀ b u, H b = some u → b ≠ it := fun b u e z => by rw [z, hn] at e; cases e
  refine I.step (g' := s.gens) (d' := s.drawn) (ch := [it]) (fun b hb => ?_) (fun b o _ _ hc e _ => k b o (fun z => hc (by simp [z])) e) (fun b o _ _ hc e _ => ⟨o.slots, k b o (fun z => hc (by simp [z])) e⟩) (fun _ _ _ _ n => n)
    (fun b o hc e => ⟨o, k b o (fun z => hc (by simp [z])) e⟩) (fun _ _ e => e) (fun _ _ _ e => e) (fun b ps e => ⟨#[], by rw [e]; simp⟩) (fun m hm => ?_) (fun b u e => ?_) I.bare
  · have e : b = it := by simpa using hb
    subst e
    exact ⟨h1, hL, h2, h3⟩
  · obtain ⟨o, es, ep, ho, r⟩ := hm
    exact ⟨o, es, ep, k _ o (Ne.symm hL) ho, r⟩
  · refine (I.hok b u e).stay (fun c v hc q => k c v ?_ q) (fun _ q => q) fun _ _ q => q
    rcases hc with z | z
    · rw [z]; exact nit b u e
    · exact nit c _ z
theorem Inv.tok (I : Inv X pins σ H s) (t : Nat) : Inv X pins σ H { s with toks := t } := I.un (h' := s.heap) (t' := t) Un.refl I.hok
/-- all objects kept -/
theorem Inv.kept {t' : Nat} (I : Inv X pins σ H s) (k : ∀ b u, s.heap.get? b = some u → h'.get? b = some u) : Inv X pins σ H { s with heap := h', toks := t' } := I.un (Un.kept k) (I.hok.kept k)
/-- a new object laid and tracked -/
theorem Inv.laid {a : Addr} {o : HO} {t' : Nat} (I : Inv X pins σ H s) (k : ∀ b u, s.heap.get? b = some u → h'.get? b = some u) (hp : s.heap.objs.size ≤ a) (new : ObjOk X.prog X.w (upd H a o) h' a o) :
    Inv X pins σ (upd H a o) { s with heap := h', toks := t' } := I.un (Un.laid k hp (I.hok.fresh hp)) (I.hok.laid k hp new)
/-- an object written -/
theorem Inv.write {x e : Addr} {o : HO} {t' : Nat} (I : Inv X pins σ H s) (mu : Mut (H x)) (he : e = x ∨ H e = some (.own x)) (k : ∀ b u, b ≠ e → s.heap.get? b = some u → h'.get? b = some u) (heo : ∃ u, h'.get? e = some u)
    (new : ObjOk X.prog X.w (upd H x o) h' x o) : Inv X pins σ (upd H x o) { s with heap := h', toks := t' } := I.un (Un.write mu he k heo) (I.hok.write mu he k heo new)
/-- forgetting slots, pins -/
theorem Inv.weak {σ' : List (Option V)} (I : Inv X pins σ H s) (hl : σ'.length = σ.length) (w : ∀ (i : Nat) v, σ'[i]? = some (some v) → σ[i]? = some (some v)) : Inv X pins σ' H s :=
  ⟨I.ok, I.os, I.bare, I.base, let ⟨m, hn, hl'⟩ := I.loc; ⟨m, hn, fun i x v e1 e2 e3 => hl' i x v e1 (w i v e2) e3⟩, I.cell, I.free, I.freeC, I.pin, I.hok, hl.trans I.len⟩
theorem Inv.pins_of {pins' : List (Addr × Obj)} (I : Inv X pins σ H s) (h : ∀ p ∈ pins', s.heap.get? p.1 = some p.2 ∧ H p.1 = none ∧ p.1 ≠ X.env.locals ∧ p.1 ∉ X.fs ∧ ∀ v, p.2.data ≠ .cell v) : Inv X pins' σ H s :=
  ⟨I.ok, I.os, I.bare, I.base, I.loc, I.cell, I.free, I.freeC, fun p hp => (List.mem_append.mp hp).elim (fun z => I.pin p (List.mem_append_left _ z)) (h p), I.hok, I.len⟩

theorem nodup_ix {N : List Str} (hN : N.Nodup) {i j : Nat} {x : Str} (a : N[i]? = some x) (b : N[j]? = some x) : i = j := by
  obtain ⟨h1, e1⟩ := List.getElem?_eq_some_iff.mp a
  obtain ⟨h2, e2⟩ := List.getElem?_eq_some_iff.mp b
  exact (List.getElem_inj hN).mp (e1.trans e2.symm)

/-- a name is stored; what changed -/
theorem store_ok2 {M : Model} {A : Around} {E : Value → Shared → Prop} {i : Nat} {x : Str} {v : V} {u : Value} {Q : Unit → Shared → Prop} (I : Inv X pins σ H s) (hN : X.N.Nodup) (hi : X.N[i]? = some x) (hx : Loc X.env.scope x) (r : RelV v u)
    (h : ∀ s', Inv X pins (σ.set i (some v)) H s' → (∃ a, Heap.SameBut a s.heap s'.heap ∧ (a = X.env.locals ∨ X.env.cells.lookup x = some a)) → Q () s') (hf : X.fn x = true ∨ X.env.scope.names.lookup x = some .local := by first | exact .inl rfl | exact .inr rfl | assumption) : wpAny M A (storeName X.env x u) Q E s := by
  obtain ⟨m, hn, hl⟩ := id I.loc
  have hcls : (X.env.scope.kind == .class || (X.env.scope.kind == .module && X.env.locals != X.env.globals)) = false := by rw [I.ok.kind]; rfl
  have hiσ : i < σ.length := by rw [I.len]; exact (List.getElem?_eq_some_iff.mp hi).1
  have cne := I.cne
  have tracked : ∀ {a : Addr} {h' : Heap}, (∃ o, s.heap.get? a = some o ∧ H a = none) → Heap.SameBut a s.heap h' → HOk X.prog X.w H h' := fun {a h'} ha hs b ob e => by
    obtain ⟨_, _, hfree⟩ := ha
    refine (I.hok b ob e).stay (fun c w' hc q => (hs.2 c ?_).trans q) (fun _ q => q) fun _ _ q => q
    rintro rfl
    rcases hc with rfl | hc
    · rw [hfree] at e; cases e
    · rw [hfree] at hc; cases hc
  rcases hx with hk | hk
  · refine wpAny_storeName_local hk hn (fun h' hn' hs => ?_) hcls
    obtain ⟨oL, _, _, hoL, _⟩ := id hn
    refine h _ ⟨I.ok, I.os, I.bare, ⟨fun b o e n hb hx => ?_, fun b o e n hb hx => ?_, I.base.free, fun b o e hx => ?_, I.base.tups, I.base.frzs, I.base.tbls⟩, ⟨_, hn', fun j y v' e1 e2 e3 => ?_⟩, fun y c e => ?_, I.free, I.freeC, fun p hp => ?_, tracked ⟨oL, hoL, I.free⟩ hs, by simpa using I.len⟩ ⟨_, hs, .inl rfl⟩
    · exact (hs.2 b (Nat.ne_of_lt (Nat.lt_of_lt_of_le (Heap.lt_size e) I.ok.above))).trans (I.base.keep b o e n hb hx)
    · obtain ⟨sl, e1⟩ := I.base.slot b o e n hb hx
      exact ⟨sl, (hs.2 b (Nat.ne_of_lt (Nat.lt_of_lt_of_le (Heap.lt_size e) I.ok.above))).trans e1⟩
    · obtain ⟨o', e1⟩ := I.base.there b o e hx
      exact ⟨o', (hs.2 b (Nat.ne_of_lt (Nat.lt_of_lt_of_le (Heap.lt_size e) I.ok.above))).trans e1⟩
    · by_cases hj : j = i
      · subst hj
        rw [hi] at e1; cases e1
        rw [List.getElem?_set_self hiσ] at e2
        cases e2
        exact ⟨u, r, .inl ⟨hk, by simp⟩⟩
      · rw [List.getElem?_set_ne (Ne.symm hj)] at e2
        obtain ⟨u', r', q⟩ := hl j y v' e1 e2 e3
        refine ⟨u', r', ?_⟩
        rcases q with ⟨k, e⟩ | ⟨k, c, e, z⟩
        · refine .inl ⟨k, ?_⟩
          have : y ≠ x := fun e => hj (nodup_ix hN e1 (e ▸ hi))
          simp [this, e]
        · exact .inr ⟨k, c, e, z.sameBut hs (cne y c e)⟩
    · obtain ⟨w', z⟩ := I.cell y c e
      exact ⟨w', z.sameBut hs (cne y c e)⟩
    · obtain ⟨e, n, ne, nf, d⟩ := I.pin p hp
      exact ⟨(hs.2 p.1 ne).trans e, n, ne, nf, d⟩
  · have hfn : X.fn x = true := by
      rcases hf with z | z
      · exact z
      · rw [z] at hk; cases hk
    obtain ⟨c, hc⟩ := I.ok.has x (.inl hk)
    obtain ⟨w', z⟩ := I.cell x c hc
    refine wpAny_storeName_cell I.ok.kind hk hc z (fun h' hc' hs => ?_)
    obtain ⟨oc, hoc, hocd⟩ := id z
    refine h { s with heap := h' } ⟨I.ok, I.os, I.bare, ⟨fun b o e n hb hx => ?_, fun b o e n hb hx => ?_, I.base.free, fun b o e hx => ?_, I.base.tups, I.base.frzs, I.base.tbls⟩, ⟨m, hn.sameBut hs (Ne.symm (cne x c hc)), fun j y v' e1 e2 e3 => ?_⟩, fun y c' e => ?_, I.free, I.freeC, fun p hp => ?_, tracked ⟨oc, hoc, I.freeC x c hc⟩ hs, by simpa using I.len⟩ ⟨c, hs, .inr hc⟩
    · exact (hs.2 b (Nat.ne_of_lt (Nat.lt_of_lt_of_le (Heap.lt_size e) (I.ok.cab x c hfn hc)))).trans (I.base.keep b o e n hb hx)
    · obtain ⟨sl, e1⟩ := I.base.slot b o e n hb hx
      exact ⟨sl, (hs.2 b (Nat.ne_of_lt (Nat.lt_of_lt_of_le (Heap.lt_size e) (I.ok.cab x c hfn hc)))).trans e1⟩
    · obtain ⟨o', e1⟩ := I.base.there b o e hx
      exact ⟨o', (hs.2 b (Nat.ne_of_lt (Nat.lt_of_lt_of_le (Heap.lt_size e) (I.ok.cab x c hfn hc)))).trans e1⟩
    · by_cases hj : j = i
      · subst hj
        rw [hi] at e1; cases e1
        rw [List.getElem?_set_self hiσ] at e2
        cases e2
        exact ⟨u, r, .inr ⟨.inl hk, c, hc, hc'⟩⟩
      · rw [List.getElem?_set_ne (Ne.symm hj)] at e2
        obtain ⟨u', r', q⟩ := hl j y v' e1 e2 e3
        refine ⟨u', r', ?_⟩
        rcases q with q | ⟨k, c', e, z'⟩
        · exact .inl q
        · refine .inr ⟨k, c', e, z'.sameBut hs ?_⟩
          rintro rfl
          exact hj (nodup_ix hN e1 (I.ok.inj _ _ _ e hc ▸ hi))
    · by_cases hcc : c' = c
      · subst hcc; exact ⟨_, hc'⟩
      · obtain ⟨w2, z2⟩ := I.cell y c' e
        exact ⟨w2, z2.sameBut hs hcc⟩
    · obtain ⟨e, n, ne, nf, d⟩ := I.pin p hp
      refine ⟨(hs.2 p.1 ?_).trans e, n, ne, nf, d⟩
      intro q
      rw [q, hoc] at e
      have q' : oc = p.2 := Option.some.inj e
      exact d w' (by rw [← q']; exact hocd)
theorem store_ok {M : Model} {A : Around} {E : Value → Shared → Prop} {i : Nat} {x : Str} {v : V} {u : Value} {Q : Unit → Shared → Prop} (I : Inv X pins σ H s) (hN : X.N.Nodup) (hi : X.N[i]? = some x) (hx : Loc X.env.scope x) (r : RelV v u)
    (h : ∀ s', Inv X pins (σ.set i (some v)) H s' → Q () s') (hf : X.fn x = true ∨ X.env.scope.names.lookup x = some .local := by first | exact .inl rfl | exact .inr rfl | assumption) : wpAny M A (storeName X.env x u) Q E s :=
  store_ok2 I hN hi hx r (fun s' I' _ => h s' I') hf
/-- behind a call or a block, the state as it is -/
theorem Inv.call' {s' : Shared} {ch : List Addr} (I : Inv X pins σ H s) (ho : s'.os = s.os) (u : Un (frs X.stack) ch H H' s.heap s'.heap) (hok : HOk X.prog X.w H' s'.heap) (hg : AllBare s'.gens)
    (hch : ∀ b ∈ ch, (b ∈ X.ex ∨ X.s₀.heap.objs.size ≤ b) ∧ b ≠ X.env.locals ∧ (∀ x c, X.env.cells.lookup x = some c → c ≠ b) ∧ ∀ p ∈ X.pn ++ pins, p.1 ≠ b) : Inv X pins σ H' s' := by
  obtain ⟨h', g', d', t', o'⟩ := s'
  have e : o' = s.os := ho
  subst e
  exact I.call (g' := g') (t' := t') (d' := d') u hok hg hch
end

/-! ### the judgements -/
/-- an exception: its class, its own dict's address (where it has one), the abstract heap behind it -/
abbrev XK := Value → Option Addr → Hp → Prop
abbrev St := List (Option V)
abbrev VK := V → Hp → Prop
/-- an expression's reading; a test's; an argument list's -/
abbrev TE := St → Hp → VK → Prop
abbrev TT := St → Hp → (Bool → Hp → Prop) → Prop
abbrev TA := St → Hp → (List V → Hp → Prop) → Prop
/-- what is wanted behind a statement -/
structure Ends where
  nx : St → Hp → Prop
  rt : VK
  bk : St → Hp → Prop := fun _ _ => False
  ct : St → Hp → Prop := fun _ _ => False
abbrev TS := Ends → St → Hp → Prop

def EP (X : Cx) (pins : List (Addr × Obj)) (σ : St) (Q : VK) (u : Value) (s' : Shared) : Prop := ∃ v H', Inv X pins σ H' s' ∧ RelV v u ∧ Q v H'
def TP (X : Cx) (pins : List (Addr × Obj)) (σ : St) (Q : Bool → Hp → Prop) (b : Bool) (s' : Shared) : Prop := ∃ H', Inv X pins σ H' s' ∧ Q b H'
def AP (X : Cx) (pins : List (Addr × Obj)) (σ : St) (Q : List V → Hp → Prop) (us : List Value) (s' : Shared) : Prop := ∃ vs H', Inv X pins σ H' s' ∧ Vals vs us ∧ Q vs H'
def SP (X : Cx) (pins : List (Addr × Obj)) (D : Ends) (f : Flow) (s' : Shared) : Prop :=
  match f with
  | .next => ∃ σ' H', Inv X pins σ' H' s' ∧ D.nx σ' H'
  | .brk => ∃ σ' H', Inv X pins σ' H' s' ∧ D.bk σ' H'
  | .cont => ∃ σ' H', Inv X pins σ' H' s' ∧ D.ct σ' H'
  | .ret u => ∃ v σ' H', Inv X pins σ' H' s' ∧ RelV v u ∧ D.rt v H'

def PE (X : Cx) (e : Expr) (t : TE) : Prop :=
  ∀ (pins : List (Addr × Obj)) (s : Shared) (σ : St) (H : Hp) (Q : VK), Inv X pins σ H s → t σ H Q → wpAny (model X.prog X.w) X.A (eval e X.env) (EP X pins σ Q) X.xe s
def PT (X : Cx) (e : Expr) (t : TT) : Prop :=
  ∀ (pins : List (Addr × Obj)) (s : Shared) (σ : St) (H : Hp) (Q : Bool → Hp → Prop), Inv X pins σ H s → t σ H Q → wpAny (model X.prog X.w) X.A (isTrue e X.env (eval e X.env)) (TP X pins σ Q) X.xe s
/-- a test whatever its 'whole' is (and, or) -/
def PW (X : Cx) (e : Expr) (t : TT) : Prop :=
  ∀ (whole : Sem Value) (pins : List (Addr × Obj)) (s : Shared) (σ : St) (H : Hp) (Q : Bool → Hp → Prop), Inv X pins σ H s → t σ H Q → wpAny (model X.prog X.w) X.A (isTrue e X.env whole) (TP X pins σ Q) X.xe s
theorem PW.pt {X : Cx} {e : Expr} {t : TT} (h : PW X e t) : PT X e t := h _
/-- an argument list (no star), from the left -/
def PA (X : Cx) (es : List Expr) (t : TA) : Prop :=
  ∀ (pos : Pos) (pins : List (Addr × Obj)) (s : Shared) (σ : St) (H : Hp) (Q : List V → Hp → Prop), Inv X pins σ H s → t σ H Q → wpAny (model X.prog X.w) X.A (spliced (backTo pos (starEach es X.env))) (AP X pins σ Q) X.xe s
def PS (X : Cx) (st : Stmt) (t : TS) : Prop :=
  ∀ (pins : List (Addr × Obj)) (s : Shared) (σ : St) (H : Hp) (D : Ends), Inv X pins σ H s → t D σ H → wpAny (model X.prog X.w) X.A (exec st X.env) (SP X pins D) X.xe s
def PSs (X : Cx) (st : List Stmt) (t : TS) : Prop :=
  ∀ (pins : List (Addr × Obj)) (s : Shared) (σ : St) (H : Hp) (D : Ends), Inv X pins σ H s → t D σ H → wpAny (model X.prog X.w) X.A (execs st X.env) (SP X pins D) X.xe s
/-- weaken the end -/
theorem thn {α : Type} {t : Sem α} {Q Q' : α → Shared → Prop} {M : Model} {A : Around} {E : Value → Shared → Prop} {s : Shared} (h : wpAny M A t Q E s) (hQ : ∀ a s, Q a s → Q' a s) : wpAny M A t Q' E s := wpAny_mono h hQ fun _ _ x => x
end L2

namespace L2
open PySem PySem.Spec PyProof.Rows
section
variable {X : Cx}

/-- two expressions in a row -/
theorem bin {a b : Expr} {ta tb : TE} (ha : PE X a ta) (hb : PE X b tb) {pins : List (Addr × Obj)} {s : Shared} {σ : St} {H : Hp} {R : V → V → Hp → Prop} (I : Inv X pins σ H s) (h : ta σ H fun x H1 => tb σ H1 fun y H2 => R x y H2)
    {α : Type} {Q : α → Shared → Prop} {f : Value → Value → Sem α}
    (hf : ∀ v u s2 x y H2, Inv X pins σ H2 s2 → RelV x v → RelV y u → R x y H2 → wpAny (model X.prog X.w) X.A (f v u) Q X.xe s2) :
    wpAny (model X.prog X.w) X.A (eval a X.env) (fun v s₁ => wpAny (model X.prog X.w) X.A (eval b X.env) (fun u s₂ => wpAny (model X.prog X.w) X.A (f v u) Q X.xe s₂) X.xe s₁) X.xe s := by
  refine thn (ha pins s σ H _ I h) fun v s1 ⟨x, H1, I1, r1, q1⟩ => ?_
  refine thn (hb pins s1 σ H1 _ I1 q1) fun u s2 ⟨y, H2, I2, r2, q2⟩ => ?_
  exact hf v u s2 x y H2 I2 r1 r2 q2

/-! ### names and constants -/
def tVar (i : Nat) : TE := fun σ H Q => ∃ v, σ[i]? = some (some v) ∧ Q v H
def tC (v : V) : TE := fun _ H Q => Q v H
theorem pe_var {i : Nat} {x : Str} {pos : Pos} (hN : X.N[i]? = some x) (hv : Vis X.env.scope x) (hd : (x == ("__debug__" : Str)) = false := by decide) (hcd : (x == ("__classdict__" : Str)) = false := by decide) : PE X (.Name x pos) (tVar i) := by
  intro pins s σ H Q I h
  obtain ⟨v, e, h⟩ := h
  obtain ⟨m, hn, hl⟩ := I.loc
  obtain ⟨u, r, l⟩ := hl i x v hN e hv
  have fin : EP X pins σ Q u s := ⟨v, H, I, r, h⟩
  rcases l with ⟨hk, hm⟩ | ⟨hk, c, hc, hcell⟩
  · exact wpAny_Name (wpAny_loadName_local I.ok.kind hk hn hm fin) hd
  · rcases hk with hk | hk
    · exact wpAny_Name (wpAny_loadName_cell I.ok.kind hk hc hcell fin) hd
    · exact wpAny_Name (wpAny_loadName_free I.ok.kind hk hc hcell fin hcd) hd
theorem pe_int {i j pos} : PE X (.Constant (.int i) j pos) (tC (.int i)) := fun _ _ _ H _ I h => wpAny_Constant_int ⟨.int i, H, I.tok _, ⟨_, rfl⟩, h⟩
theorem pe_bl {b j pos} : PE X (.Constant (.bool b) j pos) (tC (.bl b)) := fun _ _ _ H _ I h => Constant_bool ⟨.bl b, H, I, rfl, h⟩
theorem pe_non {j pos} : PE X (.Constant .none j pos) (tC .non) := fun _ _ _ H _ I h => Constant_none ⟨.non, H, I, rfl, h⟩
theorem pe_str {x j pos} : PE X (.Constant (.str x) j pos) (tC (.str x)) := fun _ _ _ H _ I h => Calls.Constant_str ⟨.str x, H, I.tok _, ⟨_, rfl⟩, h⟩

/-- a global name of the def -/
def Gl (X : Cx) (x : Str) : Prop := X.env.kindOf x = some .globalImplicit
theorem ld_glob {E : Value → Shared → Prop} {pins : List (Addr × Obj)} {s : Shared} {σ : St} {H : Hp} {x : Str} {u : Value} {pos : Pos} {Q : Value → Shared → Prop} (I : Inv X pins σ H s) (hg : Gl X x) (hm : X.mg x = some u) (h : Q u s)
    (hd : (x == ("__debug__" : Str)) = false := by decide) : wpAny (model X.prog X.w) X.A (eval (.Name x pos) X.env) Q E s :=
  Calls.Name_function_global I.ok.kind hg (Calls.loadGlobal_global (by rw [I.ok.glob]; exact I.mod.glob.keeps I.bk) hm h) hd
theorem ld_blt {E : Value → Shared → Prop} {pins : List (Addr × Obj)} {s : Shared} {σ : St} {H : Hp} {x : Str} {u : Value} {pos : Pos} {Q : Value → Shared → Prop} (I : Inv X pins σ H s) (hg : Gl X x) (hm : X.mg x = none) (hv : bootBuiltins x = some u) (h : Q u s)
    (hn : x ≠ "__name__" := by decide) (hd : (x == ("__debug__" : Str)) = false := by decide) : wpAny (model X.prog X.w) X.A (eval (.Name x pos) X.env) Q E s := by
  obtain ⟨mb, h1, h2⟩ := I.mod.blt
  exact Calls.Name_function_global I.ok.kind hg (Calls.loadGlobal_builtin (by rw [I.ok.glob]; exact I.mod.glob.keeps I.bk) hm (by rw [I.ok.blt]; exact h1.keeps I.bk) ((h2 x hn).trans hv) h) hd
/-- a module's constant, a class, a function, as a value -/
theorem pe_glob {x : Str} {v : V} {u : Value} {pos : Pos} (hg : Gl X x) (hm : X.mg x = some u) (r : RelV v u) (hd : (x == ("__debug__" : Str)) = false := by decide) : PE X (.Name x pos) (tC v) :=
  fun _ _ _ H _ I h => ld_glob I hg hm ⟨v, H, I, r, h⟩ hd
theorem pe_bltn {x : Str} {v : V} {u : Value} {pos : Pos} (hg : Gl X x) (hm : X.mg x = none) (hv : bootBuiltins x = some u) (r : RelV v u) (hn : x ≠ "__name__" := by decide) (hd : (x == ("__debug__" : Str)) = false := by decide) : PE X (.Name x pos) (tC v) :=
  fun _ _ _ H _ I h => ld_blt I hg hm hv ⟨v, H, I, r, h⟩ hn hd

/-! ### arithmetic -/
/-- two ints -/
def t2I (ta tb : TE) (k : Int → Int → Hp → Prop) : St → Hp → Prop := fun σ H => ta σ H fun x H1 => tb σ H1 fun y H2 => ∃ i j, x = .int i ∧ y = .int j ∧ k i j H2
variable {a b : Expr} {ta tb : TE} {pos : Pos}
/-! ### comparisons -/
def PC (X : Cx) (op : CmpOp) (a b : Expr) (t : TE) : Prop :=
  ∀ (pins : List (Addr × Obj)) (s : Shared) (σ : St) (H : Hp) (Q : VK), Inv X pins σ H s → t σ H Q →
    wpAny (model X.prog X.w) X.A (eval a X.env) (fun v s₁ => wpAny (model X.prog X.w) X.A (eval b X.env) (fun u s₂ => wpAny (model X.prog X.w) X.A (compareOp op v u) (EP X pins σ Q) X.xe s₂) X.xe s₁) X.xe s
def tCmp (p : Int → Int → Bool) (ta tb : TE) : TE := fun σ H Q => t2I ta tb (fun i j H2 => Q (.bl (p i j)) H2) σ H
/-- a comparison as a value, as a test -/
def tB (t : TE) : TT := fun σ H Q => t σ H fun x H1 => ∃ c, x = .bl c ∧ Q c H1
theorem pt_cmp {op : CmpOp} {t : TE} (h : PC X op a b t) (h1 : behindInMarks op b = false := by first | exact nobehind _ (by decide) (by decide) | rfl) : PT X (.Compare a [op] [b] pos) (tB t) := by
  intro pins s σ H Q I hw
  refine wpAny_isTrue_Compare1 (thn (h pins s σ H _ I hw) fun v s1 h1 => thn h1 fun u s2 h2 => thn h2 fun c s3 ⟨x, H1, I1, r1, q1⟩ => ?_) h1
  obtain ⟨d, rfl, q⟩ := q1
  cases r1
  exact wpAny_truthy_bool ⟨H1, I1, q⟩
/-- an expression whose value is a bool, as a test -/
theorem pt_val {e : Expr} {t : TE} (h : PE X e t) (he : ∀ whole, isTrue e X.env whole = (do let v ← whole; standAt e.pos; holding [v] (truthy v)) := by intro _; rfl) : PT X e (tB t) := by
  intro pins s σ H Q I hw
  refine isTrue_plain (thn (h pins s σ H _ I hw) fun v s1 ⟨x, H1, I1, r1, q1⟩ => ?_) (he _)
  obtain ⟨d, rfl, q⟩ := q1
  cases r1
  exact wpAny_truthy_bool ⟨H1, I1, q⟩

/-! ### and, or, not -/
variable {tA tB' : TT} {rest : List Expr}
def tAnd (t u : TT) : TT := fun σ H Q => t σ H fun c H1 => if c = true then u σ H1 Q else Q false H1
def tOr (t u : TT) : TT := fun σ H Q => t σ H fun c H1 => if c = true then Q true H1 else u σ H1 Q
def tNot (t : TT) : TT := fun σ H Q => t σ H fun c H1 => Q (!c) H1
theorem pw_and1 (ha : PT X a tA) : PW X (.BoolOp .And [a] pos) tA := by
  intro wh pins s σ H Q I h
  refine isTrue_and (thn (ha pins s σ H Q I h) fun c s1 e => ?_)
  cases c with
  | true => exact isTrue_and_nil e
  | false => exact e
theorem pw_or1 (ha : PT X a tA) : PW X (.BoolOp .Or [a] pos) tA := by
  intro wh pins s σ H Q I h
  refine isTrue_or (thn (ha pins s σ H Q I h) fun c s1 e => ?_)
  cases c with
  | false => exact isTrue_or_nil e
  | true => exact e
theorem pw_and (ha : PT X a tA) (hb : PW X (.BoolOp .And (b :: rest) pos) tB') : PW X (.BoolOp .And (a :: b :: rest) pos) (tAnd tA tB') := by
  intro wh pins s σ H Q I h
  refine isTrue_and (thn (ha pins s σ H _ I h) fun c s1 ⟨H1, I1, q1⟩ => ?_)
  cases c with
  | true => exact hb wh pins s1 σ H1 Q I1 q1
  | false => exact ⟨H1, I1, q1⟩
theorem pw_or (ha : PT X a tA) (hb : PW X (.BoolOp .Or (b :: rest) pos) tB') : PW X (.BoolOp .Or (a :: b :: rest) pos) (tOr tA tB') := by
  intro wh pins s σ H Q I h
  refine isTrue_or (thn (ha pins s σ H _ I h) fun c s1 ⟨H1, I1, q1⟩ => ?_)
  cases c with
  | true => exact ⟨H1, I1, q1⟩
  | false => exact hb wh pins s1 σ H1 Q I1 q1
theorem pt_not (ha : PT X a tA) : PT X (.UnaryOp .Not a pos) (tNot tA) := by
  intro pins s σ H Q I h
  exact isTrue_not (ha pins s σ H (fun c H1 => Q (!c) H1) I h)
/-- .. as values (bools) -/
def tAndV (ta tb : TE) : TE := fun σ H Q => ta σ H fun x H1 => ∃ c, x = .bl c ∧ if c = true then tb σ H1 Q else Q (.bl false) H1
theorem pe_one {op} {t : TE} (h : PE X a t) : PE X (.BoolOp op [a] pos) t := fun pins s σ H Q I hw => BoolOp_one (h pins s σ H Q I hw)
theorem pe_and (ha : PE X a ta) (hb : PE X (.BoolOp .And (b :: rest) pos) tb) : PE X (.BoolOp .And (a :: b :: rest) pos) (tAndV ta tb) := by
  intro pins s σ H Q I h
  refine BoolOp_and (thn (ha pins s σ H _ I h) fun v s1 ⟨x, H1, I1, r1, q1⟩ => ?_)
  obtain ⟨c, rfl, q1⟩ := q1
  cases r1
  refine wpAny_truthy_bool ?_
  cases c with
  | true => exact hb pins s1 σ H1 Q I1 q1
  | false => exact ⟨.bl false, H1, I1, rfl, q1⟩
/-- a if t else b -/
def tIf (t : TT) (ta tb : TE) : TE := fun σ H Q => t σ H fun c H1 => if c = true then ta σ H1 Q else tb σ H1 Q
theorem pe_ifExp {c : Expr} (hc : PT X c tA) (ha : PE X a ta) (hb : PE X b tb) : PE X (.IfExp c a b pos) (tIf tA ta tb) := by
  intro pins s σ H Q I h
  refine wpAny_IfExp (thn (hc pins s σ H _ I h) fun d s1 ⟨H1, I1, q1⟩ => ?_)
  cases d with
  | true => exact ha pins s1 σ H1 Q I1 q1
  | false => exact hb pins s1 σ H1 Q I1 q1
end
end L2

namespace L2
open PySem PySem.Spec PyProof.Rows

/-! ### a list, a tuple that is read: tracked, frozen, or an object of the module -/
def SqL (K : PySem.W.Frag) (H : Hp) (a : Addr) (xs : List V) : Prop :=
  Rd H a (.lst xs) ∨
    ∃ (o : Obj) (its : Array Value) (n : Nat), K.lookup a = some o ∧ o.cls = .type "list" ∧ o.dict = none ∧ o.data = .seq its n ∧ its.size ≤ sizeLine ∧ Vals xs its.toList
def SqT (K : PySem.W.Frag) (H : Hp) (a : Addr) (xs : List V) : Prop :=
  Rd H a (.tup xs) ∨
    ∃ (o : Obj) (its : Array Value) (n : Nat), K.lookup a = some o ∧ o.cls = .type "tuple" ∧ o.data = .seq its n ∧ its.size ≤ sizeLine ∧ Vals xs its.toList
def absV : Value → Option V
  | .none => some .non
  | .bool b => some (.bl b)
  | .int i _ => some (.int i)
  | .str x _ => some (.str x)
  | .bytes b _ => some (.byt b)
  | .float b _ => some (.flt b)
  | .ref a => some (.ref a)
  | .type n => some (.ty n)
  | _ => none
theorem RelV.abs {x : V} {u : Value} (r : RelV x u) : absV u = some x := by
  cases x with
  | non => cases r; rfl
  | bl _ => cases r; rfl
  | int _ => obtain ⟨t, rfl⟩ := r; rfl
  | str _ => obtain ⟨t, rfl⟩ := r; rfl
  | byt _ => obtain ⟨t, rfl⟩ := r; rfl
  | flt _ => obtain ⟨t, rfl⟩ := r; rfl
  | ref _ => cases r; rfl
  | ty _ => cases r; rfl
theorem RelV.inj {x y : V} {u : Value} (r : RelV x u) (q : RelV y u) : x = y := Option.some.inj (r.abs.symm.trans q.abs)
theorem Vals.inj : ∀ {xs ys : List V} {us : List Value}, Vals xs us → Vals ys us → xs = ys
  | _, _, _, .nil, .nil => rfl
  | _, _, _, .cons r t, .cons r' t' => by rw [r.inj r', Vals.inj t t']
section
variable {X : Cx} {pins : List (Addr × Obj)} {σ : St} {H : Hp} {s : Shared} {a : Addr} {xs ys : List V}
theorem SqL.of {K : PySem.W.Frag} (h : H a = some (.lst xs)) : SqL K H a xs := .inl (.inl h)
theorem SqT.of {K : PySem.W.Frag} (h : H a = some (.tup xs)) : SqT K H a xs := .inl (.inl h)
theorem Inv.list (I : Inv X pins σ H s) (h : SqL X.K H a xs) : ∃ its : List Value, Vals xs its ∧ PlainL s.heap a its.toArray ∧ xs.length ≤ sizeLine := by
  rcases h with h | ⟨o, its, n, hk, hc, hd, hs, hz, r⟩
  · obtain ⟨z, its, n, r, e⟩ := h.ok I.hok
    exact ⟨its, r, ⟨_, n, e, rfl, rfl, rfl⟩, z⟩
  · refine ⟨its.toList, r, ⟨o, n, I.kIn a o hk, hc, hd, by simpa using hs⟩, ?_⟩
    have e := r.length
    simp only [Array.length_toList] at e
    omega
theorem Inv.tuple (I : Inv X pins σ H s) (h : SqT X.K H a xs) : ∃ its : List Value, Vals xs its ∧ IsTup s.heap a its.toArray ∧ xs.length ≤ sizeLine := by
  rcases h with h | ⟨o, its, n, hk, hc, hs, hz, r⟩
  · obtain ⟨z, its, r, p⟩ := h.ok I.hok
    exact ⟨its, r, p.t, z⟩
  · refine ⟨its.toList, r, ⟨o, I.kIn a o hk, hc, n, by simpa using hs⟩, ?_⟩
    have e := r.length
    simp only [Array.length_toList] at e
    omega
theorem Inv.list_inj (I : Inv X pins σ H s) (h : SqL X.K H a xs) (h' : SqL X.K H a ys) : xs = ys := by
  obtain ⟨its, r, ⟨o, n, e, _, _, d⟩, _⟩ := I.list h
  obtain ⟨its', r', ⟨o', n', e', _, _, d'⟩, _⟩ := I.list h'
  rw [e] at e'; cases e'
  rw [d] at d'
  injection d' with d1 _
  have : its = its' := by simpa using congrArg Array.toList d1
  subst this
  exact r.inj r'
theorem Inv.tuple_inj (I : Inv X pins σ H s) (h : SqT X.K H a xs) (h' : SqT X.K H a ys) : xs = ys := by
  obtain ⟨its, r, ⟨o, e, _, n, d⟩, _⟩ := I.tuple h
  obtain ⟨its', r', ⟨o', e', _, n', d'⟩, _⟩ := I.tuple h'
  rw [e] at e'; cases e'
  rw [d] at d'
  injection d' with d1 _
  have : its = its' := by simpa using congrArg Array.toList d1
  subst this
  exact r.inj r'
end

/-! ### another wish about exceptions -/
abbrev Cx.wish (X : Cx) (E : Value → Shared → Prop) : Cx := { X with xe := E }
/-- no exception leaves -/
abbrev Cx.nox (X : Cx) : Cx := X.wish fun _ _ => False
theorem Cx.Ok.wish {X : Cx} (ok : X.Ok) (E : Value → Shared → Prop) : (X.wish E).Ok :=
  ⟨ok.mod, ok.kind, ok.glob, ok.blt, ok.above, ok.inj, ok.has, ok.cab, ok.hd, ok.frames, ok.stk, ok.exf, ok.bs, ok.bsz, ok.noex, ok.exfs, ok.funs, ok.frf⟩
theorem Cx.Ok.unwish {X : Cx} {E : Value → Shared → Prop} (ok : (X.wish E).Ok) : X.Ok :=
  ⟨ok.mod, ok.kind, ok.glob, ok.blt, ok.above, ok.inj, ok.has, ok.cab, ok.hd, ok.frames, ok.stk, ok.exf, ok.bs, ok.bsz, ok.noex, ok.exfs, ok.funs, ok.frf⟩
section
variable {X : Cx} {pins : List (Addr × Obj)} {σ : St} {H : Hp} {s : Shared} {E : Value → Shared → Prop}
theorem Inv.wish (I : Inv X pins σ H s) (E : Value → Shared → Prop) : Inv (X.wish E) pins σ H s := ⟨I.ok.wish E, I.os, I.bare, I.base, I.loc, I.cell, I.free, I.freeC, I.pin, I.hok, I.len⟩
theorem Inv.unwish (I : Inv (X.wish E) pins σ H s) : Inv X pins σ H s := ⟨I.ok.unwish, I.os, I.bare, I.base, I.loc, I.cell, I.free, I.freeC, I.pin, I.hok, I.len⟩
theorem SP.unwish {D : Ends} {f : Flow} {s' : Shared} (h : SP (X.wish E) pins D f s') : SP X pins D f s' := by
  cases f with
  | next => obtain ⟨σ', H', I, q⟩ := h; exact ⟨σ', H', I.unwish, q⟩
  | brk => obtain ⟨σ', H', I, q⟩ := h; exact ⟨σ', H', I.unwish, q⟩
  | cont => obtain ⟨σ', H', I, q⟩ := h; exact ⟨σ', H', I.unwish, q⟩
  | ret u => obtain ⟨v, σ', H', I, r, q⟩ := h; exact ⟨v, σ', H', I.unwish, r, q⟩
theorem PSs.nox {st : List Stmt} {t : TS} (h : PSs X.nox st t) : PSs X st t := fun pins s σ H D I hw =>
  wpAny_mono (h pins s σ H D (I.wish _) hw) (fun _ _ q => q.unwish) fun _ _ z => False.elim z
end

/-! ### blocks and small statements -/
section
variable {X : Cx} {st : Stmt} {rest : List Stmt} {t u : TS} {e : Expr} {te : TE} {pos : Pos}
def tNext : TS := fun D σ H => D.nx σ H
def tSeq (t u : TS) : TS := fun D σ H => t { D with nx := u D } σ H
theorem pss_nil : PSs X [] tNext := fun _ _ σ H _ I h => wpAny_execs_nil ⟨σ, H, I, h⟩
theorem pss_cons (h1 : PS X st t) (h2 : PSs X rest u) : PSs X (st :: rest) (tSeq t u) := by
  intro pins s σ H D I h
  refine wpAny_execs_cons (thn (h1 pins s σ H { D with nx := u D } I h) fun f s1 q => ?_)
  cases f with
  | next =>
    obtain ⟨σ', H', I', q⟩ := q
    exact h2 pins s1 σ' H' D I' q
  | ret v => exact q
  | brk => exact q
  | cont => exact q
theorem pss_one (h1 : PS X st t) : PSs X [st] t := by
  intro pins s σ H D I h
  refine wpAny_execs_cons (thn (h1 pins s σ H D I h) fun f s1 q => ?_)
  cases f with
  | next => exact wpAny_execs_nil q
  | ret v => exact q
  | brk => exact q
  | cont => exact q
/-- in a def's body nothing is shown -/
theorem Inv.quiet {pins : List (Addr × Obj)} {σ : St} {H : Hp} {s : Shared} (I : Inv X pins σ H s) : interactive X.env = false := by simp [interactive, I.ok.kind]
/-- an expression whose value is dropped -/
def tDrop (te : TE) : TS := fun D σ H => te σ H fun _ H1 => D.nx σ H1
theorem ps_expr (he : PE X e te) (hs : swapsWith e none pos.line X.env = pure false := by rfl) : PS X (.Expr e pos) (tDrop te) := by
  intro pins s σ H D I h
  exact wpAny_Expr_any (thn (he pins s σ H _ I h) fun v s1 ⟨x, H1, I1, r1, q1⟩ => ⟨σ, H1, I1, q1⟩) I.quiet hs
def tRet (te : TE) : TS := fun D σ H => te σ H D.rt
theorem ps_ret (he : PE X e te) : PS X (.Return (some e) pos) (tRet te) := by
  intro pins s σ H D I h
  exact wpAny_Return_some (thn (he pins s σ H _ I h) fun v s1 ⟨x, H1, I1, r1, q1⟩ => ⟨x, σ, H1, I1, r1, q1⟩)
def tIfS (c : TT) (t u : TS) : TS := fun D σ H => c σ H fun b H1 => if b = true then t D σ H1 else u D σ H1
theorem ps_if {c : Expr} {a b : List Stmt} {tc : TT} (hc : PT X c tc) (ha : PSs X a t) (hb : PSs X b u) : PS X (.If c a b pos) (tIfS tc t u) := by
  intro pins s σ H D I h
  refine wpAny_If (thn (hc pins s σ H _ I h) fun d s1 ⟨H1, I1, q1⟩ => ?_)
  cases d with
  | true => exact ha pins s1 σ H1 D I1 q1
  | false => exact hb pins s1 σ H1 D I1 q1
end

/-! ### targets -/
abbrev TG := V → St → Hp → (St → Hp → Prop) → Prop
abbrev TGs := List V → St → Hp → (St → Hp → Prop) → Prop
def PG (X : Cx) (target : Expr) (t : TG) : Prop :=
  ∀ (pins : List (Addr × Obj)) (s : Shared) (σ : St) (H : Hp) (v : V) (u : Value) (Q : St → Hp → Prop), Inv X pins σ H s → RelV v u → t v σ H Q →
    wpAny (model X.prog X.w) X.A (assign target X.env u) (fun _ s' => ∃ σ' H', Inv X pins σ' H' s' ∧ Q σ' H') X.xe s
/-- several targets, one after another -/
def PGs (X : Cx) (ts : List Expr) (t : TGs) : Prop :=
  ∀ (pins : List (Addr × Obj)) (s : Shared) (σ : St) (H : Hp) (vs : List V) (us : List Value) (Q : St → Hp → Prop), Inv X pins σ H s → Vals vs us → t vs σ H Q →
    wpAny (model X.prog X.w) X.A (assignInOrder ((assignEach ts X.env).map (·.2)) us) (fun _ s' => ∃ σ' H', Inv X pins σ' H' s' ∧ Q σ' H') X.xe s
/-- o[i] = v, by values -/
abbrev TSet := V → V → V → Hp → (Hp → Prop) → Prop
def PSet (X : Cx) (t : TSet) : Prop :=
  ∀ (pins : List (Addr × Obj)) (s : Shared) (σ : St) (H : Hp) (o i v : V) (ov iv u : Value) (Q : Hp → Prop), Inv X pins σ H s → RelV o ov → RelV i iv → RelV v u → t o i v H Q →
    wpAny (model X.prog X.w) X.A (setItem ov iv u) (fun _ s' => ∃ H', Inv X pins σ H' s' ∧ Q H') X.xe s
section
variable {X : Cx} {pos : Pos}
def gName (i : Nat) : TG := fun v σ H Q => Q (σ.set i (some v)) H
theorem pg_name {i : Nat} {x : Str} (hN : X.N.Nodup) (hi : X.N[i]? = some x) (hx : Loc X.env.scope x) (hf : X.fn x = true ∨ X.env.scope.names.lookup x = some .local := by first | exact .inl rfl | exact .inr rfl | assumption) : PG X (.Name x pos) (gName i) := by
  intro pins s σ H v u Q I r h
  exact wpAny_assign_Name (store_ok I hN hi hx r (fun s' I' => ⟨_, H, I', h⟩) hf)
def gNil : TGs := fun vs σ H Q => vs = [] ∧ Q σ H
def gCons (t : TG) (u : TGs) : TGs := fun vs σ H Q => ∃ v r, vs = v :: r ∧ t v σ H fun σ' H' => u r σ' H' Q
theorem pgs_nil : PGs X [] gNil := by
  intro pins s σ H vs us Q I r h
  obtain ⟨e, h⟩ := h
  subst e
  cases r
  exact assignInOrder_nil ⟨σ, H, I, h⟩
theorem pgs_cons {e : Expr} {es : List Expr} {t : TG} {u : TGs} (h1 : PG X e t) (h2 : PGs X es u)
    (hs : (assignEach (e :: es) X.env).map (·.2) = assign e X.env :: (assignEach es X.env).map (·.2) := by rfl) : PGs X (e :: es) (gCons t u) := by
  intro pins s σ H vs us Q I r h
  obtain ⟨v, vr, e1, h⟩ := h
  subst e1
  cases r with
  | cons r rr =>
    rw [hs]
    refine assignInOrder_cons (thn (h1 pins s σ H _ _ _ I r h) fun _ s1 ⟨σ1, H1, I1, q1⟩ => ?_)
    exact h2 pins s1 σ1 H1 _ _ Q I1 rr q1
/-- (a, b, ..) = a tuple of that length -/
def gTup (K : PySem.W.Frag) (n : Nat) (t : TGs) : TG := fun v σ H Q => ∃ a xs, v = .ref a ∧ SqT K H a xs ∧ xs.length = n ∧ t xs σ H Q
theorem pg_tup {es : List Expr} {k : Nat} {t : TGs} {n : Nat} (hc : X.calm = true) (h : PGs X es t)
    (hn : (assignEach es X.env).length = n := by rfl) (hst : (assignEach es X.env).findIdx? (·.1) = none := by rfl) : PG X (.Tuple es k pos) (gTup X.K n t) := by
  intro pins s σ H v u Q I r hw
  obtain ⟨a, xs, e1, hq, hl, hw⟩ := hw
  subst e1
  cases r
  obtain ⟨its, rv, ht, hz⟩ := I.tuple hq
  refine assign_Tuple_tuple (I.ok.hd hc) ht (by simp [hn, ← hl, rv.length]) hst fun h' hx => ?_
  have I1 : Inv X pins σ H { s with heap := h' } := I.kept (t' := s.toks) fun b o e => hx b o (Nat.ne_of_lt (Heap.lt_size e)) e
  exact h pins _ σ H xs _ Q I1 (by simpa using rv) hw
/-- o[i] = .. -/
def gSub (to ti : TE) (t : TSet) : TG := fun v σ H Q => to σ H fun o H1 => ti σ H1 fun i H2 => t o i v H2 fun H3 => Q σ H3
theorem pg_sub {o i : Expr} {to ti : TE} {t : TSet} (ho : PE X o to) (hi : PE X i ti) (hs : PSet X t)
    (ha : ∀ v, assign (.Subscript o i pos) X.env v = (do
      let ov ← holding [v] (eval o X.env)
      let iv ← holding [v, ov] (eval i X.env)
      standAt pos
      holding [v, ov, iv] (setItem ov iv v)
      release [v, ov, iv] []) := by intro _; rfl) : PG X (.Subscript o i pos) (gSub to ti t) := by
  intro pins s σ H v u Q I r h
  rw [ha]
  refine wpAny_bind (wpAny_holding (thn (ho pins s σ H _ I h) fun ov s1 ⟨x, H1, I1, r1, q1⟩ => ?_))
  refine wpAny_bind (wpAny_holding (thn (hi pins s1 σ H1 _ I1 q1) fun iv s2 ⟨y, H2, I2, r2, q2⟩ => ?_))
  refine wpAny_bind (wpAny_standAt (wpAny_bind (wpAny_holding (thn (hs pins s2 σ H2 x y v ov iv u _ I2 r1 r2 r q2) fun _ s3 ⟨H3, I3, q3⟩ => ?_))))
  exact wpAny_release ⟨σ, H3, I3, q3⟩
/-- target = value -/
def tAsg (te : TE) (g : TG) : TS := fun D σ H => te σ H fun x H1 => g x σ H1 D.nx
theorem ps_asg {tg e : Expr} {te : TE} {g : TG} (he : PE X e te) (hg : PG X tg g) (hs : swapsWithSole [tg] e pos.line X.env = pure false := by rfl) (hw : swappedStores [tg] e X.env = pure none := by rfl)
    (h1 : (assignEach [tg] X.env).map (·.2) = [assign tg X.env] := by rfl) : PS X (.Assign [tg] e pos) (tAsg te g) := by
  intro pins s σ H D I h
  refine wpAny_Assign_stores (thn (he pins s σ H _ I h) fun v s1 ⟨x, H1, I1, r1, q1⟩ => ?_) hs hw
  rw [h1]
  exact thn (hg pins s1 σ H1 x v _ I1 r1 q1) fun _ s2 q => q
/-- name = value -/
theorem ps_set {i : Nat} {x : Str} {e : Expr} {te : TE} {pos' : Pos} (hN : X.N.Nodup) (hi : X.N[i]? = some x) (hx : Loc X.env.scope x) (he : PE X e te) (hs : swapsWith e (some (.Name x pos')) pos.line X.env = pure false := by rfl) (hf : X.fn x = true ∨ X.env.scope.names.lookup x = some .local := by first | exact .inl rfl | exact .inr rfl | assumption) :
    PS X (.Assign [.Name x pos'] e pos) (tAsg te (gName i)) := by
  intro pins s σ H D I h
  refine wpAny_Assign_Name (thn (he pins s σ H _ I h) fun v s1 ⟨y, H1, I1, r1, q1⟩ => ?_) hs
  exact store_ok I1 hN hi hx r1 (fun s2 I2 => ⟨_, H1, I2, q1⟩) hf
end

/-! ### while -/
section
variable {X : Cx} {pos : Pos}
/-- the invariant W with its measure -/
def tWhile (c : TT) (tb : TS) : TS := fun D σ H => ∃ W : Nat → St → Hp → Prop, (∃ m, W m σ H) ∧ ∀ m σ H, W m σ H →
  c σ H fun b H1 => if b = true then ∃ N : St → Hp → Prop, (∀ σ' H', N σ' H' → ∃ m', m' < m ∧ W m' σ' H') ∧ tb { D with nx := N, ct := N, bk := D.nx } σ H1 else D.nx σ H1
theorem ps_while {c : Expr} {body : List Stmt} {tc : TT} {tb : TS} (hp : PassesOwn (model X.prog X.w) X.A X.env X.xe) (hc : PT X c tc) (hb : PSs X body tb) : PS X (.While c body [] pos) (tWhile tc tb) := by
  intro pins s σ H D I h
  obtain ⟨W, ⟨m0, w0⟩, turn⟩ := h
  refine wpAny_While (codeAny_whileLoop (fun n s' => ∃ σ' H', Inv X pins σ' H' s' ∧ W n σ' H') ?_ m0 ⟨σ, H, I, w0⟩)
  rintro n s1 ⟨σ1, H1, I1, w1⟩
  refine wpAny_passesOwn hp (thn (hc pins s1 σ1 H1 _ I1 (turn n σ1 H1 w1)) fun b s2 ⟨H2, I2, q2⟩ => ?_)
  cases b with
  | true =>
    obtain ⟨N, hN, q2⟩ := q2
    rw [if_pos rfl]
    refine wpAny_passesOwn hp (thn (hb pins s2 σ1 H2 _ I2 q2) fun f s3 q3 => ?_)
    cases f with
    | next =>
      obtain ⟨σ3, H3, I3, n3⟩ := q3
      obtain ⟨m', hm, w3⟩ := hN σ3 H3 n3
      exact ⟨m', hm, σ3, H3, I3, w3⟩
    | cont =>
      obtain ⟨σ3, H3, I3, n3⟩ := q3
      obtain ⟨m', hm, w3⟩ := hN σ3 H3 n3
      exact ⟨m', hm, σ3, H3, I3, w3⟩
    | brk => exact q3
    | ret v => exact q3
  | false =>
    rw [if_neg Bool.false_ne_true]
    exact wpAny_execs_nil ⟨σ1, H2, I2, q2⟩
end

/-! ### what a loop or a comprehension walks -/
/-- at turn i: it yields x (the heap may grow), or it stops -/
structure It where
  go : Nat → Hp → Prop
  yld : Nat → Hp → V → Hp → Prop
  stop : Nat → Hp → Prop
/-- the iterator's own objects may turn: they are not the frame's, not pinned, younger than the entry (or a comprehension's own) -/
def FpOk (X : Cx) (pins : List (Addr × Obj)) (H : Hp) (b : Addr) : Prop :=
  H b = none ∧ b ≠ X.env.locals ∧ b ∉ X.fs ∧ (b ∈ X.ex ∨ X.s₀.heap.objs.size ≤ b) ∧ (∀ x c, X.env.cells.lookup x = some c → c ≠ b) ∧ ∀ p ∈ X.pn ++ pins, p.1 ≠ b
theorem Inv.fpOk {X : Cx} {pins : List (Addr × Obj)} {σ : St} {H H' : Hp} {s : Shared} {b : Addr} (I : Inv X pins σ H s) (hb : s.heap.objs.size ≤ b) (hn : H' b = none) : FpOk X pins H' b := by
  refine ⟨hn, Nat.ne_of_gt (Nat.lt_of_lt_of_le I.lt hb), I.nofs hb, .inr (Nat.le_trans I.sz hb), fun x c e z => ?_, fun p hp z => ?_⟩
  · obtain ⟨v, q⟩ := I.cell x c e
    exact absurd (Nat.lt_of_lt_of_le q.lt (by rw [z]; exact hb)) (Nat.lt_irrefl _)
  · exact absurd (Nat.lt_of_lt_of_le (Heap.lt_size (I.pin p hp).1) (by rw [z]; exact hb)) (Nat.lt_irrefl _)
structure Turn (P : Program) (w : World) (K : PySem.W.Frag) (tg : Expr) (J : It) (fp : List Addr) (it : Addr) (tn : Nat → Heap → Prop) : Prop where
  mem : it ∈ fp
  obj : ∀ i h, tn i h → ∀ b ∈ fp, ∃ o, h.get? b = some o ∧ ∀ v, o.data ≠ .cell v
  keep : ∀ i h h', tn i h → (∀ b ∈ fp, ∀ o, h.get? b = some o → h'.get? b = some o) → tn i h'
  item : ∀ (X : Cx), X.prog = P → X.w = w → X.K = K → X.calm = true → ∀ (i : Nat) (pins : List (Addr × Obj)) (s : Shared) (σ : St) (H : Hp) (E : Value → Shared → Prop), Inv X pins σ H s → (∀ b ∈ fp, FpOk X pins H b) → tn i s.heap → J.go i H →
    wpAny (model P w) X.A (pyNext (.ref it)) (fun r s1 => ∃ u, r = some u ∧
      wpAny (model P w) X.A (letOwnedTupleGo tg (.ref it) u) (fun _ s2 => ∃ x H', Inv X pins σ H' s2 ∧ RelV x u ∧ J.yld i H x H' ∧ tn (i + 1) s2.heap ∧ ∀ b ∈ fp, H' b = none) E s1) E s
  done : ∀ (X : Cx), X.prog = P → X.w = w → X.K = K → X.calm = true → ∀ (i : Nat) (pins : List (Addr × Obj)) (s : Shared) (σ : St) (H : Hp) (E : Value → Shared → Prop), Inv X pins σ H s → (∀ b ∈ fp, FpOk X pins H b) → tn i s.heap → J.stop i H →
    wpAny (model P w) X.A (pyNext (.ref it)) (fun r s1 => r = none ∧ Inv X pins σ H s1) E s
  self : ∀ (A : Around) (i : Nat) (s : Shared) (Q : Value → Shared → Prop) (E : Value → Shared → Prop), tn i s.heap → Q (.ref it) s → wpAny (model P w) A (pyIter (.ref it)) Q E s
abbrev TI := St → Hp → (It → Hp → Prop) → Prop
/-- an iterator has come -/
def PIE (X : Cx) (pins : List (Addr × Obj)) (σ : St) (tg : Expr) (R : It → Hp → Prop) (itv : Value) (s2 : Shared) : Prop :=
  ∃ (it : Addr) (fp : List Addr) (tn : Nat → Heap → Prop) (J : It) (H' : Hp), itv = .ref it ∧ Inv X pins σ H' s2 ∧ Turn X.prog X.w X.K tg J fp it tn ∧ tn 0 s2.heap ∧ (∀ b ∈ fp, FpOk X pins H' b) ∧ R J H'
def PI (X : Cx) (tg iter : Expr) (wi : TI) : Prop :=
  ∀ (pins : List (Addr × Obj)) (s : Shared) (σ : St) (H : Hp) (R : It → Hp → Prop), Inv X pins σ H s → wi σ H R →
    wpAny (model X.prog X.w) X.A (eval iter X.env) (fun v s1 => wpAny (model X.prog X.w) X.A (pyIter v) (PIE X pins σ tg R) X.xe s1) X.xe s

/-- the step ahead of the store is nothing for an iterator that keeps no tuple -/
theorem go_of {M : Model} {A : Around} {E : Value → Shared → Prop} {s : Shared} {tg : Expr} {it : Addr} {u : Value} {o : Obj} {n : String} {vs : Array Value} {Q : Unit → Shared → Prop} (ho : s.heap.get? it = some o) (hc : o.cls = .type n) (hd : o.data = .fields vs)
    (hn : ["enumerate", "zip", "dict_itemiterator", "dict_reverseitemiterator", "odict_iterator", "itertools.zip_longest", "itertools.pairwise"].contains n = false) (hQ : Q () s) : wpAny M A (letOwnedTupleGo tg (.ref it) u) Q E s := by
  unfold letOwnedTupleGo
  cases tg <;> first
    | exact wpAny_pure hQ
    | (cases u <;> first
        | exact wpAny_pure hQ
        | (refine wpAny_bind (wpAny_load ho ?_)
           rw [hc, hd]
           show wpAny M A (if (["enumerate", "zip", "dict_itemiterator", "dict_reverseitemiterator", "odict_iterator", "itertools.zip_longest", "itertools.pairwise"].contains n && vs[0]? == some (rawInt _)) = true then _ else _) Q E s
           rw [if_neg (by intro h; rw [hn, Bool.false_and] at h; cases h)]
           exact wpAny_pure hQ))

/-- the list at a, as it stands at each turn (a loop may append to it) -/
def Itl (K : PySem.W.Frag) (a : Addr) : It :=
  ⟨fun i H => ∃ xs x, SqL K H a xs ∧ xs[i]? = some x, fun i H x H' => H' = H ∧ ∀ xs, SqL K H a xs → xs[i]? = some x, fun i H => ∃ xs, SqL K H a xs ∧ xs.length ≤ i⟩
def Itt (K : PySem.W.Frag) (a : Addr) : It :=
  ⟨fun i H => ∃ xs x, SqT K H a xs ∧ xs[i]? = some x, fun i H x H' => H' = H ∧ ∀ xs, SqT K H a xs → xs[i]? = some x, fun i H => ∃ xs, SqT K H a xs ∧ xs.length ≤ i⟩
/-- lo, lo + 1, .. (n of them) -/
def Itr (lo : Int) (n : Nat) : It := ⟨fun i _ => i < n, fun i H x H' => H' = H ∧ x = .int (lo + i), fun i _ => n ≤ i⟩
theorem turn_list {P : Program} {w : World} {K : PySem.W.Frag} {tg : Expr} (a it : Addr) : Turn P w K tg (Itl K a) [it] it (fun i h => h.IsListIter it a i) where
  mem := by simp
  obj := fun i h st b hb => by
    have e : b = it := by simpa using hb
    subst e
    obtain ⟨o, e, c, d⟩ := st
    exact ⟨o, e, fun v z => by rw [d] at z; cases z⟩
  keep := fun i h h' st k => st.at fun o e => k it (by simp) o e
  item := by
    intro X hP hw hK hc i pins s σ H E I hf st hg
    subst hP hw hK
    obtain ⟨xs, x, hq, hx⟩ := hg
    obtain ⟨its, rv, p, hz⟩ := I.list hq
    obtain ⟨u, hu, ru⟩ := rv.get hx
    obtain ⟨f0, f1, f2, f3, f4, f5⟩ := hf it (by simp)
    refine wpAny_pyNext_list_item st p.isList (x := u) (by simpa using hu) fun h' st' sb => ?_
    have I1 : Inv X pins σ H { s with heap := h' } := I.turned (t' := s.toks) (fun b o hb e => (sb.2 b hb).trans e) f0 f1 f3 f4 f5
    obtain ⟨o, e, c, d⟩ := id st'
    exact ⟨u, rfl, go_of (s := { s with heap := h' }) e c d (by decide) ⟨x, H, I1, ru, ⟨rfl, fun ys hy => by rw [I.list_inj hy hq]; exact hx⟩, st', fun b hb => (hf b hb).1⟩⟩
  done := by
    intro X hP hw hK hc i pins s σ H E I hf st hg
    subst hP hw hK
    obtain ⟨xs, hq, hx⟩ := hg
    obtain ⟨its, rv, p, hz⟩ := I.list hq
    obtain ⟨f0, f1, f2, f3, f4, f5⟩ := hf it (by simp)
    have hl := rv.length
    exact wpAny_pyNext_list_end (I.ok.hd hc) st p.isList (by simp; omega) fun h' eb => ⟨rfl, I.turned (t' := s.toks) (fun b o hb e => eb b o hb e) f0 f1 f3 f4 f5⟩
  self := fun _ _ _ _ _ st h => wpAny_pyIter_listiter st h
theorem turn_tuple {P : Program} {w : World} {K : PySem.W.Frag} {tg : Expr} (a it : Addr) : Turn P w K tg (Itt K a) [it] it (fun i h => h.IsTupleIter it a i) where
  mem := by simp
  obj := fun i h st b hb => by
    have e : b = it := by simpa using hb
    subst e
    obtain ⟨o, e, c, d⟩ := st
    exact ⟨o, e, fun v z => by rw [d] at z; cases z⟩
  keep := fun i h h' st k => st.at fun o e => k it (by simp) o e
  item := by
    intro X hP hw hK hc i pins s σ H E I hf st hg
    subst hP hw hK
    obtain ⟨xs, x, hq, hx⟩ := hg
    obtain ⟨its, rv, p, hz⟩ := I.tuple hq
    obtain ⟨u, hu, ru⟩ := rv.get hx
    obtain ⟨f0, f1, f2, f3, f4, f5⟩ := hf it (by simp)
    refine wpAny_pyNext_tuple_item st (show s.heap.IsTuple a its.toArray from p) (x := u) (by simpa using hu) fun h' st' sb => ?_
    have I1 : Inv X pins σ H { s with heap := h' } := I.turned (t' := s.toks) (fun b o hb e => (sb.2 b hb).trans e) f0 f1 f3 f4 f5
    obtain ⟨o, e, c, d⟩ := id st'
    exact ⟨u, rfl, go_of (s := { s with heap := h' }) e c d (by decide) ⟨x, H, I1, ru, ⟨rfl, fun ys hy => by rw [I.tuple_inj hy hq]; exact hx⟩, st', fun b hb => (hf b hb).1⟩⟩
  done := by
    intro X hP hw hK hc i pins s σ H E I hf st hg
    subst hP hw hK
    obtain ⟨xs, hq, hx⟩ := hg
    obtain ⟨its, rv, p, hz⟩ := I.tuple hq
    obtain ⟨f0, f1, f2, f3, f4, f5⟩ := hf it (by simp)
    have hl := rv.length
    exact wpAny_pyNext_tuple_end (I.ok.hd hc) st (show s.heap.IsTuple a its.toArray from p) (by simp; omega) fun h' eb => ⟨rfl, I.turned (t' := s.toks) (fun b o hb e => eb b o hb e) f0 f1 f3 f4 f5⟩
  self := fun _ _ _ _ _ st h => wpAny_pyIter_tupleiter st h
theorem turn_range {P : Program} {w : World} {K : PySem.W.Frag} {tg : Expr} (it : Addr) (lo : Int) (n : Nat) : Turn P w K tg (Itr lo n) [it] it (fun i h => IsRangeIter h it (lo + (i : Nat) * 1) ((n : Int) - (i : Nat)) 1) where
  mem := by simp
  obj := fun i h st b hb => by
    have e : b = it := by simpa using hb
    subst e
    exact ⟨_, st, fun v z => by
      have z' : Data.fields _ = Data.cell v := z
      cases z'⟩
  keep := fun i h h' st k => k it (by simp) _ st
  item := by
    intro X hP hw hK hc i pins s σ H E I hf st hg
    subst hP hw hK
    obtain ⟨f0, f1, f2, f3, f4, f5⟩ := hf it (by simp)
    have W := Walks.range (prog := X.prog) (w := X.w) (I.ok.hd hc) it lo 1 n
    refine W.item i s _ _ hg st fun v h' tk hv st' kk => ?_
    obtain ⟨t, rfl⟩ := hv
    have I1 : Inv X pins σ H { s with heap := h', toks := tk } := I.turned (fun b o hb e => kk b o (by simpa using hb) e) f0 f1 f3 f4 f5
    refine ⟨_, rfl, go_of (s := { s with heap := h', toks := tk }) (n := "range_iterator") st' rfl rfl (by decide) ⟨.int (lo + i), H, I1, ⟨t, ?_⟩, ⟨rfl, rfl⟩, st', fun b hb => (hf b hb).1⟩⟩
    rw [Int.mul_one]
  done := by
    intro X hP hw hK hc i pins s σ H E I hf st hg
    subst hP hw hK
    obtain ⟨f0, f1, f2, f3, f4, f5⟩ := hf it (by simp)
    exact wpAny_pyNext_range_end (I.ok.hd hc) st (by have : n ≤ i := hg; omega) fun h' eb => ⟨rfl, I.turned (t' := s.toks) (fun b o hb e => eb b o hb e) f0 f1 f3 f4 f5⟩
  self := fun _ _ _ _ _ st h => wpAny_pyIter_rangeiter st h
end L2

namespace L2
open PySem PySem.Spec PyProof.Rows
section
variable {X : Cx} {tg : Expr}
def iList (K : PySem.W.Frag) (tl : TE) : TI := fun σ H R => tl σ H fun x H1 => ∃ a, x = .ref a ∧ (∃ xs, SqL K H1 a xs) ∧ R (Itl K a) H1
def iTup (K : PySem.W.Frag) (tl : TE) : TI := fun σ H R => tl σ H fun x H1 => ∃ a, x = .ref a ∧ (∃ xs, SqT K H1 a xs) ∧ R (Itt K a) H1
theorem pi_list {l : Expr} {tl : TE} (hl : PE X l tl) : PI X tg l (iList X.K tl) := by
  intro pins s σ H R I h
  refine thn (hl pins s σ H _ I h) fun v s1 ⟨x, H1, I1, r1, q1⟩ => ?_
  obtain ⟨a, e, ⟨xs, hq⟩, q⟩ := q1
  subst e
  cases r1
  obtain ⟨its, rv, p, hz⟩ := I1.list hq
  refine wpAny_pyIter_list p.isList ?_
  refine ⟨s1.heap.objs.size, [s1.heap.objs.size], _, _, H1, rfl, I1.kept (t' := s1.toks) fun b o e => Heap.get?_push_of_some _ e, turn_list a _, ⟨_, Heap.get?_push_size _ rfl, rfl, rfl⟩, fun b hb => ?_, q⟩
  have e : b = s1.heap.objs.size := by simpa using hb
  subst e
  exact I1.fpOk (Nat.le_refl _) (I1.hok.fresh (Nat.le_refl _))
theorem pi_tup {l : Expr} {tl : TE} (hl : PE X l tl) : PI X tg l (iTup X.K tl) := by
  intro pins s σ H R I h
  refine thn (hl pins s σ H _ I h) fun v s1 ⟨x, H1, I1, r1, q1⟩ => ?_
  obtain ⟨a, e, ⟨xs, hq⟩, q⟩ := q1
  subst e
  cases r1
  obtain ⟨its, rv, p, hz⟩ := I1.tuple hq
  refine wpAny_pyIter_tuple (show s1.heap.IsTuple a its.toArray from p) ?_
  refine ⟨s1.heap.objs.size, [s1.heap.objs.size], _, _, H1, rfl, I1.kept (t' := s1.toks) fun b o e => Heap.get?_push_of_some _ e, turn_tuple a _, ⟨_, Heap.get?_push_size _ rfl, rfl, rfl⟩, fun b hb => ?_, q⟩
  have e : b = s1.heap.objs.size := by simpa using hb
  subst e
  exact I1.fpOk (Nat.le_refl _) (I1.hok.fresh (Nat.le_refl _))
/-- a range object just made, walked -/
theorem range_it {pins : List (Addr × Obj)} {σ : St} {H : Hp} {s : Shared} {R : It → Hp → Prop} {E : Value → Shared → Prop} {lo hi : Int} {t u v : Tok} {tk : Nat} (I : Inv X pins σ H s) (h1 : -(2 ^ 62) ≤ lo) (h2 : lo < 2 ^ 62) (h3 : -(2 ^ 62) ≤ hi) (h4 : hi < 2 ^ 62)
    (q : R (Itr lo (hi - lo).toNat) H) : wpAny (model X.prog X.w) X.A (pyIter (.ref s.heap.objs.size)) (PIE X pins σ tg R) E { s with heap := s.heap.push { cls := .type "range", data := .fields #[.int lo t, .int hi u, .int 1 v] }, toks := tk } := by
  refine wpAny_pyIter_range (IsRange.new ..) (small_one h1 h2 h3 h4) ?_
  have I1 : Inv X pins σ H { s with heap := s.heap.push { cls := .type "range", data := .fields #[.int lo t, .int hi u, .int 1 v] }, toks := tk } := I.kept fun b o e => Heap.get?_push_of_some _ e
  refine ⟨(s.heap.push { cls := .type "range", data := .fields #[.int lo t, .int hi u, .int 1 v] }).objs.size, [(s.heap.push { cls := .type "range", data := .fields #[.int lo t, .int hi u, .int 1 v] }).objs.size], _, _, H, rfl,
    I1.kept (t' := tk) fun b o e => Heap.get?_push_of_some _ e, turn_range _ lo (hi - lo).toNat, ?_, fun b hb => ?_, q⟩
  · have e1 : lo + ((0 : Nat) : Int) * 1 = lo := by simp
    have e2 : (((hi - lo).toNat : Nat) : Int) - ((0 : Nat) : Int) = Builtin.Range.rangeSize lo hi 1 := by rw [rangeSize_one]; split <;> omega
    show IsRangeIter _ _ (lo + ((0 : Nat) : Int) * 1) ((((hi - lo).toNat : Nat) : Int) - ((0 : Nat) : Int)) 1
    rw [e1, e2]
    exact Heap.get?_push_size _ rfl
  · have e : b = (s.heap.push { cls := .type "range", data := .fields #[.int lo t, .int hi u, .int 1 v] }).objs.size := by simpa using hb
    subst e
    exact I1.fpOk (Nat.le_refl _) (I1.hok.fresh (Nat.le_refl _))
def iRng1 (ta : TA) : TI := fun σ H R => ta σ H fun vs H1 => ∃ j : Int, vs = [.int j] ∧ -(2 ^ 62) ≤ j ∧ j < 2 ^ 62 ∧ R (Itr 0 j.toNat) H1
def iRng2 (ta : TA) : TI := fun σ H R => ta σ H fun vs H1 => ∃ i j : Int, vs = [.int i, .int j] ∧ (-(2 ^ 62) ≤ i ∧ i < 2 ^ 62 ∧ -(2 ^ 62) ≤ j ∧ j < 2 ^ 62) ∧ R (Itr i (j - i).toNat) H1
theorem pi_range1 {a : Expr} {ta : TA} {p pos : Pos} (hg : Gl X "range") (hm : X.mg "range" = none) (ha : PA X [a] ta) (hs : starEach [a] X.env = [(false, eval a X.env)] := by rfl) : PI X tg (.Call (.Name "range" p) [a] [] pos) (iRng1 ta) := by
  intro pins s σ H R I h
  refine Call_ (ld_blt I hg hm boot_range (PyProof.Rows.callWith_type1 (thn (ha pos pins s σ H _ I h) fun us s1 ⟨vs, H1, I1, r1, q1⟩ => ?_) hs rfl))
  obtain ⟨j, e, q1, q2, q⟩ := q1
  subst e
  cases r1 with
  | cons r rr =>
    cases rr
    obtain ⟨t, rfl⟩ := r
    exact call_range_1 (range_it I1 (by omega) (by omega) q1 q2 (by simpa using q))
theorem pi_range2 {a b : Expr} {ta : TA} {p pos : Pos} (hg : Gl X "range") (hm : X.mg "range" = none) (ha : PA X [a, b] ta) (hs : starEach [a, b] X.env = [(false, eval a X.env), (false, eval b X.env)] := by rfl) (hs2 : starEach [b] X.env = [(false, eval b X.env)] := by rfl) :
    PI X tg (.Call (.Name "range" p) [a, b] [] pos) (iRng2 ta) := by
  intro pins s σ H R I h
  refine Call_ (ld_blt I hg hm boot_range (PyProof.Rows.callWith_type1 (thn (ha pos pins s σ H _ I h) fun us s1 ⟨vs, H1, I1, r1, q1⟩ => ?_) (by rw [hs, hs2]) (by rw [hs2]; rfl)))
  obtain ⟨i, j, e, ⟨q1, q2, q3, q4⟩, q⟩ := q1
  subst e
  cases r1 with
  | cons r rr =>
    cases rr with
    | cons r' rr =>
      cases rr
      obtain ⟨t, rfl⟩ := r
      obtain ⟨t', rfl⟩ := r'
      exact call_range_2 (range_it I1 q1 q2 q3 q4 q)

/-! ### for -/
/-- W: the invariant by the turn and a measure; N: what the body is to reach -/
def tFor (wi : TI) (g : TG) (tb : TS) : TS := fun D σ H => wi σ H fun J H1 => ∃ W : Nat → Nat → St → Hp → Prop, (∃ m, W 0 m σ H1) ∧ ∀ i m σ H, W i m σ H →
  (J.stop i H ∧ D.nx σ H) ∨ (J.go i H ∧ ∃ N : St → Hp → Prop, (∀ σ' H', N σ' H' → ∃ m', m' < m ∧ W (i + 1) m' σ' H') ∧ ∀ x H', J.yld i H x H' → g x σ H' fun σ2 H2 => tb { D with nx := N, ct := N, bk := D.nx } σ2 H2)
/-- the records at fp as they stand -/
def pinsAt (fp : List Addr) (h : Heap) : List (Addr × Obj) := fp.filterMap fun b => (h.get? b).map fun o => (b, o)
theorem mem_pinsAt {fp : List Addr} {h : Heap} {b : Addr} {o : Obj} (hb : b ∈ fp) (e : h.get? b = some o) : (b, o) ∈ pinsAt fp h := List.mem_filterMap.mpr ⟨b, hb, by rw [e]; rfl⟩
theorem of_pinsAt {fp : List Addr} {h : Heap} {p : Addr × Obj} (hp : p ∈ pinsAt fp h) : p.1 ∈ fp ∧ h.get? p.1 = some p.2 := by
  obtain ⟨b, hb, e⟩ := List.mem_filterMap.mp hp
  cases q : h.get? b with
  | none => rw [q] at e; cases e
  | some o =>
    rw [q] at e
    have e' : (b, o) = p := Option.some.inj e
    subst e'
    exact ⟨hb, q⟩
theorem Inv.pinned {pins : List (Addr × Obj)} {σ : St} {H : Hp} {s : Shared} {fp : List Addr} (I : Inv X pins σ H s) (hf : ∀ b ∈ fp, FpOk X pins H b) (ho : ∀ b ∈ fp, ∃ o, s.heap.get? b = some o ∧ ∀ v, o.data ≠ .cell v) : Inv X (pins ++ pinsAt fp s.heap) σ H s :=
  I.pins_of fun p hp => (List.mem_append.mp hp).elim (fun z => I.pin p (List.mem_append_right _ z)) fun z => by
    obtain ⟨hb, e⟩ := of_pinsAt z
    obtain ⟨f0, f1, f2, _⟩ := hf p.1 hb
    obtain ⟨o, e', d⟩ := ho p.1 hb
    rw [e] at e'; cases e'
    exact ⟨e, f0, f1, f2, d⟩
theorem Inv.unpinned {pins pl : List (Addr × Obj)} {σ : St} {H : Hp} {s : Shared} (I : Inv X (pins ++ pl) σ H s) : Inv X pins σ H s := I.pins_of fun p hp => I.pin p (List.mem_append_right _ (List.mem_append_left _ hp))
theorem ps_for {iter : Expr} {body : List Stmt} {wi : TI} {g : TG} {tb : TS} {pos : Pos} (hp : PassesOwn (model X.prog X.w) X.A X.env X.xe) (hc : X.calm = true) (hi : PI X tg iter wi) (hg : PG X tg g) (hb : PSs X body tb)
    (hs : ∀ x, foldedSetIterable iter X.env x = pure x := by intro _; rfl) : PS X (.For tg iter body [] pos) (tFor wi g tb) := by
  intro pins s σ H D I h
  refine wpAny_For (thn (hi pins s σ H _ I h) fun v s1 h1 => thn h1 fun itv s2 h2 => ?_) hs
  obtain ⟨it, fp, tn, J, H2, e, I2, T, st2, f2, W, ⟨m0, w0⟩, turn⟩ := h2
  subst e
  -- what stays true of the iterator's objects through the loop
  have stat : ∀ {H' : Hp}, (∀ b ∈ fp, H' b = none) → ∀ b ∈ fp, FpOk X pins H' b := fun hn b hb => ⟨hn b hb, (f2 b hb).2⟩
  refine codeAny_forLoop_any (fun n s' => ∃ i σ' H', Inv X pins σ' H' s' ∧ tn i s'.heap ∧ (∀ b ∈ fp, H' b = none) ∧ W i n σ' H') ?_ m0 ⟨0, σ, H2, I2, st2, fun b hb => (f2 b hb).1, w0⟩
  rintro n s3 ⟨i, σ3, H3, I3, st3, fr3, w3⟩
  rcases turn i n σ3 H3 w3 with ⟨stop, qn⟩ | ⟨go, N, hN, step⟩
  · refine wpAny_passesOwn hp (thn (T.done X rfl rfl rfl hc i pins s3 σ3 H3 X.xe I3 (stat fr3) st3 stop) fun r s4 ⟨hr, I4⟩ => ?_)
    subst hr
    exact wpAny_execs_nil ⟨σ3, H3, I4, qn⟩
  · refine wpAny_passesOwn hp (thn (T.item X rfl rfl rfl hc i pins s3 σ3 H3 X.xe I3 (stat fr3) st3 go) fun r s4 ⟨u, hr, h4⟩ => ?_)
    subst hr
    refine wpAny_passesOwn hp (thn h4 fun _ s5 ⟨x, H5, I5, r5, y5, st5, fr5⟩ => ?_)
    have I5' := I5.pinned (stat fr5) (T.obj _ _ st5)
    refine wpAny_passesOwn hp (thn (hg _ s5 σ3 H5 x u _ I5' r5 (step x H5 y5)) fun _ s6 ⟨σ6, H6, I6, q6⟩ => ?_)
    refine wpAny_passesOwn hp (thn (hb _ s6 σ6 H6 _ I6 q6) fun f s7 q7 => ?_)
    have again : ∀ {σ7 : St} {H7 : Hp}, Inv X (pins ++ pinsAt fp s5.heap) σ7 H7 s7 → N σ7 H7 → ∃ m, m < n ∧ ∃ i σ' H', Inv X pins σ' H' s7 ∧ tn i s7.heap ∧ (∀ b ∈ fp, H' b = none) ∧ W i m σ' H' := fun {σ7 H7} I7 n7 => by
      obtain ⟨m', hm, w7⟩ := hN σ7 H7 n7
      refine ⟨m', hm, i + 1, σ7, H7, I7.unpinned, T.keep _ _ _ st5 fun b hb o e => (I7.pin (b, o) (List.mem_append_right _ (List.mem_append_right _ (mem_pinsAt hb e)))).1, fun b hb => ?_, w7⟩
      obtain ⟨o, e, d⟩ := T.obj _ _ st5 b hb
      exact (I7.pin (b, o) (List.mem_append_right _ (List.mem_append_right _ (mem_pinsAt hb e)))).2.1
    cases f with
    | next => obtain ⟨σ7, H7, I7, n7⟩ := q7; exact again I7 n7
    | cont => obtain ⟨σ7, H7, I7, n7⟩ := q7; exact again I7 n7
    | brk => obtain ⟨σ7, H7, I7, q7⟩ := q7; exact ⟨σ7, H7, I7.unpinned, q7⟩
    | ret v => obtain ⟨x7, σ7, H7, I7, r7, q7⟩ := q7; exact ⟨x7, σ7, H7, I7.unpinned, r7, q7⟩
end

/-! ### the forms one uses -/
/-- over a list that the body leaves as it is -/
theorem for_list {K : PySem.W.Frag} {a : Addr} {xs : List V} {g : TG} {tb : TS} {D : Ends} {σ : St} {H : Hp} (Pv : Nat → St → Hp → Prop) (h0 : Pv 0 σ H) (hl : ∀ i σ H, i ≤ xs.length → Pv i σ H → SqL K H a xs)
    (hs : ∀ i x σ H, xs[i]? = some x → Pv i σ H → g x σ H fun σ2 H2 => tb { D with nx := Pv (i + 1), ct := Pv (i + 1), bk := D.nx } σ2 H2) (hd : ∀ σ H, Pv xs.length σ H → D.nx σ H) :
    ∃ W : Nat → Nat → St → Hp → Prop, (∃ m, W 0 m σ H) ∧ ∀ i m σ H, W i m σ H →
      ((Itl K a).stop i H ∧ D.nx σ H) ∨ ((Itl K a).go i H ∧ ∃ N : St → Hp → Prop, (∀ σ' H', N σ' H' → ∃ m', m' < m ∧ W (i + 1) m' σ' H') ∧ ∀ x H', (Itl K a).yld i H x H' → g x σ H' fun σ2 H2 => tb { D with nx := N, ct := N, bk := D.nx } σ2 H2) := by
  refine ⟨fun i m σ H => m = xs.length - i ∧ i ≤ xs.length ∧ Pv i σ H, ⟨xs.length, by simp, Nat.zero_le _, h0⟩, ?_⟩
  rintro i m σ H ⟨rfl, hi, p⟩
  have q := hl i σ H hi p
  by_cases hlt : i < xs.length
  · refine .inr ⟨⟨xs, xs[i], q, by simp [hlt]⟩, Pv (i + 1), fun σ' H' p' => ⟨xs.length - (i + 1), by omega, rfl, hlt, p'⟩, fun x H' y => ?_⟩
    obtain ⟨e, y⟩ := y
    subst e
    exact hs i x σ _ (y xs q) p
  · have e : i = xs.length := by omega
    subst e
    exact .inl ⟨⟨xs, q, Nat.le_refl _⟩, hd σ H p⟩
theorem for_tup {K : PySem.W.Frag} {a : Addr} {xs : List V} {g : TG} {tb : TS} {D : Ends} {σ : St} {H : Hp} (Pv : Nat → St → Hp → Prop) (h0 : Pv 0 σ H) (hl : ∀ i σ H, i ≤ xs.length → Pv i σ H → SqT K H a xs)
    (hs : ∀ i x σ H, xs[i]? = some x → Pv i σ H → g x σ H fun σ2 H2 => tb { D with nx := Pv (i + 1), ct := Pv (i + 1), bk := D.nx } σ2 H2) (hd : ∀ σ H, Pv xs.length σ H → D.nx σ H) :
    ∃ W : Nat → Nat → St → Hp → Prop, (∃ m, W 0 m σ H) ∧ ∀ i m σ H, W i m σ H →
      ((Itt K a).stop i H ∧ D.nx σ H) ∨ ((Itt K a).go i H ∧ ∃ N : St → Hp → Prop, (∀ σ' H', N σ' H' → ∃ m', m' < m ∧ W (i + 1) m' σ' H') ∧ ∀ x H', (Itt K a).yld i H x H' → g x σ H' fun σ2 H2 => tb { D with nx := N, ct := N, bk := D.nx } σ2 H2) := by
  refine ⟨fun i m σ H => m = xs.length - i ∧ i ≤ xs.length ∧ Pv i σ H, ⟨xs.length, by simp, Nat.zero_le _, h0⟩, ?_⟩
  rintro i m σ H ⟨rfl, hi, p⟩
  have q := hl i σ H hi p
  by_cases hlt : i < xs.length
  · refine .inr ⟨⟨xs, xs[i], q, by simp [hlt]⟩, Pv (i + 1), fun σ' H' p' => ⟨xs.length - (i + 1), by omega, rfl, hlt, p'⟩, fun x H' y => ?_⟩
    obtain ⟨e, y⟩ := y
    subst e
    exact hs i x σ _ (y xs q) p
  · have e : i = xs.length := by omega
    subst e
    exact .inl ⟨⟨xs, q, Nat.le_refl _⟩, hd σ H p⟩
theorem for_range {lo : Int} {n : Nat} {g : TG} {tb : TS} {D : Ends} {σ : St} {H : Hp} (Pv : Nat → St → Hp → Prop) (h0 : Pv 0 σ H)
    (hs : ∀ i σ H, i < n → Pv i σ H → g (.int (lo + i)) σ H fun σ2 H2 => tb { D with nx := Pv (i + 1), ct := Pv (i + 1), bk := D.nx } σ2 H2) (hd : ∀ σ H, Pv n σ H → D.nx σ H) :
    ∃ W : Nat → Nat → St → Hp → Prop, (∃ m, W 0 m σ H) ∧ ∀ i m σ H, W i m σ H →
      ((Itr lo n).stop i H ∧ D.nx σ H) ∨ ((Itr lo n).go i H ∧ ∃ N : St → Hp → Prop, (∀ σ' H', N σ' H' → ∃ m', m' < m ∧ W (i + 1) m' σ' H') ∧ ∀ x H', (Itr lo n).yld i H x H' → g x σ H' fun σ2 H2 => tb { D with nx := N, ct := N, bk := D.nx } σ2 H2) := by
  refine ⟨fun i m σ H => m = n - i ∧ i ≤ n ∧ Pv i σ H, ⟨n, by simp, Nat.zero_le _, h0⟩, ?_⟩
  rintro i m σ H ⟨rfl, hi, p⟩
  by_cases hlt : i < n
  · refine .inr ⟨hlt, Pv (i + 1), fun σ' H' p' => ⟨n - (i + 1), by omega, rfl, hlt, p'⟩, fun x H' y => ?_⟩
    obtain ⟨e, y⟩ := y
    subst e y
    exact hs i σ _ hlt p
  · have e : i = n := by omega
    subst e
    exact .inl ⟨Nat.le_refl _, hd σ H p⟩
end L2

namespace L2
open PySem PySem.Spec PyProof.Rows

abbrev R2 := V → V → Hp → VK → Prop
/-- a two-place operation on values: f is binaryOp op, inplaceOp op or compareOp op -/
def OpR (X : Cx) (f : Value → Value → Sem Value) (r : R2) : Prop :=
  ∀ (pins : List (Addr × Obj)) (s : Shared) (σ : St) (H : Hp) (x y : V) (v u : Value) (Q : VK), Inv X pins σ H s → RelV x v → RelV y u → r x y H Q →
    wpAny (model X.prog X.w) X.A (f v u) (EP X pins σ Q) X.xe s
/-- a one-place operation -/
def UnR (X : Cx) (f : Value → Sem Value) (r : V → Hp → VK → Prop) : Prop :=
  ∀ (pins : List (Addr × Obj)) (s : Shared) (σ : St) (H : Hp) (x : V) (v : Value) (Q : VK), Inv X pins σ H s → RelV x v → r x H Q →
    wpAny (model X.prog X.w) X.A (f v) (EP X pins σ Q) X.xe s
/-- a call of a value that is known (a builtin, a type) with values -/
def CallR (X : Cx) (f : Value) (r : List V → Hp → VK → Prop) : Prop :=
  ∀ (pins : List (Addr × Obj)) (s : Shared) (σ : St) (H : Hp) (xs : List V) (us : List Value) (Q : VK), Inv X pins σ H s → Vals xs us → r xs H Q →
    wpAny (model X.prog X.w) X.A (call f us) (EP X pins σ Q) X.xe s
def tOp (r : R2) (ta tb : TE) : TE := fun σ H Q => ta σ H fun x H1 => tb σ H1 fun y H2 => r x y H2 Q
def tUn (r : V → Hp → VK → Prop) (ta : TE) : TE := fun σ H Q => ta σ H fun x H1 => r x H1 Q
/-- ints in, under C, and a value out -/
def rI (C : Int → Int → Prop) (g : Int → Int → V) : R2 := fun x y H Q => ∃ i j, x = .int i ∧ y = .int j ∧ C i j ∧ Q (g i j) H
def rI0 (g : Int → Int → V) : R2 := fun x y H Q => ∃ i j, x = .int i ∧ y = .int j ∧ Q (g i j) H
def rU (g : Int → V) : V → Hp → VK → Prop := fun x H Q => ∃ i, x = .int i ∧ Q (g i) H

section
variable {X : Cx} {a b c : Expr} {ta tb tc : TE} {pos : Pos}

theorem binT (ha : PE X a ta) (hb : PE X b tb) {pins : List (Addr × Obj)} {s : Shared} {σ : St} {H : Hp} {R : V → V → Hp → Prop} (I : Inv X pins σ H s)
    (h : ta σ H fun x H1 => tb σ H1 fun y H2 => R x y H2) {Q : Value → Shared → Prop} {f : Value → Value → Sem Value}
    (hf : ∀ v u s2 x y H2, Inv X pins σ H2 s2 → RelV x v → RelV y u → R x y H2 → wpAny (model X.prog X.w) X.A (f v u) Q X.xe s2) :
    wpAny (model X.prog X.w) X.A (eval a X.env) (fun v s₁ => wpAny (model X.prog X.w) X.A (eval b X.env) (fun u s₂ => wpAny (model X.prog X.w) X.A (f v u) Q X.xe s₂) X.xe s₁) X.xe s := by
  refine thn (ha pins s σ H _ I h) fun v s1 ⟨x, H1, I1, r1, q1⟩ => ?_
  refine thn (hb pins s1 σ H1 _ I1 q1) fun u s2 ⟨y, H2, I2, r2, q2⟩ => ?_
  exact hf v u s2 x y H2 I2 r1 r2 q2

theorem pe_op {op : Operator} {r : R2} (ho : OpR X (binaryOp op) r) (ha : PE X a ta) (hb : PE X b tb) : PE X (.BinOp a op b pos) (tOp r ta tb) := by
  intro pins s σ H Q I h
  exact wpAny_BinOp (binT ha hb I h fun v u s2 x y H2 I2 rx ry q => ho pins s2 σ H2 x y v u Q I2 rx ry q)
theorem pe_un {op : UnaryOp} {r : V → Hp → VK → Prop} (ho : UnR X (unaryOp op) r) (ha : PE X a ta) : PE X (.UnaryOp op a pos) (tUn r ta) := by
  intro pins s σ H Q I h
  exact UnaryOp_ (thn (ha pins s σ H _ I h) fun v s1 ⟨x, H1, I1, r1, q1⟩ => ho pins s1 σ H1 x v Q I1 r1 q1)
/-! ### ints -/
theorem opI {f : Value → Value → Sem Value} {C : Int → Int → Prop} {g : Int → Int → Int}
    (rule : ∀ (i j : Int) (t u : Tok) (s : Shared) (Q : Value → Shared → Prop) (E : Value → Shared → Prop), C i j → Q (.int (g i j) s.toks) { s with toks := s.toks + 1 } → wpAny (model X.prog X.w) X.A (f (.int i t) (.int j u)) Q E s) :
    OpR X f (rI C fun i j => .int (g i j)) := by
  intro pins s σ H x y v u Q I rx ry h
  obtain ⟨i, j, rfl, rfl, hc, q⟩ := h
  obtain ⟨t, rfl⟩ := rx
  obtain ⟨t', rfl⟩ := ry
  exact rule i j t t' s _ _ hc ⟨.int (g i j), H, I.tok _, ⟨_, rfl⟩, q⟩
theorem opI0 {f : Value → Value → Sem Value} {g : Int → Int → Int}
    (rule : ∀ (i j : Int) (t u : Tok) (s : Shared) (Q : Value → Shared → Prop) (E : Value → Shared → Prop), Q (.int (g i j) s.toks) { s with toks := s.toks + 1 } → wpAny (model X.prog X.w) X.A (f (.int i t) (.int j u)) Q E s) :
    OpR X f (rI0 fun i j => .int (g i j)) := by
  intro pins s σ H x y v u Q I rx ry h
  obtain ⟨i, j, rfl, rfl, q⟩ := h
  obtain ⟨t, rfl⟩ := rx
  obtain ⟨t', rfl⟩ := ry
  exact rule i j t t' s _ _ ⟨.int (g i j), H, I.tok _, ⟨_, rfl⟩, q⟩
theorem opB0 {f : Value → Value → Sem Value} {g : Int → Int → Bool}
    (rule : ∀ (i j : Int) (t u : Tok) (s : Shared) (Q : Value → Shared → Prop) (E : Value → Shared → Prop), Q (.bool (g i j)) s → wpAny (model X.prog X.w) X.A (f (.int i t) (.int j u)) Q E s) :
    OpR X f (rI0 fun i j => .bl (g i j)) := by
  intro pins s σ H x y v u Q I rx ry h
  obtain ⟨i, j, rfl, rfl, q⟩ := h
  obtain ⟨t, rfl⟩ := rx
  obtain ⟨t', rfl⟩ := ry
  exact rule i j t t' s _ _ ⟨.bl (g i j), H, I, rfl, q⟩

def CMul (i j : Int) : Prop := (-(2 ^ 64) < i ∧ i < 2 ^ 64) ∨ (-(2 ^ 64) < j ∧ j < 2 ^ 64)
theorem CMul.ok {i j : Int} (h : CMul i j) : IntMulOk i j := by
  rcases h with ⟨h1, h2⟩ | ⟨h1, h2⟩
  · exact .of_left (intBits_le_64 h1 h2)
  · exact .of_right (intBits_le_64 h1 h2)
theorem op_add : OpR X (binaryOp .Add) (rI0 fun i j => .int (i + j)) := opI0 fun _ _ _ _ _ _ _ q => add_int q
theorem op_sub : OpR X (binaryOp .Sub) (rI0 fun i j => .int (i - j)) := opI0 fun _ _ _ _ _ _ _ q => sub_int q
theorem op_mul : OpR X (binaryOp .Mult) (rI CMul fun i j => .int (i * j)) := opI fun _ _ _ _ _ _ _ hc q => mul_int q hc.ok
/-- % by a positive divisor of any size -/
theorem op_mod : OpR X (binaryOp .Mod) (rI (fun _ j => 0 < j) fun i j => .int (i % j)) := opI fun i j _ _ _ _ _ hc q => by
  have h1 : (0 : Int) < j := hc
  exact mod_int' (by omega) (by rw [Int.fmod_eq_emod_of_nonneg i (by omega)]; exact q)
theorem unI {f : Value → Sem Value} {g : Int → Int}
    (rule : ∀ (i : Int) (t : Tok) (s : Shared) (Q : Value → Shared → Prop) (E : Value → Shared → Prop), Q (.int (g i) s.toks) { s with toks := s.toks + 1 } → wpAny (model X.prog X.w) X.A (f (.int i t)) Q E s) :
    UnR X f (rU fun i => .int (g i)) := by
  intro pins s σ H x v Q I rx h
  obtain ⟨i, rfl, q⟩ := h
  obtain ⟨t, rfl⟩ := rx
  exact rule i t s _ _ ⟨.int (g i), H, I.tok _, ⟨_, rfl⟩, q⟩
theorem un_neg : UnR X (unaryOp .USub) (rU fun i => .int (-i)) := unI fun _ _ _ _ _ q => neg_int q
/-! ### bools among ints: n += (a < b) -/
end

/-! ### comparisons -/
/-- the scalars that == tells apart as data does -/
def scal : V → V → Bool
  | .non, .non => true | .non, .int _ => true | .int _, .non => true | .non, .bl _ => true | .bl _, .non => true | .non, .str _ => true | .str _, .non => true
  | .int _, .int _ => true | .bl _, .bl _ => true | .str _, .str _ => true | .byt _, .byt _ => true
  | .int _, .str _ => true | .str _, .int _ => true | .bl _, .str _ => true | .str _, .bl _ => true
  | _, _ => false
def rEq : R2 := fun x y H Q => scal x y = true ∧ Q (.bl (decide (x = y))) H
def rNe : R2 := fun x y H Q => scal x y = true ∧ Q (.bl (!decide (x = y))) H

theorem dec_int {i j : Int} : decide (V.int i = V.int j) = (i == j) := by
  rw [Bool.eq_iff_iff]
  simp
theorem dec_bl {i j : Bool} : decide (V.bl i = V.bl j) = (i == j) := by
  rw [Bool.eq_iff_iff]
  simp
theorem dec_str {i j : Str} : decide (V.str i = V.str j) = (i == j) := by
  rw [Bool.eq_iff_iff]
  simp
theorem dec_byt {i j : Array UInt8} : decide (V.byt i = V.byt j) = (i.toList == j.toList) := by
  rw [Bool.eq_iff_iff]
  cases i
  cases j
  simp

section
variable {X : Cx} {a b c : Expr} {ta tb tc : TE} {pos : Pos}
theorem fin_bl {pins : List (Addr × Obj)} {σ : St} {H : Hp} {s : Shared} {Q : VK} {k k' : Bool} (I : Inv X pins σ H s) (q : Q (.bl k) H) (e : k = k') : EP X pins σ Q (.bool k') s := by
  subst e
  exact ⟨.bl k, H, I, rfl, q⟩
theorem op_eq : OpR X (compareOp .Eq) rEq := by
  intro pins s σ H x y v u Q I rx ry h
  obtain ⟨hs, q⟩ := h
  cases x with
  | non =>
    cases rx
    cases y with
    | non => cases ry; exact PySem.EqNone.eq_none_none (fin_bl I q (by simp))
    | bl j => cases ry; exact PySem.EqNone.eq_none_bool (fin_bl I q (by simp))
    | int j => obtain ⟨t', rfl⟩ := ry; exact PySem.EqNone.eq_none_int (fin_bl I q (by simp))
    | str j => obtain ⟨t', rfl⟩ := ry; exact PySem.EqNone.eq_none_str (fin_bl I q (by simp))
    | _ => exact absurd (show false = true from hs) Bool.false_ne_true
  | bl i =>
    cases rx
    cases y with
    | non => cases ry; exact PySem.EqNone.eq_bool_none (fin_bl I q (by simp))
    | bl j => cases ry; exact eq_bool (fin_bl I q dec_bl)
    | str j => obtain ⟨t', rfl⟩ := ry; exact PySem.EqMixed.eq_bool_str (fin_bl I q (by simp))
    | _ => exact absurd (show false = true from hs) Bool.false_ne_true
  | int i =>
    obtain ⟨t, rfl⟩ := rx
    cases y with
    | non => cases ry; exact PySem.EqNone.eq_int_none (fin_bl I q (by simp))
    | int j => obtain ⟨t', rfl⟩ := ry; exact eq_int (fin_bl I q dec_int)
    | str j => obtain ⟨t', rfl⟩ := ry; exact PySem.EqMixed.eq_int_str (fin_bl I q (by simp))
    | _ => exact absurd (show false = true from hs) Bool.false_ne_true
  | str i =>
    obtain ⟨t, rfl⟩ := rx
    cases y with
    | non => cases ry; exact PySem.EqNone.eq_str_none (fin_bl I q (by simp))
    | bl j => cases ry; exact PySem.EqMixed.eq_str_bool (fin_bl I q (by simp))
    | int j => obtain ⟨t', rfl⟩ := ry; exact PySem.EqMixed.eq_str_int (fin_bl I q (by simp))
    | str j => obtain ⟨t', rfl⟩ := ry; exact eq_str (fin_bl I q dec_str)
    | _ => exact absurd (show false = true from hs) Bool.false_ne_true
  | byt i =>
    obtain ⟨t, rfl⟩ := rx
    cases y with
    | byt j => obtain ⟨t', rfl⟩ := ry; exact PySem.W.eq_bytes (fin_bl I q dec_byt)
    | _ => exact absurd (show false = true from hs) Bool.false_ne_true
  | _ => cases y <;> exact absurd (show false = true from hs) Bool.false_ne_true
theorem op_ne : OpR X (compareOp .NotEq) rNe := by
  intro pins s σ H x y v u Q I rx ry h
  obtain ⟨hs, q⟩ := h
  cases x with
  | non =>
    cases rx
    cases y with
    | non => cases ry; exact PySem.EqNone.ne_none_none (fin_bl I q (by simp))
    | bl j => cases ry; exact PySem.EqNone.ne_none_bool (fin_bl I q (by simp))
    | int j => obtain ⟨t', rfl⟩ := ry; exact PySem.EqNone.ne_none_int (fin_bl I q (by simp))
    | str j => obtain ⟨t', rfl⟩ := ry; exact PySem.EqNone.ne_none_str (fin_bl I q (by simp))
    | _ => exact absurd (show false = true from hs) Bool.false_ne_true
  | bl i =>
    cases rx
    cases y with
    | non => cases ry; exact PySem.EqNone.ne_bool_none (fin_bl I q (by simp))
    | bl j => cases ry; exact ne_bool (fin_bl I q (congrArg not dec_bl))
    | str j => obtain ⟨t', rfl⟩ := ry; exact PySem.EqMixed.ne_bool_str (fin_bl I q (by simp))
    | _ => exact absurd (show false = true from hs) Bool.false_ne_true
  | int i =>
    obtain ⟨t, rfl⟩ := rx
    cases y with
    | non => cases ry; exact PySem.EqNone.ne_int_none (fin_bl I q (by simp))
    | int j => obtain ⟨t', rfl⟩ := ry; exact ne_int (fin_bl I q (congrArg not dec_int))
    | str j => obtain ⟨t', rfl⟩ := ry; exact PySem.EqMixed.ne_int_str (fin_bl I q (by simp))
    | _ => exact absurd (show false = true from hs) Bool.false_ne_true
  | str i =>
    obtain ⟨t, rfl⟩ := rx
    cases y with
    | non => cases ry; exact PySem.EqNone.ne_str_none (fin_bl I q (by simp))
    | bl j => cases ry; exact PySem.EqMixed.ne_str_bool (fin_bl I q (by simp))
    | int j => obtain ⟨t', rfl⟩ := ry; exact PySem.EqMixed.ne_str_int (fin_bl I q (by simp))
    | str j => obtain ⟨t', rfl⟩ := ry; exact ne_str (fin_bl I q (congrArg not dec_str))
    | _ => exact absurd (show false = true from hs) Bool.false_ne_true
  | byt i =>
    obtain ⟨t, rfl⟩ := rx
    cases y with
    | byt j => obtain ⟨t', rfl⟩ := ry; exact PySem.W.ne_bytes (fin_bl I q (congrArg not dec_byt))
    | _ => exact absurd (show false = true from hs) Bool.false_ne_true
  | _ => cases y <;> exact absurd (show false = true from hs) Bool.false_ne_true

theorem op_lt : OpR X (compareOp .Lt) (rI0 fun i j => .bl (decide (i < j))) := opB0 fun _ _ _ _ _ _ _ q => lt_int q
theorem op_le : OpR X (compareOp .LtE) (rI0 fun i j => .bl (decide (i ≤ j))) := opB0 fun _ _ _ _ _ _ _ q => le_int q
/-- is None, is not None: the right side a value none -/
theorem op_isN : OpR X (compareOp .Is) (fun x y H Q => y = .non ∧ Q (.bl (decide (x = .non))) H) := by
  intro pins s σ H x y v u Q I rx ry h
  obtain ⟨rfl, q⟩ := h
  cases ry
  refine is_none_gen (fin_bl I q ?_)
  cases x <;> first
    | (cases rx; rfl)
    | (obtain ⟨t, rfl⟩ := rx; rfl)
theorem op_notN : OpR X (compareOp .IsNot) (fun x y H Q => y = .non ∧ Q (.bl (!decide (x = .non))) H) := by
  intro pins s σ H x y v u Q I rx ry h
  obtain ⟨rfl, q⟩ := h
  cases ry
  refine isnot_none_gen (fin_bl I q ?_)
  cases x <;> first
    | (cases rx; rfl)
    | (obtain ⟨t, rfl⟩ := rx; rfl)

theorem nomark (b : Expr) {op : CmpOp} (h : op ≠ .In := by decide) (h2 : op ≠ .NotIn := by decide) : behindInMarks op b = false := by
  have e1 : (op == CmpOp.In) = false := by cases op <;> first | rfl | exact absurd rfl h
  have e2 : (op == CmpOp.NotIn) = false := by cases op <;> first | rfl | exact absurd rfl h2
  cases b <;> simp [behindInMarks, e1, e2]
/-- a comparison as a value; hm: nomark b, or (for in, not in) by with_unfolding_all rfl -/
theorem pe_cmpR {op : CmpOp} {r : R2} (ho : OpR X (compareOp op) r) (ha : PE X a ta) (hb : PE X b tb) (hm : behindInMarks op b = false) : PE X (.Compare a [op] [b] pos) (tOp r ta tb) := by
  intro pins s σ H Q I h
  exact wpAny_Compare1 (binT ha hb I h fun v u s2 x y H2 I2 rx ry q => ho pins s2 σ H2 x y v u Q I2 rx ry q) hm
/-- a reading of a value as a test -/
def tTest (t : TE) : TT := fun σ H Q => t σ H fun x H' => ∃ k, x = .bl k ∧ Q k H'
theorem pt_cmpR {op : CmpOp} {r : R2} (ho : OpR X (compareOp op) r) (ha : PE X a ta) (hb : PE X b tb) (hm : behindInMarks op b = false) : PT X (.Compare a [op] [b] pos) (tTest (tOp r ta tb)) := by
  intro pins s σ H Q I h
  refine wpAny_isTrue_Compare1 (thn (ha pins s σ H _ I h) fun v s1 ⟨x, H1, I1, r1, q1⟩ => thn (hb pins s1 σ H1 _ I1 q1) fun u s2 ⟨y, H2, I2, r2, q2⟩ =>
    thn (ho pins s2 σ H2 x y v u _ I2 r1 r2 q2) fun c s3 ⟨z, H3, I3, r3, k, e, q3⟩ => ?_) hm
  subst e
  cases r3
  exact wpAny_truthy_bool ⟨H3, I3, q3⟩
/-- a op1 b op2 c -/
def tChain (r r' : R2) (ta tb tc : TE) : TE := fun σ H Q => ta σ H fun x H1 => tb σ H1 fun y H2 => r x y H2 fun z H3 => ∃ k, z = .bl k ∧
  (if k = true then tc σ H3 fun w' H4 => r' y w' H4 Q else Q (.bl false) H3)
theorem pe_chain {op op' : CmpOp} {r r' : R2} (ho : OpR X (compareOp op) r) (ho' : OpR X (compareOp op') r') (ha : PE X a ta) (hb : PE X b tb) (hc : PE X c tc)
    (hm : lastMarks [op, op'] [b, c] = false := by with_unfolding_all rfl) : PE X (.Compare a [op, op'] [b, c] pos) (tChain r r' ta tb tc) := by
  intro pins s σ H Q I h
  refine Compare_chain (thn (ha pins s σ H _ I h) fun v s1 ⟨x, H1, I1, r1, q1⟩ => chain_link (thn (hb pins s1 σ H1 _ I1 q1) fun u s2 ⟨y, H2, I2, r2, q2⟩ =>
    thn (ho pins s2 σ H2 x y v u _ I2 r1 r2 q2) fun d s3 ⟨z, H3, I3, r3, k, e, q3⟩ => ?_)) hm
  subst e
  cases r3
  refine wpAny_truthy_bool ?_
  cases k with
  | false => exact ite_ff ⟨.bl false, H3, I3, rfl, q3⟩
  | true => exact ite_tt (chain_last (thn (hc pins s3 σ H3 _ I3 q3) fun w' s4 ⟨z', H4, I4, r4, q4⟩ => ho' pins s4 σ H4 y z' u w' Q I4 r2 r4 q4))
theorem pt_chain {op op' : CmpOp} {r r' : R2} (ho : OpR X (compareOp op) r) (ho' : OpR X (compareOp op') r') (ha : PE X a ta) (hb : PE X b tb) (hc : PE X c tc)
    (hm : lastMarks [op, op'] [b, c] = false := by with_unfolding_all rfl) : PT X (.Compare a [op, op'] [b, c] pos) (tTest (tChain r r' ta tb tc)) := by
  intro pins s σ H Q I h
  refine isTrue_chain (thn (ha pins s σ H _ I h) fun v s1 ⟨x, H1, I1, r1, q1⟩ => test_link (thn (hb pins s1 σ H1 _ I1 q1) fun u s2 ⟨y, H2, I2, r2, q2⟩ =>
    thn (ho pins s2 σ H2 x y v u _ I2 r1 r2 q2) fun d s3 ⟨z, H3, I3, r3, k, e, q3⟩ => ?_)) hm
  subst e
  cases r3
  refine wpAny_truthy_bool ?_
  cases k with
  | false =>
    obtain ⟨k', e', q'⟩ := q3
    cases e'
    exact ite_ff ⟨H3, I3, q'⟩
  | true =>
    refine ite_tt (test_last (thn (hc pins s3 σ H3 _ I3 q3) fun w' s4 ⟨z', H4, I4, r4, q4⟩ => thn (ho' pins s4 σ H4 y z' u w' _ I4 r2 r4 q4) fun d' s5 ⟨z2, H5, I5, r5, k2, e2, q5⟩ => ?_))
    subst e2
    cases r5
    exact wpAny_truthy_bool ⟨H5, I5, q5⟩

/-! ### truth -/
theorem line63 : (sizeLine : Nat) < 2 ^ 63 := by rw [sizeLine_eq]; decide
/-! ### strs and bytes -/
/-! ### scalar builtins, by CallR -/
theorem vals1 {x : V} {us : List Value} (r : Vals [x] us) : ∃ u, us = [u] ∧ RelV x u := by
  cases r with
  | cons r1 r2 => cases r2; exact ⟨_, rfl, r1⟩
theorem vals2 {x y : V} {us : List Value} (r : Vals [x, y] us) : ∃ u w', us = [u, w'] ∧ RelV x u ∧ RelV y w' := by
  cases r with
  | cons r1 r2 =>
    cases r2 with
    | cons r3 r4 => cases r4; exact ⟨_, _, rfl, r1, r3⟩
theorem call_max2 (hc : X.calm = true) : CallR X (.builtin "max") (fun xs H Q => ∃ i j, xs = [.int i, .int j] ∧ Q (.int (if j > i then j else i)) H) := by
  intro pins s σ H xs us Q I r h
  obtain ⟨i, j, rfl, q⟩ := h
  obtain ⟨u, w', rfl, ⟨t, rfl⟩, ⟨t', rfl⟩⟩ := vals2 r
  refine max_two_ints (I.ok.hd hc) fun h' tk k => ⟨_, H, I.kept k, ?_, q⟩
  by_cases hj : j > i
  · rw [if_pos hj, if_pos hj]; exact ⟨_, rfl⟩
  · rw [if_neg hj, if_neg hj]; exact ⟨_, rfl⟩
theorem call_min2 (hc : X.calm = true) : CallR X (.builtin "min") (fun xs H Q => ∃ i j, xs = [.int i, .int j] ∧ Q (.int (if j < i then j else i)) H) := by
  intro pins s σ H xs us Q I r h
  obtain ⟨i, j, rfl, q⟩ := h
  obtain ⟨u, w', rfl, ⟨t, rfl⟩, ⟨t', rfl⟩⟩ := vals2 r
  refine min_two_ints (I.ok.hd hc) fun h' tk k => ⟨_, H, I.kept k, ?_, q⟩
  by_cases hj : j < i
  · rw [if_pos hj, if_pos hj]; exact ⟨_, rfl⟩
  · rw [if_neg hj, if_neg hj]; exact ⟨_, rfl⟩
end
end L2

namespace L2
open PySem PySem.Spec PyProof.Rows

/-! ### an instance, its attributes a map -/
structure ObjM (h : Heap) (x dx C : Addr) (mA : Str → Option Value) : Prop where
  obj : h.get? x = some (PySem.W.instObj C dx)
  ns : h.Ns1 dx mA
  ne : dx ≠ x

theorem lookIn_ns {h : Heap} {dx : Addr} {mA : Str → Option Value} (n : h.Ns1 dx mA) : ∃ od, h.get? dx = some od ∧ ∀ name, PySem.W.lookIn name od = some (mA name) := by
  obtain ⟨o, es, ep, ho, hd, hk, _, hm⟩ := n
  refine ⟨o, ho, fun name => ?_⟩
  have e := hm name
  unfold nsFind findBy at e
  rw [← Array.find?_toList] at e
  unfold PySem.W.lookIn
  rw [hd]
  dsimp only
  split
  · rename_i y q
    rw [q] at e
    exact congrArg some e
  · rename_i q
    rw [q] at e
    have a : es.toList.any (·.refKey) = false := by
      rw [List.any_eq_false]
      intro y hy
      obtain ⟨z, t, hkey⟩ := hk y (Array.mem_toList_iff.mp hy)
      simp [DictEntry.refKey, hkey]
    have a' : ¬ es.toList.any (·.refKey) = true := by rw [a]; exact Bool.false_ne_true
    rw [if_neg a']
    exact congrArg some e

theorem ObjM.look {h : Heap} {x dx C : Addr} {mA : Str → Option Value} (I : ObjM h x dx C mA) : ∃ od, PySem.W.InstAt h x (PySem.W.instObj C dx) C (some od) ∧ ∀ name, PySem.W.lookIn name od = some (mA name) :=
  let ⟨od, ho, hl⟩ := lookIn_ns I.ns
  ⟨od, ⟨I.obj, rfl, rfl, ho⟩, hl⟩

section
variable {prog : Program} {w : World} {A : Around} {E : Value → Shared → Prop} {s : Shared} {K : PySem.W.Frag} {x dx C f : Addr} {mA : Str → Option Value} {name : Str} {v : Value}

end

/-! ### the attributes as a list of pairs -/
section
variable {P : Program} {w : World} {H H' : Hp} {h h' : Heap} {a C dx : Addr} {fs fs' : List (Str × V)}
theorem ins_get (hok : HOk P w H h) (e : H a = some (.ins C dx fs)) : ∃ mA, ObjM h a dx C mA ∧ (∀ f, RelO (fs.lookup f) (mA f)) ∧ PySem.Within mA (fs.map (·.1)) ∧ fs.length ≤ 1000 ∧ H dx = some (.own a) := by
  obtain ⟨d, z, ne, ob, mA, n, r, q⟩ := (show ObjOk P w H h a (.ins C dx fs) from hok a _ e)
  exact ⟨mA, ⟨ob, n, ne⟩, r, q, z, d⟩
end

/-! ### what of the text a class must have -/
structure Cls (K : PySem.W.Frag) (C : Addr) : Prop where
  pg : PySem.W.plainGet K C Str.empty = true
  hd : PySem.W.hasDictIn K C = true
  po : PySem.W.plainOver K C = true
  sa : PySem.W.findIn K (.ref C) "__setattr__" = some (some (.builtin "object.__setattr__"))
theorem Cls.get {K : PySem.W.Frag} {C : Addr} (c : Cls K C) (f : Str) : PySem.W.plainGet K C f = true := c.pg
section
variable {X : Cx} {pins : List (Addr × Obj)} {σ : St} {H : Hp} {s : Shared} {a C dx : Addr} {fs : List (Str × V)} {f : Str} {v : V} {A : Around} {E : Value → Shared → Prop}

end

/-! ### readings and rules -/
section
variable {X : Cx} {o e value : Expr} {f : Str} {pos pos' tpos : Pos} {ta tv : TE}
end

/-! ### isinstance -/
section
variable {X : Cx} {pins : List (Addr × Obj)} {σ : St} {H : Hp} {s : Shared} {A : Around} {E : Value → Shared → Prop} {Q : Value → Shared → Prop} {c : Value} {b : Bool}
/-- the type of a value, as the fragment's deciders take it; for an instance its class -/
inductive TyOf (K : PySem.W.Frag) (H : Hp) : V → Value → Prop where
  | non : TyOf K H .non (.type "NoneType")
  | bl (x : Bool) : TyOf K H (.bl x) (.type "bool")
  | int (i : Int) : TyOf K H (.int i) (.type "int")
  | str (x : Str) : TyOf K H (.str x) (.type "str")
  | flt (x : UInt64) : TyOf K H (.flt x) (.type "float")
  | lst {a : Addr} {xs : List V} (e : H a = some (.lst xs)) : TyOf K H (.ref a) (.type "list")
  | frz {a : Addr} {o : Obj} {xs : List V} (e : H a = some (.frz o (.lst xs))) : TyOf K H (.ref a) (.type "list")
  | tup {a : Addr} {xs : List V} (e : H a = some (.tup xs)) : TyOf K H (.ref a) (.type "tuple")
  | dK {a : Addr} {kvs : List (Key × V)} (e : H a = some (.dK kvs)) : TyOf K H (.ref a) (.type "dict")
  | dT {a : Addr} {kvs : List (List Key × V)} (e : H a = some (.dT kvs)) : TyOf K H (.ref a) (.type "dict")
  | ins {a C dx : Addr} {fs : List (Str × V)} (e : H a = some (.ins C dx fs)) (cl : Cls K C) (ha : PySem.W.findIn K (.ref C) "__class__" = some (some (.builtin "object.__class__")))
      (hn : PySem.W.specialIn K (.builtin "object.__class__") "__get__" = some (some (.builtin "getset_descriptor.__get__"))) (htk : PySem.W.takesIn K (.builtin "object.__class__") = some true)
      (hm : PySem.W.mroIn K C (.type "object") = some true) : TyOf K H (.ref a) (.ref C)
/-- isinstance(x, c) for one class c, a built-in or an own one: kitOne's answer -/
theorem isinst_ok {x : V} {u t : Value} (I : Inv X pins σ H s) (rx : RelV x u) (ty : TyOf X.K H x t) (e : PySem.W.kitOne X.K t c = some b) (h : ∀ tk, Q (.bool b) { s with toks := tk }) :
    wpAny (model X.prog X.w) A (call (.builtin "isinstance") [u, c]) Q E s := by
  cases ty with
  | non => cases (show u = Value.none from rx); exact PySem.W.kia_one PySem.W.kitx_none I.kIn True.intro e (fun z => nomatch z) h
  | bl y => cases (show u = Value.bool y from rx); exact PySem.W.kia_one PySem.W.kitx_bool I.kIn True.intro e (fun z => nomatch z) h
  | int i => obtain ⟨t, q⟩ := (show ∃ t, u = Value.int i t from rx); cases q; exact PySem.W.kia_one PySem.W.kitx_int I.kIn True.intro e (fun z => nomatch z) h
  | str y => obtain ⟨t, q⟩ := (show ∃ t, u = Value.str y t from rx); cases q; exact PySem.W.kia_one PySem.W.kitx_str I.kIn True.intro e (fun z => nomatch z) h
  | flt y => obtain ⟨t, q⟩ := (show ∃ t, u = Value.float y t from rx); cases q; exact PySem.W.kia_one PySem.W.kitx_float I.kIn True.intro e (fun z => nomatch z) h
  | @lst a xs ea =>
    cases (show u = Value.ref a from rx)
    obtain ⟨_, _, n, _, h1⟩ := (show ObjOk X.prog X.w H s.heap a (.lst xs) from I.hok a _ ea)
    exact PySem.W.kia_one PySem.W.kitx_list I.kIn ⟨_, h1, rfl⟩ e (fun z => nomatch z) h
  | @frz a ob xs ea =>
    cases (show u = Value.ref a from rx)
    obtain ⟨_, _, _, n, _, h1⟩ := (show ObjOk X.prog X.w H s.heap a (.frz ob (.lst xs)) from I.hok a _ ea)
    exact PySem.W.kia_one PySem.W.kitx_list I.kIn ⟨_, h1, rfl⟩ e (fun z => nomatch z) h
  | @tup a xs ea =>
    cases (show u = Value.ref a from rx)
    obtain ⟨_, _, _, p⟩ := (show ObjOk X.prog X.w H s.heap a (.tup xs) from I.hok a _ ea)
    obtain ⟨o, h1, h2, _⟩ := p
    exact PySem.W.kia_one PySem.W.kitx_tuple I.kIn ⟨o, h1, h2⟩ e (fun z => nomatch z) h
  | @dK a kvs ea =>
    cases (show u = Value.ref a from rx)
    obtain ⟨_, _, vs, _, p⟩ := (show ObjOk X.prog X.w H s.heap a (.dK kvs) from I.hok a _ ea)
    obtain ⟨o, es, ep, h1, h2, _⟩ := p
    exact PySem.W.kia_one PySem.W.kitx_dict I.kIn ⟨o, h1, h2.1⟩ e (fun z => nomatch z) h
  | @dT a kvs ea =>
    cases (show u = Value.ref a from rx)
    obtain ⟨_, _, xs, _, o, es, ep, h1, h2, _⟩ := (show ObjOk X.prog X.w H s.heap a (.dT kvs) from I.hok a _ ea)
    exact PySem.W.kia_one PySem.W.kitx_dict I.kIn ⟨o, h1, h2.1⟩ e (fun z => nomatch z) h
  | @ins a C dx fs ea cl ha hn htk hm =>
    cases (show u = Value.ref a from rx)
    obtain ⟨mA, O, _⟩ := ins_get I.hok ea
    obtain ⟨od, J, _⟩ := O.look
    exact PySem.W.kia_one (PySem.W.kitx_own (cl.get _) cl.hd ha hn htk hm) I.kIn J e (fun z => nomatch z) h
end
end L2

namespace L2
open PySem PySem.Spec PyProof.Rows

/-! ### room -/
structure Room (k : Nat) (A : Around) : Prop where
  hd : A.handled = none
  dp : A.depth + 3 * k + 5 < recursionLimit
  un : A.units + 16 * k + 200 < cLine
theorem Room.mono {j k : Nat} {A : Around} (r : Room k A) (h : j ≤ k) : Room j A := ⟨r.hd, by have := r.dp; omega, by have := r.un; omega⟩
theorem Room.deeper {k : Nat} {A : Around} (r : Room (k + 1) A) (env : Env) : Room k (A.deeper env) :=
  ⟨r.hd, by have := r.dp; show A.depth + 1 + 3 * k + 5 < _; omega, by have := r.un; show A.units + 3 + 16 * k + 200 < _; omega⟩
theorem Room.depth {k : Nat} {A : Around} (r : Room k A) : A.depth < recursionLimit := by have := r.dp; omega
theorem Room.units {k : Nat} {A : Around} (r : Room k A) : A.units + 64 < cLine := by have := r.un; omega
theorem Room.units0 {k : Nat} {A : Around} (r : Room k A) : A.units < cLine := by have := r.un; omega

/-! ### argument lists and displays -/
def tNil : TA := fun _ H Q => Q [] H
def tCons (ta : TE) (tr : TA) : TA := fun σ H Q => ta σ H fun x H1 => tr σ H1 fun xs H2 => Q (x :: xs) H2
section
variable {X : Cx} {e : Expr} {es : List Expr} {te : TE} {t : TA} {pos : Pos}
theorem pa_nil : PA X [] tNil := fun _ _ _ _ H Q I h => Calls.spliced_nil ⟨[], H, I, .nil, h⟩
theorem pa_cons (ha : PE X e te) (hr : PA X es t) (hs : starEach (e :: es) X.env = (false, eval e X.env) :: starEach es X.env := by rfl) : PA X (e :: es) (tCons te t) := by
  intro pos pins s σ H Q I h
  rw [hs]
  show wpAny _ _ (spliced ((false, eval e X.env) :: backTo pos (starEach es X.env))) _ _ s
  refine Calls.spliced_cons (thn (ha pins s σ H _ I h) fun u s1 ⟨x, H1, I1, r1, q1⟩ => ?_)
  exact thn (hr pos pins s1 σ H1 _ I1 q1) fun us s2 ⟨xs, H2, I2, r2, q2⟩ => ⟨x :: xs, H2, I2, .cons r1 r2, q2⟩

/-- a tuple, a list of written items -/
def tTup (t : TA) : TE := fun σ H Q => t σ H fun xs H1 => xs.length ≤ sizeLine ∧ ∀ p, H1 p = none → Q (.ref p) (upd H1 p (.tup xs))
def tLst (t : TA) : TE := fun σ H Q => t σ H fun xs H1 => xs.length ≤ sizeLine ∧ ∀ p, H1 p = none → Q (.ref p) (upd H1 p (.lst xs))
theorem pe_tup {x1} (h : PA X es t) : PE X (.Tuple es x1 pos) (tTup t) := by
  intro pins s σ H Q I hq
  refine wpAny_Tuple_spliced (thn (h pos pins s σ H _ I hq) fun us s1 ⟨xs, H1, I1, r, z, q⟩ => ⟨by rw [← r.length]; exact z, ?_⟩)
  have hf : H1 s1.heap.objs.size = none := I1.hok.fresh (Nat.le_refl _)
  refine ⟨.ref s1.heap.objs.size, upd H1 s1.heap.objs.size (.tup xs), I1.laid (t' := s1.toks) (fun b u e => Heap.get?_push_of_some _ e) (Nat.le_refl _) ?_, rfl, q _ hf⟩
  exact ⟨z, us, r, ⟨_, Heap.get?_push_size _ rfl, rfl, rfl, _, rfl⟩⟩
theorem pe_lst (h : PA X es t) : PE X (.List es pos) (tLst t) := by
  intro pins s σ H Q I hq
  refine wpAny_List_spliced (thn (h pos pins s σ H _ I hq) fun us s1 ⟨xs, H1, I1, r, z, q⟩ => ⟨by rw [← r.length]; exact z, ?_⟩)
  have hf : H1 s1.heap.objs.size = none := I1.hok.fresh (Nat.le_refl _)
  refine ⟨.ref s1.heap.objs.size, upd H1 s1.heap.objs.size (.lst xs), I1.laid (t' := s1.toks) (fun b u e => Heap.get?_push_of_some _ e) (Nat.le_refl _) ?_, rfl, q _ hf⟩
  exact ⟨z, us, 0, r, Heap.get?_push_size _ rfl⟩
end

/-! ### what a def promises -/
/-- a def's promise: the bound arguments in the parameters' order, the heap, the wanted end, the wanted exception -/
abbrev Sp := List V → Hp → VK → XK → Prop
/-- how an exception lies behind a call (file 08 gives it): the callers' frames, abstract heap and state ahead of the call, the wish, the exception, the state -/
abbrev CXT := List Env → Hp → Shared → XK → Value → Shared → Prop

/-- the state at a call -/
structure Env0 (P : Program) (w : World) (K : PySem.W.Frag) (mg : Str → Option Value) (base : Heap) (A : Around) (outer : List Env) (s : Shared) (H : Hp) : Prop where
  frames : A.frames = some outer
  mod : Mod K mg base
  bs : ∀ b o, base.get? b = some o → s.heap.get? b = some o ∧ H b = none
  bsz : base.objs.size ≤ s.heap.objs.size
  funs : s.heap.FunFrames base outer
  frf : ∀ b ∈ frs outer, H b = none
  hok : HOk P w H s.heap
  bare : AllBare s.gens
/-- a call's end -/
def CE (outer : List Env) (P : Program) (w : World) (H : Hp) (s : Shared) (Q : VK) (u : Value) (s' : Shared) : Prop :=
  ∃ v H', s'.os = s.os ∧ AllBare s'.gens ∧ Un (frs outer) [] H H' s.heap s'.heap ∧ HOk P w H' s'.heap ∧ RelV v u ∧ Q v H'
def CR (CX : CXT) (outer : List Env) (P : Program) (w : World) (H : Hp) (s : Shared) (Q : VK) (E : XK) (r : Result) (s' : Shared) : Prop :=
  match r with
  | .ok (.ret u) => CE outer P w H s Q u s'
  | .ok _ => False
  | .error e => CX outer H s E e s'
structure FnOk (P : Program) (w : World) (K : PySem.W.Frag) (mg : Str → Option Value) (base : Heap) (CX : CXT) (k : Nat) (f : Addr) (fd : FuncData) (ps : List Str) (sp : Sp) : Prop where
  len : ∀ vs H Q E, sp vs H Q E → vs.length = ps.length
  run : ∀ (A : Around) (outer : List Env) (s : Shared) (H : Hp) (args : Args) (us : List Value) (vs : List V) (Q : VK) (E : XK), Room k A → Env0 P w K mg base A outer s H → BindsTo s fd args (ps.zip us) → Vals vs us → sp vs H Q E →
    codeAny (model P w) A (.call (.ref f) args) (CR CX outer P w H s Q E) s
section
variable {X : Cx} {pins : List (Addr × Obj)} {σ : St} {H : Hp} {s s' : Shared}
/-- from a body: what a callee wants -/
theorem Inv.env0 (I : Inv X pins σ H s) : Env0 X.prog X.w X.K X.mg X.base X.A X.stack s H :=
  ⟨I.ok.frames, I.ok.mod, I.bs, Nat.le_trans I.ok.bsz I.sz, I.stack, I.stkFree, I.hok, I.bare⟩
/-- behind a call -/
theorem Inv.after {Q : VK} {u : Value} (I : Inv X pins σ H s) (h : CE X.stack X.prog X.w H s Q u s') : EP X pins σ Q u s' := by
  obtain ⟨v, H', os, bare, un, hok, r, q⟩ := h
  obtain ⟨hh, g, d, t, os'⟩ := s'
  obtain rfl : os' = s.os := os
  exact ⟨v, H', I.call (h' := hh) (g' := g) (d' := d) (t' := t) (ch := []) un hok bare (fun b z => absurd z (by simp)), r, q⟩
end

/-! ### calls -/
/-- f(..): the written arguments, then the defaults dvs; E: what is wanted of an exception -/
def tCall (sp : Sp) (dvs : List V) (E : XK) (t : TA) : TE := fun σ H Q => t σ H fun vs H1 => sp (vs ++ dvs) H1 Q E
/-- how the parameters are bound: us the positional arguments, kw the keywords' values by name, ds the defaults that fill up -/
def Binds (K : PySem.W.Frag) (fd : FuncData) (ps : List Str) (ds : List Value) : Prop :=
  ∀ (s : Shared) (us : List Value), K.In s.heap → (us ++ ds).length = ps.length → BindsTo s fd ⟨us, []⟩ (ps.zip (us ++ ds))
/-- every parameter is given -/
theorem Binds.all {K : PySem.W.Frag} {fd : FuncData} {ps : List Str} (h : ∀ us : List Value, us.length = ps.length → bindArgs fd ⟨us, []⟩ = pure (ps.zip us)) : Binds K fd ps [] := fun s us _ hl => by
  rw [List.append_nil] at hl ⊢
  exact .of_eq (h us hl)

/-- an exception of a callee reaches what this body wants of exceptions -/
def Passes (CX : CXT) (X : Cx) (E : XK) : Prop := ∀ (pins : List (Addr × Obj)) (σ : St) (H : Hp) (s : Shared) (e : Value) (s' : Shared), Inv X pins σ H s → CX X.stack H s E e s' → X.xe e s'

section
variable {X : Cx} {CX : CXT} {k : Nat} {f C : Addr} {fd : FuncData} {ps : List Str} {sp : Sp} {dvs : List V} {ds : List Value} {E : XK} {x m : Str} {p pos apos : Pos} {e o : Expr} {es : List Expr} {ta : TE} {t : TA}

/-- the callee runs -/
theorem run_fn {pins : List (Addr × Obj)} {σ : St} {H : Hp} {s : Shared} {Q : VK} {us : List Value} {vs : List V} (F : FnOk X.prog X.w X.K X.mg X.base CX k f fd ps sp) (hr : Room k X.A) (hb : Binds X.K fd ps ds) (hd : Vals dvs ds) (hx : Passes CX X E)
    (I : Inv X pins σ H s) (r : Vals vs us) (h : sp (vs ++ dvs) H Q E) : wpAny (model X.prog X.w) X.A (call (.ref f) us) (EP X pins σ Q) X.xe s := by
  have r2 : Vals (vs ++ dvs) (us ++ ds) := r.append hd
  have hl : (us ++ ds).length = ps.length := by rw [← r2.length]; exact F.len _ _ _ _ h
  refine wpAny_call (codeAny_mono (F.run X.A X.stack s H ⟨us, []⟩ (us ++ ds) (vs ++ dvs) Q E hr I.env0 (hb s us I.kIn hl) r2 h) fun r s' hq => ?_)
  cases r with
  | error e => exact hx pins σ H s e s' I hq
  | ok fl =>
    cases fl with
    | ret u => exact I.after hq
    | next => exact False.elim hq
    | brk => exact False.elim hq
    | cont => exact False.elim hq

theorem pe_call (F : FnOk X.prog X.w X.K X.mg X.base CX k f fd ps sp) (hr : Room k X.A) (hg : Gl X x) (hm : X.mg x = some (.ref f)) (hk : PySem.W.keepIn X.K (.ref f) = true) (hb : Binds X.K fd ps ds) (hd : Vals dvs ds) (hx : Passes CX X E)
    (ha : PA X (e :: es) t) (hdb : (x == ("__debug__" : Str)) = false := by decide) (he : starEach (e :: es) X.env = (false, eval e X.env) :: starEach es X.env := by rfl) (hpl : (backTo pos (starEach es X.env)).any (·.1) = false := by rfl) :
    PE X (.Call (.Name x p) (e :: es) [] pos) (tCall sp dvs E t) := by
  intro pins s σ H Q I h
  refine wpAny_Call_Name_kw (ld_glob I hg hm ?_ hdb)
  refine PySem.W.callWith_K (h₀ := X.base) I.ok.mod.kin hk (thn (ha pos pins s σ H _ I h) fun us s1 ⟨vs, H1, I1, r, q⟩ => ⟨I1.kIn, ?_⟩) he hpl
  exact run_fn F hr hb hd hx I1 r q
end

/-! ### keywords -/
section
variable {X : Cx} {CX : CXT} {k : Nat} {f C : Addr} {fd : FuncData} {ps ks : List Str} {sp : Sp} {E : XK} {x m : Str} {p pos apos kpos : Pos} {e o : Expr} {es : List Expr} {kws : List Keyword} {te ta : TE} {t tk : TA} {nm : Option Str}
variable {g : List Value → List Value → List Value} {gV : List V → List V → List V}
end

/-! ### a def's body keeps its promise -/
/-- names: the parameters first -/
structure FnScope (N P : List Str) (sc : Scope) : Prop where
  kind : sc.kind = .function
  co : sc.isCoroutine = false
  gen : sc.isGenerator = false
  nd : N.Nodup
  pre : N.take P.length = P
  par : ∀ x ∈ P, sc.names.lookup x = some .local ∨ sc.names.lookup x = some .cell
  nofree : ∀ y ∈ sc.names, y.2 ≠ .free

theorem bindL_out {kindOf : Str → Option NameKind} {x : Str} : ∀ {binds : List (Str × Value)} {m : Str → Option Value}, (∀ v, (x, v) ∉ binds) → bindL kindOf binds m x = m x
  | [], _, _ => rfl
  | (n, v) :: r, m, h => by
    unfold bindL
    rw [bindL_out fun w hw => h w (List.mem_cons_of_mem _ hw)]
    split
    · have : x ≠ n := by rintro rfl; exact h v List.mem_cons_self
      simp [this]
    · rfl
theorem bindC_out {kindOf : Str → Option NameKind} {x : Str} : ∀ {binds : List (Str × Value)} {m : Str → Option Value}, (∀ v, (x, v) ∉ binds) → bindC kindOf binds m x = m x
  | [], _, _ => rfl
  | (n, v) :: r, m, h => by
    unfold bindC
    rw [bindC_out fun w hw => h w (List.mem_cons_of_mem _ hw)]
    split
    · rfl
    · have : x ≠ n := by rintro rfl; exact h v List.mem_cons_self
      simp [this]
theorem bindL_get {kindOf : Str → Option NameKind} {x : Str} {v : Value} : ∀ {P : List Str} {vs : List Value} {i : Nat} {m : Str → Option Value}, P.Nodup → P[i]? = some x → vs[i]? = some v → kindOf x = some .local →
    bindL kindOf (P.zip vs) m x = some v
  | [], _, _, _, _, h, _, _ => by simp at h
  | _ :: _, [], _, _, _, _, h, _ => by simp at h
  | p :: P, w :: vs, 0, m, nd, h1, h2, hk => by
    simp at h1 h2; subst h1; subst h2
    show bindL kindOf ((p, w) :: P.zip vs) m p = _
    unfold bindL
    rw [bindL_out fun v hv => (List.nodup_cons.mp nd).1 (List.of_mem_zip hv).1, if_pos hk]
    simp
  | p :: P, w :: vs, i + 1, m, nd, h1, h2, hk => by
    show bindL kindOf ((p, w) :: P.zip vs) m x = _
    unfold bindL
    exact bindL_get (i := i) (List.nodup_cons.mp nd).2 (by simpa using h1) (by simpa using h2) hk
theorem bindC_get {kindOf : Str → Option NameKind} {x : Str} {v : Value} : ∀ {P : List Str} {vs : List Value} {i : Nat} {m : Str → Option Value}, P.Nodup → P[i]? = some x → vs[i]? = some v → kindOf x ≠ some .local →
    bindC kindOf (P.zip vs) m x = some v
  | [], _, _, _, _, h, _, _ => by simp at h
  | _ :: _, [], _, _, _, _, h, _ => by simp at h
  | p :: P, w :: vs, 0, m, nd, h1, h2, hk => by
    simp at h1 h2; subst h1; subst h2
    show bindC kindOf ((p, w) :: P.zip vs) m p = _
    unfold bindC
    rw [bindC_out fun v hv => (List.nodup_cons.mp nd).1 (List.of_mem_zip hv).1, if_neg hk]
    simp
  | p :: P, w :: vs, i + 1, m, nd, h1, h2, hk => by
    show bindC kindOf ((p, w) :: P.zip vs) m x = _
    unfold bindC
    exact bindC_get (i := i) (List.nodup_cons.mp nd).2 (by simpa using h1) (by simpa using h2) hk

/-- the names' values at the entry -/
def start (N : List Str) (vs : List V) : St := vs.map some ++ List.replicate (N.length - vs.length) none

/-- the context of a def's body, at its entry; an exception leaves the frame, then lies as CX says -/
def cxOf (CX : CXT) (P : Program) (w : World) (K : PySem.W.Frag) (mg : Str → Option Value) (base : Heap) (N : List Str) (qual : Str) (scope : Scope) (f : Addr) (cd : Value) (A : Around) (outer : List Env) (s : Shared) (H : Hp) (E : XK) : Cx where
  prog := P
  w := w
  K := K
  mg := mg
  base := base
  A := A.deeper (envOfC qual scope s.heap.objs.size f cd)
  N := N
  s₀ := s
  H₀ := H
  env := envOfC qual scope s.heap.objs.size f cd
  outer := outer
  stack := envOfC qual scope s.heap.objs.size f cd :: outer
  ex := []
  calm := true
  fn := fun _ => true
  pn := []
  xe := fun e s' => wpAny (model P w) (A.deeper (envOfC qual scope s.heap.objs.size f cd)) (leaving (envOfC qual scope s.heap.objs.size f cd) e) (fun _ s'' => CX outer H s E e s'') (fun e' s'' => CX outer H s E e' s'') s'

theorem cell_has {sc : Scope} {n : Nat} {x : Str} (h : sc.names.lookup x = some .cell) : ∃ c, (cellsFrom n sc.names []).lookup x = some c := by
  have q := PySem.W.cellsFrom_some sc.names n [] (.inl h)
  exact Option.isSome_iff_exists.mp q

theorem inv_start {CX : CXT} {P : Program} {w : World} {K : PySem.W.Frag} {mg : Str → Option Value} {base : Heap} {N ps : List Str} {qual : Str} {scope : Scope} {f : Addr} {cd : Value} {A : Around} {outer : List Env} {s s1 : Shared} {H : Hp} {E : XK} {us : List Value} {vs : List V}
    (S : FnScope N ps scope) (hd : A.handled = none) (e0 : Env0 P w K mg base A outer s H) (hl : vs.length = ps.length) (r : Vals vs us)
    (x : InCallC s s.heap.objs.size (bindL (envOfC qual scope s.heap.objs.size f cd).kindOf (ps.zip us) fun _ => none) (cellsFrom (s.heap.objs.size + 1) scope.names []) (bindC (envOfC qual scope s.heap.objs.size f cd).kindOf (ps.zip us) fun _ => none) s1) :
    Inv (cxOf CX P w K mg base N qual scope f cd A outer s H E) [] (start N vs) H s1 := by
  have hpl : ps.length ≤ N.length := by have := congrArg List.length S.pre; rw [List.length_take] at this; omega
  obtain ⟨h1, tk, rfl, hk⟩ := x.done
  have noA : ∀ b : Addr, b ∉ (cxOf CX P w K mg base N qual scope f cd A outer s H E).ex := fun b z => absurd (show b ∈ ([] : List Addr) from z) (by simp)
  refine ⟨⟨e0.mod, S.kind, rfl, rfl, Nat.le_refl _, fun y z c h1 h2 => ?_, fun y hy => ?_, fun y c _ h => ?_, fun _ => hd, Around.frames_deeper e0.frames, .inr ⟨rfl, rfl⟩, fun b z => absurd z (noA b), e0.bs, e0.bsz, fun b _ _ => noA b, fun b z => absurd z (noA b), e0.funs, e0.frf⟩,
    rfl, e0.bare, Un.kept hk, ⟨_, x.toInCall.ns, fun i y v h1 h2 h3 => ?_⟩, fun y c h => ⟨_, x.cell y c h⟩, e0.hok.fresh (Nat.le_refl _), fun y c h => ?_, fun p hp => absurd (show p ∈ ([] : List (Addr × Obj)) from hp) (by simp), e0.hok.kept hk, ?_⟩
  · exact name_of_addr x.apart (PySem.mem_of_lookup h1) (PySem.mem_of_lookup h2)
  · have hy : scope.names.lookup y = some .cell ∨ scope.names.lookup y = some .free := hy
    rcases hy with hy | hy
    · exact cell_has hy
    · exact absurd rfl (S.nofree _ (PySem.mem_of_lookup hy))
  · exact Nat.le_of_lt (x.above y c (PySem.mem_of_lookup h))
  · have hi : i < vs.length := by
      unfold start at h2
      by_cases hi : i < vs.length
      · exact hi
      · rw [List.getElem?_append_right (by simpa using hi)] at h2
        rw [List.getElem?_replicate] at h2
        split at h2 <;> cases h2
    have ha : vs[i]? = some v := by
      unfold start at h2
      rw [List.getElem?_append_left (by simpa using hi), List.getElem?_map] at h2
      cases e : vs[i]? with
      | none => rw [e] at h2; cases h2
      | some a => rw [e] at h2; cases h2; rfl
    obtain ⟨u, hu, rv⟩ := r.get ha
    have hp : ps[i]? = some y := by
      rw [← S.pre, List.getElem?_take_of_lt (by omega)]; exact h1
    have ndP : ps.Nodup := by rw [← S.pre]; exact S.nd.sublist (List.take_sublist _ _)
    refine ⟨u, rv, ?_⟩
    rcases S.par y (List.mem_of_getElem? hp) with k | k
    · exact .inl ⟨k, bindL_get ndP hp hu k⟩
    · obtain ⟨c, e⟩ := cell_has (n := s.heap.objs.size + 1) k
      refine .inr ⟨.inl k, c, e, ?_⟩
      have q := x.cell y c e
      rw [bindC_get ndP hp hu (by show scope.names.lookup y ≠ _; rw [k]; decide)] at q
      exact q
  · exact e0.hok.fresh (Nat.le_of_lt (x.above y c (PySem.mem_of_lookup h)))
  · unfold start
    show _ = N.length
    rw [List.length_append, List.length_map, List.length_replicate]
    omega

/-- THE RULE: a def (or a method) of the text, by its body. The body's reading t is chosen for each entry; it is run at the parameters' values -/
theorem fn_of {CX : CXT} {P : Program} {w : World} {K : PySem.W.Frag} {mg : Str → Option Value} {base : Heap} {k : Nat} {f : Addr} {name qual : Str} {params : Arguments} {body : List Stmt} {scope : Scope} {dV kV doc pm cdv ct oc : Value} {an od : Option Addr}
    {osl : Array (Option Value)} {N ps : List Str} {sp : Sp} (lk : K.lookup f = some ⟨oc, od, .func (PySem.W.fnOf name qual params body scope dV kV doc pm an cdv ct), osl⟩) (hcd : PySem.W.codeIn K cdv qual = true) (S : FnScope N ps scope)
    (len : ∀ vs H Q E, sp vs H Q E → vs.length = ps.length)
    (hbody : ∀ (A : Around) (outer : List Env) (s : Shared) (H : Hp) (vs : List V) (Q : VK) (E : XK), Room k (A.deeper (envOfC qual scope s.heap.objs.size f cdv)) → sp vs H Q E →
      ∃ t, PSs (cxOf CX P w K mg base N qual scope f cdv A outer s H E) body t ∧ t { nx := fun _ H' => Q .non H', rt := Q } (start N vs) H) :
    FnOk P w K mg base CX (k + 1) f (PySem.W.fnOf name qual params body scope dV kV doc pm an cdv ct) ps sp := by
  refine ⟨len, fun A outer s H args us vs Q E hr e0 hb r hsp => ?_⟩
  have hl := len _ _ _ _ hsp
  have KX : K.In s.heap := e0.mod.kin.keeps fun b o e => (e0.bs b o e).1
  have lim : s.heap.NoLimit := e0.mod.nolimit.keeps fun b o e => (e0.bs b o e).1
  have hkind : ∀ y ∈ ps.zip us, scope.names.lookup y.1 = some .local ∨ (scope.names.lookup y.1 = some .cell ∧ ((cellsFrom (s.heap.objs.size + 1) scope.names []).lookup y.1).isSome = true) := fun ⟨n, v⟩ hy => by
    rcases S.par n (List.of_mem_zip hy).1 with q | q
    · exact .inl q
    · exact .inr ⟨q, PySem.W.cellsFrom_some _ _ _ (.inl q)⟩
  refine codeAny_call_function hr.depth (KX _ _ lk) rfl S.co S.gen rfl (PySem.W.codeRec_of KX hcd) (hb _ _ _ _ ?_)
  refine wpAny_newFunctionEnv_cells S.kind hkind fun env he s1 x => ?_
  subst he
  refine ⟨lim.keeps x.toInCall.keep, codeAny_func ?_⟩
  obtain ⟨t, ht, hq⟩ := hbody A outer s H vs Q E (hr.deeper _) hsp
  have I : Inv (cxOf CX P w K mg base N qual scope f cdv A outer s H E) [] (start N vs) H s1 := inv_start S hr.hd e0 hl r x
  refine wpAny_mono (ht [] s1 (start N vs) H _ I hq) (fun fl s' hs => ?_) fun e s' hs => hs
  have fin : ∀ {σ' : St} {H' : Hp} {v : V} {u : Value}, Inv (cxOf CX P w K mg base N qual scope f cdv A outer s H E) [] σ' H' s' → RelV v u → Q v H' → CE outer P w H s Q u s' :=
    fun {σ' H' v u} J rv q => ⟨v, H', J.os, J.bare, J.base, J.hok, rv, q⟩
  cases fl with
  | ret u =>
    obtain ⟨v, σ', H', J, rv, q⟩ := hs
    exact fin J rv q
  | next =>
    obtain ⟨σ', H', J, q⟩ := hs
    exact fin (v := V.non) (u := Value.none) J rfl q
  | brk =>
    obtain ⟨_, _, _, q⟩ := hs
    exact False.elim q
  | cont =>
    obtain ⟨_, _, _, q⟩ := hs
    exact False.elim q
end L2

namespace L2
open PySem PySem.Spec PyProof.Rows
section
variable {X : Cx} {x : Str} {p pos : Pos} {e : Expr} {es : List Expr} {t : TA} {id T : String} {r : List V → Hp → VK → Prop}

def tCB (r : List V → Hp → VK → Prop) (t : TA) : TE := fun σ H Q => t σ H fun vs H1 => r vs H1 Q
/-- f(e, ..), f a built-in function -/
theorem pe_callB (hc : CallR X (.builtin id) r) (hg : Gl X x) (hm : X.mg x = none) (hv : bootBuiltins x = some (.builtin id)) (ha : PA X (e :: es) t) (hn : x ≠ "__name__" := by decide) (hdb : (x == ("__debug__" : Str)) = false := by decide)
    (he : starEach (e :: es) X.env = (false, eval e X.env) :: starEach es X.env := by rfl) (hpl : (backTo pos (starEach es X.env)).any (·.1) = false := by rfl) : PE X (.Call (.Name x p) (e :: es) [] pos) (tCB r t) := by
  intro pins s σ H Q I h
  refine wpAny_Call_Name_kw (ld_blt I hg hm hv ?_ hn hdb)
  exact PyProof.Rows.callWith_builtin1 (thn (ha pos pins s σ H _ I h) fun us s1 ⟨vs, H1, I1, r1, q1⟩ => hc pins s1 σ H1 vs us Q I1 r1 q1) he hpl
/-- T(e, ..), T a built-in type -/
theorem pe_callTy (hc : CallR X (.type T) r) (hg : Gl X x) (hm : X.mg x = none) (hv : bootBuiltins x = some (.type T)) (ha : PA X (e :: es) t) (hn : x ≠ "__name__" := by decide) (hdb : (x == ("__debug__" : Str)) = false := by decide)
    (he : starEach (e :: es) X.env = (false, eval e X.env) :: starEach es X.env := by rfl) (hpl : (backTo pos (starEach es X.env)).any (·.1) = false := by rfl) : PE X (.Call (.Name x p) (e :: es) [] pos) (tCB r t) := by
  intro pins s σ H Q I h
  refine wpAny_Call_Name_kw (ld_blt I hg hm hv ?_ hn hdb)
  exact PyProof.Rows.callWith_type1 (thn (ha pos pins s σ H _ I h) fun us s1 ⟨vs, H1, I1, r1, q1⟩ => hc pins s1 σ H1 vs us Q I1 r1 q1) he hpl
end
end L2

namespace HT
open PySem PyProof.Rows

section
open PySem.SeqAt
open PySem.AutoSeq1 (wpAny_loadPart')
open PySem.MeetsSeq PySem.MeetsSeq2 PySem.MeetsSeq3

end

section
variable {prog : Program} {w : World} {A : Around} {E : Value → Shared → Prop} {s : Shared}

/-- t + u, t not empty -/
theorem cat_tup {t b : Addr} {vs ws : List Value} {Q : Value → Shared → Prop} (ht : IsTup s.heap t vs.toArray) (hb : IsTup s.heap b ws.toArray) (hv : vs ≠ [])
    (h1 : ws = [] → Q (.ref t) s) (h2 : ws ≠ [] → Q (.ref s.heap.objs.size) { s with heap := s.heap.push { cls := .type "tuple", data := .seq (vs ++ ws).toArray } })
    (hsz : vs.length + ws.length ≤ sizeLine) : wpAny (model prog w) A (binaryOp .Add (.ref t) (.ref b)) Q E s := by
  obtain ⟨⟨cls, dd, data, sl⟩, ho, hc, n, hd⟩ := id ht
  obtain ⟨⟨cls2, dd2, data2, sl2⟩, ho2, hc2, n2, hd2⟩ := id hb
  simp only at hc hd hc2 hd2
  subst hc hd hc2 hd2
  have e : vs.toArray ++ ws.toArray = (vs ++ ws).toArray := by simp
  by_cases hw : ws = []
  · exact concat_meets ⟨_, ho, rfl⟩ ⟨_, ho2, rfl⟩ noFill_tuple_add seq_tuple_add PySem.F.slot_tuple_add PySem.F.entry_tuple_add (PySem.F.args_tuple_add_2 _ _)
      (tuple_addW1 t b vs.toArray ws.toArray n n2 dd dd2 sl sl2 (by simpa using hv) (by simp [hw])) ⟨ho, ho2, h1 hw⟩
  · refine concat_meets ⟨_, ho, rfl⟩ ⟨_, ho2, rfl⟩ noFill_tuple_add seq_tuple_add PySem.F.slot_tuple_add PySem.F.entry_tuple_add (PySem.F.args_tuple_add_2 _ _)
      (tuple_addW2 t b vs.toArray ws.toArray n n2 dd dd2 sl sl2 (by simpa using hv) (by simpa using hw) (by rw [List.size_toArray, List.size_toArray]; exact hsz)) ⟨ho, ho2, ?_⟩
    rw [e]
    exact h2 hw

/-! ### t[a:b], not the whole -/
/-- a slice's bound as a place among n (d where it is left out) -/
def sIx (n d : Nat) : Option Int → Nat
  | none => d
  | some v => if v < 0 then (v + (n : Int)).toNat else min v.toNat n
end
end HT

namespace L2
open PySem PySem.Spec PyProof.Rows

/-! ### the parts of a slice -/
section
variable {X : Cx} {e : Expr} {te : TE} {lo hi : Option Expr} {tl th : TO} {pos p2 : Pos}

/-- what a slice of a value is, by values: the slice object stands at sl -/
def SlR (X : Cx) (r : V → Option Int → Option Int → Hp → VK → Prop) : Prop :=
  ∀ (pins : List (Addr × Obj)) (s : Shared) (σ : St) (H : Hp) (x : V) (v vl vu : Value) (lo hi : Option Int) (sl : Addr) (Q : VK), Inv X pins σ H s → RelV x v → s.heap.IsSliceOf sl vl vu .none → IsPart vl lo → IsPart vu hi → r x lo hi H Q →
    ∃ T id, typeLookup (.type T) "__getitem__" = pure (some (.builtin id)) ∧ s.TypeIs v T ∧ wpAny (model X.prog X.w) X.A (getItem v (.ref sl)) (EP X pins σ Q) X.xe s
/-- the items of xs[lo:hi] -/
def cutV (xs : List V) (lo hi : Option Int) : List V := (xs.drop (HT.sIx xs.length 0 lo)).take (HT.sIx xs.length xs.length hi - HT.sIx xs.length 0 lo)
theorem cutV_length (xs : List V) (lo hi : Option Int) : (cutV xs lo hi).length ≤ xs.length := by
  unfold cutV
  rw [List.length_take, List.length_drop]
  omega
/-! ### t < u, t + u -/
theorem Vals.nil_iff {xs : List V} {us : List Value} (r : Vals xs us) : us = [] ↔ xs = [] := by
  cases r with
  | nil => simp
  | cons _ _ => simp
end
end L2

namespace L2
open PySem PySem.Spec PyProof.Rows

/-! ### places -/
/-- the place that an index of any sign means -/
def ixN (n : Nat) (i : Int) : Option Nat := if 0 ≤ i then (if i < n then some i.toNat else none) else if -(n : Int) ≤ i then some (i + n).toNat else none
def atI {α : Type} (xs : List α) (i : Int) : Option α := (ixN xs.length i).bind fun j => xs[j]?
theorem ixN_seq {n : Nat} {i : Int} {j : Nat} (h : ixN n i = some j) : seqIndex? i n = some j ∧ j < n ∧ -(n : Int) ≤ i ∧ i < n := by
  unfold ixN at h
  by_cases h0 : 0 ≤ i
  · rw [if_pos h0] at h
    by_cases h1 : i < n
    · rw [if_pos h1] at h
      have e : i.toNat = j := Option.some.inj h
      exact ⟨by rw [seqIndex_of h0 h1, e], by omega, by omega, h1⟩
    · rw [if_neg h1] at h; cases h
  · rw [if_neg h0] at h
    by_cases h1 : -(n : Int) ≤ i
    · rw [if_pos h1] at h
      have e : (i + n).toNat = j := Option.some.inj h
      exact ⟨by rw [seqIndex_neg (by omega) h1, e], by omega, h1, by omega⟩
    · rw [if_neg h1] at h; cases h
theorem atI_get {α : Type} {xs : List α} {i : Int} {v : α} (h : atI xs i = some v) : ∃ j, seqIndex? i xs.length = some j ∧ xs[j]? = some v ∧ j < xs.length ∧ -(xs.length : Int) ≤ i ∧ i < xs.length := by
  unfold atI at h
  cases e : ixN xs.length i with
  | none => rw [e] at h; cases h
  | some j =>
    rw [e] at h
    obtain ⟨h1, h2, h3, h4⟩ := ixN_seq e
    exact ⟨j, h1, h, h2, h3, h4⟩
theorem atI_nat {α : Type} {xs : List α} {j : Nat} {v : α} (h : xs[j]? = some v) : atI xs (j : Int) = some v := by
  have hj : j < xs.length := (List.getElem?_eq_some_iff.mp h).1
  have e : ixN xs.length (j : Int) = some j := by
    unfold ixN
    rw [if_pos (by omega), if_pos (by omega)]; simp
  unfold atI; rw [e]; exact h
/-! ### what may be subscripted -/
/-- what stands as an index of a plain subscript -/
def PlainIx (b : Expr) : Prop := ∀ o i, subscripted b false o i = operate [o, i] (getItem o i)
/-- a subscript by values -/
def IxR (X : Cx) (r : R2) : Prop :=
  ∀ (value slice : Expr) (pins : List (Addr × Obj)) (s : Shared) (σ : St) (H : Hp) (x y : V) (v u : Value) (Q : VK), Inv X pins σ H s → RelV x v → RelV y u → r x y H Q →
    subscripted slice false v u = operate [v, u] (getItem v u) → wpAny (model X.prog X.w) X.A (subscriptTail value slice v u) (EP X pins σ Q) X.xe s
/-- a call of a builtin's method by values: the receiver, the arguments -/
def MtR (X : Cx) (id : String) (r : V → List V → Hp → VK → Prop) : Prop :=
  ∀ (pins : List (Addr × Obj)) (s : Shared) (σ : St) (H : Hp) (x : V) (xs : List V) (v : Value) (us : List Value) (Q : VK), Inv X pins σ H s → RelV x v → Vals xs us → r x xs H Q →
    wpAny (model X.prog X.w) X.A (call (.builtin id) (v :: us)) (EP X pins σ Q) X.xe s
section
variable {X : Cx} {a b : Expr} {ta tb : TE} {pos : Pos}
/-- a[b] -/
theorem pe_ix {r : R2} (hr : IxR X r) (ha : PE X a ta) (hb : PE X b tb) (hs : PlainIx b) : PE X (.Subscript a b pos) (tOp r ta tb) := by
  intro pins s σ H Q I h
  exact Subscript_ (binT ha hb I h fun v u s2 x y H2 I2 rx ry q => hr a b pins s2 σ H2 x y v u Q I2 rx ry q (hs _ _))

def rIxL (K : PySem.W.Frag) : R2 := fun x y H Q => ∃ p xs i v, x = .ref p ∧ y = .int i ∧ SqL K H p xs ∧ atI xs i = some v ∧ Q v H
def rIxT (K : PySem.W.Frag) : R2 := fun x y H Q => ∃ p xs i v, x = .ref p ∧ y = .int i ∧ SqT K H p xs ∧ atI xs i = some v ∧ Q v H
theorem ix_list : IxR X (rIxL X.K) := by
  intro value slice pins s σ H x y v u Q I rx ry h hs
  obtain ⟨p, xs, i, z, rfl, rfl, hq, he, q⟩ := h
  cases rx
  obtain ⟨t, rfl⟩ := ry
  obtain ⟨its, r, pl, hz⟩ := I.list hq
  obtain ⟨j, h1, h2, h3, h4, h5⟩ := atI_get he
  obtain ⟨w, ew, rw'⟩ := r.get h2
  have hl := r.length
  have hn := line63
  have fin : EP X pins σ Q w s := ⟨z, H, I, rw', q⟩
  by_cases h0 : 0 ≤ i
  · have hj : i.toNat = j := by
      rw [seqIndex_of h0 h5] at h1
      exact Option.some.inj h1
    exact item_listR pl.isList h0 (by omega) (by rw [hj]; simpa using ew) fin hs
  · have hj : (i + (its.toArray.size : Int)).toNat = j := by
      rw [seqIndex_neg (by omega) h4] at h1
      rw [List.size_toArray, ← hl]
      exact Option.some.inj h1
    exact subscriptTail_builtinR (x := w) pl.isList.typeIs slot_list_getitem.lookup
      (wpAny_getItem_list_neg (Q := fun r s' => r = w ∧ EP X pins σ Q r s') pl.isList (by omega) (by rw [List.size_toArray] <;> omega) (by omega) (by rw [hj]; simpa using ew) ⟨rfl, fin⟩) hs
theorem ix_tup : IxR X (rIxT X.K) := by
  intro value slice pins s σ H x y v u Q I rx ry h hs
  obtain ⟨p, xs, i, z, rfl, rfl, hq, he, q⟩ := h
  cases rx
  obtain ⟨t, rfl⟩ := ry
  obtain ⟨its, r, pl, hz⟩ := I.tuple hq
  obtain ⟨j, h1, h2, h3, h4, h5⟩ := atI_get he
  obtain ⟨w, ew, rw'⟩ := r.get h2
  have hl := r.length
  have hn := line63
  have fin : EP X pins σ Q w s := ⟨z, H, I, rw', q⟩
  exact subscriptTail_builtinR (x := w) pl.typeIs slot_tuple_getitem.lookup
    (getItem_tuple (j := j) (Q := fun r s' => r = w ∧ EP X pins σ Q r s') pl (by omega) (by omega) (by rw [List.size_toArray, ← hl]; exact h1) (by simpa using ew) ⟨rfl, fin⟩) hs
/-! ### xs[i] = v, any sign -/
/-- the list's object behind a store -/
theorem mapSeq_set (its : List Value) (n j : Nat) (u : Value) : Obj.mapSeq (·.setIfInBounds j u) { cls := .type "list", data := .seq its.toArray n } = { cls := .type "list", data := .seq (its.set j u).toArray n } := by
  simp [Obj.mapSeq]
theorem Inv.lst {pins : List (Addr × Obj)} {σ : St} {H : Hp} {s : Shared} {p : Addr} {xs : List V} (I : Inv X pins σ H s) (h : H p = some (.lst xs)) :
    ∃ (its : List Value) (n : Nat), Vals xs its ∧ s.heap.get? p = some { cls := .type "list", data := .seq its.toArray n } ∧ xs.length ≤ sizeLine := by
  obtain ⟨z, its, n, r, e⟩ := I.hok p _ h
  exact ⟨its, n, r, e, z⟩
/-- the list at p is written by an update of its object -/
theorem Inv.lstUpd {pins : List (Addr × Obj)} {σ : St} {H : Hp} {s : Shared} {p : Addr} {xs ys : List V} {its its' : List Value} {n n' : Nat} {f : Obj → Obj} (I : Inv X pins σ H s) (h : H p = some (.lst xs))
    (ho : s.heap.get? p = some { cls := .type "list", data := .seq its.toArray n }) (hf : f { cls := .type "list", data := .seq its.toArray n } = { cls := .type "list", data := .seq its'.toArray n' }) (r : Vals ys its') (hz : ys.length ≤ sizeLine) (t : Nat) :
    Inv X pins σ (upd H p (.lst ys)) { s with heap := s.heap.update p f, toks := t } := by
  have e : (s.heap.update p f).get? p = some { cls := .type "list", data := .seq its'.toArray n' } := by
    rw [Heap.get?_update_self f ho (by rw [hf] <;> rfl), hf]
  refine I.write (x := p) (e := p) (by rw [h]; trivial) (.inl rfl) (fun b u hb q => (Heap.get?_update_other _ _ (Ne.symm hb)).trans q) ⟨_, e⟩ ?_
  exact ⟨hz, its', n', r, e⟩
def rSetL : V → V → V → Hp → (Hp → Prop) → Prop := fun o i v H Q => ∃ p xs k j, o = .ref p ∧ i = .int k ∧ H p = some (.lst xs) ∧ ixN xs.length k = some j ∧ Q (upd H p (.lst (xs.set j v)))
theorem set_list : PSet X rSetL := by
  intro pins s σ H o i v ov iv u Q I ro ri rv h
  obtain ⟨p, xs, k, j, rfl, rfl, hp, hj, q⟩ := h
  cases ro
  obtain ⟨t, rfl⟩ := ri
  obtain ⟨its, n, r, ho, hz⟩ := I.lst hp
  obtain ⟨h1, h2, h3, h4⟩ := ixN_seq hj
  have hl := r.length
  have hn := line63
  have I' : Inv X pins σ (upd H p (.lst (xs.set j v))) { s with heap := s.heap.update p (Obj.mapSeq (·.setIfInBounds j u)) } :=
    I.lstUpd hp ho (mapSeq_set its n j u) (r.set rv j) (by rw [List.length_set]; exact hz) s.toks
  by_cases h0 : 0 ≤ k
  · have hk : k.toNat = j := by
      rw [seqIndex_of h0 h4] at h1
      exact Option.some.inj h1
    exact PySem.W.ki_setAt ho h0 (by omega) (by rw [List.size_toArray, ← hl]; exact h4) (by rw [hk]; exact ⟨_, I', q⟩)
  · have hk : (k + (its.toArray.size : Int)).toNat = j := by
      rw [seqIndex_neg (by omega) h3] at h1
      rw [List.size_toArray, ← hl]
      exact Option.some.inj h1
    exact PySem.W.ki_setBack ho (by omega) (by rw [List.size_toArray, ← hl]; exact h3) (by omega) (by rw [hk]; exact ⟨_, I', q⟩)

/-! ### slices -/
theorem slice_bounds (lo hi : Option Int) (n : Nat) : (sliceBounds lo hi none n).1 = ((HT.sIx n 0 lo : Nat) : Int) ∧ (sliceBounds lo hi none n).2.1 = ((HT.sIx n n hi : Nat) : Int) ∧ (sliceBounds lo hi none n).2.2 = 1 := by
  refine ⟨?_, ?_, rfl⟩
  · cases lo with
    | none => simp [sliceBounds, HT.sIx]
    | some i =>
      simp only [sliceBounds, HT.sIx, Option.getD_none, show (1 : Int) > 0 by decide, if_true]
      by_cases h : i < 0
      · simp only [h, if_true] <;> omega
      · simp only [h, if_false] <;> omega
  · cases hi with
    | none => simp [sliceBounds, HT.sIx]
    | some i =>
      simp only [sliceBounds, HT.sIx, Option.getD_none, show (1 : Int) > 0 by decide, if_true]
      by_cases h : i < 0
      · simp only [h, if_true] <;> omega
      · simp only [h, if_false] <;> omega
theorem slicePick_cut (its : List Value) (lo hi : Option Int) : slicePick its.toArray lo hi none = ((its.drop (HT.sIx its.length 0 lo)).take (HT.sIx its.length its.length hi - HT.sIx its.length 0 lo)).toArray := by
  obtain ⟨h1, h2, h3⟩ := slice_bounds lo hi its.toArray.size
  unfold slicePick
  rw [h1, h2, h3]
  simp only [sliceRange_one, pick_run, List.size_toArray] <;> rfl
/-- xs[lo:hi] of a list: a new list -/
def rSlL (K : PySem.W.Frag) : V → Option Int → Option Int → Hp → VK → Prop := fun x lo hi H Q => ∃ a xs, x = .ref a ∧ SqL K H a xs ∧ ∀ p, H p = none → Q (.ref p) (upd H p (.lst (cutV xs lo hi)))
theorem sl_list : SlR X (rSlL X.K) := by
  intro pins s σ H x v vl vu lo hi sl Q I rx hs pl pu h
  obtain ⟨a, xs, rfl, hx, q⟩ := h
  cases rx
  obtain ⟨its, r, ht, hz⟩ := I.list hx
  have hlen := r.length
  refine ⟨"list", _, slot_list_getitem.lookup, ht.isList.typeIs, ?_⟩
  refine wpAny_getItem_list_slice ht.isList hs pl pu .none (by simp) ?_ (by rw [List.size_toArray] <;> omega)
  rw [slicePick_cut, ← hlen]
  refine ⟨.ref s.heap.objs.size, _, I.laid (t' := s.toks) (o := .lst (cutV xs lo hi)) (fun b ob q => Heap.get?_push_of_some _ q) (Nat.le_refl _) ?_, rfl, q _ (I.hok.fresh (Nat.le_refl _))⟩
  exact ⟨Nat.le_trans (cutV_length xs lo hi) hz, _, 0, (r.drop (HT.sIx xs.length 0 lo)).take (HT.sIx xs.length xs.length hi - HT.sIx xs.length 0 lo), Heap.get?_push_size _ rfl⟩

/-! ### in, not in: flat items -/
def flatV : V → Bool
  | .non => true
  | .bl _ => true
  | .int _ => true
  | .str _ => true
  | _ => false
/-- == of flat values -/
def eqV : V → V → Bool
  | .non, .non => true
  | .bl a, .bl b => a == b
  | .bl a, .int b => (if a then 1 else 0) == b
  | .int a, .bl b => a == (if b then 1 else 0)
  | .int a, .int b => a == b
  | .str a, .str b => a == b
  | _, _ => false
theorem eqAt_V {A : Around} {s : Shared} {y x : V} {u v : Value} (ry : RelV y u) (rx : RelV x v) (fy : flatV y = true) (fx : flatV x = true) : SeqAt.EqAt A s u v (eqV y x) := by
  cases y with
  | non =>
    cases ry
    cases x with
    | non => cases rx; exact SeqAt.EqAt.same _
    | bl b => cases rx; exact SeqAt.EqAt.none_bool b
    | int b => obtain ⟨t, rfl⟩ := rx; exact SeqAt.EqAt.none_int b t
    | str b => obtain ⟨t, rfl⟩ := rx; exact SeqAt.EqAt.none_str b t
    | _ => exact absurd (show false = true from fx) Bool.false_ne_true
  | bl a =>
    cases ry
    cases x with
    | non => cases rx; exact SeqAt.EqAt.bool_none a
    | bl b => cases rx; exact SeqAt.EqAt.bool_bool a b
    | int b => obtain ⟨t, rfl⟩ := rx; exact SeqAt.EqAt.bool_int a b t
    | str b => obtain ⟨t, rfl⟩ := rx; exact SeqAt.EqAt.bool_str a b t
    | _ => exact absurd (show false = true from fx) Bool.false_ne_true
  | int a =>
    obtain ⟨t', rfl⟩ := ry
    cases x with
    | non => cases rx; exact SeqAt.EqAt.int_none a t'
    | bl b => cases rx; exact SeqAt.EqAt.int_bool a t' b
    | int b => obtain ⟨t, rfl⟩ := rx; exact SeqAt.EqAt.int_int a t' b t
    | str b => obtain ⟨t, rfl⟩ := rx; exact SeqAt.EqAt.int_str a t' b t
    | _ => exact absurd (show false = true from fx) Bool.false_ne_true
  | str a =>
    obtain ⟨t', rfl⟩ := ry
    cases x with
    | non => cases rx; exact SeqAt.EqAt.str_none a t'
    | bl b => cases rx; exact SeqAt.EqAt.str_bool a t' b
    | int b => obtain ⟨t, rfl⟩ := rx; exact SeqAt.EqAt.str_int a t' b t
    | str b => obtain ⟨t, rfl⟩ := rx; exact SeqAt.EqAt.str_str a t' b t
    | _ => exact absurd (show false = true from fx) Bool.false_ne_true
  | _ => exact absurd (show false = true from fy) Bool.false_ne_true
/-- the items' answers, read off the values (a value's own answer does not lean on its token) -/
def eqU (x : V) (u : Value) : Bool := match u with
  | .none => eqV .non x
  | .bool b => eqV (.bl b) x
  | .int i _ => eqV (.int i) x
  | .str z _ => eqV (.str z) x
  | _ => false
theorem eqU_of {x y : V} {u : Value} (r : RelV y u) (f : flatV y = true) : eqU x u = eqV y x := by
  cases y with
  | non => cases r; rfl
  | bl b => cases r; rfl
  | int i => obtain ⟨t, rfl⟩ := r; rfl
  | str z => obtain ⟨t, rfl⟩ := r; rfl
  | _ => exact absurd (show false = true from f) Bool.false_ne_true
theorem any_eqU {x : V} : ∀ {xs : List V} {us : List Value}, Vals xs us → xs.all flatV = true → us.any (eqU x) = xs.any fun y => eqV y x
  | _, _, .nil, _ => rfl
  | y :: xs, u :: us, .cons r t, f => by
    rw [List.all_cons, Bool.and_eq_true] at f
    rw [List.any_cons, List.any_cons, eqU_of r f.1, any_eqU t f.2]
theorem mem_eqAt {A : Around} {s : Shared} {x : V} {v : Value} (rx : RelV x v) (fx : flatV x = true) : ∀ {xs : List V} {us : List Value}, Vals xs us → xs.all flatV = true → ∀ u ∈ us, SeqAt.EqAt A s u v (eqU x u)
  | _, _, .nil, _ => fun u hu => by cases hu
  | y :: xs, u :: us, .cons r t, f => fun u' hu => by
    rw [List.all_cons, Bool.and_eq_true] at f
    rcases List.mem_cons.mp hu with rfl | hu
    · rw [eqU_of r f.1]; exact eqAt_V r rx f.1 fx
    · exact mem_eqAt rx fx t f.2 u' hu
def inV (x : V) (xs : List V) : Bool := xs.any fun y => eqV y x
/-- x in a list or tuple of flat items -/
def rIn (K : PySem.W.Frag) (neg : Bool) : R2 := fun x y H Q => ∃ p xs, y = .ref p ∧ (SqL K H p xs ∨ SqT K H p xs) ∧ flatV x = true ∧ xs.all flatV = true ∧ Q (.bl (if neg then !inV x xs else inV x xs)) H
theorem op_notIn_seq : OpR X (compareOp .NotIn) (rIn X.K true) := by
  intro pins s σ H x y v u Q I rx ry h
  obtain ⟨p, xs, rfl, hq, fx, fs, q⟩ := h
  cases ry
  rcases hq with hq | hq
  · obtain ⟨its, r, pl, hz⟩ := I.list hq
    refine SeqAt.notIn_listAt (eqU x) pl.isList (fun w hw => mem_eqAt rx fx r fs w (by simpa using hw)) ⟨.bl _, H, I, rfl, ?_⟩
    rw [show its.toArray.any (eqU x) = its.any (eqU x) by simp, any_eqU r fs]
    exact q
  · obtain ⟨its, r, pl, hz⟩ := I.tuple hq
    refine SeqAt.notIn_tupleAt (eqU x) pl (fun w hw => mem_eqAt rx fx r fs w (by simpa using hw)) ⟨.bl _, H, I, rfl, ?_⟩
    rw [show its.toArray.any (eqU x) = its.any (eqU x) by simp, any_eqU r fs]
    exact q
/-! ### len, list(x), tuple(x) of any list or tuple that is read -/
theorem call_len_seq : CallR X (.builtin "len") (fun xs H Q => ∃ p ys, xs = [.ref p] ∧ (SqL X.K H p ys ∨ SqT X.K H p ys) ∧ Q (.int ys.length) H) := by
  intro pins s σ H xs us Q I r h
  obtain ⟨p, ys, rfl, hq, q⟩ := h
  obtain ⟨u, rfl, rx⟩ := vals1 r
  cases rx
  have hn := line63
  rcases hq with hq | hq
  · obtain ⟨its, r', pl, hz⟩ := I.list hq
    have hlen := r'.length
    exact Calls.call_len_list pl.isList (by simp only [List.size_toArray] <;> omega) ⟨.int ys.length, H, I.tok _, ⟨s.toks + 1, by rw [List.size_toArray, hlen]⟩, q⟩
  · obtain ⟨its, r', pl, hz⟩ := I.tuple hq
    have hlen := r'.length
    exact len_tuple pl (by simp only [List.size_toArray] <;> omega) ⟨.int ys.length, H, I.tok _, ⟨s.toks + 1, by rw [List.size_toArray, hlen]⟩, q⟩
theorem call_tuple_of : CallR X (.type "tuple") (fun xs H Q => ∃ p ys, xs = [.ref p] ∧ ((SqL X.K H p ys ∧ ∀ l, H l = none → Q (.ref l) (upd H l (.tup ys))) ∨ (SqT X.K H p ys ∧ Q (.ref p) H))) := by
  intro pins s σ H xs us Q I r h
  obtain ⟨p, ys, rfl, h⟩ := h
  obtain ⟨u, rfl, rx⟩ := vals1 r
  cases rx
  rcases h with ⟨hq, q⟩ | ⟨hq, q⟩
  · obtain ⟨its, r', pl, hz⟩ := I.list hq
    have hlen := r'.length
    refine call_tuple_list pl.isList (fun h' kp => ?_) (by simp only [List.size_toArray] <;> omega)
    have I1 : Inv X pins σ H { s with heap := h' } := I.kept (t' := s.toks) kp
    have I2 : Inv X pins σ (upd H h'.objs.size (.tup ys)) { s with heap := h'.push { cls := .type "tuple", data := .seq its.toArray } } :=
      I1.laid (t' := s.toks) (fun b o e => Heap.get?_push_of_some _ e) (Nat.le_refl _) (show ObjOk X.prog X.w _ _ _ (.tup ys) from ⟨hz, its, r', TupP.new _ _⟩)
    exact ⟨.ref h'.objs.size, _, I2, rfl, q _ (I1.hok.fresh (Nat.le_refl _))⟩
  · obtain ⟨its, r', pl, hz⟩ := I.tuple hq
    exact call_tuple_same pl ⟨.ref p, H, I, rfl, q⟩

/-! ### the call of a builtin's method: o.m(..) -/
/-- the value is of that builtin type -/
def tyV (K : PySem.W.Frag) (T : String) (x : V) (H : Hp) : Prop := match x with
  | .str _ => T = "str"
  | .int _ => T = "int"
  | .ref p => (T = "list" ∧ ∃ xs, SqL K H p xs) ∨ (T = "tuple" ∧ ∃ o, K.lookup p = some o ∧ o.cls = .type "tuple" ∧ o.dict = none) ∨
      (T = "dict" ∧ ((∃ kvs, H p = some (.dK kvs)) ∨ ∃ kvs, H p = some (.dT kvs))) ∨ (T = "set" ∧ ∃ S n, H p = some (.set S n))
  | _ => False
theorem tyV_is {pins : List (Addr × Obj)} {σ : St} {H : Hp} {s : Shared} {T : String} {x : V} {v : Value} (I : Inv X pins σ H s) (r : RelV x v) (ty : tyV X.K T x H) :
    s.TypeIs v T ∧ ∀ a, v = .ref a → ∃ ob, s.heap.get? a = some ob ∧ ob.dict = none := by
  cases x with
  | str z =>
    obtain ⟨t, rfl⟩ := r
    cases (show T = "str" from ty)
    exact ⟨typeIs_str s z t, fun _ e => nomatch e⟩
  | int i =>
    obtain ⟨t, rfl⟩ := r
    cases (show T = "int" from ty)
    exact ⟨typeIs_int s i t, fun _ e => nomatch e⟩
  | ref p =>
    cases r
    rcases ty with ⟨rfl, xs, hq⟩ | ⟨rfl, o, hk, hc, hd⟩ | ⟨rfl, hk⟩ | ⟨rfl, S, n, hk⟩
    · obtain ⟨its, _, pl, _⟩ := I.list hq
      refine ⟨pl.isList.typeIs, fun a e => ?_⟩
      cases e
      obtain ⟨o, n, e, c, hd, _⟩ := pl
      exact ⟨o, e, hd⟩
    · refine ⟨⟨o, I.kIn p o hk, hc⟩, fun a e => ?_⟩
      cases e
      exact ⟨o, I.kIn _ o hk, hd⟩
    · have z : ∃ o, s.heap.get? p = some o ∧ o.ExactDict := by
        rcases hk with ⟨kvs, hk⟩ | ⟨kvs, hk⟩
        · obtain ⟨_, _, _, _, o, _, _, e, ex, _⟩ := I.hok p _ hk
          exact ⟨o, e, ex⟩
        · obtain ⟨_, _, _, _, o, _, _, e, ex, _⟩ := I.hok p _ hk
          exact ⟨o, e, ex⟩
      obtain ⟨o, e, ex⟩ := z
      refine ⟨⟨o, e, ex.1⟩, fun a e2 => ?_⟩
      cases e2
      exact ⟨o, e, ex.2.1⟩
    · obtain ⟨o, _, _, _, e, ex, _⟩ := I.hok p _ hk
      refine ⟨⟨o, e, ex.1⟩, fun a e2 => ?_⟩
      cases e2
      exact ⟨o, e, ex.2.1⟩
  | _ => exact False.elim ty
def tBM (K : PySem.W.Frag) (T : String) (r : V → List V → Hp → VK → Prop) (to : TE) (t : TA) : TE := fun σ H Q => to σ H fun x H1 => tyV K T x H1 ∧ t σ H1 fun xs H2 => r x xs H2 Q
variable {o e : Expr} {es : List Expr} {to : TE} {t : TA} {name : Str} {apos cpos : Pos} {T id : String} {r : V → List V → Hp → VK → Prop}
theorem pe_bm (pa : PlainAttrs T) (slot : Slot T name id) (hty : typeOf (.builtin id) = pure (.type "method_descriptor")) (hm : MtR X id r) (ho : PE X o to) (ha : PA X (e :: es) t)
    (hbase : attributeBase o name X.env (eval o X.env) = eval o X.env := by rfl)
    (hfew : ((backTo cpos (starEach (e :: es) X.env)).all (fun x => !x.1) && (backToKw cpos (keywordEach [] X.env)).all (fun x => x.1.isSome)
      && decide ((e :: es).length + ([] : List Keyword).length + (if ([] : List Keyword).isEmpty then 0 else 1) < 30)) = true := by rfl)
    (hline : (apos.endLine == cpos.line) = true := by rfl) (hs : starEach (e :: es) X.env = (false, eval e X.env) :: starEach es X.env := by rfl) (hplain : (backTo cpos (starEach es X.env)).any (·.1) = false := by rfl) :
    PE X (.Call (.Attribute o name apos) (e :: es) [] cpos) (tBM X.K T r to t) := by
  intro pins s σ H Q I h
  refine wpAny_Call_method_late hbase hfew hline rfl (thn (ho pins s σ H _ I h) fun v s1 ⟨x, H1, I1, r1, ty, q1⟩ => ?_)
  obtain ⟨h1, h2⟩ := tyV_is I1 r1 ty
  refine ⟨T, id, pa, slot, hty, h1, h2, ?_⟩
  have hA := ha cpos pins s1 σ H1 _ I1 q1
  rw [hs] at hA ⊢
  refine Calls.callWith_builtin (by show (false || (backTo cpos (starEach es X.env)).any (·.1)) = false; rw [hplain] <;> rfl) (Calls.evalArgs_plain ?_)
  exact thn hA fun us s2 ⟨vs, H2, I2, r2, q2⟩ => hm pins s2 σ H2 x vs v us Q I2 r1 r2 q2
/- xs.append(e), list.index on a module's tuple .. are MtR facts of 06m -/
end
end L2

namespace L2
open PySem PySem.Spec PyProof.Rows

def MtM (X : Cx) (id : String) (r : V → List V → Hp → VK → Prop) : Prop :=
  ∀ (pins : List (Addr × Obj)) (s : Shared) (σ : St) (H : Hp) (x : V) (xs : List V) (v : Value) (us : List Value) (Q : VK), Inv X pins σ H s → RelV x v → Vals xs us → r x xs H Q →
    wpAny (model X.prog X.w) X.A (call (.builtin id) (v :: us)) (EP X pins σ Q) X.xe s

/-! ### lists of values -/
theorem Vals.one : ∀ {x : V} {us : List Value}, Vals [x] us → ∃ u, us = [u] ∧ RelV x u
  | _, _, .cons r .nil => ⟨_, rfl, r⟩
theorem Vals.two : ∀ {x y : V} {us : List Value}, Vals [x, y] us → ∃ u v, us = [u, v] ∧ RelV x u ∧ RelV y v
  | _, _, _, .cons r (.cons q .nil) => ⟨_, _, rfl, r, q⟩
theorem Vals.rep {xs : List V} {us : List Value} (h : Vals xs us) : ∀ k : Nat, Vals (List.replicate k xs).flatten (List.replicate k us).flatten
  | 0 => .nil
  | k + 1 => by
    rw [List.replicate_succ, List.replicate_succ, List.flatten_cons, List.flatten_cons]
    exact Vals.append h (Vals.rep h k)
theorem foldl_rep (its : List Value) : ∀ (k : Nat) (acc : List Value),
    List.foldl (fun x1 x2 => x1 ++ x2) acc.toArray (List.replicate k its.toArray) = (acc ++ (List.replicate k its).flatten).toArray
  | 0, acc => by simp
  | k + 1, acc => by
    have e : acc.toArray ++ its.toArray = (acc ++ its).toArray := by simp
    have e2 : (acc ++ its) ++ (List.replicate k its).flatten = acc ++ (List.replicate (k + 1) its).flatten := by
      rw [List.replicate_succ, List.flatten_cons, List.append_assoc]
    rw [← e2, ← foldl_rep its k (acc ++ its), ← e, List.replicate_succ, List.foldl_cons]

section
variable {X : Cx} {pins : List (Addr × Obj)} {σ : St} {H : Hp} {s : Shared} {l b : Addr} {xs ys zs : List V}

/-! ### the two steps: a tracked list is rewritten, a new list is laid -/
theorem Inv.lset {its its' : List Value} {n : Nat} {f : Array Value → Array Value} {t' : Nat} (I : Inv X pins σ H s) (hH : H l = some (.lst xs))
    (e : s.heap.get? l = some { cls := .type "list", data := .seq its.toArray n }) (hf : f its.toArray = its'.toArray) (hv : Vals ys its') (hz : ys.length ≤ sizeLine) :
    Inv X pins σ (upd H l (.lst ys)) { s with heap := s.heap.update l (Obj.mapSeq f), toks := t' } := by
  have q := PySem.IsL.update e f
  rw [hf] at q
  refine I.write (x := l) (e := l) (by rw [hH]; exact trivial) (.inl rfl) (fun b' u hb hu => (Heap.get?_update_other s.heap (Obj.mapSeq f) (Ne.symm hb)).trans hu) ⟨_, q⟩ ?_
  exact ⟨hz, its', _, hv, q⟩
theorem Inv.lnew {its : List Value} {t' : Nat} (I : Inv X pins σ H s) (hv : Vals ys its) (hz : ys.length ≤ sizeLine) :
    Inv X pins σ (upd H s.heap.objs.size (.lst ys)) { s with heap := s.heap.push { cls := .type "list", data := .seq its.toArray }, toks := t' } :=
  I.laid (fun _ _ q => Heap.get?_push_of_some _ q) (Nat.le_refl _) ⟨hz, its, 0, hv, Heap.get?_push_size _ rfl⟩
theorem Inv.fresh (I : Inv X pins σ H s) : H s.heap.objs.size = none := I.hok.fresh (Nat.le_refl _)
theorem Inv.lstM (I : Inv X pins σ H s) (hH : H l = some (.lst xs)) : xs.length ≤ sizeLine ∧ ∃ (its : List Value) (n : Nat), Vals xs its ∧ xs.length = its.length ∧ s.heap.get? l = some { cls := .type "list", data := .seq its.toArray n } := by
  obtain ⟨z, its, n, r, e⟩ := I.hok l _ hH
  exact ⟨z, its, n, r, r.length, e⟩

theorem notLongL {n : Nat} (h : n ≤ sizeLine) : Builtin.List.listTooLong n = false := by
  unfold Builtin.List.listTooLong
  exact decide_eq_false (by omega)
end

section
variable {X : Cx}

/-! ### methods -/
def rAppend : V → List V → Hp → VK → Prop := fun x vs H Q => ∃ l xs y, x = .ref l ∧ vs = [y] ∧ H l = some (.lst xs) ∧ xs.length < sizeLine ∧ Q .non (upd H l (.lst (xs ++ [y])))
theorem mt_append : MtM X "list.append" rAppend := by
  intro pins s σ H x vs v us Q I rx rv h
  obtain ⟨l, xs, y, rfl, rfl, hH, hz, q⟩ := h
  cases rx
  obtain ⟨u, rfl, ru⟩ := rv.one
  obtain ⟨z, its, n, r, hl, e⟩ := I.lstM hH
  refine call_meets F.slot_list_append ⟨_, e, rfl⟩ F.entry_list_append (F.args_list_append_2 _ _) (PySem.list_append l its.toArray n u (by rw [List.size_toArray]; omega)) ⟨e, ?_⟩
  refine ⟨.non, _, I.lset (its' := its ++ [u]) hH e (by simp) (r.append (.cons ru .nil)) ?_, rfl, q⟩
  rw [List.length_append, List.length_singleton]
  omega

def rExtend : V → List V → Hp → VK → Prop := fun x vs H Q => ∃ l b xs zs, x = .ref l ∧ vs = [.ref b] ∧ H l = some (.lst xs) ∧ H b = some (.lst zs) ∧ xs.length + zs.length ≤ sizeLine ∧ Q .non (upd H l (.lst (xs ++ zs)))
theorem mt_extend : MtM X "list.extend" rExtend := by
  intro pins s σ H x vs v us Q I rx rv h
  obtain ⟨l, b, xs, zs, rfl, rfl, hH, hB, hz, q⟩ := h
  cases rx
  obtain ⟨u, rfl, ru⟩ := rv.one
  cases ru
  obtain ⟨z, its, n, r, hl, e⟩ := I.lstM hH
  obtain ⟨z2, its2, n2, r2, hl2, e2⟩ := I.lstM hB
  have hsz : its.toArray.size + its2.toArray.size ≤ sizeLine := by rw [List.size_toArray, List.size_toArray]; omega
  have hlong : ¬ (!its.toArray.isEmpty && Builtin.List.listTooLong (its.toArray.size + its2.toArray.size)) = true := by
    rw [notLongL hsz, Bool.and_false]
    exact Bool.false_ne_true
  refine call_meets F.slot_list_extend ⟨_, e, rfl⟩ F.entry_list_extend (F.args_list_extend_2 _ _)
    (AutoSeq1.list_extend_list_list_0 l its.toArray n b its2.toArray n2 hlong (by rw [List.size_toArray]; omega) (by omega)) ⟨e, e2, ?_⟩
  refine ⟨.non, _, I.lset (its' := its ++ its2) hH e (by simp) (r.append r2) ?_, rfl, q⟩
  rw [List.length_append]
  omega

/-! ### list + list, list += list, list * int -/
/-- a list times an int (a negative one is nothing) -/
def rRep : R2 := fun x y H Q => ∃ l k xs, x = .ref l ∧ y = .int k ∧ H l = some (.lst xs) ∧ -(2 ^ 63) ≤ k ∧ k < 2 ^ 63 ∧ xs.length * k.toNat ≤ sizeLine ∧
  ∀ p, H p = none → Q (.ref p) (upd H p (.lst (List.replicate k.toNat xs).flatten))
theorem len_rep {α : Type} (xs : List α) (k : Nat) : (List.replicate k xs).flatten.length = k * xs.length := by
  induction k with
  | zero => simp
  | succ k ih => rw [List.replicate_succ, List.flatten_cons, List.length_append, ih, Nat.succ_mul, Nat.add_comm]
theorem op_rep : OpR X (binaryOp .Mult) rRep := by
  intro pins s σ H x y v u Q I rx ry h
  obtain ⟨l, k, xs, rfl, rfl, hH, h1, h2, hz, q⟩ := h
  cases rx
  obtain ⟨t, rfl⟩ := ry
  obtain ⟨z, its, n, r, hl, e⟩ := I.lstM hH
  have hlen : its.toArray.size * k.toNat ≤ sizeLine := by rw [List.size_toArray, ← hl]; exact hz
  have hcap : ¬ its.toArray.size * k.toNat > (2 ^ 63 - 1) / 8 := by
    have : (sizeLine : Nat) ≤ (2 ^ 63 - 1) / 8 := by decide
    omega
  have hfit : ¬ (!Builtin.List.listFitsIndex k) = true := by
    rw [fitsIndex_both h1 h2]
    exact Bool.false_ne_true
  have hlong : ¬ Builtin.List.listTooLong (its.toArray.size * k.toNat) = true := by
    rw [notLongL hlen]
    exact Bool.false_ne_true
  have hnew : List.foldl (fun x1 x2 => x1 ++ x2) #[] (List.replicate (if its.toArray.isEmpty = true then 0 else k.toNat) its.toArray) = (List.replicate k.toNat its).flatten.toArray := by
    have f0 : ∀ m : Nat, List.foldl (fun x1 x2 => x1 ++ x2) #[] (List.replicate m its.toArray) = (List.replicate m its).flatten.toArray := fun m => by
      have := foldl_rep its m []
      rw [List.nil_append] at this
      exact this
    rw [f0]
    cases its with
    | nil => simp
    | cons a r' => rw [if_neg (by simp)]
  refine wpAny_binaryOp_repeat_ref (T := "list") (U := "int") (by decide) ⟨_, e, rfl⟩ (fun s' => typeIs_int s' k t) noFill_list_mul F.fills_int_mul F.slot_int_rmul repeat_list F.slot_int_index.lookup
    (call_meets F.slot_int_rmul (typeIs_int s k t) F.entry_int_rmul (F.args_int_rmul_2 _ _) (int___rmul___int_list k t l its.toArray n)
      ⟨e, rfl, ⟨_, e, rfl⟩, call_meets F.slot_list_mul ⟨_, e, rfl⟩ F.entry_list_mul (F.args_list_mul_2 _ _) (AutoListH.list___mul___list_int_3 l its.toArray n k t hfit hcap hlong) ⟨e, ?_⟩⟩)
  rw [hnew]
  exact ⟨.ref _, _, I.lnew (t' := s.toks) (r.rep k.toNat) (by rw [len_rep, Nat.mul_comm]; exact hz), rfl, q _ I.fresh⟩

/-! ### del xs[i] -/
end

/-! ### xs[a:b] = ys -/
section
variable {prog : Program} {w : World} {A : Around} {E : Value → Shared → Prop} {s : Shared}
end

section
variable {X : Cx}
end
end L2

namespace Att
open PySem PySem.W PySem.Calls PyProof.Rows

/-! ### the script -/
theorem ints_of_wellAll {P : Params} {h : Heap} : ∀ (ns : List Int) (vs : List Value), WellAll P h vs (ns.map WData.int) → IntsAre vs ns := by
  intro ns
  induction ns with
  | nil =>
    intro vs w
    rw [List.map_nil] at w
    cases w
    exact .nil
  | cons n ns ih =>
    intro vs w
    rw [List.map_cons] at w
    cases w with
    | cons a b =>
      cases a
      exact .cons _ _ (ih _ b)

theorem script_of {l : OpenLaw} {n : Nat} (hn : l.most = some n) {P : Params} {h : Heap} {args : List WData} {vals : List Value}
    (hpre : l.row.toRowW.claim.pre args = true) (hwl : WellAll P h vals args) :
    ∃ a vs ns, vals = [Value.ref a] ∧ args = [WData.list (ns.map WData.int)] ∧ h.get? a = some { cls := .type "list", data := .seq vs.toArray } ∧ IntsAre vs ns ∧ ns.length ≤ n := by
  have hsh : WShape.hasAll [] args [.list .int] = true := (pre_splitW hpre).1
  have hc : l.pre.holds [] { args := args } = true := (pre_splitW hpre).2
  obtain ⟨d, r, rfl, h1, h2⟩ := hasAllW_cons hsh
  obtain rfl := hasAllW_nil h2
  obtain ⟨xs, rfl, h3⟩ := hasW_list h1
  obtain ⟨ns, rfl⟩ := items_int h3
  have hlen : ns.length ≤ n := by
    unfold OpenLaw.pre at hc
    have h4 : (WTm.not (.lt (.lit (.int (n : Int))) (.len (.arg 0)))).holds [] { args := [.list (ns.map .int)] } = true := by
      have h4 := (holds_andW hc).1
      rw [hn] at h4
      exact h4
    have h5 := condW_of h4 (w_not (w_lt w_lit (w_len_list (w_arg rfl))))
    rw [List.length_map] at h5
    refine Nat.le_of_not_lt fun q => ?_
    have q' : (n : Int) < ((ns.length : Nat) : Int) := by omega
    first
      | (rw [decide_eq_true q'] at h5; exact absurd h5 (by decide))
      | (simp at h5; omega)
  cases hwl with
  | cons w1 w2 =>
    cases w2
    cases w1 with
    | list ho hall => exact ⟨_, _, ns, rfl, rfl, ho, ints_of_wellAll ns _ hall, hlen⟩

theorem post_true (l : OpenLaw) (args : List WData) : l.row.toRowW.claim.post args (.bool true) args = true :=
  postW_of (r := l.row.toRowW) (X := (true == true))
    (show WShape.has [] (.bool true) .bool = true by first | rfl | decide | simp [WShape.has, WShape.arms, WShape.armsAll])
    (show (WTm.eq .res (.lit (.bool true))).value [] { args := args, res := some (.bool true), after := args } = some (.bool (true == true)) from w_eq_bool (w_res rfl) w_lit) rfl

/-! ### the attachment: holds_open's last premise (the goal 'hc' behind k_head) from a wpAny of the law's body -/
/-- the same from a codeAny of the CALL (for a layer whose function contracts speak of calls) -/
theorem attach_call {l : OpenLaw} {n : Nat} {q : Program} {loose : List Str} {XP : (Str → Option Value) → Heap → Prop} {YP : World → Heap → Prop} {d : DefRec}
    (hn : l.most = some n) (hdf : d.params.defaults = [])
    (call : ∀ (w : World) (s₀ s₁ : Shared) (mg mb : Str → Option Value) (fa : Addr) (o : Obj) (pm cd doc : Value) (a : Addr) (vs : List Value) (ns : List Int),
      Ground q loose [] XP w s₀ mg mb s₁.heap → YP w s₁.heap →
      s₁.heap.get? fa = some o → o.data = .func (docDef d.name d.params d.body d.scope pm cd doc) → s₁.heap.CodeRec cd d.name → mg d.name = some (.ref fa) →
      s₁.heap.get? a = some { cls := .type "list", data := .seq vs.toArray } → IntsAre vs ns → ns.length ≤ n → s₁.gens = #[] →
      codeAny (model l.prog w) callerA (.call (.ref fa) ⟨[.ref a], []⟩) (fun r s' => r = .ok (.ret (.bool true)) ∧ OldK s₁.heap s'.heap ∧ s'.os = s₁.os ∧ AllBare s'.gens) s₁) :
    WalkO q loose XP YP l.row.toRowW d [] (fun f vs => PySem.call f vs) := by
  intro w s₀ s₁ mg mb G Y fa o pm cd doc dV kV ho hd hcd hD hmg hg args vals as hpre hlay hrd hwl hlo
  obtain rfl : dV = .none := Dflts.none hD hdf
  obtain rfl : kV = .none := Dflts.noKw hD
  obtain ⟨a, vs, ns, rfl, rfl, hobj, hints, hlen⟩ := script_of hn hpre hwl
  refine enter_call (codeAny_mono (call w s₀ s₁ mg mb fa o pm cd doc a vs ns G Y ho (fd_plain hd) hcd hmg hobj hints hlen hg) fun r s' hq => ?_)
  obtain ⟨rfl, h2, h3, h4⟩ := hq
  exact ⟨.inl ⟨.bool true, .bool true, [], rfl, fun _ => rfl, .bool true, post_true l _, fun _ => ⟨List.Pairwise.nil, fun _ hm => (nomatch hm)⟩⟩, h2, h3, h4⟩

/-! ### rules over ANY heap (no ledger) from facts about the written part K: the library's own take a ledger (News) for what they write -/
section
variable {prog : Program} {w : World} {A : Around} {E : Value → Shared → Prop} {s : Shared} {K : Frag}

/-! the whole heap as the ledger: makes every rule that writes through a ledger a rule over any heap -/
end
end Att

namespace L2
open PySem PySem.Spec PyProof.Rows

theorem vals_ints : ∀ {vs : List Value} {ns : List Int}, IntsAre vs ns → Vals (ns.map V.int) vs
  | _, _, .nil => .nil
  | _, _, .cons n t h => .cons ⟨t, rfl⟩ (vals_ints h)

/-- nothing is tracked but the script, known to the object (or it is an object of the module) -/
def Only (H : Hp) : Prop := ∀ b, H b = none ∨ ∃ o xs, H b = some (.frz o (.lst xs))

/-- THE HEAD: the law's promise, at the heap behind the top. F, the promise of the law's def, may use that base is part of the heap (so K.In base, base.Ns mainGlobals mg stand in Mod) -/
theorem law_call {P : Program} {w : World} {K : PySem.W.Frag} {mg mb : Str → Option Value} {CX : CXT} {k : Nat} {fa a : Addr} {fd : FuncData} {x : Str} {sp : Sp} {s₁ : Shared} {vs : List Value} {ns : List Int}
    (KX : K.In s₁.heap) (hns : s₁.heap.Ns mainGlobals mg) (hb : s₁.heap.Ns builtinsNs mb) (hbb : ∀ x : Str, x ≠ "__name__" → mb x = bootBuiltins x) (hlim : s₁.heap.NoLimit) (hg : s₁.gens = #[])
    (ha : s₁.heap.get? a = some { cls := .type "list", data := .seq vs.toArray }) (hi : IntsAre vs ns) (hl : ns.length ≤ sizeLine) (hr : Room k callerA)
    (F : ∀ base : Heap, K.In base → base.Ns mainGlobals mg → FnOk P w K mg base CX k fa fd [x] sp) (hbind : ∀ (s : Shared) (u : Value), BindsTo s fd ⟨[u], []⟩ [(x, u)])
    (hsp : ∀ H : Hp, Only H → SqL K H a (ns.map V.int) → sp [.ref a] H (fun v _ => v = .bl true) fun _ _ _ => False)
    (hCX : ∀ H e s', CX [] H s₁ (fun _ _ _ => False) e s' → False) :
    codeAny (model P w) callerA (.call (.ref fa) ⟨[.ref a], []⟩) (fun r s' => r = .ok (.ret (.bool true)) ∧ OldK s₁.heap s'.heap ∧ s'.os = s₁.os ∧ AllBare s'.gens) s₁ := by
  have rv := vals_ints hi
  have lenV := hi.length
  -- from an abstract heap in which nothing but the script may be tracked
  have core : ∀ H : Hp, Only H → SqL K H a (ns.map V.int) → HOk P w H s₁.heap → (∀ b, H b ≠ none → b = a) → (H a ≠ none → K.lookup a = none) →
      codeAny (model P w) callerA (.call (.ref fa) ⟨[.ref a], []⟩) (fun r s' => r = .ok (.ret (.bool true)) ∧ OldK s₁.heap s'.heap ∧ s'.os = s₁.os ∧ AllBare s'.gens) s₁ := by
    intro H hO hS hok hA hK
    have base_of : ∀ {b : Addr} {o : Obj}, s₁.heap.get? b = some o → H b = none → (hidT s₁.heap H).get? b = some o := fun e n => hidT_get e n
    have noA : ∀ {b : Addr} {o : Obj} {es : Array DictEntry} {ep : Nat}, s₁.heap.get? b = some o → o.data = .dict es ep → H b = none := fun {b o es ep} e d => by
      cases q : H b with
      | none => rfl
      | some u =>
        have e' : b = a := hA b (by rw [q]; simp)
        subst e'
        rw [ha] at e; cases e
        have d' : Data.seq vs.toArray _ = Data.dict es ep := d
        cases d'
    have nsK : ∀ {b : Addr} {m : Str → Option Value}, s₁.heap.Ns b m → (hidT s₁.heap H).Ns b m := fun {b m} ⟨o, es, ep, e, d, r⟩ => ⟨o, es, ep, base_of e (noA e d), d, r⟩
    have hKb : K.In (hidT s₁.heap H) := fun b o e => base_of (KX b o e) (by
      cases q : H b with
      | none => rfl
      | some u =>
        have e' : b = a := hA b (by rw [q]; simp)
        subst e'
        rw [hK (by rw [q]; simp)] at e; cases e)
    have hM : Mod K mg (hidT s₁.heap H) := ⟨hKb, nsK hns, ⟨mb, nsK hb, hbb⟩, let ⟨mc, h1, h2⟩ := hlim; ⟨mc, nsK h1, h2⟩⟩
    have e0 : Env0 P w K mg (hidT s₁.heap H) callerA [] s₁ H := ⟨rfl, hM, fun b o e => of_hidT e, Nat.le_of_eq (hidT_size _ _), trivial, fun b hb => absurd (show b ∈ ([] : List Addr) from hb) (by simp), hok, .of_eq hg⟩
    refine codeAny_mono ((F _ hKb (nsK hns)).run callerA [] s₁ H ⟨[.ref a], []⟩ [.ref a] [.ref a] _ _ hr e0 (hbind s₁ (.ref a)) (.cons rfl .nil) (hsp H hO hS)) fun r s' h => ?_
    cases r with
    | error e => exact (hCX H e s' h).elim
    | ok fl =>
      cases fl with
      | next => exact False.elim h
      | brk => exact False.elim h
      | cont => exact False.elim h
      | ret u =>
        obtain ⟨v, H', os, bare, un, hok', r', q⟩ := h
        have q' : v = .bl true := q
        subst q'
        obtain rfl : u = Value.bool true := r'
        refine ⟨rfl, OldK.of_keep fun b o e => ?_, os, bare⟩
        cases q : H b with
        | none => exact un.keep b o e q (by intro z; exact absurd (show b ∈ ([] : List Addr) from z) (by simp)) (by simp)
        | some u =>
          rcases hO b with z | ⟨ob, xs, z⟩
          · rw [q] at z; cases z
          · have z2 := un.frzs b ob _ z
            obtain ⟨e1, _⟩ := hok b _ z
            obtain ⟨e2, _⟩ := hok' b _ z2
            rw [e] at e1; cases e1
            exact e2
  cases hk : K.lookup a with
  | some o =>
    -- the script is one of the module's own objects
    have e := KX a o hk
    rw [ha] at e
    cases e
    refine core (fun _ => none) (fun _ => .inl rfl) (.inr ⟨_, vs.toArray, _, hk, rfl, rfl, rfl, by rw [List.size_toArray, lenV]; exact hl, by simpa using rv⟩) (fun b u z => by have z' : (none : Option HO) = some u := z; cases z') (fun b z => absurd rfl z) fun z => absurd rfl z
  | none =>
    refine core (fun b => if b = a then some (.frz { cls := .type "list", data := .seq vs.toArray } (.lst (ns.map V.int))) else none) (fun b => ?_) (.inl (.inr ⟨{ cls := .type "list", data := .seq vs.toArray }, if_pos rfl⟩)) (fun b u z => ?_) (fun b z => ?_) fun _ => hk
    · by_cases hb : b = a
      · exact .inr ⟨_, _, if_pos hb⟩
      · exact .inl (if_neg hb)
    · by_cases hb : b = a
      · have z' := (if_pos hb).symm.trans z
        cases z'
        subst hb
        exact ⟨ha, by rw [List.length_map]; exact hl, vs, _, rv, ha⟩
      · have z' := (if_neg hb).symm.trans z
        cases z'
    · by_cases hb : b = a
      · exact hb
      · exact absurd (if_neg hb) z
end L2

namespace L2
open PySem PySem.Spec PyProof.Rows

/-- the goal that k_head leaves (case hc), from the law's promise. F gives the function object fd (K's own) once, then the promise over every base -/
theorem walk_of {l : PySem.W.OpenLaw} {n k : Nat} {q : Program} {loose : List Str} {XP : (Str → Option Value) → Heap → Prop} {YP : World → Heap → Prop} {d : DefRec} {K : Params → PySem.W.Frag} {CX : World → CXT} {sp : World → Sp} {x : Str}
    (hn : l.most = some n) (hn2 : n ≤ sizeLine) (hdf : d.params.defaults = []) (hr : Room k callerA)
    (hY : ∀ (w : World) (h : Heap), YP w h → (K w.params).In h)
    (F : ∀ (w : World) (mg : Str → Option Value) (fa : Addr) (h : Heap), (K w.params).In h → h.Ns mainGlobals mg → mg d.name = some (.ref fa) →
      ∃ fd : FuncData, (∀ (s : Shared) (u : Value), BindsTo s fd ⟨[u], []⟩ [(x, u)]) ∧
        ∀ base : Heap, (K w.params).In base → base.Ns mainGlobals mg → FnOk l.prog w (K w.params) mg base (CX w) k fa fd [x] (sp w))
    (hsp : ∀ (w : World) (H : Hp) (a : Addr) (ns : List Int), ns.length ≤ n → Only H → SqL (K w.params) H a (ns.map V.int) → sp w [.ref a] H (fun v _ => v = .bl true) fun _ _ _ => False)
    (hCX : ∀ (w : World) (H : Hp) (s : Shared) (e : Value) (s' : Shared), CX w [] H s (fun _ _ _ => False) e s' → False) :
    PySem.W.WalkO q loose XP YP l.row.toRowW d [] (fun f vs => PySem.call f vs) := by
  refine Att.attach_call hn hdf fun w s₀ s₁ mg mb fa o pm cd doc a vs ns G Y ho hd hcd hmg hobj hints hlen hg => ?_
  have KX := hY w _ Y
  obtain ⟨fd, hb, hF⟩ := F w mg fa _ KX G.T.g hmg
  exact law_call KX G.T.g G.T.b G.T.builtins G.T.nolimit hg hobj hints (Nat.le_trans hlen hn2) hr hF hb (fun H hO hS => hsp w H a ns hlen hO hS) fun H e s' => hCX w H s₁ e s'
end L2

/- THE LAST THEOREM (shape; LID, My.* are yours):
   My.Adr: a structure of the addresses that your layer names (classes, functions); My.Txt K t: a structure (Prop) of the equations over K;
   My.txt_mk : {K} {implicit addresses ..} (e1 : nsIn K mainGlobals "law" = some (some (.ref f))) (e2 : K.lookup f = some ⟨oc, od, .func (fnOf "law" "law" params body scope dV kV doc pm an cdv ct), sl⟩) (e3 : codeIn K cdv "law" = true) .. : ∃ t, My.Txt K t

set_option maxRecDepth 100000 in
set_option maxHeartbeats 0 in
theorem PySem.Challenge.cw_LID_holds : PySem.Challenge.rw_LID.Holds := by
  w_on; o_law; k_head; (case hw => w_witness2)
  k_fill
  refine L2.walk_of (l := PySem.Challenge.rw_LID) (n := 63) (k := 40) (x := "script") (CX := fun w => ..) (sp := fun _ => My.sp_law) rfl (by decide) rfl ⟨rfl, by decide, by decide⟩ (fun w h Y => PySem.W.kIn_of Y) ?F ?S ?C
  case F =>
    intro w mg fa h KX G hmg
    have T : ∃ t, My.Txt (L2.KOf KX) t := by
      dsimp only [L2.KOf]                          -- K must stand as «<heap const> w.params» for k_is
      refine' My.txt_mk ?e1 ?e2 ?e3 ..
      (case e1 => PySem.W.k_is)                    -- in the order: a name -> its address -> its object -> its parts
      (case e2 => PySem.W.k_is)
      ..
    obtain ⟨t, T⟩ := T
    have e0 := hmg.symm.trans (PySem.W.mg_of KX G T.law)
    cases e0                                       -- fa is the law's own address
    exact ⟨_, fun s u => .of_eq rfl, fun base kb nb => My.law_fn T kb nb⟩     -- if «.of_eq rfl» comes too early: refine' ⟨_, ?b, fun base kb nb => My.law_fn T kb nb⟩; exact fun s u => .of_eq rfl
  case S => exact fun w H a ns hl hO hS => ..
  case C => exact ..
(the tactic k_is has no namespace: write k_is) -/

/-! SHORT WORDS over the layer: a def of the text, its body, what a loop and a test want. -/
namespace L2
open PySem PySem.Spec PyProof.Rows

/-! ### the text by places -/
def defArgs (s : Stmt) : Arguments := match s with
  | .FunctionDef _ a _ _ _ _ _ _ _ _ => a
  | _ => { posonlyargs := [], args := [], vararg := none, kwonlyargs := [], kw_defaults := [], kwarg := none, defaults := [] }
def defBody (s : Stmt) : List Stmt := match s with
  | .FunctionDef _ _ b _ _ _ _ _ _ _ => b
  | _ => []
def defScope (s : Stmt) : Scope := match s with
  | .FunctionDef _ _ _ _ _ _ sc _ _ _ => sc
  | _ => { kind := .function, names := [], isGenerator := false, isCoroutine := false }

/-! ### no exception leaves a def -/
abbrev E0 : XK := fun _ _ _ => False
/-! ### a def (or method) of the text as it stands behind the top -/
structure Fun (K : PySem.W.Frag) (x qual : Str) (st : Stmt) (f : Addr) (fd : FuncData) : Prop where
  ex : ∃ (oc : Value) (od : Option Addr) (kV doc pm : Value) (an : Option Addr) (cdv ct : Value) (osl : Array (Option Value)),
    fd = PySem.W.fnOf x qual (defArgs st) (defBody st) (defScope st) .none kV doc pm an cdv ct ∧ K.lookup f = some ⟨oc, od, .func fd, osl⟩ ∧ PySem.W.codeIn K cdv qual = true
  kp : PySem.W.keepIn K (.ref f) = true
section
variable {P : Program} {w : World} {K : PySem.W.Frag} {mg : Str → Option Value} {base : Heap}
/-- how its arguments bind (no defaults): h is «fun _ _ _ _ _ _ us hl => match us, hl with | [_, _], _ => rfl», one _ a parameter -/
theorem Fun.binds {x qual : Str} {st : Stmt} {f : Addr} {fd : FuncData} {ps : List Str} (F : Fun K x qual st f fd)
    (h : ∀ (kV doc pm : Value) (an : Option Addr) (cdv ct : Value) (us : List Value), us.length = ps.length → bindArgs (PySem.W.fnOf x qual (defArgs st) (defBody st) (defScope st) .none kV doc pm an cdv ct) ⟨us, []⟩ = pure (ps.zip us)) : Binds K fd ps [] := by
  obtain ⟨oc, od, kV, doc, pm, an, cdv, ct, osl, rfl, lk, hcd⟩ := F.ex
  exact .all (h kV doc pm an cdv ct)
theorem fun_mk {x qual : Str} {st : Stmt} {f : Addr} {oc : Value} {od an : Option Addr} {osl : Array (Option Value)} {kV doc pm cdv ct : Value} (l : K.lookup f = some ⟨oc, od, .func (PySem.W.fnOf x qual (defArgs st) (defBody st) (defScope st) .none kV doc pm an cdv ct), osl⟩)
    (c : PySem.W.codeIn K cdv qual = true) (k : PySem.W.keepIn K (.ref f) = true) : Fun K x qual st f (PySem.W.fnOf x qual (defArgs st) (defBody st) (defScope st) .none kV doc pm an cdv ct) := ⟨⟨oc, od, kV, doc, pm, an, cdv, ct, osl, rfl, l, c⟩, k⟩
end
theorem hu_of {A : Around} {k : Nat} (hr : Room k A) : A.units + 1 < cLine := Nat.lt_of_le_of_lt (Nat.add_le_add_left (by decide : 1 ≤ 64) _) hr.units
/-! ### expressions in short: the name that stands in the i-th slot -/
section
variable {X : Cx}
theorem pv (i : Nat) {x : Str} {pos : Pos} (hN : X.N[i]? = some x := by rfl) (hv : Vis X.env.scope x := by first | exact Or.inl rfl | exact Or.inr (Or.inl rfl) | exact Or.inr (Or.inr rfl)) (hd : (x == ("__debug__" : Str)) = false := by decide)
    (hcd : (x == ("__classdict__" : Str)) = false := by decide) : PE X (.Name x pos) (tVar i) := pe_var hN hv hd hcd
end

/-! ### tests -/
theorem iteF {A B : Prop} (h : B) : if false = true then A else B := by
  rw [if_neg Bool.false_ne_true]
  exact h
theorem iteT {A B : Prop} (h : A) : if true = true then A else B := by
  rw [if_pos rfl]
  exact h
theorem ite2 {c A B : Prop} [Decidable c] (h1 : c → A) (h2 : ¬ c → B) : if c then A else B := by
  by_cases h : c
  · rw [if_pos h]
    exact h1 h
  · rw [if_neg h]
    exact h2 h
/-! ### heaps -/
/-- all that was tracked is as it was -/
def Same (H H' : Hp) : Prop := ∀ b o, H b = some o → H' b = some o
theorem Same.refl (H : Hp) : Same H H := fun _ _ h => h
theorem Same.trans {H H1 H2 : Hp} (a : Same H H1) (b : Same H1 H2) : Same H H2 := fun c o h => b c o (a c o h)
theorem Same.free {H H' : Hp} (e : Same H H') {l : Addr} (h : H' l = Option.none) : H l = Option.none := by
  cases q : H l with
  | none => rfl
  | some o =>
    rw [e l o q] at h
    cases h
theorem Same.seq {K : PySem.W.Frag} {H H' : Hp} {a : Addr} {xs : List V} (e : Same H H') (h : SqL K H a xs) : SqL K H' a xs := by
  rcases h with (h | ⟨o, h⟩) | h
  · exact .inl (.inl (e _ _ h))
  · exact .inl (.inr ⟨o, e _ _ h⟩)
  · exact .inr h

end L2
set_option Elab.async false
set_option linter.all false
set_option maxRecDepth 100000
/-! Plain data over the hand layer: what a value stands for (a tree of ints, texts, None, bools, lists, tuples), == of such, isinstance of such. -/
namespace L2
open PySem PySem.Spec PyProof.Rows

mutual
/-- the value v stands for the data d -/
inductive Rep (H : Hp) : V → PyData → Prop
  | non : Rep H .non .none
  | bl (b : Bool) : Rep H (.bl b) (.bool b)
  | int (i : Int) : Rep H (.int i) (.int i)
  | str (x : Str) : Rep H (.str x) (.str x)
  | lst {a : Addr} {vs : List V} {ds : List PyData} : H a = some (.lst vs) → Reps H vs ds → Rep H (.ref a) (.list ds)
  | tup {a : Addr} {vs : List V} {ds : List PyData} : H a = some (.tup vs) → Reps H vs ds → Rep H (.ref a) (.tuple ds)
inductive Reps (H : Hp) : List V → List PyData → Prop
  | nil : Reps H [] []
  | cons {v : V} {vs : List V} {d : PyData} {ds : List PyData} : Rep H v d → Reps H vs ds → Reps H (v :: vs) (d :: ds)
end

mutual
theorem Rep.mono {H H' : Hp} (e : Same H H') : ∀ {v : V} {d : PyData}, Rep H v d → Rep H' v d
  | _, _, .non => .non
  | _, _, .bl b => .bl b
  | _, _, .int i => .int i
  | _, _, .str x => .str x
  | _, _, .lst h r => .lst (e _ _ h) (Reps.mono e r)
  | _, _, .tup h r => .tup (e _ _ h) (Reps.mono e r)
theorem Reps.mono {H H' : Hp} (e : Same H H') : ∀ {vs : List V} {ds : List PyData}, Reps H vs ds → Reps H' vs ds
  | _, _, .nil => .nil
  | _, _, .cons r rs => .cons (Rep.mono e r) (Reps.mono e rs)
end

/-- no list within -/
def immut : PyData → Bool
  | .none => true
  | .bool _ => true
  | .int _ => true
  | .str _ => true
  | .list _ => false
  | .tuple ds => all ds
  | .dict _ => false
where all : List PyData → Bool
  | [] => true
  | d :: ds => immut d && all ds

/-- the tuples stand -/
def TSame (H H' : Hp) : Prop := ∀ b xs, H b = some (.tup xs) → H' b = some (.tup xs)
theorem Same.ts {H H' : Hp} (e : Same H H') : TSame H H' := fun b xs h => e b _ h
theorem TSame.trans {H H1 H2 : Hp} (a : TSame H H1) (b : TSame H1 H2) : TSame H H2 := fun c xs h => b c xs (a c xs h)
theorem TSame.new {H : Hp} {p : Addr} (h : H p = none) (o : HO) : TSame H (upd H p o) := fun b xs q => by rw [upd_ne (ne_of_none q h)]; exact q
theorem TSame.lst {H : Hp} {p : Addr} {xs : List V} (h : H p = some (.lst xs)) (o : HO) : TSame H (upd H p o) := fun b ys q => by rw [upd_ne (ne_of q h (by intro z; cases z))]; exact q
theorem same_new {H : Hp} {p : Addr} (h : H p = none) (o : HO) : Same H (upd H p o) := fun b u q => by rw [upd_ne (ne_of_none q h)]; exact q
/-- what is new may be written -/
theorem Same.write {H H' : Hp} (e : Same H H') {p : Addr} (h : H p = none) (o : HO) : Same H (upd H' p o) := fun b u q => by rw [upd_ne (ne_of_none q h)]; exact e b u q

mutual
theorem Rep.tmono {H H' : Hp} (e : TSame H H') : ∀ {v : V} {d : PyData}, immut d = true → Rep H v d → Rep H' v d
  | _, _, _, .non => .non
  | _, _, _, .bl b => .bl b
  | _, _, _, .int i => .int i
  | _, _, _, .str x => .str x
  | _, _, h, .lst _ _ => by simp [immut] at h
  | _, _, h, .tup q r => .tup (e _ _ q) (Reps.tmono e (by simpa [immut] using h) r)
theorem Reps.tmono {H H' : Hp} (e : TSame H H') : ∀ {vs : List V} {ds : List PyData}, immut.all ds = true → Reps H vs ds → Reps H' vs ds
  | _, _, _, .nil => .nil
  | _, d :: ds, h, .cons r rs => by
    have h' : immut d = true ∧ immut.all ds = true := by simpa [immut.all] using h
    exact .cons (Rep.tmono e h'.1 r) (Reps.tmono e h'.2 rs)
end

section
variable {H : Hp}
theorem Rep.int_inv {v : V} {i : Int} (r : Rep H v (.int i)) : v = .int i := by cases r; rfl
theorem Rep.tup_inv {v : V} {ds : List PyData} (r : Rep H v (.tuple ds)) : ∃ a vs, v = .ref a ∧ H a = some (.tup vs) ∧ Reps H vs ds := by
  cases r with | tup h q => exact ⟨_, _, rfl, h, q⟩
theorem Reps.length : ∀ {vs : List V} {ds : List PyData}, Reps H vs ds → vs.length = ds.length
  | _, _, .nil => rfl
  | _, _, .cons _ r => congrArg (· + 1) (Reps.length r)
theorem Reps.get : ∀ {vs : List V} {ds : List PyData} {i : Nat} {d : PyData}, Reps H vs ds → ds[i]? = some d → ∃ v, vs[i]? = some v ∧ Rep H v d
  | _, _, _, _, .nil, e => by simp at e
  | _, _, 0, _, .cons r _, e => by
    have e' := Option.some.inj (show some _ = some _ from e)
    subst e'
    exact ⟨_, rfl, r⟩
  | _, _, i + 1, d, .cons _ t, e => by
    obtain ⟨v, h1, h2⟩ := Reps.get (i := i) (d := d) t (by simpa using e)
    exact ⟨v, by simpa using h1, h2⟩
theorem Reps.get' : ∀ {vs : List V} {ds : List PyData} {i : Nat} {v : V}, Reps H vs ds → vs[i]? = some v → ∃ d, ds[i]? = some d ∧ Rep H v d
  | _, _, _, _, .nil, e => by simp at e
  | _, _, 0, _, .cons r _, e => by
    have e' := Option.some.inj (show some _ = some _ from e)
    subst e'
    exact ⟨_, rfl, r⟩
  | _, _, i + 1, v, .cons _ t, e => by
    obtain ⟨d, h1, h2⟩ := Reps.get' (i := i) (v := v) t (by simpa using e)
    exact ⟨d, by simpa using h1, h2⟩
theorem Reps.append : ∀ {vs us : List V} {ds es : List PyData}, Reps H vs ds → Reps H us es → Reps H (vs ++ us) (ds ++ es)
  | _, _, _, _, .nil, q => q
  | _, _, _, _, .cons r rs, q => .cons r (Reps.append rs q)
theorem Reps.one {v : V} {d : PyData} (r : Rep H v d) : Reps H [v] [d] := .cons r .nil
theorem Reps.ints : ∀ {ns : List Int}, Reps H (ns.map V.int) (ns.map PyData.int)
  | [] => .nil
  | n :: r => .cons (.int n) (Reps.ints (ns := r))
theorem Reps.ints_inv : ∀ {vs : List V} {ns : List Int}, Reps H vs (ns.map PyData.int) → vs = ns.map V.int
  | _, [], r => by cases r; rfl
  | _, n :: ns, r => by
    cases r with
    | cons q t => rw [Rep.int_inv q, Reps.ints_inv (ns := ns) t]; rfl
end

mutual
theorem Rep.reads {P : Program} {w : World} {H : Hp} {h : Heap} (ok : HOk P w H h) : ∀ {v : V} {d : PyData} {u : Value}, Rep H v d → RelV v u → ∃ as, Reads h u d as
  | _, _, _, .non, q => by cases (show _ = Value.none from q); exact ⟨_, .none⟩
  | _, _, _, .bl b, q => by cases (show _ = Value.bool b from q); exact ⟨_, .bool b⟩
  | _, _, _, .int i, q => by obtain ⟨t, e⟩ := q; cases e; exact ⟨_, .int i t⟩
  | _, _, _, .str x, q => by obtain ⟨t, e⟩ := q; cases e; exact ⟨_, .str x t⟩
  | _, _, _, .lst (a := a) (vs := vs) e r, q => by
    cases (show _ = Value.ref a from q)
    obtain ⟨_, its, n, rv, ho⟩ := (show ObjOk P w H h a (.lst vs) from ok a _ e)
    obtain ⟨as, z⟩ := Reps.reads ok r rv
    exact ⟨_, .list ho rfl rfl (by simpa using z)⟩
  | _, _, _, .tup (a := a) (vs := vs) e r, q => by
    cases (show _ = Value.ref a from q)
    obtain ⟨_, its, rv, o, ho, hc, _, n, hd⟩ := (show ObjOk P w H h a (.tup vs) from ok a _ e)
    obtain ⟨as, z⟩ := Reps.reads ok r rv
    exact ⟨_, .tuple ho hc hd (by simpa using z)⟩
theorem Reps.reads {P : Program} {w : World} {H : Hp} {h : Heap} (ok : HOk P w H h) : ∀ {vs : List V} {ds : List PyData} {us : List Value}, Reps H vs ds → Vals vs us → ∃ as, ReadsAll h us ds as
  | _, _, _, .nil, q => by cases q; exact ⟨_, .nil⟩
  | _, _, _, .cons r rs, q => by
    cases q with
    | cons q qs =>
      obtain ⟨as, z⟩ := Rep.reads ok r q
      obtain ⟨bs, zs⟩ := Reps.reads ok rs qs
      exact ⟨_, .cons z zs⟩
end

/-! ### == and != of data -/
def rNeD : R2 := fun x y H Q => ∃ d e, Rep H x d ∧ Rep H y e ∧ SeqAt.shaped d = true ∧ SeqAt.shaped e = true ∧ Q (.bl (!PyData.eqv d e)) H
section
variable {X : Cx}
theorem op_neD (hu : X.A.units + 64 < cLine) : OpR X (compareOp .NotEq) rNeD := by
  intro pins s σ H x y v u Q I rx ry h
  obtain ⟨d, e, hd, he, sd, se, q⟩ := h
  obtain ⟨as, za⟩ := hd.reads I.hok rx
  obtain ⟨bs, zb⟩ := he.reads I.hok ry
  exact ne_dataH za zb sd se hu ⟨.bl (!PyData.eqv d e), H, I, rfl, q⟩

/-! ### isinstance(x, a built-in type) -/
/-- the type's name of a data -/
def tyD : PyData → String
  | .none => "NoneType"
  | .bool _ => "bool"
  | .int _ => "int"
  | .str _ => "str"
  | .list _ => "list"
  | .tuple _ => "tuple"
  | .dict _ => "dict"
theorem Rep.ty {K : PySem.W.Frag} {H : Hp} {v : V} {d : PyData} (r : Rep H v d) : TyOf K H v (.type (tyD d)) := by
  cases r with
  | non => exact .non
  | bl b => exact .bl b
  | int i => exact .int i
  | str x => exact .str x
  | lst h _ => exact .lst h
  | tup h _ => exact .tup h
/-- is a data of that type (for int: bools are) -/
def isIntD : PyData → Bool
  | .int _ => true
  | .bool _ => true
  | _ => false
def isBoolD : PyData → Bool
  | .bool _ => true
  | _ => false
def isTupD : PyData → Bool
  | .tuple _ => true
  | _ => false
theorem kit_int (K : PySem.W.Frag) (d : PyData) (hd : ∀ kvs, d ≠ .dict kvs) : PySem.W.kitOne K (.type (tyD d)) (.type "int") = some (isIntD d) := by
  cases d <;> first | exact absurd rfl (hd _) | (with_unfolding_all rfl)
theorem kit_bool (K : PySem.W.Frag) (d : PyData) (hd : ∀ kvs, d ≠ .dict kvs) : PySem.W.kitOne K (.type (tyD d)) (.type "bool") = some (isBoolD d) := by
  cases d <;> first | exact absurd rfl (hd _) | (with_unfolding_all rfl)
theorem kit_tuple (K : PySem.W.Frag) (d : PyData) (hd : ∀ kvs, d ≠ .dict kvs) : PySem.W.kitOne K (.type (tyD d)) (.type "tuple") = some (isTupD d) := by
  cases d <;> first | exact absurd rfl (hd _) | (with_unfolding_all rfl)
theorem Rep.nodict {H : Hp} {v : V} {d : PyData} (r : Rep H v d) : ∀ kvs, d ≠ .dict kvs := fun kvs z => by subst z; cases r
def rIsi (c : String) (f : PyData → Bool) : List V → Hp → VK → Prop := fun xs H Q => ∃ x d, xs = [x, .ty c] ∧ Rep H x d ∧ Q (.bl (f d)) H
theorem call_isi {c : String} {f : PyData → Bool} (kit : ∀ (K : PySem.W.Frag) (d : PyData), (∀ kvs, d ≠ .dict kvs) → PySem.W.kitOne K (.type (tyD d)) (.type c) = some (f d)) : CallR X (.builtin "isinstance") (rIsi c f) := by
  intro pins s σ H xs us Q I rs h
  obtain ⟨x, d, e, hd, q⟩ := h
  subst e
  obtain ⟨u, w', rfl, ru, rw'⟩ := Vals.two rs
  cases (show w' = Value.type c from rw')
  exact isinst_ok I ru hd.ty (kit X.K d hd.nodict) fun tk => ⟨.bl (f d), H, I.tok tk, rfl, q⟩
end
end L2
set_option Elab.async false
set_option linter.all false
set_option maxRecDepth 100000
/-! A list comprehension with one `for` and at most one `if`, over the hand layer. -/
namespace L2
open PySem PySem.Spec PyProof.Rows

/-! ### the tests of a clause -/
def PF (X : Cx) (ifs : List Expr) (t : TT) : Prop :=
  ∀ (pins : List (Addr × Obj)) (s : Shared) (σ : St) (H : Hp) (Q : Bool → Hp → Prop), Inv X pins σ H s → t σ H Q →
    wpAny (model X.prog X.w) X.A (forIn ifs true fun c r => if r = true then do let ok ← isTrue c X.env (eval c X.env); pure (ForInStep.yield ok) else pure (ForInStep.yield r)) (TP X pins σ Q) X.xe s
theorem pf_nil {X : Cx} : PF X [] (fun _ H Q => Q true H) := fun pins s σ H Q I h => wpAny_tests_nil ⟨H, I, h⟩
theorem pf_one {X : Cx} {c : Expr} {t : TT} (hc : PT X c t) : PF X [c] t := fun pins s σ H Q I h => wpAny_tests_one (hc pins s σ H Q I h)

/-! ### the loop of a comprehension, any target -/
section
variable {prog : Program} {w : World} {A : Around} {R : Result → Shared → Prop} {s : Shared}
theorem compLoop_any {elt target iter : Expr} {ifs : List Expr} {scope : Scope} {pos : Pos} {it acc : Value} {env : Env} (I : Nat → Shared → Prop)
    (turn : ∀ n s, I n s → wpAny (model prog w) A (pyNext it) (fun r s₁ => match r with
      | none => R (.ok .next) s₁
      | some v => wpAny (model prog w) A (letOwnedTupleGo target it v) (fun _ s₀ => wpAny (model prog w) A (assign target env v) (fun _ s₂ =>
          wpAny (model prog w) A (forIn ifs true fun c r => if r = true then do let ok ← isTrue c env (eval c env); pure (ForInStep.yield ok) else pure (ForInStep.yield r)) (fun ok s₃ =>
            if ok = true then wpAny (model prog w) A (eval elt env) (fun x s₄ =>
              wpAny (model prog w) A (call (.builtin "list.append") [acc, x]) (fun _ s₅ => ∃ m, m < n ∧ I m s₅) (fun _ _ => False) s₄) (fun _ _ => False) s₃
            else ∃ m, m < n ∧ I m s₃) (fun _ _ => False) s₂) (fun _ _ => False) s₀) (fun _ _ => False) s₁) (fun _ _ => False) s)
    (n : Nat) (h : I n s) :
    codeAny (model prog w) A (.compLoop (.ListComp elt [⟨target, iter, ifs, 0⟩] scope pos) 0 it acc env) R s := by
  refine codeAny_loop rfl I (fun n s hI => ?_) n h
  show wpAny _ A ((compTurn (.ListComp elt [⟨target, iter, ifs, 0⟩] scope pos) 0 it acc env).onRaise (fun x => do noteFrame x env; theTreesLotGoes x)) _ _ s
  refine wpAny_noted ?_
  rw [compTurn_list]
  refine wpAny_bind (wpAny_standAt (wpAny_bind (wpAny_mono (turn n s hI) (fun r s₁ h₁ => ?_) fun _ _ f => f.elim)))
  cases r with
  | none => exact wpAny_pure h₁
  | some v =>
    refine wpAny_bind (wpAny_mono h₁ (fun _ s₀ h₀ => ?_) fun _ _ f => f.elim)
    refine wpAny_bind (wpAny_mono h₀ (fun _ s₂ h₂ => wpAny_bind (wpAny_mono h₂ (fun ok s₃ h₃ => ?_) fun _ _ f => f.elim)) fun _ _ f => f.elim)
    cases ok with
    | false => exact wpAny_pure ⟨rfl, h₃⟩
    | true =>
      exact wpAny_bind (wpAny_bind (wpAny_mono h₃ (fun x s₄ h₄ => wpAny_bind (wpAny_mono h₄ (fun _ s₅ h₅ => wpAny_pure (wpAny_pure ⟨rfl, h₅⟩)) fun _ _ f => f.elim)) fun _ _ f => f.elim))
end

/-! ### the block's context -/
/-- the closure of a block: its free names with the cells of the frame around it -/
def closOf (scope : Scope) (env : Env) : List (Str × Addr) :=
  ((scope.names.filter fun x => x.2 == .free).reverse).map fun x => (x.1, (env.cells.lookup x.1).getD 0)

/-- the context of a comprehension's block: entered at s₂, H₂, its frame at C, its iterator's records fp -/
def blk (X : Cx) (scope : Scope) (NB : List Str) (C : Addr) (s₂ : Shared) (H₂ : Hp) (fp : List Addr) : Cx where
  prog := X.prog
  w := X.w
  K := X.K
  mg := X.mg
  base := X.base
  A := X.A
  N := NB
  s₀ := s₂
  H₀ := H₂
  env := compEnvC scope (closOf scope X.env) C X.env
  outer := X.stack
  stack := X.stack
  ex := fp
  fn := fun _ => false
  calm := X.calm
  pn := []
  xe := fun _ _ => False

/-- the block's slots at its entry: some j: the outer slot j (a free name), none: its own -/
def tau (js : List (Option Nat)) (σ : St) : St := js.map fun o => match o with
  | some j => (match σ[j]? with | some v => v | none => none)
  | none => none

/-- what is asked of the names: NB the block's own names and its free ones, js where the free ones stand outside -/
structure BlkOk (X : Cx) (scope : Scope) (NB : List Str) (js : List (Option Nat)) : Prop where
  kind : scope.kind = .function
  nd : NB.Nodup
  len : js.length = NB.length
  nocell : ∀ y ∈ scope.names, y.2 ≠ .cell
  locs : ∀ y ∈ scope.names, y.2 = .local → scope.names.lookup y.1 = some .local
  clos : closureFor scope X.env = pure (closOf scope X.env)
  there : ∀ y ∈ scope.names, y.2 = .free → ∃ c, X.env.cells.lookup y.1 = some c
  outer : ∀ (i j : Nat), js[i]? = some (some j) → ∃ x, NB[i]? = some x ∧ X.N[j]? = some x ∧ (x, NameKind.free) ∈ scope.names ∧ Vis X.env.scope x ∧ X.env.scope.names.lookup x ≠ some .local
  inner : ∀ (i : Nat) (x : Str), NB[i]? = some x → (x, NameKind.free) ∈ scope.names → Vis (relabel scope X.env) x → (relabel scope X.env).names.lookup x ≠ some .local

/-- the same by looks at the text -/
def outerOk (X : Cx) (scope : Scope) (NB : List Str) (js : List (Option Nat)) : Bool := (js.zip NB).all fun p => match p.1 with
  | none => true
  | some j => X.N[j]? == some p.2 && scope.names.any (fun y => y.1 == p.2 && y.2 == .free) && (X.env.scope.names.lookup p.2 == some .cell || X.env.scope.names.lookup p.2 == some .free)
def innerOk (X : Cx) (scope : Scope) (NB : List Str) : Bool := NB.all fun x => !(scope.names.any fun y => y.1 == x && y.2 == .free) || ((relabel scope X.env).names.lookup x != some .local)
theorem any_free {l : List (Str × NameKind)} {x : Str} : (l.any fun y => y.1 == x && y.2 == NameKind.free) = true ↔ (x, NameKind.free) ∈ l := by
  rw [List.any_eq_true]
  constructor
  · rintro ⟨⟨n, k⟩, hy, e⟩
    simp only [Bool.and_eq_true, beq_iff_eq] at e
    obtain ⟨rfl, rfl⟩ := e
    exact hy
  · intro h
    exact ⟨_, h, by simp⟩
theorem blkOk_of {X : Cx} {scope : Scope} {NB : List Str} {js : List (Option Nat)} (kind : scope.kind = .function) (nd : NB.Nodup) (len : js.length = NB.length) (nocell : ∀ y ∈ scope.names, y.2 ≠ .cell) (locs : ∀ y ∈ scope.names, y.2 = .local → scope.names.lookup y.1 = some .local)
    (clos : closureFor scope X.env = pure (closOf scope X.env)) (there : (scope.names.all fun y => y.2 != .free || (X.env.cells.lookup y.1).isSome) = true) (outer : outerOk X scope NB js = true) (inner : innerOk X scope NB = true) : BlkOk X scope NB js := by
  refine ⟨kind, nd, len, nocell, locs, clos, fun y hy hf => ?_, fun i j e => ?_, fun i x e hm _ => ?_⟩
  · have := List.all_eq_true.mp there y hy
    rw [hf] at this
    exact Option.isSome_iff_exists.mp (by simpa using this)
  · have hi : i < js.length := (List.getElem?_eq_some_iff.mp e).1
    have hx : NB[i]? = some (NB[i]'(by omega)) := List.getElem?_eq_getElem (by omega)
    have hz : (js.zip NB)[i]? = some (some j, NB[i]'(by omega)) := by rw [List.getElem?_zip_eq_some]; exact ⟨e, hx⟩
    have := List.all_eq_true.mp outer _ (List.mem_of_getElem? hz)
    dsimp only at this
    simp only [Bool.and_eq_true, Bool.or_eq_true, beq_iff_eq] at this
    obtain ⟨⟨h1, h2⟩, h3⟩ := this
    refine ⟨_, hx, h1, any_free.mp h2, ?_, ?_⟩
    · rcases h3 with h3 | h3
      · exact .inr (.inl h3)
      · exact .inr (.inr h3)
    · rcases h3 with h3 | h3 <;> rw [h3] <;> decide
  · have := List.all_eq_true.mp inner x (List.mem_of_getElem? e)
    rw [any_free.mpr hm] at this
    simpa using this

theorem mem_closOf {scope : Scope} {env : Env} {x : Str} {c : Addr} (ht : ∀ y ∈ scope.names, y.2 = .free → ∃ c, env.cells.lookup y.1 = some c) (h : (closOf scope env).lookup x = some c) : env.cells.lookup x = some c ∧ (x, NameKind.free) ∈ scope.names := by
  have m := PySem.mem_of_lookup h
  unfold closOf at m
  obtain ⟨y, hy, e⟩ := List.mem_map.mp m
  have hy' := List.mem_filter.mp (List.mem_reverse.mp hy)
  obtain ⟨n, k⟩ := y
  have hk : k = .free := by simpa using hy'.2
  subst hk
  obtain ⟨c', ec⟩ := ht _ hy'.1 rfl
  have e1 : n = x := congrArg Prod.fst e
  have e2 : (env.cells.lookup n).getD 0 = c := congrArg Prod.snd e
  subst e1
  have ec' : env.cells.lookup n = some c' := ec
  rw [ec'] at e2
  have e3 : c' = c := e2
  subst e3
  exact ⟨ec', hy'.1⟩
theorem lookup_of_mem {β : Type} {x : Str} : ∀ {l : List (Str × β)} {b : β}, (x, b) ∈ l → ∃ c, l.lookup x = some c
  | (n, b') :: r, b, h => by
    rw [List.lookup_cons]
    cases e : x == n with
    | true => exact ⟨b', rfl⟩
    | false =>
      rcases List.mem_cons.mp h with q | q
      · have : x = n := congrArg Prod.fst q
        subst this
        simp at e
      · exact lookup_of_mem q
theorem closOf_has {scope : Scope} {env : Env} {x : Str} (h : (x, NameKind.free) ∈ scope.names) : ∃ c, (closOf scope env).lookup x = some c := by
  refine lookup_of_mem (b := (env.cells.lookup x).getD 0) ?_
  unfold closOf
  exact List.mem_map.mpr ⟨(x, NameKind.free), List.mem_reverse.mpr (List.mem_filter.mpr ⟨h, by simp⟩), rfl⟩
theorem relabel_free {scope : Scope} {env : Env} {x : Str} (hc : ∀ y ∈ scope.names, y.2 ≠ .cell) (h : (relabel scope env).names.lookup x = some .cell ∨ (relabel scope env).names.lookup x = some .free) : (x, NameKind.free) ∈ scope.names := by
  have key : ∀ k, (relabel scope env).names.lookup x = some k → k = .cell ∨ k = .free → (x, NameKind.free) ∈ scope.names := by
    intro k e hk
    have m := PySem.mem_of_lookup e
    unfold relabel at m
    obtain ⟨⟨n, k'⟩, hy, q⟩ := List.mem_map.mp m
    dsimp only at q
    split at q
    · rename_i hcond
      have e1 : n = x := congrArg Prod.fst q
      subst e1
      simp only [Bool.and_eq_true, beq_iff_eq] at hcond
      rw [hcond.1.1] at hy
      exact hy
    · have e1 : n = x := congrArg Prod.fst q
      have e2 : k' = k := congrArg Prod.snd q
      subst e1 e2
      rcases hk with hk | hk
      · subst hk
        exact absurd rfl (hc _ hy)
      · subst hk
        exact hy
  rcases h with h | h
  · exact key _ h (.inl rfl)
  · exact key _ h (.inr rfl)

/-- the world but one object -/
theorem Un.but {fs ex : List Addr} {H H' : Hp} {h h1 h2 : Heap} {C : Addr} (u : Un fs ex H H' h h1) (hC : h.objs.size ≤ C) (sb : Heap.SameBut C h1 h2) : Un fs ex H H' h h2 := by
  have ne : ∀ b o, h.get? b = some o → b ≠ C := fun b o e => Nat.ne_of_lt (Nat.lt_of_lt_of_le (Heap.lt_size e) hC)
  refine ⟨fun b o e n hb hx => (sb.2 b (ne b o e)).trans (u.keep b o e n hb hx), fun b o e n hb hx => ?_, u.free, fun b o e hx => ?_, u.tups, u.frzs, u.tbls⟩
  · obtain ⟨sl, q⟩ := u.slot b o e n hb hx
    exact ⟨sl, (sb.2 b (ne b o e)).trans q⟩
  · obtain ⟨o', q⟩ := u.there b o e hx
    exact ⟨o', (sb.2 b (ne b o e)).trans q⟩
theorem HOk.but {P : Program} {w : World} {H : Hp} {h1 h2 : Heap} {C : Addr} (ok : HOk P w H h1) (hC : H C = none) (sb : Heap.SameBut C h1 h2) : HOk P w H h2 := fun b ob e => by
  refine (ok b ob e).stay (fun c w' hc q => (sb.2 c ?_).trans q) (fun _ q => q) fun _ _ q => q
  rintro rfl
  rcases hc with rfl | hc
  · rw [hC] at e; cases e
  · rw [hC] at hc; cases hc

section
variable {X : Cx} {pins : List (Addr × Obj)} {σ : St} {H : Hp} {s : Shared}
theorem blk_ok {scope : Scope} {NB : List Str} {js : List (Option Nat)} {C : Addr} {fp : List Addr} (B : BlkOk X scope NB js) (I : Inv X pins σ H s) (hf : ∀ b ∈ fp, FpOk X pins H b) (hlt : ∀ b ∈ fp, b ≠ C) (hC : s.heap.objs.size ≤ C) :
    (blk X scope NB C s H fp).Ok := by
  refine ⟨I.mod, B.kind, I.ok.glob, I.ok.blt, hC, fun x y c hx hy => ?_, fun x hx => ?_, fun x c h _ => (nomatch h), I.ok.hd, I.ok.frames, .inl rfl, fun b hb => ⟨hlt b hb, fun x c hx => ?_⟩, I.bs, Nat.le_trans I.ok.bsz I.sz, fun b o e hb => ?_, fun b hb hb2 => ?_, I.stack, I.stkFree⟩
  · exact I.ok.inj x y c (mem_closOf B.there hx).1 (mem_closOf B.there hy).1
  · exact closOf_has (relabel_free B.nocell hx)
  · exact (hf b hb).2.2.2.2.1 x c (mem_closOf B.there hx).1
  · rcases (hf b hb).2.2.2.1 with z | z
    · exact I.ok.noex b o e z
    · exact absurd (Nat.lt_of_lt_of_le (Heap.lt_size e) (Nat.le_trans I.ok.bsz z)) (Nat.lt_irrefl _)
  · rcases List.mem_cons.mp (I.stkSub b hb2) with z | z
    · exact (hf b hb).2.1 z
    · exact (hf b hb).2.2.1 z

theorem tau_get {js : List (Option Nat)} {σ : St} {i : Nat} {v : V} (h : (tau js σ)[i]? = some (some v)) : ∃ j, js[i]? = some (some j) ∧ σ[j]? = some (some v) := by
  unfold tau at h
  rw [List.getElem?_map] at h
  cases e : js[i]? with
  | none => rw [e] at h; cases h
  | some o =>
    rw [e] at h
    cases o with
    | none => cases h
    | some j =>
      refine ⟨j, rfl, ?_⟩
      have h' : (match σ[j]? with | some v => v | none => none) = some v := Option.some.inj h
      cases q : σ[j]? with
      | none => rw [q] at h'; cases h'
      | some u => rw [q] at h'; rw [show u = some v from h']
end

/-! ### the reading -/
/-- what a turn of a comprehension's block is to reach -/
def turnC (g : TG) (tt : TT) (te : TE) (τ : St) (D : Addr) (ys : List V) (N : List V → Hp → Prop) (x : V) (H' : Hp) : Prop :=
  g x τ H' fun σ2 H2 => (∀ (k : Nat) (v : V), τ[k]? = some (some v) → σ2[k]? = some (some v)) ∧ tt σ2 H2 fun ok H3 =>
    if ok = true then te σ2 H3 fun v H4 => H4 D = some (.lst ys) ∧ ys.length < sizeLine ∧ N (ys ++ [v]) (upd H4 D (.lst (ys ++ [v]))) else N ys H3
/-- W: the invariant by the turn, a measure, the items so far; the new list stands at D -/
def tComp (js : List (Option Nat)) (wi : TI) (g : TG) (tt : TT) (te : TE) : TE := fun σ H Q => wi σ H fun J H1 => ∀ D, H1 D = none → ∃ W : Nat → Nat → List V → Hp → Prop, (∃ m, W 0 m [] (upd H1 D (.lst []))) ∧
  ∀ i m ys H, W i m ys H → (J.stop i H ∧ Q (.ref D) H) ∨ (J.go i H ∧ ∃ N : List V → Hp → Prop, (∀ ys' H', N ys' H' → ∃ m', m' < m ∧ W (i + 1) m' ys' H') ∧ ∀ x H', J.yld i H x H' → turnC g tt te (tau js σ) D ys N x H')

theorem pe_comp {X : Cx} {elt tg iter : Expr} {ifs : List Expr} {scope : Scope} {pos : Pos} {wi : TI} {g : TG} {tt : TT} {te : TE} {NB : List Str} {js : List (Option Nat)} (hc : X.calm = true) (B : BlkOk X scope NB js) (hi : PI X tg iter wi)
    (hg : ∀ C s₂ H₂ fp, PG (blk X scope NB C s₂ H₂ fp) tg g) (ht : ∀ C s₂ H₂ fp, PF (blk X scope NB C s₂ H₂ fp) ifs tt) (he : ∀ C s₂ H₂ fp, PE (blk X scope NB C s₂ H₂ fp) elt te)
    (hs : ∀ x, foldedSetIterable iter X.env x = pure x := by intro _; rfl) : PE X (.ListComp elt [⟨tg, iter, ifs, 0⟩] scope pos) (tComp js wi g tt te) := by
  intro pins s σ H Q I h
  rw [eval_ListComp]
  refine wpAny_comprehension_free (use := none) rfl hs B.clos B.kind B.locs (thn (hi pins s σ H _ I h) fun v s1 h1 => thn h1 fun itv s2 h2 => ?_)
  obtain ⟨it, fp, tn, J, H2, e, I2, T, st2, f2, hW⟩ := h2
  subst e
  have fresh2 : H2 s2.heap.objs.size = none := I2.hok.fresh (Nat.le_refl _)
  obtain ⟨W, ⟨m0, w0⟩, turn⟩ := hW s2.heap.objs.size fresh2
  refine wpAny_newObj_type (wpAny_newFunctionEnv B.nocell (by intro y hy; simp at hy) (fun h₁ hns₁ hsb₁ => ?_) B.kind)
  dsimp only at hns₁ hsb₁ ⊢
  generalize hH2 : s2.heap.push { cls := .type "list", dict := none, data := .seq ([] : List Value).toArray } = HP at hns₁ hsb₁ ⊢
  have hC : HP.objs.size = s2.heap.objs.size + 1 := by rw [← hH2, Heap.size_push]
  have hCle : s2.heap.objs.size ≤ HP.objs.size := by rw [hC]; exact Nat.le_succ _
  have hDC : s2.heap.objs.size ≠ HP.objs.size := by rw [hC]; exact Nat.ne_of_lt (Nat.lt_succ_self _)
  have below : ∀ b, b < s2.heap.objs.size → b ≠ HP.objs.size := fun b hb => Nat.ne_of_lt (Nat.lt_of_lt_of_le hb hCle)
  have old : ∀ b o, s2.heap.get? b = some o → h₁.get? b = some o := fun b o e => hsb₁.extBut b o (below b (Heap.lt_size e)) (Heap.get?_push_of_some _ (hH2 ▸ Heap.get?_push_of_some _ e))
  have hacc : h₁.get? s2.heap.objs.size = some { cls := .type "list", dict := none, data := .seq ([] : List Value).toArray } := hsb₁.extBut _ _ hDC (Heap.get?_push_of_some _ (hH2 ▸ Heap.get?_push_size _ rfl))
  have fplt : ∀ b ∈ fp, b < s2.heap.objs.size := fun b hb => by
    obtain ⟨o, ho, _⟩ := T.obj 0 _ st2 b hb
    exact Heap.lt_size ho
  have okY : (blk X scope NB HP.objs.size s2 H2 fp).Ok := blk_ok B I2 f2 (fun b hb => below b (fplt b hb)) hCle
  have lenτ : (tau js σ).length = NB.length := by unfold tau; rw [List.length_map]; exact B.len
  have IY : Inv (blk X scope NB HP.objs.size s2 H2 fp) [] (tau js σ) (upd H2 s2.heap.objs.size (.lst [])) { s2 with heap := h₁, toks := s2.toks + ([] : List (Str × Value)).length } := by
    refine ⟨okY, rfl, I2.bare, Un.laid old (Nat.le_refl _) fresh2, ⟨_, hns₁, fun i x v e1 e2 e3 => ?_⟩, fun x c e => ?_, ?_, fun x c e => ?_, fun p hp => absurd (show p ∈ ([] : List (Addr × Obj)) from hp) (by simp), I2.hok.laid old (Nat.le_refl _) ?_, lenτ⟩
    · obtain ⟨j, ej, ev⟩ := tau_get e2
      obtain ⟨x', n1, n2, n3, n4, n5⟩ := B.outer i j ej
      have ex : x' = x := Option.some.inj (n1.symm.trans e1)
      subst ex
      obtain ⟨m, _, hl⟩ := I2.loc
      obtain ⟨u, ru, l⟩ := hl j x' v n2 ev n4
      refine ⟨u, ru, .inr ?_⟩
      have e3' : Vis (relabel scope X.env) x' := e3
      have nl := B.inner i x' e1 n3 e3'
      have kk : (relabel scope X.env).names.lookup x' = some .cell ∨ (relabel scope X.env).names.lookup x' = some .free := by
        rcases e3' with z | z | z
        · exact absurd z nl
        · exact .inl z
        · exact .inr z
      refine ⟨kk, ?_⟩
      rcases l with ⟨z, _⟩ | ⟨_, c, ec, cell⟩
      · exact absurd z n5
      · obtain ⟨c', ec'⟩ := closOf_has (env := X.env) n3
        have q := (mem_closOf B.there ec').1
        rw [ec] at q
        cases q
        exact ⟨c, ec', cell.keeps old⟩
    · obtain ⟨v, z⟩ := I2.cell x c (mem_closOf B.there e).1
      exact ⟨v, z.keeps old⟩
    · show upd H2 s2.heap.objs.size (.lst []) HP.objs.size = none
      rw [upd_ne (Ne.symm hDC)]
      exact I2.hok.fresh hCle
    · have ec := (mem_closOf B.there e).1
      obtain ⟨v, o, ho, _⟩ := I2.cell x c ec
      rw [upd_ne (Nat.ne_of_lt (Heap.lt_size ho))]
      exact I2.freeC x c ec
    · exact ⟨by show 0 ≤ sizeLine; exact Nat.zero_le _, [], 0, .nil, hacc⟩
  have st1 : tn 0 h₁ := T.keep 0 _ _ st2 fun b _ o e => old b o e
  have statY : ∀ {H' : Hp}, (∀ b ∈ fp, H' b = none) → ∀ b ∈ fp, FpOk (blk X scope NB HP.objs.size s2 H2 fp) [] H' b := fun {H'} hn b hb =>
    ⟨hn b hb, below b (fplt b hb), okY.exfs b hb, .inl hb, (okY.exf b hb).2, fun p hp => absurd (show p ∈ ([] : List (Addr × Obj)) from hp) (by simp)⟩
  have frN : ∀ b ∈ fp, upd H2 s2.heap.objs.size (.lst []) b = none := fun b hb => by
    rw [upd_ne (Nat.ne_of_lt (fplt b hb))]
    exact (f2 b hb).1
  have loop : ∀ s₃ : Shared, s₃ = { s2 with heap := h₁, toks := s2.toks + ([] : List (Str × Value)).length } →
      codeAny (model X.prog X.w) X.A (.compLoop (.ListComp elt [⟨tg, iter, ifs, 0⟩] scope pos) 0 (.ref it) (.ref s2.heap.objs.size) (compEnvC scope (closOf scope X.env) HP.objs.size X.env))
        (compPost (model X.prog X.w) X.A X.xe none (EP X pins σ Q) (.ref s2.heap.objs.size) HP.objs.size) s₃ := by
    rintro s₃ rfl
    refine compLoop_any (fun n s' => ∃ i ys H', Inv (blk X scope NB HP.objs.size s2 H2 fp) [] (tau js σ) H' s' ∧ tn i s'.heap ∧ (∀ b ∈ fp, H' b = none) ∧ W i n ys H') ?_ m0 ⟨0, [], _, IY, st1, frN, w0⟩
    rintro n s3 ⟨i, ys, H3, I3, st3, fr3, w3⟩
    rcases turn i n ys H3 w3 with ⟨stop, qq⟩ | ⟨go, NN, hNN, step⟩
    · refine thn (T.done (blk X scope NB HP.objs.size s2 H2 fp) rfl rfl rfl hc i [] s3 (tau js σ) H3 (fun _ _ => False) I3 (statY fr3) st3 stop) fun r s4 ⟨hr, I4⟩ => ?_
      subst hr
      obtain ⟨m4, hn4, _⟩ := id I4.loc
      refine ⟨m4, hn4, fun h' sb => ⟨.ref s2.heap.objs.size, H3, ?_, rfl, qq⟩⟩
      have u4 : Un (frs X.stack) fp H2 H3 s2.heap s4.heap := I4.base
      exact I2.call' (s' := { s4 with heap := h' }) I4.os (u4.but hCle sb) (I4.hok.but I4.free sb) I4.bare fun b hb => ⟨(f2 b hb).2.2.2.1, (f2 b hb).2.1, (f2 b hb).2.2.2.2.1, (f2 b hb).2.2.2.2.2⟩
    · refine thn (T.item (blk X scope NB HP.objs.size s2 H2 fp) rfl rfl rfl hc i [] s3 (tau js σ) H3 (fun _ _ => False) I3 (statY fr3) st3 go) fun r s4 ⟨u, hr, h4⟩ => ?_
      subst hr
      refine thn h4 fun _ s5 ⟨x, H5, I5, r5, y5, st5, fr5⟩ => ?_
      have I5' := I5.pinned (statY fr5) (T.obj _ _ st5)
      refine thn (hg _ _ _ _ _ s5 (tau js σ) H5 x u _ I5' r5 (step x H5 y5)) fun _ s6 ⟨σ6, H6, I6, ag, q6⟩ => ?_
      have back : ∀ {s7 : Shared} {H7 : Hp}, Inv (blk X scope NB HP.objs.size s2 H2 fp) ([] ++ pinsAt fp s5.heap) σ6 H7 s7 → Inv (blk X scope NB HP.objs.size s2 H2 fp) [] (tau js σ) H7 s7 ∧ tn (i + 1) s7.heap ∧ ∀ b ∈ fp, H7 b = none := fun {s7 H7} I7 => by
        refine ⟨I7.unpinned.weak (lenτ.trans I7.len.symm) ag, T.keep _ _ _ st5 fun b hb o e => (I7.pin (b, o) (List.mem_append_right _ (List.mem_append_right _ (mem_pinsAt hb e)))).1, fun b hb => ?_⟩
        obtain ⟨o, e, d⟩ := T.obj _ _ st5 b hb
        exact (I7.pin (b, o) (List.mem_append_right _ (List.mem_append_right _ (mem_pinsAt hb e)))).2.1
      refine thn (ht _ _ _ _ _ s6 σ6 H6 _ I6 q6) fun ok s7 ⟨H7, I7, q7⟩ => ?_
      cases ok with
      | false =>
        obtain ⟨m', hm, w7⟩ := hNN _ _ q7
        obtain ⟨J1, J2, J3⟩ := back I7
        exact ⟨m', hm, i + 1, ys, H7, J1, J2, J3, w7⟩
      | true =>
        refine thn (he _ _ _ _ _ s7 σ6 H7 _ I7 q7) fun v s8 ⟨y, H8, I8, r8, hD8, hz, n8⟩ => ?_
        obtain ⟨m', hm, w8⟩ := hNN _ _ n8
        refine thn (mt_append _ s8 σ6 H8 (.ref s2.heap.objs.size) [y] (.ref s2.heap.objs.size) [v] (fun z H' => z = .non ∧ H' = upd H8 s2.heap.objs.size (.lst (ys ++ [y]))) I8 rfl (.cons r8 .nil) ⟨_, ys, y, rfl, rfl, hD8, hz, ⟨rfl, rfl⟩⟩) fun _ s9 ⟨z, H9, I9, r9, q9⟩ => ?_
        obtain ⟨ez, e9⟩ : z = .non ∧ H9 = upd H8 s2.heap.objs.size (.lst (ys ++ [y])) := q9
        subst e9
        obtain ⟨J1, J2, J3⟩ := back I9
        exact ⟨m', hm, i + 1, ys ++ [y], _, J1, J2, J3, w8⟩
  exact codeAny_compStart_list (loop _ rfl) (T.self _ _ _ _ _ st1 (loop _ rfl))

/-! ### the forms one uses -/
section
variable {g : TG} {tt : TT} {te : TE} {τ : St} {Q : VK} {H1 : Hp} {D : Addr}
theorem comp_range {lo : Int} {n : Nat} (Pv : Nat → List V → Hp → Prop) (h0 : Pv 0 [] (upd H1 D (.lst []))) (hs : ∀ i ys H, i < n → Pv i ys H → turnC g tt te τ D ys (Pv (i + 1)) (.int (lo + i)) H) (hd : ∀ ys H, Pv n ys H → Q (.ref D) H) :
    ∃ W : Nat → Nat → List V → Hp → Prop, (∃ m, W 0 m [] (upd H1 D (.lst []))) ∧ ∀ i m ys H, W i m ys H → ((Itr lo n).stop i H ∧ Q (.ref D) H) ∨ ((Itr lo n).go i H ∧ ∃ N : List V → Hp → Prop, (∀ ys' H', N ys' H' → ∃ m', m' < m ∧ W (i + 1) m' ys' H') ∧ ∀ x H', (Itr lo n).yld i H x H' → turnC g tt te τ D ys N x H') := by
  refine ⟨fun i m ys H => m = n - i ∧ i ≤ n ∧ Pv i ys H, ⟨n, by simp, Nat.zero_le _, h0⟩, ?_⟩
  rintro i m ys H ⟨rfl, hi, p⟩
  by_cases hlt : i < n
  · refine .inr ⟨hlt, Pv (i + 1), fun ys' H' p' => ⟨n - (i + 1), by omega, rfl, hlt, p'⟩, fun x H' y => ?_⟩
    obtain ⟨e, y⟩ := y
    subst e y
    exact hs i ys _ hlt p
  · have e : i = n := by omega
    subst e
    exact .inl ⟨Nat.le_refl _, hd ys H p⟩
theorem comp_list {K : PySem.W.Frag} {a : Addr} {xs : List V} (Pv : Nat → List V → Hp → Prop) (h0 : Pv 0 [] (upd H1 D (.lst []))) (hl : ∀ i ys H, i ≤ xs.length → Pv i ys H → SqL K H a xs)
    (hs : ∀ i ys x H, xs[i]? = some x → Pv i ys H → turnC g tt te τ D ys (Pv (i + 1)) x H) (hd : ∀ ys H, Pv xs.length ys H → Q (.ref D) H) :
    ∃ W : Nat → Nat → List V → Hp → Prop, (∃ m, W 0 m [] (upd H1 D (.lst []))) ∧ ∀ i m ys H, W i m ys H → ((Itl K a).stop i H ∧ Q (.ref D) H) ∨ ((Itl K a).go i H ∧ ∃ N : List V → Hp → Prop, (∀ ys' H', N ys' H' → ∃ m', m' < m ∧ W (i + 1) m' ys' H') ∧ ∀ x H', (Itl K a).yld i H x H' → turnC g tt te τ D ys N x H') := by
  refine ⟨fun i m ys H => m = xs.length - i ∧ i ≤ xs.length ∧ Pv i ys H, ⟨xs.length, by simp, Nat.zero_le _, h0⟩, ?_⟩
  rintro i m ys H ⟨rfl, hi, p⟩
  have q := hl i ys H hi p
  by_cases hlt : i < xs.length
  · refine .inr ⟨⟨xs, xs[i], q, by simp [hlt]⟩, Pv (i + 1), fun ys' H' p' => ⟨xs.length - (i + 1), by omega, rfl, hlt, p'⟩, fun x H' y => ?_⟩
    obtain ⟨e, y⟩ := y
    subst e
    exact hs i ys x _ (y xs q) p
  · have e : i = xs.length := by omega
    subst e
    exact .inl ⟨⟨xs, q, Nat.le_refl _⟩, hd ys H p⟩
theorem comp_tup {K : PySem.W.Frag} {a : Addr} {xs : List V} (Pv : Nat → List V → Hp → Prop) (h0 : Pv 0 [] (upd H1 D (.lst []))) (hl : ∀ i ys H, i ≤ xs.length → Pv i ys H → SqT K H a xs)
    (hs : ∀ i ys x H, xs[i]? = some x → Pv i ys H → turnC g tt te τ D ys (Pv (i + 1)) x H) (hd : ∀ ys H, Pv xs.length ys H → Q (.ref D) H) :
    ∃ W : Nat → Nat → List V → Hp → Prop, (∃ m, W 0 m [] (upd H1 D (.lst []))) ∧ ∀ i m ys H, W i m ys H → ((Itt K a).stop i H ∧ Q (.ref D) H) ∨ ((Itt K a).go i H ∧ ∃ N : List V → Hp → Prop, (∀ ys' H', N ys' H' → ∃ m', m' < m ∧ W (i + 1) m' ys' H') ∧ ∀ x H', (Itt K a).yld i H x H' → turnC g tt te τ D ys N x H') := by
  refine ⟨fun i m ys H => m = xs.length - i ∧ i ≤ xs.length ∧ Pv i ys H, ⟨xs.length, by simp, Nat.zero_le _, h0⟩, ?_⟩
  rintro i m ys H ⟨rfl, hi, p⟩
  have q := hl i ys H hi p
  by_cases hlt : i < xs.length
  · refine .inr ⟨⟨xs, xs[i], q, by simp [hlt]⟩, Pv (i + 1), fun ys' H' p' => ⟨xs.length - (i + 1), by omega, rfl, hlt, p'⟩, fun x H' y => ?_⟩
    obtain ⟨e, y⟩ := y
    subst e
    exact hs i ys x _ (y xs q) p
  · have e : i = xs.length := by omega
    subst e
    exact .inl ⟨⟨xs, q, Nat.le_refl _⟩, hd ys H p⟩
end
end L2
set_option Elab.async false
set_option linter.all false
set_option maxRecDepth 100000
/-! enumerate(a tuple), enumerate(a list): walked by a pair of names, over the hand layer. -/
namespace BE
open PySem PySem.Spec PyProof.Rows
open AutoSeq1 (wpAny_loadPart')
section
variable {prog : Program} {w : World} {A : Around} {E : Value → Shared → Prop} {s : Shared}
theorem nextOf_tup {it t : Addr} {i : Nat} {items : Array Value} {x : Value} {Q : Value → Shared → Prop} (st : s.heap.IsTupleIter it t i) (ht : s.heap.IsTuple t items) (hx : items[i]? = some x)
    (hQ : ∀ h', h'.IsTupleIter it t (i + 1) → Heap.SameBut it s.heap h' → Q x { s with heap := h' }) : wpAny (model prog w) A (Builtin.SmallTypes.nextOf (.ref it)) Q E s := by
  obtain ⟨ob, hob, hcl, hda⟩ := id st
  obtain ⟨ot, hot, _, nt, hdt⟩ := ht
  unfold Builtin.SmallTypes.nextOf
  refine wpAny_bind (wpAny_callSpecial?_slot (name := Str.ofString "__next__") st.typeIs F.slot_tuple_iterator_next (wpAny_call_entry F.slot_tuple_iterator_next st.typeIs F.entry_tuple_iterator_next ?_ (F.args_tuple_iterator_next_1 _)))
  show wpAny _ _ (field (.ref it) 0 >>= _) _ _ s
  refine wpAny_bind (wpAny_field hob hda (x := .ref t) rfl ?_)
  show wpAny _ _ (if (Value.ref t == Value.none) = true then _ else _) _ _ s
  rw [if_neg (show ¬ ((Value.ref t == Value.none) = true) from Bool.false_ne_true)]
  show wpAny _ _ (field (.ref it) 1 >>= _) _ _ s
  refine wpAny_bind (wpAny_field hob hda (x := .int i 0) rfl ?_)
  show wpAny _ _ (seqItems? (.ref t) >>= _) _ _ s
  refine wpAny_bind (wpAny_seqItems hot hdt ?_)
  simp only [Int.toNat_natCast, hx]
  refine wpAny_bind (wpAny_setField hob hda (by simp) (wpAny_pure ⟨x, rfl, wpAny_pure (hQ _ ?_ (Heap.SameBut.update ..))⟩))
  exact ⟨_, Heap.get?_update_self _ hob (Obj.isFreed_of_fields (Obj.data_mapFields hda _)), (Obj.cls_mapFields ..).trans hcl, by rw [Obj.data_mapFields hda]; simp [rawInt]⟩
theorem nextOf_tup_end {it t : Addr} {i : Nat} {items : Array Value} {Q : Value → Shared → Prop} (hh : A.handled = none) (st : s.heap.IsTupleIter it t i) (ht : s.heap.IsTuple t items) (hx : items[i]? = none)
    (hE : ∀ h' e, Heap.ExtBut it s.heap h' → (∃ o, h'.get? e = some o ∧ o.cls = .type "StopIteration") → E (.ref e) { s with heap := h' }) : wpAny (model prog w) A (Builtin.SmallTypes.nextOf (.ref it)) Q E s := by
  obtain ⟨ob, hob, hcl, hda⟩ := id st
  obtain ⟨ot, hot, _, nt, hdt⟩ := ht
  unfold Builtin.SmallTypes.nextOf
  refine wpAny_bind (wpAny_callSpecial?_slot (name := Str.ofString "__next__") st.typeIs F.slot_tuple_iterator_next (wpAny_call_entry F.slot_tuple_iterator_next st.typeIs F.entry_tuple_iterator_next ?_ (F.args_tuple_iterator_next_1 _)))
  show wpAny _ _ (field (.ref it) 0 >>= _) _ _ s
  refine wpAny_bind (wpAny_field hob hda (x := .ref t) rfl ?_)
  show wpAny _ _ (if (Value.ref t == Value.none) = true then _ else _) _ _ s
  rw [if_neg (show ¬ ((Value.ref t == Value.none) = true) from Bool.false_ne_true)]
  show wpAny _ _ (field (.ref it) 1 >>= _) _ _ s
  refine wpAny_bind (wpAny_field hob hda (x := .int i 0) rfl ?_)
  show wpAny _ _ (seqItems? (.ref t) >>= _) _ _ s
  refine wpAny_bind (wpAny_seqItems hot hdt ?_)
  simp only [Int.toNat_natCast, hx]
  refine wpAny_bind (wpAny_rule (wpAny_bind (wpAny_setField hob hda (by simp) ?_)))
  show wpAny _ _ (newExc (.type "StopIteration") [] >>= _) _ _ _
  refine wpAny_bind ?_
  simp only [newExc, newTuple]
  refine wpAny_bind (wpAny_newObj_type ?_ (by size_fits))
  refine wpAny_bind (m := firstArgMember _ _) (wpAny_of_eq (a := Value.none) (by first | rfl | (simp only [firstArgMember]; rfl)) ?_)
  refine wpAny_newObj_type ?_ (by size_fits)
  simp only [raiseNew]
  refine wpAny_bind (wpAny_handled ?_)
  first | rw [show A.in1.handled = none from hh] | rw [hh]
  refine wpAny_bind (wpAny_pure (wpAny_throw ?_))
  exact hE _ _ (((Heap.SameBut.update ..).extBut.push _).push _) ⟨_, Heap.get?_push_size _ rfl, rfl⟩
end
theorem drawsTup {prog : Program} {w : World} {A : Around} (hh : A.handled = none) (it l : Addr) (hne : l ≠ it) (items : Array Value) :
    Draws prog w A it [it, l] items.size (fun i v => items[i]? = some v) (fun i h => h.IsTupleIter it l i ∧ h.IsTuple l items) where
  live := fun _ _ st => let ⟨o, ho, _⟩ := st.1; ⟨o, ho⟩
  frame := fun _ _ _ st hk => ⟨st.1.at fun o e => hk it (by simp) o e, let ⟨o, ho, r⟩ := st.2; ⟨o, hk l (by simp) o ho, r⟩⟩
  item := fun i s Q E hi st hQ => by
    refine nextOf_tup st.1 st.2 (x := items[i]) (by simp [hi]) fun h' st' sb => ?_
    exact hQ _ h' s.toks (by simp [hi]) ⟨st', st.2.extBut sb.extBut hne⟩ sb
  done := fun s Q E st hE => nextOf_tup_end hh st.1 st.2 (by simp) hE

theorem enum_new_tup (l : Addr) (items : Array Value) (n : Nat) (dct : Option Addr) (sl : Array (Option Value)) :
    Meets (Builtin.«enumerate.__new__» ⟨[.type "enumerate", .ref l], []⟩) (fun _ R s => s.heap.get? l = some { cls := .type "tuple", dict := dct, data := .seq items n, slots := sl } ∧
      R (.ok (.ret (.ref (s.heap.push { cls := .type "tuple_iterator", data := .fields #[.ref l, .int 0 0] }).objs.size)))
        { s with heap := (s.heap.push { cls := .type "tuple_iterator", data := .fields #[.ref l, .int 0 0] }).push { cls := .type "enumerate", data := .fields #[.none, .bool false, .ref s.heap.objs.size, rawInt 0, .none, .none] } }) :=
  .of_wp fun prog w A R s h => by
    obtain ⟨hp, g, d, tk, os⟩ := s; obtain ⟨hl, h⟩ := h
    have hsub := sub_enumerate
    have hL : Heap.IsTuple (Shared.heap ⟨hp, g, d, tk, os⟩) l items := ⟨_, hl, rfl, n, rfl⟩
    wp_walk using wpAny_loadPart' hl
    refine wpAny_stack_any fun st => wpAny_pure ?_
    split
    · rename_i c _ _ _ _ _
      cases (c == Value.type "enumerate")
      · wp_walk using wpAny_loadPart' hl, wpAny_pyIter_tuple hL
        exact ⟨_, rfl, h⟩
      · wp_walk using wpAny_loadPart' hl, wpAny_pyIter_tuple hL
        exact ⟨_, rfl, h⟩
    · wp_walk using wpAny_loadPart' hl, wpAny_pyIter_tuple hL
      exact ⟨_, rfl, h⟩
section
variable {prog : Program} {w : World} {A : Around} {E : Value → Shared → Prop} {s : Shared}
theorem call_enum_tup {l : Addr} {items : Array Value} {Q : Value → Shared → Prop} (hL : s.heap.IsTuple l items)
    (h : ∀ h', IsEnum h' (s.heap.objs.size + 1) s.heap.objs.size 0 .none → h'.IsTupleIter s.heap.objs.size l 0 → h'.objs.size = s.heap.objs.size + 2 →
      (∀ b o, s.heap.get? b = some o → h'.get? b = some o) → Q (.ref (s.heap.objs.size + 1)) { s with heap := h' }) :
    wpAny (model prog w) A (call (.type "enumerate") [.ref l]) Q E s := by
  obtain ⟨⟨c, dct, dt, sl⟩, hl, hc, n, hd⟩ := hL
  replace hc : c = .type "tuple" := hc
  replace hd : dt = .seq items n := hd
  subst hc hd
  refine callType_new F.called_enumerate (by decide) (F.typeCall_enumerate_1 _) (F.newCall_enumerate_1 _) (fun obj => F.args_object_init_2 obj _) F.entry_enumerate_new (enum_new_tup l items n dct sl) ⟨hl, ?_⟩
  have hz : (s.heap.push { cls := .type "tuple_iterator", data := .fields #[.ref l, .int 0 0] }).objs.size = s.heap.objs.size + 1 := Heap.size_push ..
  show _ ∧ _
  rw [hz]
  have he : IsEnum ((s.heap.push { cls := .type "tuple_iterator", data := .fields #[.ref l, .int 0 0] }).push
      { cls := .type "enumerate", data := .fields #[.none, .bool false, .ref s.heap.objs.size, rawInt 0, .none, .none] }) (s.heap.objs.size + 1) s.heap.objs.size 0 .none := by
    have q := Heap.get?_push_size (s.heap.push { cls := .type "tuple_iterator", data := .fields #[.ref l, .int 0 0] })
      (o := { cls := .type "enumerate", data := .fields #[.none, .bool false, .ref s.heap.objs.size, rawInt 0, .none, .none] }) rfl
    rw [hz] at q; exact q
  exact ⟨⟨_, he, rfl⟩, h _ he ⟨_, Heap.get?_push_of_some _ (Heap.get?_push_size _ rfl), rfl, rfl⟩ (by rw [Heap.size_push, hz]) fun b o x => Heap.get?_push_of_some _ (Heap.get?_push_of_some _ x)⟩
end
end BE

namespace L2
open PySem PySem.Spec PyProof.Rows
section
variable {X : Cx} {pins : List (Addr × Obj)} {σ : St} {H : Hp} {s : Shared} {h' : Heap}
/-- two records of ours have turned, a new object is laid and tracked -/
theorem Inv.turned2 {t' : Nat} {it e T : Addr} {o : HO} (I : Inv X pins σ H s) (k : ∀ b u, b ≠ it → b ≠ e → s.heap.get? b = some u → h'.get? b = some u) (f1 : FpOk X pins H it) (f2 : FpOk X pins H e) (hp : s.heap.objs.size ≤ T)
    (new : ObjOk X.prog X.w (upd H T o) h' T o) : Inv X pins σ (upd H T o) { s with heap := h', toks := t' } := by
  have hT : H T = none := I.hok.fresh hp
  have old : ∀ b u, s.heap.get? b = some u → b ≠ T := fun b u q => Nat.ne_of_lt (Nat.lt_of_lt_of_le (Heap.lt_size q) hp)
  have up : ∀ b u, H b = some u → upd H T o b = some u := fun b u q => by rw [upd_ne (ne_of_none q hT)]; exact q
  have nit : ∀ b u, H b = some u → b ≠ it := fun b u q z => by rw [z, f1.1] at q; cases q
  have ne : ∀ b u, H b = some u → b ≠ e := fun b u q z => by rw [z, f2.1] at q; cases q
  have nin : ∀ b, b ∉ [it, e] → b ≠ it ∧ b ≠ e := fun b hb => ⟨fun z => hb (by simp [z]), fun z => hb (by simp [z])⟩
  refine I.step (g' := s.gens) (d' := s.drawn) (ch := [it, e]) (fun b hb => ?_) (fun b u _ _ hc q _ => k b u (nin b hc).1 (nin b hc).2 q) (fun b u _ _ hc q _ => ⟨u.slots, k b u (nin b hc).1 (nin b hc).2 q⟩) (fun b u hc q n => by rw [upd_ne (old b u q)]; exact n)
    (fun b u hc q => ⟨u, k b u (nin b hc).1 (nin b hc).2 q⟩) (fun b xs q => up b _ q) (fun b u v q => up b _ q) (fun b ps q => ⟨#[], by rw [up b _ q]; simp⟩) (fun m hm => ?_) (fun b u q => ?_) I.bare
  · have hb' : b = it ∨ b = e := by simpa using hb
    rcases hb' with rfl | rfl
    · exact ⟨f1.2.2.2.1, f1.2.1, f1.2.2.2.2.1, f1.2.2.2.2.2⟩
    · exact ⟨f2.2.2.2.1, f2.2.1, f2.2.2.2.2.1, f2.2.2.2.2.2⟩
  · obtain ⟨u, es, ep, hu, r⟩ := hm
    exact ⟨u, es, ep, k _ u (Ne.symm f1.2.1) (Ne.symm f2.2.1) hu, r⟩
  · by_cases z : b = T
    · subst z
      rw [upd_same] at q
      cases q
      exact new
    · rw [upd_ne z] at q
      refine (I.hok b u q).stay (fun c v hc r => k c v ?_ ?_ r) (fun c r => up c _ r) fun c xs r => up c _ r
      · rcases hc with hc | hc
        · rw [hc]; exact nit b u q
        · exact nit c _ hc
      · rcases hc with hc | hc
        · rw [hc]; exact ne b u q
        · exact ne c _ hc
end
/-- (0, x0), (1, x1), .. of the tuple at a; of the list at a -/
def Ite (K : PySem.W.Frag) (a : Addr) : It :=
  ⟨fun i H => ∃ xs x, SqT K H a xs ∧ xs[i]? = some x, fun i H x H' => ∃ p v, H p = none ∧ x = .ref p ∧ H' = upd H p (.tup [.int i, v]) ∧ ∀ xs, SqT K H a xs → xs[i]? = some v, fun i H => ∃ xs, SqT K H a xs ∧ xs.length ≤ i⟩
def ItL (K : PySem.W.Frag) (a : Addr) : It :=
  ⟨fun i H => ∃ xs x, SqL K H a xs ∧ xs[i]? = some x, fun i H x H' => ∃ p v, H p = none ∧ x = .ref p ∧ H' = upd H p (.tup [.int i, v]) ∧ ∀ xs, SqL K H a xs → xs[i]? = some v, fun i H => ∃ xs, SqL K H a xs ∧ xs.length ≤ i⟩

theorem tup2_ok {P : Program} {w : World} {H : Hp} {h : Heap} {T : Addr} {i : Nat} {t : Tok} {v : V} {u : Value} (ht : h.get? T = some { cls := .type "tuple", data := .seq #[.int i t, u] }) (r : RelV v u) : ObjOk P w H h T (.tup [.int i, v]) :=
  ⟨by show 2 ≤ sizeLine; decide, [.int i t, u], .cons ⟨t, rfl⟩ (.cons r .nil), ⟨_, ht, rfl, rfl, _, rfl⟩⟩

theorem turn_enumT {P : Program} {w : World} {K : PySem.W.Frag} {es : List Expr} {ek : Nat} {pos : Pos} (a it e : Addr) (hei : e ≠ it) : Turn P w K (.Tuple es ek pos) (Ite K a) [it, e] e (fun i h => (∃ old, IsEnum h e it i old) ∧ h.IsTupleIter it a i) where
  mem := by simp
  obj := fun i h st b hb => by
    obtain ⟨⟨old, he⟩, o, ho, hc, hd⟩ := st
    have hb' : b = it ∨ b = e := by simpa using hb
    rcases hb' with rfl | rfl
    · exact ⟨o, ho, fun v z => by rw [hd] at z; cases z⟩
    · exact ⟨_, he, fun v z => by
        have z' : Data.fields _ = Data.cell v := z
        cases z'⟩
  keep := fun i h h' st k => by
    obtain ⟨⟨old, he⟩, st⟩ := st
    exact ⟨⟨old, k e (by simp) _ he⟩, st.at fun o q => k it (by simp) o q⟩
  item := by
    intro X hP hw hK hc i pins s σ H E I hf st hg
    subst hP hw hK
    obtain ⟨⟨old, he⟩, st⟩ := st
    obtain ⟨xs, x, hq, hx⟩ := hg
    obtain ⟨its, rv, p, hz⟩ := I.tuple hq
    obtain ⟨u, hu, ru⟩ := rv.get hx
    have f1 := hf it (by simp)
    have f2 := hf e (by simp)
    have p' : s.heap.IsTuple a its.toArray := p
    have ha : a ≠ it := fun z => by
      obtain ⟨o, ho, hcl, _⟩ := st
      obtain ⟨o', ho', hcl', _⟩ := p'
      rw [z, ho] at ho'; cases ho'; rw [hcl] at hcl'; exact absurd (Value.type.inj hcl') (by decide)
    have hae : e ∉ [it, a] := fun z => by
      have z' : e = it ∨ e = a := by simpa using z
      rcases z' with z' | z'
      · exact hei z'
      · obtain ⟨o', ho', hcl', _⟩ := p'
        rw [← z', he] at ho'; cases ho'; exact absurd (Value.type.inj hcl') (by decide)
    have hlt : i < its.toArray.size := by
      have := (List.getElem?_eq_some_iff.mp hu).1
      simpa using this
    refine wpAny_pyNext_enum_itemD (BE.drawsTup (A := X.A.in1) (I.ok.hd hc) it a ha its.toArray) he ⟨st, p'⟩ hlt hei hae fun y h1 tk hy ho st1 hT hsz hk => ?_
    have ey : y = u := by
      have hy' : its.toArray[i]? = some y := hy
      rw [List.getElem?_toArray] at hy'
      rw [hu] at hy'; cases hy'; rfl
    subst ey
    refine ⟨_, rfl, wpAny_letOwnedTupleGo_enum ho fun h2 he2 sb2 => ?_⟩
    have neT : s.heap.objs.size ≠ e := Nat.ne_of_gt (Heap.lt_size he)
    have hT2 : h2.get? s.heap.objs.size = some { cls := .type "tuple", data := .seq #[.int i tk, y] } := (sb2.2 _ neT).trans hT
    have fr : H s.heap.objs.size = none := I.hok.fresh (Nat.le_refl _)
    have I2 : Inv X pins σ (upd H s.heap.objs.size (.tup [.int i, x])) { s with heap := h2, toks := tk + 1 } :=
      I.turned2 (it := it) (e := e) (fun b q h1' h2' r => (sb2.2 b h2').trans (hk b q h2' h1' r)) f1 f2 (Nat.le_refl _) (tup2_ok hT2 ru)
    refine ⟨.ref s.heap.objs.size, _, I2, rfl, ⟨_, x, fr, rfl, rfl, fun ys hy => by rw [I.tuple_inj hy hq]; exact hx⟩, ⟨⟨y, ?_⟩, ?_⟩, fun b hb => ?_⟩
    · have := he2
      rw [show ((i + 1 : Nat) : Int) = (i : Int) + 1 from by omega]
      exact this
    · exact st1.1.at fun o q => (sb2.2 it (Ne.symm hei)).trans q
    · have hn := (hf b hb).1
      have hb' : b ≠ s.heap.objs.size := fun z => by
        have hlt' : b < s.heap.objs.size := by
          have hb2 : b = it ∨ b = e := by simpa using hb
          rcases hb2 with rfl | rfl
          · obtain ⟨o, ho, _⟩ := st; exact Heap.lt_size ho
          · exact Heap.lt_size he
        exact absurd z (Nat.ne_of_lt hlt')
      rw [upd_ne hb']
      exact hn
  done := by
    intro X hP hw hK hc i pins s σ H E I hf st hg
    subst hP hw hK
    obtain ⟨⟨old, he⟩, st⟩ := st
    obtain ⟨xs, hq, hx⟩ := hg
    obtain ⟨its, rv, p, hz⟩ := I.tuple hq
    have f1 := hf it (by simp)
    have p' : s.heap.IsTuple a its.toArray := p
    have hT : s.TypeIs (.ref e) "enumerate" := ⟨_, he, rfl⟩
    unfold pyNext
    refine wpAny_bind (wpAny_attempt (wpAny_callSpecial?_slot (name := Str.ofString "__next__") hT F.slot_enumerate_next (wpAny_call_entry F.slot_enumerate_next hT F.entry_enumerate_next ?_ (F.args_enumerate_next_1 _))))
    show wpAny _ _ (field (.ref e) 2 >>= _) _ _ _
    refine wpAny_bind (wpAny_field he rfl (x := .ref it) rfl ?_)
    refine wpAny_bind (BE.nextOf_tup_end (A := X.A.in1) (I.ok.hd hc) st p' (by simp; have := rv.length; omega) fun h1 ex hb hx' => ?_)
    obtain ⟨o, ho, hcl⟩ := hx'
    refine wpAny_bind (wpAny_isInstance (T := "StopIteration") (b := true) ⟨o, ho, hcl⟩ isSubtype_stop ?_)
    exact wpAny_pure ⟨rfl, I.turned (t' := s.toks) (fun b q hb' r => hb b q hb' r) f1.1 f1.2.1 f1.2.2.2.1 f1.2.2.2.2.1 f1.2.2.2.2.2⟩
  self := fun _ _ _ _ _ st h => let ⟨⟨_, he⟩, _⟩ := st; wpAny_pyIter_enum he h

section
variable {X : Cx} {es : List Expr} {ek : Nat} {tpos : Pos}
def iEnumT (K : PySem.W.Frag) (ta : TA) : TI := fun σ H R => ta σ H fun vs H1 => ∃ a xs, vs = [.ref a] ∧ SqT K H1 a xs ∧ R (Ite K a) H1
theorem pi_enumT {x : Expr} {ta : TA} {p pos : Pos} (hg : Gl X "enumerate") (hm : X.mg "enumerate" = none) (ha : PA X [x] ta) (hs : starEach [x] X.env = [(false, eval x X.env)] := by rfl) :
    PI X (.Tuple es ek tpos) (.Call (.Name "enumerate" p) [x] [] pos) (iEnumT X.K ta) := by
  intro pins s σ H R I h
  refine Call_ (ld_blt I hg hm boot_enumerate (PyProof.Rows.callWith_type1 (thn (ha pos pins s σ H _ I h) fun us s1 ⟨vs, H1, I1, r1, q1⟩ => ?_) hs rfl))
  obtain ⟨a, xs, e, hq, q⟩ := q1
  subst e
  cases r1 with
  | cons r rr =>
    cases rr
    cases r
    obtain ⟨its, rv, pt, hz⟩ := I1.tuple hq
    refine BE.call_enum_tup (show s1.heap.IsTuple a its.toArray from pt) fun h' he hit hsz hk => ?_
    refine wpAny_pyIter_enum he ?_
    have hne : s1.heap.objs.size + 1 ≠ s1.heap.objs.size := Nat.succ_ne_self _
    refine ⟨s1.heap.objs.size + 1, [s1.heap.objs.size, s1.heap.objs.size + 1], _, _, H1, rfl, I1.kept (t' := s1.toks) hk, turn_enumT a s1.heap.objs.size (s1.heap.objs.size + 1) hne, ⟨⟨_, he⟩, hit⟩, fun b hb => ?_, q⟩
    have hb' : b = s1.heap.objs.size ∨ b = s1.heap.objs.size + 1 := by simpa using hb
    rcases hb' with rfl | rfl
    · exact I1.fpOk (Nat.le_refl _) (I1.hok.fresh (Nat.le_refl _))
    · exact I1.fpOk (Nat.le_succ _) (I1.hok.fresh (Nat.le_succ _))
end
/-- the form that one uses: over the pairs of a tuple that the body leaves as it is (tuples never change) -/
theorem for_enumT {K : PySem.W.Frag} {a : Addr} {xs : List V} {g : TG} {tb : TS} {D : Ends} {σ : St} {H : Hp} (Pv : Nat → St → Hp → Prop) (h0 : Pv 0 σ H) (hl : ∀ i σ H, i ≤ xs.length → Pv i σ H → SqT K H a xs)
    (hs : ∀ i v p σ H, xs[i]? = some v → H p = none → Pv i σ H → g (.ref p) σ (upd H p (.tup [.int i, v])) fun σ2 H2 => tb { D with nx := Pv (i + 1), ct := Pv (i + 1), bk := D.nx } σ2 H2) (hd : ∀ σ H, Pv xs.length σ H → D.nx σ H) :
    ∃ W : Nat → Nat → St → Hp → Prop, (∃ m, W 0 m σ H) ∧ ∀ i m σ H, W i m σ H →
      ((Ite K a).stop i H ∧ D.nx σ H) ∨ ((Ite K a).go i H ∧ ∃ N : St → Hp → Prop, (∀ σ' H', N σ' H' → ∃ m', m' < m ∧ W (i + 1) m' σ' H') ∧ ∀ x H', (Ite K a).yld i H x H' → g x σ H' fun σ2 H2 => tb { D with nx := N, ct := N, bk := D.nx } σ2 H2) := by
  refine ⟨fun i m σ H => m = xs.length - i ∧ i ≤ xs.length ∧ Pv i σ H, ⟨xs.length, by simp, Nat.zero_le _, h0⟩, ?_⟩
  rintro i m σ H ⟨rfl, hi, p⟩
  have q := hl i σ H hi p
  by_cases hlt : i < xs.length
  · refine .inr ⟨⟨xs, xs[i], q, by simp [hlt]⟩, Pv (i + 1), fun σ' H' p' => ⟨xs.length - (i + 1), by omega, rfl, hlt, p'⟩, fun x H' y => ?_⟩
    obtain ⟨b, v, hb, e1, e2, y⟩ := y
    subst e1 e2
    exact hs i v b σ _ (y xs q) hb p
  · have e : i = xs.length := by omega
    subst e
    exact .inl ⟨⟨xs, q, Nat.le_refl _⟩, hd σ H p⟩
end L2
set_option Elab.async false
set_option linter.all false
set_option maxRecDepth 100000
/-! More rules over the hand layer: t + u and t[a:b] of any tuples, all(list), any(list). -/
namespace L2
open PySem PySem.Spec PyProof.Rows
section
variable {prog : Program} {w : World} {A : Around} {E : Value → Shared → Prop} {s : Shared}
/-- t + u: one of them, or a new one -/
theorem catAny {t b : Addr} {vs ws : List Value} {Q : Value → Shared → Prop} (ht : IsTup s.heap t vs.toArray) (hb : IsTup s.heap b ws.toArray) (h0 : vs = [] → Q (.ref b) s) (h1 : ws = [] → Q (.ref t) s)
    (h2 : Q (.ref s.heap.objs.size) { s with heap := s.heap.push { cls := .type "tuple", data := .seq (vs ++ ws).toArray } }) (hsz : vs.length + ws.length ≤ sizeLine) : wpAny (model prog w) A (binaryOp .Add (.ref t) (.ref b)) Q E s := by
  by_cases hv : vs = []
  · obtain ⟨⟨c1, d1, a1, l1⟩, o1, k1, n1, q1⟩ := id ht
    obtain ⟨⟨c2, d2, a2, l2⟩, o2, k2, n2, q2⟩ := id hb
    simp only at k1 q1 k2 q2
    subst k1 q1 k2 q2
    exact concat_meets ⟨_, o1, rfl⟩ ⟨_, o2, rfl⟩ noFill_tuple_add seq_tuple_add PySem.F.slot_tuple_add PySem.F.entry_tuple_add (PySem.F.args_tuple_add_2 _ _) (tuple_addW0 t b vs.toArray ws.toArray n1 n2 d1 d2 l1 l2 (by simp [hv])) ⟨o1, o2, h0 hv⟩
  · exact HT.cat_tup ht hb hv h1 (fun _ => h2) hsz
end
/-- t + u of tuples: a tuple with both's items, all else as it was -/
def rCatA : R2 := fun x y H Q => ∃ a b xs ys, x = .ref a ∧ y = .ref b ∧ H a = some (.tup xs) ∧ H b = some (.tup ys) ∧ xs.length + ys.length ≤ sizeLine ∧ ∀ p H', Same H H' → H' p = some (.tup (xs ++ ys)) → Q (.ref p) H'
section
variable {X : Cx}
theorem op_catA : OpR X (binaryOp .Add) rCatA := by
  intro pins s σ H x y v u Q I rx ry h
  obtain ⟨a, b, xs, ys, rfl, rfl, ha, hb, hz, q⟩ := h
  cases rx
  cases ry
  obtain ⟨i1, r1, p1, _⟩ := I.tuple (SqT.of ha)
  obtain ⟨i2, r2, p2, _⟩ := I.tuple (SqT.of hb)
  refine catAny p1 p2 (fun z => ⟨.ref b, H, I, rfl, q b H (Same.refl H) ?_⟩) (fun z => ⟨.ref a, H, I, rfl, q a H (Same.refl H) ?_⟩) ?_ (by rw [← r1.length, ← r2.length]; exact hz)
  · rw [r1.nil_iff.mp z]; exact hb
  · rw [r2.nil_iff.mp z, List.append_nil]; exact ha
  · have fr : H s.heap.objs.size = none := I.hok.fresh (Nat.le_refl _)
    refine ⟨.ref s.heap.objs.size, _, I.laid (t' := s.toks) (o := .tup (xs ++ ys)) (fun b ob q => Heap.get?_push_of_some _ q) (Nat.le_refl _) ?_, rfl, q _ _ (same_new fr _) upd_same⟩
    exact ⟨by rw [List.length_append]; exact hz, _, r1.append r2, TupP.new _ _⟩
/-! ### all(xs), any(xs) of a list of bools -/
def rAll : List V → Hp → VK → Prop := fun vs H Q => ∃ (a : Addr) (bs : List Bool), vs = [.ref a] ∧ H a = some (.lst (bs.map V.bl)) ∧ Q (.bl (bs.all id)) H
theorem bools_of : ∀ {bs : List Bool} {us : List Value}, Vals (bs.map V.bl) us → us = bs.map Value.bool
  | [], _, .nil => rfl
  | b :: r, _, .cons q t => by rw [show _ = Value.bool b from q, bools_of t]; rfl
theorem range_all (bs : List Bool) : (List.range bs.length).all (fun i => bs.getD i false) = bs.all id := by
  rw [Bool.eq_iff_iff, List.all_eq_true, List.all_eq_true]
  constructor
  · intro h b hb
    obtain ⟨i, hi, e⟩ := List.getElem_of_mem hb
    have := h i (List.mem_range.mpr hi)
    rw [List.getD_eq_getElem?_getD, List.getElem?_eq_getElem hi] at this
    rw [← e]; exact this
  · intro h i hi
    have hi' := List.mem_range.mp hi
    rw [List.getD_eq_getElem?_getD, List.getElem?_eq_getElem hi']
    exact h _ (List.getElem_mem hi')
theorem truth_bools {A : Around} (bs : List Bool) : TruthOf X.prog X.w A (fun i v => (bs.map Value.bool).toArray[i]? = some v) (fun i => bs.getD i false) := fun i v s Q E hP hQ => by
  have h2 : (bs.map Value.bool)[i]? = some v := by simpa using hP
  rw [List.getElem?_map] at h2
  cases e : bs[i]? with
  | none => rw [e] at h2; cases h2
  | some b =>
    rw [e] at h2
    cases h2
    refine wpAny_truthy_bool ?_
    have z : bs.getD i false = b := by rw [List.getD_eq_getElem?_getD, e]; rfl
    have hQ' : Q (bs.getD i false) s := hQ
    rw [z] at hQ'
    exact hQ'
theorem call_allL (hc : X.calm = true) : CallR X (.builtin "all") rAll := by
  intro pins s σ H xs us Q I rs h
  obtain ⟨a, bs, rfl, hl, q⟩ := h
  obtain ⟨u, rfl, ru⟩ := vals1 rs
  cases ru
  obtain ⟨its, rv, p, hz⟩ := I.list (SqL.of hl)
  have e := bools_of rv
  subst e
  obtain ⟨oa, hoa, _⟩ := id p.isList
  have hne : a ≠ s.heap.objs.size := Nat.ne_of_lt (Heap.lt_size hoa)
  refine call_all_walk (wpAny_pyIter_list p.isList ?_)
  refine ⟨s.heap.objs.size, _, _, _, _, _, fun i => bs.getD i false, rfl, Walks.list (A := X.A.in1) (I.ok.hd hc) _ a hne (bs.map Value.bool).toArray, ⟨⟨_, Heap.get?_push_size _ rfl, rfl, rfl⟩, p.isList.at fun o r => Heap.get?_push_of_some _ r⟩, truth_bools bs, fun h' tk hk => ?_⟩
  have en : (List.range (bs.map Value.bool).toArray.size).all (fun i => bs.getD i false) = bs.all id := by
    rw [List.size_toArray, List.length_map]; exact range_all bs
  refine ⟨.bl (bs.all id), H, I.kept (t' := tk) fun b o r => hk b o (fun z => ?_) (Heap.get?_push_of_some _ r), (by rw [en]; exact rfl), q⟩
  have z' : b = s.heap.objs.size := by simpa using z
  exact absurd z' (Nat.ne_of_lt (Heap.lt_size r))
end
end L2
set_option Elab.async false
set_option linter.all false
set_option maxRecDepth 100000
/-! Errors of the program's own over the hand layer: raised, passed on by callers. -/
namespace L2
open PySem PySem.Spec PyProof.Rows
theorem ObjOk.get {P : Program} {w : World} {H : Hp} {h : Heap} {a : Addr} {o : HO} (x : ObjOk P w H h a o) : ∃ ob, h.get? a = some ob := by
  cases o with
  | lst xs => obtain ⟨_, _, _, _, e⟩ := x; exact ⟨_, e⟩
  | tup xs => obtain ⟨_, _, _, o, e, _⟩ := x; exact ⟨_, e⟩
  | dK kvs => obtain ⟨_, _, _, _, o, _, _, e, _⟩ := x; exact ⟨_, e⟩
  | dT kvs => obtain ⟨_, _, _, _, o, _, _, e, _⟩ := x; exact ⟨_, e⟩
  | set S n => obtain ⟨o, _, _, _, e, _⟩ := x; exact ⟨_, e⟩
  | ins C dx fs => obtain ⟨_, _, _, e, _⟩ := x; exact ⟨_, e⟩
  | own y => exact x
  | xd fs => obtain ⟨_, ⟨_, _, _, e, _⟩, _⟩ := x; exact ⟨_, e⟩
  | rng lo hi => obtain ⟨_, _, _, e⟩ := x; exact ⟨_, e⟩
  | frz ob u => obtain ⟨e, _⟩ := x; exact ⟨_, e⟩
  | tbl ps => exact ⟨_, (show h.get? a = some _ from x)⟩
  | met f y => exact ⟨_, (show h.get? a = some _ from x)⟩
  | ext φ => exact x.2.1

/-- an error of the own class C lies behind a call: the object at a flies over the callers' frames; B: all else that stands -/
structure FlyX (P : Program) (w : World) (outer : List Env) (H : Hp) (s : Shared) (a C t : Addr) (H' : Hp) (B : Heap) (s' : Shared) : Prop where
  os : s'.os = s.os
  bare : AllBare s'.gens
  un : Un (frs outer) [] H H' s.heap s'.heap
  hok : HOk P w H' s'.heap
  fly : Heap.FlyingW B outer a (.ref C) (.ref t) s'.heap
  old : ∀ b o, s.heap.get? b = some o → b ∉ frs outer → ∃ ob, B.get? b = some ob
  trk : ∀ b o, H' b = some o → ∃ ob, B.get? b = some ob
def CXr (P : Program) (w : World) : CXT := fun outer H s E e s' => ∃ (a C t : Addr) (H' : Hp) (B : Heap), e = .ref a ∧ FlyX P w outer H s a C t H' B s' ∧ E (.ref C) none H'
/-- where no error is wished none comes -/
theorem passN {P : Program} {w : World} {X : Cx} : Passes (CXr P w) X E0 := fun _ _ _ _ _ _ _ h => let ⟨_, _, _, _, _, _, _, z⟩ := h; False.elim z

/-- from one heap to the next: B stands, the frames change their slots alone -/
theorem fly_step {P : Program} {w : World} {outer : List Env} {H H' : Hp} {h0 h1 h2 B : Heap} (un : Un (frs outer) [] H H' h0 h1) (hok : HOk P w H' h1) (b1 : B.StaysIn h1) (b2 : B.StaysIn h2)
    (old : ∀ b o, h0.get? b = some o → b ∉ frs outer → ∃ ob, B.get? b = some ob) (trk : ∀ b o, H' b = some o → ∃ ob, B.get? b = some ob) (frm : ∀ b ∈ frs outer, ∀ o, h1.get? b = some o → ∃ sl, h2.get? b = some { o with slots := sl }) :
    Un (frs outer) [] H H' h0 h2 ∧ HOk P w H' h2 := by
  have on : ∀ b ob o, B.get? b = some ob → h1.get? b = some o → h2.get? b = some o := fun b ob o q r => by
    have z := b1 b ob q
    rw [r] at z
    cases z
    exact b2 b _ q
  refine ⟨⟨fun b o e n hb hx => ?_, fun b o e n hb hx => ?_, un.free, fun b o e hx => ?_, un.tups, un.frzs, un.tbls⟩, fun b u e => ?_⟩
  · obtain ⟨ob, q⟩ := old b o e hb
    exact on b ob o q (un.keep b o e n hb hx)
  · obtain ⟨sl, q⟩ := un.slot b o e n hb hx
    obtain ⟨sl', r⟩ := frm b hb _ q
    exact ⟨sl', r⟩
  · by_cases hb : b ∈ frs outer
    · obtain ⟨o', q⟩ := un.there b o e hx
      obtain ⟨sl, r⟩ := frm b hb _ q
      exact ⟨_, r⟩
    · obtain ⟨ob, q⟩ := old b o e hb
      exact ⟨_, b2 b ob q⟩
  · refine (hok b u e).stay (fun c v hc q => ?_) (fun _ q => q) fun _ _ q => q
    rcases hc with hc | hc
    · subst hc
      obtain ⟨ob, r⟩ := trk c u e
      exact on c ob v r q
    · obtain ⟨ob, r⟩ := trk c _ hc
      exact on c ob v r q

section
variable {P : Program} {w : World} {K : PySem.W.Frag} {mg : Str → Option Value} {base : Heap} {N : List Str} {qual : Str} {scope : Scope} {f : Addr} {cd : Value} {A : Around} {outer : List Env} {s : Shared} {H : Hp} {E : XK}
/-- an error is made here, and leaves the def -/
theorem leave_made {pins : List (Addr × Obj)} {σ : St} {H1 : Hp} {s1 : Shared} {h' : Heap} {a C : Addr} {vs : List Value} (I : Inv (cxOf (CXr P w) P w K mg base N qual scope f cd A outer s H E) pins σ H1 s1) (hx : Heap.MadeExcOf s1.heap h' a (.ref C) vs)
    (hE : E (.ref C) none H1) : (cxOf (CXr P w) P w K mg base N qual scope f cd A outer s H E).xe (.ref a) { s1 with heap := h' } := by
  have fr : ∀ env ∈ (envOfC qual scope s.heap.objs.size f cd :: outer), ∀ b, env.frame = some b → b ∈ frs (envOfC qual scope s.heap.objs.size f cd :: outer) := fun env he b hb => List.mem_filterMap.mpr ⟨env, he, hb⟩
  have hst : s1.heap.FunFrames base (envOfC qual scope s.heap.objs.size f cd :: outer) := I.stack
  have hout : ∀ b, b ∉ frs outer → b ≠ s.heap.objs.size → b ∉ frs (envOfC qual scope s.heap.objs.size f cd :: outer) := fun b h1 h2 z => by
    rcases List.mem_cons.mp (I.stkSub b z) with q | q
    · exact h2 q
    · exact h1 q
  have B1 : (PySem.W.hideAll s1.heap (frs (envOfC qual scope s.heap.objs.size f cd :: outer))).StaysIn s1.heap := fun b o q => PySem.W.of_hideAll _ q
  have bin : ∀ b o, b ∉ frs (envOfC qual scope s.heap.objs.size f cd :: outer) → s1.heap.get? b = some o → (PySem.W.hideAll s1.heap (frs (envOfC qual scope s.heap.objs.size f cd :: outer))).get? b = some o := fun b o n q => PySem.W.hideAll_get _ q n
  have old : ∀ b o, s.heap.get? b = some o → b ∉ frs outer → ∃ ob, (PySem.W.hideAll s1.heap (frs (envOfC qual scope s.heap.objs.size f cd :: outer))).get? b = some ob := fun b o q n => by
    obtain ⟨o', r⟩ := I.base.there b o q (fun z => nomatch (show b ∈ ([] : List Addr) from z))
    exact ⟨o', bin b o' (hout b n (Nat.ne_of_lt (Heap.lt_size q))) r⟩
  have trk : ∀ b o, H1 b = some o → ∃ ob, (PySem.W.hideAll s1.heap (frs (envOfC qual scope s.heap.objs.size f cd :: outer))).get? b = some ob := fun b o q => by
    obtain ⟨ob, r⟩ := (I.hok b o q).get
    refine ⟨ob, bin b ob (fun z => ?_) r⟩
    rw [I.stkFree b z] at q
    cases q
  refine wpAny_leaves_madeW (base := PySem.W.hideAll s1.heap (frs (envOfC qual scope s.heap.objs.size f cd :: outer))) (L := s.heap.objs.size) I.ok.frames rfl B1 (PySem.W.funFrames_hide hst fr) hx fun h2 t fl tup tn ups => ?_
  have un1 : Un (frs outer) [] H H1 s.heap s1.heap := I.base
  have frm : ∀ b ∈ frs outer, ∀ o, s1.heap.get? b = some o → ∃ sl, h2.get? b = some { o with slots := sl } := fun b hb o q => by
    obtain ⟨_, o', r, nf⟩ := I.funs.mem hb
    rw [q] at r
    cases r
    exact ups b o (hx.keeps b o q) nf
  obtain ⟨un2, hok2⟩ := fly_step un1 I.hok B1 fl.1 old trk frm
  exact ⟨a, C, t, H1, _, rfl, ⟨I.os, I.bare, un2, hok2, fl, old, trk⟩, hE⟩
/-- an error of a callee leaves this def too -/
theorem passR : Passes (CXr P w) (cxOf (CXr P w) P w K mg base N qual scope f cd A outer s H E) E := by
  intro pins σ H1 s1 e s' I h
  obtain ⟨a, C, t, H', B, rfl, F, hE⟩ := h
  have I' : Inv (cxOf (CXr P w) P w K mg base N qual scope f cd A outer s H E) pins σ H' s' := I.call' F.os F.un F.hok F.bare fun b hb => nomatch hb
  have hout : ∀ b, b ∉ frs outer → b ≠ s.heap.objs.size → b ∉ frs (envOfC qual scope s.heap.objs.size f cd :: outer) := fun b h1 h2 z => by
    rcases List.mem_cons.mp (I.stkSub b z) with q | q
    · exact h2 q
    · exact h1 q
  have old : ∀ b o, s.heap.get? b = some o → b ∉ frs outer → ∃ ob, B.get? b = some ob := fun b o q n => by
    obtain ⟨o', r⟩ := I.base.there b o q (fun z => nomatch (show b ∈ ([] : List Addr) from z))
    exact F.old b o' r (hout b n (Nat.ne_of_lt (Heap.lt_size q)))
  refine wpAny_leaves_onW (base := B) (L := s.heap.objs.size) I.ok.frames rfl F.fly fun h2 fl ups => ?_
  have un1 : Un (frs outer) [] H H' s.heap s'.heap := I'.base
  have frm : ∀ b ∈ frs outer, ∀ o, s'.heap.get? b = some o → ∃ sl, h2.get? b = some { o with slots := sl } := fun b hb o q => by
    obtain ⟨_, o', r, nf⟩ := I'.funs.mem hb
    rw [q] at r
    cases r
    exact ups b o q nf
  obtain ⟨un2, hok2⟩ := fly_step un1 I'.hok F.fly.1 fl.1 old F.trk frm
  exact ⟨a, C, t, H', B, rfl, ⟨I'.os, I'.bare, un2, hok2, fl, old, F.trk⟩, hE⟩

/-- an own error class by the looks at the written part -/
theorem own_at {K : PySem.W.Frag} {h : Heap} {mg : Str → Option Value} {x : Str} {C : Addr} {bm : List Value} {newId : String} (X : K.In h) (m : mg x = some (.ref C)) (q : PySem.W.excIn K C bm newId = true) : OwnCls x C bm newId mg h := by
  refine ⟨m, ?_⟩
  unfold PySem.W.excIn at q
  split at q
  · rename_i d1 c1 s1 look
    split at q
    · rename_i C1 b1 e0 e1 e2 e3 n1 e5 mro slots
      simp only [Bool.and_eq_true, beq_iff_eq, Bool.not_eq_true'] at q
      obtain ⟨⟨⟨⟨⟨rfl, rfl⟩, nodel⟩, tail⟩, good⟩, noinit⟩ := q
      obtain ⟨a1, a2, a3, a4, a5, a6, a7, a8, a9, a10, a11⟩ := c1
      dsimp only at mro nodel good noinit
      subst mro nodel
      have es : s1 = #[e0, e1, e2, e3, some (.builtin n1), e5] := by
        obtain ⟨l1⟩ := s1
        simp only at slots
        rw [slots]
      subst es
      exact ⟨b1, a4, a1, a5, a2, a6, a7, a8, a9, a10, d1, e0, e1, e2, e3, e5, _, X _ _ look, .of_isNs (PySem.W.isNs_of_in X good), PySem.W.nsMap_none_of_in X good noinit, PySem.W.tail_of_in X tail⟩
    · cases q
  · cases q
/-- raise C(e), C an own error class -/
theorem ps_raise {x : Str} {C : Addr} {e0 : Expr} {te : TE} {np cpos pos : Pos} {bm : List Value} {Bn newId initId : String} (hm : mg x = some (.ref C)) (hq : PySem.W.excIn K C bm newId = true) (FB : ExcBaseFacts Bn newId initId bm) (hd : (A.deeper (envOfC qual scope s.heap.objs.size f cd)).handled = none)
    (he : PE (cxOf (CXr P w) P w K mg base N qual scope f cd A outer s H E) e0 te) (hg : Gl (cxOf (CXr P w) P w K mg base N qual scope f cd A outer s H E) x) (hdb : (x == ("__debug__" : Str)) = false := by decide)
    (hs : starEach [e0] (envOfC qual scope s.heap.objs.size f cd) = (false, eval e0 (envOfC qual scope s.heap.objs.size f cd)) :: [] := by rfl) :
    PS (cxOf (CXr P w) P w K mg base N qual scope f cd A outer s H E) (.Raise (some (.Call (.Name x np) [e0] [] cpos)) none pos) (fun _ σ H0 => tCons te tNil σ H0 fun xs H1 => xs.length ≤ sizeLine ∧ E (.ref C) none H1) := by
  intro pins s1 σ H1 D I h
  have O : OwnCls x C bm newId mg base := own_at I.mod.kin hm hq
  obtain ⟨tl, Nn, nm, q, bs, hdct, sn, sub, ab, col, dd, k0, k1, k2, k3, k5, mN, hC, hN, hni, T⟩ := O.obj
  refine wpAny_Raise_call_subT (C := C) (nm := nm) (q := q) (N := Nn) (bs := bs) (bm := tl) (hdct := hdct) (sn := sn) (sub := sub) (ab := ab) (col := col) (dd := dd) (k0 := k0) (k1 := k1) (k2 := k2) (k3 := k3) (k5 := k5)
    FB (mN := mN) (T.hasType FB.hasBase) hd (by show (backTo cpos (starEach [e0] (envOfC qual scope s.heap.objs.size f cd))).any (·.1) = false; rw [hs]; rfl) hni (ld_glob I hg O.bound ⟨rfl, ?_⟩ hdb)
  have pa : PA (cxOf (CXr P w) P w K mg base N qual scope f cd A outer s H E) [e0] (tCons te tNil) := pa_cons he pa_nil hs
  have z := pa cpos pins s1 σ H1 (fun xs H2 => xs.length ≤ sizeLine ∧ E (.ref C) none H2) I h
  show wpAny _ _ (evalArgs (.ref C) true (backTo cpos (starEach [e0] (envOfC qual scope s.heap.objs.size f cd))) []) _ _ _
  rw [hs]
  rw [show (cxOf (CXr P w) P w K mg base N qual scope f cd A outer s H E).env = envOfC qual scope s.heap.objs.size f cd from rfl, hs] at z
  refine Calls.evalArgs_plain (wpAny_mono z (fun vs s2 h2 => ?_) fun _ _ y => y)
  obtain ⟨xs, H2, I2, rv, ql, qE⟩ := h2
  have hlen : vs.length ≤ sizeLine := by rw [← rv.length]; exact ql
  exact ⟨rfl, hlen, I2.bk _ _ hC, hN.keeps I2.bk, T.keeps I2.bk, fun h' e hm => leave_made I2 hm qE⟩
end

/-! ### a def whose errors pass on, by its body -/
section
variable {P : Program} {w : World} {K : PySem.W.Frag} {mg : Str → Option Value} {base : Heap}
theorem Fun.okR {x qual : Str} {st : Stmt} {f : Addr} {fd : FuncData} {N ps : List Str} {k : Nat} {sp : Sp} (F : Fun K x qual st f fd) (S : FnScope N ps (defScope st)) (len : ∀ vs H Q E, sp vs H Q E → vs.length = ps.length)
    (hbody : ∀ (cdv : Value) (A : Around) (outer : List Env) (s : Shared) (H : Hp) (vs : List V) (Q : VK) (E : XK), Room k (A.deeper (envOfC qual (defScope st) s.heap.objs.size f cdv)) → sp vs H Q E →
      ∃ t, PSs (cxOf (CXr P w) P w K mg base N qual (defScope st) f cdv A outer s H E) (defBody st) t ∧ t { nx := fun _ H' => Q .non H', rt := Q } (start N vs) H) : FnOk P w K mg base (CXr P w) (k + 1) f fd ps sp := by
  obtain ⟨oc, od, kV, doc, pm, an, cdv, ct, osl, rfl, lk, hcd⟩ := F.ex
  refine fn_of lk hcd S len fun A outer s H vs Q E hr hsp => ?_
  obtain ⟨t, h, q⟩ := hbody cdv A outer s H vs Q E hr hsp
  exact ⟨t, h, q⟩
/-- .. for a def that no error leaves -/
theorem Fun.okN {x qual : Str} {st : Stmt} {f : Addr} {fd : FuncData} {N ps : List Str} {k : Nat} {sp : Sp} (F : Fun K x qual st f fd) (S : FnScope N ps (defScope st)) (len : ∀ vs H Q E, sp vs H Q E → vs.length = ps.length)
    (hbody : ∀ (cdv : Value) (A : Around) (outer : List Env) (s : Shared) (H : Hp) (vs : List V) (Q : VK) (E : XK), Room k (A.deeper (envOfC qual (defScope st) s.heap.objs.size f cdv)) → sp vs H Q E →
      ∃ t, PSs (cxOf (CXr P w) P w K mg base N qual (defScope st) f cdv A outer s H E).nox (defBody st) t ∧ t { nx := fun _ H' => Q .non H', rt := Q } (start N vs) H) : FnOk P w K mg base (CXr P w) (k + 1) f fd ps sp :=
  F.okR S len fun cdv A outer s H vs Q E hr h => let ⟨t, ht, q⟩ := hbody cdv A outer s H vs Q E hr h; ⟨t, ht.nox, q⟩
end
end L2
set_option Elab.async false
set_option linter.all false
set_option maxRecDepth 100000
namespace L2
open PySem PySem.Spec PyProof.Rows
/-! ### Python's own names -/
theorem bt_len : bootBuiltins "len" = some (.builtin "len") := by decide +kernel
theorem bt_isinstance : bootBuiltins "isinstance" = some (.builtin "isinstance") := by decide +kernel
theorem bt_min : bootBuiltins "min" = some (.builtin "min") := by decide +kernel
theorem bt_max : bootBuiltins "max" = some (.builtin "max") := by decide +kernel
theorem bt_all : bootBuiltins "all" = some (.builtin "all") := by decide +kernel
theorem bt_sum : bootBuiltins "sum" = some (.builtin "sum") := by decide +kernel
theorem bt_int : bootBuiltins "int" = some (.type "int") := by decide +kernel
theorem bt_bool : bootBuiltins "bool" = some (.type "bool") := by decide +kernel
theorem bt_list : bootBuiltins "list" = some (.type "list") := by decide +kernel
theorem bt_tuple : bootBuiltins "tuple" = some (.type "tuple") := by decide +kernel
/-! ### rules within a block: the written part said once -/
section
variable {X : Cx} (K : PySem.W.Frag)
theorem b_op_notIn_seq (h : X.K = K := by rfl) : OpR X (compareOp .NotIn) (rIn K true) := h ▸ op_notIn_seq
theorem b_ix_list (h : X.K = K := by rfl) : IxR X (rIxL K) := h ▸ ix_list
theorem b_ix_tup (h : X.K = K := by rfl) : IxR X (rIxT K) := h ▸ ix_tup
end
/-! ### a def of the text -/
structure DefAt (K : PySem.W.Frag) (mg : Str → Option Value) (x : Str) (st : Stmt) (ps : List Str) where
  a : Addr
  d : FuncData
  F : Fun K x x st a d
  b : Binds K d ps []
  m : mg x = some (.ref a)
structure ErrAt (K : PySem.W.Frag) (mg : Str → Option Value) (x : Str) where
  C : Addr
  m : mg x = some (.ref C)
  q : PySem.W.excIn K C [.type "ValueError", .type "Exception", .type "BaseException", .type "object"] "ValueError.__new__" = true
/-! ### the script, the town: a list that grows by 0 with each draw -/
def Scr (K : PySem.W.Frag) (H : Hp) (a : Addr) (ns : List Int) : Prop :=
  (∃ o, H a = some (.frz o (.lst (ns.map V.int)))) ∨
    ∃ (o : Obj) (its : Array Value) (n : Nat), K.lookup a = some o ∧ o.cls = .type "list" ∧ o.dict = none ∧ o.data = .seq its n ∧ its.size ≤ sizeLine ∧ Vals (ns.map V.int) its.toList
theorem Scr.sq {K : PySem.W.Frag} {H : Hp} {a : Addr} {ns : List Int} (h : Scr K H a ns) : SqL K H a (ns.map V.int) := h.elim (fun ⟨o, e⟩ => .inl (.inr ⟨o, e⟩)) .inr
theorem Scr.same {K : PySem.W.Frag} {H H' : Hp} {a : Addr} {ns : List Int} (h : Scr K H a ns) (e : Same H H') : Scr K H' a ns := h.elim (fun ⟨o, q⟩ => .inl ⟨o, e _ _ q⟩) .inr
theorem Scr.of {K : PySem.W.Frag} {H : Hp} {a : Addr} {ns : List Int} (h : SqL K H a (ns.map V.int)) (o : Only H) : Scr K H a ns := by
  rcases h with (h | ⟨ob, h⟩) | h
  · rcases o a with z | ⟨_, _, z⟩
    · rw [z] at h; cases h
    · rw [z] at h; cases h
  · exact .inl ⟨ob, h⟩
  · exact .inr h
def zeros (n : Nat) : List V := List.replicate n (.int 0)
theorem zeros_succ (n : Nat) : zeros n ++ [.int 0] = zeros (n + 1) := by unfold zeros; rw [List.replicate_succ']
theorem zeros_len (n : Nat) : (zeros n).length = n := List.length_replicate
/-- all but t is as it was -/
def SameX (t : Addr) (H H' : Hp) : Prop := ∀ b o, b ≠ t → H b = some o → H' b = some o
theorem SameX.refl (t : Addr) (H : Hp) : SameX t H H := fun _ _ _ h => h
theorem SameX.trans {t : Addr} {H H1 H2 : Hp} (a : SameX t H H1) (b : SameX t H1 H2) : SameX t H H2 := fun c o n h => b c o n (a c o n h)
theorem Same.x {H H' : Hp} (e : Same H H') (t : Addr) : SameX t H H' := fun b o _ h => e b o h
theorem SameX.write {t : Addr} {H H' : Hp} (e : SameX t H H') (o : HO) : SameX t H (upd H' t o) := fun b u n h => by rw [upd_ne n]; exact e b u n h
theorem SameX.new {t p : Addr} {H H' : Hp} (e : SameX t H H') (hp : H' p = none) (o : HO) : SameX t H (upd H' p o) := fun b u n h => by
  have q := e b u n h
  rw [upd_ne (ne_of_none q hp)]; exact q
theorem SameX.ts {t : Addr} {H H' : Hp} (e : SameX t H H') {xs : List V} (h : H t = some (.lst xs)) : TSame H H' := fun b ys q => e b _ (ne_of q h (by intro z; cases z)) q
theorem SameX.scr {K : PySem.W.Frag} {t a : Addr} {H H' : Hp} {ns : List Int} (e : SameX t H H') {xs : List V} (h : H t = some (.lst xs)) (s : Scr K H a ns) : Scr K H' a ns := s.elim (fun ⟨o, q⟩ => .inl ⟨o, e _ _ (ne_of q h (by intro z; cases z)) q⟩) .inr
/-! ### a list of ints == [] -/
def rEqNil (K : PySem.W.Frag) : R2 := fun x y H Q => ∃ a b xs, x = .ref a ∧ y = .ref b ∧ SqL K H a xs ∧ SqL K H b [] ∧ Q (.bl (decide (xs = []))) H
theorem op_eqNil {X : Cx} (hu : X.A.units < cLine) : OpR X (compareOp .Eq) (rEqNil X.K) := by
  intro pins s σ H x y v u Q I rx ry h
  obtain ⟨a, b, xs, rfl, rfl, ha, hb, q⟩ := h
  cases rx
  cases ry
  obtain ⟨i1, r1, p1, _⟩ := I.list ha
  obtain ⟨i2, r2, p2, _⟩ := I.list hb
  have e2 : i2 = [] := by cases r2; rfl
  subst e2
  by_cases hx : xs = []
  · subst hx
    have e1 : i1 = [] := by cases r1; rfl
    subst e1
    refine SeqAt.eq_listAt (e := fun _ => true) p1.isList p2.isList rfl hu (fun j h1 _ => absurd h1 (by simp)) ⟨.bl true, H, I, rfl, ?_⟩
    exact q
  · refine SeqAt.eq_list_lengthsAt p1.isList p2.isList ?_ hu ⟨.bl false, H, I, rfl, ?_⟩
    · have := r1.length
      have hx' : xs.length ≠ 0 := fun z => hx (List.length_eq_zero_iff.mp z)
      have h1 : i1 ≠ [] := fun z => hx' (by rw [this, z]; rfl)
      simpa using h1
    · rw [decide_eq_false hx] at q
      exact q
end L2
set_option Elab.async false
set_option linter.all false
set_option maxRecDepth 100000
namespace L2
open PySem
end L2
namespace Be
open PySem L2
def top (i : Nat) : Stmt := PySem.Challenge.pw_benchends_k04_whole_by_lengths.main.body.getD i (.Pass ⟨0, 0, 0, 0⟩)
set_option genInjectivity false in
structure Txt (K : PySem.W.Frag) (mg : Str → Option Value) where
  is_whole_within : DefAt K mg "is_whole_within" (top 10) ["thing", "least", "most"]
  is_pair : DefAt K mg "is_pair" (top 11) ["thing"]
  are_bounds_of_work : DefAt K mg "are_bounds_of_work" (top 12) ["thing"]
  are_bounds : DefAt K mg "are_bounds" (top 13) ["thing"]
  is_world : DefAt K mg "is_world" (top 14) ["thing"]
  check_world : DefAt K mg "check_world" (top 15) ["world"]
  is_order : DefAt K mg "is_order" (top 16) ["world", "thing"]
  check_order : DefAt K mg "check_order" (top 17) ["world", "order"]
  how_many_benches : DefAt K mg "how_many_benches" (top 18) ["world"]
  how_many_works : DefAt K mg "how_many_works" (top 19) ["world"]
  least_length : DefAt K mg "least_length" (top 20) ["world", "work"]
  greatest_length : DefAt K mg "greatest_length" (top 21) ["world", "work"]
  how_many_began : DefAt K mg "how_many_began" (top 22) ["world", "ends"]
  running : DefAt K mg "running" (top 23) ["world", "order"]
  begin_event : DefAt K mg "begin_event" (top 24) ["world", "work"]
  rules_of_ended : DefAt K mg "rules_of_ended" (top 26) ["world", "work", "end"]
  rule_of_running : DefAt K mg "rule_of_running" (top 27) ["world", "work", "last"]
  rules : DefAt K mg "rules" (top 28) ["world", "order"]
  holds : DefAt K mg "holds" (top 29) ["rule", "event_moments"]
  walk_most : DefAt K mg "walk_most" (top 30) ["told", "walk"]
  shorten_walks : DefAt K mg "shorten_walks" (top 31) ["told", "mosts", "firsts"]
  shortest_walks : DefAt K mg "shortest_walks" (top 32) ["told", "events", "goal"]
  walk_by_firsts : DefAt K mg "walk_by_firsts" (top 33) ["told", "firsts", "start", "goal"]
  earliest_moments : DefAt K mg "earliest_moments" (top 35) ["told", "events"]
  could : DefAt K mg "could" (top 36) ["world", "order"]
  check_could : DefAt K mg "check_could" (top 37) ["world", "order"]
  check_work : DefAt K mg "check_work" (top 39) ["world", "order", "work"]
  chain_start : DefAt K mg "chain_start" (top 40) ["world", "order", "work", "side"]
  chain_goal : DefAt K mg "chain_goal" (top 41) ["world", "order", "work", "side"]
  shortest_chain : DefAt K mg "shortest_chain" (top 42) ["world", "order", "work", "side"]
  length : DefAt K mg "length" (top 43) ["world", "order", "work"]
  law_cell_at : DefAt K mg "_law_cell_at" (top 45) ["_law_script", "_law_k"]
  law_mixed : DefAt K mg "_law_mixed" (top 46) ["_law_script", "_law_k", "_law_many"]
  law_draw : DefAt K mg "_law_draw" (top 47) ["_law_script", "_law_town", "_law_many"]
  law_pick : DefAt K mg "_law_pick" (top 48) ["_law_script", "_law_town", "_law_some"]
  law_world : DefAt K mg "_law_world" (top 49) ["_law_script", "_law_town", "_law_most", "_law_wide"]
  law_running : DefAt K mg "_law_running" (top 50) ["_law_world_here", "_law_order_here"]
  law_order : DefAt K mg "_law_order" (top 51) ["_law_script", "_law_town", "_law_world_here"]
  law_begin : DefAt K mg "_law_begin" (top 52) ["_law_world_here", "_law_work"]
  law_told : DefAt K mg "_law_told" (top 53) ["_law_world_here", "_law_order_here", "_law_longs"]
  law : DefAt K mg "law" (top 54) ["_law_script"]
  n_all : mg "all" = none
  n_bool : mg "bool" = none
  n_enumerate : mg "enumerate" = none
  n_int : mg "int" = none
  n_isinstance : mg "isinstance" = none
  n_len : mg "len" = none
  n_list : mg "list" = none
  n_max : mg "max" = none
  n_min : mg "min" = none
  n_range : mg "range" = none
  n_set : mg "set" = none
  n_sorted : mg "sorted" = none
  n_sum : mg "sum" = none
  n_tuple : mg "tuple" = none
  c_MOST_BENCHES : ∃ t, mg "MOST_BENCHES" = some (.int 4 t)
  c_MOST_WORKS : ∃ t, mg "MOST_WORKS" = some (.int 10 t)
  c_MOST_LENGTH : ∃ t, mg "MOST_LENGTH" = some (.int 99 t)
  e_NoWorld : ErrAt K mg "NoWorld"
  e_NoOrder : ErrAt K mg "NoOrder"
  e_NoWork : ErrAt K mg "NoWork"
  e_Never : ErrAt K mg "Never"
theorem sc_is_whole_within : FnScope ["thing", "least", "most"] ["thing", "least", "most"] (defScope (top 10)) := ⟨rfl, rfl, rfl, by decide +kernel, rfl, by decide +kernel, by decide +kernel⟩
theorem sc_is_pair : FnScope ["thing"] ["thing"] (defScope (top 11)) := ⟨rfl, rfl, rfl, by decide +kernel, rfl, by decide +kernel, by decide +kernel⟩
theorem sc_are_bounds_of_work : FnScope ["thing"] ["thing"] (defScope (top 12)) := ⟨rfl, rfl, rfl, by decide +kernel, rfl, by decide +kernel, by decide +kernel⟩
theorem sc_are_bounds : FnScope ["thing"] ["thing"] (defScope (top 13)) := ⟨rfl, rfl, rfl, by decide +kernel, rfl, by decide +kernel, by decide +kernel⟩
theorem sc_is_world : FnScope ["thing"] ["thing"] (defScope (top 14)) := ⟨rfl, rfl, rfl, by decide +kernel, rfl, by decide +kernel, by decide +kernel⟩
theorem sc_check_world : FnScope ["world"] ["world"] (defScope (top 15)) := ⟨rfl, rfl, rfl, by decide +kernel, rfl, by decide +kernel, by decide +kernel⟩
theorem sc_is_order : FnScope ["world", "thing", "ended", "ahead", "work"] ["world", "thing"] (defScope (top 16)) := ⟨rfl, rfl, rfl, by decide +kernel, rfl, by decide +kernel, by decide +kernel⟩
theorem sc_check_order : FnScope ["world", "order"] ["world", "order"] (defScope (top 17)) := ⟨rfl, rfl, rfl, by decide +kernel, rfl, by decide +kernel, by decide +kernel⟩
theorem sc_how_many_benches : FnScope ["world"] ["world"] (defScope (top 18)) := ⟨rfl, rfl, rfl, by decide +kernel, rfl, by decide +kernel, by decide +kernel⟩
theorem sc_how_many_works : FnScope ["world"] ["world"] (defScope (top 19)) := ⟨rfl, rfl, rfl, by decide +kernel, rfl, by decide +kernel, by decide +kernel⟩
theorem sc_least_length : FnScope ["world", "work"] ["world", "work"] (defScope (top 20)) := ⟨rfl, rfl, rfl, by decide +kernel, rfl, by decide +kernel, by decide +kernel⟩
theorem sc_greatest_length : FnScope ["world", "work"] ["world", "work"] (defScope (top 21)) := ⟨rfl, rfl, rfl, by decide +kernel, rfl, by decide +kernel, by decide +kernel⟩
theorem sc_how_many_began : FnScope ["world", "ends"] ["world", "ends"] (defScope (top 22)) := ⟨rfl, rfl, rfl, by decide +kernel, rfl, by decide +kernel, by decide +kernel⟩
theorem sc_running : FnScope ["world", "order"] ["world", "order"] (defScope (top 23)) := ⟨rfl, rfl, rfl, by decide +kernel, rfl, by decide +kernel, by decide +kernel⟩
theorem sc_begin_event : FnScope ["world", "work"] ["world", "work"] (defScope (top 24)) := ⟨rfl, rfl, rfl, by decide +kernel, rfl, by decide +kernel, by decide +kernel⟩
theorem sc_rules_of_ended : FnScope ["world", "work", "end", "begin"] ["world", "work", "end"] (defScope (top 26)) := ⟨rfl, rfl, rfl, by decide +kernel, rfl, by decide +kernel, by decide +kernel⟩
theorem sc_rule_of_running : FnScope ["world", "work", "last"] ["world", "work", "last"] (defScope (top 27)) := ⟨rfl, rfl, rfl, by decide +kernel, rfl, by decide +kernel, by decide +kernel⟩
theorem sc_rules : FnScope ["world", "order", "told", "ahead", "work"] ["world", "order"] (defScope (top 28)) := ⟨rfl, rfl, rfl, by decide +kernel, rfl, by decide +kernel, by decide +kernel⟩
theorem sc_holds : FnScope ["rule", "event_moments"] ["rule", "event_moments"] (defScope (top 29)) := ⟨rfl, rfl, rfl, by decide +kernel, rfl, by decide +kernel, by decide +kernel⟩
theorem sc_walk_most : FnScope ["told", "walk"] ["told", "walk"] (defScope (top 30)) := ⟨rfl, rfl, rfl, by decide +kernel, rfl, by decide +kernel, by decide +kernel⟩
theorem sc_shorten_walks : FnScope ["told", "mosts", "firsts", "place", "rule", "onward"] ["told", "mosts", "firsts"] (defScope (top 31)) := ⟨rfl, rfl, rfl, by decide +kernel, rfl, by decide +kernel, by decide +kernel⟩
theorem sc_shortest_walks : FnScope ["told", "events", "goal", "mosts", "firsts", "event"] ["told", "events", "goal"] (defScope (top 32)) := ⟨rfl, rfl, rfl, by decide +kernel, rfl, by decide +kernel, by decide +kernel⟩
theorem sc_walk_by_firsts : FnScope ["told", "firsts", "start", "goal", "found", "event"] ["told", "firsts", "start", "goal"] (defScope (top 33)) := ⟨rfl, rfl, rfl, by decide +kernel, rfl, by decide +kernel, by decide +kernel⟩
theorem sc_earliest_moments : FnScope ["told", "events"] ["told", "events"] (defScope (top 35)) := ⟨rfl, rfl, rfl, by decide +kernel, rfl, by decide +kernel, by decide +kernel⟩
theorem sc_could : FnScope ["world", "order", "told", "earliest"] ["world", "order"] (defScope (top 36)) := ⟨rfl, rfl, rfl, by decide +kernel, rfl, by decide +kernel, by decide +kernel⟩
theorem sc_check_could : FnScope ["world", "order"] ["world", "order"] (defScope (top 37)) := ⟨rfl, rfl, rfl, by decide +kernel, rfl, by decide +kernel, by decide +kernel⟩
theorem sc_check_work : FnScope ["world", "order", "work"] ["world", "order", "work"] (defScope (top 39)) := ⟨rfl, rfl, rfl, by decide +kernel, rfl, by decide +kernel, by decide +kernel⟩
theorem sc_chain_start : FnScope ["world", "order", "work", "side"] ["world", "order", "work", "side"] (defScope (top 40)) := ⟨rfl, rfl, rfl, by decide +kernel, rfl, by decide +kernel, by decide +kernel⟩
theorem sc_chain_goal : FnScope ["world", "order", "work", "side"] ["world", "order", "work", "side"] (defScope (top 41)) := ⟨rfl, rfl, rfl, by decide +kernel, rfl, by decide +kernel, by decide +kernel⟩
theorem sc_shortest_chain : FnScope ["world", "order", "work", "side", "told", "start", "goal", "firsts"] ["world", "order", "work", "side"] (defScope (top 42)) := ⟨rfl, rfl, rfl, by decide +kernel, rfl, by decide +kernel, by decide +kernel⟩
theorem sc_length : FnScope ["world", "order", "work", "told", "least", "most"] ["world", "order", "work"] (defScope (top 43)) := ⟨rfl, rfl, rfl, by decide +kernel, rfl, by decide +kernel, by decide +kernel⟩
theorem sc_law_cell_at : FnScope ["_law_script", "_law_k"] ["_law_script", "_law_k"] (defScope (top 45)) := ⟨rfl, rfl, rfl, by decide +kernel, rfl, by decide +kernel, by decide +kernel⟩
theorem sc_law_mixed : FnScope ["_law_script", "_law_k", "_law_many", "_law_drawn"] ["_law_script", "_law_k", "_law_many"] (defScope (top 46)) := ⟨rfl, rfl, rfl, by decide +kernel, rfl, by decide +kernel, by decide +kernel⟩
theorem sc_law_draw : FnScope ["_law_script", "_law_town", "_law_many"] ["_law_script", "_law_town", "_law_many"] (defScope (top 47)) := ⟨rfl, rfl, rfl, by decide +kernel, rfl, by decide +kernel, by decide +kernel⟩
theorem sc_law_pick : FnScope ["_law_script", "_law_town", "_law_some"] ["_law_script", "_law_town", "_law_some"] (defScope (top 48)) := ⟨rfl, rfl, rfl, by decide +kernel, rfl, by decide +kernel, by decide +kernel⟩
theorem sc_law_world : FnScope ["_law_script", "_law_town", "_law_most", "_law_wide", "_law_many", "_law_bounds", "_law_k", "_law_low"] ["_law_script", "_law_town", "_law_most", "_law_wide"] (defScope (top 49)) := ⟨rfl, rfl, rfl, by decide +kernel, rfl, by decide +kernel, by decide +kernel⟩
theorem sc_law_running : FnScope ["_law_world_here", "_law_order_here"] ["_law_world_here", "_law_order_here"] (defScope (top 50)) := ⟨rfl, rfl, rfl, by decide +kernel, rfl, by decide +kernel, by decide +kernel⟩
theorem sc_law_order : FnScope ["_law_script", "_law_town", "_law_world_here", "_law_order_here", "_law_k"] ["_law_script", "_law_town", "_law_world_here"] (defScope (top 51)) := ⟨rfl, rfl, rfl, by decide +kernel, rfl, by decide +kernel, by decide +kernel⟩
theorem sc_law_begin : FnScope ["_law_world_here", "_law_work"] ["_law_world_here", "_law_work"] (defScope (top 52)) := ⟨rfl, rfl, rfl, by decide +kernel, rfl, by decide +kernel, by decide +kernel⟩
theorem sc_law_told : FnScope ["_law_world_here", "_law_order_here", "_law_longs", "_law_row", "_law_event", "_law_work"] ["_law_world_here", "_law_order_here", "_law_longs"] (defScope (top 53)) := ⟨rfl, rfl, rfl, by decide +kernel, rfl, by decide +kernel, by decide +kernel⟩
theorem sc_law : FnScope ["_law_script", "_law_town", "_law_world_here", "_law_order_here", "_law_rows", "_law_low", "_law_high", "_law_longer", "_law_row", "_law_good", "_law_work", "_law_least", "_law_most"] ["_law_script"] (defScope (top 54)) := ⟨rfl, rfl, rfl, by decide +kernel, rfl, by decide +kernel, by decide +kernel⟩

end Be
set_option Elab.async false
set_option linter.all false
/-! The mathematics of worlds, orders, rules: plain Lean. -/
namespace Be
structure Wd where
  b : Int
  bs : List (Int × Int)
structure Wd.Ok (W : Wd) : Prop where
  b1 : 1 ≤ W.b
  b4 : W.b ≤ 4
  l1 : 1 ≤ W.bs.length
  l10 : W.bs.length ≤ 10
  bd : ∀ p ∈ W.bs, 1 ≤ p.1 ∧ p.1 ≤ p.2 ∧ p.2 ≤ 99
/-- how many works have begun behind n ends -/
def began (W : Wd) (n : Nat) : Nat := (min (W.bs.length : Int) (n + W.b)).toNat
def upto (n : Nat) : List Int := (List.range n).map fun (k : Nat) => (k : Int)
/-- the works that run -/
def runM (W : Wd) (o : List Int) : List Int := (upto (began W o.length)).filter fun x => decide (x ∉ o)
def bnd (W : Wd) (x : Int) : Int × Int := W.bs.getD x.toNat (0, 0)
/-- the event with which a work begins -/
def bg (W : Wd) (x : Int) : Int := if x < W.b then 0 else x - W.b + 1
abbrev Ru := Int × Int × Int
def rule3 (W : Wd) (j : Nat) (x : Int) : List Ru := [((j : Int) + 1, bg W x, (bnd W x).2), (bg W x, (j : Int) + 1, -(bnd W x).1), ((j : Int), (j : Int) + 1, 0)]
def rulesPre (W : Wd) (o : List Int) (i : Nat) : List Ru := (List.range i).flatMap fun j => rule3 W j (o.getD j 0)
def ruleR (W : Wd) (n : Nat) (x : Int) : Ru := ((n : Int), bg W x, (bnd W x).2)
def rulesM (W : Wd) (o : List Int) : List Ru := rulesPre W o o.length ++ (runM W o).map (ruleR W o.length)
/-- an order of the world -/
structure VO (W : Wd) (o : List Int) : Prop where
  nd : o.Nodup
  at_ : ∀ (i : Nat) (x : Int), o[i]? = some x → 0 ≤ x ∧ x < (began W i : Int)
theorem upto_succ (n : Nat) : upto (n + 1) = upto n ++ [(n : Int)] := by unfold upto; rw [List.range_succ, List.map_append]; rfl
theorem mem_upto {n : Nat} {x : Int} : x ∈ upto n ↔ 0 ≤ x ∧ x < (n : Int) := by
  unfold upto
  rw [List.mem_map]
  constructor
  · rintro ⟨k, hk, rfl⟩
    have := List.mem_range.mp hk
    omega
  · rintro ⟨h1, h2⟩
    exact ⟨x.toNat, List.mem_range.mpr (by omega), by omega⟩
theorem upto_len (n : Nat) : (upto n).length = n := by unfold upto; rw [List.length_map, List.length_range]
theorem upto_nodup : ∀ n : Nat, (upto n).Nodup
  | 0 => List.nodup_nil
  | n + 1 => by
    rw [upto_succ, List.nodup_append]
    refine ⟨upto_nodup n, by simp, fun a ha b hb e => ?_⟩
    have h1 := mem_upto.mp ha
    have h2 := List.mem_singleton.mp hb
    omega
theorem nodup_le : ∀ {l1 l2 : List Int}, l1.Nodup → (∀ x ∈ l1, x ∈ l2) → l1.length ≤ l2.length
  | [], _, _, _ => Nat.zero_le _
  | a :: r, l2, h, s => by
    have ha : a ∈ l2 := s a List.mem_cons_self
    have hn := List.nodup_cons.mp h
    have ih := nodup_le (l1 := r) (l2 := l2.erase a) hn.2 fun x hx => by
      have hne : x ≠ a := fun e => hn.1 (e ▸ hx)
      exact (List.mem_erase_of_ne hne).mpr (s x (List.mem_cons_of_mem _ hx))
    rw [List.length_erase_of_mem ha] at ih
    have : 0 < l2.length := List.length_pos_of_mem ha
    rw [List.length_cons]
    omega
theorem began_le (W : Wd) (n : Nat) : began W n ≤ W.bs.length := by unfold began; omega
theorem mem_run {W : Wd} {o : List Int} {x : Int} : x ∈ runM W o ↔ (0 ≤ x ∧ x < (began W o.length : Int)) ∧ x ∉ o := by
  unfold runM
  rw [List.mem_filter, mem_upto, decide_eq_true_iff]
theorem run_ne {W : Wd} {o : List Int} (hW : W.Ok) (h : o.length < W.bs.length) : runM W o ≠ [] := fun e => by
  have sub : ∀ x ∈ upto (began W o.length), x ∈ o := fun x hx => by
    by_cases hm : x ∈ o
    · exact hm
    · have : x ∈ runM W o := mem_run.mpr ⟨mem_upto.mp hx, hm⟩
      rw [e] at this
      cases this
  have l := nodup_le (upto_nodup _) sub
  rw [upto_len] at l
  have b1 := hW.b1
  unfold began at l
  omega
theorem run_len (W : Wd) (o : List Int) : (runM W o).length ≤ W.bs.length := by
  unfold runM
  refine Nat.le_trans (List.length_filter_le _ _) ?_
  rw [upto_len]
  exact began_le W _
theorem VO.nil (W : Wd) : VO W [] := ⟨List.nodup_nil, fun i x e => by simp at e⟩
theorem VO.snoc {W : Wd} {o : List Int} {x : Int} (h : VO W o) (hx : x ∈ runM W o) : VO W (o ++ [x]) := by
  obtain ⟨⟨a, b⟩, c⟩ := mem_run.mp hx
  refine ⟨?_, fun i y e => ?_⟩
  · rw [List.nodup_append]
    refine ⟨h.nd, by simp, fun p hp r hr z => ?_⟩
    have := List.mem_singleton.mp hr
    subst this
    exact c (z ▸ hp)
  · by_cases hi : i < o.length
    · rw [List.getElem?_append_left hi] at e
      exact h.at_ i y e
    · have hi' : i = o.length := by
        have := (List.getElem?_eq_some_iff.mp e).1
        rw [List.length_append, List.length_singleton] at this
        omega
      subst hi'
      rw [List.getElem?_append_right (Nat.le_refl _), Nat.sub_self] at e
      cases e
      exact ⟨a, b⟩
theorem VO.lt {W : Wd} {o : List Int} (h : VO W o) {x : Int} (hx : x ∈ o) : 0 ≤ x ∧ x < (W.bs.length : Int) := by
  obtain ⟨i, hi, e⟩ := List.getElem_of_mem hx
  have := h.at_ i x (by rw [List.getElem?_eq_getElem hi, e])
  have := began_le W i
  omega
theorem VO.len {W : Wd} {o : List Int} (h : VO W o) : o.length ≤ W.bs.length := by
  have := nodup_le (l2 := upto W.bs.length) h.nd fun x hx => mem_upto.mpr (h.lt hx)
  rwa [upto_len] at this
theorem rulesPre_succ (W : Wd) (o : List Int) (i : Nat) : rulesPre W o (i + 1) = rulesPre W o i ++ rule3 W i (o.getD i 0) := by
  unfold rulesPre
  rw [List.range_succ, List.flatMap_append]
  simp
theorem rulesPre_len (W : Wd) (o : List Int) : ∀ i : Nat, (rulesPre W o i).length = 3 * i
  | 0 => rfl
  | i + 1 => by
    rw [rulesPre_succ, List.length_append, rulesPre_len W o i]
    show 3 * i + 3 = 3 * (i + 1)
    omega
end Be
set_option Elab.async false
set_option linter.all false
set_option maxRecDepth 100000
/-! zip(a list, a list): walked by a pair of names, over the hand layer. -/
namespace L2
open PySem PySem.Spec PyProof.Rows
section
variable {X : Cx} {pins : List (Addr × Obj)} {σ : St} {H : Hp} {s : Shared} {h' : Heap}
end
section
variable {X : Cx} {es : List Expr} {ek : Nat} {tpos : Pos}
theorem comp_listR {g : TG} {tt : TT} {te : TE} {τ : St} {D : Addr} {H1 : Hp} {R : Hp → Prop} {K : PySem.W.Frag} {a : Addr} {xs : List V} (Pv : Nat → List V → Hp → Prop) (h0 : Pv 0 [] (upd H1 D (.lst []))) (hl : ∀ i ys H, i ≤ xs.length → Pv i ys H → SqL K H a xs)
    (hs : ∀ i ys x H, xs[i]? = some x → Pv i ys H → turnC g tt te τ D ys (Pv (i + 1)) x H) (hd : ∀ ys H, Pv xs.length ys H → R H) :
    ∃ W : Nat → Nat → List V → Hp → Prop, (∃ m, W 0 m [] (upd H1 D (.lst []))) ∧ ∀ i m ys H, W i m ys H → ((Itl K a).stop i H ∧ R H) ∨ ((Itl K a).go i H ∧ ∃ N : List V → Hp → Prop, (∀ ys' H', N ys' H' → ∃ m', m' < m ∧ W (i + 1) m' ys' H') ∧ ∀ x H', (Itl K a).yld i H x H' → turnC g tt te τ D ys N x H') :=
  comp_list (Q := fun _ H => R H) Pv h0 hl hs hd
end
end L2
set_option Elab.async false
set_option linter.all false
set_option maxRecDepth 100000
/-! zip of two things each of which is a list or a tuple. The kind: true for a tuple. -/
namespace BE
open PySem PySem.Spec PyProof.Rows
section
variable {prog : Program} {w : World} {A : Around} {E : Value → Shared → Prop} {s : Shared}
end
section
variable {prog : Program} {w : World} {A : Around} {E : Value → Shared → Prop} {s : Shared}
end
end BE
namespace L2
open PySem PySem.Spec PyProof.Rows
section
variable {X : Cx} {pins : List (Addr × Obj)} {σ : St} {H : Hp} {s : Shared}
end
section
variable {X : Cx} {es : List Expr} {ek : Nat} {tpos : Pos}
end
end L2
set_option Elab.async false
set_option linter.all false
set_option maxRecDepth 100000
/-! min(a list of ints) -/
namespace L2
open PySem PySem.Spec PyProof.Rows
section
variable {X : Cx}
theorem ints_are : ∀ {ns : List Int} {us : List Value}, Vals (ns.map V.int) us → IntsAre us ns
  | [], _, r => by cases r; exact .nil
  | n :: ns, _, r => by
    cases r with
    | cons h r =>
      obtain ⟨t, rfl⟩ := h
      exact .cons n t (ints_are r)
end
end L2
set_option Elab.async false
set_option linter.all false
set_option maxRecDepth 100000
/-! index of an int in a tuple of ints -/
namespace BE
open PySem PySem.Spec PyProof.Rows SeqAt
open AutoSeq1 (wpAny_loadPart')
theorem wpAny_rng {M : Model} {A : Around} {E : Value → Shared → Prop} {β : Type} (f : Nat → β → Sem (ForInStep β)) (I : Nat → β → Shared → Prop) (Q : β → Shared → Prop) {n : Nat} {b : β} {s : Shared}
    (turn : ∀ i b s, i < n → I i b s → wpAny M A (f i b) (fun r s' => match r with | .yield b' => I (i + 1) b' s' | .done b' => Q b' s') E s)
    (fin : ∀ b s, I n b s → Q b s) (h : I 0 b s) : wpAny M A (forIn [:n] b f) Q E s := by
  rw [Std.Legacy.Range.forIn_eq_forIn_range']
  have hsz : ([:n] : Std.Legacy.Range).size = n := by simp [Std.Legacy.Range.size]
  show wpAny M A (forIn (List.range' 0 ([:n] : Std.Legacy.Range).size 1) b f) Q E s
  rw [hsz]
  refine wpAny_forIn_list f (fun rest b s => ∃ i, i ≤ n ∧ rest = List.range' i (n - i) 1 ∧ I i b s) Q ?_ ?_ _ b ⟨0, Nat.zero_le _, rfl, h⟩
  · rintro x rest b s ⟨i, hi, hr, hI⟩
    have hlt : i < n := by
      apply Classical.byContradiction
      intro z
      rw [show n - i = 0 by omega] at hr
      cases hr
    rw [show n - i = (n - (i + 1)) + 1 by omega, List.range'_succ] at hr
    injection hr with h1 h2
    subst h1
    refine wpAny_mono (turn x b s hlt hI) (fun r s' q => ?_) fun _ _ z => z
    cases r with
    | done b' => exact q
    | yield b' => exact ⟨x + 1, hlt, h2, q⟩
  · rintro b s ⟨i, hi, hr, hI⟩
    have e : i = n := by
      apply Classical.byContradiction
      intro z
      have := congrArg List.length hr
      rw [List.length_range'] at this
      simp at this
      omega
    subst e
    exact fin b s hI
theorem tuple_indexAt (l : Addr) (items : Array Value) (n : Nat) (dd : Option Addr) (sl : Array (Option Value)) (x : Value) (e : Value → Bool) (j : Nat) (hj : j < items.size) (hit : e items[j] = true) (hno : ∀ m (hm : m < items.size), m < j → e items[m] = false) :
    Meets (Builtin.«tuple.index» ⟨[.ref l, x], []⟩)
      (fun A R s => s.heap.get? l = some { cls := .type "tuple", dict := dd, data := .seq items n, slots := sl } ∧ (∀ y, y ∈ items → EqAt A.in1 s y x (e y)) ∧ R (.ok (.ret (.int j s.toks))) { s with toks := s.toks + 1 }) :=
  .of_wp fun prog w A R s h => by
    obtain ⟨hp, g, d, tk, os⟩ := s; obtain ⟨hl, he, h⟩ := h
    wp_walk using wpAny_loadPart' hl, wpAny_rng _ (fun i b s' => b.1 = none ∧ s' = ⟨hp, g, d, tk, os⟩ ∧ i ≤ j) _
    case turn =>
      rintro i b s' hi ⟨hb, rfl, hij⟩
      have hi' : i < items.size := by omega
      rw [Array.getElem?_eq_getElem hi']
      dsimp only
      refine wpAny_bind (he _ (Array.getElem_mem hi') prog w _ _ ?_)
      by_cases c : i = j
      · subst c
        rw [hit]
        wp_walk
        exact ⟨_, rfl, h⟩
      · rw [hno i hi' (by omega)]
        wp_walk
        exact ⟨rfl, rfl, by omega⟩
    case fin =>
      rintro ⟨b1, b2⟩ s' ⟨hb, rfl, hij⟩
      omega
    case h => exact ⟨rfl, rfl, Nat.zero_le _⟩
end BE
namespace L2
open PySem PySem.SeqAt PySem.Spec PyProof.Rows
section
variable {X : Cx}
def isIntOf (k : Int) : Value → Bool
  | .int i _ => i == k
  | _ => false
theorem ints_of : ∀ {ns : List Int} {us : List Value} {i : Nat} {u : Value}, Vals (ns.map V.int) us → us[i]? = some u → ∃ n t, ns[i]? = some n ∧ u = .int n t
  | [], _, i, u, r, h => by cases r; simp at h
  | n :: ns, _, i, u, r, h => by
    cases r with
    | cons a r =>
      obtain ⟨t, rfl⟩ := a
      cases i with
      | zero =>
        rw [List.getElem?_cons_zero] at h
        exact ⟨n, t, rfl, (Option.some.inj h).symm⟩
      | succ i =>
        rw [List.getElem?_cons_succ] at h
        obtain ⟨m, t', h1, h2⟩ := ints_of r h
        exact ⟨m, t', h1, h2⟩
def rIndexT : V → List V → Hp → VK → Prop := fun x vs H Q => ∃ (a : Addr) (ns : List Int) (k : Int) (j : Nat), x = .ref a ∧ vs = [.int k] ∧ H a = some (.tup (ns.map V.int)) ∧ ns[j]? = some k ∧ (∀ m, m < j → ns[m]? ≠ some k) ∧ Q (.int j) H
theorem mt_indexT : MtM X "tuple.index" rIndexT := by
  intro pins s σ H x vs v us Q I rx rv h
  obtain ⟨a, ns, k, j, rfl, rfl, hH, hj, hn, q⟩ := h
  cases rx
  obtain ⟨u, rfl, ru⟩ := rv.one
  obtain ⟨t, rfl⟩ := ru
  obtain ⟨its, r, ⟨o, ho, hc, n, hd⟩, hz⟩ := I.tuple (SqT.of hH)
  obtain ⟨oc, od, ot, os⟩ := o
  replace hc : oc = .type "tuple" := hc
  replace hd : ot = .seq its.toArray n := hd
  subst hc hd
  have hl := r.length
  rw [List.length_map] at hl
  have hlt : j < ns.length := (List.getElem?_eq_some_iff.mp hj).1
  have at_ : ∀ m (hm : m < its.toArray.size), ∃ i t', ns[m]? = some i ∧ its.toArray[m] = .int i t' := fun m hm => by
    have hm' : m < its.length := by simpa using hm
    obtain ⟨i, t', h1, h2⟩ := ints_of r (List.getElem?_eq_getElem hm')
    exact ⟨i, t', h1, by rw [List.getElem_toArray]; exact h2⟩
  refine call_meets F.slot_tuple_index ⟨_, ho, rfl⟩ F.entry_tuple_index (F.args_tuple_index_2 _ _)
    (BE.tuple_indexAt a its.toArray n od os (.int k t) (isIntOf k) j (by rw [List.size_toArray, ← hl]; exact hlt) ?_ ?_) ⟨ho, fun y hy => ?_, ?_⟩
  · obtain ⟨i, t', h1, h2⟩ := at_ j (by rw [List.size_toArray, ← hl]; exact hlt)
    rw [hj] at h1
    cases h1
    rw [h2]
    exact beq_self_eq_true k
  · intro m hm hmj
    obtain ⟨i, t', h1, h2⟩ := at_ m hm
    rw [h2]
    exact beq_eq_false_iff_ne.mpr fun c => hn m hmj (by rw [h1, c])
  · obtain ⟨m, hm, e⟩ := Array.getElem_of_mem hy
    obtain ⟨i, t', h1, h2⟩ := at_ m hm
    rw [← e, h2]
    exact EqAt.int_int i t' k t
  · exact ⟨.int j, H, I.tok _, ⟨s.toks, rfl⟩, q⟩
/-- sum(a list of ints) -/
def isum (ns : List Int) : Int := ns.foldr (· + ·) 0
def rSumL : List V → Hp → VK → Prop := fun xs H Q => ∃ (a : Addr) (ns : List Int), xs = [.ref a] ∧ H a = some (.lst (ns.map V.int)) ∧ ns.length ≤ 1000 ∧ (∀ x ∈ ns, -100000 ≤ x ∧ x ≤ 100000) ∧ Q (.int (isum ns)) H
theorem isum_append (a b : List Int) : isum (a ++ b) = isum a + isum b := by
  unfold isum
  induction a with
  | nil => simp
  | cons x a ih => rw [List.cons_append, List.foldr_cons, ih, List.foldr_cons]; omega
theorem pre_sum (f : Nat → Int) (ns : List Int) (h : ∀ i, i < ns.length → f i = ns.getD i 0) : ∀ j, j ≤ ns.length → preSum f j = isum (ns.take j)
  | 0, _ => rfl
  | j + 1, hj => by
    show preSum f j + f j = _
    rw [pre_sum f ns h j (by omega), h j (by omega), List.take_add_one, isum_append, List.getD_eq_getElem?_getD, List.getElem?_eq_getElem (show j < ns.length by omega)]
    show _ = _ + (ns[j] + 0)
    rw [Int.add_zero]; rfl
theorem isum_bound : ∀ ns : List Int, (∀ x ∈ ns, -100000 ≤ x ∧ x ≤ 100000) → -(100000 * (ns.length : Int)) ≤ isum ns ∧ isum ns ≤ 100000 * (ns.length : Int)
  | [], _ => ⟨by simp [isum], by simp [isum]⟩
  | x :: ns, h => by
    have a := h x List.mem_cons_self
    have b := isum_bound ns fun y hy => h y (List.mem_cons_of_mem _ hy)
    show -(100000 * ((ns.length + 1 : Nat) : Int)) ≤ x + isum ns ∧ x + isum ns ≤ 100000 * ((ns.length + 1 : Nat) : Int)
    omega
theorem call_sumL (hc : X.calm = true) : CallR X (.builtin "sum") rSumL := by
  intro pins s σ H xs us Q I r h
  obtain ⟨a, ns, rfl, ha, hlen, hb, q⟩ := h
  obtain ⟨u, rfl, rfl⟩ := vals1 r
  obtain ⟨z, its, n, rv, hl, e⟩ := I.lstM ha
  have hi := ints_are rv
  obtain ⟨ys, ey⟩ := hi.allInts.items
  have hL : s.heap.IsList a its.toArray := ⟨_, e, rfl, n, rfl⟩
  have hns : ns = ys.toList.map (·.1) := by
    rw [← hi.numsOf, ← nums_intItems, ← ey]
  have hsz : ys.size = ns.length := by rw [hns, List.length_map, Array.length_toList]
  rw [ey] at hL
  have hv : ∀ i, i < ns.length → numAt ys i = ns.getD i 0 := fun i _ => by rw [numAt_eq, ← hns]
  have pf := pre_sum (numAt ys) ns hv
  refine sum_intList (I.ok.hd hc) hL (fun j hj => ?_) fun h' tk t' hk => ?_
  · have hj' : j < ns.length := by omega
    have b1 := hb (ns.getD j 0) (by rw [List.getD_eq_getElem?_getD, List.getElem?_eq_getElem hj']; exact List.getElem_mem hj')
    have b2 := isum_bound (ns.take (j + 1)) fun x hx => hb x (List.mem_of_mem_take hx)
    have b3 := List.length_take_le' (j + 1) ns
    rw [hv j hj', pf (j + 1) (by omega)]
    have big : (100000000 : Int) < 2 ^ 63 := by decide
    refine ⟨⟨?_, ?_⟩, ⟨?_, ?_⟩⟩ <;> omega
  · refine ⟨.int (isum ns), H, I.kept hk, ⟨t', ?_⟩, q⟩
    rw [hsz, pf ns.length (Nat.le_refl _), List.take_length]
/-- a method of a tracked tuple -/
def tBMT (r : V → List V → Hp → VK → Prop) (to : TE) (t : TA) : TE := fun σ H Q => to σ H fun x H1 => (∃ a xs, x = .ref a ∧ H1 a = some (.tup xs)) ∧ t σ H1 fun vs H2 => r x vs H2 Q
theorem pe_bmT {ob e : Expr} {es : List Expr} {to : TE} {t : TA} {name : Str} {apos cpos : Pos} {id : String} {r : V → List V → Hp → VK → Prop} (slot : Slot "tuple" name id) (hty : typeOf (.builtin id) = pure (.type "method_descriptor")) (hm : MtM X id r) (ho : PE X ob to) (ha : PA X (e :: es) t)
    (hbase : attributeBase ob name X.env (eval ob X.env) = eval ob X.env := by rfl)
    (hfew : ((backTo cpos (starEach (e :: es) X.env)).all (fun x => !x.1) && (backToKw cpos (keywordEach [] X.env)).all (fun x => x.1.isSome)
      && decide ((e :: es).length + ([] : List Keyword).length + (if ([] : List Keyword).isEmpty then 0 else 1) < 30)) = true := by rfl)
    (hline : (apos.endLine == cpos.line) = true := by rfl) (hs : starEach (e :: es) X.env = (false, eval e X.env) :: starEach es X.env := by rfl) (hplain : (backTo cpos (starEach es X.env)).any (·.1) = false := by rfl) :
    PE X (.Call (.Attribute ob name apos) (e :: es) [] cpos) (tBMT r to t) := by
  intro pins s σ H Q I h
  refine wpAny_Call_method_late hbase hfew hline rfl (thn (ho pins s σ H _ I h) fun v s1 ⟨x, H1, I1, r1, ty, q1⟩ => ?_)
  obtain ⟨a, xs, rfl, hx⟩ := ty
  obtain ⟨z, its, rv, o, ho', hc, hd, n, hdt⟩ := I1.hok a _ hx
  have ev : v = .ref a := r1
  subst ev
  refine ⟨"tuple", id, F.plainAttrs_tuple, slot, hty, ⟨o, ho', hc⟩, fun b e => ⟨o, by cases e; exact ho', hd⟩, ?_⟩
  have hA := ha cpos pins s1 σ H1 _ I1 q1
  rw [hs] at hA ⊢
  refine Calls.callWith_builtin (by show (false || (backTo cpos (starEach es X.env)).any (·.1)) = false; rw [hplain] <;> rfl) (Calls.evalArgs_plain ?_)
  exact thn hA fun us s2 ⟨vs, H2, I2, r2, q2⟩ => hm pins s2 σ H2 (.ref a) vs _ us Q I2 rfl r2 q2
end
end L2
set_option Elab.async false
set_option linter.all false
set_option maxRecDepth 100000
/-! count and index of a list of bools over the hand layer; a def whose body starts at no pins. -/
namespace L2
open PySem PySem.SeqAt PySem.Spec PyProof.Rows
section
variable {X : Cx}
end
end L2
set_option Elab.async false
set_option linter.all false
set_option maxRecDepth 100000
/-! range as a value, list of a range. -/
namespace L2
open PySem PySem.Spec PyProof.Rows
section
variable {X : Cx}
end
end L2
set_option Elab.async false
set_option linter.all false
set_option maxRecDepth 100000
/-! max of a list of ints, index in one, sum of a tuple of ints, sorted of a tuple or a list of ints. -/
namespace BE
open PySem PySem.Spec PyProof.Rows
section
variable {prog : Program} {w : World} {A : Around} {E : Value → Shared → Prop} {s : Shared}
theorem sortedS_kept {h h1 : Heap} {vs : List Value} {out : Array Value} (hk : ∀ b u, h.get? b = some u → h1.get? b = some u) : ∀ b u, h.get? b = some u → (sortedHeap (h1.push (seqObj "list" vs.toArray 0)) h1.objs.size vs out).get? b = some u := fun b u e => by
  have e1 := hk b u e
  have lt := Heap.lt_size e1
  rw [sortedHeap_old (Nat.ne_of_lt lt) (by rw [size_push']; exact Nat.lt_succ_of_lt lt)]
  exact Heap.get?_push_of_some _ e1
end
section
variable {prog : Program} {w : World} {A : Around} {E : Value → Shared → Prop} {s : Shared}
end
end BE
namespace L2
open PySem PySem.SeqAt PySem.Spec PyProof.Rows
section
variable {X : Cx}
theorem sort_end {pins : List (Addr × Obj)} {σ : St} {H : Hp} {s : Shared} {h1 : Heap} {its : List Value} {out : Array Value} {ns ns' : List Int} {Q : VK} (I : Inv X pins σ H s) (hk : ∀ b u, s.heap.get? b = some u → h1.get? b = some u) (h64 : ns.length < 64)
    (a1 : IntsAre out.toList ns') (a2 : ns'.Perm ns) (a3 : ns'.Pairwise (· ≤ ·)) (q : ∀ (l : Addr) (ns' : List Int), H l = none → ns'.Perm ns → ns'.Pairwise (· ≤ ·) → Q (.ref l) (upd H l (.lst (ns'.map V.int)))) :
    EP X pins σ Q (.ref h1.objs.size) { s with heap := sortedHeap (h1.push (seqObj "list" its.toArray 0)) h1.objs.size its out } := by
  obtain ⟨c, hc⟩ := sortedHeap_at (h := h1.push (seqObj "list" its.toArray 0)) (a := h1.objs.size) (vs := its) (n := 0) (out := out) (Heap.get?_push_size _ rfl)
  have I1 : Inv X pins σ H { s with heap := h1 } := I.kept (t' := s.toks) hk
  refine ⟨.ref h1.objs.size, _, I1.laid (o := .lst (ns'.map V.int)) (t' := s.toks) (BE.sortedS_kept fun _ _ e => e) (Nat.le_refl _) ?_, rfl, q _ ns' (I1.hok.fresh (Nat.le_refl _)) a2 a3⟩
  refine ⟨?_, out.toList, c, vals_ints a1, ?_⟩
  · rw [List.length_map, a2.length_eq]
    exact Nat.le_of_lt (Nat.lt_of_lt_of_le h64 (by decide))
  · exact hc
end
end L2
set_option Elab.async false
set_option linter.all false
set_option maxRecDepth 100000
namespace L2
open PySem PySem.Spec PyProof.Rows
/-- y = [..]: the block's value is stored before its names are let go -/
theorem ps_compset {X : Cx} {elt tg iter : Expr} {ifs : List Expr} {scope : Scope} {pos spos py : Pos} {y : Str} {i : Nat} {wi : TI} {g : TG} {tt : TT} {te : TE} {NB : List Str} {js : List (Option Nat)} (hN : X.N.Nodup) (hiN : X.N[i]? = some y) (hyL : Loc X.env.scope y) (hc : X.calm = true) (B : BlkOk X scope NB js) (hi : PI X tg iter wi)
    (hg : ∀ C s₂ H₂ fp, PG (blk X scope NB C s₂ H₂ fp) tg g) (ht : ∀ C s₂ H₂ fp, PF (blk X scope NB C s₂ H₂ fp) ifs tt) (he : ∀ C s₂ H₂ fp, PE (blk X scope NB C s₂ H₂ fp) elt te)
    (hs : ∀ x, foldedSetIterable iter X.env x = pure x := by intro _; rfl) (hsw : swapsWith (.ListComp elt [⟨tg, iter, ifs, 0⟩] scope pos) (some (.Name y py)) spos.line X.env = pure true := by first | rfl | with_unfolding_all rfl)
    (hf : X.fn y = true ∨ X.env.scope.names.lookup y = some .local := by first | exact .inl rfl | exact .inr rfl | assumption) :
    PS X (.Assign [.Name y py] (.ListComp elt [⟨tg, iter, ifs, 0⟩] scope pos) spos) (tAsg (tComp js wi g tt te) (gName i)) := by
  intro pins s σ H D I h
  rw [exec_Assign_Name_used _ _ _ _ hsw]
  refine wpAny_bind (wpAny_standAt (wpAny_bind ?_))
  show wpAny _ X.A (do let _ ← comprehension (.ListComp elt [⟨tg, iter, ifs, 0⟩] scope pos) scope X.env _ (newList []) false (eval iter X.env) (some (assign (.Name y py) X.env))) _ _ s
  refine wpAny_bind (wpAny_mono (wpAny_comprehension_free (use := some (assign (.Name y py) X.env)) (Q := fun _ s' => SP X pins D .next s') rfl hs B.clos B.kind B.locs (thn (hi pins s σ H _ I h) fun v s1 h1 => thn h1 fun itv s2 h2 => ?_)) (fun _ s' hq => wpAny_pure (wpAny_pure hq)) fun _ _ e => e)
  obtain ⟨it, fp, tn, J, H2, e, I2, T, st2, f2, hW⟩ := h2
  subst e
  have fresh2 : H2 s2.heap.objs.size = none := I2.hok.fresh (Nat.le_refl _)
  obtain ⟨W, ⟨m0, w0⟩, turn⟩ := hW s2.heap.objs.size fresh2
  refine wpAny_newObj_type (wpAny_newFunctionEnv B.nocell (by intro y hy; simp at hy) (fun h₁ hns₁ hsb₁ => ?_) B.kind)
  dsimp only at hns₁ hsb₁ ⊢
  generalize hH2 : s2.heap.push { cls := .type "list", dict := none, data := .seq ([] : List Value).toArray } = HP at hns₁ hsb₁ ⊢
  have hC : HP.objs.size = s2.heap.objs.size + 1 := by rw [← hH2, Heap.size_push]
  have hCle : s2.heap.objs.size ≤ HP.objs.size := by rw [hC]; exact Nat.le_succ _
  have hDC : s2.heap.objs.size ≠ HP.objs.size := by rw [hC]; exact Nat.ne_of_lt (Nat.lt_succ_self _)
  have below : ∀ b, b < s2.heap.objs.size → b ≠ HP.objs.size := fun b hb => Nat.ne_of_lt (Nat.lt_of_lt_of_le hb hCle)
  have old : ∀ b o, s2.heap.get? b = some o → h₁.get? b = some o := fun b o e => hsb₁.extBut b o (below b (Heap.lt_size e)) (Heap.get?_push_of_some _ (hH2 ▸ Heap.get?_push_of_some _ e))
  have hacc : h₁.get? s2.heap.objs.size = some { cls := .type "list", dict := none, data := .seq ([] : List Value).toArray } := hsb₁.extBut _ _ hDC (Heap.get?_push_of_some _ (hH2 ▸ Heap.get?_push_size _ rfl))
  have fplt : ∀ b ∈ fp, b < s2.heap.objs.size := fun b hb => by
    obtain ⟨o, ho, _⟩ := T.obj 0 _ st2 b hb
    exact Heap.lt_size ho
  have okY : (blk X scope NB HP.objs.size s2 H2 fp).Ok := blk_ok B I2 f2 (fun b hb => below b (fplt b hb)) hCle
  have lenτ : (tau js σ).length = NB.length := by unfold tau; rw [List.length_map]; exact B.len
  have IY : Inv (blk X scope NB HP.objs.size s2 H2 fp) [] (tau js σ) (upd H2 s2.heap.objs.size (.lst [])) { s2 with heap := h₁, toks := s2.toks + ([] : List (Str × Value)).length } := by
    refine ⟨okY, rfl, I2.bare, Un.laid old (Nat.le_refl _) fresh2, ⟨_, hns₁, fun i x v e1 e2 e3 => ?_⟩, fun x c e => ?_, ?_, fun x c e => ?_, fun p hp => absurd (show p ∈ ([] : List (Addr × Obj)) from hp) (by simp), I2.hok.laid old (Nat.le_refl _) ?_, lenτ⟩
    · obtain ⟨j, ej, ev⟩ := tau_get e2
      obtain ⟨x', n1, n2, n3, n4, n5⟩ := B.outer i j ej
      have ex : x' = x := Option.some.inj (n1.symm.trans e1)
      subst ex
      obtain ⟨m, _, hl⟩ := I2.loc
      obtain ⟨u, ru, l⟩ := hl j x' v n2 ev n4
      refine ⟨u, ru, .inr ?_⟩
      have e3' : Vis (relabel scope X.env) x' := e3
      have nl := B.inner i x' e1 n3 e3'
      have kk : (relabel scope X.env).names.lookup x' = some .cell ∨ (relabel scope X.env).names.lookup x' = some .free := by
        rcases e3' with z | z | z
        · exact absurd z nl
        · exact .inl z
        · exact .inr z
      refine ⟨kk, ?_⟩
      rcases l with ⟨z, _⟩ | ⟨_, c, ec, cell⟩
      · exact absurd z n5
      · obtain ⟨c', ec'⟩ := closOf_has (env := X.env) n3
        have q := (mem_closOf B.there ec').1
        rw [ec] at q
        cases q
        exact ⟨c, ec', cell.keeps old⟩
    · obtain ⟨v, z⟩ := I2.cell x c (mem_closOf B.there e).1
      exact ⟨v, z.keeps old⟩
    · show upd H2 s2.heap.objs.size (.lst []) HP.objs.size = none
      rw [upd_ne (Ne.symm hDC)]
      exact I2.hok.fresh hCle
    · have ec := (mem_closOf B.there e).1
      obtain ⟨v, o, ho, _⟩ := I2.cell x c ec
      rw [upd_ne (Nat.ne_of_lt (Heap.lt_size ho))]
      exact I2.freeC x c ec
    · exact ⟨by show 0 ≤ sizeLine; exact Nat.zero_le _, [], 0, .nil, hacc⟩
  have st1 : tn 0 h₁ := T.keep 0 _ _ st2 fun b _ o e => old b o e
  have statY : ∀ {H' : Hp}, (∀ b ∈ fp, H' b = none) → ∀ b ∈ fp, FpOk (blk X scope NB HP.objs.size s2 H2 fp) [] H' b := fun {H'} hn b hb =>
    ⟨hn b hb, below b (fplt b hb), okY.exfs b hb, .inl hb, (okY.exf b hb).2, fun p hp => absurd (show p ∈ ([] : List (Addr × Obj)) from hp) (by simp)⟩
  have frN : ∀ b ∈ fp, upd H2 s2.heap.objs.size (.lst []) b = none := fun b hb => by
    rw [upd_ne (Nat.ne_of_lt (fplt b hb))]
    exact (f2 b hb).1
  have loop : ∀ s₃ : Shared, s₃ = { s2 with heap := h₁, toks := s2.toks + ([] : List (Str × Value)).length } →
      codeAny (model X.prog X.w) X.A (.compLoop (.ListComp elt [⟨tg, iter, ifs, 0⟩] scope pos) 0 (.ref it) (.ref s2.heap.objs.size) (compEnvC scope (closOf scope X.env) HP.objs.size X.env))
        (compPost (model X.prog X.w) X.A X.xe (some (assign (.Name y py) X.env)) (fun _ s' => SP X pins D .next s') (.ref s2.heap.objs.size) HP.objs.size) s₃ := by
    rintro s₃ rfl
    refine compLoop_any (fun n s' => ∃ i ys H', Inv (blk X scope NB HP.objs.size s2 H2 fp) [] (tau js σ) H' s' ∧ tn i s'.heap ∧ (∀ b ∈ fp, H' b = none) ∧ W i n ys H') ?_ m0 ⟨0, [], _, IY, st1, frN, w0⟩
    rintro n s3 ⟨i, ys, H3, I3, st3, fr3, w3⟩
    rcases turn i n ys H3 w3 with ⟨stop, qq⟩ | ⟨go, NN, hNN, step⟩
    · refine thn (T.done (blk X scope NB HP.objs.size s2 H2 fp) rfl rfl rfl hc i [] s3 (tau js σ) H3 (fun _ _ => False) I3 (statY fr3) st3 stop) fun r s4 ⟨hr, I4⟩ => ?_
      subst hr
      obtain ⟨m4, hn4, _⟩ := id I4.loc
      have u4 : Un (frs X.stack) fp H2 H3 s2.heap s4.heap := I4.base
      have J4 : Inv X pins σ H3 s4 := I2.call' (s' := s4) I4.os u4 I4.hok I4.bare fun b hb => ⟨(f2 b hb).2.2.2.1, (f2 b hb).2.1, (f2 b hb).2.2.2.2.1, (f2 b hb).2.2.2.2.2⟩
      have hC3 : H3 HP.objs.size = none := I4.free
      have fC : FpOk X pins H3 HP.objs.size := I2.fpOk hCle hC3
      obtain ⟨oC, es, ep, hoC, hdC, hrC⟩ := id hn4
      have hoC' : s4.heap.get? HP.objs.size = some oC := hoC
      have P4 := J4.pinned (fp := [HP.objs.size]) (fun b hb => by rw [List.mem_singleton.mp hb]; exact fC) (fun b hb => by rw [List.mem_singleton.mp hb]; exact ⟨oC, hoC', fun v z => by rw [hdC] at z; cases z⟩)
      show wpAny _ X.A (assign (.Name y py) X.env (.ref s2.heap.objs.size)) _ X.xe s4
      refine wpAny_assign_Name (store_ok (v := .ref s2.heap.objs.size) P4 hN hiN hyL rfl (fun s5 I5 => ?_) hf)
      have h5 := (I5.pin (HP.objs.size, oC) (List.mem_append_right _ (List.mem_append_right _ (mem_pinsAt (by simp) hoC')))).1
      refine ⟨m4, ⟨oC, es, ep, h5, hdC, hrC⟩, fun h' sb => ⟨_, H3, ?_, qq⟩⟩
      exact I5.unpinned.turned (t' := s5.toks) (it := HP.objs.size) (fun b o hb e => sb.extBut b o hb e) fC.1 fC.2.1 fC.2.2.2.1 fC.2.2.2.2.1 fC.2.2.2.2.2
    · refine thn (T.item (blk X scope NB HP.objs.size s2 H2 fp) rfl rfl rfl hc i [] s3 (tau js σ) H3 (fun _ _ => False) I3 (statY fr3) st3 go) fun r s4 ⟨u, hr, h4⟩ => ?_
      subst hr
      refine thn h4 fun _ s5 ⟨x, H5, I5, r5, y5, st5, fr5⟩ => ?_
      have I5' := I5.pinned (statY fr5) (T.obj _ _ st5)
      refine thn (hg _ _ _ _ _ s5 (tau js σ) H5 x u _ I5' r5 (step x H5 y5)) fun _ s6 ⟨σ6, H6, I6, ag, q6⟩ => ?_
      have back : ∀ {s7 : Shared} {H7 : Hp}, Inv (blk X scope NB HP.objs.size s2 H2 fp) ([] ++ pinsAt fp s5.heap) σ6 H7 s7 → Inv (blk X scope NB HP.objs.size s2 H2 fp) [] (tau js σ) H7 s7 ∧ tn (i + 1) s7.heap ∧ ∀ b ∈ fp, H7 b = none := fun {s7 H7} I7 => by
        refine ⟨I7.unpinned.weak (lenτ.trans I7.len.symm) ag, T.keep _ _ _ st5 fun b hb o e => (I7.pin (b, o) (List.mem_append_right _ (List.mem_append_right _ (mem_pinsAt hb e)))).1, fun b hb => ?_⟩
        obtain ⟨o, e, d⟩ := T.obj _ _ st5 b hb
        exact (I7.pin (b, o) (List.mem_append_right _ (List.mem_append_right _ (mem_pinsAt hb e)))).2.1
      refine thn (ht _ _ _ _ _ s6 σ6 H6 _ I6 q6) fun ok s7 ⟨H7, I7, q7⟩ => ?_
      cases ok with
      | false =>
        obtain ⟨m', hm, w7⟩ := hNN _ _ q7
        obtain ⟨J1, J2, J3⟩ := back I7
        exact ⟨m', hm, i + 1, ys, H7, J1, J2, J3, w7⟩
      | true =>
        refine thn (he _ _ _ _ _ s7 σ6 H7 _ I7 q7) fun v s8 ⟨y8, H8, I8, r8, hD8, hz, n8⟩ => ?_
        obtain ⟨m', hm, w8⟩ := hNN _ _ n8
        refine thn (mt_append _ s8 σ6 H8 (.ref s2.heap.objs.size) [y8] (.ref s2.heap.objs.size) [v] (fun z H' => z = .non ∧ H' = upd H8 s2.heap.objs.size (.lst (ys ++ [y8]))) I8 rfl (.cons r8 .nil) ⟨_, ys, y8, rfl, rfl, hD8, hz, ⟨rfl, rfl⟩⟩) fun _ s9 ⟨z, H9, I9, r9, q9⟩ => ?_
        obtain ⟨ez, e9⟩ : z = .non ∧ H9 = upd H8 s2.heap.objs.size (.lst (ys ++ [y8])) := q9
        subst e9
        obtain ⟨J1, J2, J3⟩ := back I9
        exact ⟨m', hm, i + 1, ys ++ [y8], _, J1, J2, J3, w8⟩
  exact codeAny_compStart_list (loop _ rfl) (T.self _ _ _ _ _ st1 (loop _ rfl))


end L2
set_option Elab.async false
set_option linter.all false
/-! Works taken up one by one by the bench that is free first: plain lists. -/
namespace Be
/-! ### more benches never end later -/
/-- two sorted lists of the same are one -/
theorem sorted_one : ∀ {a b : List Int}, a.Perm b → a.Pairwise (· ≤ ·) → b.Pairwise (· ≤ ·) → a = b
  | a, b, p, ha, hb => List.Perm.eq_of_pairwise (fun x y _ _ h1 h2 => Int.le_antisymm h1 h2) ha hb p
end Be
set_option Elab.async false
set_option linter.all false
set_option maxRecDepth 100000
namespace L2
open PySem PySem.Spec PyProof.Rows
theorem comp_rangeR {g : TG} {tt : TT} {te : TE} {τ : St} {D : Addr} {H1 : Hp} {R : Hp → Prop} {lo : Int} {n : Nat} (Pv : Nat → List V → Hp → Prop) (h0 : Pv 0 [] (upd H1 D (.lst []))) (hs : ∀ i ys H, i < n → Pv i ys H → turnC g tt te τ D ys (Pv (i + 1)) (.int (lo + i)) H) (hd : ∀ ys H, Pv n ys H → R H) :
    ∃ W : Nat → Nat → List V → Hp → Prop, (∃ m, W 0 m [] (upd H1 D (.lst []))) ∧ ∀ i m ys H, W i m ys H → ((Itr lo n).stop i H ∧ R H) ∨ ((Itr lo n).go i H ∧ ∃ N : List V → Hp → Prop, (∀ ys' H', N ys' H' → ∃ m', m' < m ∧ W (i + 1) m' ys' H') ∧ ∀ x H', (Itr lo n).yld i H x H' → turnC g tt te τ D ys N x H') :=
  comp_range (Q := fun _ H => R H) Pv h0 hs hd
theorem bt_range : bootBuiltins "range" = some (.type "range") := by decide +kernel
end L2
namespace Be
open PySem L2
/-! ### worlds as data -/
def encB (p : Int × Int) : PyData := .tuple [.int p.1, .int p.2]
def encW (W : Wd) : PyData := .tuple [.int W.b, .tuple (W.bs.map encB)]
def encO (o : List Int) : PyData := .tuple (o.map .int)
theorem all_encB (bs : List (Int × Int)) : immut.all (bs.map encB) = true := by
  induction bs with
  | nil => rfl
  | cons p r ih =>
    rw [List.map_cons]
    show (immut (encB p) && immut.all (r.map encB)) = true
    rw [ih]; rfl
theorem im_W (W : Wd) : immut (encW W) = true := by
  show (immut (.int W.b) && (immut (.tuple (W.bs.map encB)) && true)) = true
  show (true && (immut.all (W.bs.map encB) && true)) = true
  rw [all_encB]; rfl
/-- what stands in the heap of a world -/
structure AtW (H : Hp) (v : V) (W : Wd) (a p : Addr) (vs : List V) : Prop where
  v : v = .ref a
  a : H a = some (.tup [.int W.b, .ref p])
  p : H p = some (.tup vs)
  it : ∀ (i : Nat) (x : Int × Int), W.bs[i]? = some x → ∃ q, vs[i]? = some (.ref q) ∧ H q = some (.tup [.int x.1, .int x.2])
  len : vs.length = W.bs.length
theorem pair_inv {H : Hp} {v : V} {x : Int × Int} (r : Rep H v (encB x)) : ∃ q, v = .ref q ∧ H q = some (.tup [.int x.1, .int x.2]) := by
  obtain ⟨q, vs, rfl, hq, rs⟩ := r.tup_inv
  have e : vs = [.int x.1, .int x.2] := Reps.ints_inv (ns := [x.1, x.2]) rs
  subst e
  exact ⟨q, rfl, hq⟩
theorem atW {H : Hp} {v : V} {W : Wd} (r : Rep H v (encW W)) : ∃ a p vs, AtW H v W a p vs := by
  obtain ⟨a, us, rfl, ha, rs⟩ := r.tup_inv
  cases rs with
  | cons r1 rs =>
    cases rs with
    | cons r2 rs =>
      cases rs
      cases r1.int_inv
      obtain ⟨p, vs, rfl, hp, rv⟩ := r2.tup_inv
      refine ⟨a, p, vs, rfl, ha, hp, fun i x e => ?_, by rw [rv.length, List.length_map]⟩
      obtain ⟨u, hu, ru⟩ := rv.get (i := i) (d := encB x) (by rw [List.getElem?_map, e]; rfl)
      obtain ⟨q, rfl, hq⟩ := pair_inv ru
      exact ⟨q, hu, hq⟩
theorem agree0 {x : V} {r : St} : ∀ (k : Nat) (v : V), (none :: r : St)[k]? = some (some v) → ((none :: r : St).set 0 (some x))[k]? = some (some v)
  | 0, v, h => by cases h
  | k + 1, v, h => h
theorem if_f {c : Bool} {A B : Prop} (h : c = false) (b : B) : if c = true then A else B := by subst h; exact b
theorem if_t {c : Bool} {A B : Prop} (h : c = true) (a : A) : if c = true then A else B := by subst h; exact a
theorem inV_ints (x : Int) : ∀ o : List Int, inV (.int x) (o.map V.int) = decide (x ∈ o)
  | [] => by simp [inV]
  | y :: r => by
    have ih := inV_ints x r
    unfold inV at ih ⊢
    rw [List.map_cons, List.any_cons, ih]
    show ((y == x) || decide (x ∈ r)) = decide (x ∈ y :: r)
    by_cases h : y = x
    · subst h; simp
    · have h2 : ¬ x = y := fun z => h z.symm
      simp [h, h2]
theorem flat_ints : ∀ o : List Int, (o.map V.int).all flatV = true
  | [] => rfl
  | _ :: r => flat_ints r
theorem SqTL.same {K : PySem.W.Frag} {H H' : Hp} {p : Addr} {xs : List V} (e : Same H H') (h : SqL K H p xs ∨ SqT K H p xs) : SqL K H' p xs ∨ SqT K H' p xs := by
  rcases h with h | h
  · exact .inl (e.seq h)
  · refine .inr ?_
    rcases h with (h | ⟨o, h⟩) | h
    · exact .inl (.inl (e _ _ h))
    · exact .inl (.inr ⟨o, e _ _ h⟩)
    · exact .inr h
theorem seqO {K : PySem.W.Frag} {H : Hp} {v : V} {o : List Int} (r : Rep H v (encO o)) : ∃ p, v = .ref p ∧ H p = some (.tup (o.map V.int)) := by
  obtain ⟨p, vs, rfl, hp, rs⟩ := r.tup_inv
  rw [Reps.ints_inv rs] at hp
  exact ⟨p, rfl, hp⟩
section
variable {P : Program} {w : World} {K : PySem.W.Frag} {mg : Str → Option Value} {base : Heap}
theorem atI_ints {ns : List Int} {k : Int} (h0 : 0 ≤ k) (h1 : k < (ns.length : Int)) : ∃ v : Int, atI (ns.map V.int) k = some (.int v) := by
  have hk : k.toNat < ns.length := by omega
  have ek : k = ((k.toNat : Nat) : Int) := by omega
  have q : atI (ns.map V.int) ((k.toNat : Nat) : Int) = some (.int ns[k.toNat]) := atI_nat (by rw [List.getElem?_map, List.getElem?_eq_getElem hk] <;> rfl)
  rw [← ek] at q
  exact ⟨_, q⟩
theorem atI_int {xs : List V} {v : V} {k : Int} (h0 : 0 ≤ k) (h : xs[k.toNat]? = some v) : atI xs k = some v := by
  have q := atI_nat h
  rw [show ((k.toNat : Nat) : Int) = k by omega] at q
  exact q
def sp_cell (K : PySem.W.Frag) : Sp := fun vs H Q _ => ∃ (a : Addr) (ns : List Int) (k : Int), vs = [.ref a, .int k] ∧ Scr K H a ns ∧ 0 ≤ k ∧ ∀ (r : Int) (H' : Hp), Same H H' → Q (.int r) H'
theorem ok_law_cell_at (T : Txt K mg) : FnOk P w K mg base (CXr P w) 1 T.law_cell_at.a T.law_cell_at.d ["_law_script", "_law_k"] (sp_cell K) := by
  refine T.law_cell_at.F.okN sc_law_cell_at (fun vs H Q E h => ?_) (fun cdv A outer s H vs Q E hr h => ?_)
  · obtain ⟨a, ns, k, rfl, _⟩ := h; rfl
  obtain ⟨a, ns, k, rfl, hS, h0, q⟩ := h
  refine ⟨_, (pss_cons (ps_if (pt_cmpR op_lt (pv 1) (pe_callB call_len_seq rfl T.n_len bt_len (pa_cons (pv 0) pa_nil)) (nomark _)) (pss_one (ps_ret (pe_ix ix_list (pv 0) (pv 1) (fun _ _ => rfl)))) pss_nil) (pss_cons (ps_if (pt_cmpR (op_eqNil hr.units0) (pv 0) (pe_lst pa_nil) (nomark _)) (pss_one (ps_ret pe_int)) pss_nil) (pss_one (ps_ret (pe_op op_add (pe_op op_mul (pe_ix ix_list (pv 0) (pe_op op_mod (pv 1) (pe_callB call_len_seq rfl T.n_len bt_len (pa_cons (pv 0) pa_nil))) (fun _ _ => rfl)) pe_int) (pv 1)))))), ?_⟩
  have hl : (ns.map V.int).length = ns.length := List.length_map _
  refine ⟨_, rfl, _, rfl, a, _, rfl, .inl hS.sq, _, _, rfl, rfl, _, rfl, ?_⟩
  refine ite2 (fun c => ?_) (fun c => ?_)
  · have c' := of_decide_eq_true c
    rw [hl] at c'
    obtain ⟨v, hv⟩ := atI_ints (ns := ns) h0 c'
    exact ⟨_, rfl, _, rfl, a, _, _, _, rfl, rfl, hS.sq, hv, q v H (Same.refl H)⟩
  · have c' := of_decide_eq_false (Bool.eq_false_iff.mpr c)
    rw [hl] at c'
    refine ⟨_, rfl, Nat.zero_le _, fun l hl' => ?_⟩
    have g1 := same_new hl' (.lst [])
    have hS1 := hS.same g1
    refine ⟨a, l, _, rfl, rfl, hS1.sq, SqL.of upd_same, _, rfl, ?_⟩
    refine ite2 (fun c2 => ?_) (fun c2 => ?_)
    · exact q 0 _ g1
    · have hne : ns ≠ [] := fun z => c2 (by rw [z]; rfl)
      have hpos : (0 : Int) < ((ns.map V.int).length : Int) := by rw [hl]; have := List.length_pos_iff.mpr hne; omega
      have m0 := Int.emod_nonneg k (show ((ns.map V.int).length : Int) ≠ 0 by omega)
      have m1 := Int.emod_lt_of_pos k hpos
      obtain ⟨v, hv⟩ := atI_ints (ns := ns) m0 (by rw [hl] at m1 ⊢; exact m1)
      exact ⟨_, rfl, _, rfl, _, rfl, a, _, rfl, .inl hS1.sq, _, _, rfl, rfl, hpos, a, _, _, _, rfl, rfl, hS1.sq, hv, _, _, rfl, rfl, .inr ⟨by decide, by decide⟩, _, rfl, _, _, rfl, rfl, q _ _ g1⟩
def sp_mixed (K : PySem.W.Frag) : Sp := fun vs H Q _ => ∃ (a : Addr) (ns : List Int) (k m : Int), vs = [.ref a, .int k, .int m] ∧ Scr K H a ns ∧ 0 ≤ k ∧ 0 < m ∧ ∀ (r : Int) (H' : Hp), 0 ≤ r → r < m → Same H H' → Q (.int r) H'
theorem ok_law_mixed (T : Txt K mg) : FnOk P w K mg base (CXr P w) 2 T.law_mixed.a T.law_mixed.d ["_law_script", "_law_k", "_law_many"] (sp_mixed K) := by
  refine T.law_mixed.F.okN sc_law_mixed (fun vs H Q E h => ?_) (fun cdv A outer s H vs Q E hr h => ?_)
  · obtain ⟨a, ns, k, m, rfl, _⟩ := h; rfl
  obtain ⟨a, ns, k, m, rfl, hS, h0, hm, q⟩ := h
  refine ⟨_, (pss_cons (ps_set (i := 3) sc_law_mixed.nd rfl (by first | exact Or.inl rfl | exact Or.inr rfl) (pe_op op_mod (pe_op op_mul (pe_op op_add (pe_op op_add (pe_call (ok_law_cell_at T) (hr.mono (by decide)) rfl T.law_cell_at.m T.law_cell_at.F.kp T.law_cell_at.b .nil passN (pa_cons (pv 0) (pa_cons (pv 1) pa_nil))) (pe_op op_mul pe_int (pv 1))) pe_int) pe_int) pe_int)) (pss_one (ps_ret (pe_op op_mod (pe_op op_mod (pe_op op_add (pe_op op_add (pe_op op_mul (pv 3) (pv 3)) (pe_op op_mul pe_int (pv 3))) (pv 1)) pe_int) (pv 2))))), ?_⟩
  refine ⟨_, rfl, _, rfl, a, ns, k, rfl, hS, h0, fun r H1 g1 => ?_⟩
  refine ⟨_, rfl, _, _, rfl, rfl, .inl ⟨by decide, by decide⟩, _, _, rfl, rfl, _, _, rfl, rfl, _, _, rfl, rfl, .inr ⟨by decide, by decide⟩, _, _, rfl, rfl, (by show (0 : Int) < 2147483647; decide), ?_⟩
  have l1 := Int.emod_nonneg ((r + 7919 * k + 1) * 48271) (show (2147483647 : Int) ≠ 0 by decide)
  have l2 := Int.emod_lt_of_pos ((r + 7919 * k + 1) * 48271) (show (0 : Int) < 2147483647 by decide)
  refine ⟨_, rfl, _, rfl, _, _, rfl, rfl, .inl ⟨by omega, by omega⟩, _, rfl, _, _, rfl, rfl, .inl ⟨by decide, by decide⟩, _, _, rfl, rfl, _, rfl, _, _, rfl, rfl, _, _, rfl, rfl, (by show (0 : Int) < 2147483629; decide), _, rfl, _, _, rfl, rfl, hm, ?_⟩
  exact q _ H1 (Int.emod_nonneg _ (by omega)) (Int.emod_lt_of_pos _ hm) g1
/-- the town at t holds n draws -/
def sp_draw (K : PySem.W.Frag) : Sp := fun vs H Q _ => ∃ (a t : Addr) (ns : List Int) (n : Nat) (m : Int), vs = [.ref a, .ref t, .int m] ∧ Scr K H a ns ∧ H t = some (.lst (zeros n)) ∧ n < 5000 ∧ 0 < m ∧
  ∀ (r : Int) (H' : Hp), 0 ≤ r → r < m → SameX t H H' → H' t = some (.lst (zeros (n + 1))) → Q (.int r) H'
theorem ok_law_draw (T : Txt K mg) : FnOk P w K mg base (CXr P w) 3 T.law_draw.a T.law_draw.d ["_law_script", "_law_town", "_law_many"] (sp_draw K) := by
  refine T.law_draw.F.okN sc_law_draw (fun vs H Q E h => ?_) (fun cdv A outer s H vs Q E hr h => ?_)
  · obtain ⟨a, t, ns, n, m, rfl, _⟩ := h; rfl
  obtain ⟨a, t, ns, n, m, rfl, hS, ht, hn, hm, q⟩ := h
  refine ⟨_, (pss_cons (ps_expr (pe_bm PySem.F.plainAttrs_list PySem.F.slot_list_append PySem.F.type_list_append mt_append (pv 1) (pa_cons pe_int pa_nil))) (pss_one (ps_ret (pe_call (ok_law_mixed T) (hr.mono (by decide)) rfl T.law_mixed.m T.law_mixed.F.kp T.law_mixed.b .nil passN (pa_cons (pv 0) (pa_cons (pe_callB call_len_seq rfl T.n_len bt_len (pa_cons (pv 1) pa_nil)) (pa_cons (pv 2) pa_nil))))))), ?_⟩
  refine ⟨_, rfl, .inl ⟨rfl, _, SqL.of ht⟩, t, _, _, rfl, rfl, ht, (by rw [zeros_len]; exact Nat.lt_of_lt_of_le hn (by decide)), ?_⟩
  rw [zeros_succ]
  have gx : SameX t H (upd H t (.lst (zeros (n + 1)))) := (SameX.refl t H).write _
  have hS1 := gx.scr ht hS
  refine ⟨_, rfl, _, rfl, t, _, rfl, .inl (SqL.of upd_same), _, rfl, a, ns, _, m, rfl, hS1, by omega, hm, fun r H' l1 l2 g => ?_⟩
  exact q r H' l1 l2 (gx.trans (g.x t)) (g _ _ upd_same)
def sp_pick (K : PySem.W.Frag) : Sp := fun vs H Q _ => ∃ (a t p : Addr) (ns : List Int) (n : Nat) (xs : List V), vs = [.ref a, .ref t, .ref p] ∧ Scr K H a ns ∧ H t = some (.lst (zeros n)) ∧ n < 5000 ∧ H p = some (.lst xs) ∧ p ≠ t ∧ xs ≠ [] ∧
  ∀ (v : V) (H' : Hp), v ∈ xs → SameX t H H' → H' t = some (.lst (zeros (n + 1))) → Q v H'
theorem ok_law_pick (T : Txt K mg) : FnOk P w K mg base (CXr P w) 4 T.law_pick.a T.law_pick.d ["_law_script", "_law_town", "_law_some"] (sp_pick K) := by
  refine T.law_pick.F.okN sc_law_pick (fun vs H Q E h => ?_) (fun cdv A outer s H vs Q E hr h => ?_)
  · obtain ⟨a, t, p, ns, n, xs, rfl, _⟩ := h; rfl
  obtain ⟨a, t, p, ns, n, xs, rfl, hS, ht, hn, hp, hpt, hx, q⟩ := h
  refine ⟨_, (pss_one (ps_ret (pe_ix ix_list (pv 2) (pe_call (ok_law_draw T) (hr.mono (by decide)) rfl T.law_draw.m T.law_draw.F.kp T.law_draw.b .nil passN (pa_cons (pv 0) (pa_cons (pv 1) (pa_cons (pe_callB call_len_seq rfl T.n_len bt_len (pa_cons (pv 2) pa_nil)) pa_nil)))) (fun _ _ => rfl)))), ?_⟩
  have hpos := List.length_pos_iff.mpr hx
  refine ⟨_, rfl, _, rfl, _, rfl, _, rfl, p, _, rfl, .inl (SqL.of hp), a, t, ns, n, _, rfl, hS, ht, hn, by omega, fun r H' l1 l2 g ht' => ?_⟩
  have hr' : r.toNat < xs.length := by omega
  exact ⟨p, xs, r, xs[r.toNat], rfl, rfl, SqL.of (g p _ hpt hp), atI_int l1 (by simp [hr']), q _ H' (List.getElem_mem hr') g ht'⟩
def sp_world (K : PySem.W.Frag) : Sp := fun vs H Q _ => ∃ (a t : Addr) (ns : List Int) (n : Nat) (most wide : Int), vs = [.ref a, .ref t, .int most, .int wide] ∧ Scr K H a ns ∧ H t = some (.lst (zeros n)) ∧ n < 4000 ∧ 1 ≤ most ∧ most ≤ 10 ∧ 2 ≤ wide ∧ wide ≤ 99 ∧
  ∀ (W : Wd) (v : V) (n' : Nat) (H' : Hp), W.Ok → (W.bs.length : Int) ≤ most → (∀ p ∈ W.bs, p.1 ≤ wide ∧ p.2 ≤ p.1 + wide - 1) → Rep H' v (encW W) → SameX t H H' → H' t = some (.lst (zeros n')) → n' ≤ n + 42 → Q v H'
theorem ok_law_world (T : Txt K mg) : FnOk P w K mg base (CXr P w) 5 T.law_world.a T.law_world.d ["_law_script", "_law_town", "_law_most", "_law_wide"] (sp_world K) := by
  refine T.law_world.F.okN sc_law_world (fun vs H Q E h => ?_) (fun cdv A outer s H vs Q E hr h => ?_)
  · obtain ⟨a, t, ns, n, most, wide, rfl, _⟩ := h; rfl
  obtain ⟨a, t, ns, n, most, wide, rfl, hS, ht, hn, hm1, hm2, hw1, hw2, q⟩ := h
  refine ⟨_, (pss_cons (ps_set (i := 4) sc_law_world.nd rfl (by first | exact Or.inl rfl | exact Or.inr rfl) (pe_op op_add pe_int (pe_call (ok_law_draw T) (hr.mono (by decide)) rfl T.law_draw.m T.law_draw.F.kp T.law_draw.b .nil passN (pa_cons (pv 0) (pa_cons (pv 1) (pa_cons (pv 2) pa_nil)))))) (pss_cons (ps_set (i := 5) sc_law_world.nd rfl (by first | exact Or.inl rfl | exact Or.inr rfl) (pe_lst pa_nil)) (pss_cons (ps_for PassesOwn.never rfl (pi_range1 rfl T.n_range (pa_cons (pv 4) pa_nil)) (pg_name (i := 6) sc_law_world.nd rfl (by first | exact Or.inl rfl | exact Or.inr rfl)) (pss_cons (ps_set (i := 7) sc_law_world.nd rfl (by first | exact Or.inl rfl | exact Or.inr rfl) (pe_op op_add pe_int (pe_call (ok_law_draw T) (hr.mono (by decide)) rfl T.law_draw.m T.law_draw.F.kp T.law_draw.b .nil passN (pa_cons (pv 0) (pa_cons (pv 1) (pa_cons (pe_call (ok_law_pick T) (hr.mono (by decide)) rfl T.law_pick.m T.law_pick.F.kp T.law_pick.b .nil passN (pa_cons (pv 0) (pa_cons (pv 1) (pa_cons (pe_lst (pa_cons pe_int (pa_cons (pv 3) (pa_cons (pv 3) pa_nil)))) pa_nil)))) pa_nil)))))) (pss_one (ps_expr (pe_bm PySem.F.plainAttrs_list PySem.F.slot_list_append PySem.F.type_list_append mt_append (pv 5) (pa_cons (pe_tup (pa_cons (pv 7) (pa_cons (pe_callB (call_min2 rfl) rfl T.n_min bt_min (pa_cons pe_int (pa_cons (pe_op op_add (pv 7) (pe_call (ok_law_draw T) (hr.mono (by decide)) rfl T.law_draw.m T.law_draw.F.kp T.law_draw.b .nil passN (pa_cons (pv 0) (pa_cons (pv 1) (pa_cons (pe_call (ok_law_pick T) (hr.mono (by decide)) rfl T.law_pick.m T.law_pick.F.kp T.law_pick.b .nil passN (pa_cons (pv 0) (pa_cons (pv 1) (pa_cons (pe_lst (pa_cons pe_int (pa_cons pe_int (pa_cons (pv 3) pa_nil)))) pa_nil)))) pa_nil))))) pa_nil))) pa_nil))) pa_nil)))))) (pss_one (ps_ret (pe_tup (pa_cons (pe_op op_add pe_int (pe_call (ok_law_draw T) (hr.mono (by decide)) rfl T.law_draw.m T.law_draw.F.kp T.law_draw.b .nil passN (pa_cons (pv 0) (pa_cons (pv 1) (pa_cons pe_int pa_nil))))) (pa_cons (pe_callTy call_tuple_of rfl T.n_tuple bt_tuple (pa_cons (pv 5) pa_nil)) pa_nil)))))))), ?_⟩
  -- many
  refine ⟨_, rfl, _, rfl, _, rfl, a, t, ns, n, most, rfl, hS, ht, by omega, by omega, fun r H1 r0 r1 g1 t1 => ?_⟩
  refine ⟨_, _, rfl, rfl, ?_⟩
  have hS1 := g1.scr ht hS
  -- bounds = []
  refine ⟨Nat.zero_le _, fun l hl => ?_⟩
  have hlt : l ≠ t := fun z => by rw [z, t1] at hl; cases hl
  have fl : H l = none := by
    cases e : H l with
    | none => rfl
    | some o => have := g1 l o hlt e; rw [hl] at this; cases this
  refine ⟨_, rfl, 1 + r, rfl, by omega, by omega, for_range (n := (1 + r).toNat) (fun i σ H2 => ∃ (n2 : Nat) (ws : List V) (bl : List (Int × Int)) (x y : Option V), σ = [some (.ref a), some (.ref t), some (.int most), some (.int wide), some (.int (1 + r)), some (.ref l), x, y] ∧
      SameX t H H2 ∧ H2 t = some (.lst (zeros n2)) ∧ n2 ≤ n + 1 + 4 * i ∧ H2 l = some (.lst ws) ∧ Reps H2 ws (bl.map encB) ∧ bl.length = i ∧ ∀ p ∈ bl, 1 ≤ p.1 ∧ p.1 ≤ p.2 ∧ p.2 ≤ 99 ∧ p.1 ≤ wide ∧ p.2 ≤ p.1 + wide - 1) ?_ ?_ ?_⟩
  · exact ⟨n + 1, [], [], none, none, rfl, g1.new hl _, by rw [upd_ne (Ne.symm hlt)]; exact t1, by omega, upd_same, .nil, rfl, fun p hp => nomatch hp⟩
  · rintro i σ H2 hi ⟨n2, ws, bl, x, y, rfl, g2, t2, hn2, hl2, rs, hbl, hb⟩
    have hi10 : i < 10 := by omega
    have hS2 := g2.scr ht hS
    -- low: pick([2, wide, wide]), draw
    refine ⟨_, rfl, _, rfl, _, rfl, _, rfl, _, rfl, _, rfl, (by show 3 ≤ sizeLine; decide), fun p hp => ?_⟩
    have hpt : p ≠ t := fun z => by rw [z, t2] at hp; cases hp
    have g3 := same_new hp (.lst [.int 2, .int wide, .int wide])
    refine ⟨a, t, p, ns, n2, _, rfl, hS2.same g3, g3 _ _ t2, by omega, upd_same, hpt, by simp, fun v H4 hv g4 t4 => ?_⟩
    obtain ⟨z, rfl, hz⟩ : ∃ z : Int, v = .int z ∧ 2 ≤ z ∧ z ≤ wide := by
      simp only [List.mem_cons, List.not_mem_nil, or_false] at hv
      rcases hv with rfl | rfl | rfl
      · exact ⟨2, rfl, by omega, by omega⟩
      · exact ⟨wide, rfl, by omega, by omega⟩
      · exact ⟨wide, rfl, by omega, by omega⟩
    have g24 : SameX t H2 H4 := (g3.x t).trans g4
    have hS4 := g24.scr t2 hS2
    refine ⟨a, t, ns, n2 + 1, z, rfl, hS4, t4, by omega, by omega, fun r1 H5 a1 a2 g5 t5 => ?_⟩
    have g25 : SameX t H2 H5 := g24.trans g5
    have hS5 := g25.scr t2 hS2
    refine ⟨_, _, rfl, rfl, ?_⟩
    -- append((low, min(99, low + draw(pick([1, 2, wide])))))
    have hl5 : H5 l = some (.lst ws) := g25 l _ hlt hl2
    refine ⟨_, rfl, .inl ⟨rfl, _, SqL.of hl5⟩, ?_⟩
    refine ⟨_, rfl, _, rfl, _, rfl, _, rfl, _, rfl, _, rfl, _, rfl, (by show 3 ≤ sizeLine; decide), fun p2 hp2 => ?_⟩
    have hpt2 : p2 ≠ t := fun z => by rw [z, t5] at hp2; cases hp2
    have g6 := same_new hp2 (.lst [.int 1, .int 2, .int wide])
    refine ⟨a, t, p2, ns, n2 + 2, _, rfl, hS5.same g6, g6 _ _ t5, by omega, upd_same, hpt2, by simp, fun v2 H7 hv2 g7 t7 => ?_⟩
    obtain ⟨z2, rfl, hz2⟩ : ∃ z : Int, v2 = .int z ∧ 1 ≤ z ∧ z ≤ wide := by
      simp only [List.mem_cons, List.not_mem_nil, or_false] at hv2
      rcases hv2 with rfl | rfl | rfl
      · exact ⟨1, rfl, by omega, by omega⟩
      · exact ⟨2, rfl, by omega, by omega⟩
      · exact ⟨wide, rfl, by omega, by omega⟩
    have g27 : SameX t H2 H7 := g25.trans ((g6.x t).trans g7)
    have hS7 := g27.scr t2 hS2
    refine ⟨a, t, ns, n2 + 3, z2, rfl, hS7, t7, by omega, by omega, fun r2 H8 b1 b2 g8 t8 => ?_⟩
    have g28 : SameX t H2 H8 := g27.trans g8
    refine ⟨_, _, rfl, rfl, _, _, rfl, (by show 2 ≤ sizeLine; decide), fun p3 hp3 => ?_⟩
    have hl8 : H8 l = some (.lst ws) := g28 l _ hlt hl2
    have hl9 := same_new hp3 (.tup [.int (1 + r1), .int (if 1 + r1 + r2 < 99 then 1 + r1 + r2 else 99)]) l _ hl8
    refine ⟨l, ws, .ref p3, rfl, rfl, hl9, ?_, ?_⟩
    · have := rs.length
      rw [List.length_map] at this
      exact Nat.lt_of_lt_of_le (show ws.length < 100 by omega) (by decide)
    refine ⟨n2 + 4, ws ++ [.ref p3], bl ++ [(1 + r1, if 1 + r1 + r2 < 99 then 1 + r1 + r2 else 99)], _, _, rfl, ?_, ?_, by omega, upd_same, ?_, by simp [hbl], fun p hp => ?_⟩
    · have e1 : SameX t H (upd H8 p3 (.tup [.int (1 + r1), .int (if 1 + r1 + r2 < 99 then 1 + r1 + r2 else 99)])) := (g2.trans g28).new hp3 _
      intro b o nb hb'
      rw [upd_ne (ne_of_none hb' fl)]
      exact e1 b o nb hb'
    · rw [upd_ne (Ne.symm hlt)]
      exact same_new hp3 _ _ _ t8
    · rw [List.map_append]
      have ts : TSame H2 (upd (upd H8 p3 (.tup [.int (1 + r1), .int (if 1 + r1 + r2 < 99 then 1 + r1 + r2 else 99)])) l (.lst (ws ++ [.ref p3]))) := (g28.ts t2).trans ((TSame.new hp3 _).trans (TSame.lst hl9 _))
      refine (rs.tmono ts (all_encB bl)).append (Reps.one (.tup ?_ (Reps.ints (ns := [_, _]))))
      rw [upd_ne (ne_of (upd_same (H := H8) (a := p3)) hl9 (by intro z; cases z)), upd_same]
      rfl
    · rcases List.mem_append.mp hp with hp | hp
      · exact hb p hp
      · have e := List.mem_singleton.mp hp
        subst e
        dsimp only
        split <;> omega
  · rintro σ H2 ⟨n2, ws, bl, x, y, rfl, g2, t2, hn2, hl2, rs, hbl, hb⟩
    have hS2 := g2.scr ht hS
    have hbl' : bl.length = (1 + r).toNat := hbl
    refine ⟨_, rfl, _, rfl, a, t, ns, n2, 4, rfl, hS2, t2, by omega, by decide, fun r3 H3 c1 c2 g3 t3 => ?_⟩
    have hl3 : H3 l = some (.lst ws) := g3 l _ hlt hl2
    refine ⟨_, _, rfl, rfl, _, rfl, l, ws, rfl, .inl ⟨SqL.of hl3, fun p hp => ?_⟩⟩
    refine ⟨by show 2 ≤ sizeLine; decide, fun p2 hp2 => ?_⟩
    have ts : TSame H2 (upd (upd H3 p (.tup ws)) p2 (.tup [.int (1 + r3), .ref p])) := (g3.ts t2).trans ((TSame.new hp _).trans (TSame.new hp2 _))
    have hpp : p ≠ p2 := ne_of_none (upd_same (H := H3) (a := p)) hp2
    refine q ⟨1 + r3, bl⟩ _ n2.succ _ ⟨by show 1 ≤ 1 + r3; omega, by show 1 + r3 ≤ 4; omega, by show 1 ≤ bl.length; omega, by show bl.length ≤ 10; omega, fun p hp => ?_⟩ (by show (bl.length : Int) ≤ most; omega) (fun p hp => ?_) ?_ (((g2.trans g3).new hp _).new hp2 _) ?_ (by omega)
    · have := hb p hp
      exact ⟨this.1, this.2.1, this.2.2.1⟩
    · have := hb p hp
      exact ⟨this.2.2.2.1, this.2.2.2.2⟩
    · exact .tup upd_same (.cons (.int _) (.cons (.tup (by rw [upd_ne hpp, upd_same]) (rs.tmono ts (all_encB bl))) .nil))
    · rw [upd_ne (fun z => by rw [← z, upd_ne (fun z2 => by rw [← z2, t3] at hp; cases hp), t3] at hp2; cases hp2), upd_ne (fun z2 => by rw [← z2, t3] at hp; cases hp)]
      exact t3
end
end Be
set_option Elab.async false
set_option linter.all false
set_option maxRecDepth 100000
namespace Be
open PySem L2
/-! ### what a world is, on data -/
def wholeIn (d : PyData) (lo hi : Int) : Bool := match d with
  | .int i => decide (lo ≤ i) && decide (i ≤ hi)
  | _ => false
def isPairD : PyData → Bool
  | .tuple ds => decide (ds.length = 2)
  | _ => false
def bowD : PyData → Bool
  | .tuple [.int i, b] => wholeIn (.int i) 1 99 && wholeIn b i 99
  | _ => false
def arBD : PyData → Bool
  | .tuple ds => decide (1 ≤ ds.length) && decide (ds.length ≤ 10) && ds.all bowD
  | _ => false
def isWD : PyData → Bool
  | .tuple [b, x] => wholeIn b 1 4 && arBD x
  | _ => false
theorem pair_of {d : PyData} (h : isPairD d = true) : ∃ x y, d = .tuple [x, y] := by
  cases d with
  | tuple ds =>
    have := of_decide_eq_true (show decide (ds.length = 2) = true from h)
    match ds, this with
    | [x, y], _ => exact ⟨x, y, rfl⟩
  | _ => cases h
theorem bow_no {d : PyData} (h : isPairD d = false) : bowD d = false := by
  unfold bowD
  split
  · cases h
  · rfl
theorem isW_no {d : PyData} (h : isPairD d = false) : isWD d = false := by
  unfold isWD
  split
  · cases h
  · rfl
section
variable {P : Program} {w : World} {K : PySem.W.Frag} {mg : Str → Option Value} {base : Heap}
def sp_whole : Sp := fun vs H Q _ => ∃ (v : V) (d : PyData) (lo hi : Int), vs = [v, .int lo, .int hi] ∧ Rep H v d ∧ Q (.bl (wholeIn d lo hi)) H
theorem ok_is_whole_within (T : Txt K mg) : FnOk P w K mg base (CXr P w) 1 T.is_whole_within.a T.is_whole_within.d ["thing", "least", "most"] sp_whole := by
  refine T.is_whole_within.F.okN sc_is_whole_within (fun vs H Q E h => ?_) (fun cdv A outer s H vs Q E hr h => ?_)
  · obtain ⟨v, d, lo, hi, rfl, _⟩ := h; rfl
  obtain ⟨v, d, lo, hi, rfl, hd, q⟩ := h
  refine ⟨_, (pss_cons (ps_if (PW.pt (pw_or (pt_not (pt_val (pe_callB (call_isi kit_int) rfl T.n_isinstance bt_isinstance (pa_cons (pv 0) (pa_cons (pe_bltn (v := .ty "int") rfl T.n_int bt_int rfl) pa_nil))))) (pw_or1 (pt_val (pe_callB (call_isi kit_bool) rfl T.n_isinstance bt_isinstance (pa_cons (pv 0) (pa_cons (pe_bltn (v := .ty "bool") rfl T.n_bool bt_bool rfl) pa_nil))))))) (pss_one (ps_ret pe_bl)) pss_nil) (pss_one (ps_ret (pe_chain op_le op_le (pv 1) (pv 0) (pv 2))))), ?_⟩
  refine ⟨_, rfl, v, d, rfl, hd, _, rfl, ?_⟩
  cases hd with
  | non => exact iteT (iteT q)
  | str x => exact iteT (iteT q)
  | lst e r => exact iteT (iteT q)
  | tup e r => exact iteT (iteT q)
  | bl b => exact iteF ⟨_, rfl, _, _, rfl, .bl b, _, rfl, iteT q⟩
  | int i =>
    refine iteF ⟨_, rfl, _, _, rfl, .int i, _, rfl, iteF ?_⟩
    refine ⟨_, rfl, _, rfl, _, _, rfl, rfl, _, rfl, ?_⟩
    refine ite2 (fun c => ?_) (fun c => ?_)
    · refine ⟨_, rfl, _, _, rfl, rfl, ?_⟩
      have e : wholeIn (.int i) lo hi = decide (i ≤ hi) := by show (decide (lo ≤ i) && decide (i ≤ hi)) = _; rw [c]; rfl
      rw [e] at q
      exact q
    · have e : wholeIn (.int i) lo hi = false := by show (decide (lo ≤ i) && decide (i ≤ hi)) = _; rw [Bool.eq_false_iff.mpr c]; rfl
      rw [e] at q
      exact q
def sp_pair : Sp := fun vs H Q _ => ∃ (v : V) (d : PyData), vs = [v] ∧ Rep H v d ∧ Q (.bl (isPairD d)) H
theorem ok_is_pair (T : Txt K mg) : FnOk P w K mg base (CXr P w) 1 T.is_pair.a T.is_pair.d ["thing"] sp_pair := by
  refine T.is_pair.F.okN sc_is_pair (fun vs H Q E h => ?_) (fun cdv A outer s H vs Q E hr h => ?_)
  · obtain ⟨v, d, rfl, _⟩ := h; rfl
  obtain ⟨v, d, rfl, hd, q⟩ := h
  refine ⟨_, (pss_one (ps_ret (pe_and (pe_callB (call_isi kit_tuple) rfl T.n_isinstance bt_isinstance (pa_cons (pv 0) (pa_cons (pe_bltn (v := .ty "tuple") rfl T.n_tuple bt_tuple rfl) pa_nil))) (pe_one (pe_cmpR op_eq (pe_callB call_len_seq rfl T.n_len bt_len (pa_cons (pv 0) pa_nil)) pe_int (nomark _)))))), ?_⟩
  refine ⟨_, rfl, v, d, rfl, hd, _, rfl, ?_⟩
  cases hd with
  | non => exact iteF q
  | str x => exact iteF q
  | bl b => exact iteF q
  | int i => exact iteF q
  | lst e r => exact iteF q
  | @tup a vs ds e r =>
    refine iteT ⟨_, rfl, a, _, rfl, .inr (SqT.of e), rfl, ?_⟩
    have z : decide (V.int (vs.length : Int) = V.int 2) = isPairD (.tuple ds) := by
      show _ = decide (ds.length = 2)
      rw [r.length]
      by_cases h2 : ds.length = 2
      · rw [h2]; rfl
      · rw [decide_eq_false h2, decide_eq_false]
        intro z
        have := V.int.inj z
        omega
    rw [z]
    exact q
def sp_bow : Sp := fun vs H Q _ => ∃ (v : V) (d : PyData), vs = [v] ∧ Rep H v d ∧ Q (.bl (bowD d)) H
theorem ok_are_bounds_of_work (T : Txt K mg) : FnOk P w K mg base (CXr P w) 2 T.are_bounds_of_work.a T.are_bounds_of_work.d ["thing"] sp_bow := by
  refine T.are_bounds_of_work.F.okN sc_are_bounds_of_work (fun vs H Q E h => ?_) (fun cdv A outer s H vs Q E hr h => ?_)
  · obtain ⟨v, d, rfl, _⟩ := h; rfl
  obtain ⟨v, d, rfl, hd, q⟩ := h
  refine ⟨_, (pss_cons (ps_if (PW.pt (pw_or (pt_not (pt_val (pe_call (ok_is_pair T) (hr.mono (by decide)) rfl T.is_pair.m T.is_pair.F.kp T.is_pair.b .nil passN (pa_cons (pv 0) pa_nil)))) (pw_or1 (pt_not (pt_val (pe_call (ok_is_whole_within T) (hr.mono (by decide)) rfl T.is_whole_within.m T.is_whole_within.F.kp T.is_whole_within.b .nil passN (pa_cons (pe_ix ix_tup (pv 0) pe_int (fun _ _ => rfl)) (pa_cons pe_int (pa_cons (pe_glob (v := .int 99) rfl T.c_MOST_LENGTH.choose_spec ⟨_, rfl⟩) pa_nil))))))))) (pss_one (ps_ret pe_bl)) pss_nil) (pss_one (ps_ret (pe_call (ok_is_whole_within T) (hr.mono (by decide)) rfl T.is_whole_within.m T.is_whole_within.F.kp T.is_whole_within.b .nil passN (pa_cons (pe_ix ix_tup (pv 0) pe_int (fun _ _ => rfl)) (pa_cons (pe_ix ix_tup (pv 0) pe_int (fun _ _ => rfl)) (pa_cons (pe_glob (v := .int 99) rfl T.c_MOST_LENGTH.choose_spec ⟨_, rfl⟩) pa_nil))))))), ?_⟩
  refine ⟨_, rfl, v, d, rfl, hd, _, rfl, ?_⟩
  cases hp : isPairD d with
  | false =>
    rw [bow_no hp] at q
    exact iteT (iteT q)
  | true =>
    obtain ⟨x, y, rfl⟩ := pair_of hp
    obtain ⟨a, vs, rfl, ha, rs⟩ := hd.tup_inv
    cases rs with
    | @cons v1 _ _ _ r1 rs =>
      cases rs with
      | @cons v2 _ _ _ r2 rs =>
        cases rs
        refine iteF ⟨_, rfl, a, _, _, _, rfl, rfl, SqT.of ha, rfl, _, x, 1, 99, rfl, r1, _, rfl, ?_⟩
        cases hx : wholeIn x 1 99 with
        | false =>
          have e : bowD (.tuple [x, y]) = false := by
            cases x with
            | int i => show (wholeIn (.int i) 1 99 && _) = false; rw [hx]; rfl
            | _ => rfl
          rw [e] at q
          exact iteT q
        | true =>
          cases r1 with
          | int i =>
            refine iteF ?_
            refine ⟨_, rfl, a, _, _, _, rfl, rfl, SqT.of ha, rfl, _, rfl, a, _, _, _, rfl, rfl, SqT.of ha, rfl, v2, y, i, 99, rfl, r2, ?_⟩
            have e : bowD (.tuple [.int i, y]) = wholeIn y i 99 := by show (wholeIn (.int i) 1 99 && _) = _; rw [hx]; rfl
            rw [e] at q
            exact q
          | _ => cases hx
def sp_arb : Sp := fun vs H Q _ => ∃ (v : V) (d : PyData), vs = [v] ∧ Rep H v d ∧ ∀ H', Same H H' → Q (.bl (arBD d)) H'
theorem ok_are_bounds (T : Txt K mg) : FnOk P w K mg base (CXr P w) 3 T.are_bounds.a T.are_bounds.d ["thing"] sp_arb := by
  refine T.are_bounds.F.okN sc_are_bounds (fun vs H Q E h => ?_) (fun cdv A outer s H vs Q E hr h => ?_)
  · obtain ⟨v, d, rfl, _⟩ := h; rfl
  obtain ⟨v, d, rfl, hd, q⟩ := h
  refine ⟨_, (pss_cons (ps_if (PW.pt (pw_or (pt_not (pt_val (pe_callB (call_isi kit_tuple) rfl T.n_isinstance bt_isinstance (pa_cons (pv 0) (pa_cons (pe_bltn (v := .ty "tuple") rfl T.n_tuple bt_tuple rfl) pa_nil))))) (pw_or1 (pt_not (pt_chain op_le op_le pe_int (pe_callB call_len_seq rfl T.n_len bt_len (pa_cons (pv 0) pa_nil)) (pe_glob (v := .int 10) rfl T.c_MOST_WORKS.choose_spec ⟨_, rfl⟩)))))) (pss_one (ps_ret pe_bl)) pss_nil) (pss_one (ps_ret (pe_callB (call_allL rfl) rfl T.n_all bt_all (pa_cons (pe_comp (NB := ["part"]) (js := [none]) rfl (blkOk_of rfl (by decide +kernel) rfl (by decide +kernel) (by decide +kernel) (by with_unfolding_all rfl) (by with_unfolding_all rfl) (by with_unfolding_all rfl) (by with_unfolding_all rfl)) (pi_tup (pv 0)) (fun _ _ _ _ => (pg_name (i := 0) (show (["part"] : List Str).Nodup by decide +kernel) rfl (by first | exact Or.inl rfl | exact Or.inr rfl))) (fun _ _ _ _ => pf_nil) (fun _ _ _ _ => (pe_call (ok_are_bounds_of_work T) (hr.mono (by decide)) rfl T.are_bounds_of_work.m T.are_bounds_of_work.F.kp T.are_bounds_of_work.b .nil passN (pa_cons (pv 0) pa_nil)))) pa_nil))))), ?_⟩
  refine ⟨_, rfl, v, d, rfl, hd, _, rfl, ?_⟩
  cases hd with
  | non => exact iteT (iteT (q H (Same.refl H)))
  | str x => exact iteT (iteT (q H (Same.refl H)))
  | bl b => exact iteT (iteT (q H (Same.refl H)))
  | int i => exact iteT (iteT (q H (Same.refl H)))
  | lst e r => exact iteT (iteT (q H (Same.refl H)))
  | @tup a vs ds e r =>
    have hl := r.length
    refine iteF ⟨_, rfl, a, _, rfl, .inr (SqT.of e), _, _, rfl, rfl, _, rfl, ?_⟩
    refine ite2 (fun c1 => ?_) (fun c1 => ?_)
    · have c1' : 1 ≤ (vs.length : Int) := of_decide_eq_true c1
      refine ⟨_, _, rfl, rfl, _, rfl, ?_⟩
      refine ite2 (fun c2 => ?_) (fun c2 => ?_)
      · have c2' : ¬ ((vs.length : Int) ≤ 10) := by simpa using c2
        have no : arBD (.tuple ds) = false := by
          show (_ && decide (ds.length ≤ 10) && _) = false
          rw [decide_eq_false (show ¬ ds.length ≤ 10 by omega)]; simp
        rw [no] at q
        exact q H (Same.refl H)
      · have c2' : (vs.length : Int) ≤ 10 := by simpa using c2
        have yes : arBD (.tuple ds) = ds.all bowD := by
          show (decide (1 ≤ ds.length) && decide (ds.length ≤ 10) && ds.all bowD) = _
          rw [decide_eq_true (show 1 ≤ ds.length by omega), decide_eq_true (show ds.length ≤ 10 by omega)]; rfl
        rw [yes] at q
        refine ⟨_, rfl, a, rfl, ⟨_, SqT.of e⟩, fun D hD => ?_⟩
        refine comp_tup (K := K) (a := a) (xs := vs) (Q := fun x H1 => rAll [x] H1 Q) (fun i ys H2 => Same H H2 ∧ H2 D = some (.lst ys) ∧ ys = ((ds.take i).map bowD).map V.bl) ⟨same_new hD _, upd_same, rfl⟩ (fun i ys H2 _ hP => SqT.of (hP.1 _ _ e)) (fun i ys x H2 hx hP => ?_) (fun ys H2 hP => ?_)
        · obtain ⟨g, hD2, rfl⟩ := hP
          obtain ⟨d, hd, rx⟩ := (r.mono g).get' hx
          have hi : i < ds.length := (List.getElem?_eq_some_iff.mp hd).1
          refine ⟨agree0, iteT ⟨_, rfl, x, d, rfl, rx, hD2, ?_, g.write hD _, upd_same, ?_⟩⟩
          · rw [List.length_map, List.length_map]
            have := List.length_take_le i ds
            exact Nat.lt_of_lt_of_le (show _ < 100 by omega) (by decide)
          · rw [List.take_add_one, hd, List.map_append, List.map_append]; rfl
        · obtain ⟨g, hD2, rfl⟩ := hP
          rw [hl, List.take_length] at hD2
          refine ⟨D, _, rfl, hD2, ?_⟩
          rw [List.all_map]
          exact q H2 g
    · refine ⟨_, rfl, iteT ?_⟩
      have c1' : ¬ (1 ≤ (vs.length : Int)) := of_decide_eq_false (Bool.eq_false_iff.mpr c1)
      have no : arBD (.tuple ds) = false := by
        show (decide (1 ≤ ds.length) && _ && _) = false
        rw [decide_eq_false (show ¬ 1 ≤ ds.length by omega)]; simp
      rw [no] at q
      exact q H (Same.refl H)
def sp_isw : Sp := fun vs H Q _ => ∃ (v : V) (d : PyData), vs = [v] ∧ Rep H v d ∧ ∀ H', Same H H' → Q (.bl (isWD d)) H'
theorem ok_is_world (T : Txt K mg) : FnOk P w K mg base (CXr P w) 4 T.is_world.a T.is_world.d ["thing"] sp_isw := by
  refine T.is_world.F.okN sc_is_world (fun vs H Q E h => ?_) (fun cdv A outer s H vs Q E hr h => ?_)
  · obtain ⟨v, d, rfl, _⟩ := h; rfl
  obtain ⟨v, d, rfl, hd, q⟩ := h
  refine ⟨_, (pss_one (ps_ret (pe_and (pe_call (ok_is_pair T) (hr.mono (by decide)) rfl T.is_pair.m T.is_pair.F.kp T.is_pair.b .nil passN (pa_cons (pv 0) pa_nil)) (pe_and (pe_call (ok_is_whole_within T) (hr.mono (by decide)) rfl T.is_whole_within.m T.is_whole_within.F.kp T.is_whole_within.b .nil passN (pa_cons (pe_ix ix_tup (pv 0) pe_int (fun _ _ => rfl)) (pa_cons pe_int (pa_cons (pe_glob (v := .int 4) rfl T.c_MOST_BENCHES.choose_spec ⟨_, rfl⟩) pa_nil)))) (pe_one (pe_call (ok_are_bounds T) (hr.mono (by decide)) rfl T.are_bounds.m T.are_bounds.F.kp T.are_bounds.b .nil passN (pa_cons (pe_ix ix_tup (pv 0) pe_int (fun _ _ => rfl)) pa_nil))))))), ?_⟩
  refine ⟨_, rfl, v, d, rfl, hd, _, rfl, ?_⟩
  cases hp : isPairD d with
  | false =>
    rw [isW_no hp] at q
    exact iteF (q H (Same.refl H))
  | true =>
    obtain ⟨x, y, rfl⟩ := pair_of hp
    obtain ⟨a, vs, rfl, ha, rs⟩ := hd.tup_inv
    cases rs with
    | @cons v1 _ _ _ r1 rs =>
      cases rs with
      | @cons v2 _ _ _ r2 rs =>
        cases rs
        refine iteT ⟨_, rfl, a, _, _, _, rfl, rfl, SqT.of ha, rfl, v1, x, 1, 4, rfl, r1, _, rfl, ?_⟩
        cases hx : wholeIn x 1 4 with
        | false =>
          have e : isWD (.tuple [x, y]) = false := by show (wholeIn x 1 4 && _) = false; rw [hx]; rfl
          rw [e] at q
          exact iteF (q H (Same.refl H))
        | true =>
          have e : isWD (.tuple [x, y]) = arBD y := by show (wholeIn x 1 4 && _) = _; rw [hx]; rfl
          rw [e] at q
          exact iteT ⟨_, rfl, a, _, _, _, rfl, rfl, SqT.of ha, rfl, v2, y, rfl, r2, fun H' g => q H' g⟩
def sp_cw (T : Txt K mg) : Sp := fun vs H Q E => ∃ (v : V) (d : PyData), vs = [v] ∧ Rep H v d ∧ (isWD d = true → ∀ H', Same H H' → Q .non H') ∧ (isWD d = false → ∀ H', Same H H' → E (.ref T.e_NoWorld.C) none H')
theorem ok_check_world (T : Txt K mg) : FnOk P w K mg base (CXr P w) 5 T.check_world.a T.check_world.d ["world"] (sp_cw T) := by
  refine T.check_world.F.okR sc_check_world (fun vs H Q E h => ?_) (fun cdv A outer s H vs Q E hr h => ?_)
  · obtain ⟨v, d, rfl, _⟩ := h; rfl
  obtain ⟨v, d, rfl, hd, q1, q2⟩ := h
  refine ⟨_, (pss_one (ps_if (pt_not (pt_val (pe_call (ok_is_world T) (hr.mono (by decide)) rfl T.is_world.m T.is_world.F.kp T.is_world.b .nil passN (pa_cons (pv 0) pa_nil)))) (pss_one (ps_raise T.e_NoWorld.m T.e_NoWorld.q PySem.F.excBase_ValueError hr.hd pe_str rfl)) pss_nil)), ?_⟩
  refine ⟨_, rfl, v, d, rfl, hd, fun H' g => ⟨_, rfl, ?_⟩⟩
  cases hw : isWD d with
  | true => exact iteF (q1 hw H' g)
  | false => exact iteT ⟨by show 1 ≤ sizeLine; decide, q2 hw H' g⟩
end
end Be
set_option Elab.async false
set_option linter.all false
set_option maxRecDepth 100000
namespace Be
open PySem L2
section
variable {P : Program} {w : World} {K : PySem.W.Frag} {mg : Str → Option Value} {base : Heap}
/-- the works that run, as a new list; the order a tuple or a list of ints -/
def sp_running (K : PySem.W.Frag) : Sp := fun vs H Q _ => ∃ (v : V) (p : Addr) (W : Wd) (o : List Int), vs = [v, .ref p] ∧ Rep H v (encW W) ∧ W.Ok ∧ (SqL K H p (o.map V.int) ∨ SqT K H p (o.map V.int)) ∧ o.length ≤ 100 ∧
  ∀ (r : Addr) (H' : Hp), Same H H' → H r = none → H' r = some (.lst ((runM W o).map V.int)) → Q (.ref r) H'
theorem run_pre (o : List Int) (i : Nat) : ((upto (i + 1)).filter fun x => decide (x ∉ o)) = ((upto i).filter fun x => decide (x ∉ o)) ++ (if (i : Int) ∈ o then [] else [(i : Int)]) := by
  rw [upto_succ, List.filter_append]
  by_cases h : (i : Int) ∈ o <;> simp [h]
end
end Be
set_option Elab.async false
set_option linter.all false
set_option maxRecDepth 100000
namespace L2
open PySem PySem.Spec PyProof.Rows

/-! ### lists of pairs as tables -/
section
variable {κ : Type} [DecidableEq κ]
def valV (kvs : List (κ × V)) (k : κ) : Option V := (kvs.find? fun kv => decide (kv.1 = k)).map (·.2)
/-- in its place, or at the end -/
def putK (kvs : List (κ × V)) (k : κ) (v : V) : List (κ × V) :=
  if (kvs.any fun kv => decide (kv.1 = k)) = true then kvs.map (fun kv => if kv.1 = k then (kv.1, v) else kv) else kvs ++ [(k, v)]
theorem valV_pos {p : κ × V} {r : List (κ × V)} {k : κ} (e : p.1 = k) : valV (p :: r) k = some p.2 := by simp [valV, List.find?_cons, e]
theorem valV_neg {p : κ × V} {r : List (κ × V)} {k : κ} (e : ¬ p.1 = k) : valV (p :: r) k = valV r k := by simp [valV, List.find?_cons, e]
theorem valV_any (k : κ) : ∀ kvs : List (κ × V), (kvs.any fun kv => decide (kv.1 = k)) = (valV kvs k).isSome
  | [] => rfl
  | p :: r => by
    rw [List.any_cons]
    by_cases e : p.1 = k
    · simp only [valV_pos e, decide_eq_true e, Bool.true_or, Option.isSome_some]
    · rw [valV_neg e, decide_eq_false e, Bool.false_or]; exact valV_any k r
theorem length_putK (kvs : List (κ × V)) (k : κ) (v : V) : (putK kvs k v).length ≤ kvs.length + 1 := by
  unfold putK
  split
  · rw [List.length_map]; omega
  · rw [List.length_append, List.length_cons, List.length_nil]; omega
theorem putK_new {kvs : List (κ × V)} {k : κ} (v : V) (h : valV kvs k = none) : putK kvs k v = kvs ++ [(k, v)] := by
  unfold putK
  rw [valV_any, h]
  exact if_neg (by decide)

theorem RelO.isSome_eq {o : Option V} {u : Option Value} (r : RelO o u) : o.isSome = u.isSome := by
  cases o with
  | none => cases u with
    | none => rfl
    | some _ => exact (show False from r).elim
  | some _ => cases u with
    | none => exact (show False from r).elim
    | some _ => rfl
/-- raw tables of the same keys -/
theorem KV.val {kvs : List (κ × V)} {vs : List (κ × Value)} (r : KV kvs vs) (k : κ) : RelO (valV kvs k) (valueAt vs k) := by
  unfold KV at r
  induction r with
  | nil => exact True.intro
  | @cons p q ps qs h t ih =>
    obtain ⟨h1, h2⟩ := h
    by_cases e : p.1 = k
    · have e' : q.1 = k := h1.symm.trans e
      have b : valueAt (q :: qs) k = some q.2 := by simp [valueAt, List.find?_cons, e']
      rw [valV_pos e, b]; exact h2
    · have e' : ¬ q.1 = k := fun z => e (h1.trans z)
      have b : valueAt (q :: qs) k = valueAt qs k := by simp [valueAt, List.find?_cons, e']
      rw [valV_neg e, b]; exact ih
theorem KV.any {kvs : List (κ × V)} {vs : List (κ × Value)} (r : KV kvs vs) (k : κ) : (kvs.any fun kv => decide (kv.1 = k)) = vs.any fun kv => decide (kv.1 = k) := by
  unfold KV at r
  induction r with
  | nil => rfl
  | cons h t ih => rw [List.any_cons, List.any_cons, ih, h.1]
theorem KV.repl {kvs : List (κ × V)} {vs : List (κ × Value)} (r : KV kvs vs) (k : κ) {y : V} {u : Value} (ry : RelV y u) :
    KV (kvs.map fun kv => if kv.1 = k then (kv.1, y) else kv) (vs.map fun kv => if kv.1 = k then (kv.1, u) else kv) := by
  unfold KV at r ⊢
  induction r with
  | nil => exact .nil
  | @cons p q ps qs h t ih =>
    rw [List.map_cons, List.map_cons]
    refine .cons ?_ ih
    obtain ⟨h1, h2⟩ := h
    by_cases e : p.1 = k
    · rw [if_pos e, if_pos (h1.symm.trans e)]; exact ⟨h1, ry⟩
    · rw [if_neg e, if_neg (fun z => e (h1.trans z))]; exact ⟨h1, h2⟩
theorem KV.put {kvs : List (κ × V)} {vs : List (κ × Value)} (r : KV kvs vs) (k : κ) {y : V} {u : Value} (ry : RelV y u) : KV (putK kvs k y) (stored vs k u) := by
  unfold putK stored
  rw [r.any k]
  by_cases e : (vs.any fun kv => decide (kv.1 = k)) = true
  · rw [if_pos e, if_pos e]; exact r.repl k ry
  · rw [if_neg e, if_neg e]; exact Paired.snoc r ⟨rfl, ry⟩
theorem KV.length {kvs : List (κ × V)} {vs : List (κ × Value)} (r : KV kvs vs) : kvs.length = vs.length := Paired.length r
end


/-! ### a tracked dict, its keys ints and texts or tuples of these -/
theorem kV_is {P : Program} {w : World} {k : Key} {u : Value} (r : RelV (kV k) u) : (mixKind P w).is k u = true := by
  cases k with
  | inl i => obtain ⟨t, e⟩ := (show ∃ t, u = Value.int i t from r); subst e; exact mixKind_int P w i t
  | inr x => obtain ⟨t, e⟩ := (show ∃ t, u = Value.str x t from r); subst e; exact mixKind_str P w x t
theorem items_are {P : Program} {w : World} : ∀ {ks : List Key} {us : List Value}, Vals (ks.map kV) us → ItemsAre (mixKind P w) ks us
  | [], _, r => by rw [List.map_nil] at r; cases r; exact .nil
  | k :: ks, _, r => by
    rw [List.map_cons] at r
    cases r with
    | cons h t => exact .cons (kV_is h) (items_are t)

/-- raw entries of a dict with tuple keys -/
abbrev KT (H : Hp) : List (List Key × V) → List (List Key × Addr × Value) → Prop := Paired fun p q => p.1 = q.1 ∧ H q.2.1 = some (.tup (p.1.map kV)) ∧ RelV p.2 q.2.2
theorem KT.val {H : Hp} {kvs : List (List Key × V)} {xs : List (List Key × Addr × Value)} (r : KT H kvs xs) (k : List Key) : RelO (valV kvs k) ((atKey xs k).map (·.2)) := by
  induction r with
  | nil => exact True.intro
  | @cons p q ps qs h t ih =>
    obtain ⟨h1, _, h2⟩ := h
    by_cases e : p.1 = k
    · have e' : q.1 = k := h1.symm.trans e
      have b : atKey (q :: qs) k = some q.2 := by simp [atKey, List.find?_cons, e']
      rw [valV_pos e, b]; exact h2
    · have e' : ¬ q.1 = k := fun z => e (h1.trans z)
      have b : atKey (q :: qs) k = atKey qs k := by simp [atKey, List.find?_cons, e']
      rw [valV_neg e, b]; exact ih
theorem KT.repl {H : Hp} {kvs : List (List Key × V)} {xs : List (List Key × Addr × Value)} (r : KT H kvs xs) (k : List Key) {y : V} {u : Value} (ry : RelV y u) :
    KT H (kvs.map fun kv => if kv.1 = k then (kv.1, y) else kv) (xs.map (putAt k u)) := by
  induction r with
  | nil => exact .nil
  | @cons p q ps qs h t ih =>
    rw [List.map_cons, List.map_cons]
    refine .cons ?_ ih
    obtain ⟨h1, h2, h3⟩ := h
    unfold putAt
    by_cases e : p.1 = k
    · rw [if_pos e, if_pos (h1.symm.trans e)]; exact ⟨h1, h2, ry⟩
    · rw [if_neg e, if_neg (fun z => e (h1.trans z))]; exact ⟨h1, h2, h3⟩
theorem KT.put {H : Hp} {kvs : List (List Key × V)} {xs : List (List Key × Addr × Value)} (r : KT H kvs xs) (k : List Key) {b : Addr} {y : V} {u : Value} (hb : H b = some (.tup (k.map kV))) (ry : RelV y u) :
    KT H (putK kvs k y) (storedH xs k b u) := by
  have e : (kvs.any fun kv => decide (kv.1 = k)) = (atKey xs k).isSome := by
    rw [valV_any, (r.val k).isSome_eq, Option.isSome_map]
  unfold putK storedH
  rw [e]
  by_cases q : (atKey xs k).isSome = true
  · rw [if_pos q, if_pos q]; exact r.repl k ry
  · rw [if_neg q, if_neg q]; exact Paired.snoc r ⟨rfl, hb, ry⟩
theorem KT.keeps {H H' : Hp} {kvs : List (List Key × V)} {xs : List (List Key × Addr × Value)} (r : KT H kvs xs) (ht : ∀ b ys, H b = some (.tup ys) → H' b = some (.tup ys)) : KT H' kvs xs :=
  Paired.mapP r fun _ _ z => ⟨z.1, ht _ _ z.2.1, z.2.2⟩

section
variable {P : Program} {w : World} {H : Hp} {h : Heap} {a : Addr}
theorem rd_of {u : HO} (ok : HOk P w H h) (e : Rd H a u) : ObjOk P w H h a u := e.ok ok
theorem dk_rd {kvs : List (Key × V)} (ok : HOk P w H h) (e : Rd H a (.dK kvs)) : kvs.length ≤ sizeLine ∧ (a == sysModules) = false ∧ ∃ vs, KV kvs vs ∧ h.DictOf (mixKind P w) a vs :=
  show ObjOk P w H h a (.dK kvs) from rd_of ok e
theorem dk_of {kvs : List (Key × V)} (ok : HOk P w H h) (e : H a = some (.dK kvs)) : kvs.length ≤ sizeLine ∧ (a == sysModules) = false ∧ ∃ vs, KV kvs vs ∧ h.DictOf (mixKind P w) a vs := dk_rd ok (.inl e)
/-- a tracked tuple of ints and texts is a key -/
theorem key_of {ks : List Key} (ok : HOk P w H h) (e : H a = some (.tup (ks.map kV))) : (tupleKind (mixKind P w)).is h ks a := by
  obtain ⟨_, its, r, o, h1, h2, _, n, h3⟩ := (show ObjOk P w H h a (.tup (ks.map kV)) from ok a _ e)
  exact ⟨o, its.toArray, n, h1, h2, h3, by simpa using items_are r⟩
theorem dt_rd {kvs : List (List Key × V)} (ok : HOk P w H h) (e : Rd H a (.dT kvs)) : kvs.length ≤ sizeLine ∧ (a == sysModules) = false ∧
    ∃ xs, KT H kvs xs ∧ h.DictOfH (tupleKind (mixKind P w)) a xs := by
  obtain ⟨z, y, xs, r, o, es, ep, h1, h2, h3, h4, h5⟩ := (show ObjOk P w H h a (.dT kvs) from rd_of ok e)
  refine ⟨z, y, xs, r, o, es, ep, h1, h2, h3, h4, fun x hx => ?_, h5⟩
  have all : ∀ {l : List (List Key × V)} {m : List (List Key × Addr × Value)}, KT H l m → ∀ x ∈ m, (tupleKind (mixKind P w)).is h x.1 x.2.1 := by
    intro l m q
    induction q with
    | nil => intro x hx; exact nomatch hx
    | @cons p q ps qs hq t ih =>
      intro x hx
      rcases List.mem_cons.mp hx with e | hx
      · subst e
        exact key_of ok (by rw [← hq.1]; exact hq.2.1)
      · exact ih x hx
  exact all r x hx
theorem dt_of {kvs : List (List Key × V)} (ok : HOk P w H h) (e : H a = some (.dT kvs)) : kvs.length ≤ sizeLine ∧ (a == sysModules) = false ∧
    ∃ xs, KT H kvs xs ∧ h.DictOfH (tupleKind (mixKind P w)) a xs := dt_rd ok (.inl e)
end

/-- what the dict at a holds at the key y -/
def DGet (H : Hp) (a : Addr) (y : V) (r : Option V) : Prop :=
  (∃ kvs k, Rd H a (.dK kvs) ∧ y = kV k ∧ r = valV kvs k) ∨ ∃ kvs k b, Rd H a (.dT kvs) ∧ y = .ref b ∧ H b = some (.tup (k.map kV)) ∧ r = valV kvs k
/-- the heap behind a[y] = v -/
def DPut (H : Hp) (a : Addr) (y v : V) (H' : Hp) : Prop :=
  (∃ kvs k, H a = some (.dK kvs) ∧ y = kV k ∧ kvs.length < sizeLine ∧ H' = upd H a (.dK (putK kvs k v))) ∨
  ∃ kvs k b, H a = some (.dT kvs) ∧ y = .ref b ∧ H b = some (.tup (k.map kV)) ∧ kvs.length < sizeLine ∧ H' = upd H a (.dT (putK kvs k v))
theorem DGet.k {H : Hp} {a : Addr} {kvs : List (Key × V)} {k : Key} (e : H a = some (.dK kvs)) : DGet H a (kV k) (valV kvs k) := .inl ⟨kvs, k, .inl e, rfl, rfl⟩
theorem DPut.k {H : Hp} {a : Addr} {kvs : List (Key × V)} {k : Key} {v : V} (e : H a = some (.dK kvs)) (hl : kvs.length < sizeLine) : DPut H a (kV k) v (upd H a (.dK (putK kvs k v))) := .inl ⟨kvs, k, e, rfl, hl, rfl⟩
section
variable {X : Cx} {pins : List (Addr × Obj)} {σ : St} {H : Hp} {s : Shared} {a : Addr} {y v : V} {u r : Value} {o : Option V} {A : Around} {E : Value → Shared → Prop}

theorem Inv.big (I : Inv X pins σ H s) : sysModules < s.heap.objs.size := by
  have h : mainGlobals < s.heap.objs.size := (I.mod.glob.keeps I.bk).lt
  exact Nat.lt_trans (by decide) h

/-- y in d -/
theorem d_in {Q : Value → Shared → Prop} (hu : A.units + 1 < cLine) (I : Inv X pins σ H s) (g : DGet H a y o) (ry : RelV y u) (h : ∀ s', Inv X pins σ H s' → Q (.bool o.isSome) s') :
    wpAny (model X.prog X.w) A (compareOp .In u (.ref a)) Q E s := by
  rcases g with ⟨kvs, k, e, ey, l⟩ | ⟨kvs, k, b, e, ey, eb, l⟩
  · subst ey
    obtain ⟨z, hd, vs, rel, dd⟩ := dk_rd I.hok e
    refine wpAny_in_of (kV_is ry) hd dd.mapOf ?_
    rw [← (rel.val k).isSome_eq, ← l]
    exact h _ (I.tok _)
  · subst ey
    cases (show u = Value.ref b from ry)
    obtain ⟨z, hd, xs, rel, dd⟩ := dt_rd I.hok e
    refine wpAny_in_heap (tupleKind_room_in1 hu) (key_of I.hok eb) hd dd ?_
    have q := (rel.val k).isSome_eq
    rw [Option.isSome_map] at q
    rw [← q, ← l]
    exact h _ (I.tok _)
/-- a dict's object is replaced -/
theorem d_write {h' : Heap} {t' : Nat} {ob : HO} (I : Inv X pins σ H s) (mu : Mut (H a)) (hs : Heap.SameBut a s.heap h') (he : ∃ q, h'.get? a = some q) (new : ObjOk X.prog X.w (upd H a ob) h' a ob) :
    Inv X pins σ (upd H a ob) { s with heap := h', toks := t' } :=
  I.write (x := a) (e := a) mu (.inl rfl) (fun b q hb z => (hs.2 b hb).trans z) he new
theorem dk_new {P : Program} {w : World} {H' : Hp} {h' : Heap} {kvs : List (Key × V)} {vs : List (Key × Value)} (z : kvs.length ≤ sizeLine) (hd : (a == sysModules) = false) (rel : KV kvs vs) (dd : h'.DictOf (mixKind P w) a vs) :
    ObjOk P w H' h' a (.dK kvs) := ⟨z, hd, vs, rel, dd⟩
/-- d[y] = v -/
theorem d_setItem {H' : Hp} {Q : Unit → Shared → Prop} (hu : A.units + 1 < cLine) (I : Inv X pins σ H s) (g : DPut H a y v H') (ry : RelV y u) (rv : RelV v r) (h : ∀ s', Inv X pins σ H' s' → Q () s') :
    wpAny (model X.prog X.w) A (setItem (.ref a) u r) Q E s := by
  rcases g with ⟨kvs, k, e, ey, l, eH⟩ | ⟨kvs, k, b, e, ey, eb, l, eH⟩
  · subst ey eH
    obtain ⟨z, hd, vs, rel, dd⟩ := dk_of I.hok e
    have hz : vs.length ≤ sizeLine := by rw [← rel.length]; exact z
    have hl : (putK kvs k v).length ≤ sizeLine := by have := length_putK kvs k v; omega
    refine wpAny_setItem_pairs (hsz := hz) (kV_is ry) dd fun h' dd' hs => h _ ?_
    have he : ∃ q, h'.get? a = some q := let ⟨q, _, _, hq, _⟩ := dd'; ⟨q, hq⟩
    exact d_write I (by rw [e]; exact True.intro) hs he (dk_new hl hd (rel.put k rv) dd')
  · subst ey eH
    cases (show u = Value.ref b from ry)
    obtain ⟨z, hd, xs, rel, dd⟩ := dt_of I.hok e
    have hz : xs.length ≤ sizeLine := by rw [← Paired.length rel]; exact z
    have hl : (putK kvs k v).length ≤ sizeLine := by have := length_putK kvs k v; omega
    refine wpAny_setItem_heap (hsz := hz) (tupleKind_room_in1 hu) (key_of I.hok eb) dd fun h' dd' hs => h _ ?_
    obtain ⟨q, es, ep, hq, h2, h3, h4, _, h5⟩ := dd'
    refine d_write I (by rw [e]; exact True.intro) hs ⟨q, hq⟩ ⟨hl, hd, _, (rel.put k eb rv).keeps fun c ys ec => ?_, q, es, ep, hq, h2, h3, h4, h5⟩
    rw [upd_ne (ne_of ec e (fun z => nomatch z))]
    exact ec
end

section
variable {X : Cx} {pins : List (Addr × Obj)} {σ : St} {H : Hp} {s : Shared} {a : Addr} {kvs : List (Key × V)} {k : Key} {u : Value} {A : Around} {E : Value → Shared → Prop}
end


/-! ### readings and rules -/
/-- y in d, y not in d -/
def tDIn (ty td : TE) : TE := fun σ H Q => ty σ H fun y H1 => td σ H1 fun x H2 => ∃ a o, x = .ref a ∧ DGet H2 a y o ∧ Q (.bl o.isSome) H2
/-- d[y] = v -/
def sDPut (td ty tv : TE) : TS := fun D σ H => tv σ H fun v H1 => td σ H1 fun x H2 => ty σ H2 fun y H3 => ∃ a H4, x = .ref a ∧ DPut H3 a y v H4 ∧ D.nx σ H4
section
variable {X : Cx} {o i e value : Expr} {pos pos' tpos : Pos} {td ty tv : TE}
theorem pc_din (hu : X.A.units + 1 < cLine) (hi : PE X i ty) (ho : PE X o td) : PC X .In i o (tDIn ty td) := by
  intro pins s σ H Q I h
  refine thn (hi pins s σ H _ I h) fun iv s1 ⟨y, H1, I1, ry, q1⟩ => thn (ho pins s1 σ H1 _ I1 q1) fun u s2 ⟨x, H2, I2, rx, a, ov, ex, g, q2⟩ => ?_
  subst ex
  obtain rfl : u = Value.ref a := rx
  exact d_in hu I2 g ry fun s3 I3 => ⟨.bl ov.isSome, H2, I3, rfl, q2⟩
theorem ps_dput (hu : X.A.units + 1 < cLine) (ho : PE X o td) (hi : PE X i ty) (hv : PE X value tv) (hs : swapsWith value (some (.Subscript o i pos')) pos.line X.env = pure false) :
    PS X (.Assign [.Subscript o i pos'] value pos) (sDPut td ty tv) := by
  intro pins s σ H D I h
  refine wpAny_Assign_Subscript (thn (hv pins s σ H _ I h) fun r s1 ⟨v, H1, I1, rv, q1⟩ => thn (ho pins s1 σ H1 _ I1 q1) fun u s2 ⟨x, H2, I2, rx, q2⟩ => thn (hi pins s2 σ H2 _ I2 q2) fun iv s3 ⟨y, H3, I3, ry, a, H4, ex, g, q3⟩ => ?_) hs
  subst ex
  obtain rfl : u = Value.ref a := rx
  exact d_setItem hu I3 g ry rv fun s4 I4 => ⟨σ, H4, I4, q3⟩
end


/-! ### displays -/
theorem dk_empty {P : Program} {w : World} {H : Hp} (h : Heap) (hb : sysModules < h.objs.size) : ObjOk P w H (h.push { cls := .type "dict", data := .dict #[] }) h.objs.size (.dK []) :=
  ⟨Nat.zero_le _, beq_eq_false_iff_ne.mpr (Ne.symm (Nat.ne_of_lt hb)), [], .nil, Heap.DictOf.new h⟩
/-- {}, to be a dict of the kind that is wanted -/
def tDNewK : TE := fun _ H Q => ∀ p, H p = none → Q (.ref p) (upd H p (.dK []))
section
variable {X : Cx} {pos : Pos}
theorem pe_dnewK : PE X (.Dict [] [] pos) tDNewK := fun pins s σ H Q I h =>
  wpAny_Dict_empty ⟨.ref s.heap.objs.size, _, I.laid (a := s.heap.objs.size) (o := .dK []) (t' := s.toks) (fun _ _ q => Heap.get?_push_of_some _ q) (Nat.le_refl _) (dk_empty s.heap I.big), rfl, h _ (I.hok.fresh (Nat.le_refl _))⟩
end

/-! ### methods -/
section
variable {X : Cx} {pins : List (Addr × Obj)} {σ : St} {H : Hp} {s : Shared} {a : Addr} {y d : V} {u r : Value} {o : Option V} {A : Around} {E : Value → Shared → Prop}
end

section
variable {X : Cx} {o e f : Expr} {apos cpos : Pos} {td ty tx : TE}
end

/-! ### dict(d): a copy -/
section
variable {X : Cx} {pins : List (Addr × Obj)} {σ : St} {H : Hp} {s : Shared} {a : Addr} {kvs : List (Key × V)} {A : Around} {E : Value → Shared → Prop}
end


section
variable {X : Cx} {pins : List (Addr × Obj)} {σ : St} {H : Hp} {s : Shared} {a : Addr} {y : V} {u : Value} {A : Around} {E : Value → Shared → Prop}
end
end L2
set_option Elab.async false
set_option linter.all false
set_option maxRecDepth 100000
namespace Be
open PySem L2
/-! ### what an order is, on data -/
def ordGo (W : Wd) : List PyData → Nat → List Int → Bool
  | [], _, _ => true
  | d :: r, i, seen => match d with
    | .int x => decide (0 ≤ x) && decide (x < (began W i : Int)) && decide (x ∉ seen) && ordGo W r (i + 1) (seen ++ [x])
    | _ => false
def ordD (W : Wd) : PyData → Bool
  | .tuple ds => ordGo W ds 0 []
  | _ => false
def seenK (seen : List Int) : List (Key × V) := seen.map fun x => (Sum.inl x, V.bl true)
theorem valV_seen (x : Int) : ∀ seen : List Int, (valV (seenK seen) (Sum.inl x : Key)).isSome = decide (x ∈ seen)
  | [] => by simp [seenK, valV]
  | y :: r => by
    have ih := valV_seen x r
    by_cases h : y = x
    · subst h
      rw [show seenK (y :: r) = ((Sum.inl y : Key), V.bl true) :: seenK r from rfl, valV_pos rfl]
      simp
    · rw [show seenK (y :: r) = ((Sum.inl y : Key), V.bl true) :: seenK r from rfl, valV_neg (fun z => h (Sum.inl.inj z)), ih]
      have h2 : ¬ x = y := fun z => h z.symm
      simp [h2]
section
variable {P : Program} {w : World} {K : PySem.W.Frag} {mg : Str → Option Value} {base : Heap}
def sp_hmw : Sp := fun vs H Q _ => ∃ (v : V) (W : Wd), vs = [v] ∧ Rep H v (encW W) ∧ Q (.int W.bs.length) H
theorem ok_how_many_works (T : Txt K mg) : FnOk P w K mg base (CXr P w) 1 T.how_many_works.a T.how_many_works.d ["world"] sp_hmw := by
  refine T.how_many_works.F.okN sc_how_many_works (fun vs H Q E h => ?_) (fun cdv A outer s H vs Q E hr h => ?_)
  · obtain ⟨v, W, rfl, _⟩ := h; rfl
  obtain ⟨v, W, rfl, hW, q⟩ := h
  obtain ⟨a, p, vs, AW⟩ := atW hW
  obtain rfl := AW.v
  refine ⟨_, (pss_one (ps_ret (pe_callB call_len_seq rfl T.n_len bt_len (pa_cons (pe_ix ix_tup (pv 0) pe_int (fun _ _ => rfl)) pa_nil)))), ?_⟩
  refine ⟨_, rfl, a, _, _, _, rfl, rfl, SqT.of AW.a, rfl, p, _, rfl, .inr (SqT.of AW.p), ?_⟩
  rw [AW.len]
  exact q
def sp_hmbn : Sp := fun vs H Q _ => ∃ (v : V) (W : Wd), vs = [v] ∧ Rep H v (encW W) ∧ Q (.int W.b) H
theorem ok_how_many_benches (T : Txt K mg) : FnOk P w K mg base (CXr P w) 1 T.how_many_benches.a T.how_many_benches.d ["world"] sp_hmbn := by
  refine T.how_many_benches.F.okN sc_how_many_benches (fun vs H Q E h => ?_) (fun cdv A outer s H vs Q E hr h => ?_)
  · obtain ⟨v, W, rfl, _⟩ := h; rfl
  obtain ⟨v, W, rfl, hW, q⟩ := h
  obtain ⟨a, p, vs, AW⟩ := atW hW
  obtain rfl := AW.v
  refine ⟨_, (pss_one (ps_ret (pe_ix ix_tup (pv 0) pe_int (fun _ _ => rfl)))), ?_⟩
  exact ⟨_, rfl, a, _, _, _, rfl, rfl, SqT.of AW.a, rfl, q⟩
def sp_hmb : Sp := fun vs H Q _ => ∃ (v : V) (W : Wd) (n : Nat), vs = [v, .int n] ∧ Rep H v (encW W) ∧ 0 ≤ W.b ∧ Q (.int (began W n : Int)) H
theorem ok_how_many_began (T : Txt K mg) : FnOk P w K mg base (CXr P w) 2 T.how_many_began.a T.how_many_began.d ["world", "ends"] sp_hmb := by
  refine T.how_many_began.F.okN sc_how_many_began (fun vs H Q E h => ?_) (fun cdv A outer s H vs Q E hr h => ?_)
  · obtain ⟨v, W, n, rfl, _⟩ := h; rfl
  obtain ⟨v, W, n, rfl, hW, hb, q⟩ := h
  obtain ⟨a, p, vs, AW⟩ := atW hW
  obtain rfl := AW.v
  refine ⟨_, (pss_one (ps_ret (pe_callB (call_min2 rfl) rfl T.n_min bt_min (pa_cons (pe_op op_add (pe_call (ok_how_many_benches T) (hr.mono (by decide)) rfl T.how_many_benches.m T.how_many_benches.F.kp T.how_many_benches.b .nil passN (pa_cons (pv 0) pa_nil)) (pv 1)) (pa_cons (pe_call (ok_how_many_works T) (hr.mono (by decide)) rfl T.how_many_works.m T.how_many_works.F.kp T.how_many_works.b .nil passN (pa_cons (pv 0) pa_nil)) pa_nil))))), ?_⟩
  refine ⟨_, rfl, .ref a, W, rfl, hW, _, rfl, _, _, rfl, rfl, _, rfl, .ref a, W, rfl, hW, _, _, rfl, ?_⟩
  have e : (if (W.bs.length : Int) < W.b + (n : Int) then (W.bs.length : Int) else W.b + (n : Int)) = (began W n : Int) := by
    unfold began
    split <;> omega
  rw [e]
  exact q
def sp_least : Sp := fun vs H Q _ => ∃ (v : V) (W : Wd) (x : Int), vs = [v, .int x] ∧ Rep H v (encW W) ∧ 0 ≤ x ∧ x < (W.bs.length : Int) ∧ Q (.int (bnd W x).1) H
def sp_greatest : Sp := fun vs H Q _ => ∃ (v : V) (W : Wd) (x : Int), vs = [v, .int x] ∧ Rep H v (encW W) ∧ 0 ≤ x ∧ x < (W.bs.length : Int) ∧ Q (.int (bnd W x).2) H
theorem bnd_get {W : Wd} {x : Int} (h0 : 0 ≤ x) (h1 : x < (W.bs.length : Int)) : W.bs[x.toNat]? = some (bnd W x) := by
  unfold bnd
  rw [List.getD_eq_getElem?_getD, List.getElem?_eq_getElem (show x.toNat < W.bs.length by omega)]
  rfl
theorem atW_ix {H : Hp} {v : V} {W : Wd} {a p : Addr} {vs : List V} (A : AtW H v W a p vs) {x : Int} (h0 : 0 ≤ x) (h1 : x < (W.bs.length : Int)) : ∃ q, atI vs x = some (.ref q) ∧ H q = some (.tup [.int (bnd W x).1, .int (bnd W x).2]) := by
  obtain ⟨q, hq, e⟩ := A.it _ _ (bnd_get h0 h1)
  refine ⟨q, ?_, e⟩
  have ex : x = ((x.toNat : Nat) : Int) := by omega
  rw [ex]
  exact atI_nat hq
theorem ok_least_length (T : Txt K mg) : FnOk P w K mg base (CXr P w) 1 T.least_length.a T.least_length.d ["world", "work"] sp_least := by
  refine T.least_length.F.okN sc_least_length (fun vs H Q E h => ?_) (fun cdv A outer s H vs Q E hr h => ?_)
  · obtain ⟨v, W, x, rfl, _⟩ := h; rfl
  obtain ⟨v, W, x, rfl, hW, h0, h1, q⟩ := h
  obtain ⟨a, p, vs, AW⟩ := atW hW
  obtain rfl := AW.v
  obtain ⟨b, hb, eb⟩ := atW_ix AW h0 h1
  refine ⟨_, (pss_one (ps_ret (pe_ix ix_tup (pe_ix ix_tup (pe_ix ix_tup (pv 0) pe_int (fun _ _ => rfl)) (pv 1) (fun _ _ => rfl)) pe_int (fun _ _ => rfl)))), ?_⟩
  exact ⟨_, rfl, a, _, _, _, rfl, rfl, SqT.of AW.a, rfl, _, rfl, p, _, _, _, rfl, rfl, SqT.of AW.p, hb, b, _, _, _, rfl, rfl, SqT.of eb, rfl, q⟩
theorem ok_greatest_length (T : Txt K mg) : FnOk P w K mg base (CXr P w) 1 T.greatest_length.a T.greatest_length.d ["world", "work"] sp_greatest := by
  refine T.greatest_length.F.okN sc_greatest_length (fun vs H Q E h => ?_) (fun cdv A outer s H vs Q E hr h => ?_)
  · obtain ⟨v, W, x, rfl, _⟩ := h; rfl
  obtain ⟨v, W, x, rfl, hW, h0, h1, q⟩ := h
  obtain ⟨a, p, vs, AW⟩ := atW hW
  obtain rfl := AW.v
  obtain ⟨b, hb, eb⟩ := atW_ix AW h0 h1
  refine ⟨_, (pss_one (ps_ret (pe_ix ix_tup (pe_ix ix_tup (pe_ix ix_tup (pv 0) pe_int (fun _ _ => rfl)) (pv 1) (fun _ _ => rfl)) pe_int (fun _ _ => rfl)))), ?_⟩
  exact ⟨_, rfl, a, _, _, _, rfl, rfl, SqT.of AW.a, rfl, _, rfl, p, _, _, _, rfl, rfl, SqT.of AW.p, hb, b, _, _, _, rfl, rfl, SqT.of eb, rfl, q⟩
def sp_bev : Sp := fun vs H Q _ => ∃ (v : V) (W : Wd) (x : Int), vs = [v, .int x] ∧ Rep H v (encW W) ∧ Q (.int (bg W x)) H
theorem ok_begin_event (T : Txt K mg) : FnOk P w K mg base (CXr P w) 2 T.begin_event.a T.begin_event.d ["world", "work"] sp_bev := by
  refine T.begin_event.F.okN sc_begin_event (fun vs H Q E h => ?_) (fun cdv A outer s H vs Q E hr h => ?_)
  · obtain ⟨v, W, x, rfl, _⟩ := h; rfl
  obtain ⟨v, W, x, rfl, hW, q⟩ := h
  obtain ⟨a, p, vs, AW⟩ := atW hW
  obtain rfl := AW.v
  refine ⟨_, (pss_one (ps_ret (pe_callB (call_max2 rfl) rfl T.n_max bt_max (pa_cons pe_int (pa_cons (pe_op op_add (pe_op op_sub (pv 1) (pe_call (ok_how_many_benches T) (hr.mono (by decide)) rfl T.how_many_benches.m T.how_many_benches.F.kp T.how_many_benches.b .nil passN (pa_cons (pv 0) pa_nil))) pe_int) pa_nil))))), ?_⟩
  refine ⟨_, rfl, _, rfl, .ref a, W, rfl, hW, _, _, rfl, rfl, _, _, rfl, rfl, _, _, rfl, ?_⟩
  have e : (if x - W.b + 1 > 0 then x - W.b + 1 else 0) = bg W x := by
    unfold bg
    split <;> split <;> omega
  rw [e]
  exact q
theorem ok_running (T : Txt K mg) : FnOk P w K mg base (CXr P w) 3 T.running.a T.running.d ["world", "order"] (sp_running K) := by
  refine T.running.F.okN sc_running (fun vs H Q E h => ?_) (fun cdv A outer s H vs Q E hr h => ?_)
  · obtain ⟨v, p, W, o, rfl, _⟩ := h; rfl
  obtain ⟨v, p, W, o, rfl, hW, hok, ho, hlen, q⟩ := h
  refine ⟨_, (pss_one (ps_ret (pe_comp (NB := ["work", "order"]) (js := [none, some 1]) rfl (blkOk_of rfl (by decide +kernel) rfl (by decide +kernel) (by decide +kernel) (by with_unfolding_all rfl) (by with_unfolding_all rfl) (by with_unfolding_all rfl) (by with_unfolding_all rfl)) (pi_range1 rfl T.n_range (pa_cons (pe_call (ok_how_many_began T) (hr.mono (by decide)) rfl T.how_many_began.m T.how_many_began.F.kp T.how_many_began.b .nil passN (pa_cons (pv 0) (pa_cons (pe_callB call_len_seq rfl T.n_len bt_len (pa_cons (pv 1) pa_nil)) pa_nil))) pa_nil)) (fun _ _ _ _ => (pg_name (i := 0) (show (["work", "order"] : List Str).Nodup by decide +kernel) rfl (by first | exact Or.inl rfl | exact Or.inr rfl))) (fun _ _ _ _ => (pf_one (pt_cmpR (b_op_notIn_seq K) (pv 0) (pv 1) (by with_unfolding_all rfl)))) (fun _ _ _ _ => (pv 0))))), ?_⟩
  have e1 : (o.map V.int).length = o.length := List.length_map _
  have l10 := hok.l10
  have b1 := hok.b1
  refine ⟨_, rfl, _, rfl, p, _, rfl, ho, v, W, _, rfl, hW, by omega, ?_⟩
  have hbe := began_le W (o.map V.int).length
  have hbe2 := began_le W o.length
  refine ⟨_, rfl, by omega, by omega, fun D hD => ?_⟩
  rw [Int.toNat_natCast, e1]
  refine comp_range (fun i ys H2 => Same H H2 ∧ H2 D = some (.lst ys) ∧ ys = ((upto i).filter fun x => decide (x ∉ o)).map V.int) ⟨same_new hD _, upd_same, rfl⟩ (fun i ys H2 hi hP => ?_) (fun ys H2 hP => ?_)
  · obtain ⟨g, hD2, rfl⟩ := hP
    refine ⟨agree0, _, rfl, _, rfl, p, _, rfl, SqTL.same g ho, rfl, flat_ints o, _, rfl, ?_⟩
    by_cases hm : (0 + (i : Int)) ∈ o
    · refine if_f (show (!inV (.int (0 + (i : Int))) (o.map V.int)) = false by rw [inV_ints, decide_eq_true hm]; rfl) ⟨g, hD2, ?_⟩
      rw [run_pre, if_pos (by simpa using hm), List.append_nil]
    · refine if_t (show (!inV (.int (0 + (i : Int))) (o.map V.int)) = true by rw [inV_ints, decide_eq_false hm]; rfl) ?_
      have ez : (((upto (i + 1)).filter fun x => decide (x ∉ o)).map V.int) = ((upto i).filter fun x => decide (x ∉ o)).map V.int ++ [V.int (0 + (i : Int))] := by
        rw [run_pre, if_neg (by simpa using hm), List.map_append]; simp
      refine ⟨_, rfl, hD2, ?_, ?_, ?_, ?_⟩
      · rw [List.length_map]
        have := List.length_filter_le (fun x => decide (x ∉ o)) (upto i)
        rw [upto_len] at this
        exact Nat.lt_of_lt_of_le (show _ < 100 by omega) (by decide)
      · exact g.write hD _
      · exact upd_same
      · exact ez.symm
  · obtain ⟨g, hD2, rfl⟩ := hP
    exact q D H2 g hD hD2
def sp_iso : Sp := fun vs H Q _ => ∃ (v t : V) (W : Wd) (d : PyData), vs = [v, t] ∧ Rep H v (encW W) ∧ W.Ok ∧ Rep H t d ∧ (∀ ds, d = .tuple ds → ds.length ≤ 1000) ∧ ∀ H', Same H H' → Q (.bl (ordD W d)) H'
theorem ok_is_order (T : Txt K mg) : FnOk P w K mg base (CXr P w) 3 T.is_order.a T.is_order.d ["world", "thing"] sp_iso := by
  refine T.is_order.F.okN sc_is_order (fun vs H Q E h => ?_) (fun cdv A outer s H vs Q E hr h => ?_)
  · obtain ⟨v, t, W, d, rfl, _⟩ := h; rfl
  obtain ⟨v, t, W, d, rfl, hW, hok, hd, hln, q⟩ := h
  refine ⟨_, (pss_cons (ps_if (pt_not (pt_val (pe_callB (call_isi kit_tuple) rfl T.n_isinstance bt_isinstance (pa_cons (pv 1) (pa_cons (pe_bltn (v := .ty "tuple") rfl T.n_tuple bt_tuple rfl) pa_nil))))) (pss_one (ps_ret pe_bl)) pss_nil) (pss_cons (ps_set (i := 2) sc_is_order.nd rfl (by first | exact Or.inl rfl | exact Or.inr rfl) pe_dnewK) (pss_cons (ps_for PassesOwn.never rfl (pi_enumT rfl T.n_enumerate (pa_cons (pv 1) pa_nil)) (pg_tup rfl (pgs_cons (pg_name (i := 3) sc_is_order.nd rfl (by first | exact Or.inl rfl | exact Or.inr rfl)) (pgs_cons (pg_name (i := 4) sc_is_order.nd rfl (by first | exact Or.inl rfl | exact Or.inr rfl)) pgs_nil))) (pss_cons (ps_if (PW.pt (pw_or (pt_not (pt_val (pe_call (ok_is_whole_within T) (hr.mono (by decide)) rfl T.is_whole_within.m T.is_whole_within.F.kp T.is_whole_within.b .nil passN (pa_cons (pv 4) (pa_cons pe_int (pa_cons (pe_op op_sub (pe_call (ok_how_many_began T) (hr.mono (by decide)) rfl T.how_many_began.m T.how_many_began.F.kp T.how_many_began.b .nil passN (pa_cons (pv 0) (pa_cons (pv 3) pa_nil))) pe_int) pa_nil)))))) (pw_or1 (pt_cmp (pc_din (hu_of hr) (pv 4) (pv 2)))))) (pss_one (ps_ret pe_bl)) pss_nil) (pss_one (ps_dput (hu_of hr) (pv 2) (pv 4) pe_bl rfl)))) (pss_one (ps_ret pe_bl))))), ?_⟩
  refine ⟨_, rfl, t, d, rfl, hd, _, rfl, ?_⟩
  cases hd with
  | non => exact iteT (q H (Same.refl H))
  | str x => exact iteT (q H (Same.refl H))
  | bl b => exact iteT (q H (Same.refl H))
  | int i => exact iteT (q H (Same.refl H))
  | lst e r => exact iteT (q H (Same.refl H))
  | @tup a vs ds e r =>
    have hl := r.length
    have hln' := hln ds rfl
    refine iteF (fun D hD => ?_)
    have nD : ∀ b o, H b = some o → b ≠ D := fun b o z => ne_of_none z hD
    refine ⟨_, rfl, a, vs, rfl, SqT.of (same_new hD _ _ _ e), for_enumT (K := K) (a := a) (xs := vs) (fun i σ H2 => ∃ (seen : List Int) (x y : Option V), σ = [some v, some (.ref a), some (.ref D), x, y] ∧ Same H H2 ∧ H2 D = some (.dK (seenK seen)) ∧ seen.length = i ∧ ordGo W ds 0 [] = ordGo W (ds.drop i) i seen) ?_ ?_ ?_ ?_⟩
    · exact ⟨[], none, none, rfl, same_new hD _, upd_same, rfl, rfl⟩
    · rintro i σ H2 _ ⟨seen, x, y, rfl, g, _⟩
      exact SqT.of (g _ _ e)
    · rintro i u p σ H2 hu hp ⟨seen, x, y, rfl, g, hD2, hs, ho⟩
      obtain ⟨d, hd, ru⟩ := (r.mono g).get' hu
      have hi : i < ds.length := (List.getElem?_eq_some_iff.mp hd).1
      have hdrop : ds.drop i = d :: ds.drop (i + 1) := by
        have := List.drop_eq_getElem_cons hi
        rw [this]
        congr 1
        exact (List.getElem?_eq_some_iff.mp hd).2
      rw [hdrop] at ho
      have g2 := same_new hp (.tup [.int i, u])
      have gg := g.trans g2
      refine ⟨p, _, rfl, SqT.of upd_same, rfl, _, _, rfl, _, _, rfl, rfl, ?_⟩
      refine ⟨_, rfl, _, rfl, _, rfl, v, W, i, rfl, hW.mono gg, by have := hok.b1; omega, _, _, rfl, rfl, u, d, 0, _, rfl, ru.mono g2, _, rfl, ?_⟩
      cases hw : wholeIn d 0 ((began W i : Int) - 1) with
      | false =>
        have no : ordGo W (d :: ds.drop (i + 1)) i seen = false := by
          unfold ordGo
          cases d with
          | int z =>
            show (decide (0 ≤ z) && decide (z < (began W i : Int)) && _ && _) = false
            have hw' : (decide (0 ≤ z) && decide (z ≤ (began W i : Int) - 1)) = false := hw
            have ez : decide (z < (began W i : Int)) = decide (z ≤ (began W i : Int) - 1) := by
              by_cases hz : z < (began W i : Int)
              · rw [decide_eq_true hz, decide_eq_true (by omega)]
              · rw [decide_eq_false hz, decide_eq_false (by omega)]
            rw [ez, hw']; rfl
          | _ => rfl
        have e0 : ordD W (.tuple ds) = false := by show ordGo W ds 0 [] = false; rw [ho]; exact no
        rw [e0] at q
        exact iteT (iteT (q _ gg))
      | true =>
        cases ru with
        | int z =>
          have hw' : (decide (0 ≤ z) && decide (z ≤ (began W i : Int) - 1)) = true := hw
          rw [Bool.and_eq_true] at hw'
          have z0 := of_decide_eq_true hw'.1
          have z1 := of_decide_eq_true hw'.2
          refine iteF ⟨_, rfl, _, rfl, D, _, rfl, DGet.k (k := Sum.inl z) (g2 _ _ hD2), _, rfl, ?_⟩
          rw [valV_seen]
          have step : ordGo W (.int z :: ds.drop (i + 1)) i seen = (decide (z ∉ seen) && ordGo W (ds.drop (i + 1)) (i + 1) (seen ++ [z])) := by
            show (decide (0 ≤ z) && decide (z < (began W i : Int)) && decide (z ∉ seen) && _) = _
            rw [decide_eq_true z0, decide_eq_true (show z < (began W i : Int) by omega)]; rfl
          rw [step] at ho
          by_cases hm : z ∈ seen
          · have e0 : ordD W (.tuple ds) = false := by show ordGo W ds 0 [] = false; rw [ho, decide_eq_false (by simpa using hm)]; rfl
            rw [e0] at q
            rw [decide_eq_true hm]
            exact iteT (q _ gg)
          · rw [decide_eq_false hm]
            refine iteF ⟨_, rfl, _, rfl, D, _, rfl, DPut.k (k := Sum.inl z) (g2 _ _ hD2) ?_, ?_⟩
            · show (seenK seen).length < sizeLine
              unfold seenK
              rw [List.length_map]
              exact Nat.lt_of_lt_of_le (show seen.length < 2000 by omega) (by decide)
            · refine ⟨seen ++ [z], _, _, rfl, ?_, ?_, by simp [hs], ?_⟩
              · exact gg.write hD _
              · rw [upd_same]
                have nn : valV (seenK seen) (Sum.inl z : Key) = none := by
                  have := valV_seen z seen
                  rw [decide_eq_false hm] at this
                  exact Option.isNone_iff_eq_none.mp (by simpa using this)
                rw [putK_new _ nn]
                unfold seenK
                rw [List.map_append]
                rfl
              · rw [ho, decide_eq_true hm]; rfl
        | _ => cases hw
    · rintro σ H2 ⟨seen, x, y, rfl, g, hD2, hs, ho⟩
      rw [hl, List.drop_length] at ho
      have e0 : ordD W (.tuple ds) = true := ho
      rw [e0] at q
      exact q _ g
end
end Be
set_option Elab.async false
set_option linter.all false
set_option maxRecDepth 100000
namespace L2
open PySem PySem.Spec PyProof.Rows
theorem PS.nox {X : Cx} {st : Stmt} {t : TS} (h : PS X.nox st t) : PS X st t := fun pins s σ H D I hw =>
  wpAny_mono (h pins s σ H D (I.wish _) hw) (fun f s' q => q.unwish) fun _ _ z => z.elim
end L2
namespace Be
open PySem L2
def encR (r : Ru) : PyData := .tuple [.int r.1, .int r.2.1, .int r.2.2]
theorem all_encR (rs : List Ru) : immut.all (rs.map encR) = true := by
  induction rs with
  | nil => rfl
  | cons p r ih =>
    rw [List.map_cons]
    show (immut (encR p) && immut.all (r.map encR)) = true
    rw [ih]; rfl
/-! ### what is a world, what is an order: data and things -/
theorem whole_of {d : PyData} {lo hi : Int} (h : wholeIn d lo hi = true) : ∃ i, d = .int i ∧ lo ≤ i ∧ i ≤ hi := by
  cases d with
  | int i =>
    have h' : (decide (lo ≤ i) && decide (i ≤ hi)) = true := h
    rw [Bool.and_eq_true] at h'
    exact ⟨i, rfl, of_decide_eq_true h'.1, of_decide_eq_true h'.2⟩
  | _ => cases h
theorem bow_of {d : PyData} (h : bowD d = true) : ∃ p : Int × Int, d = encB p ∧ 1 ≤ p.1 ∧ p.1 ≤ p.2 ∧ p.2 ≤ 99 := by
  unfold bowD at h
  split at h
  · rename_i i b
    rw [Bool.and_eq_true] at h
    obtain ⟨j, e, h1, h2⟩ := whole_of h.1
    cases e
    obtain ⟨k, e, h3, h4⟩ := whole_of h.2
    subst e
    exact ⟨(i, k), rfl, h1, h3, h4⟩
  · cases h
theorem bows_of : ∀ {ds : List PyData}, ds.all bowD = true → ∃ bs : List (Int × Int), ds = bs.map encB ∧ ∀ p ∈ bs, 1 ≤ p.1 ∧ p.1 ≤ p.2 ∧ p.2 ≤ 99
  | [], _ => ⟨[], rfl, fun _ z => nomatch z⟩
  | d :: r, h => by
    rw [List.all_cons, Bool.and_eq_true] at h
    obtain ⟨p, rfl, hp⟩ := bow_of h.1
    obtain ⟨bs, rfl, hb⟩ := bows_of h.2
    refine ⟨p :: bs, rfl, fun x hx => ?_⟩
    rcases List.mem_cons.mp hx with rfl | hx
    · exact hp
    · exact hb x hx
theorem isW_of {d : PyData} (h : isWD d = true) : ∃ W : Wd, W.Ok ∧ d = encW W := by
  unfold isWD at h
  split at h
  · rename_i b x
    rw [Bool.and_eq_true] at h
    obtain ⟨i, rfl, h1, h2⟩ := whole_of h.1
    have h' := h.2
    unfold arBD at h'
    split at h'
    · rename_i ds
      rw [Bool.and_eq_true, Bool.and_eq_true] at h'
      obtain ⟨bs, rfl, hb⟩ := bows_of h'.2
      have l1 := of_decide_eq_true h'.1.1
      have l2 := of_decide_eq_true h'.1.2
      rw [List.length_map] at l1 l2
      exact ⟨⟨i, bs⟩, ⟨h1, h2, l1, l2, hb⟩, rfl⟩
    · cases h'
  · cases h
theorem wholeIn_of {i lo hi : Int} (h1 : lo ≤ i) (h2 : i ≤ hi) : wholeIn (.int i) lo hi = true := by
  show (decide (lo ≤ i) && decide (i ≤ hi)) = true
  rw [decide_eq_true h1, decide_eq_true h2]; rfl
theorem bow_enc {p : Int × Int} (h : 1 ≤ p.1 ∧ p.1 ≤ p.2 ∧ p.2 ≤ 99) : bowD (encB p) = true := by
  show (wholeIn (.int p.1) 1 99 && wholeIn (.int p.2) p.1 99) = true
  rw [wholeIn_of h.1 (by omega), wholeIn_of h.2.1 h.2.2]; rfl
theorem isW_enc {W : Wd} (h : W.Ok) : isWD (encW W) = true := by
  show (wholeIn (.int W.b) 1 4 && (decide (1 ≤ (W.bs.map encB).length) && decide ((W.bs.map encB).length ≤ 10) && (W.bs.map encB).all bowD)) = true
  rw [wholeIn_of h.b1 h.b4, List.length_map, decide_eq_true h.l1, decide_eq_true h.l10]
  show (W.bs.map encB).all bowD = true
  rw [List.all_eq_true]
  intro d hd
  obtain ⟨p, hp, rfl⟩ := List.mem_map.mp hd
  exact bow_enc (h.bd p hp)
theorem ordGo_iff (W : Wd) : ∀ (ds : List PyData) (seen : List Int), VO W seen → (ordGo W ds seen.length seen = true ↔ ∃ o, ds = o.map PyData.int ∧ VO W (seen ++ o))
  | [], seen, h => ⟨fun _ => ⟨[], rfl, by rw [List.append_nil]; exact h⟩, fun _ => rfl⟩
  | d :: r, seen, h => by
    constructor
    · intro e
      unfold ordGo at e
      cases d with
      | int x =>
        have e' : (decide (0 ≤ x) && decide (x < (began W seen.length : Int)) && decide (x ∉ seen) && ordGo W r (seen.length + 1) (seen ++ [x])) = true := e
        rw [Bool.and_eq_true, Bool.and_eq_true, Bool.and_eq_true] at e'
        obtain ⟨⟨⟨a, b⟩, c⟩, f⟩ := e'
        have hx : x ∈ runM W seen := mem_run.mpr ⟨⟨of_decide_eq_true a, of_decide_eq_true b⟩, of_decide_eq_true c⟩
        have f' : ordGo W r (seen ++ [x]).length (seen ++ [x]) = true := by rw [List.length_append]; exact f
        obtain ⟨o, rfl, ho⟩ := (ordGo_iff W r (seen ++ [x]) (h.snoc hx)).mp f'
        exact ⟨x :: o, rfl, by rw [List.append_assoc] at ho; exact ho⟩
      | _ => cases e
    · rintro ⟨o, e, ho⟩
      cases o with
      | nil => cases e
      | cons x o =>
        rw [List.map_cons] at e
        injection e with e1 e2
        subst e1 e2
        have at1 := ho.at_ seen.length x (by rw [List.getElem?_append_right (Nat.le_refl _), Nat.sub_self]; rfl)
        have nm : x ∉ seen := fun z => by
          have := (List.nodup_append.mp ho.nd).2.2 x z x List.mem_cons_self
          exact this rfl
        have hx : x ∈ runM W seen := mem_run.mpr ⟨at1, nm⟩
        have ih := (ordGo_iff W (o.map PyData.int) (seen ++ [x]) (h.snoc hx)).mpr ⟨o, rfl, by rw [List.append_assoc]; exact ho⟩
        rw [List.length_append] at ih
        show (decide (0 ≤ x) && decide (x < (began W seen.length : Int)) && decide (x ∉ seen) && ordGo W (o.map PyData.int) (seen.length + 1) (seen ++ [x])) = true
        rw [decide_eq_true at1.1, decide_eq_true at1.2, decide_eq_true nm]
        exact ih
theorem ord_of {W : Wd} {d : PyData} (h : ordD W d = true) : ∃ o, d = encO o ∧ VO W o := by
  unfold ordD at h
  split at h
  · rename_i ds
    obtain ⟨o, rfl, ho⟩ := (ordGo_iff W ds [] (VO.nil W)).mp h
    exact ⟨o, rfl, ho⟩
  · cases h
theorem ord_enc {W : Wd} {o : List Int} (h : VO W o) : ordD W (encO o) = true := (ordGo_iff W (o.map .int) [] (VO.nil W)).mpr ⟨o, rfl, h⟩
section
variable {P : Program} {w : World} {K : PySem.W.Frag} {mg : Str → Option Value} {base : Heap}
def sp_co (T : Txt K mg) : Sp := fun vs H Q E => ∃ (v t : V) (d dt : PyData), vs = [v, t] ∧ Rep H v d ∧ Rep H t dt ∧ (∀ ds, dt = .tuple ds → ds.length ≤ 1000) ∧ (isWD d = false → ∀ H', Same H H' → E (.ref T.e_NoWorld.C) none H') ∧
  ∀ W : Wd, W.Ok → d = encW W → (ordD W dt = false → ∀ H', Same H H' → E (.ref T.e_NoOrder.C) none H') ∧ (ordD W dt = true → ∀ H', Same H H' → Q .non H')
theorem ok_check_order (T : Txt K mg) : FnOk P w K mg base (CXr P w) 6 T.check_order.a T.check_order.d ["world", "order"] (sp_co T) := by
  refine T.check_order.F.okR sc_check_order (fun vs H Q E h => ?_) (fun cdv A outer s H vs Q E hr h => ?_)
  · obtain ⟨v, t, d, dt, rfl, _⟩ := h; rfl
  obtain ⟨v, t, d, dt, rfl, hd, ht, hl, q1, q2⟩ := h
  refine ⟨_, (pss_cons (ps_expr (pe_call (ok_check_world T) (hr.mono (by decide)) rfl T.check_world.m T.check_world.F.kp T.check_world.b .nil passR (pa_cons (pv 0) pa_nil))) (pss_one (ps_if (pt_not (pt_val (pe_call (ok_is_order T) (hr.mono (by decide)) rfl T.is_order.m T.is_order.F.kp T.is_order.b .nil passN (pa_cons (pv 0) (pa_cons (pv 1) pa_nil))))) (pss_one (ps_raise T.e_NoOrder.m T.e_NoOrder.q PySem.F.excBase_ValueError hr.hd pe_str rfl)) pss_nil))), ?_⟩
  refine ⟨_, rfl, v, d, rfl, hd, fun hw H1 g1 => ?_, fun hw H1 g1 => q1 hw H1 g1⟩
  obtain ⟨W, hok, rfl⟩ := isW_of hw
  obtain ⟨qn, qy⟩ := q2 W hok rfl
  refine ⟨_, rfl, _, rfl, v, t, W, dt, rfl, hd.mono g1, hok, ht.mono g1, hl, fun H2 g2 => ⟨_, rfl, ?_⟩⟩
  cases ho : ordD W dt with
  | true => exact iteF (qy ho H2 (g1.trans g2))
  | false => exact iteT ⟨by show 1 ≤ sizeLine; decide, qn ho H2 (g1.trans g2)⟩
def sp_roe (K : PySem.W.Frag) : Sp := fun vs H Q _ => ∃ (v : V) (W : Wd) (x e : Int), vs = [v, .int x, .int e] ∧ Rep H v (encW W) ∧ 0 ≤ x ∧ x < (W.bs.length : Int) ∧
  ∀ (r : Addr) (H' : Hp) (ws : List V), Same H H' → H r = none → H' r = some (.lst ws) → Reps H' ws (([(e, bg W x, (bnd W x).2), (bg W x, e, -(bnd W x).1), (e - 1, e, 0)] : List Ru).map encR) → Q (.ref r) H'
theorem rep3 {H : Hp} {p : Addr} {a b c : Int} (h : H p = some (.tup [.int a, .int b, .int c])) : Rep H (.ref p) (encR (a, b, c)) := .tup h (Reps.ints (ns := [a, b, c]))
theorem ok_rules_of_ended (T : Txt K mg) : FnOk P w K mg base (CXr P w) 3 T.rules_of_ended.a T.rules_of_ended.d ["world", "work", "end"] (sp_roe K) := by
  refine T.rules_of_ended.F.okN sc_rules_of_ended (fun vs H Q E h => ?_) (fun cdv A outer s H vs Q E hr h => ?_)
  · obtain ⟨v, W, x, e, rfl, _⟩ := h; rfl
  obtain ⟨v, W, x, e, rfl, hW, h0, h1, q⟩ := h
  refine ⟨_, (pss_cons (ps_set (i := 3) sc_rules_of_ended.nd rfl (by first | exact Or.inl rfl | exact Or.inr rfl) (pe_call (ok_begin_event T) (hr.mono (by decide)) rfl T.begin_event.m T.begin_event.F.kp T.begin_event.b .nil passN (pa_cons (pv 0) (pa_cons (pv 1) pa_nil)))) (pss_one (ps_ret (pe_lst (pa_cons (pe_tup (pa_cons (pv 2) (pa_cons (pv 3) (pa_cons (pe_call (ok_greatest_length T) (hr.mono (by decide)) rfl T.greatest_length.m T.greatest_length.F.kp T.greatest_length.b .nil passN (pa_cons (pv 0) (pa_cons (pv 1) pa_nil))) pa_nil)))) (pa_cons (pe_tup (pa_cons (pv 3) (pa_cons (pv 2) (pa_cons (pe_un un_neg (pe_call (ok_least_length T) (hr.mono (by decide)) rfl T.least_length.m T.least_length.F.kp T.least_length.b .nil passN (pa_cons (pv 0) (pa_cons (pv 1) pa_nil)))) pa_nil)))) (pa_cons (pe_tup (pa_cons (pe_op op_sub (pv 2) pe_int) (pa_cons (pv 2) (pa_cons pe_int pa_nil)))) pa_nil))))))), ?_⟩
  refine ⟨_, rfl, _, rfl, v, W, x, rfl, hW, ?_⟩
  refine ⟨_, rfl, _, rfl, _, rfl, _, rfl, v, W, x, rfl, hW, h0, h1, by show 3 ≤ sizeLine; decide, fun p1 hp1 => ?_⟩
  have g1 := same_new hp1 (.tup [.int e, .int (bg W x), .int (bnd W x).2])
  refine ⟨_, rfl, _, rfl, _, rfl, _, rfl, v, W, x, rfl, hW.mono g1, h0, h1, _, rfl, by show 3 ≤ sizeLine; decide, fun p2 hp2 => ?_⟩
  have g2 := same_new hp2 (.tup [.int (bg W x), .int e, .int (-(bnd W x).1)])
  refine ⟨_, rfl, _, _, rfl, rfl, _, rfl, by show 3 ≤ sizeLine; decide, fun p3 hp3 => ?_⟩
  have g3 := same_new hp3 (.tup [.int (e - 1), .int e, .int 0])
  refine ⟨by show 3 ≤ sizeLine; decide, fun r hr' => ?_⟩
  have g4 := same_new hr' (.lst [.ref p1, .ref p2, .ref p3])
  refine q r _ _ (((g1.trans g2).trans g3).trans g4) ?_ upd_same ?_
  · exact ((g1.trans g2).trans g3).free hr'
  · exact .cons (rep3 (g4 _ _ (g3 _ _ (g2 _ _ upd_same)))) (.cons (rep3 (g4 _ _ (g3 _ _ upd_same))) (.cons (rep3 (g4 _ _ upd_same)) .nil))
def sp_ror (K : PySem.W.Frag) : Sp := fun vs H Q _ => ∃ (v : V) (W : Wd) (x : Int) (n : Nat), vs = [v, .int x, .int n] ∧ Rep H v (encW W) ∧ 0 ≤ x ∧ x < (W.bs.length : Int) ∧
  ∀ (u : V) (H' : Hp), Same H H' → Rep H' u (encR (ruleR W n x)) → Q u H'
theorem ok_rule_of_running (T : Txt K mg) : FnOk P w K mg base (CXr P w) 3 T.rule_of_running.a T.rule_of_running.d ["world", "work", "last"] (sp_ror K) := by
  refine T.rule_of_running.F.okN sc_rule_of_running (fun vs H Q E h => ?_) (fun cdv A outer s H vs Q E hr h => ?_)
  · obtain ⟨v, W, x, n, rfl, _⟩ := h; rfl
  obtain ⟨v, W, x, n, rfl, hW, h0, h1, q⟩ := h
  refine ⟨_, (pss_one (ps_ret (pe_tup (pa_cons (pv 2) (pa_cons (pe_call (ok_begin_event T) (hr.mono (by decide)) rfl T.begin_event.m T.begin_event.F.kp T.begin_event.b .nil passN (pa_cons (pv 0) (pa_cons (pv 1) pa_nil))) (pa_cons (pe_call (ok_greatest_length T) (hr.mono (by decide)) rfl T.greatest_length.m T.greatest_length.F.kp T.greatest_length.b .nil passN (pa_cons (pv 0) (pa_cons (pv 1) pa_nil))) pa_nil)))))), ?_⟩
  refine ⟨_, rfl, _, rfl, _, rfl, v, W, x, rfl, hW, _, rfl, _, rfl, v, W, x, rfl, hW, h0, h1, by show 3 ≤ sizeLine; decide, fun p hp => ?_⟩
  exact q _ _ (same_new hp _) (rep3 upd_same)
end
end Be
set_option Elab.async false
set_option linter.all false
set_option maxRecDepth 100000
namespace Be
open PySem L2
theorem int_at {o : List Int} {i : Nat} {u : V} (h : (o.map V.int)[i]? = some u) : ∃ x, u = .int x ∧ o[i]? = some x ∧ o.getD i 0 = x := by
  rw [List.getElem?_map] at h
  cases e : o[i]? with
  | none => rw [e] at h; cases h
  | some x =>
    rw [e] at h
    exact ⟨x, (Option.some.inj h).symm, rfl, by rw [List.getD_eq_getElem?_getD, e]; rfl⟩
section
variable {P : Program} {w : World} {K : PySem.W.Frag} {mg : Str → Option Value} {base : Heap}
def sp_ru (T : Txt K mg) : Sp := fun vs H Q E => ∃ (v t : V) (d dt : PyData), vs = [v, t] ∧ Rep H v d ∧ Rep H t dt ∧ (∀ ds, dt = .tuple ds → ds.length ≤ 1000) ∧ (isWD d = false → ∀ H', Same H H' → E (.ref T.e_NoWorld.C) none H') ∧
  ∀ W : Wd, W.Ok → d = encW W → (ordD W dt = false → ∀ H', Same H H' → E (.ref T.e_NoOrder.C) none H') ∧
    (∀ o, VO W o → dt = encO o → ∀ (r : Addr) (H' : Hp) (ws : List V), Same H H' → H r = none → H' r = some (.lst ws) → Reps H' ws ((rulesM W o).map encR) → Q (.ref r) H')
theorem ok_rules (T : Txt K mg) : FnOk P w K mg base (CXr P w) 7 T.rules.a T.rules.d ["world", "order"] (sp_ru T) := by
  refine T.rules.F.okR sc_rules (fun vs H Q E h => ?_) (fun cdv A outer s H vs Q E hr h => ?_)
  · obtain ⟨v, t, d, dt, rfl, _⟩ := h; rfl
  obtain ⟨v, t, d, dt, rfl, hd, ht, hln, q1, q2⟩ := h
  refine ⟨_, (pss_cons (ps_expr (pe_call (ok_check_order T) (hr.mono (by decide)) rfl T.check_order.m T.check_order.F.kp T.check_order.b .nil passR (pa_cons (pv 0) (pa_cons (pv 1) pa_nil)))) (pss_cons (ps_set (i := 2) sc_rules.nd rfl (by first | exact Or.inl rfl | exact Or.inr rfl) (pe_lst pa_nil)) (pss_cons (PS.nox (ps_for PassesOwn.never rfl (pi_enumT rfl T.n_enumerate (pa_cons (pv 1) pa_nil)) (pg_tup rfl (pgs_cons (pg_name (i := 3) sc_rules.nd rfl (by first | exact Or.inl rfl | exact Or.inr rfl)) (pgs_cons (pg_name (i := 4) sc_rules.nd rfl (by first | exact Or.inl rfl | exact Or.inr rfl)) pgs_nil))) (pss_one (ps_expr (pe_bm PySem.F.plainAttrs_list PySem.F.slot_list_extend PySem.F.type_list_extend mt_extend (pv 2) (pa_cons (pe_call (ok_rules_of_ended T) (hr.mono (by decide)) rfl T.rules_of_ended.m T.rules_of_ended.F.kp T.rules_of_ended.b .nil passN (pa_cons (pv 0) (pa_cons (pv 4) (pa_cons (pe_op op_add (pv 3) pe_int) pa_nil)))) pa_nil)))))) (pss_cons (PS.nox (ps_for PassesOwn.never rfl (pi_list (pe_call (ok_running T) (hr.mono (by decide)) rfl T.running.m T.running.F.kp T.running.b .nil passN (pa_cons (pv 0) (pa_cons (pv 1) pa_nil)))) (pg_name (i := 4) sc_rules.nd rfl (by first | exact Or.inl rfl | exact Or.inr rfl)) (pss_one (ps_expr (pe_bm PySem.F.plainAttrs_list PySem.F.slot_list_append PySem.F.type_list_append mt_append (pv 2) (pa_cons (pe_call (ok_rule_of_running T) (hr.mono (by decide)) rfl T.rule_of_running.m T.rule_of_running.F.kp T.rule_of_running.b .nil passN (pa_cons (pv 0) (pa_cons (pv 4) (pa_cons (pe_callB call_len_seq rfl T.n_len bt_len (pa_cons (pv 1) pa_nil)) pa_nil)))) pa_nil)))))) (pss_one (ps_ret (pv 2))))))), ?_⟩
  refine ⟨_, rfl, _, rfl, v, t, d, dt, rfl, hd, ht, hln, q1, fun W hok e => ⟨(q2 W hok e).1, fun hy H1 g1 => ?_⟩⟩
  subst e
  obtain ⟨o, rfl, vo⟩ := ord_of hy
  have q := (q2 W hok rfl).2 o vo rfl
  have l10 := hok.l10
  have vl := vo.len
  obtain ⟨po, rfl, hpo⟩ := seqO (K := K) ht
  -- told = []
  refine ⟨Nat.zero_le _, fun l hl => ?_⟩
  have gl := g1.trans (same_new hl (.lst []))
  have fl : H l = none := g1.free hl
  refine ⟨_, rfl, po, _, rfl, SqT.of (gl _ _ hpo), for_enumT (K := K) (a := po) (xs := o.map V.int) (fun i σ H2 => ∃ (ws : List V) (x y : Option V), σ = [some v, some (.ref po), some (.ref l), x, y] ∧ Same H H2 ∧ H2 l = some (.lst ws) ∧ Reps H2 ws ((rulesPre W o i).map encR)) ?_ ?_ ?_ ?_⟩
  · exact ⟨[], none, none, rfl, gl, upd_same, .nil⟩
  · rintro i σ H2 _ ⟨ws, x, y, rfl, g, _⟩
    exact SqT.of (g _ _ hpo)
  · rintro i u p σ H2 hu hp ⟨ws, x, y, rfl, g, hl2, rs⟩
    obtain ⟨z, rfl, hz, hzd⟩ := int_at hu
    have hi : i < o.length := (List.getElem?_eq_some_iff.mp hz).1
    have zb := vo.lt (List.mem_of_getElem? hz)
    have g2 := same_new hp (.tup [.int i, .int z])
    have gg := g.trans g2
    refine ⟨p, _, rfl, SqT.of upd_same, rfl, _, _, rfl, _, _, rfl, rfl, ?_⟩
    refine ⟨_, rfl, .inl ⟨rfl, _, SqL.of (g2 _ _ hl2)⟩, _, rfl, _, rfl, _, rfl, _, _, rfl, rfl, v, W, z, (i : Int) + 1, rfl, hd.mono gg, zb.1, zb.2, fun r H3 w3 g3 fr3 hr3 rs3 => ?_⟩
    have hl3 : H3 l = some (.lst ws) := g3 _ _ (g2 _ _ hl2)
    refine ⟨l, r, ws, w3, rfl, rfl, hl3, hr3, ?_, ?_⟩
    · rw [rs.length, rs3.length, List.length_map, List.length_map, rulesPre_len]
      exact Nat.le_trans (show 3 * i + 3 ≤ 100 by omega) (by decide)
    refine ⟨ws ++ w3, _, _, rfl, (gg.trans g3).write fl _, upd_same, ?_⟩
    rw [rulesPre_succ, List.map_append, hzd]
    have ts : TSame H3 (upd H3 l (.lst (ws ++ w3))) := TSame.lst hl3 _
    have e3 : ([((i : Int) + 1, bg W z, (bnd W z).2), (bg W z, (i : Int) + 1, -(bnd W z).1), ((i : Int) + 1 - 1, (i : Int) + 1, 0)] : List Ru) = rule3 W i z := by
      unfold rule3
      rw [show (i : Int) + 1 - 1 = i by omega]
    rw [e3] at rs3
    exact ((rs.mono (g2.trans g3)).tmono ts (all_encR _)).append (rs3.tmono ts (all_encR _))
  · rintro σ H2 ⟨ws, x, y, rfl, g, hl2, rs⟩
    rw [List.length_map] at rs
    -- for work in running(world, order)
    refine ⟨_, rfl, _, rfl, v, po, W, o, rfl, hd.mono g, hok, .inr (SqT.of (g _ _ hpo)), by omega, fun r H3 g3 fr3 hr3 => ?_⟩
    have hrl : r ≠ l := fun z => by rw [z, hl2] at fr3; cases fr3
    have fr : H r = none := g.free fr3
    have rl := run_len W o
    refine ⟨r, rfl, ⟨_, SqL.of hr3⟩, for_list (K := K) (a := r) (xs := (runM W o).map V.int) (fun i σ H4 => ∃ (ws : List V) (x y : Option V), σ = [some v, some (.ref po), some (.ref l), x, y] ∧ Same H H4 ∧ H4 l = some (.lst ws) ∧ H4 r = some (.lst ((runM W o).map V.int)) ∧ Reps H4 ws ((rulesPre W o o.length ++ ((runM W o).take i).map (ruleR W o.length)).map encR)) ?_ ?_ ?_ ?_⟩
    · refine ⟨ws, x, y, rfl, g.trans g3, g3 _ _ hl2, hr3, ?_⟩
      show Reps H3 ws ((rulesPre W o o.length ++ []).map encR)
      rw [List.append_nil]
      exact rs.mono g3
    · rintro i σ H4 _ ⟨ws, x, y, rfl, g4, hl4, hr4, _⟩
      exact SqL.of hr4
    · rintro i u σ H4 hu ⟨ws, x, y, rfl, g4, hl4, hr4, rs4⟩
      obtain ⟨z, rfl, hz, hzd⟩ := int_at hu
      have zr := mem_run.mp (List.mem_of_getElem? hz)
      have zb : 0 ≤ z ∧ z < (W.bs.length : Int) := by have := began_le W o.length; omega
      have hi : i < (runM W o).length := (List.getElem?_eq_some_iff.mp hz).1
      refine ⟨_, rfl, .inl ⟨rfl, _, SqL.of hl4⟩, _, rfl, _, rfl, _, rfl, po, _, rfl, .inr (SqT.of (g4 _ _ hpo)), v, W, z, _, rfl, hd.mono g4, zb.1, zb.2, fun u5 H5 g5 ru5 => ?_⟩
      have hl5 := g5 _ _ hl4
      refine ⟨l, ws, u5, rfl, rfl, hl5, ?_, ?_⟩
      · rw [rs4.length, List.length_map, List.length_append, rulesPre_len, List.length_map, List.length_take]
        exact Nat.lt_of_lt_of_le (show _ < 100 by omega) (by decide)
      rw [List.length_map] at ru5
      have ts : TSame H5 (upd H5 l (.lst (ws ++ [u5]))) := TSame.lst hl5 _
      refine ⟨ws ++ [u5], _, _, rfl, (g4.trans g5).write fl _, upd_same, ?_, ?_⟩
      · rw [upd_ne hrl]; exact g5 _ _ hr4
      · rw [List.take_add_one, hz]
        show Reps _ _ ((rulesPre W o o.length ++ ((runM W o).take i ++ [z]).map (ruleR W o.length)).map encR)
        rw [show (rulesPre W o o.length ++ ((runM W o).take i ++ [z]).map (ruleR W o.length)).map encR = (rulesPre W o o.length ++ ((runM W o).take i).map (ruleR W o.length)).map encR ++ [encR (ruleR W o.length z)] by simp]
        exact ((rs4.mono g5).tmono ts (all_encR _)).append (Reps.one (ru5.tmono ts (by rfl)))
    · rintro σ H4 ⟨ws, x, y, rfl, g4, hl4, hr4, rs4⟩
      rw [List.length_map, List.take_length] at rs4
      exact ⟨_, rfl, q l H4 ws g4 fl hl4 rs4⟩
def sp_lbg : Sp := fun vs H Q _ => ∃ (v : V) (W : Wd) (x : Int), vs = [v, .int x] ∧ Rep H v (encW W) ∧ Q (.int (bg W x)) H
theorem ok_law_begin (T : Txt K mg) : FnOk P w K mg base (CXr P w) 1 T.law_begin.a T.law_begin.d ["_law_world_here", "_law_work"] sp_lbg := by
  refine T.law_begin.F.okN sc_law_begin (fun vs H Q E h => ?_) (fun cdv A outer s H vs Q E hr h => ?_)
  · obtain ⟨v, W, x, rfl, _⟩ := h; rfl
  obtain ⟨v, W, x, rfl, hW, q⟩ := h
  obtain ⟨a, p, vs, AW⟩ := atW hW
  obtain rfl := AW.v
  refine ⟨_, (pss_one (ps_ret (pe_ifExp (pt_cmpR op_lt (pv 1) (pe_ix ix_tup (pv 0) pe_int (fun _ _ => rfl)) (nomark _)) pe_int (pe_op op_add (pe_op op_sub (pv 1) (pe_ix ix_tup (pv 0) pe_int (fun _ _ => rfl))) pe_int)))), ?_⟩
  refine ⟨_, rfl, _, rfl, a, _, _, _, rfl, rfl, SqT.of AW.a, rfl, _, _, rfl, rfl, _, rfl, ?_⟩
  refine ite2 (fun c => ?_) (fun c => ?_)
  · have e : bg W x = 0 := by unfold bg; rw [if_pos (of_decide_eq_true c)]
    rw [e] at q
    exact q
  · have e : bg W x = x - W.b + 1 := by unfold bg; rw [if_neg (of_decide_eq_false (Bool.eq_false_iff.mpr c))]
    rw [e] at q
    exact ⟨_, rfl, _, rfl, a, _, _, _, rfl, rfl, SqT.of AW.a, rfl, _, _, rfl, rfl, _, _, rfl, rfl, q⟩
end
end Be
set_option Elab.async false
set_option linter.all false
/-! Earliest moments, by passes over the rules: plain Lean. -/
namespace Be
def fn (r : List Int) (i : Nat) : Int := r.getD i 0
def FeasF (rs : List Ru) (f : Nat → Int) : Prop := ∀ r ∈ rs, f r.1.toNat - f r.2.1.toNat ≤ r.2.2
def NN (n : Nat) (f : Nat → Int) : Prop := ∀ v, v < n → 0 ≤ f v
def InR (rs : List Ru) (n : Nat) : Prop := ∀ r ∈ rs, (0 ≤ r.1 ∧ r.1 < (n : Int)) ∧ (0 ≤ r.2.1 ∧ r.2.1 < (n : Int))
def mxI (i j : Int) : Int := if j > i then j else i
def stepP (row : List Int) (r : Ru) : List Int := row.set r.2.1.toNat (mxI (fn row r.2.1.toNat) (fn row r.1.toNat - r.2.2))
def pass (rs : List Ru) (row : List Int) : List Int := rs.foldl stepP row
def earlyM (rs : List Ru) : Nat → List Int → Option (List Int)
  | 0, _ => none
  | t + 1, row => if pass rs row = row then some row else earlyM rs t (pass rs row)
theorem fn_set (row : List Int) (k i : Nat) (v : Int) : fn (row.set k v) i = if i = k ∧ k < row.length then v else fn row i := by
  unfold fn
  rw [List.getD_eq_getElem?_getD, List.getD_eq_getElem?_getD, List.getElem?_set]
  by_cases h : k = i
  · subst h
    by_cases hl : k < row.length
    · rw [if_pos rfl, if_pos hl, if_pos ⟨rfl, hl⟩]; rfl
    · rw [if_pos rfl, if_neg hl, if_neg (fun z => hl z.2), List.getElem?_eq_none (by omega)]
  · rw [if_neg h, if_neg (fun z => h z.1.symm)]
theorem step_len (row : List Int) (r : Ru) : (stepP row r).length = row.length := by unfold stepP; rw [List.length_set]
theorem pass_len (rs : List Ru) : ∀ row, (pass rs row).length = row.length := by
  induction rs with
  | nil => intro row; rfl
  | cons r rs ih => intro row; show (pass rs (stepP row r)).length = _; rw [ih, step_len]
theorem step_ge (row : List Int) (r : Ru) (i : Nat) : fn row i ≤ fn (stepP row r) i := by
  unfold stepP
  rw [fn_set]
  split
  · rename_i h
    rw [h.1]
    unfold mxI
    split <;> omega
  · exact Int.le_refl _
theorem pass_ge (rs : List Ru) : ∀ (row : List Int) (i : Nat), fn row i ≤ fn (pass rs row) i := by
  induction rs with
  | nil => intro row i; exact Int.le_refl _
  | cons r rs ih => intro row i; exact Int.le_trans (step_ge row r i) (ih (stepP row r) i)
theorem step_le {row : List Int} {r : Ru} {f : Nat → Int} (h : f r.1.toNat - f r.2.1.toNat ≤ r.2.2) (h1 : r.1.toNat < row.length) (hr : ∀ i, i < row.length → fn row i ≤ f i) : ∀ i, i < (stepP row r).length → fn (stepP row r) i ≤ f i := by
  intro i hi
  rw [step_len] at hi
  unfold stepP
  rw [fn_set]
  split
  · rename_i z
    obtain ⟨z1, z2⟩ := z
    have a := hr _ z2
    have b := hr _ h1
    rw [z1]
    unfold mxI
    split <;> omega
  · exact hr i hi
theorem pass_le {f : Nat → Int} (rs : List Ru) : ∀ (row : List Int), FeasF rs f → InR rs row.length → (∀ i, i < row.length → fn row i ≤ f i) → ∀ i, i < row.length → fn (pass rs row) i ≤ f i := by
  induction rs with
  | nil => intro row _ _ h; exact h
  | cons r rs ih =>
    intro row hf hi h
    have h1 := hi r List.mem_cons_self
    have z := ih (stepP row r) (fun q hq => hf q (List.mem_cons_of_mem _ hq)) (by rw [step_len]; exact fun q hq => hi q (List.mem_cons_of_mem _ hq)) (step_le (hf r List.mem_cons_self) (by omega) h)
    rw [step_len] at z
    exact z
theorem pass_hit (rs : List Ru) : ∀ (row : List Int), InR rs row.length → ∀ r ∈ rs, fn row r.1.toNat - r.2.2 ≤ fn (pass rs row) r.2.1.toNat := by
  induction rs with
  | nil => intro row _ r hr; cases hr
  | cons q rs ih =>
    intro row hi r hr
    have hq := hi q List.mem_cons_self
    rcases List.mem_cons.mp hr with rfl | hr
    · refine Int.le_trans ?_ (pass_ge rs (stepP row r) _)
      unfold stepP
      rw [fn_set, if_pos ⟨rfl, by omega⟩]
      unfold mxI
      split <;> omega
    · have a := ih (stepP row q) (by rw [step_len]; exact fun x hx => hi x (List.mem_cons_of_mem _ hx)) r hr
      have b := step_ge row q r.1.toNat
      show _ ≤ fn (pass rs (stepP row q)) _
      omega
theorem fix_feas {rs : List Ru} {row : List Int} (hi : InR rs row.length) (h : pass rs row = row) : FeasF rs (fn row) := fun r hr => by
  have := pass_hit rs row hi r hr
  rw [h] at this
  omega
/-! sums and counts -/
def ssum : Nat → (Nat → Int) → Int
  | 0, _ => 0
  | n + 1, f => ssum n f + f n
theorem ssum_nn {f : Nat → Int} : ∀ n, NN n f → 0 ≤ ssum n f
  | 0, _ => Int.le_refl _
  | n + 1, h => by
    have a := ssum_nn n (fun v hv => h v (by omega))
    have b := h n (by omega)
    show 0 ≤ ssum n f + f n
    omega
theorem ssum_le {f g : Nat → Int} : ∀ n, (∀ v, v < n → f v ≤ g v) → ssum n f ≤ ssum n g
  | 0, _ => Int.le_refl _
  | n + 1, h => by
    have a := ssum_le n (fun v hv => h v (by omega))
    have b := h n (by omega)
    show ssum n f + f n ≤ ssum n g + g n
    omega
theorem ssum_lt {f g : Nat → Int} : ∀ n, (∀ v, v < n → f v ≤ g v) → (∃ v, v < n ∧ f v < g v) → ssum n f < ssum n g
  | 0, _, ⟨v, hv, _⟩ => by omega
  | n + 1, h, ⟨v, hv, hl⟩ => by
    have b := h n (by omega)
    show ssum n f + f n < ssum n g + g n
    by_cases e : v = n
    · subst e
      have a := ssum_le v (fun u hu => h u (by omega))
      omega
    · have a := ssum_lt n (fun u hu => h u (by omega)) ⟨v, by omega, hl⟩
      omega
def cnt : Nat → (Nat → Bool) → Nat
  | 0, _ => 0
  | n + 1, p => cnt n p + (if p n then 1 else 0)
theorem cnt_len (p : Nat → Bool) : ∀ n, cnt n p ≤ n
  | 0 => Nat.le_refl _
  | n + 1 => by
    have := cnt_len p n
    show cnt n p + (if p n then 1 else 0) ≤ n + 1
    split <;> omega
theorem cnt_le {p q : Nat → Bool} : ∀ n, (∀ v, v < n → p v = true → q v = true) → cnt n p ≤ cnt n q
  | 0, _ => Nat.le_refl _
  | n + 1, h => by
    have a := cnt_le n (fun v hv => h v (by omega))
    have b := h n (by omega)
    show cnt n p + (if p n then 1 else 0) ≤ cnt n q + (if q n then 1 else 0)
    cases hp : p n
    · simp; split <;> omega
    · rw [b hp]; simp; omega
theorem cnt_lt {p q : Nat → Bool} : ∀ n, (∀ v, v < n → p v = true → q v = true) → (∃ v, v < n ∧ p v = false ∧ q v = true) → cnt n p + 1 ≤ cnt n q
  | 0, _, ⟨v, hv, _⟩ => by omega
  | n + 1, h, ⟨v, hv, hp, hq⟩ => by
    show cnt n p + (if p n then 1 else 0) + 1 ≤ cnt n q + (if q n then 1 else 0)
    by_cases e : v = n
    · subst e
      have a := cnt_le v (fun u hu => h u (by omega))
      rw [hp, hq]; simp; omega
    · have a := cnt_lt n (fun u hu => h u (by omega)) ⟨v, by omega, hp, hq⟩
      have b := h n (by omega)
      cases hp : p n
      · simp; split <;> omega
      · rw [b hp]; simp; omega
theorem cnt_all {p : Nat → Bool} : ∀ n, (∀ v, v < n → p v = true) → cnt n p = n
  | 0, _ => rfl
  | n + 1, h => by
    show cnt n p + (if p n then 1 else 0) = n + 1
    rw [cnt_all n (fun v hv => h v (by omega)), h n (by omega)]; rfl
theorem cnt_full {p : Nat → Bool} : ∀ n, n ≤ cnt n p → ∀ v, v < n → p v = true
  | 0, _, v, hv => by omega
  | n + 1, h, v, hv => by
    have h' : n + 1 ≤ cnt n p + (if p n then 1 else 0) := h
    have l := cnt_len p n
    cases hp : p n
    · rw [hp] at h'; simp at h'; omega
    · by_cases e : v = n
      · rw [e]; exact hp
      · rw [hp] at h'; simp at h'; exact cnt_full n (by omega) v (by omega)
/-- a least sum -/
structure Least (rs : List Ru) (n : Nat) (L : Nat → Int) : Prop where
  fe : FeasF rs L
  nn : NN n L
  le : ∀ M, FeasF rs M → NN n M → ssum n L ≤ ssum n M
theorem exists_least (rs : List Ru) (n : Nat) : ∀ (k : Nat) (x : Nat → Int), FeasF rs x → NN n x → (ssum n x).toNat ≤ k → ∃ L, Least rs n L
  | 0, x, hf, hn, hk => ⟨x, hf, hn, fun M _ hM => by have := ssum_nn n hM; have := ssum_nn n hn; omega⟩
  | k + 1, x, hf, hn, hk => by
    by_cases h : ∃ M, FeasF rs M ∧ NN n M ∧ ssum n M < ssum n x
    · obtain ⟨M, a, b, c⟩ := h
      have := ssum_nn n b
      exact exists_least rs n k M a b (by omega)
    · exact ⟨x, hf, hn, fun M a b => by
        by_cases c : ssum n M < ssum n x
        · exact absurd ⟨M, a, b, c⟩ h
        · omega⟩
/-- a pass settles one more -/
theorem settle {rs : List Ru} {n : Nat} {L : Nat → Int} (hL : Least rs n L) {row : List Int} (hl : row.length = n) (hi : InR rs n) (h0 : ∀ v, v < n → 0 ≤ fn row v) (hle : ∀ v, v < n → fn row v ≤ L v)
    (hne : ∃ v, v < n ∧ fn row v ≠ L v) : ∃ v, v < n ∧ fn row v ≠ L v ∧ fn (pass rs row) v = L v := by
  apply Classical.byContradiction
  intro hno
  have hno' : ∀ v, v < n → fn row v ≠ L v → fn (pass rs row) v ≠ L v := fun v a b c => hno ⟨v, a, b, c⟩
  have hp := pass_le rs row hL.fe (by rw [hl]; exact hi) (by rw [hl]; exact hle)
  rw [hl] at hp
  have hh := pass_hit rs row (by rw [hl]; exact hi)
  let M : Nat → Int := fun v => if fn row v = L v then L v else L v - 1
  have m1 : ∀ v, fn row v = L v → M v = L v := fun v e => if_pos e
  have m2 : ∀ v, fn row v ≠ L v → M v = L v - 1 := fun v e => if_neg e
  have hM : FeasF rs M := fun r hr => by
    have f := hL.fe r hr
    have ir := hi r hr
    have h1 := hh r hr
    have hb := hp r.2.1.toNat (by omega)
    by_cases a : fn row r.1.toNat = L r.1.toNat
    · by_cases b : fn row r.2.1.toNat = L r.2.1.toNat
      · rw [m1 _ a, m1 _ b]; exact f
      · rw [m1 _ a, m2 _ b]
        have := hno' r.2.1.toNat (by omega) b
        omega
    · by_cases b : fn row r.2.1.toNat = L r.2.1.toNat
      · rw [m2 _ a, m1 _ b]; omega
      · rw [m2 _ a, m2 _ b]; omega
  have hN : NN n M := fun v hv => by
    have a := h0 v hv
    have b := hle v hv
    by_cases e : fn row v = L v
    · rw [m1 _ e]; omega
    · rw [m2 _ e]; omega
  have l := hL.le M hM hN
  obtain ⟨v, hv, hne⟩ := hne
  have := ssum_lt (f := M) (g := L) n (fun u hu => by
    by_cases e : fn row u = L u
    · rw [m1 _ e]; omega
    · rw [m2 _ e]; omega) ⟨v, hv, by rw [m2 _ hne]; omega⟩
  omega
def sett (L : Nat → Int) (row : List Int) : Nat → Bool := fun v => decide (fn row v = L v)
theorem settle_cnt {rs : List Ru} {n : Nat} {L : Nat → Int} (hL : Least rs n L) {row : List Int} (hl : row.length = n) (hi : InR rs n) (h0 : ∀ v, v < n → 0 ≤ fn row v) (hle : ∀ v, v < n → fn row v ≤ L v)
    (hne : ∃ v, v < n ∧ fn row v ≠ L v) : cnt n (sett L row) + 1 ≤ cnt n (sett L (pass rs row)) := by
  obtain ⟨v, hv, a, b⟩ := settle hL hl hi h0 hle hne
  have hp := pass_le rs row hL.fe (by rw [hl]; exact hi) (by rw [hl]; exact hle)
  rw [hl] at hp
  refine cnt_lt n (fun u hu e => ?_) ⟨v, hv, decide_eq_false a, decide_eq_true b⟩
  have e' := of_decide_eq_true e
  have g := pass_ge rs row u
  have := hp u hu
  exact decide_eq_true (by omega)
theorem eq_of_fn {x y : List Int} (hl : x.length = y.length) (h : ∀ v, v < x.length → fn x v = fn y v) : x = y := by
  refine List.ext_getElem hl fun i h1 h2 => ?_
  have := h i h1
  unfold fn at this
  rw [List.getD_eq_getElem?_getD, List.getD_eq_getElem?_getD, List.getElem?_eq_getElem h1, List.getElem?_eq_getElem h2] at this
  exact this
/-- the passes come to rest -/
theorem conv {rs : List Ru} {n : Nat} {L : Nat → Int} (hL : Least rs n L) (hi : InR rs n) : ∀ (t : Nat) (row : List Int), row.length = n → (∀ v, v < n → 0 ≤ fn row v) → (∀ v, v < n → fn row v ≤ L v) → n + 1 ≤ t + cnt n (sett L row) → ∃ r, earlyM rs t row = some r
  | 0, row, hl, _, _, hc => by have := cnt_len (sett L row) n; omega
  | t + 1, row, hl, h0, hle, hc => by
    have hp := pass_le rs row hL.fe (by rw [hl]; exact hi) (by rw [hl]; exact hle)
    rw [hl] at hp
    unfold earlyM
    by_cases e : pass rs row = row
    · rw [if_pos e]; exact ⟨row, rfl⟩
    · rw [if_neg e]
      have hne : ∃ v, v < n ∧ fn row v ≠ L v := by
        apply Classical.byContradiction
        intro hno
        refine e (eq_of_fn (pass_len rs row) fun v hv => ?_)
        rw [pass_len, hl] at hv
        have a := hp v hv
        have b := pass_ge rs row v
        have c : fn row v = L v := Classical.byContradiction fun z => hno ⟨v, hv, z⟩
        omega
      have hc2 := settle_cnt hL hl hi h0 hle hne
      exact conv hL hi t (pass rs row) (by rw [pass_len]; exact hl) (fun v hv => Int.le_trans (h0 v hv) (pass_ge rs row v)) hp (by omega)
theorem early_props {rs : List Ru} {n : Nat} (hi : InR rs n) : ∀ (t : Nat) (row r : List Int), row.length = n → earlyM rs t row = some r → r.length = n ∧ pass rs r = r ∧ (∀ v, fn row v ≤ fn r v) ∧ ∀ f, FeasF rs f → (∀ v, v < n → fn row v ≤ f v) → ∀ v, v < n → fn r v ≤ f v
  | 0, row, r, hl, h => by cases h
  | t + 1, row, r, hl, h => by
    unfold earlyM at h
    by_cases e : pass rs row = row
    · rw [if_pos e] at h
      cases h
      exact ⟨hl, e, fun v => Int.le_refl _, fun f _ hf => hf⟩
    · rw [if_neg e] at h
      obtain ⟨a, b, c, d⟩ := early_props hi t (pass rs row) r (by rw [pass_len]; exact hl) h
      refine ⟨a, b, fun v => Int.le_trans (pass_ge rs row v) (c v), fun f hf hle => d f hf ?_⟩
      have := pass_le rs row hf (by rw [hl]; exact hi) (by rw [hl]; exact hle)
      rw [hl] at this
      exact this
def gain : List Ru → Int
  | [] => 0
  | r :: rs => (if r.2.2 < 0 then -r.2.2 else 0) + gain rs
theorem gain_app : ∀ a b, gain (a ++ b) = gain a + gain b
  | [], b => by show gain b = 0 + gain b; omega
  | r :: a, b => by
    show (if r.2.2 < 0 then -r.2.2 else 0) + gain (a ++ b) = (if r.2.2 < 0 then -r.2.2 else 0) + gain a + gain b
    rw [gain_app a b]; omega
theorem pass_bound : ∀ (rs : List Ru) (row : List Int) (c : Int), 0 ≤ c → (∀ v, fn row v ≤ c) → ∀ v, fn (pass rs row) v ≤ c + gain rs
  | [], row, c, _, h, v => by have := h v; show fn row v ≤ c + 0; omega
  | r :: rs, row, c, hc, h, v => by
    have z := pass_bound rs (stepP row r) (c + (if r.2.2 < 0 then -r.2.2 else 0)) (by split <;> omega) (fun u => by
      have a := h u
      have b := h r.1.toNat
      have d := h r.2.1.toNat
      unfold stepP
      rw [fn_set]
      split
      · unfold mxI; split <;> split <;> omega
      · split <;> omega) v
    show fn (pass rs (stepP row r)) v ≤ c + ((if r.2.2 < 0 then -r.2.2 else 0) + gain rs)
    omega
theorem early_bound {rs : List Ru} {n : Nat} (hi : InR rs n) (hg : gain rs ≤ 990) {r : List Int} (hL : Least rs n (fn r)) (hfix : pass rs r = r) (hrl : r.length = n) : ∀ (t : Nat) (row : List Int) (c : Int), row.length = n → earlyM rs t row = some r → 0 ≤ c → (∀ v, fn row v ≤ c) → (∀ v, v < n → 0 ≤ fn row v) →
    ∀ v, fn r v ≤ c + 990 * ((n : Int) - (cnt n (sett (fn r) row) : Int))
  | 0, row, c, hl, h, _, _, _ => by cases h
  | t + 1, row, c, hl, h, hc, hb, h0 => by
    intro v
    have ep := (early_props hi (t + 1) row r hl h).2.2.1
    unfold earlyM at h
    by_cases e : pass rs row = row
    · rw [if_pos e] at h
      cases h
      have := hb v
      have := cnt_len (sett (fn r) r) n
      omega
    · rw [if_neg e] at h
      have hne : ∃ v, v < n ∧ fn row v ≠ fn r v := by
        apply Classical.byContradiction
        intro hno
        have : row = r := eq_of_fn (by rw [hl, hrl]) fun v hv => Classical.byContradiction fun z => hno ⟨v, by omega, z⟩
        rw [this] at e
        exact e hfix
      have hc2 := settle_cnt hL hl hi h0 (fun v _ => ep v) hne
      have pb := pass_bound rs row c hc hb
      have z := early_bound hi hg hL hfix hrl t (pass rs row) (c + 990) (by rw [pass_len]; exact hl) h (by omega) (fun u => by have := pb u; omega) (fun u hu => Int.le_trans (h0 u hu) (pass_ge rs row u)) v
      omega
/-! the rules of an order -/
theorem bnd_mem {W : Wd} {x : Int} (h0 : 0 ≤ x) (h1 : x < (W.bs.length : Int)) : bnd W x ∈ W.bs := by
  unfold bnd
  rw [List.getD_eq_getElem?_getD, List.getElem?_eq_getElem (show x.toNat < W.bs.length by omega)]
  exact List.getElem_mem _
theorem mem_pre {W : Wd} {o : List Int} {r : Ru} : ∀ {i : Nat}, r ∈ rulesPre W o i → ∃ j, j < i ∧ r ∈ rule3 W j (o.getD j 0)
  | i, h => by
    unfold rulesPre at h
    obtain ⟨j, hj, hr⟩ := List.mem_flatMap.mp h
    exact ⟨j, List.mem_range.mp hj, hr⟩
theorem VO.getD {W : Wd} {o : List Int} (h : VO W o) {j : Nat} (hj : j < o.length) : 0 ≤ o.getD j 0 ∧ o.getD j 0 < (began W j : Int) := by
  rw [List.getD_eq_getElem?_getD, List.getElem?_eq_getElem hj]
  exact h.at_ j _ (List.getElem?_eq_getElem hj)
theorem bg_le {W : Wd} {n : Nat} {x : Int} (hok : W.Ok) (h0 : 0 ≤ x) (h : x < (began W n : Int)) : 0 ≤ bg W x ∧ bg W x ≤ n := by
  have b1 := hok.b1
  unfold bg
  unfold began at h
  split <;> omega
theorem inR {W : Wd} {o : List Int} (hok : W.Ok) (vo : VO W o) : InR (rulesM W o) (o.length + 1) := fun r hr => by
  unfold rulesM at hr
  rcases List.mem_append.mp hr with hr | hr
  · obtain ⟨j, hj, hr⟩ := mem_pre hr
    have g := vo.getD hj
    have b := bg_le hok g.1 g.2
    unfold rule3 at hr
    simp only [List.mem_cons, List.not_mem_nil, or_false] at hr
    rcases hr with rfl | rfl | rfl
    · dsimp only; omega
    · dsimp only; omega
    · dsimp only; omega
  · obtain ⟨x, hx, rfl⟩ := List.mem_map.mp hr
    obtain ⟨⟨x0, x1⟩, _⟩ := mem_run.mp hx
    have b := bg_le hok x0 x1
    unfold ruleR
    dsimp only
    omega
theorem gain_pre {W : Wd} {o : List Int} (hok : W.Ok) (vo : VO W o) : ∀ i, i ≤ o.length → gain (rulesPre W o i) ≤ 99 * (i : Int)
  | 0, _ => Int.le_refl _
  | i + 1, hi => by
    have ih := gain_pre hok vo i (by omega)
    have g := vo.getD (j := i) (by omega)
    have l := began_le W i
    have m := hok.bd _ (bnd_mem g.1 (by omega : o.getD i 0 < (W.bs.length : Int)))
    rw [rulesPre_succ, gain_app]
    have e : gain (rule3 W i (o.getD i 0)) ≤ 99 := by
      unfold rule3
      simp only [gain]
      split <;> split <;> split <;> omega
    omega
theorem gain_run {W : Wd} (hok : W.Ok) (n : Nat) : ∀ xs : List Int, (∀ x ∈ xs, 0 ≤ x ∧ x < (W.bs.length : Int)) → gain (xs.map (ruleR W n)) = 0
  | [], _ => rfl
  | x :: xs, h => by
    have a := h x List.mem_cons_self
    have m := hok.bd _ (bnd_mem a.1 a.2)
    rw [List.map_cons, gain, gain_run hok n xs fun y hy => h y (List.mem_cons_of_mem _ hy)]
    unfold ruleR
    dsimp only
    split <;> omega
theorem gain_rules {W : Wd} {o : List Int} (hok : W.Ok) (vo : VO W o) : gain (rulesM W o) ≤ 990 := by
  have a := gain_pre hok vo o.length (Nat.le_refl _)
  have l := vo.len
  have l10 := hok.l10
  unfold rulesM
  rw [gain_app, gain_run hok _ _ fun x hx => by
    obtain ⟨⟨x0, x1⟩, _⟩ := mem_run.mp hx
    have := began_le W o.length
    omega]
  omega
theorem chain_rule {W : Wd} {o : List Int} {k : Nat} (h : k < o.length) : ((k : Int), (k : Int) + 1, (0 : Int)) ∈ rulesM W o := by
  unfold rulesM rulesPre
  refine List.mem_append_left _ (List.mem_flatMap.mpr ⟨k, List.mem_range.mpr h, ?_⟩)
  unfold rule3
  simp
theorem rises {W : Wd} {o : List Int} {f : Nat → Int} (h : FeasF (rulesM W o) f) : ∀ v, v ≤ o.length → f 0 ≤ f v
  | 0, _ => Int.le_refl _
  | v + 1, hv => by
    have a := rises h v (by omega)
    have b := h _ (chain_rule (k := v) (by omega))
    dsimp only at b
    rw [Int.toNat_natCast, show ((v : Int) + 1).toNat = v + 1 by omega] at b
    omega
def zrow (n : Nat) : List Int := List.replicate n 0
theorem fn_zrow (n v : Nat) : fn (zrow n) v = 0 := by
  unfold fn zrow
  rw [List.getD_eq_getElem?_getD, List.getElem?_replicate]
  split <;> rfl
theorem zrow_len (n : Nat) : (zrow n).length = n := List.length_replicate ..
def early (W : Wd) (o : List Int) : Option (List Int) := earlyM (rulesM W o) (o.length + 2) (zrow (o.length + 1))
structure IsEarly (W : Wd) (o : List Int) (r : List Int) : Prop where
  len : r.length = o.length + 1
  fe : FeasF (rulesM W o) (fn r)
  nn : ∀ v, 0 ≤ fn r v
  z : fn r 0 = 0
  le : ∀ f, FeasF (rulesM W o) f → NN (o.length + 1) f → ∀ v, v < o.length + 1 → fn r v ≤ f v
  top : ∀ v, fn r v ≤ 9900
theorem early_some {W : Wd} {o r : List Int} (hok : W.Ok) (vo : VO W o) (h : early W o = some r) : IsEarly W o r := by
  have hi := inR hok vo
  unfold early at h
  obtain ⟨a, b, c, d⟩ := early_props hi _ _ r (zrow_len _) h
  have fe : FeasF (rulesM W o) (fn r) := fix_feas (by rw [a]; exact hi) b
  have nn : ∀ v, 0 ≤ fn r v := fun v => by have := c v; rw [fn_zrow] at this; exact this
  have le : ∀ f, FeasF (rulesM W o) f → NN (o.length + 1) f → ∀ v, v < o.length + 1 → fn r v ≤ f v := fun f hf hn => d f hf fun v hv => by rw [fn_zrow]; exact hn v hv
  have z : fn r 0 = 0 := by
    have x := le (fun v => fn r v - fn r 0) (fun q hq => by have := fe q hq; dsimp only; omega) (fun v hv => by have := rises fe v (by omega); dsimp only; omega) 0 (by omega)
    have := nn 0
    omega
  refine ⟨a, fe, nn, z, le, fun v => ?_⟩
  have hL : Least (rulesM W o) (o.length + 1) (fn r) := ⟨fe, fun v _ => nn v, fun M hM hN => ssum_le _ (le M hM hN)⟩
  have t := early_bound hi (gain_rules hok vo) hL b a _ _ 0 (zrow_len _) h (Int.le_refl _) (fun v => by rw [fn_zrow]; exact Int.le_refl _) (fun v _ => by rw [fn_zrow]; exact Int.le_refl _) v
  have c1 : 1 ≤ cnt (o.length + 1) (sett (fn r) (zrow (o.length + 1))) := by
    have := cnt_lt (p := fun _ => false) (q := sett (fn r) (zrow (o.length + 1))) (o.length + 1) (fun _ _ z => by cases z) ⟨0, by omega, rfl, decide_eq_true (by rw [fn_zrow, z])⟩
    omega
  have l := vo.len
  have l10 := hok.l10
  omega
theorem early_none {W : Wd} {o : List Int} (hok : W.Ok) (vo : VO W o) {f : Nat → Int} (hf : FeasF (rulesM W o) f) (hn : NN (o.length + 1) f) : ∃ r, early W o = some r := by
  obtain ⟨L, hL⟩ := exists_least (rulesM W o) (o.length + 1) _ f hf hn (Nat.le_refl _)
  exact conv hL (inR hok vo) _ _ (zrow_len _) (fun v _ => by rw [fn_zrow]; exact Int.le_refl _) (fun v hv => by rw [fn_zrow]; exact hL.nn v hv) (by omega)
end Be
set_option Elab.async false
set_option linter.all false
set_option maxRecDepth 100000
namespace Be
open PySem L2
theorem encW_inj {W W' : Wd} (e : encW W = encW W') : W = W' := by
  obtain ⟨b, bs⟩ := W
  obtain ⟨b', bs'⟩ := W'
  unfold encW at e
  injection e with e
  injection e with e1 e2
  injection e1 with e1
  injection e2 with e2 _
  injection e2 with e2
  have hm : ∀ (x y : List (Int × Int)), x.map encB = y.map encB → x = y := by
    intro x
    induction x with
    | nil => intro y h; cases y with | nil => rfl | cons a r => cases h
    | cons a r ih =>
      intro y h
      cases y with
      | nil => cases h
      | cons c t =>
        rw [List.map_cons, List.map_cons] at h
        injection h with h1 h2
        unfold encB at h1
        injection h1 with h1
        injection h1 with h3 h4
        injection h3 with h3
        injection h4 with h4 _
        injection h4 with h4
        rw [ih t h2, show a = c from Prod.ext h3 h4]
  exact congr (congrArg Wd.mk e1) (hm _ _ e2)
theorem encO_inj : ∀ {o o' : List Int}, encO o = encO o' → o = o' := by
  intro o o' e
  unfold encO at e
  injection e with e
  exact (List.map_inj_right fun x y h => by injection h).mp e
def feasB (rs : List Ru) (row : List Int) : Bool := rs.all fun r => decide (fn row r.1.toNat - fn row r.2.1.toNat ≤ r.2.2)
theorem feasB_iff {rs : List Ru} {row : List Int} : feasB rs row = true ↔ FeasF rs (fn row) := by
  unfold feasB FeasF
  rw [List.all_eq_true]
  exact ⟨fun h r hr => of_decide_eq_true (h r hr), fun h r hr => decide_eq_true (h r hr)⟩
theorem rep3_inv {H : Hp} {v : V} {r : Ru} (h : Rep H v (encR r)) : ∃ p, v = .ref p ∧ H p = some (.tup [.int r.1, .int r.2.1, .int r.2.2]) := by
  obtain ⟨q, vs, rfl, hq, rs⟩ := h.tup_inv
  have e : vs = [.int r.1, .int r.2.1, .int r.2.2] := Reps.ints_inv (ns := [r.1, r.2.1, r.2.2]) rs
  subst e
  exact ⟨q, rfl, hq⟩
theorem rule_at {H : Hp} {ws : List V} {rs : List Ru} (h : Reps H ws (rs.map encR)) {i : Nat} {x : V} (hx : ws[i]? = some x) : ∃ r p, rs[i]? = some r ∧ r ∈ rs ∧ x = .ref p ∧ H p = some (.tup [.int r.1, .int r.2.1, .int r.2.2]) := by
  obtain ⟨d, hd, rx⟩ := h.get' hx
  rw [List.getElem?_map] at hd
  cases e : rs[i]? with
  | none => rw [e] at hd; cases hd
  | some r =>
    rw [e] at hd
    obtain rfl := Option.some.inj hd
    obtain ⟨p, rfl, hp⟩ := rep3_inv rx
    exact ⟨r, p, rfl, List.mem_of_getElem? e, rfl, hp⟩
theorem atI_row {row : List Int} {k : Int} (h0 : 0 ≤ k) (h1 : k < (row.length : Int)) : atI (row.map V.int) k = some (.int (fn row k.toNat)) := by
  have ex : k = ((k.toNat : Nat) : Int) := by omega
  have hl : k.toNat < row.length := by omega
  rw [ex]
  refine atI_nat ?_
  rw [List.getElem?_map, List.getElem?_eq_getElem hl]
  unfold fn
  rw [List.getD_eq_getElem?_getD, Int.toNat_natCast, List.getElem?_eq_getElem hl]
  rfl
theorem map_snoc {α β γ : Type} {xs : List α} {i : Nat} {x : α} (h : xs[i]? = some x) (f : α → β) (g : β → γ) : ((xs.take (i + 1)).map f).map g = ((xs.take i).map f).map g ++ [g (f x)] := by
  rw [List.take_add_one, h, List.map_append, List.map_append]; rfl
theorem rules_len {W : Wd} {o : List Int} (hok : W.Ok) (vo : VO W o) : (rulesM W o).length ≤ 60 := by
  have := run_len W o
  have := vo.len
  have := hok.l10
  unfold rulesM
  rw [List.length_append, rulesPre_len, List.length_map]
  omega
section
variable {P : Program} {w : World} {K : PySem.W.Frag} {mg : Str → Option Value} {base : Heap}
def sp_holds : Sp := fun vs H Q _ => ∃ (p l : Addr) (a b c : Int) (row : List Int), vs = [.ref p, .ref l] ∧ H p = some (.tup [.int a, .int b, .int c]) ∧ H l = some (.lst (row.map V.int)) ∧ 0 ≤ a ∧ a < (row.length : Int) ∧ 0 ≤ b ∧ b < (row.length : Int) ∧
  Q (.bl (decide (fn row a.toNat - fn row b.toNat ≤ c))) H
theorem ok_holds (T : Txt K mg) : FnOk P w K mg base (CXr P w) 1 T.holds.a T.holds.d ["rule", "event_moments"] sp_holds := by
  refine T.holds.F.okN sc_holds (fun vs H Q E h => ?_) (fun cdv A outer s H vs Q E hr h => ?_)
  · obtain ⟨p, l, a, b, c, row, rfl, _⟩ := h; rfl
  obtain ⟨p, l, a, b, c, row, rfl, hp, hl, a0, a1, b0, b1, q⟩ := h
  refine ⟨_, (pss_one (ps_ret (pe_cmpR op_le (pe_op op_sub (pe_ix ix_list (pv 1) (pe_ix ix_tup (pv 0) pe_int (fun _ _ => rfl)) (fun _ _ => rfl)) (pe_ix ix_list (pv 1) (pe_ix ix_tup (pv 0) pe_int (fun _ _ => rfl)) (fun _ _ => rfl))) (pe_ix ix_tup (pv 0) pe_int (fun _ _ => rfl)) (nomark _)))), ?_⟩
  exact ⟨_, rfl, _, rfl, p, _, _, _, rfl, rfl, SqT.of hp, rfl, l, _, _, _, rfl, rfl, SqL.of hl, atI_row a0 a1, _, rfl, _, rfl, p, _, _, _, rfl, rfl, SqT.of hp, rfl, l, _, _, _, rfl, rfl, SqL.of hl, atI_row b0 b1, _, _, rfl, rfl, _, rfl, p, _, _, _, rfl, rfl, SqT.of hp, rfl, _, _, rfl, rfl, q⟩
end
end Be
set_option Elab.async false
set_option linter.all false
set_option maxRecDepth 100000
namespace Be
open PySem L2
theorem lay_ints : ∀ xs : List Int, PyData.canLayAll0 (xs.map PyData.int) = true
  | [] => rfl
  | x :: xs => by rw [List.map_cons, PyData.canLayAll0, lay_ints xs]; rfl
theorem dep_ints : ∀ xs : List Int, PyData.depthAll (xs.map PyData.int) ≤ 10
  | [] => Nat.zero_le _
  | x :: xs => by
    have h2 := dep_ints xs
    rw [List.map_cons, PyData.depthAll]
    have h1 : (PyData.int x).depth ≤ 10 := by simp [PyData.depth]
    omega
theorem sh_ints (xs : List Int) : SeqAt.shaped (.list (xs.map PyData.int)) = true := by
  unfold SeqAt.shaped
  rw [PyData.canLay0, lay_ints, Bool.true_and, PyData.depth]
  have := dep_ints xs
  exact decide_eq_true (by omega)
theorem rep_zero (n : Nat) : (List.replicate n [V.int 0]).flatten = (zrow n).map V.int := by
  unfold zrow
  rw [List.flatten_replicate_singleton, List.map_replicate]
theorem ixN_of {n : Nat} {k : Int} (h0 : 0 ≤ k) (h1 : k < (n : Int)) : ixN n k = some k.toNat := by
  unfold ixN
  rw [if_pos h0, if_pos h1]
section
variable {P : Program} {w : World} {K : PySem.W.Frag} {mg : Str → Option Value} {base : Heap}
end
end Be
set_option Elab.async false
set_option linter.all false
/-! The program's walks, on lists; what may end next: plain Lean. -/
namespace Be
abbrev OI := Option Int
abbrev SW := List OI × List OI
def ge (l : List OI) (v : Nat) : OI := l.getD v none
def less : OI → Int → Bool
  | none, _ => true
  | some z, y => decide (y < z)
def stepW (s : SW) (k : Nat) (r : Ru) : SW := match ge s.1 r.1.toNat with
  | none => s
  | some y => if less (ge s.1 r.2.1.toNat) (y + r.2.2) = true then (s.1.set r.2.1.toNat (some (y + r.2.2)), s.2.set r.2.1.toNat (some (k : Int))) else s
def pw (rs : List Ru) : Nat → SW → SW
  | 0, s => s
  | j + 1, s => stepW (pw rs j s) j (rs.getD j (0, 0, 0))
def rnd (rs : List Ru) : Nat → SW → SW
  | 0, s => s
  | k + 1, s => pw rs rs.length (rnd rs k s)
def initW (n goal : Nat) : SW := ((List.replicate n none).set goal (some 0), List.replicate n none)
theorem ge_set (l : List OI) (k i : Nat) (v : OI) : ge (l.set k v) i = if i = k ∧ k < l.length then v else ge l i := by
  unfold ge
  rw [List.getD_eq_getElem?_getD, List.getD_eq_getElem?_getD, List.getElem?_set]
  by_cases h : k = i
  · subst h
    by_cases hl : k < l.length
    · rw [if_pos rfl, if_pos hl, if_pos ⟨rfl, hl⟩]; rfl
    · rw [if_pos rfl, if_neg hl, if_neg (fun z => hl z.2), List.getElem?_eq_none (by omega)]
  · rw [if_neg h, if_neg (fun z => h z.1.symm)]
theorem stepW_len (s : SW) (k : Nat) (r : Ru) : (stepW s k r).1.length = s.1.length ∧ (stepW s k r).2.length = s.2.length := by
  unfold stepW
  split
  · exact ⟨rfl, rfl⟩
  · split
    · exact ⟨List.length_set .., List.length_set ..⟩
    · exact ⟨rfl, rfl⟩
theorem pw_len (rs : List Ru) (s : SW) : ∀ j, (pw rs j s).1.length = s.1.length ∧ (pw rs j s).2.length = s.2.length
  | 0 => ⟨rfl, rfl⟩
  | j + 1 => by
    have a := pw_len rs s j
    have b := stepW_len (pw rs j s) j (rs.getD j (0, 0, 0))
    exact ⟨b.1.trans a.1, b.2.trans a.2⟩
theorem rnd_len (rs : List Ru) (s : SW) : ∀ k, (rnd rs k s).1.length = s.1.length ∧ (rnd rs k s).2.length = s.2.length
  | 0 => ⟨rfl, rfl⟩
  | k + 1 => by
    have a := rnd_len rs s k
    have b := pw_len rs (rnd rs k s) rs.length
    exact ⟨b.1.trans a.1, b.2.trans a.2⟩
theorem init_len (n goal : Nat) : (initW n goal).1.length = n ∧ (initW n goal).2.length = n := by
  unfold initW
  exact ⟨by rw [List.length_set, List.length_replicate], List.length_replicate ..⟩
theorem getD_mem {rs : List Ru} {j : Nat} (h : j < rs.length) : rs.getD j (0, 0, 0) ∈ rs := by
  rw [List.getD_eq_getElem?_getD, List.getElem?_eq_getElem h]
  exact List.getElem_mem h
/-- what stands there only becomes less -/
theorem stepW_dec {s : SW} {k : Nat} {r : Ru} {v : Nat} {y : Int} (h : ge s.1 v = some y) : ∃ y', y' ≤ y ∧ ge (stepW s k r).1 v = some y' := by
  unfold stepW
  split
  · exact ⟨y, Int.le_refl _, h⟩
  · rename_i y1 _
    split
    · rename_i hl
      by_cases e : v = r.2.1.toNat ∧ r.2.1.toNat < s.1.length
      · refine ⟨y1 + r.2.2, ?_, by rw [ge_set, if_pos e]⟩
        rw [← e.1, h] at hl
        have := of_decide_eq_true (show decide (y1 + r.2.2 < y) = true from hl)
        omega
      · exact ⟨y, Int.le_refl _, by rw [ge_set, if_neg e]; exact h⟩
    · exact ⟨y, Int.le_refl _, h⟩
theorem pw_dec {rs : List Ru} {s : SW} {v : Nat} : ∀ {y : Int} (j : Nat), ge s.1 v = some y → ∃ y', y' ≤ y ∧ ge (pw rs j s).1 v = some y'
  | y, 0, h => ⟨y, Int.le_refl _, h⟩
  | y, j + 1, h => by
    obtain ⟨y1, l1, h1⟩ := pw_dec (rs := rs) j h
    obtain ⟨y2, l2, h2⟩ := stepW_dec (k := j) (r := rs.getD j (0, 0, 0)) h1
    exact ⟨y2, Int.le_trans l2 l1, h2⟩
/-- a step reaches -/
theorem stepW_hit {s : SW} {k : Nat} {r : Ru} {y : Int} (h : ge s.1 r.1.toNat = some y) (hl : r.2.1.toNat < s.1.length) : ∃ y', y' ≤ y + r.2.2 ∧ ge (stepW s k r).1 r.2.1.toNat = some y' := by
  unfold stepW
  rw [h]
  dsimp only
  split
  · exact ⟨y + r.2.2, Int.le_refl _, by rw [ge_set, if_pos ⟨rfl, hl⟩]⟩
  · rename_i hn
    cases e : ge s.1 r.2.1.toNat with
    | none => rw [e] at hn; exact absurd rfl hn
    | some z =>
      rw [e] at hn
      refine ⟨z, ?_, rfl⟩
      have : ¬ (y + r.2.2 < z) := fun q => hn (decide_eq_true q)
      omega
/-- no walk comes to less than moments let it -/
def Low (f : Nat → Int) (goal : Nat) (l : List OI) : Prop := ∀ v y, ge l v = some y → f goal - f v ≤ y
theorem stepW_low {f : Nat → Int} {goal : Nat} {s : SW} {k : Nat} {r : Ru} (hf : f r.1.toNat - f r.2.1.toNat ≤ r.2.2) (h : Low f goal s.1) : Low f goal (stepW s k r).1 := by
  unfold stepW
  split
  · exact h
  · rename_i y1 h1
    split
    · intro v y hy
      rw [ge_set] at hy
      by_cases e : v = r.2.1.toNat ∧ r.2.1.toNat < s.1.length
      · rw [if_pos e] at hy
        cases hy
        have := h _ _ h1
        rw [e.1]
        omega
      · rw [if_neg e] at hy
        exact h v y hy
    · exact h
theorem pw_low {f : Nat → Int} {goal : Nat} {rs : List Ru} (hf : FeasF rs f) {s : SW} (h : Low f goal s.1) : ∀ j, j ≤ rs.length → Low f goal (pw rs j s).1
  | 0, _ => h
  | j + 1, hj => stepW_low (hf _ (getD_mem (by omega))) (pw_low hf h j (by omega))
theorem rnd_low {f : Nat → Int} {goal : Nat} {rs : List Ru} (hf : FeasF rs f) {s : SW} (h : Low f goal s.1) : ∀ k, Low f goal (rnd rs k s).1
  | 0 => h
  | k + 1 => pw_low hf (rnd_low hf h k) _ (Nat.le_refl _)
theorem init_low (f : Nat → Int) (n goal : Nat) : Low f goal (initW n goal).1 := fun v y h => by
  unfold initW at h
  dsimp only at h
  rw [ge_set] at h
  split at h
  · rename_i e
    cases h
    rw [e.1]
    omega
  · unfold ge at h
    rw [List.getD_eq_getElem?_getD, List.getElem?_replicate] at h
    split at h <;> cases h
/-! all events are reached in the first round -/
theorem rule_chain {W : Wd} {o : List Int} : ∀ {i k : Nat}, k < i → i ≤ o.length → (rulesPre W o i).getD (3 * k + 2) (0, 0, 0) = ((k : Int), (k : Int) + 1, 0)
  | 0, k, h, _ => by omega
  | i + 1, k, h, hi => by
    rw [rulesPre_succ, List.getD_eq_getElem?_getD]
    by_cases e : k < i
    · rw [List.getElem?_append_left (by rw [rulesPre_len]; omega), ← List.getD_eq_getElem?_getD]
      exact rule_chain e (by omega)
    · have : k = i := by omega
      subst this
      rw [List.getElem?_append_right (by rw [rulesPre_len]; omega), rulesPre_len, show 3 * k + 2 - 3 * k = 2 by omega]
      rfl
theorem rule_chain' {W : Wd} {o : List Int} {k : Nat} (h : k < o.length) : (rulesM W o).getD (3 * k + 2) (0, 0, 0) = ((k : Int), (k : Int) + 1, 0) := by
  unfold rulesM
  rw [List.getD_eq_getElem?_getD, List.getElem?_append_left (by rw [rulesPre_len]; omega), ← List.getD_eq_getElem?_getD]
  exact rule_chain h (Nat.le_refl _)
theorem first_round {W : Wd} {o : List Int} {s : SW} (hl : s.1.length = o.length + 1) (h0 : ∃ y, y ≤ 0 ∧ ge s.1 0 = some y) : ∀ j v, 3 * v ≤ j → v ≤ o.length → ∃ y, y ≤ 0 ∧ ge (pw (rulesM W o) j s).1 v = some y
  | 0, v, h, _ => by
    have : v = 0 := by omega
    subst this
    exact h0
  | j + 1, v, h, hv => by
    by_cases e : 3 * v ≤ j
    · obtain ⟨y, l, g⟩ := first_round hl h0 j v e hv
      obtain ⟨y', l', g'⟩ := stepW_dec (k := j) (r := (rulesM W o).getD j (0, 0, 0)) g
      exact ⟨y', by omega, g'⟩
    · obtain ⟨u, rfl⟩ : ∃ u, v = u + 1 := ⟨v - 1, by omega⟩
      have ej : j = 3 * u + 2 := by omega
      obtain ⟨y, l, g⟩ := first_round (W := W) hl h0 j u (by omega) (by omega)
      have hr := rule_chain' (W := W) (o := o) (k := u) (by omega)
      show ∃ y, y ≤ 0 ∧ ge (stepW (pw (rulesM W o) j s) j ((rulesM W o).getD j (0, 0, 0))).1 (u + 1) = some y
      have hr' : (rulesM W o).getD j (0, 0, 0) = ((u : Int), (u : Int) + 1, 0) := by rw [ej]; exact hr
      rw [hr']
      obtain ⟨y', l', g'⟩ := stepW_hit (s := pw (rulesM W o) j s) (k := j) (r := ((u : Int), (u : Int) + 1, 0)) (y := y) (by show ge _ ((u : Int)).toNat = _; rw [Int.toNat_natCast]; exact g) (by show ((u : Int) + 1).toNat < _; rw [(pw_len _ _ _).1, hl]; omega)
      refine ⟨y', by dsimp only at l'; omega, ?_⟩
      have : ((u : Int) + 1).toNat = u + 1 := by omega
      dsimp only at g'
      rw [this] at g'
      exact g'
/-! walks and passes -/
def Rel (n : Nat) (l : List OI) (row : List Int) : Prop := ∀ v, v < n → ∃ y, ge l v = some y ∧ fn row v ≤ -y
theorem rel_step {n : Nat} {s : SW} {row : List Int} {k : Nat} {r : Ru} (hs : s.1.length = n) (hr : row.length = n) (h1 : r.1.toNat < n) (h2 : r.2.1.toNat < n) (h : Rel n s.1 row) : Rel n (stepW s k r).1 (stepP row r) := fun v hv => by
  obtain ⟨y, hy, ly⟩ := h v hv
  unfold stepP
  rw [fn_set]
  by_cases e : v = r.2.1.toNat ∧ r.2.1.toNat < row.length
  · rw [if_pos e]
    obtain ⟨y1, hy1, ly1⟩ := h r.1.toNat h1
    obtain ⟨y2, l2, g2⟩ := stepW_hit (k := k) hy1 (by omega)
    obtain ⟨y3, l3, g3⟩ := stepW_dec (k := k) (r := r) hy
    rw [e.1] at g3
    rw [g2] at g3
    cases g3
    refine ⟨y2, by rw [e.1]; exact g2, ?_⟩
    rw [← e.1]
    unfold mxI
    split <;> omega
  · rw [if_neg e]
    obtain ⟨y3, l3, g3⟩ := stepW_dec (k := k) (r := r) hy
    exact ⟨y3, g3, by omega⟩
theorem pass_snoc {rs : List Ru} {row : List Int} {j : Nat} (h : j < rs.length) : pass (rs.take (j + 1)) row = stepP (pass (rs.take j) row) (rs.getD j (0, 0, 0)) := by
  unfold pass
  rw [List.take_add_one, List.getElem?_eq_getElem h, List.foldl_append, List.getD_eq_getElem?_getD, List.getElem?_eq_getElem h]
  rfl
theorem rel_pw {n : Nat} {rs : List Ru} (hi : InR rs n) {s : SW} {row : List Int} (hs : s.1.length = n) (hr : row.length = n) (h : Rel n s.1 row) : ∀ j, j ≤ rs.length → Rel n (pw rs j s).1 (pass (rs.take j) row)
  | 0, _ => h
  | j + 1, hj => by
    have ih := rel_pw hi hs hr h j (by omega)
    have ir := hi _ (getD_mem (rs := rs) (j := j) (by omega))
    rw [pass_snoc (by omega)]
    exact rel_step (by rw [(pw_len _ _ _).1]; exact hs) (by rw [pass_len]; exact hr) (by omega) (by omega) ih
def passK (rs : List Ru) : Nat → List Int → List Int
  | 0, row => row
  | k + 1, row => pass rs (passK rs k row)
theorem passK_len (rs : List Ru) (row : List Int) : ∀ k, (passK rs k row).length = row.length
  | 0 => rfl
  | k + 1 => by show (pass rs _).length = _; rw [pass_len, passK_len rs row k]
theorem rel_rnd {n : Nat} {rs : List Ru} (hi : InR rs n) {s : SW} {row : List Int} (hs : s.1.length = n) (hr : row.length = n) (h : Rel n s.1 row) : ∀ k, Rel n (rnd rs k s).1 (passK rs k row)
  | 0 => h
  | k + 1 => by
    have ih := rel_rnd hi hs hr h k
    have z := rel_pw hi (by rw [(rnd_len rs s k).1]; exact hs) (by rw [passK_len]; exact hr) ih rs.length (Nat.le_refl _)
    rw [List.take_length] at z
    exact z
/-- what the program's walks to event 0 come to -/
def walks0 (W : Wd) (o : List Int) : SW := rnd (rulesM W o) (o.length + 1) (initW (o.length + 1) 0)
theorem walks0_rel {W : Wd} {o : List Int} (hok : W.Ok) (vo : VO W o) : Rel (o.length + 1) (walks0 W o).1 (passK (rulesM W o) o.length (zrow (o.length + 1))) := by
  have i1 := (init_len (o.length + 1) 0).1
  have f : Rel (o.length + 1) (rnd (rulesM W o) 1 (initW (o.length + 1) 0)).1 (zrow (o.length + 1)) := fun v hv => by
    obtain ⟨y, l, g⟩ := first_round (W := W) (o := o) (s := initW (o.length + 1) 0) i1 ⟨0, Int.le_refl _, by
      unfold initW
      dsimp only
      rw [ge_set, if_pos ⟨rfl, by rw [List.length_replicate]; omega⟩]⟩ (rulesM W o).length v (by
        unfold rulesM
        rw [List.length_append, rulesPre_len]
        omega) (by omega)
    exact ⟨y, g, by rw [fn_zrow]; omega⟩
  have l1 : (rnd (rulesM W o) 1 (initW (o.length + 1) 0)).1.length = o.length + 1 := by rw [(rnd_len _ _ _).1]; exact i1
  have z := rel_rnd (inR hok vo) l1 (zrow_len _) f o.length
  have e : ∀ (s : SW) (k : Nat), rnd (rulesM W o) k (rnd (rulesM W o) 1 s) = rnd (rulesM W o) (k + 1) s := fun s k => by
    induction k with
    | zero => rfl
    | succ k ih => show pw _ _ (rnd _ k (rnd _ 1 s)) = pw _ _ (rnd _ (k + 1) s); rw [ih]
  rw [e] at z
  exact z
/-- the program's earliest moments -/
def eM (W : Wd) (o : List Int) : List Int := (walks0 W o).1.map fun x => -(x.getD 0)
theorem walks0_len (W : Wd) (o : List Int) : (walks0 W o).1.length = o.length + 1 := by
  unfold walks0
  rw [(rnd_len _ _ _).1]
  exact (init_len _ _).1
theorem eM_len (W : Wd) (o : List Int) : (eM W o).length = o.length + 1 := by
  unfold eM
  rw [List.length_map, walks0_len]
theorem fn_eM {W : Wd} {o : List Int} {v : Nat} (hv : v < o.length + 1) {y : Int} (h : ge (walks0 W o).1 v = some y) : fn (eM W o) v = -y := by
  unfold fn eM
  unfold ge at h
  have hl : v < (walks0 W o).1.length := by rw [walks0_len]; exact hv
  rw [List.getD_eq_getElem?_getD, List.getElem?_eq_getElem hl] at h
  rw [List.getD_eq_getElem?_getD, List.getElem?_map, List.getElem?_eq_getElem hl]
  have h' : (walks0 W o).1[v] = some y := h
  show -((walks0 W o).1[v].getD 0) = -y
  rw [h']
  rfl
theorem eM_none {W : Wd} {o : List Int} (hok : W.Ok) (vo : VO W o) (h : early W o = none) : ¬ FeasF (rulesM W o) (fn (eM W o)) := fun hf => by
  have g : FeasF (rulesM W o) (fun v => fn (eM W o) v - fn (eM W o) 0) := fun r hr => by have := hf r hr; dsimp only; omega
  obtain ⟨r, hr⟩ := early_none hok vo g fun v hv => by have := rises hf v (by omega); omega
  rw [h] at hr
  cases hr
end Be
set_option Elab.async false
set_option linter.all false
namespace Be
theorem rises2 {W : Wd} {o : List Int} {f : Nat → Int} (h : FeasF (rulesM W o) f) {k : Nat} : ∀ v, k ≤ v → v ≤ o.length → f k ≤ f v
  | 0, hk, _ => by rw [show k = 0 by omega]; exact Int.le_refl _
  | v + 1, hk, hv => by
    by_cases e : k = v + 1
    · rw [e]; exact Int.le_refl _
    · have a := rises2 h (k := k) v (by omega) (by omega)
      have b := h _ (chain_rule (k := v) (by omega))
      dsimp only at b
      rw [Int.toNat_natCast, show ((v : Int) + 1).toNat = v + 1 by omega] at b
      omega
theorem mem_rule3 {W : Wd} {o : List Int} {j : Nat} (h : j < o.length) {r : Ru} (hr : r ∈ rule3 W j (o.getD j 0)) : r ∈ rulesM W o := by
  unfold rulesM rulesPre
  exact List.mem_append_left _ (List.mem_flatMap.mpr ⟨j, List.mem_range.mpr h, hr⟩)
theorem bnd_ok {W : Wd} (hok : W.Ok) {x : Int} (h0 : 0 ≤ x) (h1 : x < (W.bs.length : Int)) : 1 ≤ (bnd W x).1 ∧ (bnd W x).1 ≤ (bnd W x).2 ∧ (bnd W x).2 ≤ 99 := hok.bd _ (bnd_mem h0 h1)
end Be
set_option Elab.async false
set_option linter.all false
/-! Walks to any goal, where moments are: what they come to, and how they are told. Plain Lean. -/
namespace Be
/-- moments that hold, 0 at the goal -/
structure FeasG (rs : List Ru) (g : Nat) (f : Nat → Int) : Prop where
  fe : FeasF rs f
  z : f g = 0
theorem FeasG.of {rs : List Ru} {f : Nat → Int} (h : FeasF rs f) (g : Nat) : FeasG rs g (fun v => f v - f g) := ⟨fun r hr => by have := h r hr; show f r.1.toNat - f g - (f r.2.1.toNat - f g) ≤ r.2.2; omega, by show f g - f g = 0; omega⟩
structure LeastG (rs : List Ru) (n g : Nat) (L : Nat → Int) : Prop where
  fe : FeasG rs g L
  le : ∀ M, FeasG rs g M → ssum n L ≤ ssum n M
theorem exists_leastG (rs : List Ru) (n g : Nat) (B : Int) (hB : ∀ f, FeasG rs g f → B ≤ ssum n f) : ∀ (k : Nat) (x : Nat → Int), FeasG rs g x → (ssum n x - B).toNat ≤ k → ∃ L, LeastG rs n g L
  | 0, x, hx, hk => ⟨x, hx, fun M hM => by have := hB M hM; have := hB x hx; omega⟩
  | k + 1, x, hx, hk => by
    by_cases h : ∃ M, FeasG rs g M ∧ ssum n M < ssum n x
    · obtain ⟨M, a, c⟩ := h
      have := hB M a
      exact exists_leastG rs n g B hB k M a (by omega)
    · exact ⟨x, hx, fun M a => by
        by_cases c : ssum n M < ssum n x
        · exact absurd ⟨M, a, c⟩ h
        · omega⟩
theorem ssum_ge {f : Nat → Int} {c : Int} : ∀ n : Nat, (∀ v, v < n → c ≤ f v) → (n : Int) * c ≤ ssum n f
  | 0, _ => by show ((0 : Nat) : Int) * c ≤ 0; simp
  | n + 1, h => by
    have a := ssum_ge n (fun v hv => h v (by omega))
    have b := h n (by omega)
    show ((n + 1 : Nat) : Int) * c ≤ ssum n f + f n
    rw [Int.natCast_succ, Int.add_mul, Int.one_mul]
    omega
/-- an event comes at most so long behind the begin -/
theorem from0 {W : Wd} {o : List Int} (hok : W.Ok) (vo : VO W o) {f : Nat → Int} (hf : FeasF (rulesM W o) f) : ∀ v, v ≤ o.length → f v - f 0 ≤ 99 * (v : Int) := by
  intro v
  induction v using Nat.strongRecOn with
  | _ v ih =>
    intro hv
    cases v with
    | zero => omega
    | succ j =>
      have hj : j < o.length := by omega
      have g := vo.getD hj
      have b := bg_le hok g.1 g.2
      have bl := began_le W j
      have m := bnd_ok hok g.1 (by omega : o.getD j 0 < (W.bs.length : Int))
      have a := hf ((j : Int) + 1, bg W (o.getD j 0), (bnd W (o.getD j 0)).2) (mem_rule3 hj (by unfold rule3; simp))
      dsimp only at a
      rw [show ((j : Int) + 1).toNat = j + 1 by omega] at a
      have c := ih (bg W (o.getD j 0)).toNat (by omega) (by omega)
      omega
theorem leastG {W : Wd} {o r : List Int} (hok : W.Ok) (vo : VO W o) (h : early W o = some r) {g : Nat} (hg : g < o.length + 1) : ∃ L, LeastG (rulesM W o) (o.length + 1) g L := by
  have E := early_some hok vo h
  refine exists_leastG _ _ g (((o.length + 1 : Nat) : Int) * (-(99 * (g : Int)))) (fun f hf => ssum_ge _ fun v hv => ?_) _ _ (FeasG.of E.fe g) (Nat.le_refl _)
  have a := from0 hok vo hf.fe g (by omega)
  have b := rises hf.fe v (by omega)
  have z := hf.z
  omega
/-! one round settles one more -/
theorem pw_hit {rs : List Ru} {n : Nat} (hi : InR rs n) {s : SW} (hs : s.1.length = n) {j : Nat} (hj : j < rs.length) {y : Int} (h : ge s.1 (rs.getD j (0, 0, 0)).1.toNat = some y) : ∃ y', y' ≤ y + (rs.getD j (0, 0, 0)).2.2 ∧ ge (pw rs rs.length s).1 (rs.getD j (0, 0, 0)).2.1.toNat = some y' := by
  obtain ⟨y1, l1, h1⟩ := pw_dec (rs := rs) j h
  have ir := hi _ (getD_mem hj)
  obtain ⟨y2, l2, h2⟩ := stepW_hit (s := pw rs j s) (k := j) (r := rs.getD j (0, 0, 0)) h1 (by rw [(pw_len rs s j).1, hs]; omega)
  have on : ∀ m, ∃ y', y' ≤ y + (rs.getD j (0, 0, 0)).2.2 ∧ ge (pw rs (j + 1 + m) s).1 (rs.getD j (0, 0, 0)).2.1.toNat = some y' := by
    intro m
    induction m with
    | zero => exact ⟨y2, by omega, h2⟩
    | succ m ih =>
      obtain ⟨y3, l3, h3⟩ := ih
      obtain ⟨y4, l4, h4⟩ := stepW_dec (k := j + 1 + m) (r := rs.getD (j + 1 + m) (0, 0, 0)) h3
      exact ⟨y4, by omega, h4⟩
  have := on (rs.length - (j + 1))
  rwa [show j + 1 + (rs.length - (j + 1)) = rs.length by omega] at this
def settG (L : Nat → Int) (l : List OI) : Nat → Bool := fun v => decide (ge l v = some (-(L v)))
def LowG (L : Nat → Int) (l : List OI) : Prop := ∀ v y, ge l v = some y → -(L v) ≤ y
theorem low_of {rs : List Ru} {g : Nat} {L : Nat → Int} (hL : FeasG rs g L) {l : List OI} (h : Low L g l) : LowG L l := fun v y e => by
  have := h v y e
  rw [hL.z] at this
  omega
theorem settleG {rs : List Ru} {n g : Nat} {L : Nat → Int} (hL : LeastG rs n g L) (hi : InR rs n) {s : SW} (hs : s.1.length = n) (hg : ge s.1 g = some 0) (lo : Low L g s.1) (hne : ∃ v, v < n ∧ settG L s.1 v = false) :
    cnt n (settG L s.1) + 1 ≤ cnt n (settG L (pw rs rs.length s).1) := by
  have lo1 := low_of hL.fe lo
  have lo2 := low_of hL.fe (pw_low hL.fe.fe lo rs.length (Nat.le_refl _))
  have stay : ∀ v, v < n → settG L s.1 v = true → settG L (pw rs rs.length s).1 v = true := fun v hv e => by
    obtain ⟨y', l', h'⟩ := pw_dec (rs := rs) rs.length (of_decide_eq_true e)
    have := lo2 v y' h'
    have : y' = -(L v) := by omega
    subst this
    exact decide_eq_true h'
  refine cnt_lt n stay ?_
  apply Classical.byContradiction
  intro hno
  have hno' : ∀ v, v < n → settG L s.1 v = false → settG L (pw rs rs.length s).1 v = false := fun v hv e => by
    cases c : settG L (pw rs rs.length s).1 v with
    | false => rfl
    | true => exact absurd ⟨v, hv, e, c⟩ hno
  let M : Nat → Int := fun v => if settG L s.1 v = true then L v else L v - 1
  have m1 : ∀ v, settG L s.1 v = true → M v = L v := fun v e => if_pos e
  have m2 : ∀ v, settG L s.1 v = false → M v = L v - 1 := fun v e => if_neg (by rw [e]; simp)
  have hM : FeasG rs g M := by
    refine ⟨fun r hr => ?_, ?_⟩
    · have f := hL.fe.fe r hr
      have ir := hi r hr
      obtain ⟨j, hj, ej⟩ := List.getElem_of_mem hr
      have eg : rs.getD j (0, 0, 0) = r := by rw [List.getD_eq_getElem?_getD, List.getElem?_eq_getElem hj]; exact ej
      cases a : settG L s.1 r.1.toNat with
      | false =>
        rw [m2 _ a]
        cases b : settG L s.1 r.2.1.toNat with
        | false => rw [m2 _ b]; omega
        | true => rw [m1 _ b]; omega
      | true =>
        rw [m1 _ a]
        cases b : settG L s.1 r.2.1.toNat with
        | true => rw [m1 _ b]; exact f
        | false =>
          rw [m2 _ b]
          obtain ⟨y', l', h'⟩ := pw_hit hi hs hj (y := -(L r.1.toNat)) (by rw [eg]; exact of_decide_eq_true a)
          rw [eg] at l' h'
          have c := of_decide_eq_false (hno' _ (by omega) b)
          have d := lo2 _ _ h'
          have : y' ≠ -(L r.2.1.toNat) := fun z => c (by rw [z] at h'; exact h')
          omega
    · rw [m1 g (decide_eq_true (by rw [hg, hL.fe.z]; rfl))]
      exact hL.fe.z
  have l := hL.le M hM
  obtain ⟨v, hv, hne⟩ := hne
  have := ssum_lt (f := M) (g := L) n (fun u hu => by
    cases e : settG L s.1 u with
    | true => rw [m1 _ e]; omega
    | false => rw [m2 _ e]; omega) ⟨v, hv, by rw [m2 _ hne]; omega⟩
  omega
theorem goal0 {rs : List Ru} {g : Nat} {L : Nat → Int} (hL : FeasF rs L) {n : Nat} (hg : g < n) : ∀ k, ge (rnd rs k (initW n g)).1 g = some 0
  | 0 => by
    show ge (initW n g).1 g = some 0
    unfold initW
    dsimp only
    rw [ge_set, if_pos ⟨rfl, by rw [List.length_replicate]; exact hg⟩]
  | k + 1 => by
    obtain ⟨y, l, h⟩ := pw_dec (rs := rs) rs.length (goal0 hL hg k)
    have lo := rnd_low hL (init_low L n g) (k + 1)
    have := lo g y h
    have : y = 0 := by omega
    subst this
    exact h
theorem rounds {rs : List Ru} {n g : Nat} {L : Nat → Int} (hL : LeastG rs n g L) (hi : InR rs n) (hg : g < n) : ∀ k, min n (k + 1) ≤ cnt n (settG L (rnd rs k (initW n g)).1)
  | 0 => by
    have := cnt_lt (p := fun _ => false) (q := settG L (rnd rs 0 (initW n g)).1) n (fun _ _ z => by cases z) ⟨g, hg, rfl, decide_eq_true (by rw [goal0 hL.fe.fe hg 0, hL.fe.z]; rfl)⟩
    omega
  | k + 1 => by
    have ih := rounds hL hi hg k
    have sl : (rnd rs k (initW n g)).1.length = n := (rnd_len rs (initW n g) k).1.trans (init_len n g).1
    have lo := rnd_low hL.fe.fe (init_low L n g) k
    by_cases h : ∃ v, v < n ∧ settG L (rnd rs k (initW n g)).1 v = false
    · have := settleG hL hi sl (goal0 hL.fe.fe hg k) lo h
      show min n (k + 1 + 1) ≤ cnt n (settG L (pw rs rs.length (rnd rs k (initW n g))).1)
      omega
    · have all : ∀ v, v < n → settG L (rnd rs k (initW n g)).1 v = true := fun v hv => by
        cases c : settG L (rnd rs k (initW n g)).1 v with
        | true => rfl
        | false => exact absurd ⟨v, hv, c⟩ h
      have lo2 := low_of hL.fe (rnd_low hL.fe.fe (init_low L n g) (k + 1))
      have : cnt n (settG L (rnd rs (k + 1) (initW n g)).1) = n := cnt_all n fun v hv => by
        obtain ⟨y', l', h'⟩ := pw_dec (rs := rs) rs.length (of_decide_eq_true (all v hv))
        have := lo2 v y' h'
        have : y' = -(L v) := by omega
        subst this
        exact decide_eq_true h'
      omega
/-- behind all rounds the walks come to least -/
theorem final {rs : List Ru} {n g : Nat} {L : Nat → Int} (hL : LeastG rs n g L) (hi : InR rs n) (hg : g < n) {v : Nat} (hv : v < n) : ge (rnd rs n (initW n g)).1 v = some (-(L v)) := by
  have := rounds hL hi hg n
  have c := cnt_len (settG L (rnd rs n (initW n g)).1) n
  exact of_decide_eq_true (cnt_full (p := settG L (rnd rs n (initW n g)).1) n (by omega) v hv)
/-! the firsts lead to the goal -/
def FOk (rs : List Ru) (tm : Nat → Nat) (s : SW) : Prop := ∀ v k, ge s.2 v = some k → ∃ (r : Ru) (y1 yv : Int), 0 ≤ k ∧ rs[k.toNat]? = some r ∧ r.2.1.toNat = v ∧ ge s.1 r.1.toNat = some y1 ∧ ge s.1 v = some yv ∧ (y1 + r.2.2 < yv ∨ (y1 + r.2.2 = yv ∧ tm r.1.toNat < tm v))
def Has (g : Nat) (s : SW) : Prop := ∀ v y, ge s.1 v = some y → v = g ∨ ∃ k, ge s.2 v = some k
structure TInv (rs : List Ru) (g n : Nat) (s : SW) : Prop where
  l1 : s.1.length = n
  l2 : s.2.length = n
  ok : ∃ (tm : Nat → Nat) (now : Nat), (∀ v, tm v < now) ∧ FOk rs tm s
  has : Has g s
theorem tinv_step {rs : List Ru} {g n : Nat} (hi : InR rs n) {f : Nat → Int} (hf : FeasF rs f) {s : SW} {j : Nat} (hj : j < rs.length) (h : TInv rs g n s) : TInv rs g n (stepW s j (rs.getD j (0, 0, 0))) := by
  have hr : rs[j]? = some (rs.getD j (0, 0, 0)) := by rw [List.getD_eq_getElem?_getD, List.getElem?_eq_getElem hj]; rfl
  have ir := hi _ (getD_mem hj)
  have fr := hf _ (getD_mem hj)
  generalize rs.getD j (0, 0, 0) = r at *
  obtain ⟨l1, l2, ⟨tm, now, ht, ok⟩, has⟩ := h
  unfold stepW
  cases hy : ge s.1 r.1.toNat with
  | none => exact ⟨l1, l2, ⟨tm, now, ht, ok⟩, has⟩
  | some y =>
    dsimp only
    split
    · rename_i hl
      have hb : r.2.1.toNat < n := by omega
      have lt : ∀ z, ge s.1 r.2.1.toNat = some z → y + r.2.2 < z := fun z e => by rw [e] at hl; exact of_decide_eq_true hl
      have hne : r.1.toNat ≠ r.2.1.toNat := fun e => by
        have := lt y (by rw [← e]; exact hy)
        rw [e] at fr
        omega
      refine ⟨by rw [List.length_set]; exact l1, by rw [List.length_set]; exact l2, ⟨fun x => if x = r.2.1.toNat then now else tm x, now + 1, fun x => ?_, fun v k hk => ?_⟩, fun v z hz => ?_⟩
      · show (if x = r.2.1.toNat then now else tm x) < now + 1
        have := ht x
        split <;> omega
      · rw [ge_set] at hk
        by_cases e : v = r.2.1.toNat
        · rw [if_pos ⟨e, by omega⟩] at hk
          cases hk
          subst e
          refine ⟨r, y, y + r.2.2, by omega, by rw [Int.toNat_natCast]; exact hr, rfl, ?_, ?_, .inr ⟨rfl, ?_⟩⟩
          · rw [ge_set, if_neg (fun z => hne z.1)]; exact hy
          · rw [ge_set, if_pos ⟨rfl, by omega⟩]
          · show (if r.1.toNat = r.2.1.toNat then now else tm r.1.toNat) < (if r.2.1.toNat = r.2.1.toNat then now else tm r.2.1.toNat)
            rw [if_neg hne, if_pos rfl]
            exact ht _
        · rw [if_neg (fun z => e z.1)] at hk
          obtain ⟨r', y1, yv, k0, hr', ev, h1, h2, h3⟩ := ok v k hk
          have h2' : ge (s.1.set r.2.1.toNat (some (y + r.2.2))) v = some yv := by rw [ge_set, if_neg (fun z => e z.1)]; exact h2
          by_cases e' : r'.1.toNat = r.2.1.toNat
          · refine ⟨r', y + r.2.2, yv, k0, hr', ev, by rw [ge_set, if_pos ⟨e', by omega⟩], h2', .inl ?_⟩
            have := lt y1 (by rw [← e']; exact h1)
            rcases h3 with h3 | h3 <;> omega
          · refine ⟨r', y1, yv, k0, hr', ev, by rw [ge_set, if_neg (fun z => e' z.1)]; exact h1, h2', ?_⟩
            rcases h3 with h3 | ⟨h3, h4⟩
            · exact .inl h3
            · refine .inr ⟨h3, ?_⟩
              show (if r'.1.toNat = r.2.1.toNat then now else tm r'.1.toNat) < (if v = r.2.1.toNat then now else tm v)
              rw [if_neg e', if_neg e]
              exact h4
      · by_cases e : v = r.2.1.toNat
        · exact .inr ⟨_, by rw [ge_set, if_pos ⟨e, by omega⟩]⟩
        · rw [ge_set, if_neg (fun q => e q.1)] at hz
          rcases has v z hz with q | ⟨k, hk⟩
          · exact .inl q
          · exact .inr ⟨k, by rw [ge_set, if_neg (fun q => e q.1)]; exact hk⟩
    · exact ⟨l1, l2, ⟨tm, now, ht, ok⟩, has⟩
theorem tinv_pw {rs : List Ru} {g n : Nat} (hi : InR rs n) {f : Nat → Int} (hf : FeasF rs f) {s : SW} (h : TInv rs g n s) : ∀ j, j ≤ rs.length → TInv rs g n (pw rs j s)
  | 0, _ => h
  | j + 1, hj => tinv_step hi hf (by omega) (tinv_pw hi hf h j (by omega))
theorem tinv_init (rs : List Ru) (n g : Nat) : TInv rs g n (initW n g) := by
  refine ⟨(init_len n g).1, (init_len n g).2, ⟨fun _ => 0, 1, fun _ => Nat.zero_lt_one, fun v k hk => ?_⟩, fun v y hy => ?_⟩
  · unfold initW ge at hk
    dsimp only at hk
    rw [List.getD_eq_getElem?_getD, List.getElem?_replicate] at hk
    split at hk <;> cases hk
  · unfold initW at hy
    dsimp only at hy
    rw [ge_set] at hy
    split at hy
    · rename_i e
      exact .inl e.1
    · unfold ge at hy
      rw [List.getD_eq_getElem?_getD, List.getElem?_replicate] at hy
      split at hy <;> cases hy
theorem tinv_rnd {rs : List Ru} {g n : Nat} (hi : InR rs n) {f : Nat → Int} (hf : FeasF rs f) : ∀ k, TInv rs g n (rnd rs k (initW n g))
  | 0 => tinv_init rs n g
  | k + 1 => tinv_pw hi hf (tinv_rnd hi hf k) _ (Nat.le_refl _)
/-- the walk by the firsts from a place to the goal, the rules and the events gone through -/
inductive Lead (rs : List Ru) (fs : List OI) (g : Nat) : Nat → List Int → List Nat → Prop
  | nil : Lead rs fs g g [] []
  | cons {v : Nat} {k : Int} {r : Ru} {p : List Int} {xs : List Nat} : v ≠ g → ge fs v = some k → 0 ≤ k → rs[k.toNat]? = some r → r.2.1.toNat = v → Lead rs fs g r.1.toNat p xs → Lead rs fs g v (k :: p) (v :: xs)
def psum (rs : List Ru) (p : List Int) : Int := (p.map fun k => (rs.getD k.toNat (0, 0, 0)).2.2).foldr (· + ·) 0
theorem Lead.len {rs : List Ru} {fs : List OI} {g v : Nat} {p : List Int} {xs : List Nat} (h : Lead rs fs g v p xs) : p.length = xs.length := by
  induction h with
  | nil => rfl
  | cons _ _ _ _ _ _ ih => rw [List.length_cons, List.length_cons, ih]
theorem nodup_len : ∀ {xs : List Nat} {n : Nat}, xs.Nodup → (∀ x ∈ xs, x < n) → xs.length ≤ n := fun {xs n} h hx => by
  have := nodup_le (l1 := xs.map fun (x : Nat) => (x : Int)) (l2 := upto n) (List.Pairwise.map (S := (· ≠ ·)) _ (fun a b hab e => hab (by omega)) h) fun y hy => by
    obtain ⟨x, hx', rfl⟩ := List.mem_map.mp hy
    exact mem_upto.mpr ⟨by omega, by have := hx x hx'; omega⟩
  rwa [List.length_map, upto_len] at this
/-- the firsts lead to the goal: by how much more than at least a walk comes to, then by when it was found -/
theorem leads {rs : List Ru} {g n : Nat} (hi : InR rs n) {L : Nat → Int} (hL : FeasG rs g L) {s : SW} (h : TInv rs g n s) (lo : Low L g s.1) : ∃ tm : Nat → Nat, ∀ (a b v : Nat) (y : Int), (y + L v).toNat = a → tm v = b → v < n → ge s.1 v = some y →
    ∃ p xs, Lead rs s.2 g v p xs ∧ xs.Nodup ∧ (∀ u ∈ xs, u < n ∧ ∃ yu, ge s.1 u = some yu ∧ (yu + L u < y + L v ∨ (yu + L u ≤ y + L v ∧ tm u ≤ tm v))) := by
  obtain ⟨l1, l2, ⟨tm, now, ht, ok⟩, has⟩ := h
  have lg := low_of hL lo
  refine ⟨tm, fun a => ?_⟩
  induction a using Nat.strongRecOn with
  | _ a iha =>
    intro b
    induction b using Nat.strongRecOn with
    | _ b ihb =>
      intro v y ha hb hv hy
      rcases has v y hy with rfl | ⟨k, hk⟩
      · exact ⟨[], [], .nil, List.nodup_nil, fun u hu => nomatch hu⟩
      · by_cases hvg : v = g
        · subst hvg
          exact ⟨[], [], .nil, List.nodup_nil, fun u hu => nomatch hu⟩
        · obtain ⟨r, y1, yv, k0, hr, ev, h1, h2, h3⟩ := ok v k hk
          rw [hy] at h2
          cases h2
          have hm := List.mem_of_getElem? hr
          have ir := hi r hm
          have fr := hL.fe r hm
          rw [ev] at fr
          have g1 := lg _ _ h1
          have g2 := lg _ _ hy
          have sub : ∃ p xs, Lead rs s.2 g r.1.toNat p xs ∧ xs.Nodup ∧ (∀ u ∈ xs, u < n ∧ ∃ yu, ge s.1 u = some yu ∧ (yu + L u < y1 + L r.1.toNat ∨ (yu + L u ≤ y1 + L r.1.toNat ∧ tm u ≤ tm r.1.toNat))) := by
            by_cases c : (y1 + L r.1.toNat).toNat < a
            · exact iha _ c (tm r.1.toNat) r.1.toNat y1 rfl rfl (by omega) h1
            · rcases h3 with h3 | ⟨h3, h4⟩
              · exfalso; omega
              · exact ihb (tm r.1.toNat) (by omega) r.1.toNat y1 (by omega) rfl (by omega) h1
          obtain ⟨p, xs, hp, nd, hx⟩ := sub
          have low1 : y1 + L r.1.toNat < y + L v ∨ (y1 + L r.1.toNat ≤ y + L v ∧ tm r.1.toNat < tm v) := by
            rcases h3 with h3 | ⟨h3, h4⟩
            · exact .inl (by omega)
            · exact .inr ⟨by omega, h4⟩
          refine ⟨k :: p, v :: xs, .cons hvg hk k0 hr ev hp, List.nodup_cons.mpr ⟨fun hm => ?_, nd⟩, fun u hu => ?_⟩
          · obtain ⟨_, yu, hyu, hle⟩ := hx v hm
            rw [hy] at hyu
            cases hyu
            omega
          · rcases List.mem_cons.mp hu with rfl | hu
            · exact ⟨hv, y, hy, .inr ⟨Int.le_refl _, Nat.le_refl _⟩⟩
            · obtain ⟨hu1, yu, hyu, hle⟩ := hx u hu
              exact ⟨hu1, yu, hyu, by omega⟩
/-- what the told walk comes to -/
theorem Lead.sum {rs : List Ru} {fs : List OI} {g v : Nat} {p : List Int} {xs : List Nat} (h : Lead rs fs g v p xs) {ms : List OI} {L : Nat → Int} (hL : FeasG rs g L) (hin : InR rs ms.length) (hall : ∀ u, u < ms.length → ge ms u = some (-(L u))) (ok : ∀ u k, ge fs u = some k → ∃ (r : Ru) (y1 yv : Int), rs[k.toNat]? = some r ∧ r.2.1.toNat = u ∧ ge ms r.1.toNat = some y1 ∧ ge ms u = some yv ∧ y1 + r.2.2 ≤ yv) (hv : v < ms.length) : psum rs p = -(L v) := by
  induction h with
  | nil => rw [hL.z]; rfl
  | @cons v k r p xs hvg hk k0 hr ev hp ih =>
    have hm := List.mem_of_getElem? hr
    have ir := hin r hm
    have fr := hL.fe r hm
    rw [ev] at fr
    obtain ⟨r', y1, yv, hr', ev', h1, h2, h3⟩ := ok v k hk
    rw [hr] at hr'
    cases hr'
    rw [hall _ (by omega)] at h1
    rw [hall _ hv] at h2
    cases h1
    cases h2
    have ihs := ih (by omega)
    have e : rs.getD k.toNat (0, 0, 0) = r := by rw [List.getD_eq_getElem?_getD, hr]; rfl
    show (rs.getD k.toNat (0, 0, 0)).2.2 + psum rs p = -(L v)
    rw [e, ihs]
    omega
end Be
set_option Elab.async false
set_option linter.all false
/-! the program's earliest moments, by the walks to event 0. Plain Lean. -/
namespace Be
theorem walks0_some {W : Wd} {o : List Int} (v : Nat) (hv : v < o.length + 1) : ∃ y, ge (walks0 W o).1 v = some y := by
  have i1 := (init_len (o.length + 1) 0).1
  have f : ∀ k, ∃ y, ge (rnd (rulesM W o) (k + 1) (initW (o.length + 1) 0)).1 v = some y := by
    intro k
    induction k with
    | zero =>
      obtain ⟨y, _, g⟩ := first_round (W := W) (o := o) (s := initW (o.length + 1) 0) i1 ⟨0, Int.le_refl _, by
        unfold initW
        dsimp only
        rw [ge_set, if_pos ⟨rfl, by rw [List.length_replicate]; exact Nat.succ_pos _⟩]⟩ (rulesM W o).length v (by
          unfold rulesM
          rw [List.length_append, rulesPre_len]
          exact Nat.le_trans (Nat.mul_le_mul_left 3 (Nat.le_of_lt_succ hv)) (Nat.le_add_right _ _)) (Nat.le_of_lt_succ hv)
      exact ⟨y, g⟩
    | succ k ih =>
      obtain ⟨y, hy⟩ := ih
      obtain ⟨y', _, h'⟩ := pw_dec (rs := rulesM W o) (rulesM W o).length hy
      exact ⟨y', h'⟩
  exact f o.length
theorem eM_someB {W : Wd} {o r : List Int} (hok : W.Ok) (vo : VO W o) (h : early W o = some r) : eM W o = r := by
  have E := early_some hok vo h
  obtain ⟨L, hL⟩ := leastG hok vo h (g := 0) (Nat.succ_pos _)
  have up : ∀ v, v < o.length + 1 → fn r v ≤ L v := E.le L hL.fe.fe fun v hv => by
    have a := rises hL.fe.fe v (Nat.le_of_lt_succ hv)
    rw [hL.fe.z] at a
    exact a
  have s1 := hL.le (fn r) ⟨E.fe, E.z⟩
  refine eq_of_fn (by rw [eM_len, E.len]) fun v hv => ?_
  rw [eM_len] at hv
  rw [fn_eM hv (final hL (inR hok vo) (Nat.succ_pos _) hv), Int.neg_neg]
  apply Classical.byContradiction
  intro ne
  have := ssum_lt (f := fn r) (g := L) (o.length + 1) up ⟨v, hv, Int.lt_iff_le_and_ne.mpr ⟨up v hv, fun z => ne z.symm⟩⟩
  exact absurd s1 (Int.not_le.mpr this)
end Be
set_option Elab.async false
set_option linter.all false
set_option maxRecDepth 100000
/-! enumerate(a list) -/
namespace L2
open PySem PySem.Spec PyProof.Rows
theorem turn_enumL {P : Program} {w : World} {K : PySem.W.Frag} {es : List Expr} {ek : Nat} {pos : Pos} (a it e : Addr) (hei : e ≠ it) : Turn P w K (.Tuple es ek pos) (ItL K a) [it, e] e (fun i h => (∃ old, IsEnum h e it i old) ∧ h.IsListIter it a i) where
  mem := by simp
  obj := fun i h st b hb => by
    obtain ⟨⟨old, he⟩, o, ho, hc, hd⟩ := st
    have hb' : b = it ∨ b = e := by simpa using hb
    rcases hb' with rfl | rfl
    · exact ⟨o, ho, fun v z => by rw [hd] at z; cases z⟩
    · exact ⟨_, he, fun v z => by
        have z' : Data.fields _ = Data.cell v := z
        cases z'⟩
  keep := fun i h h' st k => by
    obtain ⟨⟨old, he⟩, st⟩ := st
    exact ⟨⟨old, k e (by simp) _ he⟩, st.at fun o q => k it (by simp) o q⟩
  item := by
    intro X hP hw hK hc i pins s σ H E I hf st hg
    subst hP hw hK
    obtain ⟨⟨old, he⟩, st⟩ := st
    obtain ⟨xs, x, hq, hx⟩ := hg
    obtain ⟨its, rv, p, hz⟩ := I.list hq
    obtain ⟨u, hu, ru⟩ := rv.get hx
    have f1 := hf it (by simp)
    have f2 := hf e (by simp)
    have p' : s.heap.IsList a its.toArray := p.isList
    have ha : a ≠ it := fun z => by
      obtain ⟨o, ho, hcl, _⟩ := st
      obtain ⟨o', ho', hcl', _⟩ := p'
      rw [z, ho] at ho'; cases ho'; rw [hcl] at hcl'; exact absurd (Value.type.inj hcl') (by decide)
    have hae : e ∉ [it, a] := fun z => by
      have z' : e = it ∨ e = a := by simpa using z
      rcases z' with z' | z'
      · exact hei z'
      · obtain ⟨o', ho', hcl', _⟩ := p'
        rw [← z', he] at ho'; cases ho'; exact absurd (Value.type.inj hcl') (by decide)
    have hlt : i < its.toArray.size := by
      have := (List.getElem?_eq_some_iff.mp hu).1
      simpa using this
    refine wpAny_pyNext_enum_itemD (Draws.list (A := X.A.in1) (I.ok.hd hc) it a ha its.toArray) he ⟨st, p'⟩ hlt hei hae fun y h1 tk hy ho st1 hT hsz hk => ?_
    have ey : y = u := by
      have hy' : its.toArray[i]? = some y := hy
      rw [List.getElem?_toArray] at hy'
      rw [hu] at hy'; cases hy'; rfl
    subst ey
    refine ⟨_, rfl, wpAny_letOwnedTupleGo_enum ho fun h2 he2 sb2 => ?_⟩
    have neT : s.heap.objs.size ≠ e := Nat.ne_of_gt (Heap.lt_size he)
    have hT2 : h2.get? s.heap.objs.size = some { cls := .type "tuple", data := .seq #[.int i tk, y] } := (sb2.2 _ neT).trans hT
    have fr : H s.heap.objs.size = none := I.hok.fresh (Nat.le_refl _)
    have I2 : Inv X pins σ (upd H s.heap.objs.size (.tup [.int i, x])) { s with heap := h2, toks := tk + 1 } :=
      I.turned2 (it := it) (e := e) (fun b q h1' h2' r => (sb2.2 b h2').trans (hk b q h2' h1' r)) f1 f2 (Nat.le_refl _) (tup2_ok hT2 ru)
    refine ⟨.ref s.heap.objs.size, _, I2, rfl, ⟨_, x, fr, rfl, rfl, fun ys hy => by rw [I.list_inj hy hq]; exact hx⟩, ⟨⟨y, ?_⟩, ?_⟩, fun b hb => ?_⟩
    · have := he2
      rw [show ((i + 1 : Nat) : Int) = (i : Int) + 1 from by omega]
      exact this
    · exact st1.1.at fun o q => (sb2.2 it (Ne.symm hei)).trans q
    · have hn := (hf b hb).1
      have hb' : b ≠ s.heap.objs.size := fun z => by
        have hlt' : b < s.heap.objs.size := by
          have hb2 : b = it ∨ b = e := by simpa using hb
          rcases hb2 with rfl | rfl
          · obtain ⟨o, ho, _⟩ := st; exact Heap.lt_size ho
          · exact Heap.lt_size he
        exact absurd z (Nat.ne_of_lt hlt')
      rw [upd_ne hb']
      exact hn
  done := by
    intro X hP hw hK hc i pins s σ H E I hf st hg
    subst hP hw hK
    obtain ⟨⟨old, he⟩, st⟩ := st
    obtain ⟨xs, hq, hx⟩ := hg
    obtain ⟨its, rv, p, hz⟩ := I.list hq
    have f1 := hf it (by simp)
    have p' : s.heap.IsList a its.toArray := p.isList
    have hT : s.TypeIs (.ref e) "enumerate" := ⟨_, he, rfl⟩
    unfold pyNext
    refine wpAny_bind (wpAny_attempt (wpAny_callSpecial?_slot (name := Str.ofString "__next__") hT F.slot_enumerate_next (wpAny_call_entry F.slot_enumerate_next hT F.entry_enumerate_next ?_ (F.args_enumerate_next_1 _))))
    show wpAny _ _ (field (.ref e) 2 >>= _) _ _ _
    refine wpAny_bind (wpAny_field he rfl (x := .ref it) rfl ?_)
    refine wpAny_bind (wpAny_nextOf_list_end (A := X.A.in1) (I.ok.hd hc) st p' (by simp; have := rv.length; omega) fun h1 ex hb hx' => ?_)
    obtain ⟨o, ho, hcl⟩ := hx'
    refine wpAny_bind (wpAny_isInstance (T := "StopIteration") (b := true) ⟨o, ho, hcl⟩ isSubtype_stop ?_)
    exact wpAny_pure ⟨rfl, I.turned (t' := s.toks) (fun b q hb' r => hb b q hb' r) f1.1 f1.2.1 f1.2.2.2.1 f1.2.2.2.2.1 f1.2.2.2.2.2⟩
  self := fun _ _ _ _ _ st h => let ⟨⟨_, he⟩, _⟩ := st; wpAny_pyIter_enum he h

section
variable {X : Cx} {es : List Expr} {ek : Nat} {tpos : Pos}
def iEnumL (K : PySem.W.Frag) (ta : TA) : TI := fun σ H R => ta σ H fun vs H1 => ∃ a xs, vs = [.ref a] ∧ SqL K H1 a xs ∧ R (ItL K a) H1
theorem pi_enumL {x : Expr} {ta : TA} {p pos : Pos} (hg : Gl X "enumerate") (hm : X.mg "enumerate" = none) (ha : PA X [x] ta) (hs : starEach [x] X.env = [(false, eval x X.env)] := by rfl) :
    PI X (.Tuple es ek tpos) (.Call (.Name "enumerate" p) [x] [] pos) (iEnumL X.K ta) := by
  intro pins s σ H R I h
  refine Call_ (ld_blt I hg hm boot_enumerate (PyProof.Rows.callWith_type1 (thn (ha pos pins s σ H _ I h) fun us s1 ⟨vs, H1, I1, r1, q1⟩ => ?_) hs rfl))
  obtain ⟨a, xs, e, hq, q⟩ := q1
  subst e
  cases r1 with
  | cons r rr =>
    cases rr
    cases r
    obtain ⟨its, rv, pt, hz⟩ := I1.list hq
    refine call_enumerate_list pt.isList fun h' he hit hsz hk => ?_
    refine wpAny_pyIter_enum he ?_
    have hne : s1.heap.objs.size + 1 ≠ s1.heap.objs.size := Nat.succ_ne_self _
    refine ⟨s1.heap.objs.size + 1, [s1.heap.objs.size, s1.heap.objs.size + 1], _, _, H1, rfl, I1.kept (t' := s1.toks) hk, turn_enumL a s1.heap.objs.size (s1.heap.objs.size + 1) hne, ⟨⟨_, he⟩, hit⟩, fun b hb => ?_, q⟩
    have hb' : b = s1.heap.objs.size ∨ b = s1.heap.objs.size + 1 := by simpa using hb
    rcases hb' with rfl | rfl
    · exact I1.fpOk (Nat.le_refl _) (I1.hok.fresh (Nat.le_refl _))
    · exact I1.fpOk (Nat.le_succ _) (I1.hok.fresh (Nat.le_succ _))
end
theorem for_enumL {K : PySem.W.Frag} {a : Addr} {xs : List V} {g : TG} {tb : TS} {D : Ends} {σ : St} {H : Hp} (Pv : Nat → St → Hp → Prop) (h0 : Pv 0 σ H) (hl : ∀ i σ H, i ≤ xs.length → Pv i σ H → SqL K H a xs)
    (hs : ∀ i v p σ H, xs[i]? = some v → H p = none → Pv i σ H → g (.ref p) σ (upd H p (.tup [.int i, v])) fun σ2 H2 => tb { D with nx := Pv (i + 1), ct := Pv (i + 1), bk := D.nx } σ2 H2) (hd : ∀ σ H, Pv xs.length σ H → D.nx σ H) :
    ∃ W : Nat → Nat → St → Hp → Prop, (∃ m, W 0 m σ H) ∧ ∀ i m σ H, W i m σ H →
      ((ItL K a).stop i H ∧ D.nx σ H) ∨ ((ItL K a).go i H ∧ ∃ N : St → Hp → Prop, (∀ σ' H', N σ' H' → ∃ m', m' < m ∧ W (i + 1) m' σ' H') ∧ ∀ x H', (ItL K a).yld i H x H' → g x σ H' fun σ2 H2 => tb { D with nx := N, ct := N, bk := D.nx } σ2 H2) := by
  refine ⟨fun i m σ H => m = xs.length - i ∧ i ≤ xs.length ∧ Pv i σ H, ⟨xs.length, by simp, Nat.zero_le _, h0⟩, ?_⟩
  rintro i m σ H ⟨rfl, hi, p⟩
  have q := hl i σ H hi p
  by_cases hlt : i < xs.length
  · refine .inr ⟨⟨xs, xs[i], q, by simp [hlt]⟩, Pv (i + 1), fun σ' H' p' => ⟨xs.length - (i + 1), by omega, rfl, hlt, p'⟩, fun x H' y => ?_⟩
    obtain ⟨b, v, hb, e1, e2, y⟩ := y
    subst e1 e2
    exact hs i v b σ _ (y xs q) hb p
  · have e : i = xs.length := by omega
    subst e
    exact .inl ⟨⟨xs, q, Nat.le_refl _⟩, hd σ H p⟩

end L2
set_option Elab.async false
set_option linter.all false
set_option maxRecDepth 100000
namespace Be
open PySem L2
def oV : OI → V
  | none => .non
  | some i => .int i
theorem atI_o {l : List OI} {k : Int} (h0 : 0 ≤ k) (h1 : k < (l.length : Int)) : atI (l.map oV) k = some (oV (ge l k.toNat)) := by
  have ex : k = ((k.toNat : Nat) : Int) := by omega
  have hl : k.toNat < l.length := by omega
  rw [ex]
  refine atI_nat ?_
  rw [List.getElem?_map, List.getElem?_eq_getElem hl]
  unfold ge
  rw [List.getD_eq_getElem?_getD, Int.toNat_natCast, List.getElem?_eq_getElem hl]
  rfl
theorem o_at {l : List OI} {i : Nat} {u : V} (h : (l.map oV)[i]? = some u) : l[i]? = some (ge l i) ∧ u = oV (ge l i) := by
  rw [List.getElem?_map] at h
  unfold ge
  rw [List.getD_eq_getElem?_getD]
  cases e : l[i]? with
  | none => rw [e] at h; cases h
  | some x => rw [e] at h; exact ⟨rfl, (Option.some.inj h).symm⟩
theorem rep_non (n : Nat) : (List.replicate n [V.non]).flatten = (List.replicate n (none : OI)).map oV := by
  rw [List.flatten_replicate_singleton, List.map_replicate]; rfl
/-- all but two lists stands as it was -/
def SameB (m f : Addr) (H H' : Hp) : Prop := ∀ b o, b ≠ m → b ≠ f → H b = some o → H' b = some o
theorem SameB.ts {m f : Addr} {H H' : Hp} {xs ys : List V} (g : SameB m f H H') (hm : H m = some (.lst xs)) (hf : H f = some (.lst ys)) : TSame H H' := fun b zs q => g b _ (ne_of q hm (by intro z; cases z)) (ne_of q hf (by intro z; cases z)) q
section
variable {P : Program} {w : World} {K : PySem.W.Frag} {mg : Str → Option Value} {base : Heap}
def sp_shorten : Sp := fun vs H Q _ => ∃ (a m f : Addr) (ws : List V) (rs : List Ru) (n : Nat) (s : SW), vs = [.ref a, .ref m, .ref f] ∧ H a = some (.lst ws) ∧ Reps H ws (rs.map encR) ∧ InR rs n ∧ s.1.length = n ∧ s.2.length = n ∧ H m = some (.lst (s.1.map oV)) ∧ H f = some (.lst (s.2.map oV)) ∧ m ≠ f ∧ a ≠ m ∧ a ≠ f ∧
  ∀ H', SameB m f H H' → H' m = some (.lst ((pw rs rs.length s).1.map oV)) → H' f = some (.lst ((pw rs rs.length s).2.map oV)) → Q .non H'
set_option maxHeartbeats 1000000 in
theorem ok_shorten_walks (T : Txt K mg) : FnOk P w K mg base (CXr P w) 1 T.shorten_walks.a T.shorten_walks.d ["told", "mosts", "firsts"] sp_shorten := by
  refine T.shorten_walks.F.okN sc_shorten_walks (fun vs H Q E h => ?_) (fun cdv A outer s H vs Q E hr h => ?_)
  · obtain ⟨a, m, f, ws, rs, n, s, rfl, _⟩ := h; rfl
  obtain ⟨a, m, f, ws, rs, n, s0, rfl, ha, hrs, hi, hs1, hs2, hm, hf, hmf, ham, haf, q⟩ := h
  refine ⟨_, (pss_one (ps_for PassesOwn.never rfl (pi_enumL rfl T.n_enumerate (pa_cons (pv 0) pa_nil)) (pg_tup rfl (pgs_cons (pg_name (i := 3) sc_shorten_walks.nd rfl (by first | exact Or.inl rfl | exact Or.inr rfl)) (pgs_cons (pg_name (i := 4) sc_shorten_walks.nd rfl (by first | exact Or.inl rfl | exact Or.inr rfl)) pgs_nil))) (pss_cons (ps_set (i := 5) sc_shorten_walks.nd rfl (by first | exact Or.inl rfl | exact Or.inr rfl) (pe_ix ix_list (pv 1) (pe_ix ix_tup (pv 4) pe_int (fun _ _ => rfl)) (fun _ _ => rfl))) (pss_one (ps_if (PW.pt (pw_and (pt_cmpR op_notN (pv 5) pe_non (nomark _)) (pw_and1 (PW.pt (pw_or (pt_cmpR op_isN (pe_ix ix_list (pv 1) (pe_ix ix_tup (pv 4) pe_int (fun _ _ => rfl)) (fun _ _ => rfl)) pe_non (nomark _)) (pw_or1 (pt_cmpR op_lt (pe_op op_add (pv 5) (pe_ix ix_tup (pv 4) pe_int (fun _ _ => rfl))) (pe_ix ix_list (pv 1) (pe_ix ix_tup (pv 4) pe_int (fun _ _ => rfl)) (fun _ _ => rfl)) (nomark _)))))))) (pss_cons (ps_asg (pe_op op_add (pv 5) (pe_ix ix_tup (pv 4) pe_int (fun _ _ => rfl))) (pg_sub (pv 1) (pe_ix ix_tup (pv 4) pe_int (fun _ _ => rfl)) set_list)) (pss_one (ps_asg (pv 3) (pg_sub (pv 2) (pe_ix ix_tup (pv 4) pe_int (fun _ _ => rfl)) set_list)))) pss_nil))))), ?_⟩
  have hle := hrs.length
  rw [List.length_map] at hle
  refine ⟨_, rfl, a, _, rfl, SqL.of ha, for_enumL (K := K) (a := a) (xs := ws) (fun j σ H2 => ∃ (x3 x4 x5 : Option V), σ = [some (.ref a), some (.ref m), some (.ref f), x3, x4, x5] ∧ SameB m f H H2 ∧ H2 m = some (.lst ((pw rs j s0).1.map oV)) ∧ H2 f = some (.lst ((pw rs j s0).2.map oV))) ?_ ?_ ?_ ?_⟩
  · exact ⟨none, none, none, rfl, fun _ _ _ _ z => z, hm, hf⟩
  · rintro j σ H2 _ ⟨x3, x4, x5, rfl, g, _⟩
    exact SqL.of (g _ _ ham haf ha)
  · rintro j v p σ H2 hv hp ⟨x3, x4, x5, rfl, g, hm2, hf2⟩
    have gp := same_new hp (.tup [.int j, v])
    have g3 : SameB m f H (upd H2 p (.tup [.int j, v])) := fun b o n1 n2 hb => gp _ _ (g b o n1 n2 hb)
    have hm3 := gp _ _ hm2
    have hf3 := gp _ _ hf2
    obtain ⟨ru, pr, hru, hmem, rfl, hpr⟩ := rule_at (hrs.tmono (g3.ts hm hf) (all_encR rs)) hv
    have ir := hi ru hmem
    have l1 : (pw rs j s0).1.length = n := by rw [(pw_len rs s0 j).1]; exact hs1
    have l2 : (pw rs j s0).2.length = n := by rw [(pw_len rs s0 j).2]; exact hs2
    have eg : rs.getD j (0, 0, 0) = ru := by rw [List.getD_eq_getElem?_getD, hru]; rfl
    have en : pw rs (j + 1) s0 = stepW (pw rs j s0) j ru := by show stepW (pw rs j s0) j (rs.getD j (0, 0, 0)) = _; rw [eg]
    have pe : ∃ q, q = p := ⟨p, rfl⟩
    generalize hH3 : upd H2 p (.tup [.int j, .ref pr]) = H3 at *
    have hpt : H3 p = some (.tup [.int j, .ref pr]) := by rw [← hH3, upd_same]
    refine ⟨p, _, rfl, SqT.of hpt, rfl, _, _, rfl, _, _, rfl, rfl, ?_⟩
    refine ⟨_, rfl, _, rfl, pr, _, _, _, rfl, rfl, SqT.of hpr, rfl, m, _, _, _, rfl, rfl, SqL.of hm3, atI_o ir.1.1 (by rw [l1]; exact ir.1.2), ?_⟩
    refine ⟨_, rfl, rfl, _, rfl, ?_⟩
    cases hy : ge (pw rs j s0).1 ru.1.toNat with
    | none =>
      have es : pw rs (j + 1) s0 = pw rs j s0 := by rw [en]; unfold stepW; rw [hy]
      refine iteF (iteF ⟨_, _, _, rfl, g3, ?_, ?_⟩)
      · rw [es]; exact hm3
      · rw [es]; exact hf3
    | some y =>
      refine iteT ⟨_, rfl, _, rfl, pr, _, _, _, rfl, rfl, SqT.of hpr, rfl, m, _, _, _, rfl, rfl, SqL.of hm3, atI_o ir.2.1 (by rw [l1]; exact ir.2.2), rfl, _, rfl, ?_⟩
      cases hz : ge (pw rs j s0).1 ru.2.1.toNat with
      | none =>
        have es : pw rs (j + 1) s0 = ((pw rs j s0).1.set ru.2.1.toNat (some (y + ru.2.2)), (pw rs j s0).2.set ru.2.1.toNat (some (j : Int))) := by
          rw [en]; unfold stepW; rw [hy]; dsimp only; rw [hz]; rfl
        refine iteT (iteT ?_)
        refine ⟨_, rfl, _, rfl, pr, _, _, _, rfl, rfl, SqT.of hpr, rfl, y, _, rfl, rfl, _, rfl, _, rfl, pr, _, _, _, rfl, rfl, SqT.of hpr, rfl, m, _, _, _, rfl, rfl, hm3, ixN_of ir.2.1 (by rw [List.length_map, l1]; exact ir.2.2), ?_⟩
        have npm : pr ≠ m := fun e => by rw [e, hm3] at hpr; cases hpr
        refine ⟨_, rfl, _, rfl, _, rfl, pr, _, _, _, rfl, rfl, SqT.of (by rw [upd_ne npm]; exact hpr), rfl, f, _, _, _, rfl, rfl, (by rw [upd_ne (Ne.symm hmf)]; exact hf3), ixN_of ir.2.1 (by rw [List.length_map, l2]; exact ir.2.2), ?_⟩
        refine ⟨_, _, _, rfl, fun b o n1 n2 hb => ?_, ?_, ?_⟩
        · rw [upd_ne n2, upd_ne n1]; exact g3 b o n1 n2 hb
        · rw [upd_ne hmf, upd_same, es, List.map_set]; rfl
        · rw [upd_same, es, List.map_set]; rfl
      | some z =>
        refine iteF ⟨_, rfl, _, rfl, pr, _, _, _, rfl, rfl, SqT.of hpr, rfl, y, _, rfl, rfl, _, rfl, _, rfl, pr, _, _, _, rfl, rfl, SqT.of hpr, rfl, m, _, _, _, rfl, rfl, SqL.of hm3, atI_o ir.2.1 (by rw [l1]; exact ir.2.2), _, z, rfl, congrArg oV hz, _, rfl, ?_⟩
        by_cases hlt : y + ru.2.2 < z
        · have es : pw rs (j + 1) s0 = ((pw rs j s0).1.set ru.2.1.toNat (some (y + ru.2.2)), (pw rs j s0).2.set ru.2.1.toNat (some (j : Int))) := by
            rw [en]; unfold stepW; rw [hy]; dsimp only; rw [hz, if_pos (show less (some z) (y + ru.2.2) = true from decide_eq_true hlt)]
          refine if_t (decide_eq_true hlt) ?_
          refine ⟨_, rfl, _, rfl, pr, _, _, _, rfl, rfl, SqT.of hpr, rfl, y, _, rfl, rfl, _, rfl, _, rfl, pr, _, _, _, rfl, rfl, SqT.of hpr, rfl, m, _, _, _, rfl, rfl, hm3, ixN_of ir.2.1 (by rw [List.length_map, l1]; exact ir.2.2), ?_⟩
          have npm : pr ≠ m := fun e => by rw [e, hm3] at hpr; cases hpr
          refine ⟨_, rfl, _, rfl, _, rfl, pr, _, _, _, rfl, rfl, SqT.of (by rw [upd_ne npm]; exact hpr), rfl, f, _, _, _, rfl, rfl, (by rw [upd_ne (Ne.symm hmf)]; exact hf3), ixN_of ir.2.1 (by rw [List.length_map, l2]; exact ir.2.2), ?_⟩
          refine ⟨_, _, _, rfl, fun b o n1 n2 hb => ?_, ?_, ?_⟩
          · rw [upd_ne n2, upd_ne n1]; exact g3 b o n1 n2 hb
          · rw [upd_ne hmf, upd_same, es, List.map_set]; rfl
          · rw [upd_same, es, List.map_set]; rfl
        · have es : pw rs (j + 1) s0 = pw rs j s0 := by
            rw [en]; unfold stepW; rw [hy]; dsimp only; rw [hz, if_neg (show ¬ less (some z) (y + ru.2.2) = true from fun q => hlt (of_decide_eq_true q))]
          refine if_f (decide_eq_false hlt) ⟨_, _, _, rfl, g3, ?_, ?_⟩
          · rw [es]; exact hm3
          · rw [es]; exact hf3
  · rintro σ H2 ⟨x3, x4, x5, rfl, g, hm2, hf2⟩
    rw [hle] at hm2 hf2
    exact q H2 g hm2 hf2
def sp_short : Sp := fun vs H Q _ => ∃ (a : Addr) (ws : List V) (rs : List Ru) (n goal : Nat), vs = [.ref a, .int n, .int goal] ∧ H a = some (.lst ws) ∧ Reps H ws (rs.map encR) ∧ InR rs n ∧ n ≤ 100 ∧ goal < n ∧
  ∀ (p m f : Addr) (H' : Hp), Same H H' → H' p = some (.tup [.ref m, .ref f]) → H' m = some (.lst ((rnd rs n (initW n goal)).1.map oV)) → H' f = some (.lst ((rnd rs n (initW n goal)).2.map oV)) → Q (.ref p) H'
theorem ok_shortest_walks (T : Txt K mg) : FnOk P w K mg base (CXr P w) 2 T.shortest_walks.a T.shortest_walks.d ["told", "events", "goal"] sp_short := by
  refine T.shortest_walks.F.okN sc_shortest_walks (fun vs H Q E h => ?_) (fun cdv A outer s H vs Q E hr h => ?_)
  · obtain ⟨a, ws, rs, n, goal, rfl, _⟩ := h; rfl
  obtain ⟨a, ws, rs, n, goal, rfl, ha, hrs, hi, hn, hg, q⟩ := h
  refine ⟨_, (pss_cons (ps_set (i := 3) sc_shortest_walks.nd rfl (by first | exact Or.inl rfl | exact Or.inr rfl) (pe_op op_rep (pe_lst (pa_cons pe_non pa_nil)) (pv 1))) (pss_cons (ps_set (i := 4) sc_shortest_walks.nd rfl (by first | exact Or.inl rfl | exact Or.inr rfl) (pe_op op_rep (pe_lst (pa_cons pe_non pa_nil)) (pv 1))) (pss_cons (ps_asg pe_int (pg_sub (pv 3) (pv 2) set_list)) (pss_cons (ps_for PassesOwn.never rfl (pi_range1 rfl T.n_range (pa_cons (pv 1) pa_nil)) (pg_name (i := 5) sc_shortest_walks.nd rfl (by first | exact Or.inl rfl | exact Or.inr rfl)) (pss_one (ps_expr (pe_call (ok_shorten_walks T) (hr.mono (by decide)) rfl T.shorten_walks.m T.shorten_walks.F.kp T.shorten_walks.b .nil passN (pa_cons (pv 0) (pa_cons (pv 3) (pa_cons (pv 4) pa_nil))))))) (pss_one (ps_ret (pe_tup (pa_cons (pv 3) (pa_cons (pv 4) pa_nil))))))))), ?_⟩
  have hlen : ∀ k : Nat, ([V.non] : List V).length * (k : Int).toNat = k := fun k => by rw [Int.toNat_natCast]; exact Nat.one_mul _
  refine ⟨by show 1 ≤ sizeLine; decide, fun l0 hl0 => ?_⟩
  have g0 := same_new hl0 (.lst [.non])
  refine ⟨_, rfl, l0, _, _, rfl, rfl, upd_same, by omega, by omega, by rw [hlen]; exact Nat.le_trans hn (by decide), fun m hm => ?_⟩
  have g1 := g0.trans (same_new hm (.lst (List.replicate (n : Int).toNat [V.non]).flatten))
  have hm1 : upd (upd H l0 (.lst [.non])) m (.lst (List.replicate (n : Int).toNat [V.non]).flatten) m = some (.lst ((List.replicate n (none : OI)).map oV)) := by rw [upd_same, rep_non, Int.toNat_natCast]
  have fm : H m = none := g0.free hm
  generalize upd (upd H l0 (.lst [.non])) m (.lst (List.replicate (n : Int).toNat [V.non]).flatten) = H1 at *
  refine ⟨by show 1 ≤ sizeLine; decide, fun l2 hl2 => ?_⟩
  have g2 := same_new hl2 (.lst [.non])
  refine ⟨_, rfl, l2, _, _, rfl, rfl, upd_same, by omega, by omega, by rw [hlen]; exact Nat.le_trans hn (by decide), fun f hf => ?_⟩
  have g3 := g2.trans (same_new hf (.lst (List.replicate (n : Int).toNat [V.non]).flatten))
  have hf3 : upd (upd H1 l2 (.lst [.non])) f (.lst (List.replicate (n : Int).toNat [V.non]).flatten) f = some (.lst ((List.replicate n (none : OI)).map oV)) := by rw [upd_same, rep_non, Int.toNat_natCast]
  have ff1 : H1 f = none := g2.free hf
  have ff : H f = none := g1.free ff1
  generalize upd (upd H1 l2 (.lst [.non])) f (.lst (List.replicate (n : Int).toNat [V.non]).flatten) = H3 at *
  have hm3 := g3 _ _ hm1
  have hmf : m ≠ f := fun z => by rw [z, ff1] at hm1; cases hm1
  refine ⟨_, rfl, _, rfl, m, _, _, _, rfl, rfl, hm3, ixN_of (Int.natCast_nonneg _) (by rw [List.length_map, List.length_replicate]; omega), ?_⟩
  have ham : a ≠ m := fun z => by rw [z, fm] at ha; cases ha
  have haf : a ≠ f := fun z => by rw [z, ff] at ha; cases ha
  refine ⟨_, rfl, _, rfl, by omega, by omega, for_range (n := (n : Int).toNat) (fun k σ H2 => ∃ (x5 : Option V), σ = [some (.ref a), some (.int n), some (.int goal), some (.ref m), some (.ref f), x5] ∧ Same H H2 ∧ H2 m = some (.lst ((rnd rs k (initW n goal)).1.map oV)) ∧ H2 f = some (.lst ((rnd rs k (initW n goal)).2.map oV))) ?_ ?_ ?_⟩
  · refine ⟨none, rfl, (g1.trans g3).write fm _, ?_, ?_⟩
    · rw [upd_same, Int.toNat_natCast]
      show _ = some (HO.lst (((List.replicate n (none : OI)).set goal (some 0)).map oV))
      rw [List.map_set]; rfl
    · rw [upd_ne (Ne.symm hmf)]; exact hf3
  · rintro k σ H2 hk ⟨x5, rfl, g, hm2, hf2⟩
    have rl := rnd_len rs (initW n goal) k
    have il := init_len n goal
    refine ⟨_, rfl, _, rfl, _, rfl, a, m, f, ws, rs, n, rnd rs k (initW n goal), rfl, g _ _ ha, hrs.mono g, hi, rl.1.trans il.1, rl.2.trans il.2, hm2, hf2, hmf, ham, haf, fun H' gb hm' hf' => ?_⟩
    refine ⟨_, rfl, fun b o hb => ?_, hm', hf'⟩
    exact gb b o (fun z => by rw [z, fm] at hb; cases hb) (fun z => by rw [z, ff] at hb; cases hb) (g b o hb)
  · rintro σ H2 ⟨x5, rfl, g, hm2, hf2⟩
    rw [Int.toNat_natCast] at hm2 hf2
    refine ⟨_, rfl, _, rfl, by show 2 ≤ sizeLine; decide, fun p hp => ?_⟩
    have gp := same_new hp (.tup [.ref m, .ref f])
    exact q p m f _ (g.trans gp) upd_same (gp _ _ hm2) (gp _ _ hf2)
def negs (l : List OI) : List Int := l.map fun x => -(x.getD 0)
def sp_em : Sp := fun vs H Q _ => ∃ (a : Addr) (ws : List V) (rs : List Ru) (n : Nat), vs = [.ref a, .int n] ∧ H a = some (.lst ws) ∧ Reps H ws (rs.map encR) ∧ InR rs n ∧ n ≤ 100 ∧ 0 < n ∧ (∀ v, v < n → ∃ y, ge (rnd rs n (initW n 0)).1 v = some y) ∧
  ∀ (l : Addr) (H' : Hp), Same H H' → H l = none → H' l = some (.lst ((negs (rnd rs n (initW n 0)).1).map V.int)) → Q (.ref l) H'
theorem ok_earliest_moments (T : Txt K mg) : FnOk P w K mg base (CXr P w) 3 T.earliest_moments.a T.earliest_moments.d ["told", "events"] sp_em := by
  refine T.earliest_moments.F.okN sc_earliest_moments (fun vs H Q E h => ?_) (fun cdv A outer s H vs Q E hr h => ?_)
  · obtain ⟨a, ws, rs, n, rfl, _⟩ := h; rfl
  obtain ⟨a, ws, rs, n, rfl, ha, hrs, hi, hn, hn0, hall, q⟩ := h
  refine ⟨_, (pss_one (ps_ret (pe_comp (NB := ["most"]) (js := [none]) rfl (blkOk_of rfl (by decide +kernel) rfl (by decide +kernel) (by decide +kernel) (by with_unfolding_all rfl) (by with_unfolding_all rfl) (by with_unfolding_all rfl) (by with_unfolding_all rfl)) (pi_list (pe_ix ix_tup (pe_call (ok_shortest_walks T) (hr.mono (by decide)) rfl T.shortest_walks.m T.shortest_walks.F.kp T.shortest_walks.b .nil passN (pa_cons (pv 0) (pa_cons (pv 1) (pa_cons pe_int pa_nil)))) pe_int (fun _ _ => rfl))) (fun _ _ _ _ => (pg_name (i := 0) (show (["most"] : List Str).Nodup by decide +kernel) rfl (by first | exact Or.inl rfl | exact Or.inr rfl))) (fun _ _ _ _ => pf_nil) (fun _ _ _ _ => (pe_un un_neg (pv 0)))))), ?_⟩
  refine ⟨_, rfl, _, rfl, a, ws, rs, n, 0, rfl, ha, hrs, hi, hn, hn0, fun p m f H1 g1 hp hm hf => ?_⟩
  refine ⟨p, _, _, _, rfl, rfl, SqT.of hp, rfl, m, rfl, ⟨_, SqL.of hm⟩, fun D hD => ?_⟩
  have ll : (rnd rs n (initW n 0)).1.length = n := (rnd_len rs (initW n 0) n).1.trans (init_len n 0).1
  refine comp_listR (K := K) (a := m) (xs := (rnd rs n (initW n 0)).1.map oV) (fun i ys H2 => Same H1 H2 ∧ H2 D = some (.lst ys) ∧ ys = (negs ((rnd rs n (initW n 0)).1.take i)).map V.int) ⟨same_new hD _, upd_same, rfl⟩ (fun i ys H2 _ hP => SqL.of (hP.1 _ _ hm)) (fun i ys y H2 hy hP => ?_) (fun ys H2 hP => ?_)
  · obtain ⟨g, hD2, rfl⟩ := hP
    obtain ⟨hx, rfl⟩ := o_at hy
    have hil : i < n := by
      have := (List.getElem?_eq_some_iff.mp hx).1
      omega
    obtain ⟨z, hz⟩ := hall i hil
    rw [hz] at hx ⊢
    refine ⟨agree0, iteT ⟨_, rfl, _, rfl, hD2, ?_, g.write hD _, upd_same, ?_⟩⟩
    · unfold negs
      rw [List.length_map, List.length_map, List.length_take]
      exact Nat.lt_of_lt_of_le (show _ < 200 by omega) (by decide)
    · unfold negs
      exact (map_snoc hx _ _).symm
  · obtain ⟨g, hD2, rfl⟩ := hP
    rw [List.length_map, List.take_length] at hD2
    exact q D H2 (g1.trans g) (g1.free hD) hD2
def sp_could : Sp := fun vs H Q _ => ∃ (v t : V) (W : Wd) (o : List Int), vs = [v, t] ∧ Rep H v (encW W) ∧ W.Ok ∧ Rep H t (encO o) ∧ VO W o ∧ ∀ H', Same H H' → Q (.bl (early W o).isSome) H'
theorem could_is {W : Wd} {o : List Int} (hok : W.Ok) (vo : VO W o) : feasB (rulesM W o) (eM W o) = (early W o).isSome := by
  cases e : early W o with
  | some r =>
    rw [eM_someB hok vo e]
    exact feasB_iff.mpr (early_some hok vo e).fe
  | none => exact Bool.eq_false_iff.mpr fun z => eM_none hok vo e (feasB_iff.mp z)
theorem enc_short {W : Wd} {o : List Int} (hok : W.Ok) (vo : VO W o) : ∀ ds, encO o = .tuple ds → ds.length ≤ 1000 := fun ds z => by
  have := hok.l10
  have := vo.len
  unfold encO at z
  injection z with z
  rw [← z, List.length_map]
  omega
set_option maxHeartbeats 1000000 in
theorem ok_could (T : Txt K mg) : FnOk P w K mg base (CXr P w) 8 T.could.a T.could.d ["world", "order"] sp_could := by
  refine T.could.F.okN sc_could (fun vs H Q E h => ?_) (fun cdv A outer s H vs Q E hr h => ?_)
  · obtain ⟨v, t, W, o, rfl, _⟩ := h; rfl
  obtain ⟨v, t, W, o, rfl, hW, hok, ho, vo, q⟩ := h
  refine ⟨_, (pss_cons (ps_set (i := 2) sc_could.nd rfl (by first | exact Or.inl rfl | exact Or.inr rfl) (pe_call (ok_rules T) (hr.mono (by decide)) rfl T.rules.m T.rules.F.kp T.rules.b .nil passN (pa_cons (pv 0) (pa_cons (pv 1) pa_nil)))) (pss_cons (ps_set (i := 3) sc_could.nd rfl (by first | exact Or.inl rfl | exact Or.inr rfl) (pe_call (ok_earliest_moments T) (hr.mono (by decide)) rfl T.earliest_moments.m T.earliest_moments.F.kp T.earliest_moments.b .nil passN (pa_cons (pv 2) (pa_cons (pe_op op_add (pe_callB call_len_seq rfl T.n_len bt_len (pa_cons (pv 1) pa_nil)) pe_int) pa_nil)))) (pss_one (ps_ret (pe_callB (call_allL rfl) rfl T.n_all bt_all (pa_cons (pe_comp (NB := ["rule", "earliest"]) (js := [none, some 3]) rfl (blkOk_of rfl (by decide +kernel) rfl (by decide +kernel) (by decide +kernel) (by with_unfolding_all rfl) (by with_unfolding_all rfl) (by with_unfolding_all rfl) (by with_unfolding_all rfl)) (pi_list (pv 2)) (fun _ _ _ _ => (pg_name (i := 0) (show (["rule", "earliest"] : List Str).Nodup by decide +kernel) rfl (by first | exact Or.inl rfl | exact Or.inr rfl))) (fun _ _ _ _ => pf_nil) (fun _ _ _ _ => (pe_call (ok_holds T) (hr.mono (by decide)) rfl T.holds.m T.holds.F.kp T.holds.b .nil passN (pa_cons (pv 0) (pa_cons (pv 1) pa_nil))))) pa_nil)))))), ?_⟩
  have l10 := hok.l10
  have vl := vo.len
  refine ⟨_, rfl, _, rfl, v, t, encW W, encO o, rfl, hW, ho, enc_short hok vo, fun z => ?_, fun W' hok' e => ⟨fun z => ?_, fun o' vo' e2 rr H1 ws g1 fr1 hr1 rs1 => ?_⟩⟩
  · rw [isW_enc hok] at z; cases z
  · obtain rfl := encW_inj e
    rw [ord_enc vo] at z; cases z
  obtain rfl := encW_inj e
  obtain rfl := encO_inj e2
  obtain ⟨po, rfl, hpo⟩ := seqO (K := K) ho
  have hle := rs1.length
  rw [List.length_map] at hle
  have hrl := rules_len hok vo
  refine ⟨_, rfl, _, rfl, po, _, rfl, .inr (SqT.of (g1 _ _ hpo)), _, _, rfl, rfl, rr, ws, rulesM W o, o.length + 1, by rw [List.length_map]; rfl, hr1, rs1, inR hok vo, by omega, by omega, fun v hv => ?_, fun l H2 g2 fl hl2 => ?_⟩
  · obtain ⟨y, hy⟩ := walks0_some (W := W) (o := o) v hv
    exact ⟨y, hy⟩
  have hE : H2 l = some (.lst ((eM W o).map V.int)) := hl2
  have hr2 := g2 _ _ hr1
  have rs2 := rs1.mono g2
  refine ⟨_, rfl, rr, rfl, ⟨_, SqL.of hr2⟩, fun D hD => ?_⟩
  refine comp_listR (K := K) (a := rr) (xs := ws) (fun i ys H5 => Same H2 H5 ∧ H5 D = some (.lst ys) ∧ ys = (((rulesM W o).take i).map (fun r => decide (fn (eM W o) r.1.toNat - fn (eM W o) r.2.1.toNat ≤ r.2.2))).map V.bl) ⟨same_new hD _, upd_same, rfl⟩ (fun i ys H5 _ hP => SqL.of (hP.1 _ _ hr2)) (fun i ys y H5 hy hP => ?_) (fun ys H5 hP => ?_)
  · obtain ⟨g5, hD5, rfl⟩ := hP
    obtain ⟨ru, p, hru, hmem, rfl, hp⟩ := rule_at (rs2.mono g5) hy
    have ir := inR hok vo ru hmem
    have il := eM_len W o
    refine ⟨agree0, iteT ⟨_, rfl, _, rfl, p, l, ru.1, ru.2.1, ru.2.2, eM W o, rfl, hp, g5 _ _ hE, ir.1.1, by rw [il]; exact ir.1.2, ir.2.1, by rw [il]; exact ir.2.2, hD5, ?_, g5.write hD _, upd_same, (map_snoc hru _ _).symm⟩⟩
    rw [List.length_map, List.length_map]
    have := List.length_take_le' i (rulesM W o)
    exact Nat.lt_of_lt_of_le (show _ < 100 by omega) (by decide)
  · obtain ⟨g5, hD5, rfl⟩ := hP
    rw [hle, List.take_length] at hD5
    refine ⟨D, _, rfl, hD5, ?_⟩
    rw [List.all_map]
    rw [← could_is hok vo] at q
    exact q H5 (g1.trans (g2.trans g5))
def sp_cc (T : Txt K mg) : Sp := fun vs H Q E => ∃ (v t : V) (W : Wd) (o : List Int), vs = [v, t] ∧ Rep H v (encW W) ∧ W.Ok ∧ Rep H t (encO o) ∧ VO W o ∧ ((early W o).isSome = true → ∀ H', Same H H' → Q .non H') ∧ ((early W o).isSome = false → ∀ H', Same H H' → E (.ref T.e_Never.C) none H')
theorem ok_check_could (T : Txt K mg) : FnOk P w K mg base (CXr P w) 9 T.check_could.a T.check_could.d ["world", "order"] (sp_cc T) := by
  refine T.check_could.F.okR sc_check_could (fun vs H Q E h => ?_) (fun cdv A outer s H vs Q E hr h => ?_)
  · obtain ⟨v, t, W, o, rfl, _⟩ := h; rfl
  obtain ⟨v, t, W, o, rfl, hW, hok, ho, vo, q1, q2⟩ := h
  refine ⟨_, (pss_one (ps_if (pt_not (pt_val (pe_call (ok_could T) (hr.mono (by decide)) rfl T.could.m T.could.F.kp T.could.b .nil passN (pa_cons (pv 0) (pa_cons (pv 1) pa_nil))))) (pss_one (ps_raise T.e_Never.m T.e_Never.q PySem.F.excBase_ValueError hr.hd pe_str rfl)) pss_nil)), ?_⟩
  refine ⟨_, rfl, _, rfl, v, t, W, o, rfl, hW, hok, ho, vo, fun H' g => ⟨_, rfl, ?_⟩⟩
  cases hw : (early W o).isSome with
  | true => exact iteF (q1 hw H' g)
  | false => exact iteT ⟨by show 1 ≤ sizeLine; decide, q2 hw H' g⟩
end
end Be
set_option Elab.async false
set_option linter.all false
/-! what a length may have been. Plain Lean. -/
namespace Be
inductive WalkOk (rs : List Ru) (b : Nat) : Nat → List Int → Prop
  | nil : WalkOk rs b b []
  | cons {v : Nat} {k : Int} {r : Ru} {p : List Int} : 0 ≤ k → rs[k.toNat]? = some r → r.2.1.toNat = v → WalkOk rs b r.1.toNat p → WalkOk rs b v (k :: p)
theorem psum_cons (rs : List Ru) (k : Int) (p : List Int) : psum rs (k :: p) = (rs.getD k.toNat (0, 0, 0)).2.2 + psum rs p := rfl
theorem WalkOk.bound {rs : List Ru} {f : Nat → Int} (hf : FeasF rs f) {a b : Nat} {p : List Int} (h : WalkOk rs b a p) : f b - f a ≤ psum rs p := by
  induction h with
  | nil => show f b - f b ≤ 0; omega
  | cons k0 hr ev hp ih =>
    rename_i v k r p
    have e : rs.getD k.toNat (0, 0, 0) = r := by rw [List.getD_eq_getElem?_getD, hr]; rfl
    have := hf r (List.mem_of_getElem? hr)
    rw [psum_cons, e]
    rw [ev] at this
    omega
theorem Lead.walk {rs : List Ru} {fs : List OI} {g v : Nat} {p : List Int} {xs : List Nat} (h : Lead rs fs g v p xs) : WalkOk rs g v p := by
  induction h with
  | nil => exact .nil
  | cons hv hk k0 hr ev hp ih => exact .cons k0 hr ev ih
theorem Lead.le {rs : List Ru} {fs : List OI} {g v : Nat} {p : List Int} {xs : List Nat} (h : Lead rs fs g v p xs) : ∀ k ∈ p, 0 ≤ k ∧ k < (rs.length : Int) := by
  induction h with
  | nil => intro k hk; cases hk
  | cons hv hk k0 hr ev hp ih =>
    intro k' hk'
    rcases List.mem_cons.mp hk' with rfl | hk'
    · have := (List.getElem?_eq_some_iff.mp hr).1
      omega
    · exact ih k' hk'
theorem chain_info {W : Wd} {o r : List Int} (hok : W.Ok) (vo : VO W o) (he : early W o = some r) {st g : Nat} (hst : st < o.length + 1) (hg : g < o.length + 1) :
    ∃ (L : Nat → Int) (p : List Int) (xs : List Nat), FeasF (rulesM W o) L ∧ L g = 0 ∧ Lead (rulesM W o) (rnd (rulesM W o) (o.length + 1) (initW (o.length + 1) g)).2 g st p xs ∧ p.length ≤ o.length + 1 ∧ psum (rulesM W o) p = -(L st) := by
  obtain ⟨L, hL⟩ := leastG hok vo he hg
  have hi := inR hok vo
  have T := tinv_rnd (g := g) hi hL.fe.fe (o.length + 1)
  have lo := rnd_low hL.fe.fe (init_low L (o.length + 1) g) (o.length + 1)
  obtain ⟨tm, hl⟩ := leads hi hL.fe T lo
  obtain ⟨p, xs, hp, nd, hx⟩ := hl _ _ st _ rfl rfl hst (final hL hi hg hst)
  refine ⟨L, p, xs, hL.fe.fe, hL.fe.z, hp, ?_, ?_⟩
  · rw [hp.len]
    exact nodup_len nd fun x hx' => (hx x hx').1
  · refine hp.sum (ms := (rnd (rulesM W o) (o.length + 1) (initW (o.length + 1) g)).1) hL.fe (by rw [T.l1]; exact hi) (fun u hu => final hL hi hg (by rw [T.l1] at hu; exact hu)) (fun u k hk => ?_) (by rw [T.l1]; exact hst)
    obtain ⟨tm', now, _, ok⟩ := T.ok
    obtain ⟨r', y1, yv, _, h1, h2, h3, h4, h5⟩ := ok u k hk
    exact ⟨r', y1, yv, h1, h2, h3, h4, by rcases h5 with h5 | h5 <;> omega⟩
structure Len (W : Wd) (o : List Int) (x : Int) (j : Nat) (least most : Int) : Prop where
  m1 : ∃ f, FeasF (rulesM W o) f ∧ f (j + 1) - f (bg W x).toNat = most
  m2 : ∃ p, WalkOk (rulesM W o) (j + 1) (bg W x).toNat p ∧ psum (rulesM W o) p = most
  l1 : ∃ f, FeasF (rulesM W o) f ∧ f (j + 1) - f (bg W x).toNat = least
  l2 : ∃ p, WalkOk (rulesM W o) (bg W x).toNat (j + 1) p ∧ psum (rulesM W o) p = -least
theorem rule_most {W : Wd} {o : List Int} (hok : W.Ok) (vo : VO W o) : ∀ r ∈ rulesM W o, -100000 ≤ r.2.2 ∧ r.2.2 ≤ 100000 := fun r hr => by
  unfold rulesM at hr
  rcases List.mem_append.mp hr with hr | hr
  · obtain ⟨j, hj, hr⟩ := mem_pre hr
    have g := vo.getD hj
    have l := began_le W j
    have m := bnd_ok hok g.1 (by omega : o.getD j 0 < (W.bs.length : Int))
    unfold rule3 at hr
    simp only [List.mem_cons, List.not_mem_nil, or_false] at hr
    rcases hr with rfl | rfl | rfl <;> (dsimp only; omega)
  · obtain ⟨x, hx, rfl⟩ := List.mem_map.mp hr
    obtain ⟨⟨x0, x1⟩, _⟩ := mem_run.mp hx
    have l := began_le W o.length
    have m := bnd_ok hok x0 (by omega : x < (W.bs.length : Int))
    unfold ruleR
    dsimp only
    omega
end Be
set_option Elab.async false
set_option linter.all false
set_option maxRecDepth 100000
namespace Be
open PySem L2
theorem rule_ix {H : Hp} {ws : List V} {rs : List Ru} (h : Reps H ws (rs.map encR)) {k : Int} (h0 : 0 ≤ k) {r : Ru} (hr : rs[k.toNat]? = some r) : ∃ p, atI ws k = some (.ref p) ∧ H p = some (.tup [.int r.1, .int r.2.1, .int r.2.2]) := by
  obtain ⟨u, hu, ru⟩ := h.get (i := k.toNat) (d := encR r) (by rw [List.getElem?_map, hr]; rfl)
  obtain ⟨p, rfl, hp⟩ := rep3_inv ru
  refine ⟨p, ?_, hp⟩
  have ex : k = ((k.toNat : Nat) : Int) := by omega
  rw [ex]
  exact atI_nat hu
section
variable {P : Program} {w : World} {K : PySem.W.Frag} {mg : Str → Option Value} {base : Heap}
def sp_wm : Sp := fun vs H Q _ => ∃ (a l : Addr) (ws : List V) (rs : List Ru) (p : List Int), vs = [.ref a, .ref l] ∧ H a = some (.lst ws) ∧ Reps H ws (rs.map encR) ∧ H l = some (.lst (p.map V.int)) ∧ (∀ k ∈ p, 0 ≤ k ∧ k < (rs.length : Int)) ∧ p.length ≤ 1000 ∧ (∀ r ∈ rs, -100000 ≤ r.2.2 ∧ r.2.2 ≤ 100000) ∧ ∀ H', Same H H' → Q (.int (psum rs p)) H'
theorem ok_walk_most (T : Txt K mg) : FnOk P w K mg base (CXr P w) 1 T.walk_most.a T.walk_most.d ["told", "walk"] sp_wm := by
  refine T.walk_most.F.okN sc_walk_most (fun vs H Q E h => ?_) (fun cdv A outer s H vs Q E hr h => ?_)
  · obtain ⟨a, l, ws, rs, p, rfl, _⟩ := h; rfl
  obtain ⟨a, l, ws, rs, p, rfl, ha, hrs, hl, hp, hlen, hb, q⟩ := h
  refine ⟨_, (pss_one (ps_ret (pe_callB (call_sumL rfl) rfl T.n_sum bt_sum (pa_cons (pe_comp (NB := ["place", "told"]) (js := [none, some 0]) rfl (blkOk_of rfl (by decide +kernel) rfl (by decide +kernel) (by decide +kernel) (by with_unfolding_all rfl) (by with_unfolding_all rfl) (by with_unfolding_all rfl) (by with_unfolding_all rfl)) (pi_list (pv 1)) (fun _ _ _ _ => (pg_name (i := 0) (show (["place", "told"] : List Str).Nodup by decide +kernel) rfl (by first | exact Or.inl rfl | exact Or.inr rfl))) (fun _ _ _ _ => pf_nil) (fun _ _ _ _ => (pe_ix (b_ix_tup K) (pe_ix (b_ix_list K) (pv 1) (pv 0) (fun _ _ => rfl)) pe_int (fun _ _ => rfl)))) pa_nil)))), ?_⟩
  refine ⟨_, rfl, l, rfl, ⟨_, SqL.of hl⟩, fun D hD => ?_⟩
  refine comp_listR (K := K) (a := l) (xs := p.map V.int) (fun i ys H2 => Same H H2 ∧ H2 D = some (.lst ys) ∧ ys = ((p.take i).map (fun k => (rs.getD k.toNat (0, 0, 0)).2.2)).map V.int) ⟨same_new hD _, upd_same, rfl⟩ (fun i ys H2 _ hP => SqL.of (hP.1 _ _ hl)) (fun i ys y H2 hy hP => ?_) (fun ys H2 hP => ?_)
  · obtain ⟨g, hD2, rfl⟩ := hP
    obtain ⟨k, rfl, hk, _⟩ := int_at hy
    have kb := hp k (List.mem_of_getElem? hk)
    have hkl : k.toNat < rs.length := by omega
    obtain ⟨pr, e1, e2⟩ := rule_ix (hrs.mono g) kb.1 (List.getElem?_eq_getElem hkl)
    have eg : rs.getD k.toNat (0, 0, 0) = rs[k.toNat] := by rw [List.getD_eq_getElem?_getD, List.getElem?_eq_getElem hkl]; rfl
    refine ⟨agree0, iteT ⟨_, rfl, _, rfl, a, _, _, _, rfl, rfl, SqL.of (g _ _ ha), e1, pr, _, _, _, rfl, rfl, SqT.of e2, rfl, hD2, ?_, g.write hD _, upd_same, ?_⟩⟩
    · rw [List.length_map, List.length_map]
      have := List.length_take_le' i p
      exact Nat.lt_of_lt_of_le (show _ < 2000 by omega) (by decide)
    · rw [map_snoc hk, eg]
  · obtain ⟨g, hD2, rfl⟩ := hP
    rw [List.length_map, List.take_length] at hD2
    refine ⟨D, _, rfl, hD2, by rw [List.length_map]; exact hlen, fun x hx => ?_, q H2 g⟩
    obtain ⟨k, hk, rfl⟩ := List.mem_map.mp hx
    have kb := hp k hk
    exact hb _ (getD_mem (by omega))
def sp_wbf : Sp := fun vs H Q _ => ∃ (a f : Addr) (st g : Int) (ws : List V) (rs : List Ru) (fs : List OI) (p : List Int) (xs : List Nat), vs = [.ref a, .ref f, .int st, .int g] ∧ H a = some (.lst ws) ∧ Reps H ws (rs.map encR) ∧ H f = some (.lst (fs.map oV)) ∧ InR rs fs.length ∧ 0 ≤ st ∧ st < (fs.length : Int) ∧ 0 ≤ g ∧ Lead rs fs g.toNat st.toNat p xs ∧ p.length ≤ 1000 ∧
  ∀ (l : Addr) (H' : Hp), Same H H' → H l = none → H' l = some (.lst (p.map V.int)) → Q (.ref l) H'
theorem ok_walk_by_firsts (T : Txt K mg) : FnOk P w K mg base (CXr P w) 1 T.walk_by_firsts.a T.walk_by_firsts.d ["told", "firsts", "start", "goal"] sp_wbf := by
  refine T.walk_by_firsts.F.okN sc_walk_by_firsts (fun vs H Q E h => ?_) (fun cdv A outer s H vs Q E hr h => ?_)
  · obtain ⟨a, f, st, g, ws, rs, fs, p, xs, rfl, _⟩ := h; rfl
  obtain ⟨a, f, st, g, ws, rs, fs, p, xs, rfl, ha, hrs, hf, hi, st0, st1, g0, hp, hlen, q⟩ := h
  refine ⟨_, (pss_cons (ps_set (i := 4) sc_walk_by_firsts.nd rfl (by first | exact Or.inl rfl | exact Or.inr rfl) (pe_lst pa_nil)) (pss_cons (ps_set (i := 5) sc_walk_by_firsts.nd rfl (by first | exact Or.inl rfl | exact Or.inr rfl) (pv 2)) (pss_cons (ps_while PassesOwn.never (pt_cmpR op_ne (pv 5) (pv 3) (nomark _)) (pss_cons (ps_expr (pe_bm PySem.F.plainAttrs_list PySem.F.slot_list_append PySem.F.type_list_append mt_append (pv 4) (pa_cons (pe_ix ix_list (pv 1) (pv 5) (fun _ _ => rfl)) pa_nil))) (pss_one (ps_set (i := 5) sc_walk_by_firsts.nd rfl (by first | exact Or.inl rfl | exact Or.inr rfl) (pe_ix ix_tup (pe_ix ix_list (pv 0) (pe_ix ix_list (pv 1) (pv 5) (fun _ _ => rfl)) (fun _ _ => rfl)) pe_int (fun _ _ => rfl)))))) (pss_one (ps_ret (pv 4)))))), ?_⟩
  refine ⟨Nat.zero_le _, fun l hl => ?_⟩
  have gl := same_new hl (.lst [])
  refine ⟨_, rfl, fun m σ H2 => ∃ (e : Int) (p0 p1 : List Int) (xs1 : List Nat), σ = [some (.ref a), some (.ref f), some (.int st), some (.int g), some (.ref l), some (.int e)] ∧ Same H H2 ∧ H2 l = some (.lst (p0.map V.int)) ∧ 0 ≤ e ∧ e < (fs.length : Int) ∧ Lead rs fs g.toNat e.toNat p1 xs1 ∧ m = p1.length ∧ p0 ++ p1 = p, ⟨p.length, st, [], p, xs, rfl, gl, upd_same, st0, st1, hp, rfl, rfl⟩, ?_⟩
  rintro m σ H2 ⟨e, p0, p1, xs1, rfl, g2, hl2, e0, e1, hp1, rfl, hpp⟩
  refine ⟨_, rfl, _, rfl, rfl, _, rfl, ?_⟩
  generalize hv : e.toNat = v at hp1
  cases hp1 with
  | nil =>
    have : e = g := by omega
    subst this
    refine if_f (by rw [decide_eq_true rfl]; rfl) ⟨_, rfl, q l H2 g2 hl ?_⟩
    rw [List.append_nil] at hpp
    rw [← hpp]
    exact hl2
  | @cons _ k r p2 xs2 hvg hk k0 hr ev hp2 =>
    refine if_t (by rw [decide_eq_false (fun z => hvg (by have := V.int.inj z; omega))]; rfl) ?_
    have hkl : k.toNat < rs.length := (List.getElem?_eq_some_iff.mp hr).1
    have hf2 := g2 _ _ hf
    have ha2 := g2 _ _ ha
    have ek : ge fs e.toNat = some k := by rw [hv]; exact hk
    have pl : p0.length ≤ 1000 := by
      have := congrArg List.length hpp
      rw [List.length_append] at this
      omega
    refine ⟨_, fun σ' H' z => ⟨p2.length, by show p2.length < p2.length + 1; omega, z⟩, ?_⟩
    refine ⟨_, rfl, .inl ⟨rfl, _, SqL.of hl2⟩, _, rfl, _, rfl, f, _, _, _, rfl, rfl, SqL.of hf2, atI_o e0 e1, l, _, _, rfl, rfl, hl2, ?_, ?_⟩
    · rw [List.length_map]
      exact Nat.lt_of_lt_of_le (show _ < 2000 by omega) (by decide)
    have g3 := g2.write hl (.lst (p0.map V.int ++ [oV (ge fs e.toNat)]))
    obtain ⟨pr, e3, e4⟩ := rule_ix (hrs.mono g3) k0 hr
    refine ⟨_, rfl, _, rfl, _, rfl, f, _, _, _, rfl, rfl, SqL.of (g3 _ _ hf), atI_o e0 e1, a, _, k, _, rfl, congrArg oV ek, SqL.of (g3 _ _ ha), e3, pr, _, _, _, rfl, rfl, SqT.of e4, rfl, ?_⟩
    have ir := hi r (List.mem_of_getElem? hr)
    refine ⟨r.1, p0 ++ [k], p2, xs2, rfl, g3, ?_, ir.1.1, ir.1.2, hp2, rfl, by rw [List.append_assoc]; exact hpp⟩
    rw [upd_same, ek, List.map_append]
    rfl
/-- the place of a work in the order -/
def sd (b : Bool) : Str := if b then "most" else "least"
def startI (W : Wd) (x : Int) (j : Nat) (b : Bool) : Int := if b then bg W x else (j : Int) + 1
theorem first_at {o : List Int} (nd : o.Nodup) {j : Nat} {x : Int} (h : o[j]? = some x) : ∀ m, m < j → o[m]? ≠ some x := fun m hm e => by
  have hj := (List.getElem?_eq_some_iff.mp h).1
  have e1 : o[j] = x := (List.getElem?_eq_some_iff.mp h).2
  have hm' : m < o.length := by omega
  have e2 : o[m] = x := (List.getElem?_eq_some_iff.mp e).2
  have := (List.pairwise_iff_getElem.mp nd) m j hm' hj hm
  exact this (by rw [e1, e2])
def sp_cs (flip : Bool) : Sp := fun vs H Q _ => ∃ (v t : V) (W : Wd) (o : List Int) (x : Int) (j : Nat) (b : Bool), vs = [v, t, .int x, .str (sd b)] ∧ Rep H v (encW W) ∧ Rep H t (encO o) ∧ o.Nodup ∧ o[j]? = some x ∧ Q (.int (startI W x j (b != flip))) H
theorem ok_chain_start (T : Txt K mg) : FnOk P w K mg base (CXr P w) 3 T.chain_start.a T.chain_start.d ["world", "order", "work", "side"] (sp_cs false) := by
  refine T.chain_start.F.okN sc_chain_start (fun vs H Q E h => ?_) (fun cdv A outer s H vs Q E hr h => ?_)
  · obtain ⟨v, t, W, o, x, j, b, rfl, _⟩ := h; rfl
  obtain ⟨v, t, W, o, x, j, b, rfl, hW, ho, nd, hj, q⟩ := h
  obtain ⟨po, rfl, hpo⟩ := seqO (K := K) ho
  refine ⟨_, (pss_cons (ps_if (pt_cmpR op_eq (pv 3) pe_str (nomark _)) (pss_one (ps_ret (pe_call (ok_begin_event T) (hr.mono (by decide)) rfl T.begin_event.m T.begin_event.F.kp T.begin_event.b .nil passN (pa_cons (pv 0) (pa_cons (pv 2) pa_nil))))) pss_nil) (pss_one (ps_ret (pe_op op_add (pe_bmT PySem.F.slot_tuple_index PySem.F.type_tuple_index mt_indexT (pv 1) (pa_cons (pv 2) pa_nil)) pe_int)))), ?_⟩
  refine ⟨_, rfl, rfl, _, rfl, ?_⟩
  cases b with
  | true => exact if_t (decide_eq_true rfl) ⟨_, rfl, _, rfl, v, W, x, rfl, hW, q⟩
  | false => exact if_f (decide_eq_false (by intro z; have := V.str.inj z; revert this; decide +kernel)) ⟨_, rfl, ⟨po, _, rfl, hpo⟩, _, rfl, po, o, x, j, rfl, rfl, hpo, hj, first_at nd hj, _, _, rfl, rfl, q⟩
theorem ok_chain_goal (T : Txt K mg) : FnOk P w K mg base (CXr P w) 3 T.chain_goal.a T.chain_goal.d ["world", "order", "work", "side"] (sp_cs true) := by
  refine T.chain_goal.F.okN sc_chain_goal (fun vs H Q E h => ?_) (fun cdv A outer s H vs Q E hr h => ?_)
  · obtain ⟨v, t, W, o, x, j, b, rfl, _⟩ := h; rfl
  obtain ⟨v, t, W, o, x, j, b, rfl, hW, ho, nd, hj, q⟩ := h
  obtain ⟨po, rfl, hpo⟩ := seqO (K := K) ho
  refine ⟨_, (pss_cons (ps_if (pt_cmpR op_eq (pv 3) pe_str (nomark _)) (pss_one (ps_ret (pe_op op_add (pe_bmT PySem.F.slot_tuple_index PySem.F.type_tuple_index mt_indexT (pv 1) (pa_cons (pv 2) pa_nil)) pe_int))) pss_nil) (pss_one (ps_ret (pe_call (ok_begin_event T) (hr.mono (by decide)) rfl T.begin_event.m T.begin_event.F.kp T.begin_event.b .nil passN (pa_cons (pv 0) (pa_cons (pv 2) pa_nil)))))), ?_⟩
  refine ⟨_, rfl, rfl, _, rfl, ?_⟩
  cases b with
  | true => exact if_t (decide_eq_true rfl) ⟨_, rfl, ⟨po, _, rfl, hpo⟩, _, rfl, po, o, x, j, rfl, rfl, hpo, hj, first_at nd hj, _, _, rfl, rfl, q⟩
  | false => exact if_f (decide_eq_false (by intro z; have := V.str.inj z; revert this; decide +kernel)) ⟨_, rfl, _, rfl, v, W, x, rfl, hW, q⟩
def sp_sc : Sp := fun vs H Q _ => ∃ (v t : V) (W : Wd) (o r : List Int) (x : Int) (j : Nat) (b : Bool), vs = [v, t, .int x, .str (sd b)] ∧ Rep H v (encW W) ∧ W.Ok ∧ Rep H t (encO o) ∧ VO W o ∧ early W o = some r ∧ o[j]? = some x ∧
  ∀ (L : Nat → Int) (p : List Int) (l : Addr) (H' : Hp), FeasF (rulesM W o) L → L (startI W x j (!b)).toNat = 0 → psum (rulesM W o) p = -(L (startI W x j b).toNat) → WalkOk (rulesM W o) (startI W x j (!b)).toNat (startI W x j b).toNat p → (∀ k ∈ p, 0 ≤ k ∧ k < ((rulesM W o).length : Int)) → p.length ≤ 1000 → Same H H' → H l = none → H' l = some (.lst (p.map V.int)) → Q (.ref l) H'
theorem startI_le {W : Wd} {o : List Int} (hok : W.Ok) (vo : VO W o) {x : Int} {j : Nat} (hj : o[j]? = some x) (b : Bool) : 0 ≤ startI W x j b ∧ startI W x j b < ((o.length + 1 : Nat) : Int) := by
  have hl := (List.getElem?_eq_some_iff.mp hj).1
  have a := vo.at_ j x hj
  have c := bg_le hok a.1 a.2
  unfold startI
  split <;> omega
theorem ok_shortest_chain (T : Txt K mg) : FnOk P w K mg base (CXr P w) 8 T.shortest_chain.a T.shortest_chain.d ["world", "order", "work", "side"] sp_sc := by
  refine T.shortest_chain.F.okN sc_shortest_chain (fun vs H Q E h => ?_) (fun cdv A outer s H vs Q E hr h => ?_)
  · obtain ⟨v, t, W, o, r, x, j, b, rfl, _⟩ := h; rfl
  obtain ⟨v, t, W, o, r, x, j, b, rfl, hW, hok, ho, vo, he, hj, q⟩ := h
  refine ⟨_, (pss_cons (ps_set (i := 4) sc_shortest_chain.nd rfl (by first | exact Or.inl rfl | exact Or.inr rfl) (pe_call (ok_rules T) (hr.mono (by decide)) rfl T.rules.m T.rules.F.kp T.rules.b .nil passN (pa_cons (pv 0) (pa_cons (pv 1) pa_nil)))) (pss_cons (ps_set (i := 5) sc_shortest_chain.nd rfl (by first | exact Or.inl rfl | exact Or.inr rfl) (pe_call (ok_chain_start T) (hr.mono (by decide)) rfl T.chain_start.m T.chain_start.F.kp T.chain_start.b .nil passN (pa_cons (pv 0) (pa_cons (pv 1) (pa_cons (pv 2) (pa_cons (pv 3) pa_nil)))))) (pss_cons (ps_set (i := 6) sc_shortest_chain.nd rfl (by first | exact Or.inl rfl | exact Or.inr rfl) (pe_call (ok_chain_goal T) (hr.mono (by decide)) rfl T.chain_goal.m T.chain_goal.F.kp T.chain_goal.b .nil passN (pa_cons (pv 0) (pa_cons (pv 1) (pa_cons (pv 2) (pa_cons (pv 3) pa_nil)))))) (pss_cons (ps_set (i := 7) sc_shortest_chain.nd rfl (by first | exact Or.inl rfl | exact Or.inr rfl) (pe_ix ix_tup (pe_call (ok_shortest_walks T) (hr.mono (by decide)) rfl T.shortest_walks.m T.shortest_walks.F.kp T.shortest_walks.b .nil passN (pa_cons (pv 4) (pa_cons (pe_op op_add (pe_callB call_len_seq rfl T.n_len bt_len (pa_cons (pv 1) pa_nil)) pe_int) (pa_cons (pv 6) pa_nil)))) pe_int (fun _ _ => rfl))) (pss_one (ps_ret (pe_call (ok_walk_by_firsts T) (hr.mono (by decide)) rfl T.walk_by_firsts.m T.walk_by_firsts.F.kp T.walk_by_firsts.b .nil passN (pa_cons (pv 4) (pa_cons (pv 7) (pa_cons (pv 5) (pa_cons (pv 6) pa_nil))))))))))), ?_⟩
  have l10 := hok.l10
  have vl := vo.len
  refine ⟨_, rfl, _, rfl, v, t, encW W, encO o, rfl, hW, ho, enc_short hok vo, fun z => ?_, fun W' hok' e => ⟨fun z => ?_, fun o' vo' e2 rr H1 ws g1 fr1 hr1 rs1 => ?_⟩⟩
  · rw [isW_enc hok] at z; cases z
  · obtain rfl := encW_inj e
    rw [ord_enc vo] at z; cases z
  obtain rfl := encW_inj e
  obtain rfl := encO_inj e2
  have hW1 := hW.mono g1
  have ho1 := ho.mono g1
  refine ⟨_, rfl, _, rfl, _, rfl, _, rfl, v, t, W, o, x, j, b, rfl, hW1, ho1, vo.nd, hj, ?_⟩
  refine ⟨_, rfl, _, rfl, _, rfl, _, rfl, v, t, W, o, x, j, b, rfl, hW1, ho1, vo.nd, hj, ?_⟩
  obtain ⟨po, rfl, hpo⟩ := seqO (K := K) ho1
  have ef : (b != false) = b := by cases b <;> rfl
  have et : (b != true) = !b := by cases b <;> rfl
  rw [ef, et]
  have s1 := startI_le hok vo hj b
  have s2 := startI_le hok vo hj (!b)
  obtain ⟨L, p, xs, hL, hz, hp, hlen, hs⟩ := chain_info hok vo he (st := (startI W x j b).toNat) (g := (startI W x j (!b)).toNat) (by omega) (by omega)
  refine ⟨_, rfl, _, rfl, po, _, rfl, .inr (SqT.of hpo), _, _, rfl, rfl, _, rfl, rr, ws, rulesM W o, o.length + 1, (startI W x j (!b)).toNat, ?_, hr1, rs1, inR hok vo, by omega, by omega, fun pp m f H2 g2 hpp hm hf => ?_⟩
  · rw [List.length_map, Int.toNat_of_nonneg s2.1]; rfl
  refine ⟨pp, _, _, _, rfl, rfl, SqT.of hpp, rfl, ?_⟩
  have rl := (rnd_len (rulesM W o) (initW (o.length + 1) (startI W x j (!b)).toNat) (o.length + 1)).2
  rw [(init_len _ _).2] at rl
  refine ⟨_, rfl, _, rfl, _, rfl, _, rfl, rr, f, _, _, ws, rulesM W o, _, p, xs, rfl, g2 _ _ hr1, rs1.mono g2, hf, by rw [rl]; exact inR hok vo, s1.1, by rw [rl]; exact s1.2, s2.1, hp, by omega, fun l H3 g3 fl hl => ?_⟩
  exact q L p l H3 hL hz hs hp.walk hp.le (by omega) (g1.trans (g2.trans g3)) ((g1.trans g2).free fl) hl
def sp_cwk (T : Txt K mg) : Sp := fun vs H Q _ => ∃ (v t : V) (W : Wd) (o r : List Int) (x : Int), vs = [v, t, .int x] ∧ Rep H v (encW W) ∧ W.Ok ∧ Rep H t (encO o) ∧ VO W o ∧ early W o = some r ∧ x ∈ o ∧ ∀ H', Same H H' → Q .non H'
theorem ok_check_work (T : Txt K mg) : FnOk P w K mg base (CXr P w) 10 T.check_work.a T.check_work.d ["world", "order", "work"] (sp_cwk T) := by
  refine T.check_work.F.okR sc_check_work (fun vs H Q E h => ?_) (fun cdv A outer s H vs Q E hr h => ?_)
  · obtain ⟨v, t, W, o, r, x, rfl, _⟩ := h; rfl
  obtain ⟨v, t, W, o, r, x, rfl, hW, hok, ho, vo, he, hx, q⟩ := h
  refine ⟨_, (pss_cons (ps_expr (pe_call (ok_check_order T) (hr.mono (by decide)) rfl T.check_order.m T.check_order.F.kp T.check_order.b .nil passR (pa_cons (pv 0) (pa_cons (pv 1) pa_nil)))) (pss_cons (ps_if (PW.pt (pw_or (pt_not (pt_val (pe_call (ok_is_whole_within T) (hr.mono (by decide)) rfl T.is_whole_within.m T.is_whole_within.F.kp T.is_whole_within.b .nil passN (pa_cons (pv 2) (pa_cons pe_int (pa_cons (pe_op op_sub (pe_call (ok_how_many_works T) (hr.mono (by decide)) rfl T.how_many_works.m T.how_many_works.F.kp T.how_many_works.b .nil passN (pa_cons (pv 0) pa_nil)) pe_int) pa_nil)))))) (pw_or1 (pt_cmpR op_notIn_seq (pv 2) (pv 1) (by with_unfolding_all rfl))))) (pss_one (ps_raise T.e_NoWork.m T.e_NoWork.q PySem.F.excBase_ValueError hr.hd pe_str rfl)) pss_nil) (pss_one (ps_expr (pe_call (ok_check_could T) (hr.mono (by decide)) rfl T.check_could.m T.check_could.F.kp T.check_could.b .nil passR (pa_cons (pv 0) (pa_cons (pv 1) pa_nil))))))), ?_⟩
  refine ⟨_, rfl, _, rfl, v, t, encW W, encO o, rfl, hW, ho, enc_short hok vo, fun z => ?_, fun W' hok' e => ⟨fun z => ?_, fun _ H1 g1 => ?_⟩⟩
  · rw [isW_enc hok] at z; cases z
  · obtain rfl := encW_inj e
    rw [ord_enc vo] at z; cases z
  have hW1 := hW.mono g1
  have xl := vo.lt hx
  refine ⟨_, rfl, _, rfl, v, W, rfl, hW1, _, _, rfl, rfl, .int x, .int x, 0, _, rfl, .int x, _, rfl, ?_⟩
  rw [wholeIn_of xl.1 (by omega)]
  obtain ⟨po, rfl, hpo⟩ := seqO (K := K) (ho.mono g1)
  refine iteF ⟨_, rfl, _, rfl, po, _, rfl, .inr (SqT.of hpo), rfl, flat_ints o, _, rfl, if_f ?_ ?_⟩
  · rw [inV_ints, decide_eq_true hx]; rfl
  refine ⟨_, rfl, _, rfl, v, .ref po, W, o, rfl, hW1, hok, ho.mono g1, vo, fun _ H2 g2 => q H2 (g1.trans g2), fun hn => ?_⟩
  rw [he] at hn
  cases hn
def sp_len (T : Txt K mg) : Sp := fun vs H Q _ => ∃ (v t : V) (W : Wd) (o r : List Int) (x : Int) (j : Nat), vs = [v, t, .int x] ∧ Rep H v (encW W) ∧ W.Ok ∧ Rep H t (encO o) ∧ VO W o ∧ early W o = some r ∧ o[j]? = some x ∧
  ∀ (least most : Int) (p : Addr) (H' : Hp), Len W o x j least most → Same H H' → H' p = some (.tup [.int least, .int most]) → Q (.ref p) H'
set_option maxHeartbeats 1000000 in
theorem ok_length (T : Txt K mg) : FnOk P w K mg base (CXr P w) 11 T.length.a T.length.d ["world", "order", "work"] (sp_len T) := by
  refine T.length.F.okR sc_length (fun vs H Q E h => ?_) (fun cdv A outer s H vs Q E hr h => ?_)
  · obtain ⟨v, t, W, o, r, x, j, rfl, _⟩ := h; rfl
  obtain ⟨v, t, W, o, r, x, j, rfl, hW, hok, ho, vo, he, hj, q⟩ := h
  refine ⟨_, (pss_cons (ps_expr (pe_call (ok_check_work T) (hr.mono (by decide)) rfl T.check_work.m T.check_work.F.kp T.check_work.b .nil passR (pa_cons (pv 0) (pa_cons (pv 1) (pa_cons (pv 2) pa_nil))))) (pss_cons (ps_set (i := 3) sc_length.nd rfl (by first | exact Or.inl rfl | exact Or.inr rfl) (pe_call (ok_rules T) (hr.mono (by decide)) rfl T.rules.m T.rules.F.kp T.rules.b .nil passN (pa_cons (pv 0) (pa_cons (pv 1) pa_nil)))) (pss_cons (ps_set (i := 4) sc_length.nd rfl (by first | exact Or.inl rfl | exact Or.inr rfl) (pe_un un_neg (pe_call (ok_walk_most T) (hr.mono (by decide)) rfl T.walk_most.m T.walk_most.F.kp T.walk_most.b .nil passN (pa_cons (pv 3) (pa_cons (pe_call (ok_shortest_chain T) (hr.mono (by decide)) rfl T.shortest_chain.m T.shortest_chain.F.kp T.shortest_chain.b .nil passN (pa_cons (pv 0) (pa_cons (pv 1) (pa_cons (pv 2) (pa_cons pe_str pa_nil))))) pa_nil))))) (pss_cons (ps_set (i := 5) sc_length.nd rfl (by first | exact Or.inl rfl | exact Or.inr rfl) (pe_call (ok_walk_most T) (hr.mono (by decide)) rfl T.walk_most.m T.walk_most.F.kp T.walk_most.b .nil passN (pa_cons (pv 3) (pa_cons (pe_call (ok_shortest_chain T) (hr.mono (by decide)) rfl T.shortest_chain.m T.shortest_chain.F.kp T.shortest_chain.b .nil passN (pa_cons (pv 0) (pa_cons (pv 1) (pa_cons (pv 2) (pa_cons pe_str pa_nil))))) pa_nil)))) (pss_one (ps_ret (pe_tup (pa_cons (pv 4) (pa_cons (pv 5) pa_nil))))))))), ?_⟩
  have l10 := hok.l10
  have vl := vo.len
  have hrl := rules_len hok vo
  refine ⟨_, rfl, _, rfl, _, rfl, v, t, W, o, r, x, rfl, hW, hok, ho, vo, he, List.mem_of_getElem? hj, fun H1 g1 => ?_⟩
  have hW1 := hW.mono g1
  have ho1 := ho.mono g1
  refine ⟨_, rfl, _, rfl, v, t, encW W, encO o, rfl, hW1, ho1, enc_short hok vo, fun z => ?_, fun W' hok' e => ⟨fun z => ?_, fun o' vo' e2 rr H2 ws g2 fr2 hr2 rs2 => ?_⟩⟩
  · rw [isW_enc hok] at z; cases z
  · obtain rfl := encW_inj e
    rw [ord_enc vo] at z; cases z
  obtain rfl := encW_inj e
  obtain rfl := encO_inj e2
  have rm := rule_most hok vo
  -- least
  refine ⟨_, rfl, _, rfl, _, rfl, _, rfl, v, t, W, o, r, x, j, false, rfl, hW1.mono g2, hok, ho1.mono g2, vo, he, hj, fun L1 p1 a1 H3 f1 z1 s1 w1 k1 n1 g3 fa1 ha1 => ?_⟩
  refine ⟨rr, a1, ws, rulesM W o, p1, rfl, g3 _ _ hr2, rs2.mono g3, ha1, k1, n1, rm, fun H4 g4 => ?_⟩
  refine ⟨_, rfl, ?_⟩
  have g24 := g3.trans g4
  -- most
  refine ⟨_, rfl, _, rfl, _, rfl, _, rfl, v, t, W, o, r, x, j, true, rfl, (hW1.mono g2).mono g24, hok, (ho1.mono g2).mono g24, vo, he, hj, fun L2 p2 a2 H5 f2 z2 s2 w2 k2 n2 g5 fa2 ha2 => ?_⟩
  refine ⟨rr, a2, ws, rulesM W o, p2, rfl, g5 _ _ (g24 _ _ hr2), (rs2.mono g24).mono g5, ha2, k2, n2, rm, fun H6 g6 => ?_⟩
  refine ⟨_, rfl, _, rfl, by show 2 ≤ sizeLine; decide, fun pp hpp => ?_⟩
  have gp := same_new hpp (.tup [.int (-psum (rulesM W o) p1), .int (psum (rulesM W o) p2)])
  have tj : ((j : Int) + 1).toNat = j + 1 := by omega
  have z1' : L1 (bg W x).toNat = 0 := z1
  have s1' : psum (rulesM W o) p1 = -(L1 ((j : Int) + 1).toNat) := s1
  have w1' : WalkOk (rulesM W o) (bg W x).toNat ((j : Int) + 1).toNat p1 := w1
  have z2' : L2 ((j : Int) + 1).toNat = 0 := z2
  have s2' : psum (rulesM W o) p2 = -(L2 (bg W x).toNat) := s2
  have w2' : WalkOk (rulesM W o) ((j : Int) + 1).toNat (bg W x).toNat p2 := w2
  rw [tj] at s1' w1' z2' w2'
  exact q _ _ pp _ ⟨⟨L2, f2, by omega⟩, ⟨p2, w2', rfl⟩, ⟨L1, f1, by omega⟩, ⟨p1, w1', by omega⟩⟩ (g1.trans (g2.trans (g24.trans (g5.trans (g6.trans gp))))) upd_same
end
end Be
set_option Elab.async false
set_option linter.all false
/-! Short ones first: of all rows it waits the least. Plain lists. -/
namespace Be
/-! ### what all wait, by how many come behind each on its bench -/
/-! ### weights by thresholds -/
/-! ### rising lengths: the benches are free in turn -/
end Be
set_option Elab.async false
set_option linter.all false
/-! An order that is played is an order, and it can have been: by the moments of its ends. -/
namespace Be
section
variable {W : Wd} {ls : List Int} {ps : List (Int × Int)}
end
end Be
/-! all by all: how far, at the most, by each event between -/
set_option Elab.async false
set_option linter.all false
namespace Be
end Be
set_option Elab.async false
set_option linter.all false
/-! Lengths by which an order is what ends first, ties in any order; and moments that hold. -/
namespace Be
structure InBd (W : Wd) (ls : List Int) : Prop where
  len : ls.length = W.bs.length
  bd : ∀ k, k < ls.length → (bnd W (k : Int)).1 ≤ ls.getD k 0 ∧ ls.getD k 0 ≤ (bnd W (k : Int)).2
theorem perm_of {l1 l2 : List Int} (n1 : l1.Nodup) (n2 : l2.Nodup) (h : ∀ x, x ∈ l1 ↔ x ∈ l2) : l1.Perm l2 := (List.perm_ext_iff_of_nodup n1 n2).mpr h
/-! the other way: moments that hold are the ends by some lengths -/
/-- lengths by moments: what lies between, of a work that ended, else the greatest -/
def lenF (W : Wd) (o : List Int) (f : Nat → Int) (x : Int) : Int := if x ∈ o then f (o.idxOf x + 1) - f (bg W x).toNat else (bnd W x).2
def lsF (W : Wd) (o : List Int) (f : Nat → Int) : List Int := (upto W.bs.length).map (lenF W o f)
section
variable {W : Wd} {o : List Int} {f : Nat → Int}
theorem lsF_len : (lsF W o f).length = W.bs.length := by unfold lsF; rw [List.length_map, upto_len]
theorem lsF_at {x : Nat} (h : x < W.bs.length) : (lsF W o f).getD x 0 = lenF W o f (x : Int) := by
  unfold lsF upto
  rw [List.map_map, List.getD_eq_getElem?_getD, List.getElem?_map, List.getElem?_range h]; rfl
theorem idx_of {l : List Int} (nd : l.Nodup) {j : Nat} {x : Int} (h : l[j]? = some x) : l.idxOf x = j := by
  have hj := (List.getElem?_eq_some_iff.mp h).1
  have e := (List.getElem?_eq_some_iff.mp h).2
  rw [← e]
  exact nd.idxOf_getElem j hj
theorem lenF_in (vo : VO W o) {j : Nat} {x : Int} (h : o[j]? = some x) : lenF W o f x = f (j + 1) - f (bg W x).toNat := by
  unfold lenF
  rw [if_pos (List.mem_of_getElem? h), idx_of vo.nd h]
theorem lsF_bd (hok : W.Ok) (vo : VO W o) (hf : FeasF (rulesM W o) f) : InBd W (lsF W o f) := by
  refine ⟨lsF_len, fun k hk => ?_⟩
  rw [lsF_len] at hk
  rw [lsF_at hk]
  have bo := bnd_ok hok (x := (k : Int)) (by omega) (by omega)
  by_cases c : (k : Int) ∈ o
  · obtain ⟨j, hj, e⟩ := List.getElem_of_mem c
    have hx : o[j]? = some (k : Int) := by rw [List.getElem?_eq_getElem hj, e]
    rw [lenF_in vo hx]
    have eo : o.getD j 0 = (k : Int) := by rw [List.getD_eq_getElem?_getD, hx]; rfl
    have a := hf ((j : Int) + 1, bg W (k : Int), (bnd W (k : Int)).2) (mem_rule3 hj (by rw [eo]; unfold rule3; simp))
    have b := hf (bg W (k : Int), (j : Int) + 1, -(bnd W (k : Int)).1) (mem_rule3 hj (by rw [eo]; unfold rule3; simp))
    dsimp only at a b
    rw [show ((j : Int) + 1).toNat = j + 1 by omega] at a b
    omega
  · unfold lenF
    rw [if_neg c]
    omega
theorem fup (hf : FeasF (rulesM W o) f) {i j : Nat} (h : i ≤ j) (hj : j ≤ o.length) : f i ≤ f j := rises2 hf j h hj
end
end Be
set_option Elab.async false
set_option linter.all false
/-! All lengths within bounds; which of them let an order come first. -/
namespace Be
def extL (p : Int × Int) (r : List Int) : List (List Int) := (List.range (p.2 + 1 - p.1).toNat).map fun (k : Nat) => r ++ [p.1 + (k : Int)]
def stepL (rows : List (List Int)) (p : Int × Int) : List (List Int) := rows.flatMap (extL p)
def allL (bs : List (Int × Int)) : List (List Int) := bs.foldl stepL [[]]
theorem allL_snoc (bs : List (Int × Int)) (p : Int × Int) : allL (bs ++ [p]) = stepL (allL bs) p := by
  unfold allL; rw [List.foldl_append]; rfl
theorem mem_extL {p : Int × Int} {r l : List Int} : l ∈ extL p r ↔ ∃ x, p.1 ≤ x ∧ x ≤ p.2 ∧ l = r ++ [x] := by
  unfold extL
  rw [List.mem_map]
  constructor
  · rintro ⟨k, hk, rfl⟩
    have := List.mem_range.mp hk
    exact ⟨_, by omega, by omega, rfl⟩
  · rintro ⟨x, h1, h2, rfl⟩
    exact ⟨(x - p.1).toNat, List.mem_range.mpr (by omega), by congr 2; omega⟩
theorem mem_fold : ∀ {bs : List (Int × Int)} {rows : List (List Int)} {l : List Int}, l ∈ bs.foldl stepL rows ↔ ∃ r ∈ rows, ∃ t : List Int, l = r ++ t ∧ t.length = bs.length ∧ ∀ (k : Nat) (p : Int × Int) (x : Int), bs[k]? = some p → t[k]? = some x → p.1 ≤ x ∧ x ≤ p.2
  | [], rows, l => by
    constructor
    · intro h
      exact ⟨l, h, [], (List.append_nil l).symm, rfl, fun k p x h => by simp at h⟩
    · rintro ⟨r, hr, t, rfl, ht, _⟩
      have : t = [] := List.length_eq_zero_iff.mp ht
      rw [this, List.append_nil]; exact hr
  | p :: bs, rows, l => by
    show l ∈ bs.foldl stepL (stepL rows p) ↔ _
    rw [mem_fold (bs := bs)]
    constructor
    · rintro ⟨r, hr, t, rfl, ht, hb⟩
      obtain ⟨r0, hr0, hx⟩ := List.mem_flatMap.mp hr
      obtain ⟨x, h1, h2, rfl⟩ := mem_extL.mp hx
      refine ⟨r0, hr0, x :: t, by rw [List.append_assoc]; rfl, by rw [List.length_cons, List.length_cons, ht], fun k q y hq hy => ?_⟩
      cases k with
      | zero => cases hq; cases hy; exact ⟨h1, h2⟩
      | succ k => exact hb k q y hq hy
    · rintro ⟨r, hr, t, rfl, ht, hb⟩
      cases t with
      | nil => simp at ht
      | cons x t =>
        have b0 := hb 0 p x rfl rfl
        refine ⟨r ++ [x], List.mem_flatMap.mpr ⟨r, hr, mem_extL.mpr ⟨x, b0.1, b0.2, rfl⟩⟩, t, by rw [List.append_assoc]; rfl, by simpa using ht, fun k q y hq hy => hb (k + 1) q y hq hy⟩
theorem mem_allL {bs : List (Int × Int)} {l : List Int} : l ∈ allL bs ↔ l.length = bs.length ∧ ∀ (k : Nat) (p : Int × Int) (x : Int), bs[k]? = some p → l[k]? = some x → p.1 ≤ x ∧ x ≤ p.2 := by
  unfold allL
  rw [mem_fold]
  constructor
  · rintro ⟨r, hr, t, rfl, ht, hb⟩
    have : r = [] := by simpa using hr
    subst this
    exact ⟨ht, hb⟩
  · rintro ⟨h1, h2⟩
    exact ⟨[], by simp, l, rfl, h1, h2⟩
theorem mem_allL' {W : Wd} {l : List Int} : l ∈ allL W.bs ↔ InBd W l := by
  rw [mem_allL]
  constructor
  · rintro ⟨h1, h2⟩
    refine ⟨h1, fun k hk => ?_⟩
    have hk' : k < W.bs.length := by omega
    have := h2 k _ _ (List.getElem?_eq_getElem hk') (List.getElem?_eq_getElem hk)
    unfold bnd
    rw [Int.toNat_natCast, List.getD_eq_getElem?_getD, List.getElem?_eq_getElem hk', List.getD_eq_getElem?_getD, List.getElem?_eq_getElem hk]
    exact this
  · rintro ⟨h1, h2⟩
    refine ⟨h1, fun k p x hp hx => ?_⟩
    have := h2 k (List.getElem?_eq_some_iff.mp hx).1
    unfold bnd at this
    rw [Int.toNat_natCast, List.getD_eq_getElem?_getD, hp, List.getD_eq_getElem?_getD, hx] at this
    exact this
theorem extA_len {p : Int × Int} (h : p.2 ≤ p.1 + 2) (r : List Int) : (extL p r).length ≤ 3 := by
  unfold extL
  rw [List.length_map, List.length_range]
  omega
theorem stepL_len {p : Int × Int} (h : p.2 ≤ p.1 + 2) : ∀ rows : List (List Int), (stepL rows p).length ≤ 3 * rows.length
  | [] => Nat.zero_le _
  | r :: rows => by
    have a := stepL_len h rows
    have b := extA_len h r
    show (extL p r ++ stepL rows p).length ≤ _
    rw [List.length_append, List.length_cons]
    omega
theorem fold_len : ∀ {bs : List (Int × Int)} {rows : List (List Int)}, (∀ p ∈ bs, p.2 ≤ p.1 + 2) → (bs.foldl stepL rows).length ≤ 3 ^ bs.length * rows.length
  | [], rows, _ => by simp
  | p :: bs, rows, h => by
    have a := fold_len (bs := bs) (rows := stepL rows p) fun q hq => h q (by simp [hq])
    have b := stepL_len (h p (by simp)) rows
    have c := Nat.mul_le_mul_left (3 ^ bs.length) b
    show (bs.foldl stepL (stepL rows p)).length ≤ 3 ^ (bs.length + 1) * rows.length
    rw [Nat.pow_succ]
    have e : 3 ^ bs.length * 3 * rows.length = 3 ^ bs.length * (3 * rows.length) := Nat.mul_assoc _ _ _
    omega
theorem row_len {bs : List (Int × Int)} {l : List Int} (h : l ∈ allL bs) : l.length = bs.length := (mem_allL.mp h).1
/-! which of them let an order come first -/
/-! the bounds, by all lengths that fit -/
section
variable {W : Wd} {o r : List Int}
theorem moved {f : Nat → Int} (hf : FeasF (rulesM W o) f) (c : Int) : FeasF (rulesM W o) fun v => f v - c := fun q hq => by
  have := hf q hq
  show f q.1.toNat - c - (f q.2.1.toNat - c) ≤ q.2.2
  omega
end
end Be
set_option Elab.async false
set_option linter.all false
/-! lengths by which an order is told: its moments, event by event -/
namespace Be
section
variable {W : Wd} {o : List Int}
def rowK (W : Wd) (o ls : List Int) : Nat → List Int
  | 0 => List.replicate (o.length + 1) 0
  | e + 1 => (rowK W o ls e).set (e + 1) ((rowK W o ls e).getD (bg W (o.getD e 0)).toNat 0 + ls.getD (o.getD e 0).toNat 0)
theorem rowK_len (ls : List Int) : ∀ k, (rowK W o ls k).length = o.length + 1
  | 0 => List.length_replicate
  | k + 1 => by show ((rowK W o ls k).set _ _).length = _; rw [List.length_set, rowK_len ls k]
theorem rowK_keep (ls : List Int) {v k : Nat} (h : v ≤ k) : ∀ d, (rowK W o ls (k + d)).getD v 0 = (rowK W o ls k).getD v 0
  | 0 => rfl
  | d + 1 => by
    show ((rowK W o ls (k + d)).set (k + d + 1) _).getD v 0 = _
    rw [List.getD_eq_getElem?_getD, List.getElem?_set_ne (by omega), ← List.getD_eq_getElem?_getD, rowK_keep ls h d]
def fT (W : Wd) (o ls : List Int) (v : Nat) : Int := (rowK W o ls o.length).getD v 0
theorem fT_at (ls : List Int) {v k : Nat} (h : v ≤ k) (hk : k ≤ o.length) : (rowK W o ls k).getD v 0 = fT W o ls v := by
  have := rowK_keep (W := W) (o := o) ls h (o.length - k)
  rw [show k + (o.length - k) = o.length by omega] at this
  exact this.symm
theorem fT_zero (ls : List Int) : fT W o ls 0 = 0 := by
  rw [← fT_at ls (Nat.le_refl 0) (Nat.zero_le _)]
  show (List.replicate (o.length + 1) (0 : Int)).getD 0 0 = 0
  rfl
theorem rowK_new (ls : List Int) {e : Nat} (he : e < o.length) : (rowK W o ls (e + 1)).getD (e + 1) 0 = (rowK W o ls e).getD (bg W (o.getD e 0)).toNat 0 + ls.getD (o.getD e 0).toNat 0 := by
  show ((rowK W o ls e).set (e + 1) _).getD (e + 1) 0 = _
  rw [List.getD_eq_getElem?_getD, List.getElem?_set_self (by rw [rowK_len]; omega)]; rfl
theorem fT_succ (hok : W.Ok) (vo : VO W o) (ls : List Int) {e : Nat} {x : Int} (hx : o[e]? = some x) : fT W o ls (e + 1) = fT W o ls (bg W x).toNat + ls.getD x.toNat 0 := by
  have he := (List.getElem?_eq_some_iff.mp hx).1
  have eo : o.getD e 0 = x := by rw [List.getD_eq_getElem?_getD, hx]; rfl
  have a := vo.at_ e x hx
  have b := bg_le hok a.1 a.2
  rw [← fT_at ls (Nat.le_refl (e + 1)) he, rowK_new ls he, eo, fT_at ls (by omega) (by omega)]
def toldB (W : Wd) (o ls : List Int) : Bool := (List.range o.length).all (fun e => decide (fT W o ls e ≤ fT W o ls (e + 1))) && (runM W o).all fun x => decide (fT W o ls o.length ≤ fT W o ls (bg W x).toNat + ls.getD x.toNat 0)
theorem told_iff {ls : List Int} : toldB W o ls = true ↔ (∀ e < o.length, fT W o ls e ≤ fT W o ls (e + 1)) ∧ ∀ x ∈ runM W o, fT W o ls o.length ≤ fT W o ls (bg W x).toNat + ls.getD x.toNat 0 := by
  unfold toldB
  rw [Bool.and_eq_true, List.all_eq_true, List.all_eq_true]
  constructor
  · rintro ⟨a, b⟩
    exact ⟨fun e he => of_decide_eq_true (a e (List.mem_range.mpr he)), fun x hx => of_decide_eq_true (b x hx)⟩
  · rintro ⟨a, b⟩
    exact ⟨fun e he => decide_eq_true (a e (List.mem_range.mp he)), fun x hx => decide_eq_true (b x hx)⟩
theorem told_feas (hok : W.Ok) (vo : VO W o) {ls : List Int} (hb : InBd W ls) (h : toldB W o ls = true) : FeasF (rulesM W o) (fT W o ls) := fun q hq => by
  obtain ⟨up, rn⟩ := told_iff.mp h
  rcases List.mem_append.mp hq with hq | hq
  · obtain ⟨j, hj, hq⟩ := mem_pre hq
    have hx : o[j]? = some (o.getD j 0) := by rw [List.getD_eq_getElem?_getD, List.getElem?_eq_getElem hj]; rfl
    have xl := vo.lt (List.mem_of_getElem? hx)
    have fs := fT_succ hok vo ls hx
    have bd := hb.2 (o.getD j 0).toNat (by rw [hb.1]; omega)
    rw [show (((o.getD j 0).toNat : Nat) : Int) = o.getD j 0 by omega] at bd
    have u := up j hj
    unfold rule3 at hq
    simp only [List.mem_cons, List.not_mem_nil, or_false] at hq
    rcases hq with rfl | rfl | rfl <;> dsimp only <;> rw [show ((j : Int) + 1).toNat = j + 1 by omega] <;> (try rw [Int.toNat_natCast]) <;> omega
  · obtain ⟨x, hx, rfl⟩ := List.mem_map.mp hq
    obtain ⟨xb, xn⟩ := mem_run.mp hx
    have r := rn x hx
    have bl := began_le W o.length
    have bd := hb.2 x.toNat (by rw [hb.1]; omega)
    rw [show ((x.toNat : Nat) : Int) = x by omega] at bd
    unfold ruleR
    dsimp only
    rw [Int.toNat_natCast]
    omega
theorem fT_F (hok : W.Ok) (vo : VO W o) {f : Nat → Int} (h0 : f 0 = 0) : ∀ n v, v ≤ n → v ≤ o.length → fT W o (lsF W o f) v = f v
  | n, 0, _, _ => by rw [fT_zero, h0]
  | 0, v + 1, h, _ => by omega
  | n + 1, v + 1, h, hv => by
    have hx : o[v]? = some o[v] := List.getElem?_eq_getElem (by omega)
    have a := vo.at_ v _ hx
    have xl := vo.lt (List.mem_of_getElem? hx)
    have b := bg_le hok a.1 a.2
    rw [fT_succ hok vo _ hx, fT_F hok vo h0 n _ (by omega) (by omega), lsF_at (by omega), show ((o[v].toNat : Nat) : Int) = o[v] by omega, lenF_in vo hx]
    omega
theorem feas_told (hok : W.Ok) (vo : VO W o) {f : Nat → Int} (hf : FeasF (rulesM W o) f) (h0 : f 0 = 0) : toldB W o (lsF W o f) = true := by
  have e := fun v (hv : v ≤ o.length) => fT_F hok vo h0 o.length v hv hv
  refine told_iff.mpr ⟨fun j hj => ?_, fun x hx => ?_⟩
  · rw [e j (by omega), e (j + 1) hj]
    exact fup hf (by omega) hj
  · obtain ⟨xb, xn⟩ := mem_run.mp hx
    have bl := began_le W o.length
    have b := bg_le hok xb.1 xb.2
    rw [e _ (Nat.le_refl _), e _ (by omega), lsF_at (by omega), show ((x.toNat : Nat) : Int) = x by omega]
    unfold lenF
    rw [if_neg xn]
    have := hf (ruleR W o.length x) (List.mem_append_right _ (List.mem_map.mpr ⟨x, hx, rfl⟩))
    unfold ruleR at this
    dsimp only at this
    rw [Int.toNat_natCast] at this
    omega
def goodL (W : Wd) (o : List Int) : List (List Int) := (allL W.bs).filter (toldB W o)
theorem good_mem {ls : List Int} : ls ∈ goodL W o ↔ InBd W ls ∧ toldB W o ls = true := by
  unfold goodL
  rw [List.mem_filter, mem_allL']
theorem good_of (hok : W.Ok) (vo : VO W o) {f : Nat → Int} (hf : FeasF (rulesM W o) f) : lsF W o (fun v => f v - f 0) ∈ goodL W o := by
  have hm := moved hf (f 0)
  exact good_mem.mpr ⟨lsF_bd hok vo hm, feas_told hok vo hm (by show f 0 - f 0 = 0; omega)⟩
theorem good_could (hok : W.Ok) (vo : VO W o) : (early W o).isSome = decide (goodL W o ≠ []) := by
  cases h : early W o with
  | some r =>
    have hE := early_some hok vo h
    have := good_of hok vo hE.fe
    have hn : goodL W o ≠ [] := fun z => by rw [z] at this; cases this
    rw [decide_eq_true hn]; rfl
  | none =>
    rw [decide_eq_false]; rfl
    intro hne
    obtain ⟨ls, hl⟩ := List.exists_mem_of_ne_nil _ hne
    obtain ⟨hb, ht⟩ := good_mem.mp hl
    have hf := told_feas hok vo hb ht
    obtain ⟨r, hr⟩ := early_none hok vo hf fun v hv => by
      have := fup hf (i := 0) (j := v) (Nat.zero_le _) (by omega)
      rw [fT_zero] at this
      exact this
    rw [hr] at h; cases h
theorem feas_min {rs : List Ru} {f g : Nat → Int} (hf : FeasF rs f) (hg : FeasF rs g) : FeasF rs fun v => min (f v) (g v) := fun q hq => by
  have a := hf q hq
  have b := hg q hq
  dsimp only
  omega
theorem good_len (hok : W.Ok) (vo : VO W o) {x : Int} {j : Nat} (hj : o[j]? = some x) {l m : Int} (L : Len W o x j l m) (k : Int) : k ∈ (goodL W o).map (fun ls => ls.getD x.toNat 0) ↔ l ≤ k ∧ k ≤ m := by
  have xl := vo.lt (List.mem_of_getElem? hj)
  constructor
  · intro hk
    obtain ⟨ls, hl, rfl⟩ := List.mem_map.mp hk
    obtain ⟨hb, ht⟩ := good_mem.mp hl
    have hf := told_feas hok vo hb ht
    have fs := fT_succ hok vo ls hj
    obtain ⟨p1, w1, s1⟩ := L.m2
    obtain ⟨p2, w2, s2⟩ := L.l2
    have a := w1.bound hf
    have b := w2.bound hf
    omega
  · rintro ⟨h1, h2⟩
    obtain ⟨f, hf, ef⟩ := L.l1
    obtain ⟨g, hg, eg⟩ := L.m1
    have hz := feas_min (moved hf (f (bg W x).toNat - (k - l))) (moved hg (g (bg W x).toNat))
    refine List.mem_map.mpr ⟨_, good_of hok vo hz, ?_⟩
    rw [lsF_at (by omega), show ((x.toNat : Nat) : Int) = x by omega, lenF_in vo hj]
    omega
end
end Be
set_option Elab.async false
set_option linter.all false
set_option maxRecDepth 100000
namespace Be
open PySem L2
section
variable {P : Program} {w : World} {K : PySem.W.Frag} {mg : Str → Option Value} {base : Heap}
theorem ok_law_running (T : Txt K mg) : FnOk P w K mg base (CXr P w) 1 T.law_running.a T.law_running.d ["_law_world_here", "_law_order_here"] (sp_running K) := by
  refine T.law_running.F.okN sc_law_running (fun vs H Q E h => ?_) (fun cdv A outer s H vs Q E hr h => ?_)
  · obtain ⟨v, p, W, o, rfl, _⟩ := h; rfl
  obtain ⟨v, p, W, o, rfl, hW, hok, ho, hlen, q⟩ := h
  obtain ⟨a, p1, vs1, AW⟩ := atW hW
  obtain rfl := AW.v
  refine ⟨_, (pss_one (ps_ret (pe_comp (NB := ["_law_work", "_law_order_here"]) (js := [none, some 1]) rfl (blkOk_of rfl (by decide +kernel) rfl (by decide +kernel) (by decide +kernel) (by with_unfolding_all rfl) (by with_unfolding_all rfl) (by with_unfolding_all rfl) (by with_unfolding_all rfl)) (pi_range1 rfl T.n_range (pa_cons (pe_callB (call_min2 rfl) rfl T.n_min bt_min (pa_cons (pe_callB call_len_seq rfl T.n_len bt_len (pa_cons (pe_ix ix_tup (pv 0) pe_int (fun _ _ => rfl)) pa_nil)) (pa_cons (pe_op op_add (pe_callB call_len_seq rfl T.n_len bt_len (pa_cons (pv 1) pa_nil)) (pe_ix ix_tup (pv 0) pe_int (fun _ _ => rfl))) pa_nil))) pa_nil)) (fun _ _ _ _ => (pg_name (i := 0) (show (["_law_work", "_law_order_here"] : List Str).Nodup by decide +kernel) rfl (by first | exact Or.inl rfl | exact Or.inr rfl))) (fun _ _ _ _ => (pf_one (pt_cmpR (b_op_notIn_seq K) (pv 0) (pv 1) (by with_unfolding_all rfl)))) (fun _ _ _ _ => (pv 0))))), ?_⟩
  have e1 : (o.map V.int).length = o.length := List.length_map _
  have l10 := hok.l10
  have b1 := hok.b1
  have b4 := hok.b4
  refine ⟨_, rfl, a, _, _, _, rfl, rfl, SqT.of AW.a, rfl, p1, _, rfl, .inr (SqT.of AW.p), _, rfl, p, _, rfl, ho, _, rfl, a, _, _, _, rfl, rfl, SqT.of AW.a, rfl, _, _, rfl, rfl, _, _, rfl, ?_⟩
  have ej : (if ((o.map V.int).length : Int) + W.b < (vs1.length : Int) then ((o.map V.int).length : Int) + W.b else (vs1.length : Int)).toNat = began W o.length := by
    unfold began
    rw [e1, AW.len]
    split <;> omega
  refine ⟨_, rfl, by split <;> omega, by split <;> omega, fun D hD => ?_⟩
  rw [ej]
  refine comp_range (fun i ys H2 => Same H H2 ∧ H2 D = some (.lst ys) ∧ ys = ((upto i).filter fun x => decide (x ∉ o)).map V.int) ⟨same_new hD _, upd_same, rfl⟩ (fun i ys H2 hi hP => ?_) (fun ys H2 hP => ?_)
  · obtain ⟨g, hD2, rfl⟩ := hP
    refine ⟨agree0, _, rfl, _, rfl, p, _, rfl, SqTL.same g ho, rfl, flat_ints o, _, rfl, ?_⟩
    by_cases hm : (0 + (i : Int)) ∈ o
    · refine if_f (show (!inV (.int (0 + (i : Int))) (o.map V.int)) = false by rw [inV_ints, decide_eq_true hm]; rfl) ⟨g, hD2, ?_⟩
      rw [run_pre, if_pos (by simpa using hm), List.append_nil]
    · refine if_t (show (!inV (.int (0 + (i : Int))) (o.map V.int)) = true by rw [inV_ints, decide_eq_false hm]; rfl) ?_
      have ez : (((upto (i + 1)).filter fun x => decide (x ∉ o)).map V.int) = ((upto i).filter fun x => decide (x ∉ o)).map V.int ++ [V.int (0 + (i : Int))] := by
        rw [run_pre, if_neg (by simpa using hm), List.map_append]; simp
      refine ⟨_, rfl, hD2, ?_, ?_, ?_, ?_⟩
      · rw [List.length_map]
        have := List.length_filter_le (fun x => decide (x ∉ o)) (upto i)
        rw [upto_len] at this
        have := began_le W o.length
        exact Nat.lt_of_lt_of_le (show _ < 100 by omega) (by decide)
      · exact g.write hD _
      · exact upd_same
      · exact ez.symm
  · obtain ⟨g, hD2, rfl⟩ := hP
    exact q D H2 g hD hD2
def sp_order (K : PySem.W.Frag) : Sp := fun vs H Q _ => ∃ (a t : Addr) (v : V) (ns : List Int) (n : Nat) (W : Wd), vs = [.ref a, .ref t, v] ∧ Scr K H a ns ∧ H t = some (.lst (zeros n)) ∧ n < 4000 ∧ Rep H v (encW W) ∧ W.Ok ∧
  ∀ (o : List Int) (ov : V) (n' : Nat) (H' : Hp), VO W o → Rep H' ov (encO o) → SameX t H H' → H' t = some (.lst (zeros n')) → n' ≤ n + 11 → Q ov H'
theorem ok_law_order (T : Txt K mg) : FnOk P w K mg base (CXr P w) 5 T.law_order.a T.law_order.d ["_law_script", "_law_town", "_law_world_here"] (sp_order K) := by
  refine T.law_order.F.okN sc_law_order (fun vs H Q E h => ?_) (fun cdv A outer s H vs Q E hr h => ?_)
  · obtain ⟨a, t, v, ns, n, W, rfl, _⟩ := h; rfl
  obtain ⟨a, t, v, ns, n, W, rfl, hS, ht, hn, hW, hok, q⟩ := h
  refine ⟨_, (pss_cons (ps_set (i := 3) sc_law_order.nd rfl (by first | exact Or.inl rfl | exact Or.inr rfl) (pe_tup pa_nil)) (pss_cons (ps_for PassesOwn.never rfl (pi_range1 rfl T.n_range (pa_cons (pe_call (ok_law_draw T) (hr.mono (by decide)) rfl T.law_draw.m T.law_draw.F.kp T.law_draw.b .nil passN (pa_cons (pv 0) (pa_cons (pv 1) (pa_cons (pe_op op_add (pe_callB call_len_seq rfl T.n_len bt_len (pa_cons (pe_ix ix_tup (pv 2) pe_int (fun _ _ => rfl)) pa_nil)) pe_int) pa_nil)))) pa_nil)) (pg_name (i := 4) sc_law_order.nd rfl (by first | exact Or.inl rfl | exact Or.inr rfl)) (pss_one (ps_set (i := 3) sc_law_order.nd rfl (by first | exact Or.inl rfl | exact Or.inr rfl) (pe_op op_catA (pv 3) (pe_tup (pa_cons (pe_call (ok_law_pick T) (hr.mono (by decide)) rfl T.law_pick.m T.law_pick.F.kp T.law_pick.b .nil passN (pa_cons (pv 0) (pa_cons (pv 1) (pa_cons (pe_call (ok_law_running T) (hr.mono (by decide)) rfl T.law_running.m T.law_running.F.kp T.law_running.b .nil passN (pa_cons (pv 2) (pa_cons (pv 3) pa_nil))) pa_nil)))) pa_nil)))))) (pss_one (ps_ret (pv 3))))), ?_⟩
  have l10 := hok.l10
  -- order = ()
  refine ⟨Nat.zero_le _, fun p0 hp0 => ?_⟩
  have g0 := same_new hp0 (.tup [])
  have hW0 := hW.mono g0
  obtain ⟨c, p1, vs1, AW⟩ := atW hW0
  obtain rfl := AW.v
  refine ⟨_, rfl, _, rfl, _, rfl, c, _, _, _, rfl, rfl, SqT.of AW.a, rfl, p1, _, rfl, .inr (SqT.of AW.p), _, _, rfl, rfl, a, t, ns, n, _, rfl, hS.same g0, g0 _ _ ht, by omega, by omega, fun r H1 r0 r1 g1 t1 => ?_⟩
  rw [AW.len] at r1
  have g01 : SameX t H H1 := (g0.x t).trans g1
  refine ⟨r, rfl, by omega, by omega, for_range (n := r.toNat) (fun i σ H2 => ∃ (n2 : Nat) (o : List Int) (ov : V) (x : Option V), σ = [some (.ref a), some (.ref t), some (.ref c), some ov, x] ∧ SameX t H H2 ∧ H2 t = some (.lst (zeros n2)) ∧ n2 ≤ n + 1 + i ∧ Rep H2 ov (encO o) ∧ VO W o ∧ o.length = i) ?_ ?_ ?_⟩
  · exact ⟨n + 1, [], .ref p0, none, rfl, g01, t1, by omega, .tup (g1 _ _ (fun z => by rw [z, ht] at hp0; cases hp0) upd_same) .nil, VO.nil W, rfl⟩
  · rintro i σ H2 hi ⟨n2, o, ov, x, rfl, g2, t2, hn2, ho, vo, hlen⟩
    have hS2 := g2.scr ht hS
    have hW2 : Rep H2 (.ref c) (encW W) := hW.tmono (g2.ts ht) (im_W W)
    obtain ⟨po, rfl, hpo⟩ := seqO (K := K) ho
    have hol := vo.len
    refine ⟨_, rfl, _, rfl, _, rfl, _, rfl, _, rfl, .ref c, po, W, o, rfl, hW2, hok, .inr (SqT.of hpo), by omega, fun r2 H3 g3 fr3 hr2 => ?_⟩
    have hr2t : r2 ≠ t := fun z => by rw [z, t2] at fr3; cases fr3
    have hne : (runM W o).map V.int ≠ [] := fun z => run_ne hok (by omega) (List.map_eq_nil_iff.mp z)
    refine ⟨a, t, r2, ns, n2, _, rfl, hS2.same g3, g3 _ _ t2, by omega, hr2, hr2t, hne, fun y H4 hy g4 t4 => ?_⟩
    obtain ⟨z, hz, rfl⟩ := List.mem_map.mp hy
    have g24 : SameX t H2 H4 := (g3.x t).trans g4
    refine ⟨by show 1 ≤ sizeLine; decide, fun p5 hp5 => ?_⟩
    have ts4 : TSame H2 (upd H4 p5 (.tup [.int z])) := (g24.ts t2).trans (TSame.new hp5 _)
    refine ⟨po, p5, _, _, rfl, rfl, ts4 _ _ hpo, upd_same, ?_, fun p6 H6 g6 h6 => ?_⟩
    · rw [List.length_map]
      exact Nat.le_trans (show o.length + 1 ≤ 100 by omega) (by decide)
    refine ⟨n2 + 1, o ++ [z], .ref p6, _, rfl, ?_, ?_, by omega, ?_, vo.snoc hz, by simp [hlen]⟩
    · exact ((g2.trans g24).new hp5 _).trans (g6.x t)
    · exact g6 _ _ (same_new hp5 _ _ _ t4)
    · refine .tup h6 ?_
      rw [List.map_append]
      exact (Reps.ints (ns := o)).append (Reps.ints (ns := [z]))
  · rintro σ H2 ⟨n2, o, ov, x, rfl, g2, t2, hn2, ho, vo, hlen⟩
    have hl : o.length = r.toNat := hlen
    exact ⟨_, rfl, q o ov n2 H2 vo ho g2 t2 (by omega)⟩
theorem at_fn {xs : List Int} {i : Int} (h0 : 0 ≤ i) (h1 : i < (xs.length : Int)) : atI (xs.map V.int) i = some (.int (xs.getD i.toNat 0)) := by
  have hx : i.toNat < xs.length := by omega
  refine atI_int h0 ?_
  rw [List.getElem?_map, List.getElem?_eq_getElem hx, List.getD_eq_getElem?_getD, List.getElem?_eq_getElem hx]; rfl
theorem int_at4 {ls : List Int} {i : Nat} {x : V} (h : (ls.map V.int)[i]? = some x) : ∃ y : Int, ls[i]? = some y ∧ x = .int y := by
  rw [List.getElem?_map] at h
  cases e : ls[i]? with
  | none => rw [e] at h; cases h
  | some y => rw [e] at h; exact ⟨y, rfl, (Option.some.inj h).symm⟩
def sp_told : Sp := fun vs H Q _ => ∃ (v ov : V) (t : Addr) (W : Wd) (o ls : List Int), vs = [v, ov, .ref t] ∧ Rep H v (encW W) ∧ W.Ok ∧ Rep H ov (encO o) ∧ VO W o ∧ H t = some (.tup (ls.map V.int)) ∧ ls.length = W.bs.length ∧ ∀ H', Same H H' → Q (.bl (toldB W o ls)) H'
set_option maxHeartbeats 1000000 in
theorem ok_law_told (T : Txt K mg) : FnOk P w K mg base (CXr P w) 2 T.law_told.a T.law_told.d ["_law_world_here", "_law_order_here", "_law_longs"] sp_told := by
  refine T.law_told.F.okN sc_law_told (fun vs H Q E h => ?_) (fun cdv A outer s H vs Q E hr h => ?_)
  · obtain ⟨v, ov, t, W, o, ls, rfl, _⟩ := h; rfl
  obtain ⟨v, ov, t, W, o, ls, rfl, hW, hok, ho, vo, ht, hl, q⟩ := h
  refine ⟨_, (pss_cons (ps_set (i := 3) sc_law_told.nd rfl (by first | exact Or.inl rfl | exact Or.inr rfl) (pe_op op_rep (pe_lst (pa_cons pe_int pa_nil)) (pe_op op_add (pe_callB call_len_seq rfl T.n_len bt_len (pa_cons (pv 1) pa_nil)) pe_int))) (pss_cons (ps_for PassesOwn.never rfl (pi_enumT rfl T.n_enumerate (pa_cons (pv 1) pa_nil)) (pg_tup rfl (pgs_cons (pg_name (i := 4) sc_law_told.nd rfl (by first | exact Or.inl rfl | exact Or.inr rfl)) (pgs_cons (pg_name (i := 5) sc_law_told.nd rfl (by first | exact Or.inl rfl | exact Or.inr rfl)) pgs_nil))) (pss_cons (ps_asg (pe_op op_add (pe_ix ix_list (pv 3) (pe_call (ok_law_begin T) (hr.mono (by decide)) rfl T.law_begin.m T.law_begin.F.kp T.law_begin.b .nil passN (pa_cons (pv 0) (pa_cons (pv 5) pa_nil))) (fun _ _ => rfl)) (pe_ix ix_tup (pv 2) (pv 5) (fun _ _ => rfl))) (pg_sub (pv 3) (pe_op op_add (pv 4) pe_int) set_list)) (pss_one (ps_if (pt_cmpR op_lt (pe_ix ix_list (pv 3) (pe_op op_add (pv 4) pe_int) (fun _ _ => rfl)) (pe_ix ix_list (pv 3) (pv 4) (fun _ _ => rfl)) (nomark _)) (pss_one (ps_ret pe_bl)) pss_nil)))) (pss_cons (ps_for PassesOwn.never rfl (pi_list (pe_call (ok_law_running T) (hr.mono (by decide)) rfl T.law_running.m T.law_running.F.kp T.law_running.b .nil passN (pa_cons (pv 0) (pa_cons (pv 1) pa_nil)))) (pg_name (i := 5) sc_law_told.nd rfl (by first | exact Or.inl rfl | exact Or.inr rfl)) (pss_one (ps_if (pt_cmpR op_lt (pe_op op_add (pe_ix ix_list (pv 3) (pe_call (ok_law_begin T) (hr.mono (by decide)) rfl T.law_begin.m T.law_begin.F.kp T.law_begin.b .nil passN (pa_cons (pv 0) (pa_cons (pv 5) pa_nil))) (fun _ _ => rfl)) (pe_ix ix_tup (pv 2) (pv 5) (fun _ _ => rfl))) (pe_ix ix_list (pv 3) (pe_callB call_len_seq rfl T.n_len bt_len (pa_cons (pv 1) pa_nil)) (fun _ _ => rfl)) (nomark _)) (pss_one (ps_ret pe_bl)) pss_nil))) (pss_one (ps_ret pe_bl))))), ?_⟩
  obtain ⟨po, rfl, hpo⟩ := seqO (K := K) ho
  have l10 := hok.l10
  have vl := vo.len
  refine ⟨by show 1 ≤ sizeLine; decide, fun z hz => ?_⟩
  have kz := same_new hz (.lst [.int 0])
  have ez : upd H z (.lst [.int 0]) z = some (.lst [.int 0]) := upd_same
  generalize upd H z (.lst [.int 0]) = H1 at *
  refine ⟨_, rfl, po, _, rfl, .inr (SqT.of (kz _ _ hpo)), _, _, rfl, rfl, ?_⟩
  refine ⟨z, _, _, rfl, rfl, ez, by omega, by rw [List.length_map]; omega, ?_, fun D hD => ?_⟩
  · rw [List.length_map]
    exact Nat.le_trans (show 1 * ((o.length : Int) + 1).toNat ≤ 100 by omega) (by decide)
  have e0 : (((o.map V.int).length : Int) + 1).toNat = o.length + 1 := by rw [List.length_map]; omega
  have er : (List.replicate (((o.map V.int).length : Int) + 1).toNat [V.int 0]).flatten = (rowK W o ls 0).map V.int := by rw [e0, rep_zero]; rfl
  rw [er]
  have fD : H D = none := kz.free hD
  have kD := same_new hD (.lst ((rowK W o ls 0).map V.int))
  have eD : upd H1 D (.lst ((rowK W o ls 0).map V.int)) D = some (.lst ((rowK W o ls 0).map V.int)) := upd_same
  generalize upd H1 D (.lst ((rowK W o ls 0).map V.int)) = H2 at *
  have g2 := kz.trans kD
  have rlen := rowK_len (W := W) (o := o) ls
  refine ⟨_, rfl, po, _, rfl, SqT.of (g2 _ _ hpo), for_enumT (K := K) (a := po) (xs := o.map V.int) (fun j σ H3 => ∃ (x4 x5 : Option V), σ = [some v, some (.ref po), some (.ref t), some (.ref D), x4, x5] ∧ Same H H3 ∧ H3 D = some (.lst ((rowK W o ls j).map V.int)) ∧ ∀ e < j, fT W o ls e ≤ fT W o ls (e + 1)) ?_ ?_ ?_ ?_⟩
  · exact ⟨none, none, rfl, g2, eD, fun e he => by omega⟩
  · rintro j σ H3 _ ⟨x4, x5, rfl, g3, _⟩
    exact SqT.of (g3 _ _ hpo)
  · rintro j u p σ H3 hu hp ⟨x4, x5, rfl, g3, hD3, up⟩
    obtain ⟨x, hx, rfl⟩ := int_at4 hu
    have hj : j < o.length := (List.getElem?_eq_some_iff.mp hx).1
    have eo : o.getD j 0 = x := by rw [List.getD_eq_getElem?_getD, hx]; rfl
    have xa := vo.at_ j x hx
    have xl := vo.lt (List.mem_of_getElem? hx)
    have xb := bg_le hok xa.1 xa.2
    have gp := same_new hp (.tup [.int j, .int x])
    have hpt : upd H3 p (.tup [.int j, .int x]) p = some (.tup [.int j, .int x]) := upd_same
    have g4 := g3.trans gp
    have hD4 := gp _ _ hD3
    generalize upd H3 p (.tup [.int j, .int x]) = H4 at *
    refine ⟨p, _, rfl, SqT.of hpt, rfl, _, _, rfl, _, _, rfl, rfl, ?_⟩
    have r1 := rlen j
    have es : (rowK W o ls (j + 1)) = (rowK W o ls j).set (j + 1) ((rowK W o ls j).getD (bg W x).toNat 0 + ls.getD x.toNat 0) := by
      show (rowK W o ls j).set (j + 1) ((rowK W o ls j).getD (bg W (o.getD j 0)).toNat 0 + ls.getD (o.getD j 0).toNat 0) = _
      rw [eo]
    refine ⟨_, rfl, _, rfl, _, rfl, v, W, x, rfl, hW.mono g4, D, _, _, _, rfl, rfl, SqL.of hD4, at_fn xb.1 (by omega), _, rfl, _, rfl, t, _, _, _, rfl, rfl, SqT.of (g4 _ _ ht), at_fn xl.1 (by omega), _, _, rfl, rfl, ?_⟩
    refine ⟨_, rfl, _, rfl, _, _, rfl, rfl, D, _, _, _, rfl, rfl, hD4, ixN_of (by omega) (by rw [List.length_map]; omega), ?_⟩
    have g5 := g4.write fD (.lst (((rowK W o ls j).map V.int).set ((j : Int) + 1).toNat (.int ((rowK W o ls j).getD (bg W x).toNat 0 + ls.getD x.toNat 0))))
    have hD5 : upd H4 D (.lst (((rowK W o ls j).map V.int).set ((j : Int) + 1).toNat (.int ((rowK W o ls j).getD (bg W x).toNat 0 + ls.getD x.toNat 0)))) D = some (.lst ((rowK W o ls (j + 1)).map V.int)) := by
      rw [upd_same, es, List.map_set, show ((j : Int) + 1).toNat = j + 1 by omega]
    generalize upd H4 D (.lst (((rowK W o ls j).map V.int).set ((j : Int) + 1).toNat (.int ((rowK W o ls j).getD (bg W x).toNat 0 + ls.getD x.toNat 0)))) = H5 at *
    have r2 := rlen (j + 1)
    have n1 : (rowK W o ls (j + 1)).getD ((j : Int) + 1).toNat 0 = fT W o ls (j + 1) := by rw [show ((j : Int) + 1).toNat = j + 1 by omega]; exact fT_at ls (Nat.le_refl _) hj
    have n2 : (rowK W o ls (j + 1)).getD ((j : Int)).toNat 0 = fT W o ls j := by rw [Int.toNat_natCast]; exact fT_at ls (by omega) hj
    refine ⟨_, rfl, _, rfl, _, _, rfl, rfl, D, _, _, _, rfl, rfl, SqL.of hD5, at_fn (by omega) (by omega), _, rfl, _, rfl, D, _, _, _, rfl, rfl, SqL.of hD5, at_fn (by omega) (by omega), _, _, rfl, rfl, _, rfl, ?_⟩
    rw [n1, n2]
    by_cases c : fT W o ls (j + 1) < fT W o ls j
    · refine if_t (decide_eq_true c) ?_
      have hf : toldB W o ls = false := by
        cases hb : toldB W o ls with
        | false => rfl
        | true => have := (told_iff.mp hb).1 j hj; omega
      have := q H5 g5
      rw [hf] at this
      exact this
    · refine if_f (decide_eq_false c) ⟨_, _, rfl, g5, hD5, fun e he => ?_⟩
      by_cases c2 : e = j
      · subst c2; omega
      · exact up e (by omega)
  · rintro σ H3 ⟨x4, x5, rfl, g3, hD3, up⟩
    rw [List.length_map] at hD3 up
    refine ⟨_, rfl, _, rfl, v, po, W, o, rfl, hW.mono g3, hok, .inr (SqT.of (g3 _ _ hpo)), by omega, fun r H4 g4 fr hr4 => ?_⟩
    have g34 := g3.trans g4
    have hD4 := g4 _ _ hD3
    have rD : r ≠ D := fun z => by rw [z, hD3] at fr; cases fr
    have r1 := rlen o.length
    refine ⟨r, rfl, ⟨_, SqL.of hr4⟩, for_list (K := K) (a := r) (xs := (runM W o).map V.int) (fun j σ H5 => ∃ (y5 : Option V), σ = [some v, some (.ref po), some (.ref t), some (.ref D), x4, y5] ∧ Same H4 H5 ∧ ∀ x ∈ (runM W o).take j, fT W o ls o.length ≤ fT W o ls (bg W x).toNat + ls.getD x.toNat 0) ?_ ?_ ?_ ?_⟩
    · exact ⟨x5, rfl, Same.refl _, fun x hx => by cases hx⟩
    · rintro j σ H5 _ ⟨y5, rfl, g5, _⟩
      exact SqL.of (g5 _ _ hr4)
    · rintro j u σ H5 hu ⟨y5, rfl, g5, rn⟩
      obtain ⟨x, hx, rfl⟩ := int_at4 hu
      have hm := List.mem_of_getElem? hx
      obtain ⟨xb, xn⟩ := mem_run.mp hm
      have bl := began_le W o.length
      have b := bg_le hok xb.1 xb.2
      have g45 := g34.trans g5
      have hD5 := g5 _ _ hD4
      have n1 : (rowK W o ls o.length).getD (bg W x).toNat 0 = fT W o ls (bg W x).toNat := rfl
      have n2 : (rowK W o ls o.length).getD ((o.length : Nat) : Int).toNat 0 = fT W o ls o.length := by rw [Int.toNat_natCast]; rfl
      refine ⟨_, rfl, _, rfl, _, rfl, v, W, x, rfl, hW.mono g45, D, _, _, _, rfl, rfl, SqL.of hD5, at_fn b.1 (by omega), _, rfl, _, rfl, t, _, _, _, rfl, rfl, SqT.of (g45 _ _ ht), at_fn xb.1 (by omega), _, _, rfl, rfl, ?_⟩
      refine ⟨_, rfl, _, rfl, po, _, rfl, .inr (SqT.of (g45 _ _ hpo)), D, _, _, _, rfl, rfl, SqL.of hD5, at_fn (by omega) (by rw [List.length_map]; omega), _, _, rfl, rfl, _, rfl, ?_⟩
      rw [List.length_map, n2, n1]
      by_cases c : fT W o ls (bg W x).toNat + ls.getD x.toNat 0 < fT W o ls o.length
      · refine if_t (decide_eq_true c) ?_
        have hf : toldB W o ls = false := by
          cases hb : toldB W o ls with
          | false => rfl
          | true => have := (told_iff.mp hb).2 x hm; omega
        have := q H5 g45
        rw [hf] at this
        exact this
      · refine if_f (decide_eq_false c) ⟨_, rfl, g5, fun y hy => ?_⟩
        rw [List.take_add_one, hx] at hy
        rcases List.mem_append.mp hy with hy | hy
        · exact rn y hy
        · have : y = x := by simpa using hy
          subst this
          omega
    · rintro σ H5 ⟨y5, rfl, g5, rn⟩
      rw [List.length_map, List.take_length] at rn
      have := q H5 (g34.trans g5)
      rw [told_iff.mpr ⟨up, rn⟩] at this
      exact this
end
end Be
set_option Elab.async false
set_option linter.all false
/-! One bench; a bench for each work. All orders, one by one. -/
namespace Be
/-! one bench -/
section
variable {bs : List (Int × Int)}
end
/-! a bench for each work -/
section
variable {bs : List (Int × Int)} {o : List Int}
end
end Be
set_option Elab.async false
set_option linter.all false
/-! What is still broken behind all rounds leads onto a ring. -/
namespace Be
section
variable {rs : List Ru} {s0 : SW} {n : Nat}
end
/-! onto the ring -/
end Be
set_option Elab.async false
set_option linter.all false
/-! Walks along rules, as lists of places. -/
namespace Be
end Be
set_option Elab.async false
set_option linter.all false
/-! Chains: what a walk from a work's begin to its end, or back, may come to. -/
namespace Be
/-- a length of a work that is over, by moments that keep the rules -/
theorem feas_len {W : Wd} {o : List Int} {f : Nat → Int} (hok : W.Ok) (vo : VO W o) (hf : FeasF (rulesM W o) f) {x : Int} {j : Nat} (hj : o[j]? = some x) : 1 ≤ f (j + 1) - f (bg W x).toNat ∧ f (j + 1) - f (bg W x).toNat ≤ 99 := by
  have jl := (List.getElem?_eq_some_iff.mp hj).1
  have ed : o.getD j 0 = x := by rw [List.getD_eq_getElem?_getD, hj]; rfl
  have xl := vo.getD jl
  rw [ed] at xl
  have bl := began_le W j
  have b := bnd_ok hok xl.1 (by omega)
  have a1 := hf ((j : Int) + 1, bg W x, (bnd W x).2) (mem_rule3 jl (by rw [ed]; unfold rule3; simp))
  have a2 := hf (bg W x, (j : Int) + 1, 0 - (bnd W x).1) (mem_rule3 jl (by rw [ed]; unfold rule3; simp))
  dsimp only at a1 a2
  rw [show ((j : Int) + 1).toNat = j + 1 by omega] at a1 a2
  omega
end Be
set_option Elab.async false
set_option linter.all false
set_option maxRecDepth 100000
/-! What the sort's tree of questions comes to, where the answers are by a number for each place: a rearrangement, rising. -/
namespace BE
open PySem PySem.W PyProof.Rows
section
variable (key : Nat → Int)
variable {key}
end
end BE
set_option Elab.async false
set_option linter.all false
set_option maxRecDepth 100000
/-! sorted of a list of pairs of ints. -/
namespace BE
open PySem PySem.W PySem.Spec PyProof.Rows
section
variable {prog : Program} {w : World} {A : Around} {E : Value → Shared → Prop} {s : Shared}
end
end BE
namespace L2
open PySem PySem.SeqAt PySem.Spec PyProof.Rows
section
variable {X : Cx}
end
end L2
set_option Elab.async false
set_option linter.all false
set_option maxRecDepth 100000
/-! what has a size of its own, walked into a list -/
namespace BE
open PySem PySem.Spec PyProof.Rows
section
variable {prog : Program} {w : World} {A : Around} {E : Value → Shared → Prop} {s : Shared}
end
end BE
set_option Elab.async false
set_option linter.all false
set_option maxRecDepth 100000
/-! a dict of ints and texts, walked; its values in a list -/
namespace BE
open PySem PySem.Spec PyProof.Rows
section
variable {prog : Program} {w : World} {A : Around} {E : Value → Shared → Prop} {s : Shared} {κ : Type} [DecidableEq κ] {knd : KeyKind prog w κ}
end
end BE
namespace L2
open PySem PySem.Spec PyProof.Rows
section
variable {X : Cx} {tg : Expr}
end
end L2
set_option Elab.async false
set_option linter.all false
set_option maxRecDepth 100000
namespace BE
open PySem PySem.Spec PyProof.Rows
section
variable {prog : Program} {w : World} {A : Around} {E : Value → Shared → Prop} {s : Shared}
end
end BE
set_option Elab.async false
set_option linter.all false
set_option maxRecDepth 100000
/-! sorted of int tuples of one length; of a dict with such keys -/
namespace BE
open PySem PySem.W PySem.Spec PyProof.Rows
section
variable {prog : Program} {w : World} {A : Around} {E : Value → Shared → Prop} {s : Shared}
end
end BE
namespace L2
open PySem PySem.SeqAt PySem.Spec PyProof.Rows
section
variable {X : Cx}
end
end L2
set_option Elab.async false
set_option linter.all false
set_option maxRecDepth 100000
/-! tables of small sets: eight slots, at most four taken, by brute force -/
namespace BE
open PySem
def lOf (m : Nat) : List Nat := (List.range 8).filter fun j => m.testBit j
def Tb (l : Bool) (m : Nat) : SetTable := ⟨7, (lOf m).toArray, #[], 0, l, 0, true⟩
/-- the slot a newcomer takes -/
def fr (m : Nat) : Nat → Nat → Nat → Option Nat
  | 0, _, _ => none
  | f + 1, i, pt => if m.testBit i then fr m f ((i * 5 + 1 + pt / 32) % 8) (pt / 32) else some i
theorem fr_free {m : Nat} : ∀ {f i pt j : Nat}, i < 8 → fr m f i pt = some j → j < 8 ∧ m.testBit j = false
  | 0, i, pt, j, _, h => by cases h
  | f + 1, i, pt, j, hi, h => by
    unfold fr at h
    split at h
    · exact fr_free (Nat.mod_lt _ (by decide)) h
    · rename_i c
      cases h
      exact ⟨hi, by simpa using c⟩
def okSlot (l : Bool) (m j : Nat) : Bool := decide ((Tb l m).slot j = if m.testBit j then .live (SetTable.below (lOf m).toArray j) else .empty)
theorem slots : ((List.range 256).all fun m => (List.range 8).all fun j => okSlot true m j && okSlot false m j) = true := by decide +kernel
theorem slot_at {l : Bool} {m j : Nat} (hm : m < 256) (hj : j < 8) : (Tb l m).slot j = if m.testBit j then .live (SetTable.below (lOf m).toArray j) else .empty := by
  have a := List.all_eq_true.mp (List.all_eq_true.mp slots m (List.mem_range.mpr hm)) j (List.mem_range.mpr hj)
  rw [Bool.and_eq_true] at a
  cases l
  · exact of_decide_eq_true a.2
  · exact of_decide_eq_true a.1
theorem go_fr {l : Bool} {m : Nat} {ha : Nat → Int} {h : Int} (hm : m < 256) (hne : ∀ i, (ha i == h) = false) : ∀ (f i pt : Nat), i < 8 → SetTable.probe.go (Tb l m) ha h f ⟨i, 0, i, pt, none⟩ = (fr m f i pt).map fun j => .empty j none
  | 0, i, pt, _ => rfl
  | f + 1, i, pt, hi => by
    unfold SetTable.probe.go fr
    show (match (Tb l m).slot i with | .empty => _ | .dummy => _ | .live k => _) = _
    rw [slot_at hm hi]
    by_cases c : m.testBit i = true
    · rw [if_pos c, if_pos c]
      simp only [hne, Bool.false_eq_true, if_false]
      have e : (Tb l m).advance ⟨i, 0, i, pt, none⟩ = ⟨(i * 5 + 1 + pt / 32) % 8, 0, (i * 5 + 1 + pt / 32) % 8, pt / 32, none⟩ := by
        show (⟨(i * 5 + 1 + pt / 32) % 8, SetTable.runEnd 7 ((i * 5 + 1 + pt / 32) % 8) - (i * 5 + 1 + pt / 32) % 8, _, _, _⟩ : SetTable.Probe) = _
        unfold SetTable.runEnd
        rw [if_neg (by omega), Nat.sub_self]
        rfl
      rw [e]
      exact go_fr hm hne f _ _ (Nat.mod_lt _ (by decide))
    · rw [if_neg c, if_neg c]
      rfl
def okPut (m j : Nat) : Bool := let q := SetTable.below (lOf m).toArray j
  decide (q ≤ (lOf m).length) && (((lOf m).take q ++ j :: (lOf m).drop q) == lOf (m + 2 ^ j)) && decide (m + 2 ^ j < 256) && ((lOf (m + 2 ^ j)).length == (lOf m).length + 1)
def stand (m : Nat) : Nat → Nat
  | 0 => 0
  | i + 1 => (lOf m).getD i 0 + 1
def okGo (m i : Nat) : Bool := SetTable.below (lOf m).toArray (stand m i) == i
theorem news : ((List.range 256).all fun m => decide (4 ≤ (lOf m).length) || (List.range 1000).all fun h => (fr m 220 (h % 8) h).isSome) = true := by decide +kernel
theorem puts : ((List.range 256).all fun m => decide (4 ≤ (lOf m).length) || (List.range 8).all fun j => m.testBit j || okPut m j) = true := by decide +kernel
theorem goes : ((List.range 256).all fun m => (List.range ((lOf m).length + 1)).all fun i => okGo m i) = true := by decide +kernel
end BE
set_option Elab.async false
set_option linter.all false
set_option maxRecDepth 100000
namespace BE
open PySem
theorem tb_new {l : Bool} {m h : Nat} (hm : m < 256) (hs : (lOf m).length < 4) (hh : h < 1000) : ∃ j, (Tb l m).freeSlot (h : Int) = some (j, false) ∧ j < 8 ∧ m.testBit j = false := by
  have a := List.all_eq_true.mp news m (List.mem_range.mpr hm)
  rw [decide_eq_false (by omega), Bool.false_or] at a
  obtain ⟨j, e⟩ := Option.isSome_iff_exists.mp (List.all_eq_true.mp a h (List.mem_range.mpr hh))
  have b : SetTable.bits (h : Int) = h := by unfold SetTable.bits; omega
  have st : (Tb l m).probeStart (h : Int) = ⟨h % 8, 0, h % 8, h, none⟩ := by
    unfold SetTable.probeStart
    rw [b]
    show (⟨h % 8, SetTable.runEnd 7 (h % 8) - h % 8, h % 8, h, none⟩ : SetTable.Probe) = _
    unfold SetTable.runEnd
    rw [if_neg (by omega), Nat.sub_self]
  have pr : (Tb l m).probe (fun _ => (h : Int) + 1) (h : Int) ((Tb l m).probeStart (h : Int)) = some (.empty j none) := by
    rw [st]
    show SetTable.probe.go (Tb l m) (fun _ => (h : Int) + 1) (h : Int) 220 ⟨h % 8, 0, h % 8, h, none⟩ = _
    rw [go_fr hm (fun _ => by simp; omega), e]
    rfl
    exact Nat.mod_lt _ (by decide)
  refine ⟨j, ?_, fr_free (Nat.mod_lt _ (by decide)) e⟩
  unfold SetTable.freeSlot
  rw [pr]
  rfl
theorem tb_put {m j : Nat} (hm : m < 256) (hs : (lOf m).length < 4) (hj : j < 8) (hb : m.testBit j = false) : okPut m j = true := by
  have a := List.all_eq_true.mp puts m (List.mem_range.mpr hm)
  rw [decide_eq_false (by omega), Bool.false_or] at a
  have b := List.all_eq_true.mp a j (List.mem_range.mpr hj)
  rw [hb, Bool.false_or] at b
  exact b
theorem tb_go {m i : Nat} (hm : m < 256) (hi : i ≤ (lOf m).length) : SetTable.below (lOf m).toArray (stand m i) = i := by
  have a := List.all_eq_true.mp goes m (List.mem_range.mpr hm)
  exact beq_iff_eq.mp (List.all_eq_true.mp a i (List.mem_range.mpr (by omega)))
theorem ins_size {α : Type} (xs : Array α) (p : Nat) (x : α) (h : p ≤ xs.size) : (SetTable.insertAt xs p x).size = xs.size + 1 := by
  rw [← Array.length_toList, SetTable.toList_insertAt, List.length_append, List.length_cons, List.length_take, List.length_drop, Array.length_toList]
  omega
theorem lay_new {l : Bool} {m h : Nat} {es : Array (Int × Value)} {x : Value} (hm : m < 256) (hs : (lOf m).length < 4) (hh : h < 1000) (he : es.size = (lOf m).length) :
    ∃ (q m' : Nat), layNew (Tb l m) es (h : Int) x = (SetTable.insertAt es q ((h : Int), x), Tb l m', false, false) ∧ m' < 256 ∧ (lOf m').length = (lOf m).length + 1 ∧ q ≤ es.size := by
  obtain ⟨j, e, hj, hb⟩ := tb_new (l := l) hm hs hh
  have p := tb_put hm hs hj hb
  unfold okPut at p
  simp only [Bool.and_eq_true] at p
  obtain ⟨⟨⟨p1, p2⟩, p3⟩, p4⟩ := p
  have p1 := of_decide_eq_true p1
  have p2 := beq_iff_eq.mp p2
  have p3 := of_decide_eq_true p3
  have p4 := beq_iff_eq.mp p4
  have pl : SetTable.insertAt (lOf m).toArray (SetTable.below (lOf m).toArray j) j = (lOf (m + 2 ^ j)).toArray := by
    apply Array.toList_inj.mp
    rw [SetTable.toList_insertAt]
    exact p2
  have pu : (Tb l m).put j = (Tb l (m + 2 ^ j), SetTable.below (lOf m).toArray j) := by
    show ((⟨7, SetTable.insertAt (lOf m).toArray (SetTable.below (lOf m).toArray j) j, if SetTable.has #[] j then SetTable.eraseAt #[] (SetTable.below #[] j) else #[], 0, l, 0, true⟩ : SetTable), _) = _
    rw [pl, if_neg (by simp [SetTable.has])]
    rfl
  refine ⟨SetTable.below (lOf m).toArray j, _, ?_, p3, p4, ?_⟩
  · unfold layNew
    rw [e]
    simp only [pu]
    have z := ins_size es (SetTable.below (lOf m).toArray j) ((h : Int), x) (by rw [he]; exact p1)
    have f : (Tb l (m + 2 ^ j)).fits (SetTable.insertAt es (SetTable.below (lOf m).toArray j) ((h : Int), x)).size = true := by
      rw [z]
      show (((lOf (m + 2 ^ j)).toArray.size == es.size + 1) && decide ((lOf (m + 2 ^ j)).toArray.size + 0 ≤ 7)) = true
      rw [List.size_toArray, p4, he, beq_self_eq_true, Bool.true_and]
      exact decide_eq_true (by omega)
    unfold SetTable.orStandIn
    rw [if_pos f, f]
    rfl
  · rw [he]; exact p1
theorem tb_fits {l : Bool} {m n : Nat} (h : (lOf m).length = n) (h4 : n ≤ 4) : (Tb l m).fits n = true := by
  show (((lOf m).toArray.size == n) && decide ((lOf m).toArray.size + 0 ≤ 7)) = true
  rw [List.size_toArray, h, beq_self_eq_true, Bool.true_and]
  exact decide_eq_true (by omega)
theorem tb_full {l : Bool} {m : Nat} (h4 : (lOf m).length ≤ 4) : (Tb l m).tooFull = false := by
  show decide (((lOf m).toArray.size + 0) * 5 ≥ 7 * 3) = false
  rw [List.size_toArray]
  exact decide_eq_false (by omega)
theorem out_perm {α : Type} {l : List α} {i : Nat} (h : i < l.length) : ([l[i]] ++ l.eraseIdx i).Perm l := by
  rw [List.eraseIdx_eq_take_drop_succ]
  have e : l = l.take i ++ l[i] :: l.drop (i + 1) := by rw [List.getElem_cons_drop, List.take_append_drop]
  exact (List.perm_middle (a := l[i]) (l₁ := l.take i) (l₂ := l.drop (i + 1))).symm.trans (by rw [← e])
theorem pick_perm {α : Type} (next : Nat → Nat) : ∀ (f k : Nat) (left : List α) (out : Array α), f = left.length → (pickOrder.go next f k left out).toList.Perm (out.toList ++ left)
  | 0, k, left, out, h => by
    have : left = [] := List.length_eq_zero_iff.mp h.symm
    subst this
    show out.toList.Perm (out.toList ++ [])
    rw [List.append_nil]
  | f + 1, k, left, out, h => by
    have hl : next k % left.length < left.length := Nat.mod_lt _ (by omega)
    unfold pickOrder.go
    rw [List.getElem?_eq_getElem hl]
    refine (pick_perm next f (k + 1) _ _ (by rw [List.length_eraseIdx, if_pos hl]; omega)).trans ?_
    rw [Array.toList_push, List.append_assoc]
    refine List.Perm.append_left _ ?_
    exact out_perm hl
theorem pick_all {α : Type} (next : Nat → Nat) (es : Array α) : (pickOrder next es).toList.Perm es.toList := by
  have := pick_perm next es.size 0 es.toList #[] (by rw [Array.length_toList])
  show (pickOrder.go next es.size 0 es.toList #[]).toList.Perm es.toList
  simpa using this
end BE
set_option Elab.async false
set_option linter.all false
set_option maxRecDepth 100000
/-! a set of few small ints: what is put into it -/
namespace BE
open PySem PySem.Spec PyProof.Rows
def keyOf : Value → Int
  | .int k _ => k
  | _ => 0
def Small (es : List (Int × Value)) : Prop := ∀ e ∈ es, ∃ k t, e = (hashInt k, Value.int k t) ∧ 0 ≤ k ∧ k < 1000
def byText (w : World) : Bool := w.params.followText "set-order"
structure SetAt (w : World) (h : Heap) (a : Addr) (es : Array (Int × Value)) (ep m : Nat) (ks : List Int) : Prop where
  ob : ∃ o, h.get? a = some o ∧ o.ExactSet ∧ o.data = .set es ep (Tb (!byText w) m)
  lt : m < 256
  len : (lOf m).length = es.size
  few : es.size ≤ 4
  sm : Small es.toList
  pm : (es.toList.map fun e => keyOf e.2).Perm ks
  nd : ks.Nodup
def SetP (w : World) (h : Heap) (a : Addr) (ks : List Int) : Prop := ∃ es ep m, SetAt w h a es ep m ks
theorem SetAt.mv {w : World} {h h' : Heap} {a : Addr} {es : Array (Int × Value)} {ep m : Nat} {ks : List Int} (x : SetAt w h a es ep m ks) (e : ∀ o, h.get? a = some o → h'.get? a = some o) : SetAt w h' a es ep m ks :=
  ⟨let ⟨o, ho, r⟩ := x.ob; ⟨o, e o ho, r⟩, x.lt, x.len, x.few, x.sm, x.pm, x.nd⟩
theorem SetP.mv {w : World} {h h' : Heap} {a : Addr} {ks : List Int} (x : SetP w h a ks) (e : ∀ o, h.get? a = some o → h'.get? a = some o) : SetP w h' a ks := let ⟨es, ep, m, y⟩ := x; ⟨es, ep, m, y.mv e⟩
theorem hash_small {k : Int} (h0 : 0 ≤ k) (h1 : k < 1000) : hashInt k = ((k.toNat : Nat) : Int) := by
  have : ∀ n : Nat, n < 1000 → hashInt (n : Int) = (n : Int) := by decide +kernel
  have e : k = ((k.toNat : Nat) : Int) := by omega
  rw [e]; exact this k.toNat (by omega)
section
variable {prog : Program} {w : World} {A : Around} {E : Value → Shared → Prop} {s : Shared}
theorem Small.elems {es : List (Int × Value)} (h : Small es) : ElemsOf (intKind prog w) es := fun e he => by
  obtain ⟨k, t, rfl, _⟩ := h e he
  exact ⟨⟨k, intKind_is _ _ _ _, rfl⟩, rfl⟩
theorem mem_key {es : List (Int × Value)} (h : Small es) {k : Int} : (∃ e ∈ es, (intKind prog w).is k e.2 = true) ↔ k ∈ es.map (fun e => keyOf e.2) := by
  constructor
  · rintro ⟨e, he, hk⟩
    obtain ⟨k', t, rfl, _⟩ := h e he
    have : k = k' := (intKind prog w).inj _ _ _ hk (intKind_is _ _ _ _)
    subst this
    exact List.mem_map.mpr ⟨_, he, rfl⟩
  · intro hk
    obtain ⟨e, he, rfl⟩ := List.mem_map.mp hk
    obtain ⟨k', t, rfl, _⟩ := h e he
    exact ⟨_, he, intKind_is _ _ _ _⟩
theorem set_put {a : Addr} {ks : List Int} {k : Int} {tk : Tok} {Q : Bool → Shared → Prop} (hS : SetP w s.heap a ks) (h0 : 0 ≤ k) (h1 : k < 1000) (hn : k ∈ ks ∨ ks.length < 4)
    (q : ∀ h' b, Heap.SameBut a s.heap h' → SetP w h' a (if k ∈ ks then ks else ks ++ [k]) → Q b { s with heap := h' }) :
    wpAny (model prog w) A (setAddHashed a (.int k tk) (hashInt k)) Q E s := by
  obtain ⟨es, ep, m, hx⟩ := hS
  obtain ⟨o, hob, hexa, hda⟩ := hx.ob
  have hel : ElemsOf (intKind prog w) es.toList := hx.sm.elems
  have hfi := tb_fits (l := !byText w) hx.len hx.few
  have hsb : es.size < scanBound := by have := hx.few; unfold scanBound; omega
  unfold setAddHashed setAddHashedIn
  refine wpAny_holding (wpAny_bind (wpAny_setState_of hob hda hfi ?_))
  dsimp only
  rw [byScan_of (knd := intKind prog w) rfl hsb hel, if_pos rfl]
  unfold setAddByScan
  refine wpAny_bind (wpAny_bind (wpAny_rule (wpAny_bind (wpAny_setScan_of (knd := intKind prog w) (k := k) (intKind_is _ _ _ _) hob hda hfi hel ?_))))
  have hmem : k ∈ ks ↔ ∃ e ∈ es.toList, (intKind prog w).is k e.2 = true := by rw [mem_key hx.sm]; exact hx.pm.mem_iff.symm
  cases hr : List.findIdx? (fun e => (intKind prog w).is k e.2) es.toList with
  | some j =>
    obtain ⟨hj, hpj, _⟩ := List.findIdx?_eq_some_iff_getElem.mp hr
    have hin : k ∈ ks := hmem.mpr ⟨es.toList[j], List.getElem_mem hj, hpj⟩
    refine wpAny_pure (wpAny_pure ?_)
    have := q s.heap false (Heap.SameBut.refl a s.heap) (by rw [if_pos hin]; exact ⟨es, ep, m, hx⟩)
    exact this
  | none =>
    have hout : k ∉ ks := fun hk => by
      obtain ⟨e, he, hp⟩ := hmem.mp hk
      have := List.findIdx?_eq_none_iff.mp hr e he
      rw [hp] at this
      cases this
    have hl4 : ks.length < 4 := hn.resolve_left hout
    have hks : ks.length = es.size := by rw [← hx.pm.length_eq, List.length_map, Array.length_toList]
    obtain ⟨p, m', el, hm', hlen', hp⟩ := lay_new (l := !byText w) (m := m) (h := k.toNat) (es := es) (x := .int k tk) hx.lt (by rw [hx.len]; omega) (by omega) hx.len.symm
    rw [← hash_small h0 h1] at el
    dsimp only
    rw [el]
    dsimp only
    refine wpAny_bind (wpAny_pure ?_)
    rw [if_pos (show (Tb (!byText w) m').plain = true from rfl)]
    refine wpAny_bind ?_
    rw [hashByValue_scannable 8 rfl]
    refine wpAny_pure ?_
    rw [if_pos (show plainKind (.int k tk) = true from rfl)]
    have zs := ins_size es p (hashInt k, Value.int k tk) hp
    refine wpAny_bind (wpAny_storeSet_of hob hda ?_ (fits_of_scanBound (by rw [zs]; unfold scanBound; omega)))
    rw [tb_full (by rw [hlen', hx.len]; omega)]
    rw [Bool.and_false, if_neg (by decide)]
    refine wpAny_pure (wpAny_pure ?_)
    refine q _ true (Heap.SameBut.update s.heap a _) ?_
    rw [if_neg hout]
    have tl : (SetTable.insertAt es p (hashInt k, Value.int k tk)).toList.Perm (es.toList ++ [(hashInt k, Value.int k tk)]) := by
      have := SetTable.insertAt_perm es p (hashInt k, Value.int k tk)
      rw [Array.toList_push] at this
      exact this
    refine ⟨_, ep + 1, m', ⟨⟨{ o with data := .set (SetTable.insertAt es p (hashInt k, Value.int k tk)) (ep + 1) (Tb (!byText w) m') }, ?_, hexa, rfl⟩, hm', by rw [hlen', zs, hx.len], by rw [zs]; omega, fun e he => ?_, ?_, ?_⟩⟩
    · have := Heap.get?_update_self (Obj.putSet (SetTable.insertAt es p (hashInt k, Value.int k tk)) (Tb (!byText w) m')) hob (by rw [putSet_of _ _ hda]; rfl)
      rw [putSet_of _ _ hda] at this
      exact this
    · rcases List.mem_append.mp (tl.mem_iff.mp he) with he | he
      · exact hx.sm e he
      · exact ⟨k, tk, List.mem_singleton.mp he, h0, h1⟩
    · refine (tl.map _).trans ?_
      rw [List.map_append]
      exact hx.pm.append_right _
    · refine List.nodup_append.mpr ⟨hx.nd, by simp, fun x hx' y hy => ?_⟩
      rw [List.mem_singleton.mp hy]
      exact fun e => hout (e ▸ hx')
/-- as many as may come -/
def FewI (val : Nat → Int) (n : Nat) : Prop := (firstMet val n).length ≤ 4 ∧ ∀ i < n, 0 ≤ val i ∧ val i < 1000
theorem met_mono (val : Nat → Int) {i n : Nat} (h : i ≤ n) : (firstMet val i).length ≤ (firstMet val n).length := by
  induction h with
  | refl => exact Nat.le_refl _
  | step h ih =>
    refine Nat.le_trans ih ?_
    rw [firstMet_succ, step_length]
    split <;> omega
theorem met_step (σ : List Int) (v : Int) : step_dedup σ v = if v ∈ σ then σ else σ ++ [v] := by
  unfold step_dedup
  by_cases h : v ∈ σ
  · rw [if_pos h, if_pos (show (σ.any fun x => x == v) = true from List.any_eq_true.mpr ⟨v, h, beq_self_eq_true v⟩)]
  · rw [if_neg h, if_neg (fun e : (σ.any fun x => x == v) = true => h (by obtain ⟨x, hx, e⟩ := List.any_eq_true.mp e; rw [← beq_iff_eq.mp e]; exact hx))]
theorem met_room {val : Nat → Int} {n i : Nat} (h : FewI val n) (hi : i < n) : val i ∈ firstMet val i ∨ (firstMet val i).length < 4 := by
  by_cases c : val i ∈ firstMet val i
  · exact .inl c
  · have a := met_mono val (show i + 1 ≤ n from hi)
    rw [firstMet_succ, met_step, if_neg c, List.length_append] at a
    have := h.1
    simp at a
    exact .inr (by omega)
variable {R : Result → Shared → Prop} {I : Addr} {fp wr : List Addr} {G : Array GenState → Array GenState → Prop} {n : Nat} {P : Nat → Value → Prop} {St : Nat → Shared → Prop}
theorem set_loop (W : WalksS prog w A.in1 I fp wr G n P St) (S : Addr) (hfp : S ∉ fp) (val : Nat → Int) (hv : ∀ i v, P i v → ∃ t, v = .int (val i) t) (hf : FewI val n) :
    ∀ (k i : Nat) (s : Shared), n - i = k → i ≤ n → St i s → SetP w s.heap S (firstMet val i) →
      (∀ s', Moved (S :: wr) G s s' → SetP w s'.heap S (firstMet val n) → R (.ok (.ret .none)) s') → codeAny (model prog w) A (.builtin "set.update.loop" ⟨[.ref S, .ref I], []⟩) R s := by
  have hwr : S ∉ wr := fun h => hfp (W.sub _ h)
  have more : ∀ b ∈ wr, b ∈ S :: wr := fun b h => List.mem_cons_of_mem _ h
  intro k
  induction k with
  | zero =>
    intro i s hk hi st hS q
    obtain rfl : i = n := by omega
    refine codeAny_builtin F.entry_set_update_loop ?_
    rw [Around.under_plainId F.plain_set_update_loop _]
    show wpAny _ A.in1 (pyNext (.ref I) >>= fun _ => _) _ _ s
    refine wpAny_bind (W.done s _ _ st fun s1 mv => ?_)
    exact wpAny_pure (q s1 (mv.mono more) (hS.mv fun o e => mv.heap S _ hwr e))
  | succ k ih =>
    intro i s hk hi st hS q
    have hin : i < n := by omega
    refine codeAny_builtin F.entry_set_update_loop ?_
    rw [Around.under_plainId F.plain_set_update_loop _]
    show wpAny _ A.in1 (pyNext (.ref I) >>= fun _ => _) _ _ s
    refine wpAny_bind (W.item i s _ _ hin st fun v s1 hp st1 mv => ?_)
    obtain ⟨t, rfl⟩ := hv i v hp
    have hS1 : SetP w s1.heap S (firstMet val i) := hS.mv fun o e => mv.heap S _ hwr e
    show wpAny _ A.in1 (holding [Value.int (val i) t] (setAdd S (.int (val i) t)) >>= fun _ => _) _ _ s1
    refine wpAny_bind (wpAny_holding ?_)
    unfold setAdd
    refine wpAny_holding (wpAny_bind ((intKind prog w).pyHash (k := val i) (intKind_is _ _ _ _) ?_))
    refine set_put (s := { s1 with toks := s1.toks + 1 }) hS1 (hf.2 i hin).1 (hf.2 i hin).2 (met_room hf hin) fun h' b sb hS2 => ?_
    rw [← met_step, ← firstMet_succ] at hS2
    refine wpAny_pure ⟨plainId_quiet F.plain_set_update_loop _, ih (i + 1) _ (by omega) hin (W.frame _ s1 _ _ st1 (Nat.le_succ _) fun c hc o e => ?_) hS2 fun s2 mv2 hS3 => ?_⟩
    · rw [sb.2 c (fun z => hfp (z ▸ hc))]; exact e
    · refine q s2 (Moved.trans W.gtrans ((mv.mono more).then_heap (Nat.le_succ _) fun c o hc e => ?_) mv2) hS3
      rw [sb.2 c (fun z => hc (z ▸ List.mem_cons_self))]; exact e
end
end BE
set_option Elab.async false
set_option linter.all false
set_option maxRecDepth 100000
/-! set(a list of small ints, few of them distinct) -/
namespace BE
open PySem PySem.Spec PyProof.Rows
def freshO (w : World) : Obj := { cls := .type "set", dict := none, data := .set #[] 0 (Tb (!byText w) 0) }
theorem fresh_at {w : World} {h : Heap} {a : Addr} (e : h.get? a = some (freshO w)) : SetP w h a [] :=
  ⟨#[], 0, 0, ⟨⟨_, e, ⟨rfl, rfl, rfl⟩, rfl⟩, by decide, by decide, by decide, fun e he => by simp at he, by simp, .nil⟩⟩
section
variable {prog : Program} {w : World} {A : Around} {E : Value → Shared → Prop} {s : Shared}
theorem made (a : Value) {Q : Value → Shared → Prop} (q : Q (.ref s.heap.objs.size) { s with heap := s.heap.push (freshO w) }) :
    codeAny (model prog w) A (.call (.builtin "set.__new__") ⟨[.type "set", a], []⟩) (wants Q E) s := by
  refine codeAny_of_tree ?_
  show wpAny _ A.in1 (checkBuiltinCall "set.__new__" ⟨[.type "set", a], []⟩ >>= fun _ => again (.builtin "set.__new__" ⟨[.type "set", a], []⟩)) _ _ s
  refine wpAny_bind (wpAny_of_eq (F.newCall_set_1 a) (wpAny_pure ⟨plainId_quiet F.plain_set_new _, codeAny_builtin F.entry_set_new ?_⟩))
  rw [Around.under_plainId F.plain_set_new _]
  unfold Builtin.«set.__new__» Builtin.Frozenset.newClass
  have sub := sub_set_self
  obtain ⟨hp, g, d, tk, os⟩ := s
  dsimp only
  wp_walk
  refine wpAny_askSetting (wpAny_pure ?_)
  dsimp only
  simp only [newObj]
  exact wpAny_bind (wpAny_alloc (wpAny_pure (wpAny_pure q)))
set_option maxHeartbeats 3200000 in
theorem set_of {l : Addr} {its : Array Value} {ns : List Int} {Q : Value → Shared → Prop} (hh : A.handled = none) (hl : s.heap.IsList l its) (hi : IntsAre its.toList ns) (hf : FewI (fun i => ns.getD i 0) its.size)
    (q : ∀ (h' : Heap) (tk : Nat), SetP w h' s.heap.objs.size (firstMet (fun i => ns.getD i 0) its.size) → (∀ b o, s.heap.get? b = some o → h'.get? b = some o) → Q (.ref s.heap.objs.size) { s with heap := h', toks := tk }) :
    wpAny (model prog w) A (call (.type "set") [.ref l]) Q E s := by
  obtain ⟨c, tl, mro⟩ := F.called_set.mro
  have m1 := F.called_set.made
  have m2 := F.called_set.sub
  refine wpAny_call (codeAny_of_tree ?_)
  show wpAny _ _ (callAny (.type "set") _) _ _ _
  refine wpAny_pure ⟨Code.quiet_builtin _ (by decide +kernel), codeAny_builtin F.entry_type_call ?_⟩
  rw [Around.under_plain (weight_type_call_type "set" [.ref l] []) rfl]
  have m3 := F.called_set.notType
  have m4 := F.called_set.canCreate
  have m5 := F.typeCall_set_1 (.ref l)
  (repeat (any_goals (first | assumption | wp_step)))
  refine codeAny_mono (made (.ref l) (E := E) (Q := fun v s1 => v = .ref s.heap.objs.size ∧ s1 = { s with heap := s.heap.push (freshO w) }) ⟨rfl, rfl⟩) fun r s1 hr => ?_
  cases r with
  | error e => exact hr
  | ok fl =>
    cases fl with
    | ret obj =>
      obtain ⟨rfl, rfl⟩ := hr
      have g1 : (s.heap.push (freshO w)).get? s.heap.objs.size = some (freshO w) := Heap.get?_push_size _ rfl
      have ty : Shared.TypeIs { s with heap := s.heap.push (freshO w) } (.ref s.heap.objs.size) "set" := ⟨_, g1, rfl⟩
      have m6 := F.called_set.init.lookup
      have m7 := F.called_set.init.bind (.ref s.heap.objs.size)
      (repeat (any_goals (first | assumption | wp_step)))
      refine codeAny_mono (codeAny_call_builtin (R := wants (fun r s2 => r = .none ∧ ∃ h' tk, s2 = { s with heap := h', toks := tk } ∧ SetP w h' s.heap.objs.size (firstMet (fun i => ns.getD i 0) its.size) ∧ (∀ b o, s.heap.get? b = some o → h'.get? b = some o)) E)
        F.called_set.init.plain F.entry_set_init (check_set_init_1 ty ?_)) fun r2 s2 hr2 => ?_
      · obtain ⟨ol, hol, hcl, nl, hdl⟩ := hl
        obtain ⟨ocls, odict, odata, oslots⟩ := ol
        simp only at hcl hdl
        subst hcl hdl
        have g2 : (s.heap.push (freshO w)).get? l = some { cls := .type "list", dict := odict, data := .seq its nl, slots := oslots } := Heap.get?_push_of_some _ hol
        have m8 := F.sub_list_set
        have m9 := F.sub_list_frozenset
        have m10 : (Value.type "list" == Value.type "dict") = false := by decide
        have l1 : (s.heap.push (freshO w)).IsList l its := ⟨_, g2, rfl, nl, rfl⟩
        unfold Builtin.«set.__init__» noKeywords Builtin.Frozenset.updateFrom
        generalize hPI : pyIter = PI
        wp_walk
        subst hPI
        refine wpAny_pyIter_list l1 (wpAny_bind (wpAny_runValue ?_))
        have ltl : l < s.heap.objs.size := Heap.lt_size hol
        have hh3 : A.in1.in1.in1.handled = none := by simp [hh]
        have ne1 : l ≠ (s.heap.push (freshO w)).objs.size := by rw [Heap.size_push]; exact Nat.ne_of_lt (Nat.lt_succ_of_lt ltl)
        have nf : s.heap.objs.size ∉ [(s.heap.push (freshO w)).objs.size, l] := by
          rw [Heap.size_push]
          simp only [List.mem_cons, List.not_mem_nil, or_false, not_or]
          exact ⟨Nat.ne_of_lt (Nat.lt_succ_self _), Nat.ne_of_gt ltl⟩
        refine set_loop ((Walks.list hh3 _ l ne1 its).toS) s.heap.objs.size nf (fun i => ns.getD i 0) (fun i v hv => IntsAre.int_at hi i v (by rw [Array.getElem?_toList]; exact hv)) hf (its.size - 0) 0 _ (by omega) (Nat.zero_le _)
          ⟨⟨_, Heap.get?_push_size _ rfl, rfl, rfl⟩, l1.push _⟩ (fresh_at (Heap.get?_push_of_some _ g1)) fun s3 mv hS => ?_
        obtain ⟨h', g', d', tk', os'⟩ := s3
        have eg : g' = s.gens := mv.gens
        have ed : d' = s.drawn := mv.drawn
        have eo : os' = s.os := mv.os
        subst eg ed eo
        refine wpAny_pure ?_
        refine wpAny_pure ⟨rfl, h', tk', rfl, hS, fun b o e => ?_⟩
        have hb := Heap.lt_size e
        refine mv.heap b o ?_ (Heap.get?_push_of_some _ (Heap.get?_push_of_some _ e))
        rw [Heap.size_push]
        simp only [List.mem_cons, List.not_mem_nil, or_false, not_or]
        exact ⟨Nat.ne_of_lt hb, Nat.ne_of_lt (Nat.lt_succ_of_lt hb)⟩
      · cases r2 with
        | error e => exact hr2
        | ok fl2 =>
          cases fl2 with
          | ret r =>
            obtain ⟨rfl, h', tk, rfl, hS, hk⟩ := hr2
            (repeat (any_goals (first | assumption | wp_step)))
            exact q _ _ hS hk
          | _ => exact hr2.elim
    | _ => exact hr.elim
end
end BE
set_option Elab.async false
set_option linter.all false
set_option maxRecDepth 100000
/-! a set of few small ints, walked -/
namespace BE
open PySem PySem.Spec PyProof.Rows
theorem sit_next : Slot "set_iterator" "__next__" "set_iterator.__next__" := .of (owner := "set_iterator") (n := "__next__") (by rw [typeLookup_type, builtinLookup_eq_fast]; kernel_rfl) (by decide +kernel) (by decide +kernel) (by decide +kernel) (by first | exact .inl (by decide +kernel) | exact .inr (by decide +kernel)) (by rw [isSubtype_type]; kernel_rfl)
theorem sit_iter : Slot "set_iterator" "__iter__" "set_iterator.__iter__" := .of (owner := "set_iterator") (n := "__iter__") (by rw [typeLookup_type, builtinLookup_eq_fast]; kernel_rfl) (by decide +kernel) (by decide +kernel) (by decide +kernel) (by first | exact .inl (by decide +kernel) | exact .inr (by decide +kernel)) (by rw [isSubtype_type]; kernel_rfl)
theorem ent_next : entryFor table "set_iterator.__next__" = some Builtin.«set_iterator.__next__» := entryFor_of_tree (by kernel_rfl)
theorem ent_iter : entryFor table "set_iterator.__iter__" = some Builtin.«dict_keyiterator.__iter__» := entryFor_alias (id' := "dict_keyiterator.__iter__") (by kernel_rfl) rfl (by decide +kernel) (by kernel_rfl)
theorem ent_set_iter : entryFor table "set.__iter__" = some Builtin.«frozenset.__iter__» := entryFor_alias (id' := "frozenset.__iter__") (by kernel_rfl) rfl (by decide +kernel) (by kernel_rfl)
theorem own_sit : Manifest.owners.lookup (String.ofList ['r', 'o', 't', 'a', 'r', 'e', 't', 'i', '_', 't', 'e', 's'].reverse) = some Manifest.sig_set_iterator := by kernel_rfl
theorem args_next (a : Value) : argsOk "set_iterator.__next__" ⟨[a], []⟩ := by unfold argsOk; rw [signature?_of (id := "set_iterator.__next__") (n := ['_', '_', 't', 'x', 'e', 'n', '_', '_']) (o := ['r', 'o', 't', 'a', 'r', 'e', 't', 'i', '_', 't', 'e', 's']) (by kernel_rfl) own_sit]; kernel_rfl
theorem args_iter (a : Value) : argsOk "set_iterator.__iter__" ⟨[a], []⟩ := by unfold argsOk; rw [signature?_of (id := "set_iterator.__iter__") (n := ['_', '_', 'r', 'e', 't', 'i', '_', '_']) (o := ['r', 'o', 't', 'a', 'r', 'e', 't', 'i', '_', 't', 'e', 's']) (by kernel_rfl) own_sit]; kernel_rfl
theorem len_set : typeLookup (.type "set") "__len__" = pure (some (.builtin "set.__len__")) := by rw [typeLookup_type, builtinLookup_eq_fast]; kernel_rfl
def IsSit (h : Heap) (it a : Addr) (slot i n ep : Nat) : Prop := ∃ o, h.get? it = some o ∧ o.cls = .type "set_iterator" ∧ o.data = .fields #[.int slot 0, .int i 0, .ref a, .int n 0, .int ep 0]
theorem IsSit.typeIs {s : Shared} {it a : Addr} {slot i n ep : Nat} (x : IsSit s.heap it a slot i n ep) : s.TypeIs (.ref it) "set_iterator" := let ⟨o, h, c, _⟩ := x; ⟨o, h, c⟩
def seen (w : World) (a : Addr) (ep : Nat) (es : Array (Int × Value)) : Array (Int × Value) := if byText w then pickOrder (w.params.setOrder a ep) es else es
def slotAt (w : World) (m i : Nat) : Nat := if byText w then 0 else stand m i
theorem seen_perm (w : World) (a : Addr) (ep : Nat) (es : Array (Int × Value)) : (seen w a ep es).toList.Perm es.toList := by
  unfold seen
  split
  · exact pick_all _ _
  · exact .rfl
theorem seen_size (w : World) (a : Addr) (ep : Nat) (es : Array (Int × Value)) : (seen w a ep es).size = es.size := by
  rw [← Array.length_toList, (seen_perm w a ep es).length_eq, Array.length_toList]
section
variable {prog : Program} {w : World} {A : Around} {E : Value → Shared → Prop} {s : Shared}
theorem hint_set {x : Addr} {Q : Bool → Shared → Prop} (hT : s.TypeIs (.ref x) "set") (h : Q false s) : wpAny (model prog w) A (Builtin.List.listLengthHint (.ref x)) Q E s := by
  unfold Builtin.List.listLengthHint
  refine wpAny_bind (wpAny_specialOf hT len_set ?_)
  generalize hid : ("set.__len__" : String) = id0
  wp_delta
  rw [show splitId id0 = some ("set", "__len__") from by subst hid; decide +kernel]
  subst hid
  refine wpAny_bind (wpAny_isInstance (T := "set") (b := true) hT (by rw [isSubtype_type]; kernel_rfl) ?_)
  refine wpAny_ite_split (fun hab => absurd hab (by decide)) (fun _ => ?_)
  refine wpAny_ite_split (fun _ => ?_) (fun hab => absurd (by decide +kernel) hab)
  exact wpAny_bind (wpAny_typeOf hT (wpAny_pure h))
/-- what the set says next -/
theorem set_next {a : Addr} {es : Array (Int × Value)} {ep m i : Nat} {ks : List Int} {Q : Option (Value × Nat) → Shared → Prop} (hS : SetAt w s.heap a es ep m ks) (hi : i ≤ es.size)
    (q : Q (((seen w a ep es)[i]?).map fun e => (e.2, slotAt w m (i + 1))) s) : wpAny (model prog w) A (setNext a (slotAt w m i) i ep) Q E s := by
  obtain ⟨o, ho, hx, hd⟩ := hS.ob
  have hfi := tb_fits (l := !byText w) hS.len hS.few
  unfold setNext
  refine wpAny_bind (wpAny_setState_of ho hd hfi ?_)
  dsimp only
  unfold setsByText
  refine wpAny_bind (wpAny_bind (wpAny_askSetting (wpAny_pure ?_)))
  show wpAny _ _ (if byText w = true then _ else _) _ _ _
  unfold seen slotAt at q
  unfold slotAt
  by_cases c : byText w = true
  · rw [if_pos c] at q ⊢
    rw [if_pos c] at q
    simp only [bne_self_eq_false, Bool.false_eq_true, if_false]
    refine wpAny_bind ?_
    unfold setWalk
    refine wpAny_bind (wpAny_setState_of ho hd hfi ?_)
    dsimp only
    unfold setsByText
    refine wpAny_bind (wpAny_bind (wpAny_askSetting (wpAny_pure ?_)))
    show wpAny _ _ (if byText w = true then _ else _) _ _ _
    rw [if_pos c]
    refine wpAny_bind (wpAny_askSetting (wpAny_pure (wpAny_pure ?_)))
    rw [if_pos c]
    exact q
  · rw [if_neg c] at q ⊢
    rw [if_neg c] at q
    have c' : byText w = false := by simpa using c
    refine wpAny_ite_split (fun hab => absurd (show ((!true) && decide (es.size > 1)) = true from hab) (by simp)) (fun _ => ?_)
    refine wpAny_bind ?_
    wp_delta
    refine wpAny_ite_split (fun hab => absurd (show ((!(!byText w)) && !es.isEmpty) = true from hab) (by rw [c']; simp)) (fun _ => ?_)
    refine wpAny_pure (wpAny_pure ?_)
    rw [if_neg c]
    show Q (match es[SetTable.below (lOf m).toArray (stand m i)]?, (lOf m).toArray[SetTable.below (lOf m).toArray (stand m i)]? with | some (_, x), some j => some (x, j + 1) | _, _ => none) s
    rw [tb_go hS.lt (by rw [hS.len]; exact hi)]
    by_cases hl : i < es.size
    · have hl' : i < (lOf m).length := by rw [hS.len]; exact hl
      rw [Array.getElem?_eq_getElem hl] at q ⊢
      rw [List.getElem?_toArray, List.getElem?_eq_getElem hl']
      have e : stand m (i + 1) = (lOf m)[i] + 1 := by show (lOf m).getD i 0 + 1 = _; rw [List.getD_eq_getElem?_getD, List.getElem?_eq_getElem hl']; rfl
      rw [e] at q
      exact q
    · rw [Array.getElem?_eq_none (by omega)] at q ⊢
      exact q
theorem set_iter {a : Addr} {es : Array (Int × Value)} {ep m : Nat} {ks : List Int} {Q : Value → Shared → Prop} (hS : SetAt w s.heap a es ep m ks)
    (q : Q (.ref s.heap.objs.size) { s with heap := s.heap.push { cls := .type "set_iterator", data := .fields #[.int 0 0, .int 0 0, .ref a, .int es.size 0, .int ep 0] } }) : wpAny (model prog w) A (pyIter (.ref a)) Q E s := by
  obtain ⟨o, ho, hx, hd⟩ := hS.ob
  have hfi := tb_fits (l := !byText w) hS.len hS.few
  have hT : s.TypeIs (.ref a) "set" := ⟨o, ho, hx.1⟩
  refine wpAny_pyIter_slot hT F.slot_set_iter (wpAny_call_entry F.slot_set_iter hT ent_set_iter ?_ (F.args_set_iter_1 _))
  unfold Builtin.«frozenset.__iter__»
  refine wpAny_bind ?_
  wp_delta
  refine wpAny_bind (wpAny_pure ?_)
  refine wpAny_pure ?_
  refine wpAny_bind ?_
  unfold Builtin.Frozenset.sizeOf
  refine wpAny_bind (wpAny_setEntries_of ho hd hfi (wpAny_pure ?_))
  refine wpAny_bind ?_
  unfold setDrawn setsByText
  refine wpAny_bind (wpAny_setState_of ho hd hfi (wpAny_bind (wpAny_bind (wpAny_askSetting (wpAny_pure (wpAny_pure ?_))))))
  refine wpAny_ite_split (fun hab => absurd (show ((!byText w) && ((!true) && decide (es.size > 1))) = true from hab) (by simp)) (fun _ => ?_)
  refine wpAny_bind (wpAny_pure ?_)
  refine wpAny_bind (wpAny_setEpoch_of ho hd hfi (wpAny_bind (wpAny_newObj_type ?_)))
  exact wpAny_pure ⟨_, rfl, "set_iterator", _, ⟨_, Heap.get?_push_size _ rfl, rfl⟩, sit_next.lookup, q⟩
theorem sit_item {it a : Addr} {es : Array (Int × Value)} {ep m i : Nat} {ks : List Int} {e : Int × Value} {Q : Option Value → Shared → Prop} (hit : IsSit s.heap it a (slotAt w m i) i es.size ep) (hS : SetAt w s.heap a es ep m ks) (he : (seen w a ep es)[i]? = some e)
    (q : ∀ h' : Heap, IsSit h' it a (slotAt w m (i + 1)) (i + 1) es.size ep → Heap.SameBut it s.heap h' → Q (some e.2) { s with heap := h' }) : wpAny (model prog w) A (pyNext (.ref it)) Q E s := by
  have hT : s.TypeIs (.ref it) "set_iterator" := hit.typeIs
  obtain ⟨oi, hoi, hci, hdi⟩ := hit
  obtain ⟨o, ho, hx, hd⟩ := hS.ob
  have hfi := tb_fits (l := !byText w) hS.len hS.few
  have hi : i < es.size := by
    rcases Nat.lt_or_ge i es.size with h | h
    · exact h
    · rw [Array.getElem?_eq_none (by rw [seen_size]; exact h)] at he; cases he
  unfold pyNext
  refine wpAny_bind (wpAny_attempt (wpAny_callSpecial?_slot hT sit_next (wpAny_call_entry sit_next hT ent_next ?_ (args_next _))))
  unfold Builtin.«set_iterator.__next__»
  refine wpAny_bind (wpAny_pure ?_)
  refine wpAny_bind (wpAny_fieldsOf hoi hdi ?_)
  dsimp only
  refine wpAny_bind (wpAny_setEntries_of ho hd hfi ?_)
  simp only [bne_self_eq_false, Bool.false_eq_true, if_false, Int.toNat_natCast]
  refine wpAny_bind (set_next hS (Nat.le_of_lt hi) ?_)
  rw [he]
  dsimp only [Option.map]
  refine wpAny_bind (wpAny_setField hoi hdi (by show 0 < 5; omega) ?_)
  have b1 := Heap.SameBut.update s.heap it (Obj.mapFields fun x => x.setIfInBounds 0 (rawInt (slotAt w m (i + 1))))
  have g1 := Heap.get?_update_self (Obj.mapFields fun x => x.setIfInBounds 0 (rawInt (slotAt w m (i + 1)))) hoi (Obj.isFreed_of_fields (Obj.data_mapFields hdi _))
  have c1 := (Obj.cls_mapFields oi (fun x => x.setIfInBounds 0 (rawInt (slotAt w m (i + 1))))).trans hci
  have d1 := Obj.data_mapFields hdi (fun x => x.setIfInBounds 0 (rawInt (slotAt w m (i + 1))))
  generalize s.heap.update it (Obj.mapFields fun x => x.setIfInBounds 0 (rawInt (slotAt w m (i + 1)))) = h1 at *
  generalize Obj.mapFields (fun x => x.setIfInBounds 0 (rawInt (slotAt w m (i + 1)))) oi = o1 at *
  refine wpAny_bind (wpAny_setField (s := { s with heap := h1 }) g1 d1 (by show 1 < 5; omega) ?_)
  have b2 := Heap.SameBut.update h1 it (Obj.mapFields fun x => x.setIfInBounds 1 (rawInt ((i : Int) + 1)))
  refine wpAny_pure ⟨_, rfl, wpAny_pure (q _ ⟨_, Heap.get?_update_self _ g1 (Obj.isFreed_of_fields (Obj.data_mapFields d1 _)), (Obj.cls_mapFields _ _).trans c1, (Obj.data_mapFields d1 _).trans rfl⟩ (b1.trans b2))⟩
theorem sit_end {it a : Addr} {es : Array (Int × Value)} {ep m i : Nat} {ks : List Int} {Q : Option Value → Shared → Prop} (hh : A.handled = none) (hit : IsSit s.heap it a (slotAt w m i) i es.size ep) (hS : SetAt w s.heap a es ep m ks) (hi : i ≤ es.size) (he : (seen w a ep es)[i]? = none)
    (q : ∀ h' : Heap, Heap.ExtBut it s.heap h' → Q none { s with heap := h' }) : wpAny (model prog w) A (pyNext (.ref it)) Q E s := by
  have hT : s.TypeIs (.ref it) "set_iterator" := hit.typeIs
  obtain ⟨oi, hoi, hci, hdi⟩ := hit
  obtain ⟨o, ho, hx, hd⟩ := hS.ob
  have hfi := tb_fits (l := !byText w) hS.len hS.few
  unfold pyNext
  refine wpAny_bind (wpAny_attempt (wpAny_callSpecial?_slot hT sit_next (wpAny_call_entry sit_next hT ent_next ?_ (args_next _))))
  unfold Builtin.«set_iterator.__next__»
  refine wpAny_bind (wpAny_pure (wpAny_bind (wpAny_fieldsOf hoi hdi ?_)))
  dsimp only
  refine wpAny_bind (wpAny_setEntries_of ho hd hfi ?_)
  simp only [bne_self_eq_false, Bool.false_eq_true, if_false, Int.toNat_natCast]
  refine wpAny_bind (set_next hS hi ?_)
  rw [he]
  dsimp only [Option.map]
  refine wpAny_bind (wpAny_setField hoi hdi (by show 2 < 5; omega) ?_)
  have hb := (Heap.SameBut.update s.heap it (Obj.mapFields fun x => x.setIfInBounds 2 Value.none)).extBut
  generalize s.heap.update it (Obj.mapFields fun x => x.setIfInBounds 2 Value.none) = h' at *
  refine wpAny_bind ?_
  unfold newExc
  refine wpAny_bind (wpAny_newObj_type (wpAny_bind (wpAny_of_eq rfl ?_)))
  refine wpAny_newObj_type ?_ (sizeOk_excFields _ _ _ _ _ _ _ _)
  unfold raiseNew
  refine wpAny_bind (wpAny_handled ?_)
  rw [show A.in1.handled = none from hh]
  refine wpAny_throw (wpAny_bind (wpAny_isInstance ⟨_, Heap.get?_push_size _ rfl, rfl⟩ isSubtype_stop ?_))
  exact wpAny_pure (q _ ((hb.push _).push _))
theorem sit_self {it a : Addr} {slot i n ep : Nat} {Q : Value → Shared → Prop} (hit : IsSit s.heap it a slot i n ep) (h : Q (.ref it) s) : wpAny (model prog w) A (pyIter (.ref it)) Q E s := by
  refine wpAny_pyIter_slot hit.typeIs sit_iter (wpAny_call_entry sit_iter hit.typeIs ent_iter ?_ (args_iter _))
  exact wpAny_bind (wpAny_pure (wpAny_pure ⟨_, rfl, "set_iterator", _, hit.typeIs, sit_next.lookup, h⟩))
theorem walks_set (hh : A.handled = none) (I a : Addr) (hne : a ≠ I) (es : Array (Int × Value)) (ep m : Nat) (ks : List Int) :
    Walks prog w A I [I, a] [I] es.size (fun i v => ∃ e, (seen w a ep es)[i]? = some e ∧ v = e.2) fun i h => IsSit h I a (slotAt w m i) i es.size ep ∧ SetAt w h a es ep m ks where
  sub := fun b hb => by simp at hb; simp [hb]
  frame := fun i h h' st k => ⟨let ⟨o, ho, r⟩ := st.1; ⟨o, k I (by simp) o ho, r⟩, st.2.mv fun o e => k a (by simp) o e⟩
  item := fun i s Q E hi st q => by
    have hi' : i < (seen w a ep es).size := by rw [seen_size]; exact hi
    have he : (seen w a ep es)[i]? = some (seen w a ep es)[i] := Array.getElem?_eq_getElem hi'
    refine sit_item st.1 st.2 he fun h' st' sb => ?_
    refine q _ h' s.toks ⟨_, he, rfl⟩ ⟨st', st.2.mv fun o e => (sb.2 a hne).trans e⟩ fun b o hb e => (sb.2 b (by simpa using hb)).trans e
  done := fun s Q E st q => sit_end hh st.1 st.2 (Nat.le_refl _) (Array.getElem?_eq_none (by rw [seen_size]; exact Nat.le_refl _)) fun h' eb => q h' s.toks fun b o hb e => eb b o (by simpa using hb) e
  self := fun i s Q E st q => sit_self st.1 q
theorem src_set {a : Addr} {es : Array (Int × Value)} {ep m : Nat} {ks : List Int} : W.KdlSrc prog w "set" a a es.size (fun i v => ∃ e, (seen w a ep es)[i]? = some e ∧ v = e.2) (fun h => SetAt w h a es ep m ks) where
  type := fun s st => let ⟨o, ho, hx, _⟩ := st.ob; ⟨o, ho, hx.1⟩
  there := fun h st => let ⟨o, ho, _⟩ := st.ob; ⟨Heap.lt_size ho, Heap.lt_size ho⟩
  keep := fun h h' st k => st.mv fun o e => k a (.inl rfl) o e
  notList := by decide
  notTuple := by decide
  hint := fun A E s Q st q => let ⟨o, ho, hx, _⟩ := st.ob; hint_set ⟨o, ho, hx.1⟩ q
  iter := fun A s hh st => by
    obtain ⟨o, ho, hx, hd⟩ := st.ob
    have z : slotAt w m 0 = 0 := by unfold slotAt; split <;> rfl
    exact ⟨_, _, fun E Q q => set_iter st q, walks_set hh s.heap.objs.size a (Nat.ne_of_lt (Heap.lt_size ho)) es ep m ks, ⟨_, Heap.get?_push_size _ rfl, rfl, by rw [z]; rfl⟩, st.mv fun o e => Heap.get?_push_of_some _ e⟩
theorem small_ints : ∀ {l : List (Int × Value)}, Small l → IntsAre (l.map (·.2)) (l.map fun e => keyOf e.2)
  | [], _ => .nil
  | e :: l, h => by
    obtain ⟨k, t, rfl, _⟩ := h e List.mem_cons_self
    exact .cons k t (small_ints fun x hx => h x (List.mem_cons_of_mem _ hx))
theorem items_eq {α : Type} {l : List α} {f : α → Value} {acc : Array Value} (h : ItemsOf (fun i v => ∃ e, l[i]? = some e ∧ v = f e) acc l.length) : acc.toList = l.map f := by
  apply List.ext_getElem?
  intro i
  rcases Nat.lt_or_ge i acc.size with c | c
  · have hv : acc[i]? = some acc[i] := Array.getElem?_eq_getElem c
    obtain ⟨e, he, hve⟩ := h.2 i _ hv
    rw [Array.getElem?_toList, hv, List.getElem?_map, he, hve]; rfl
  · rw [Array.getElem?_toList, Array.getElem?_eq_none c, List.getElem?_map, List.getElem?_eq_none (by rw [← h.1]; exact c)]; rfl
/-- sorted of such a set -/
theorem sorted_set {a : Addr} {ks : List Int} {Q : Value → Shared → Prop} (hh : A.handled = none) (hS : SetP w s.heap a ks)
    (q : ∀ (h1 : Heap) (tk : Nat) (vs : List Value) (out : Array Value) (ns' : List Int), (∀ b u, s.heap.get? b = some u → h1.get? b = some u) → vs.length < 64 → IntsAre out.toList ns' → ns'.Perm ks → ns'.Pairwise (· ≤ ·) →
      Q (.ref h1.objs.size) { s with heap := sortedHeap (h1.push (seqObj "list" vs.toArray 0)) h1.objs.size vs out, toks := tk }) : wpAny (model prog w) A (call (.builtin "sorted") [.ref a]) Q E s := by
  obtain ⟨es, ep, m, st⟩ := hS
  refine Calls.call_function_entry kind_sorted plain_sorted entry_sorted (args_sorted1 _) ?_
  unfold Builtin.«sorted»
  refine wpAny_bind (m := checkCount "sorted" 1 1 _) (wpAny_pure ?_)
  refine wpAny_bind (W.kdu_collect (A := A.in1) (src_set (prog := prog)) hh st (by rw [sizeLine_eq]; have := st.few; omega) fun h1 tk acc hk hac => ?_)
  have ea : acc.toList = (seen w a ep es).toList.map (·.2) := items_eq (by
    rw [Array.length_toList, seen_size]
    exact ⟨hac.1, fun i v hv => by
      obtain ⟨e, he, hve⟩ := hac.2 i v hv
      exact ⟨e, by rw [Array.getElem?_toList]; exact he, hve⟩⟩)
  have sp := seen_perm w a ep es
  have hI : IntsAre acc.toList ((seen w a ep es).toList.map fun e => keyOf e.2) := by
    rw [ea]
    exact small_ints fun e he => st.sm e (sp.mem_iff.mp he)
  have ln : acc.toList.length ≤ 4 := by rw [Array.length_toList, hac.1]; exact st.few
  have h64 : acc.toList.length < 64 := by omega
  generalize acc.toList = vs at *
  refine wpAny_bind (wpAny_newList ?_ (by rw [sizeLine_eq]; omega))
  have hL : (h1.push (seqObj "list" vs.toArray 0)).get? h1.objs.size = some (seqObj "list" vs.toArray 0) := Heap.get?_push_size _ rfl
  refine wpAny_bind (wpAny_holding (wpAny_call_entry slot_list_sort ⟨_, hL, rfl⟩ entry_list_sort (list_sort_tree hL hI h64 fun out ns' a1 a2 a3 => ⟨_, rfl, ?_⟩) (args_list_sort _)))
  exact wpAny_pure ⟨_, rfl, q h1 tk vs out ns' hk h64 a1 (a2.trans ((sp.map _).trans st.pm)) a3⟩
end
end BE
set_option Elab.async false
set_option linter.all false
set_option maxRecDepth 100000
/-! sorted(set(a list of small ints, few of them distinct)) -/
namespace BE
open PySem PyProof.Rows
theorem met_mem (val : Nat → Int) {x : Int} : ∀ n : Nat, x ∈ firstMet val n ↔ ∃ i < n, val i = x
  | 0 => by rw [firstMet_zero]; simp
  | n + 1 => by
    rw [firstMet_succ, met_step]
    have ih := met_mem val (x := x) n
    constructor
    · intro h
      split at h
      · obtain ⟨i, hi, e⟩ := ih.mp h
        exact ⟨i, by omega, e⟩
      · rcases List.mem_append.mp h with h | h
        · obtain ⟨i, hi, e⟩ := ih.mp h
          exact ⟨i, by omega, e⟩
        · exact ⟨n, by omega, (List.mem_singleton.mp h).symm⟩
    · rintro ⟨i, hi, e⟩
      by_cases c : i = n
      · subst c
        split
        · rename_i h; rw [e] at h; exact h
        · exact List.mem_append_right _ (by rw [e]; simp)
      · have := ih.mpr ⟨i, by omega, e⟩
        split
        · exact this
        · exact List.mem_append_left _ this
theorem met_nodup (val : Nat → Int) : ∀ n : Nat, (firstMet val n).Nodup
  | 0 => by rw [firstMet_zero]; exact .nil
  | n + 1 => by
    rw [firstMet_succ, met_step]
    have ih := met_nodup val n
    split
    · exact ih
    · rename_i h
      refine List.nodup_append.mpr ⟨ih, by simp, fun x hx y hy => ?_⟩
      rw [List.mem_singleton.mp hy]
      exact fun e => h (e ▸ hx)
theorem met_list {ns : List Int} {x : Int} : x ∈ firstMet (fun i => ns.getD i 0) ns.length ↔ x ∈ ns := by
  rw [met_mem]
  constructor
  · rintro ⟨i, hi, e⟩
    rw [List.getD_eq_getElem?_getD, List.getElem?_eq_getElem hi] at e
    rw [← e]
    exact List.getElem_mem hi
  · intro h
    obtain ⟨i, hi, e⟩ := List.mem_iff_getElem.mp h
    exact ⟨i, hi, by rw [List.getD_eq_getElem?_getD, List.getElem?_eq_getElem hi]; exact e⟩
/-- small ints, at most four of them distinct -/
def FewL (ns : List Int) : Prop := (∀ x ∈ ns, 0 ≤ x ∧ x < 1000) ∧ ∃ ks : List Int, ks.length ≤ 4 ∧ ∀ x ∈ ns, x ∈ ks
theorem nodup_le : ∀ {l ks : List Int}, l.Nodup → (∀ x ∈ l, x ∈ ks) → l.length ≤ ks.length
  | [], ks, _, _ => Nat.zero_le _
  | x :: l, ks, nd, h => by
    have hx := h x List.mem_cons_self
    have nd' := List.nodup_cons.mp nd
    have := nodup_le (l := l) (ks := ks.erase x) nd'.2 fun y hy => (List.mem_erase_of_ne (fun e : y = x => nd'.1 (by rw [← e]; exact hy))).mpr (h y (List.mem_cons_of_mem _ hy))
    rw [List.length_erase_of_mem hx] at this
    have pos := List.length_pos_of_mem hx
    rw [List.length_cons]
    omega
theorem FewL.fewI {ns : List Int} (h : FewL ns) : FewI (fun i => ns.getD i 0) ns.length := by
  obtain ⟨h1, ks, hl, hk⟩ := h
  refine ⟨Nat.le_trans (nodup_le (met_nodup _ _) fun x hx => hk x (met_list.mp hx)) hl, fun i hi => ?_⟩
  have e : ns.getD i 0 = ns[i] := by rw [List.getD_eq_getElem?_getD, List.getElem?_eq_getElem hi]; rfl
  simp only [e]
  exact h1 _ (List.getElem_mem hi)
theorem bt_set : bootBuiltins "set" = some (.type "set") := by decide +kernel
end BE
namespace L2
open PySem PySem.Spec PyProof.Rows BE
section
variable {X : Cx}
def rSortS : List V → Hp → VK → Prop := fun xs H Q => ∃ (a : Addr) (ns : List Int), xs = [.ref a] ∧ H a = some (.lst (ns.map V.int)) ∧ FewL ns ∧ ∀ (l : Addr) (ns' : List Int), H l = none → (∀ x, x ∈ ns' ↔ x ∈ ns) → ns'.Nodup → ns'.Pairwise (· ≤ ·) → Q (.ref l) (upd H l (.lst (ns'.map V.int)))
theorem pe_sortset {e : Expr} {te : TE} {p1 p2 c1 c2 : Pos} (hc : X.calm = true) (hg1 : Gl X "sorted") (hm1 : X.mg "sorted" = none) (hg2 : Gl X "set") (hm2 : X.mg "set" = none) (ha : PE X e te)
    (hs : starEach [e] X.env = [(false, eval e X.env)] := by rfl) (hs1 : starEach [.Call (.Name "set" p2) [e] [] c2] X.env = [(false, eval (.Call (.Name "set" p2) [e] [] c2) X.env)] := by rfl) :
    PE X (.Call (.Name "sorted" p1) [.Call (.Name "set" p2) [e] [] c2] [] c1) (tCB rSortS (tCons te tNil)) := by
  intro pins s σ H Q I h
  refine wpAny_Call_Name_kw (ld_blt I hg1 hm1 (by decide +kernel : bootBuiltins "sorted" = some (.builtin "sorted")) ?_)
  refine PyProof.Rows.callWith_builtin1 ?_ hs1 rfl
  rw [hs1]
  refine Calls.spliced_cons ?_
  refine wpAny_Call_Name_kw (ld_blt I hg2 hm2 bt_set ?_)
  refine PyProof.Rows.callWith_type1 (thn (pa_cons ha pa_nil hs c2 pins s σ H _ I h) fun us s1 ⟨vs, H1, I1, r1, q1⟩ => ?_) hs rfl
  obtain ⟨a, ns, rfl, hH, hf, q⟩ := q1
  obtain ⟨u, rfl, rfl⟩ := vals1 r1
  obtain ⟨z, its, n, rv, hl, he⟩ := I1.lstM hH
  rw [List.length_map] at hl
  have hi := ints_are rv
  have hz : its.toArray.size = ns.length := by rw [List.size_toArray, hl]
  refine BE.set_of (ns := ns) (I1.ok.hd hc) ⟨_, he, rfl, n, rfl⟩ (by simpa using hi) (by rw [hz]; exact hf.fewI) fun h' tk hS hk => ?_
  rw [hz] at hS
  refine Calls.spliced_nil ?_
  refine BE.sorted_set (s := { s1 with heap := h', toks := tk }) (I1.ok.hd hc) hS fun h2 tk2 vs out ns' hk2 h64 a1 a2 a3 => ?_
  have I2 : Inv X pins σ H1 { s1 with heap := h', toks := tk2 } := I1.kept hk
  exact sort_end (s := { s1 with heap := h', toks := tk2 }) I2 hk2 (Nat.lt_of_le_of_lt hf.fewI.1 (by decide)) a1 a2 a3 fun l ms hl p1 p2 => q l ms hl (fun x => p1.mem_iff.trans met_list) (p1.nodup_iff.mpr (met_nodup _ _)) p2
end
end L2
set_option Elab.async false
set_option linter.all false
set_option maxRecDepth 100000
/-! a tuple times a number; str of a number -/
namespace BE
open PySem PySem.W PySem.Spec PyProof.Rows
open Builtin
theorem noFill_tuple_mul : fillsNumberSlot (.type "tuple") "mul" = pure false :=
  PySem.fillsNumberSlot_seq (id := "tuple.__mul__") (r := some (.builtin "tuple.__rmul__")) F.slot_tuple_mul.lookup (by decide +kernel) F.slot_tuple_rmul.lookup (by decide +kernel)
theorem repeat_tuple : seqRepeat? (.type "tuple") = pure (some (.builtin "tuple.__mul__")) := by
  unfold seqRepeat?
  rw [PySem.seqSlot_of (T := "tuple") (name := "__mul__") (id := "tuple.__mul__") F.slot_tuple_mul.lookup (by decide +kernel), PySem.seqSlot_of (T := "tuple") (name := "__rmul__") (id := "tuple.__rmul__") F.slot_tuple_rmul.lookup (by decide +kernel)]
  rfl
theorem int_rmul_tuple (a : Int) (t : Tok) (l : Addr) (o : Obj) (hc : o.cls = .type "tuple") (items : Array Value) (n : Nat) (hd : o.data = .seq items n) :
    Meets (Builtin.«int.__rmul__» ⟨[.int a t, .ref l], []⟩) (fun _ R s => s.heap.get? l = some o ∧ R (.ok (.ret Value.notImplemented)) s) :=
  .of_wp fun prog w A R s h => by
    obtain ⟨hp, g, d, tk, os⟩ := s; obtain ⟨hl, h⟩ := h
    obtain ⟨oc, od, odt, osl⟩ := o
    simp only at hc hd
    subst hc hd
    wp_walk; exact ⟨_, rfl, h⟩
section
variable {prog : Program} {w : World} {A : Around} {E : Value → Shared → Prop} {s : Shared}
end
end BE
namespace L2
open PySem PySem.SeqAt PySem.Spec PyProof.Rows
section
variable {X : Cx}
end
end L2
set_option Elab.async false
set_option linter.all false
set_option maxRecDepth 100000
/-! a tuple once or not at all -/
namespace BE
open PySem PySem.W PySem.Spec PyProof.Rows
open Builtin
section
variable {prog : Program} {w : World} {A : Around} {E : Value → Shared → Prop} {s : Shared}
theorem mul_same {a : Addr} {o : Obj} {its : List Value} {n : Nat} {x : Int} {u : Tok} {P : PySem.Fin → Shared → Prop} (ho : s.heap.get? a = some o) (hc : o.cls = .type "tuple") (hd : o.data = .seq its.toArray n) (h0 : 0 ≤ x) (h1 : x ≤ 1) (hs : its.toArray.isEmpty = true ∨ x = 1)
    (h : P (.done (.ret (.ref a))) s) : wpAny (model prog w) A (Builtin.«tuple.__mul__» ⟨[.ref a, .int x u], []⟩) P E s := by
  show wpAny _ _ (asIndex (.int x u) >>= _) _ _ s
  refine wpAny_bind ?_
  show wpAny _ _ (pure x) _ _ s
  refine wpAny_pure ?_
  have c1 : (decide (x < -(2 ^ 63)) || decide (x ≥ 2 ^ 63)) = false := by rw [decide_eq_false (by omega), decide_eq_false (by omega)]; rfl
  simp only [c1, Bool.false_eq_true, if_false]
  refine wpAny_bind (wpAny_tupleItemsOf ho hd ?_)
  have c2 : (its.toArray.isEmpty || x == 1) = true := by
    rcases hs with e | e
    · rw [e]; rfl
    · rw [e]; simp
  simp only [c2, if_true]
  unfold Builtin.Tuple.tupleIsExact
  refine wpAny_bind ?_
  refine wpAny_bind (wpAny_typeOf ⟨o, ho, hc⟩ (wpAny_pure ?_))
  simp only [beq_self_eq_true, if_true]
  exact wpAny_bind (wpAny_rule (wpAny_pure h))
theorem mul_none {a : Addr} {o : Obj} {its : List Value} {n : Nat} {u : Tok} {P : PySem.Fin → Shared → Prop} (ho : s.heap.get? a = some o) (hd : o.data = .seq its.toArray n) (hne : its.toArray.isEmpty = false)
    (h : P (.done (.ret (.ref s.heap.objs.size))) { s with heap := s.heap.push { cls := .type "tuple", data := .seq #[] } }) : wpAny (model prog w) A (Builtin.«tuple.__mul__» ⟨[.ref a, .int 0 u], []⟩) P E s := by
  show wpAny _ _ (asIndex (.int 0 u) >>= _) _ _ s
  refine wpAny_bind ?_
  show wpAny _ _ (pure (0 : Int)) _ _ s
  refine wpAny_pure ?_
  simp only [show (decide ((0 : Int) < -(2 ^ 63)) || decide ((0 : Int) ≥ 2 ^ 63)) = false by decide, Bool.false_eq_true, if_false]
  refine wpAny_bind (wpAny_tupleItemsOf ho hd ?_)
  have c2 : (its.toArray.isEmpty || (0 : Int) == 1) = false := by rw [hne]; rfl
  simp only [c2, Bool.false_eq_true, if_false]
  simp only [show (decide ((0 : Int) ≤ 0) || its.toArray.isEmpty) = true by simp, if_true]
  refine wpAny_bind ?_
  unfold Builtin.Tuple.tupleExact
  exact wpAny_newObj_type (wpAny_pure h)
end
end BE
namespace L2
open PySem PySem.SeqAt PySem.Spec PyProof.Rows
section
variable {X : Cx}
def rRep01 : R2 := fun x y H Q => ∃ (a : Addr) (xs : List V) (b : Bool), x = .ref a ∧ y = .int (if b then 1 else 0) ∧ H a = some (.tup xs) ∧ ∀ (p : Addr) (H' : Hp), Same H H' → H' p = some (.tup (if b then xs else [])) → Q (.ref p) H'
theorem op_rep01 : OpR X (binaryOp .Mult) rRep01 := by
  intro pins s σ H x y v u Q I rx ry h
  obtain ⟨a, xs, b, rfl, rfl, hH, q⟩ := h
  cases rx
  obtain ⟨t, rfl⟩ := ry
  obtain ⟨its, r, ⟨o, ho, hc, n, hd⟩, hz2⟩ := I.tuple (SqT.of hH)
  have hl := r.length
  refine wpAny_binaryOp_repeat_ref (T := "tuple") (U := "int") (by decide) ⟨_, ho, hc⟩ (fun s' => typeIs_int s' _ t) BE.noFill_tuple_mul F.fills_int_mul F.slot_int_rmul BE.repeat_tuple F.slot_int_index.lookup
    (call_meets F.slot_int_rmul (typeIs_int s _ t) F.entry_int_rmul (F.args_int_rmul_2 _ _) (BE.int_rmul_tuple _ t a o hc _ _ hd)
      ⟨ho, rfl, ⟨_, ho, hc⟩, wpAny_call_entry F.slot_tuple_mul ⟨_, ho, hc⟩ F.entry_tuple_mul ?_ (F.args_tuple_mul_2 _ _)⟩)
  cases b with
  | true => exact BE.mul_same ho hc hd (by decide) (by decide) (.inr rfl) ⟨_, rfl, .ref a, H, I, rfl, q a H (Same.refl _) hH⟩
  | false =>
    cases its with
    | nil =>
      have e : xs = [] := List.length_eq_zero_iff.mp hl
      subst e
      exact BE.mul_same ho hc hd (by decide) (by decide) (.inl rfl) ⟨_, rfl, .ref a, H, I, rfl, q a H (Same.refl _) hH⟩
    | cons i0 ir =>
      refine BE.mul_none ho hd rfl ⟨_, rfl, ?_⟩
      have fr := I.hok.fresh (Nat.le_refl s.heap.objs.size)
      exact ⟨.ref s.heap.objs.size, _, I.laid (t' := s.toks) (o := .tup []) (fun b ob q => Heap.get?_push_of_some _ q) (Nat.le_refl _) ⟨Nat.zero_le _, [], .nil, TupP.new _ _⟩, rfl, q _ _ (same_new fr _) upd_same⟩
end
end L2
set_option Elab.async false
set_option linter.all false
/-! int of True and False -/
namespace L2
open PySem PySem.Spec PyProof.Rows
section
variable {X : Cx}
def rIntB : List V → Hp → VK → Prop := fun xs H Q => ∃ b : Bool, xs = [.bl b] ∧ Q (.int (if b then 1 else 0)) H
theorem call_intB : CallR X (.type "int") rIntB := by
  intro pins s σ H xs us Q I r h
  obtain ⟨b, rfl, q⟩ := h
  obtain ⟨u, rfl, ru⟩ := vals1 r
  cases ru
  exact call_int_bool ⟨.int _, H, I.tok _, ⟨_, rfl⟩, q⟩
end
end L2
set_option Elab.async false
set_option linter.all false
set_option maxRecDepth 100000
/-! range(a, b) as a value, list of it -/
namespace L2
open PySem PySem.Spec PyProof.Rows
theorem vals_runI (lo : Int) : ∀ (us : List Value) (k : Nat), (∀ j v, us[j]? = some v → ∃ t, v = Value.int (lo + ((k + j : Nat) : Int)) t) → Vals ((List.range' k us.length).map fun (j : Nat) => V.int (lo + (j : Int))) us
  | [], _, _ => .nil
  | u :: us, k, h => by
    obtain ⟨t, e⟩ := h 0 u rfl
    rw [List.length_cons, List.range'_succ, List.map_cons]
    refine .cons ⟨t, by rw [e]; rfl⟩ (vals_runI lo us (k + 1) fun j v q => ?_)
    obtain ⟨t', e'⟩ := h (j + 1) v (by simpa using q)
    exact ⟨t', by rw [e', show k + (j + 1) = k + 1 + j by omega]⟩
section
variable {X : Cx}
def rRng2 : List V → Hp → VK → Prop := fun xs H Q => ∃ lo hi : Int, xs = [.int lo, .int hi] ∧ ∀ r, H r = none → Q (.ref r) (upd H r (.rng lo hi))
theorem call_rng2 : CallR X (.type "range") rRng2 := by
  intro pins s σ H xs us Q I rs h
  obtain ⟨lo, hi, rfl, q⟩ := h
  cases rs with
  | cons r1 rs =>
    cases rs with
    | cons r2 rs =>
      cases rs
      obtain ⟨t, rfl⟩ := r1
      obtain ⟨t', rfl⟩ := r2
      refine call_range_2 ⟨.ref s.heap.objs.size, _, I.laid (o := .rng lo hi) (t' := _) (fun b o e => Heap.get?_push_of_some _ e) (Nat.le_refl _) ?_, rfl, q _ (I.hok.fresh (Nat.le_refl _))⟩
      exact ⟨_, _, _, Heap.get?_push_size _ rfl⟩
def rListR2 : List V → Hp → VK → Prop := fun xs H Q => ∃ (p : Addr) (lo hi : Int), xs = [.ref p] ∧ H p = some (.rng lo hi) ∧ 0 ≤ lo ∧ lo ≤ hi ∧ hi ≤ 1000 ∧ ∀ l, H l = none → Q (.ref l) (upd H l (.lst ((List.range (hi - lo).toNat).map fun (j : Nat) => V.int (lo + (j : Int)))))
theorem call_listR2 (hc : X.calm = true) : CallR X (.type "list") rListR2 := by
  intro pins s σ H xs us Q I rs h
  obtain ⟨p, lo, hi, rfl, hp, h0, h1, h2, q⟩ := h
  obtain ⟨u, rfl, ru⟩ := vals1 rs
  cases ru
  obtain ⟨t, u, v, e⟩ := I.hok p _ hp
  have e1 : Builtin.Range.rangeSize lo hi 1 = (((hi - lo).toNat : Nat) : Int) := by rw [rangeSize_one]; split <;> omega
  refine call_list_range (n := (hi - lo).toNat) (I.ok.hd hc) e (small_one (by omega) (by omega) (by omega) (by omega)) e1 (by omega) fun h' tk acc c' kp hl it => ?_
  have hv : Vals ((List.range (hi - lo).toNat).map fun (j : Nat) => V.int (lo + (j : Int))) acc.toList := by
    have z := vals_runI lo acc.toList 0 fun j v q => by
      obtain ⟨t, e⟩ := it.2 j v (by rw [← Array.getElem?_toList]; exact q)
      exact ⟨t, by rw [e]; congr 1; (try push_cast); (try omega)⟩
    have hs : acc.toList.length = (hi - lo).toNat := by rw [Array.length_toList]; exact it.1
    rw [hs, ← List.range_eq_range'] at z
    exact z
  refine ⟨.ref s.heap.objs.size, _, I.laid (o := .lst ((List.range (hi - lo).toNat).map fun (j : Nat) => V.int (lo + (j : Int)))) (t' := tk) kp (Nat.le_refl _) ?_, rfl, q _ (I.hok.fresh (Nat.le_refl _))⟩
  refine ⟨?_, acc.toList, c', hv, ?_⟩
  · rw [List.length_map, List.length_range]
    exact Nat.le_trans (show _ ≤ 1000 by omega) (by decide)
  · exact hl
end
end L2
set_option Elab.async false
set_option linter.all false
set_option maxRecDepth 100000
namespace Be
open PySem L2
/-- rows stand there -/
def RowsT (H : Hp) (ws : List V) (rs : List (List Int)) : Prop := ws.length = rs.length ∧ ∀ (i : Nat) (r : List Int), rs[i]? = some r → ∃ q, ws[i]? = some (.ref q) ∧ H q = some (.tup (r.map V.int))
theorem RowsT.nil {H : Hp} : RowsT H [] [] := ⟨rfl, fun i r h => by simp at h⟩
theorem RowsT.ts {H H' : Hp} {ws : List V} {rs : List (List Int)} (x : RowsT H ws rs) (g : TSame H H') : RowsT H' ws rs := ⟨x.1, fun i p hp => by
  obtain ⟨q, h1, h2⟩ := x.2 i p hp
  exact ⟨q, h1, g _ _ h2⟩⟩
theorem RowsT.append {H : Hp} {ws us : List V} {rs ss : List (List Int)} (x : RowsT H ws rs) (y : RowsT H us ss) : RowsT H (ws ++ us) (rs ++ ss) := by
  refine ⟨by rw [List.length_append, List.length_append, x.1, y.1], fun i r h => ?_⟩
  by_cases c : i < rs.length
  · rw [List.getElem?_append_left c] at h
    obtain ⟨q, h1, h2⟩ := x.2 i r h
    exact ⟨q, by rw [List.getElem?_append_left (by rw [x.1]; exact c)]; exact h1, h2⟩
  · rw [List.getElem?_append_right (by omega)] at h
    obtain ⟨q, h1, h2⟩ := y.2 _ r h
    exact ⟨q, by rw [List.getElem?_append_right (by rw [x.1]; omega), x.1]; exact h1, h2⟩
theorem RowsT.one {H : Hp} {q : Addr} {r : List Int} (h : H q = some (.tup (r.map V.int))) : RowsT H [.ref q] [r] := ⟨rfl, fun i p hp => by
  cases i with
  | zero => cases hp; exact ⟨q, rfl, h⟩
  | succ i => simp at hp⟩
theorem RowsT.snoc {H : Hp} {ws : List V} {rs : List (List Int)} {q : Addr} {r : List Int} (x : RowsT H ws rs) (h : H q = some (.tup (r.map V.int))) : RowsT H (ws ++ [.ref q]) (rs ++ [r]) := x.append (RowsT.one h)
theorem RowsT.at {H : Hp} {ws : List V} {rs : List (List Int)} (x : RowsT H ws rs) {i : Nat} {u : V} (h : ws[i]? = some u) : ∃ (r : List Int) (q : Addr), rs[i]? = some r ∧ u = .ref q ∧ H q = some (.tup (r.map V.int)) := by
  have hi : i < rs.length := by rw [← x.1]; exact (List.getElem?_eq_some_iff.mp h).1
  obtain ⟨q, h1, h2⟩ := x.2 i _ (List.getElem?_eq_getElem hi)
  rw [h] at h1
  exact ⟨_, q, List.getElem?_eq_getElem hi, Option.some.inj h1, h2⟩
section
variable {P : Program} {w : World} {K : PySem.W.Frag} {mg : Str → Option Value} {base : Heap}
theorem take_snoc4 {α : Type} {l : List α} {i : Nat} {x : α} (h : l[i]? = some x) : l.take (i + 1) = l.take i ++ [x] := by
  rw [List.take_add_one, h]; rfl
theorem all_len5 {bs : List (Int × Int)} (h5 : bs.length ≤ 5) (h : ∀ p ∈ bs, p.2 ≤ p.1 + 2) : (allL bs).length ≤ 243 := by
  have a := fold_len (rows := [[]]) h
  have b : 3 ^ bs.length ≤ 3 ^ 5 := Nat.pow_le_pow_right (by decide) h5
  have e : (3 : Nat) ^ 5 = 243 := by decide
  show (bs.foldl stepL [[]]).length ≤ 243
  simp only [List.length_cons, List.length_nil] at a
  omega
def encL (r : List Int) : PyData := .tuple (r.map .int)
theorem RowsT.reps {H : Hp} : ∀ {ws : List V} {rs : List (List Int)}, RowsT H ws rs → Reps H ws (rs.map encL)
  | [], [], _ => .nil
  | [], _ :: _, x => by have := x.1; simp at this
  | _ :: _, [], x => by have := x.1; simp at this
  | w :: ws, r :: rs, x => by
    obtain ⟨q, h1, h2⟩ := x.2 0 r rfl
    have e : w = .ref q := by simpa using h1
    subst e
    exact .cons (.tup h2 Reps.ints) (RowsT.reps ⟨by have := x.1; simpa using this, fun i r' h => by
      obtain ⟨q, h1, h2⟩ := x.2 (i + 1) r' (by simpa using h)
      exact ⟨q, by simpa using h1, h2⟩⟩)
theorem sh_encLs : ∀ rs : List (List Int), PyData.canLayAll0 (rs.map encL) = true ∧ PyData.depthAll (rs.map encL) ≤ 12
  | [] => ⟨rfl, Nat.zero_le _⟩
  | r :: rs => by
    obtain ⟨a, b⟩ := sh_encLs rs
    have d := dep_ints r
    have : PyData.canLay0 (encL r) = true ∧ PyData.depth (encL r) ≤ 12 := by
      unfold encL
      rw [PyData.canLay0, PyData.depth]
      exact ⟨lay_ints r, by omega⟩
    refine ⟨?_, ?_⟩
    · show (PyData.canLay0 (encL r) && PyData.canLayAll0 (rs.map encL)) = true
      rw [a, this.1]; rfl
    · show max (PyData.depth (encL r)) (PyData.depthAll (rs.map encL)) ≤ 12
      omega
theorem sh_encL (rs : List (List Int)) : SeqAt.shaped (.list (rs.map encL)) = true := by
  obtain ⟨a, b⟩ := sh_encLs rs
  unfold SeqAt.shaped
  rw [PyData.canLay0, a, Bool.true_and, PyData.depth]
  exact decide_eq_true (by omega)
theorem eqv_none (rs : List (List Int)) : (!PyData.eqv (.list (rs.map encL)) (.list [])) = decide (rs ≠ []) := by
  cases rs with
  | nil => rfl
  | cons r rs =>
    rw [PyData.eqv]
    rfl
def sp_law (K : PySem.W.Frag) : Sp := fun vs H Q _ => ∃ (a : Addr) (ns : List Int), vs = [.ref a] ∧ Scr K H a ns ∧ ∀ H', Q (.bl true) H'
set_option maxHeartbeats 4000000 in
theorem ok_law (T : Txt K mg) : FnOk P w K mg base (CXr P w) 12 T.law.a T.law.d ["_law_script"] (sp_law K) := by
  refine T.law.F.okN sc_law (fun vs H Q E h => ?_) (fun cdv A outer s H vs Q E hr h => ?_)
  · obtain ⟨a, ns, rfl, _⟩ := h; rfl
  obtain ⟨a, ns, rfl, hS, qq⟩ := h
  have hu64 : (A.deeper (PyProof.Rows.envOfC "law" (defScope (top 54)) s.heap.objs.size T.law.a cdv)).units + 64 < cLine := by have := hr.un; omega
  refine ⟨_, (pss_cons (ps_set (i := 1) sc_law.nd rfl (by first | exact Or.inl rfl | exact Or.inr rfl) (pe_lst pa_nil)) (pss_cons (ps_set (i := 2) sc_law.nd rfl (by first | exact Or.inl rfl | exact Or.inr rfl) (pe_call (ok_law_world T) (hr.mono (by decide)) rfl T.law_world.m T.law_world.F.kp T.law_world.b .nil passN (pa_cons (pv 0) (pa_cons (pv 1) (pa_cons pe_int (pa_cons pe_int pa_nil)))))) (pss_cons (ps_set (i := 3) sc_law.nd rfl (by first | exact Or.inl rfl | exact Or.inr rfl) (pe_call (ok_law_order T) (hr.mono (by decide)) rfl T.law_order.m T.law_order.F.kp T.law_order.b .nil passN (pa_cons (pv 0) (pa_cons (pv 1) (pa_cons (pv 2) pa_nil))))) (pss_cons (ps_set (i := 4) sc_law.nd rfl (by first | exact Or.inl rfl | exact Or.inr rfl) (pe_lst (pa_cons (pe_tup pa_nil) pa_nil))) (pss_cons (ps_for PassesOwn.never rfl (pi_tup (pe_ix ix_tup (pv 2) pe_int (fun _ _ => rfl))) (pg_tup rfl (pgs_cons (pg_name (i := 5) sc_law.nd rfl (by first | exact Or.inl rfl | exact Or.inr rfl)) (pgs_cons (pg_name (i := 6) sc_law.nd rfl (by first | exact Or.inl rfl | exact Or.inr rfl)) pgs_nil))) (pss_cons (ps_set (i := 7) sc_law.nd rfl (by first | exact Or.inl rfl | exact Or.inr rfl) (pe_lst pa_nil)) (pss_cons (ps_for PassesOwn.never rfl (pi_list (pv 4)) (pg_name (i := 8) sc_law.nd rfl (by first | exact Or.inl rfl | exact Or.inr rfl)) (pss_one (ps_expr (pe_bm PySem.F.plainAttrs_list PySem.F.slot_list_extend PySem.F.type_list_extend mt_extend (pv 7) (pa_cons (pe_comp (NB := ["_law_one", "_law_row"]) (js := [none, some 8]) rfl (blkOk_of rfl (by decide +kernel) rfl (by decide +kernel) (by decide +kernel) (by with_unfolding_all rfl) (by with_unfolding_all rfl) (by with_unfolding_all rfl) (by with_unfolding_all rfl)) (pi_range2 rfl T.n_range (pa_cons (pv 5) (pa_cons (pe_op op_add (pv 6) pe_int) pa_nil))) (fun _ _ _ _ => (pg_name (i := 0) (show (["_law_one", "_law_row"] : List Str).Nodup by decide +kernel) rfl (by first | exact Or.inl rfl | exact Or.inr rfl))) (fun _ _ _ _ => pf_nil) (fun _ _ _ _ => (pe_op op_catA (pv 1) (pe_tup (pa_cons (pv 0) pa_nil))))) pa_nil))))) (pss_one (ps_set (i := 4) sc_law.nd rfl (by first | exact Or.inl rfl | exact Or.inr rfl) (pv 7)))))) (pss_cons (ps_compset (NB := ["_law_row", "_law_world_here", "_law_order_here"]) (js := [none, some 2, some 3]) (i := 9) sc_law.nd rfl (by first | exact Or.inl rfl | exact Or.inr rfl) rfl (blkOk_of rfl (by decide +kernel) rfl (by decide +kernel) (by decide +kernel) (by with_unfolding_all rfl) (by with_unfolding_all rfl) (by with_unfolding_all rfl) (by with_unfolding_all rfl)) (pi_list (pv 4)) (fun _ _ _ _ => (pg_name (i := 0) (show (["_law_row", "_law_world_here", "_law_order_here"] : List Str).Nodup by decide +kernel) rfl (by first | exact Or.inl rfl | exact Or.inr rfl))) (fun _ _ _ _ => (pf_one (pt_val (pe_call (ok_law_told T) (hr.mono (by decide)) rfl T.law_told.m T.law_told.F.kp T.law_told.b .nil passN (pa_cons (pv 1) (pa_cons (pv 2) (pa_cons (pv 0) pa_nil))))))) (fun _ _ _ _ => (pv 0))) (pss_cons (ps_if (pt_cmpR op_ne (pe_call (ok_could T) (hr.mono (by decide)) rfl T.could.m T.could.F.kp T.could.b .nil passN (pa_cons (pv 2) (pa_cons (pv 3) pa_nil))) (pe_cmpR (op_neD hu64) (pv 9) (pe_lst pa_nil) (nomark _)) (nomark _)) (pss_one (ps_ret pe_bl)) pss_nil) (pss_cons (ps_for PassesOwn.never rfl (pi_tup (pe_op op_rep01 (pv 3) (pe_callTy call_intB rfl T.n_int bt_int (pa_cons (pe_cmpR (op_neD hu64) (pv 9) (pe_lst pa_nil) (nomark _)) pa_nil)))) (pg_name (i := 10) sc_law.nd rfl (by first | exact Or.inl rfl | exact Or.inr rfl)) (pss_cons (ps_asg (pe_call (ok_length T) (hr.mono (by decide)) rfl T.length.m T.length.F.kp T.length.b .nil passN (pa_cons (pv 2) (pa_cons (pv 3) (pa_cons (pv 10) pa_nil)))) (pg_tup rfl (pgs_cons (pg_name (i := 11) sc_law.nd rfl (by first | exact Or.inl rfl | exact Or.inr rfl)) (pgs_cons (pg_name (i := 12) sc_law.nd rfl (by first | exact Or.inl rfl | exact Or.inr rfl)) pgs_nil)))) (pss_one (ps_if (pt_cmpR (op_neD hu64) (pe_sortset rfl rfl T.n_sorted rfl T.n_set (pe_comp (NB := ["_law_row", "_law_work"]) (js := [none, some 10]) rfl (blkOk_of rfl (by decide +kernel) rfl (by decide +kernel) (by decide +kernel) (by with_unfolding_all rfl) (by with_unfolding_all rfl) (by with_unfolding_all rfl) (by with_unfolding_all rfl)) (pi_list (pv 9)) (fun _ _ _ _ => (pg_name (i := 0) (show (["_law_row", "_law_work"] : List Str).Nodup by decide +kernel) rfl (by first | exact Or.inl rfl | exact Or.inr rfl))) (fun _ _ _ _ => pf_nil) (fun _ _ _ _ => (pe_ix (b_ix_tup K) (pv 0) (pv 1) (fun _ _ => rfl))))) (pe_callTy (call_listR2 rfl) rfl T.n_list bt_list (pa_cons (pe_callTy call_rng2 rfl T.n_range bt_range (pa_cons (pv 11) (pa_cons (pe_op op_add (pv 12) pe_int) pa_nil))) pa_nil)) (nomark _)) (pss_one (ps_ret pe_bl)) pss_nil)))) (pss_one (ps_ret pe_bl)))))))))), ?_⟩
  refine ⟨Nat.zero_le _, fun t ht => ?_⟩
  have g1 := same_new ht (.lst [])
  have hS1 := hS.same g1
  have t1 : upd H t (.lst []) t = some (.lst (zeros 0)) := upd_same
  generalize upd H t (.lst []) = HA at *
  refine ⟨_, rfl, _, rfl, a, t, ns, 0, 5, 3, rfl, hS1, t1, by omega, by omega, by omega, by omega, by omega, fun W v n1 HB hok hwl hwd hW g2 t2 hn2 => ?_⟩
  have hS2 := g2.scr t1 hS1
  refine ⟨_, rfl, _, rfl, _, rfl, a, t, v, ns, n1, W, rfl, hS2, t2, by omega, hW, hok, fun o ov n2 HC vo ho g3 t3 hn3 => ?_⟩
  have hW3 : Rep HC v (encW W) := hW.tmono (g3.ts t2) (im_W W)
  clear hW g2 g3 hS2 hS1 t1 t2 g1 ht hS
  have h4 : W.bs.length ≤ 5 := by omega
  have h3 : ∀ p ∈ W.bs, p.2 ≤ p.1 + 2 := fun p hp => by have := hwd p hp; omega
  have hi3 : ∀ p ∈ W.bs, p.2 ≤ 5 := fun p hp => by have := hwd p hp; omega
  obtain ⟨ca, cp, cvs, AW⟩ := atW hW3
  obtain rfl := AW.v
  -- all lengths
  refine ⟨by show 0 ≤ sizeLine; decide, fun e0 he0 => ?_⟩
  have g0 := same_new he0 (.tup [])
  refine ⟨by show 1 ≤ sizeLine; decide, fun f0 hf0 => ?_⟩
  have g01 := same_new hf0 (.lst [.ref e0])
  have ff0 : HC f0 = none := g0.free hf0
  have hf1 : upd (upd HC e0 (.tup [])) f0 (.lst [.ref e0]) f0 = some (.lst [.ref e0]) := upd_same
  have he1 : upd (upd HC e0 (.tup [])) f0 (.lst [.ref e0]) e0 = some (.tup (([] : List Int).map V.int)) := g01 _ _ upd_same
  have g1 := g0.trans g01
  generalize upd (upd HC e0 (.tup [])) f0 (.lst [.ref e0]) = H1 at *
  refine ⟨_, rfl, ca, _, _, _, rfl, rfl, SqT.of (g1 _ _ AW.a), rfl, cp, rfl, ⟨_, SqT.of (g1 _ _ AW.p)⟩, for_tup (K := K) (a := cp) (xs := cvs) (fun i σ H2 => ∃ (f : Addr) (ws : List V) (x2 x3 x4 x5 : Option V), σ = [some (.ref a), some (.ref t), some (.ref ca), some ov, some (.ref f), x2, x3, x4, x5, none, none, none, none] ∧ Same HC H2 ∧ HC f = none ∧ H2 f = some (.lst ws) ∧ RowsT H2 ws (allL (W.bs.take i))) ?_ ?_ ?_ ?_⟩
  · exact ⟨f0, _, none, none, none, none, rfl, g1, ff0, hf1, RowsT.one he1⟩
  · rintro i σ H2 _ ⟨f, ws, x2, x3, x4, x5, rfl, g, _⟩
    exact SqT.of (g _ _ AW.p)
  · rintro i u σ H2 hu ⟨f, ws, x2, x3, x4, x5, rfl, g, ff, hf, rt⟩
    have hi : i < W.bs.length := by rw [← AW.len]; exact (List.getElem?_eq_some_iff.mp hu).1
    obtain ⟨q', hq', hqt⟩ := AW.it i _ (List.getElem?_eq_getElem hi)
    rw [hu] at hq'
    obtain rfl := Option.some.inj hq'
    have bp := hok.bd _ (List.getElem_mem hi)
    have wp := h3 _ (List.getElem_mem hi)
    have et : W.bs.take (i + 1) = W.bs.take i ++ [W.bs[i]] := take_snoc4 (List.getElem?_eq_getElem hi)
    generalize W.bs[i] = pp at *
    refine ⟨q', _, rfl, SqT.of (g _ _ hqt), rfl, _, _, rfl, _, _, rfl, rfl, ?_⟩
    -- longer = []
    refine ⟨Nat.zero_le _, fun l hl => ?_⟩
    have k0 := same_new hl (.lst [])
    have fl : HC l = none := g.free hl
    have lf : l ≠ f := fun z => by rw [z, hf] at hl; cases hl
    have hl1 : upd H2 l (.lst []) l = some (.lst []) := upd_same
    have hf1' := k0 _ _ hf
    have rt1 := rt.ts k0.ts
    have gl := g.trans k0
    have wl := rt.1
    have rl := all_len5 (bs := W.bs.take i) (by rw [List.length_take]; omega) fun p hp => h3 p (List.mem_of_mem_take hp)
    generalize upd H2 l (.lst []) = H3 at *
    refine ⟨_, rfl, f, rfl, ⟨_, SqL.of hf1'⟩, for_list (K := K) (a := f) (xs := ws) (fun j σ H4 => ∃ (us : List V) (z : Option V), σ = [some (.ref a), some (.ref t), some (.ref ca), some ov, some (.ref f), some (.int pp.1), some (.int pp.2), some (.ref l), z, none, none, none, none] ∧ Same HC H4 ∧ H4 f = some (.lst ws) ∧ RowsT H4 ws (allL (W.bs.take i)) ∧ H4 l = some (.lst us) ∧ RowsT H4 us (((allL (W.bs.take i)).take j).flatMap (extL pp))) ?_ ?_ ?_ ?_⟩
    · exact ⟨[], _, rfl, gl, hf1', rt1, hl1, RowsT.nil⟩
    · rintro j σ H4 _ ⟨us, z, rfl, g4, hf4, _⟩
      exact SqL.of hf4
    · rintro j u σ H4 hu ⟨us, z, rfl, g4, hf4, rt4, hl4, ru4⟩
      obtain ⟨row, qr, hrow, rfl, hqr⟩ := rt4.at hu
      have hra := row_len (List.mem_of_getElem? hrow)
      rw [List.length_take] at hra
      have hj : j < ws.length := (List.getElem?_eq_some_iff.mp hu).1
      refine ⟨_, rfl, .inl ⟨rfl, _, SqL.of hl4⟩, _, rfl, _, rfl, _, _, rfl, rfl, pp.1, pp.2 + 1, rfl, ⟨by first | decide | omega, by first | decide | omega, by first | omega | decide, by first | omega | decide⟩, fun D hD => ?_⟩
      have Dl : D ≠ l := fun z => by rw [z, hl4] at hD; cases hD
      refine comp_rangeR (n := (pp.2 + 1 - pp.1).toNat) (fun m ys H5 => Same H4 H5 ∧ H5 D = some (.lst ys) ∧ RowsT H5 ys ((extL pp row).take m)) ⟨same_new hD _, upd_same, by rw [List.take_zero]; exact RowsT.nil⟩ (fun m ys H5 hm hP => ?_) (fun ys H5 hP => ?_)
      · obtain ⟨g5, hD5, ry⟩ := hP
        have yl := ry.1
        rw [List.length_take] at yl
        have e3 := extA_len wp row
        have em : (extL pp row)[m]? = some (row ++ [pp.1 + (m : Int)]) := by unfold extL; rw [List.getElem?_map, List.getElem?_range hm]; rfl
        refine ⟨agree0, iteT ⟨_, rfl, _, rfl, by show 1 ≤ sizeLine; decide, fun p1 hp1 => ?_⟩⟩
        have kp := same_new hp1 (.tup [.int (pp.1 + (m : Int))])
        have e1 : upd H5 p1 (.tup [.int (pp.1 + (m : Int))]) p1 = some (.tup [.int (pp.1 + (m : Int))]) := upd_same
        generalize upd H5 p1 (.tup [.int (pp.1 + (m : Int))]) = H6 at *
        refine ⟨qr, p1, _, _, rfl, rfl, kp _ _ (g5 _ _ hqr), e1, ?_, fun p2 H7 g7 h7 => ?_⟩
        · rw [List.length_map]
          exact Nat.le_trans (show _ + 1 ≤ 100 by omega) (by decide)
        have k7 := kp.trans g7
        have hD7 := k7 _ _ hD5
        refine ⟨hD7, Nat.lt_of_lt_of_le (show ys.length < 100 by omega) (by decide), (g5.trans k7).write hD _, upd_same, ?_⟩
        rw [take_snoc4 em]
        refine RowsT.snoc (ry.ts (k7.ts.trans (TSame.lst hD7 _))) ?_
        refine (TSame.lst hD7 _) _ _ ?_
        rw [h7, List.map_append]
        rfl
      obtain ⟨g5, hD5, ry⟩ := hP
      have el : (extL pp row).length = (pp.2 + 1 - pp.1).toNat := by unfold extL; rw [List.length_map, List.length_range]
      rw [List.take_of_length_le (by omega)] at ry
      have hl5 := g5 _ _ hl4
      have ul := ru4.1
      have ul2 := stepL_len wp ((allL (W.bs.take i)).take j)
      have ul3 : ((allL (W.bs.take i)).take j).length ≤ 243 := by rw [List.length_take]; omega
      have ul4 : us.length ≤ 729 := by
        have : us.length = (stepL ((allL (W.bs.take i)).take j) pp).length := ul
        omega
      have yl := ry.1
      have e3 := extA_len wp row
      refine ⟨l, D, us, ys, rfl, rfl, hl5, hD5, Nat.le_trans (show _ ≤ 1000 by omega) (by decide), ?_⟩
      have tsl : TSame H5 (upd H5 l (.lst (us ++ ys))) := TSame.lst hl5 _
      refine ⟨us ++ ys, _, rfl, (g4.trans g5).write fl _, by rw [upd_ne (Ne.symm lf)]; exact g5 _ _ hf4, (rt4.ts g5.ts).ts tsl, upd_same, ?_⟩
      rw [take_snoc4 hrow, List.flatMap_append, List.flatMap_cons, List.flatMap_nil, List.append_nil]
      exact ((ru4.ts g5.ts).ts tsl).append (ry.ts tsl)
    · rintro σ H4 ⟨us, z, rfl, g4, hf4, rt4, hl4, ru4⟩
      rw [rt.1, List.take_length] at ru4
      refine ⟨_, rfl, l, us, _, _, _, _, rfl, g4, fl, hl4, ?_⟩
      rw [et, allL_snoc]
      exact ru4
  · rintro σ H2 ⟨f, ws, x2, x3, x4, x5, rfl, g, ff, hf, rt⟩
    rw [AW.len, List.take_length] at rt
    have hW4 := hW3.mono g
    have ho4 := ho.mono g
    obtain ⟨po, rfl, hpo⟩ := seqO (K := K) ho4
    have al := all_len5 h4 h3
    have wl := rt.1
    -- the good ones
    refine ⟨_, rfl, f, rfl, ⟨_, SqL.of hf⟩, fun D hD => ?_⟩
    refine comp_listR (K := K) (a := f) (xs := ws) (fun i ys H3 => Same H2 H3 ∧ H3 D = some (.lst ys) ∧ RowsT H3 ys (((allL W.bs).take i).filter (toldB W o))) ⟨same_new hD _, upd_same, RowsT.nil⟩ (fun i ys H3 _ hP => SqL.of (hP.1 _ _ hf)) (fun i ys y H3 hy hP => ?_) (fun ys H3 hP => ?_)
    · obtain ⟨g3, hD3, ry⟩ := hP
      obtain ⟨row, qr, hrow, rfl, hqr⟩ := (rt.ts g3.ts).at hy
      have rl := row_len (List.mem_of_getElem? hrow)
      refine ⟨agree0, _, rfl, _, rfl, _, rfl, .ref ca, .ref po, qr, W, o, row, rfl, hW4.mono g3, hok, ho4.mono g3, vo, hqr, rl, fun H4 g4 => ⟨_, rfl, ?_⟩⟩
      have hD4 := g4 _ _ hD3
      have yl := ry.1
      have fl := List.length_filter_le (toldB W o) ((allL W.bs).take i)
      rw [List.length_take] at fl
      have ry4 := ry.ts g4.ts
      rw [take_snoc4 hrow, List.filter_append]
      cases c : toldB W o row with
      | true =>
        refine iteT ⟨_, rfl, hD4, Nat.lt_of_lt_of_le (show _ < 1000 by omega) (by decide), (g3.trans g4).write hD _, upd_same, ?_⟩
        rw [List.filter_cons_of_pos c]
        exact (ry4.ts (TSame.lst hD4 _)).snoc ((TSame.lst hD4 _) _ _ (g4 _ _ hqr))
      | false =>
        refine if_f rfl ⟨g3.trans g4, hD4, ?_⟩
        rw [List.filter_cons_of_neg (by rw [c]; decide), List.filter_nil, List.append_nil]
        exact ry4
    obtain ⟨g3, hD3, ry⟩ := hP
    rw [wl, List.take_length] at ry
    have ry : RowsT H3 ys (goodL W o) := ry
    have hW5 := hW4.mono g3
    have ho5 := ho4.mono g3
    have hpo5 := g3 _ _ hpo
    have gc := good_could hok vo
    have glen : ∀ (x : Int) (j : Nat), o[j]? = some x → ∀ (l m : Int), Len W o x j l m → ∀ k : Int, k ∈ (goodL W o).map (fun ls => ls.getD x.toNat 0) ↔ l ≤ k ∧ k ≤ m := fun x j hj l m L k => good_len hok vo hj L k
    have gin : ∀ ls ∈ goodL W o, InBd W ls := fun ls h => (good_mem.mp h).1
    have gle : (goodL W o).length ≤ 243 := Nat.le_trans (List.length_filter_le _ _) al
    generalize goodL W o = GL at *
    -- could
    refine ⟨_, rfl, _, rfl, .ref ca, .ref po, W, o, rfl, hW5, hok, ho5, vo, fun H4 g4 => ?_⟩
    refine ⟨_, rfl, Nat.zero_le _, fun e1 he1 => ?_⟩
    have k1 := same_new he1 (.lst [])
    have ry4 := (ry.ts g4.ts).ts k1.ts
    have hD4 := k1 _ _ (g4 _ _ hD3)
    refine ⟨_, _, .lst hD4 ry4.reps, .lst upd_same .nil, sh_encL _, rfl, rfl, _, rfl, if_f ?_ ?_⟩
    · rw [eqv_none, gc]
      simp
    have g5 := g4.trans k1
    generalize upd H4 e1 (.lst []) = H5 at *
    -- each work of the order
    refine ⟨_, rfl, _, rfl, Nat.zero_le _, fun e2 he2 => ?_⟩
    have k2 := same_new he2 (.lst [])
    have ry5 := ry4.ts k2.ts
    have hD5 := k2 _ _ hD4
    refine ⟨_, _, .lst hD5 ry5.reps, .lst upd_same .nil, sh_encL _, rfl, _, rfl, ?_⟩
    rw [eqv_none]
    have g6 := g5.trans k2
    generalize upd H5 e2 (.lst []) = H6 at *
    refine ⟨po, _, decide (GL ≠ []), rfl, rfl, g6 _ _ hpo5, fun px H7 g7 hpx => ?_⟩
    have g67 := g6.trans g7
    have hW7 := hW5.mono g67
    have ho7 := ho5.mono g67
    have hD7 := g7 _ _ hD5
    have ry7 := ry5.ts g7.ts
    refine ⟨px, rfl, ⟨_, SqT.of hpx⟩, for_tup (K := K) (a := px) (xs := if decide (GL ≠ []) then o.map V.int else []) (fun i σ H8 => ∃ (y10 y11 y12 : Option V), σ = [some (.ref a), some (.ref t), some (.ref ca), some (.ref po), some (.ref f), x2, x3, x4, x5, some (.ref D), y10, y11, y12] ∧ Same H7 H8) ⟨none, none, none, rfl, Same.refl _⟩ ?_ ?_ ?_⟩
    · rintro i σ H8 _ ⟨y10, y11, y12, rfl, g8⟩
      exact SqT.of (g8 _ _ hpx)
    · rintro i u σ H8 hu ⟨y10, y11, y12, rfl, g8⟩
      have hb : decide (GL ≠ []) = true := by
        cases c : decide (GL ≠ []) with
        | true => rfl
        | false => rw [c] at hu; simp at hu
      rw [hb] at hu
      obtain ⟨x, hx, rfl⟩ := int_at4 hu
      rw [hb] at gc
      obtain ⟨r, hr8⟩ := Option.isSome_iff_exists.mp gc
      have xl := vo.lt (List.mem_of_getElem? hx)
      refine ⟨_, rfl, _, rfl, _, rfl, .ref ca, .ref po, W, o, r, x, i, rfl, hW7.mono g8, hok, ho7.mono g8, vo, hr8, hx, fun l m p2 H9 L g9 hp2 => ⟨p2, _, rfl, SqT.of hp2, rfl, _, _, rfl, _, _, rfl, rfl, ?_⟩⟩
      have gl := glen x i hx l m L
      obtain ⟨fl, hfl, efl⟩ := L.l1
      obtain ⟨fm, hfm, efm⟩ := L.m1
      have b1 := feas_len hok vo hfl hx
      have b2 := feas_len hok vo hfm hx
      obtain ⟨pw, w1, s1⟩ := L.m2
      have lm := w1.bound hfl
      have g89 := g8.trans g9
      have hD9 := g89 _ _ hD7
      have ry9 := ry7.ts g89.ts
      have yl := ry.1
      -- the lengths that are there
      refine ⟨_, rfl, D, rfl, ⟨_, SqL.of hD9⟩, fun D2 hD2 => ?_⟩
      refine comp_listR (K := K) (a := D) (xs := ys) (fun k zs H10 => Same H9 H10 ∧ H10 D2 = some (.lst zs) ∧ zs = ((GL.take k).map fun ls => ls.getD x.toNat 0).map V.int) ⟨same_new hD2 _, upd_same, rfl⟩ (fun k zs H10 _ hP => SqL.of (hP.1 _ _ hD9)) (fun k zs z H10 hz hP => ?_) (fun zs H10 hP => ?_)
      · obtain ⟨g10, hz2, rfl⟩ := hP
        obtain ⟨row, qr, hrow, rfl, hqr⟩ := (ry9.ts g10.ts).at hz
        have rb := gin row (List.mem_of_getElem? hrow)
        have rl := rb.len
        refine ⟨agree0, iteT ⟨_, rfl, _, rfl, qr, _, _, _, rfl, rfl, SqT.of hqr, at_fn xl.1 (by omega), hz2, ?_, g10.write hD2 _, upd_same, ?_⟩⟩
        · rw [List.length_map, List.length_map, List.length_take]
          exact Nat.lt_of_lt_of_le (show _ < 1000 by omega) (by decide)
        · rw [take_snoc4 hrow, List.map_append, List.map_append]; rfl
      obtain ⟨g10, hz2, rfl⟩ := hP
      rw [yl, List.take_length] at hz2
      have bx : ∀ k ∈ GL.map (fun ls => ls.getD x.toNat 0), (bnd W x).1 ≤ k ∧ k ≤ (bnd W x).2 := fun k hk => by
        obtain ⟨ls, hls, rfl⟩ := List.mem_map.mp hk
        have rb := gin ls hls
        have := rb.bd x.toNat (by rw [rb.len]; omega)
        rw [show ((x.toNat : Nat) : Int) = x by omega] at this
        exact this
      have bo := bnd_ok hok xl.1 xl.2
      have bw : (bnd W x).2 ≤ (bnd W x).1 + 2 := by
        unfold bnd
        have hx5 : x.toNat < W.bs.length := by omega
        rw [List.getD_eq_getElem?_getD, List.getElem?_eq_getElem hx5]
        exact h3 _ (List.getElem_mem hx5)
      refine ⟨D2, _, rfl, hz2, ⟨fun k hk => by have := bx k hk; omega, [(bnd W x).1, (bnd W x).1 + 1, (bnd W x).1 + 2], by show 3 ≤ 4; omega, fun k hk => ?_⟩, fun l2 ms hl2 hmem hnd hpw => ?_⟩
      · have := bx k hk
        simp only [List.mem_cons, List.not_mem_nil, or_false]
        omega
      have k11 := same_new hl2 (.lst (ms.map V.int))
      have e11 : upd H10 l2 (.lst (ms.map V.int)) l2 = some (.lst (ms.map V.int)) := upd_same
      generalize upd H10 l2 (.lst (ms.map V.int)) = H11 at *
      refine ⟨_, rfl, _, rfl, _, _, rfl, rfl, l, m + 1, rfl, fun rr hrr => ?_⟩
      have k12 := same_new hrr (.rng l (m + 1))
      refine ⟨rr, l, m + 1, rfl, upd_same, by omega, by omega, by omega, fun l3 hl3 => ?_⟩
      have k13 := same_new hl3 (.lst ((List.range (m + 1 - l).toNat).map fun (j : Nat) => V.int (l + (j : Int))))
      have em : ms = (List.range (m + 1 - l).toNat).map fun (j : Nat) => l + (j : Int) := by
        refine sorted_one (perm_of hnd ?_ fun k => ?_) hpw ?_
        · unfold List.Nodup
          rw [List.pairwise_map]
          exact List.pairwise_lt_range.imp fun h => by omega
        · rw [hmem k, gl k]
          constructor
          · rintro ⟨h1, h2⟩
            exact List.mem_map.mpr ⟨(k - l).toNat, List.mem_range.mpr (by omega), by omega⟩
          · intro hk
            obtain ⟨j, hj, rfl⟩ := List.mem_map.mp hk
            have := List.mem_range.mp hj
            omega
        · rw [List.pairwise_map]
          exact List.pairwise_lt_range.imp fun h => by omega
      have ev : (List.range (m + 1 - l).toNat).map (fun (j : Nat) => V.int (l + (j : Int))) = ms.map V.int := by rw [em, List.map_map]; rfl
      rw [ev]
      rw [ev] at k13
      refine ⟨_, _, .lst (k13 _ _ (k12 _ _ e11)) Reps.ints, .lst upd_same Reps.ints, sh_ints _, sh_ints _, _, rfl, if_f (by rw [SeqAt.eqv_refl _ (SeqAt.canLay_of_shaped (sh_ints _))]; rfl) ?_⟩
      exact ⟨_, _, _, rfl, g89.trans (g10.trans (k11.trans (k12.trans k13)))⟩
    · rintro σ H8 ⟨y10, y11, y12, rfl, g8⟩
      exact qq _
end
end Be
set_option Elab.async false
set_option linter.all false
set_option maxRecDepth 100000
namespace Be
open PySem L2
theorem ar1 {F : List Value → Prop} (h : ∀ a, F [a]) : ∀ us, us.length = 1 → F us
  | [a], _ => h a
theorem ar2 {F : List Value → Prop} (h : ∀ a b, F [a, b]) : ∀ us, us.length = 2 → F us
  | [a, b], _ => h a b
theorem ar3 {F : List Value → Prop} (h : ∀ a b c, F [a, b, c]) : ∀ us, us.length = 3 → F us
  | [a, b, c], _ => h a b c
theorem ar4 {F : List Value → Prop} (h : ∀ a b c d, F [a, b, c, d]) : ∀ us, us.length = 4 → F us
  | [a, b, c, d], _ => h a b c d
theorem ar5 {F : List Value → Prop} (h : ∀ a b c d e, F [a, b, c, d, e]) : ∀ us, us.length = 5 → F us
  | [a, b, c, d, e], _ => h a b c d e
theorem ar6 {F : List Value → Prop} (h : ∀ a b c d e f, F [a, b, c, d, e, f]) : ∀ us, us.length = 6 → F us
  | [a, b, c, d, e, f], _ => h a b c d e f
def def_mk {K : PySem.W.Frag} {h : Heap} {mg : Str → Option Value} {x : Str} {st : Stmt} {ps : List Str} {f : Addr} {od an : Option Addr} {sl : Array (Option Value)} {oc kV dc pm cd ct : Value} (X : K.In h) (G : h.Ns mainGlobals mg) (a : PySem.W.nsIn K mainGlobals x = some (some (.ref f)))
    (l : K.lookup f = some ⟨oc, od, .func (PySem.W.fnOf x x (defArgs st) (defBody st) (defScope st) .none kV dc pm an cd ct), sl⟩) (c : PySem.W.codeIn K cd x = true) (k : PySem.W.keepIn K (.ref f) = true)
    (hb : ∀ (kV doc pm : Value) (an : Option Addr) (cdv ct : Value) (us : List Value), us.length = ps.length → bindArgs (PySem.W.fnOf x x (defArgs st) (defBody st) (defScope st) .none kV doc pm an cdv ct) ⟨us, []⟩ = pure (ps.zip us)) : DefAt K mg x st ps :=
  ⟨f, _, fun_mk l c k, (fun_mk l c k).binds hb, PySem.W.mg_of X G a⟩
set_option maxHeartbeats 4000000 in
theorem txt_mk {K : PySem.W.Frag} {h : Heap} {mg : Str → Option Value} (X : K.In h) (G : h.Ns mainGlobals mg)
    {f0 : Addr} {od0 an0 : Option Addr} {sl0 : Array (Option Value)} {oc0 kV0 dc0 pm0 cd0 ct0 : Value}
    {f1 : Addr} {od1 an1 : Option Addr} {sl1 : Array (Option Value)} {oc1 kV1 dc1 pm1 cd1 ct1 : Value}
    {f2 : Addr} {od2 an2 : Option Addr} {sl2 : Array (Option Value)} {oc2 kV2 dc2 pm2 cd2 ct2 : Value}
    {f3 : Addr} {od3 an3 : Option Addr} {sl3 : Array (Option Value)} {oc3 kV3 dc3 pm3 cd3 ct3 : Value}
    {f4 : Addr} {od4 an4 : Option Addr} {sl4 : Array (Option Value)} {oc4 kV4 dc4 pm4 cd4 ct4 : Value}
    {f5 : Addr} {od5 an5 : Option Addr} {sl5 : Array (Option Value)} {oc5 kV5 dc5 pm5 cd5 ct5 : Value}
    {f6 : Addr} {od6 an6 : Option Addr} {sl6 : Array (Option Value)} {oc6 kV6 dc6 pm6 cd6 ct6 : Value}
    {f7 : Addr} {od7 an7 : Option Addr} {sl7 : Array (Option Value)} {oc7 kV7 dc7 pm7 cd7 ct7 : Value}
    {f8 : Addr} {od8 an8 : Option Addr} {sl8 : Array (Option Value)} {oc8 kV8 dc8 pm8 cd8 ct8 : Value}
    {f9 : Addr} {od9 an9 : Option Addr} {sl9 : Array (Option Value)} {oc9 kV9 dc9 pm9 cd9 ct9 : Value}
    {f10 : Addr} {od10 an10 : Option Addr} {sl10 : Array (Option Value)} {oc10 kV10 dc10 pm10 cd10 ct10 : Value}
    {f11 : Addr} {od11 an11 : Option Addr} {sl11 : Array (Option Value)} {oc11 kV11 dc11 pm11 cd11 ct11 : Value}
    {f12 : Addr} {od12 an12 : Option Addr} {sl12 : Array (Option Value)} {oc12 kV12 dc12 pm12 cd12 ct12 : Value}
    {f13 : Addr} {od13 an13 : Option Addr} {sl13 : Array (Option Value)} {oc13 kV13 dc13 pm13 cd13 ct13 : Value}
    {f14 : Addr} {od14 an14 : Option Addr} {sl14 : Array (Option Value)} {oc14 kV14 dc14 pm14 cd14 ct14 : Value}
    {f15 : Addr} {od15 an15 : Option Addr} {sl15 : Array (Option Value)} {oc15 kV15 dc15 pm15 cd15 ct15 : Value}
    {f16 : Addr} {od16 an16 : Option Addr} {sl16 : Array (Option Value)} {oc16 kV16 dc16 pm16 cd16 ct16 : Value}
    {f17 : Addr} {od17 an17 : Option Addr} {sl17 : Array (Option Value)} {oc17 kV17 dc17 pm17 cd17 ct17 : Value}
    {f18 : Addr} {od18 an18 : Option Addr} {sl18 : Array (Option Value)} {oc18 kV18 dc18 pm18 cd18 ct18 : Value}
    {f19 : Addr} {od19 an19 : Option Addr} {sl19 : Array (Option Value)} {oc19 kV19 dc19 pm19 cd19 ct19 : Value}
    {f20 : Addr} {od20 an20 : Option Addr} {sl20 : Array (Option Value)} {oc20 kV20 dc20 pm20 cd20 ct20 : Value}
    {f21 : Addr} {od21 an21 : Option Addr} {sl21 : Array (Option Value)} {oc21 kV21 dc21 pm21 cd21 ct21 : Value}
    {f22 : Addr} {od22 an22 : Option Addr} {sl22 : Array (Option Value)} {oc22 kV22 dc22 pm22 cd22 ct22 : Value}
    {f23 : Addr} {od23 an23 : Option Addr} {sl23 : Array (Option Value)} {oc23 kV23 dc23 pm23 cd23 ct23 : Value}
    {f24 : Addr} {od24 an24 : Option Addr} {sl24 : Array (Option Value)} {oc24 kV24 dc24 pm24 cd24 ct24 : Value}
    {f25 : Addr} {od25 an25 : Option Addr} {sl25 : Array (Option Value)} {oc25 kV25 dc25 pm25 cd25 ct25 : Value}
    {f26 : Addr} {od26 an26 : Option Addr} {sl26 : Array (Option Value)} {oc26 kV26 dc26 pm26 cd26 ct26 : Value}
    {f27 : Addr} {od27 an27 : Option Addr} {sl27 : Array (Option Value)} {oc27 kV27 dc27 pm27 cd27 ct27 : Value}
    {f28 : Addr} {od28 an28 : Option Addr} {sl28 : Array (Option Value)} {oc28 kV28 dc28 pm28 cd28 ct28 : Value}
    {f29 : Addr} {od29 an29 : Option Addr} {sl29 : Array (Option Value)} {oc29 kV29 dc29 pm29 cd29 ct29 : Value}
    {f30 : Addr} {od30 an30 : Option Addr} {sl30 : Array (Option Value)} {oc30 kV30 dc30 pm30 cd30 ct30 : Value}
    {f31 : Addr} {od31 an31 : Option Addr} {sl31 : Array (Option Value)} {oc31 kV31 dc31 pm31 cd31 ct31 : Value}
    {f32 : Addr} {od32 an32 : Option Addr} {sl32 : Array (Option Value)} {oc32 kV32 dc32 pm32 cd32 ct32 : Value}
    {f33 : Addr} {od33 an33 : Option Addr} {sl33 : Array (Option Value)} {oc33 kV33 dc33 pm33 cd33 ct33 : Value}
    {f34 : Addr} {od34 an34 : Option Addr} {sl34 : Array (Option Value)} {oc34 kV34 dc34 pm34 cd34 ct34 : Value}
    {f35 : Addr} {od35 an35 : Option Addr} {sl35 : Array (Option Value)} {oc35 kV35 dc35 pm35 cd35 ct35 : Value}
    {f36 : Addr} {od36 an36 : Option Addr} {sl36 : Array (Option Value)} {oc36 kV36 dc36 pm36 cd36 ct36 : Value}
    {f37 : Addr} {od37 an37 : Option Addr} {sl37 : Array (Option Value)} {oc37 kV37 dc37 pm37 cd37 ct37 : Value}
    {f38 : Addr} {od38 an38 : Option Addr} {sl38 : Array (Option Value)} {oc38 kV38 dc38 pm38 cd38 ct38 : Value}
    {f39 : Addr} {od39 an39 : Option Addr} {sl39 : Array (Option Value)} {oc39 kV39 dc39 pm39 cd39 ct39 : Value}
    {f40 : Addr} {od40 an40 : Option Addr} {sl40 : Array (Option Value)} {oc40 kV40 dc40 pm40 cd40 ct40 : Value}
    {t_MOST_BENCHES : Tok}
    {t_MOST_WORKS : Tok}
    {t_MOST_LENGTH : Tok}
    {C_NoWorld : Addr}
    {C_NoOrder : Addr}
    {C_NoWork : Addr}
    {C_Never : Addr}
    (a0 : PySem.W.nsIn K mainGlobals "is_whole_within" = some (some (.ref f0)))
    (l0 : K.lookup f0 = some ⟨oc0, od0, .func (PySem.W.fnOf "is_whole_within" "is_whole_within" (defArgs (top 10)) (defBody (top 10)) (defScope (top 10)) .none kV0 dc0 pm0 an0 cd0 ct0), sl0⟩)
    (c0 : PySem.W.codeIn K cd0 "is_whole_within" = true)
    (k0 : PySem.W.keepIn K (.ref f0) = true)
    (a1 : PySem.W.nsIn K mainGlobals "is_pair" = some (some (.ref f1)))
    (l1 : K.lookup f1 = some ⟨oc1, od1, .func (PySem.W.fnOf "is_pair" "is_pair" (defArgs (top 11)) (defBody (top 11)) (defScope (top 11)) .none kV1 dc1 pm1 an1 cd1 ct1), sl1⟩)
    (c1 : PySem.W.codeIn K cd1 "is_pair" = true)
    (k1 : PySem.W.keepIn K (.ref f1) = true)
    (a2 : PySem.W.nsIn K mainGlobals "are_bounds_of_work" = some (some (.ref f2)))
    (l2 : K.lookup f2 = some ⟨oc2, od2, .func (PySem.W.fnOf "are_bounds_of_work" "are_bounds_of_work" (defArgs (top 12)) (defBody (top 12)) (defScope (top 12)) .none kV2 dc2 pm2 an2 cd2 ct2), sl2⟩)
    (c2 : PySem.W.codeIn K cd2 "are_bounds_of_work" = true)
    (k2 : PySem.W.keepIn K (.ref f2) = true)
    (a3 : PySem.W.nsIn K mainGlobals "are_bounds" = some (some (.ref f3)))
    (l3 : K.lookup f3 = some ⟨oc3, od3, .func (PySem.W.fnOf "are_bounds" "are_bounds" (defArgs (top 13)) (defBody (top 13)) (defScope (top 13)) .none kV3 dc3 pm3 an3 cd3 ct3), sl3⟩)
    (c3 : PySem.W.codeIn K cd3 "are_bounds" = true)
    (k3 : PySem.W.keepIn K (.ref f3) = true)
    (a4 : PySem.W.nsIn K mainGlobals "is_world" = some (some (.ref f4)))
    (l4 : K.lookup f4 = some ⟨oc4, od4, .func (PySem.W.fnOf "is_world" "is_world" (defArgs (top 14)) (defBody (top 14)) (defScope (top 14)) .none kV4 dc4 pm4 an4 cd4 ct4), sl4⟩)
    (c4 : PySem.W.codeIn K cd4 "is_world" = true)
    (k4 : PySem.W.keepIn K (.ref f4) = true)
    (a5 : PySem.W.nsIn K mainGlobals "check_world" = some (some (.ref f5)))
    (l5 : K.lookup f5 = some ⟨oc5, od5, .func (PySem.W.fnOf "check_world" "check_world" (defArgs (top 15)) (defBody (top 15)) (defScope (top 15)) .none kV5 dc5 pm5 an5 cd5 ct5), sl5⟩)
    (c5 : PySem.W.codeIn K cd5 "check_world" = true)
    (k5 : PySem.W.keepIn K (.ref f5) = true)
    (a6 : PySem.W.nsIn K mainGlobals "is_order" = some (some (.ref f6)))
    (l6 : K.lookup f6 = some ⟨oc6, od6, .func (PySem.W.fnOf "is_order" "is_order" (defArgs (top 16)) (defBody (top 16)) (defScope (top 16)) .none kV6 dc6 pm6 an6 cd6 ct6), sl6⟩)
    (c6 : PySem.W.codeIn K cd6 "is_order" = true)
    (k6 : PySem.W.keepIn K (.ref f6) = true)
    (a7 : PySem.W.nsIn K mainGlobals "check_order" = some (some (.ref f7)))
    (l7 : K.lookup f7 = some ⟨oc7, od7, .func (PySem.W.fnOf "check_order" "check_order" (defArgs (top 17)) (defBody (top 17)) (defScope (top 17)) .none kV7 dc7 pm7 an7 cd7 ct7), sl7⟩)
    (c7 : PySem.W.codeIn K cd7 "check_order" = true)
    (k7 : PySem.W.keepIn K (.ref f7) = true)
    (a8 : PySem.W.nsIn K mainGlobals "how_many_benches" = some (some (.ref f8)))
    (l8 : K.lookup f8 = some ⟨oc8, od8, .func (PySem.W.fnOf "how_many_benches" "how_many_benches" (defArgs (top 18)) (defBody (top 18)) (defScope (top 18)) .none kV8 dc8 pm8 an8 cd8 ct8), sl8⟩)
    (c8 : PySem.W.codeIn K cd8 "how_many_benches" = true)
    (k8 : PySem.W.keepIn K (.ref f8) = true)
    (a9 : PySem.W.nsIn K mainGlobals "how_many_works" = some (some (.ref f9)))
    (l9 : K.lookup f9 = some ⟨oc9, od9, .func (PySem.W.fnOf "how_many_works" "how_many_works" (defArgs (top 19)) (defBody (top 19)) (defScope (top 19)) .none kV9 dc9 pm9 an9 cd9 ct9), sl9⟩)
    (c9 : PySem.W.codeIn K cd9 "how_many_works" = true)
    (k9 : PySem.W.keepIn K (.ref f9) = true)
    (a10 : PySem.W.nsIn K mainGlobals "least_length" = some (some (.ref f10)))
    (l10 : K.lookup f10 = some ⟨oc10, od10, .func (PySem.W.fnOf "least_length" "least_length" (defArgs (top 20)) (defBody (top 20)) (defScope (top 20)) .none kV10 dc10 pm10 an10 cd10 ct10), sl10⟩)
    (c10 : PySem.W.codeIn K cd10 "least_length" = true)
    (k10 : PySem.W.keepIn K (.ref f10) = true)
    (a11 : PySem.W.nsIn K mainGlobals "greatest_length" = some (some (.ref f11)))
    (l11 : K.lookup f11 = some ⟨oc11, od11, .func (PySem.W.fnOf "greatest_length" "greatest_length" (defArgs (top 21)) (defBody (top 21)) (defScope (top 21)) .none kV11 dc11 pm11 an11 cd11 ct11), sl11⟩)
    (c11 : PySem.W.codeIn K cd11 "greatest_length" = true)
    (k11 : PySem.W.keepIn K (.ref f11) = true)
    (a12 : PySem.W.nsIn K mainGlobals "how_many_began" = some (some (.ref f12)))
    (l12 : K.lookup f12 = some ⟨oc12, od12, .func (PySem.W.fnOf "how_many_began" "how_many_began" (defArgs (top 22)) (defBody (top 22)) (defScope (top 22)) .none kV12 dc12 pm12 an12 cd12 ct12), sl12⟩)
    (c12 : PySem.W.codeIn K cd12 "how_many_began" = true)
    (k12 : PySem.W.keepIn K (.ref f12) = true)
    (a13 : PySem.W.nsIn K mainGlobals "running" = some (some (.ref f13)))
    (l13 : K.lookup f13 = some ⟨oc13, od13, .func (PySem.W.fnOf "running" "running" (defArgs (top 23)) (defBody (top 23)) (defScope (top 23)) .none kV13 dc13 pm13 an13 cd13 ct13), sl13⟩)
    (c13 : PySem.W.codeIn K cd13 "running" = true)
    (k13 : PySem.W.keepIn K (.ref f13) = true)
    (a14 : PySem.W.nsIn K mainGlobals "begin_event" = some (some (.ref f14)))
    (l14 : K.lookup f14 = some ⟨oc14, od14, .func (PySem.W.fnOf "begin_event" "begin_event" (defArgs (top 24)) (defBody (top 24)) (defScope (top 24)) .none kV14 dc14 pm14 an14 cd14 ct14), sl14⟩)
    (c14 : PySem.W.codeIn K cd14 "begin_event" = true)
    (k14 : PySem.W.keepIn K (.ref f14) = true)
    (a15 : PySem.W.nsIn K mainGlobals "rules_of_ended" = some (some (.ref f15)))
    (l15 : K.lookup f15 = some ⟨oc15, od15, .func (PySem.W.fnOf "rules_of_ended" "rules_of_ended" (defArgs (top 26)) (defBody (top 26)) (defScope (top 26)) .none kV15 dc15 pm15 an15 cd15 ct15), sl15⟩)
    (c15 : PySem.W.codeIn K cd15 "rules_of_ended" = true)
    (k15 : PySem.W.keepIn K (.ref f15) = true)
    (a16 : PySem.W.nsIn K mainGlobals "rule_of_running" = some (some (.ref f16)))
    (l16 : K.lookup f16 = some ⟨oc16, od16, .func (PySem.W.fnOf "rule_of_running" "rule_of_running" (defArgs (top 27)) (defBody (top 27)) (defScope (top 27)) .none kV16 dc16 pm16 an16 cd16 ct16), sl16⟩)
    (c16 : PySem.W.codeIn K cd16 "rule_of_running" = true)
    (k16 : PySem.W.keepIn K (.ref f16) = true)
    (a17 : PySem.W.nsIn K mainGlobals "rules" = some (some (.ref f17)))
    (l17 : K.lookup f17 = some ⟨oc17, od17, .func (PySem.W.fnOf "rules" "rules" (defArgs (top 28)) (defBody (top 28)) (defScope (top 28)) .none kV17 dc17 pm17 an17 cd17 ct17), sl17⟩)
    (c17 : PySem.W.codeIn K cd17 "rules" = true)
    (k17 : PySem.W.keepIn K (.ref f17) = true)
    (a18 : PySem.W.nsIn K mainGlobals "holds" = some (some (.ref f18)))
    (l18 : K.lookup f18 = some ⟨oc18, od18, .func (PySem.W.fnOf "holds" "holds" (defArgs (top 29)) (defBody (top 29)) (defScope (top 29)) .none kV18 dc18 pm18 an18 cd18 ct18), sl18⟩)
    (c18 : PySem.W.codeIn K cd18 "holds" = true)
    (k18 : PySem.W.keepIn K (.ref f18) = true)
    (a19 : PySem.W.nsIn K mainGlobals "walk_most" = some (some (.ref f19)))
    (l19 : K.lookup f19 = some ⟨oc19, od19, .func (PySem.W.fnOf "walk_most" "walk_most" (defArgs (top 30)) (defBody (top 30)) (defScope (top 30)) .none kV19 dc19 pm19 an19 cd19 ct19), sl19⟩)
    (c19 : PySem.W.codeIn K cd19 "walk_most" = true)
    (k19 : PySem.W.keepIn K (.ref f19) = true)
    (a20 : PySem.W.nsIn K mainGlobals "shorten_walks" = some (some (.ref f20)))
    (l20 : K.lookup f20 = some ⟨oc20, od20, .func (PySem.W.fnOf "shorten_walks" "shorten_walks" (defArgs (top 31)) (defBody (top 31)) (defScope (top 31)) .none kV20 dc20 pm20 an20 cd20 ct20), sl20⟩)
    (c20 : PySem.W.codeIn K cd20 "shorten_walks" = true)
    (k20 : PySem.W.keepIn K (.ref f20) = true)
    (a21 : PySem.W.nsIn K mainGlobals "shortest_walks" = some (some (.ref f21)))
    (l21 : K.lookup f21 = some ⟨oc21, od21, .func (PySem.W.fnOf "shortest_walks" "shortest_walks" (defArgs (top 32)) (defBody (top 32)) (defScope (top 32)) .none kV21 dc21 pm21 an21 cd21 ct21), sl21⟩)
    (c21 : PySem.W.codeIn K cd21 "shortest_walks" = true)
    (k21 : PySem.W.keepIn K (.ref f21) = true)
    (a22 : PySem.W.nsIn K mainGlobals "walk_by_firsts" = some (some (.ref f22)))
    (l22 : K.lookup f22 = some ⟨oc22, od22, .func (PySem.W.fnOf "walk_by_firsts" "walk_by_firsts" (defArgs (top 33)) (defBody (top 33)) (defScope (top 33)) .none kV22 dc22 pm22 an22 cd22 ct22), sl22⟩)
    (c22 : PySem.W.codeIn K cd22 "walk_by_firsts" = true)
    (k22 : PySem.W.keepIn K (.ref f22) = true)
    (a23 : PySem.W.nsIn K mainGlobals "earliest_moments" = some (some (.ref f23)))
    (l23 : K.lookup f23 = some ⟨oc23, od23, .func (PySem.W.fnOf "earliest_moments" "earliest_moments" (defArgs (top 35)) (defBody (top 35)) (defScope (top 35)) .none kV23 dc23 pm23 an23 cd23 ct23), sl23⟩)
    (c23 : PySem.W.codeIn K cd23 "earliest_moments" = true)
    (k23 : PySem.W.keepIn K (.ref f23) = true)
    (a24 : PySem.W.nsIn K mainGlobals "could" = some (some (.ref f24)))
    (l24 : K.lookup f24 = some ⟨oc24, od24, .func (PySem.W.fnOf "could" "could" (defArgs (top 36)) (defBody (top 36)) (defScope (top 36)) .none kV24 dc24 pm24 an24 cd24 ct24), sl24⟩)
    (c24 : PySem.W.codeIn K cd24 "could" = true)
    (k24 : PySem.W.keepIn K (.ref f24) = true)
    (a25 : PySem.W.nsIn K mainGlobals "check_could" = some (some (.ref f25)))
    (l25 : K.lookup f25 = some ⟨oc25, od25, .func (PySem.W.fnOf "check_could" "check_could" (defArgs (top 37)) (defBody (top 37)) (defScope (top 37)) .none kV25 dc25 pm25 an25 cd25 ct25), sl25⟩)
    (c25 : PySem.W.codeIn K cd25 "check_could" = true)
    (k25 : PySem.W.keepIn K (.ref f25) = true)
    (a26 : PySem.W.nsIn K mainGlobals "check_work" = some (some (.ref f26)))
    (l26 : K.lookup f26 = some ⟨oc26, od26, .func (PySem.W.fnOf "check_work" "check_work" (defArgs (top 39)) (defBody (top 39)) (defScope (top 39)) .none kV26 dc26 pm26 an26 cd26 ct26), sl26⟩)
    (c26 : PySem.W.codeIn K cd26 "check_work" = true)
    (k26 : PySem.W.keepIn K (.ref f26) = true)
    (a27 : PySem.W.nsIn K mainGlobals "chain_start" = some (some (.ref f27)))
    (l27 : K.lookup f27 = some ⟨oc27, od27, .func (PySem.W.fnOf "chain_start" "chain_start" (defArgs (top 40)) (defBody (top 40)) (defScope (top 40)) .none kV27 dc27 pm27 an27 cd27 ct27), sl27⟩)
    (c27 : PySem.W.codeIn K cd27 "chain_start" = true)
    (k27 : PySem.W.keepIn K (.ref f27) = true)
    (a28 : PySem.W.nsIn K mainGlobals "chain_goal" = some (some (.ref f28)))
    (l28 : K.lookup f28 = some ⟨oc28, od28, .func (PySem.W.fnOf "chain_goal" "chain_goal" (defArgs (top 41)) (defBody (top 41)) (defScope (top 41)) .none kV28 dc28 pm28 an28 cd28 ct28), sl28⟩)
    (c28 : PySem.W.codeIn K cd28 "chain_goal" = true)
    (k28 : PySem.W.keepIn K (.ref f28) = true)
    (a29 : PySem.W.nsIn K mainGlobals "shortest_chain" = some (some (.ref f29)))
    (l29 : K.lookup f29 = some ⟨oc29, od29, .func (PySem.W.fnOf "shortest_chain" "shortest_chain" (defArgs (top 42)) (defBody (top 42)) (defScope (top 42)) .none kV29 dc29 pm29 an29 cd29 ct29), sl29⟩)
    (c29 : PySem.W.codeIn K cd29 "shortest_chain" = true)
    (k29 : PySem.W.keepIn K (.ref f29) = true)
    (a30 : PySem.W.nsIn K mainGlobals "length" = some (some (.ref f30)))
    (l30 : K.lookup f30 = some ⟨oc30, od30, .func (PySem.W.fnOf "length" "length" (defArgs (top 43)) (defBody (top 43)) (defScope (top 43)) .none kV30 dc30 pm30 an30 cd30 ct30), sl30⟩)
    (c30 : PySem.W.codeIn K cd30 "length" = true)
    (k30 : PySem.W.keepIn K (.ref f30) = true)
    (a31 : PySem.W.nsIn K mainGlobals "_law_cell_at" = some (some (.ref f31)))
    (l31 : K.lookup f31 = some ⟨oc31, od31, .func (PySem.W.fnOf "_law_cell_at" "_law_cell_at" (defArgs (top 45)) (defBody (top 45)) (defScope (top 45)) .none kV31 dc31 pm31 an31 cd31 ct31), sl31⟩)
    (c31 : PySem.W.codeIn K cd31 "_law_cell_at" = true)
    (k31 : PySem.W.keepIn K (.ref f31) = true)
    (a32 : PySem.W.nsIn K mainGlobals "_law_mixed" = some (some (.ref f32)))
    (l32 : K.lookup f32 = some ⟨oc32, od32, .func (PySem.W.fnOf "_law_mixed" "_law_mixed" (defArgs (top 46)) (defBody (top 46)) (defScope (top 46)) .none kV32 dc32 pm32 an32 cd32 ct32), sl32⟩)
    (c32 : PySem.W.codeIn K cd32 "_law_mixed" = true)
    (k32 : PySem.W.keepIn K (.ref f32) = true)
    (a33 : PySem.W.nsIn K mainGlobals "_law_draw" = some (some (.ref f33)))
    (l33 : K.lookup f33 = some ⟨oc33, od33, .func (PySem.W.fnOf "_law_draw" "_law_draw" (defArgs (top 47)) (defBody (top 47)) (defScope (top 47)) .none kV33 dc33 pm33 an33 cd33 ct33), sl33⟩)
    (c33 : PySem.W.codeIn K cd33 "_law_draw" = true)
    (k33 : PySem.W.keepIn K (.ref f33) = true)
    (a34 : PySem.W.nsIn K mainGlobals "_law_pick" = some (some (.ref f34)))
    (l34 : K.lookup f34 = some ⟨oc34, od34, .func (PySem.W.fnOf "_law_pick" "_law_pick" (defArgs (top 48)) (defBody (top 48)) (defScope (top 48)) .none kV34 dc34 pm34 an34 cd34 ct34), sl34⟩)
    (c34 : PySem.W.codeIn K cd34 "_law_pick" = true)
    (k34 : PySem.W.keepIn K (.ref f34) = true)
    (a35 : PySem.W.nsIn K mainGlobals "_law_world" = some (some (.ref f35)))
    (l35 : K.lookup f35 = some ⟨oc35, od35, .func (PySem.W.fnOf "_law_world" "_law_world" (defArgs (top 49)) (defBody (top 49)) (defScope (top 49)) .none kV35 dc35 pm35 an35 cd35 ct35), sl35⟩)
    (c35 : PySem.W.codeIn K cd35 "_law_world" = true)
    (k35 : PySem.W.keepIn K (.ref f35) = true)
    (a36 : PySem.W.nsIn K mainGlobals "_law_running" = some (some (.ref f36)))
    (l36 : K.lookup f36 = some ⟨oc36, od36, .func (PySem.W.fnOf "_law_running" "_law_running" (defArgs (top 50)) (defBody (top 50)) (defScope (top 50)) .none kV36 dc36 pm36 an36 cd36 ct36), sl36⟩)
    (c36 : PySem.W.codeIn K cd36 "_law_running" = true)
    (k36 : PySem.W.keepIn K (.ref f36) = true)
    (a37 : PySem.W.nsIn K mainGlobals "_law_order" = some (some (.ref f37)))
    (l37 : K.lookup f37 = some ⟨oc37, od37, .func (PySem.W.fnOf "_law_order" "_law_order" (defArgs (top 51)) (defBody (top 51)) (defScope (top 51)) .none kV37 dc37 pm37 an37 cd37 ct37), sl37⟩)
    (c37 : PySem.W.codeIn K cd37 "_law_order" = true)
    (k37 : PySem.W.keepIn K (.ref f37) = true)
    (a38 : PySem.W.nsIn K mainGlobals "_law_begin" = some (some (.ref f38)))
    (l38 : K.lookup f38 = some ⟨oc38, od38, .func (PySem.W.fnOf "_law_begin" "_law_begin" (defArgs (top 52)) (defBody (top 52)) (defScope (top 52)) .none kV38 dc38 pm38 an38 cd38 ct38), sl38⟩)
    (c38 : PySem.W.codeIn K cd38 "_law_begin" = true)
    (k38 : PySem.W.keepIn K (.ref f38) = true)
    (a39 : PySem.W.nsIn K mainGlobals "_law_told" = some (some (.ref f39)))
    (l39 : K.lookup f39 = some ⟨oc39, od39, .func (PySem.W.fnOf "_law_told" "_law_told" (defArgs (top 53)) (defBody (top 53)) (defScope (top 53)) .none kV39 dc39 pm39 an39 cd39 ct39), sl39⟩)
    (c39 : PySem.W.codeIn K cd39 "_law_told" = true)
    (k39 : PySem.W.keepIn K (.ref f39) = true)
    (a40 : PySem.W.nsIn K mainGlobals "law" = some (some (.ref f40)))
    (l40 : K.lookup f40 = some ⟨oc40, od40, .func (PySem.W.fnOf "law" "law" (defArgs (top 54)) (defBody (top 54)) (defScope (top 54)) .none kV40 dc40 pm40 an40 cd40 ct40), sl40⟩)
    (c40 : PySem.W.codeIn K cd40 "law" = true)
    (k40 : PySem.W.keepIn K (.ref f40) = true)
    (z_all : PySem.W.nsIn K mainGlobals "all" = some none)
    (z_bool : PySem.W.nsIn K mainGlobals "bool" = some none)
    (z_enumerate : PySem.W.nsIn K mainGlobals "enumerate" = some none)
    (z_int : PySem.W.nsIn K mainGlobals "int" = some none)
    (z_isinstance : PySem.W.nsIn K mainGlobals "isinstance" = some none)
    (z_len : PySem.W.nsIn K mainGlobals "len" = some none)
    (z_list : PySem.W.nsIn K mainGlobals "list" = some none)
    (z_max : PySem.W.nsIn K mainGlobals "max" = some none)
    (z_min : PySem.W.nsIn K mainGlobals "min" = some none)
    (z_range : PySem.W.nsIn K mainGlobals "range" = some none)
    (z_set : PySem.W.nsIn K mainGlobals "set" = some none)
    (z_sorted : PySem.W.nsIn K mainGlobals "sorted" = some none)
    (z_sum : PySem.W.nsIn K mainGlobals "sum" = some none)
    (z_tuple : PySem.W.nsIn K mainGlobals "tuple" = some none)
    (x_MOST_BENCHES : PySem.W.nsIn K mainGlobals "MOST_BENCHES" = some (some (.int 4 t_MOST_BENCHES)))
    (x_MOST_WORKS : PySem.W.nsIn K mainGlobals "MOST_WORKS" = some (some (.int 10 t_MOST_WORKS)))
    (x_MOST_LENGTH : PySem.W.nsIn K mainGlobals "MOST_LENGTH" = some (some (.int 99 t_MOST_LENGTH)))
    (x_NoWorld : PySem.W.nsIn K mainGlobals "NoWorld" = some (some (.ref C_NoWorld)))
    (q_NoWorld : PySem.W.excIn K C_NoWorld [.type "ValueError", .type "Exception", .type "BaseException", .type "object"] "ValueError.__new__" = true)
    (x_NoOrder : PySem.W.nsIn K mainGlobals "NoOrder" = some (some (.ref C_NoOrder)))
    (q_NoOrder : PySem.W.excIn K C_NoOrder [.type "ValueError", .type "Exception", .type "BaseException", .type "object"] "ValueError.__new__" = true)
    (x_NoWork : PySem.W.nsIn K mainGlobals "NoWork" = some (some (.ref C_NoWork)))
    (q_NoWork : PySem.W.excIn K C_NoWork [.type "ValueError", .type "Exception", .type "BaseException", .type "object"] "ValueError.__new__" = true)
    (x_Never : PySem.W.nsIn K mainGlobals "Never" = some (some (.ref C_Never)))
    (q_Never : PySem.W.excIn K C_Never [.type "ValueError", .type "Exception", .type "BaseException", .type "object"] "ValueError.__new__" = true) : Nonempty (Txt K mg) :=
  ⟨{ is_whole_within := def_mk X G a0 l0 c0 k0 (fun _ _ _ _ _ _ => ar3 fun _ _ _ => rfl),
     is_pair := def_mk X G a1 l1 c1 k1 (fun _ _ _ _ _ _ => ar1 fun _ => rfl),
     are_bounds_of_work := def_mk X G a2 l2 c2 k2 (fun _ _ _ _ _ _ => ar1 fun _ => rfl),
     are_bounds := def_mk X G a3 l3 c3 k3 (fun _ _ _ _ _ _ => ar1 fun _ => rfl),
     is_world := def_mk X G a4 l4 c4 k4 (fun _ _ _ _ _ _ => ar1 fun _ => rfl),
     check_world := def_mk X G a5 l5 c5 k5 (fun _ _ _ _ _ _ => ar1 fun _ => rfl),
     is_order := def_mk X G a6 l6 c6 k6 (fun _ _ _ _ _ _ => ar2 fun _ _ => rfl),
     check_order := def_mk X G a7 l7 c7 k7 (fun _ _ _ _ _ _ => ar2 fun _ _ => rfl),
     how_many_benches := def_mk X G a8 l8 c8 k8 (fun _ _ _ _ _ _ => ar1 fun _ => rfl),
     how_many_works := def_mk X G a9 l9 c9 k9 (fun _ _ _ _ _ _ => ar1 fun _ => rfl),
     least_length := def_mk X G a10 l10 c10 k10 (fun _ _ _ _ _ _ => ar2 fun _ _ => rfl),
     greatest_length := def_mk X G a11 l11 c11 k11 (fun _ _ _ _ _ _ => ar2 fun _ _ => rfl),
     how_many_began := def_mk X G a12 l12 c12 k12 (fun _ _ _ _ _ _ => ar2 fun _ _ => rfl),
     running := def_mk X G a13 l13 c13 k13 (fun _ _ _ _ _ _ => ar2 fun _ _ => rfl),
     begin_event := def_mk X G a14 l14 c14 k14 (fun _ _ _ _ _ _ => ar2 fun _ _ => rfl),
     rules_of_ended := def_mk X G a15 l15 c15 k15 (fun _ _ _ _ _ _ => ar3 fun _ _ _ => rfl),
     rule_of_running := def_mk X G a16 l16 c16 k16 (fun _ _ _ _ _ _ => ar3 fun _ _ _ => rfl),
     rules := def_mk X G a17 l17 c17 k17 (fun _ _ _ _ _ _ => ar2 fun _ _ => rfl),
     holds := def_mk X G a18 l18 c18 k18 (fun _ _ _ _ _ _ => ar2 fun _ _ => rfl),
     walk_most := def_mk X G a19 l19 c19 k19 (fun _ _ _ _ _ _ => ar2 fun _ _ => rfl),
     shorten_walks := def_mk X G a20 l20 c20 k20 (fun _ _ _ _ _ _ => ar3 fun _ _ _ => rfl),
     shortest_walks := def_mk X G a21 l21 c21 k21 (fun _ _ _ _ _ _ => ar3 fun _ _ _ => rfl),
     walk_by_firsts := def_mk X G a22 l22 c22 k22 (fun _ _ _ _ _ _ => ar4 fun _ _ _ _ => rfl),
     earliest_moments := def_mk X G a23 l23 c23 k23 (fun _ _ _ _ _ _ => ar2 fun _ _ => rfl),
     could := def_mk X G a24 l24 c24 k24 (fun _ _ _ _ _ _ => ar2 fun _ _ => rfl),
     check_could := def_mk X G a25 l25 c25 k25 (fun _ _ _ _ _ _ => ar2 fun _ _ => rfl),
     check_work := def_mk X G a26 l26 c26 k26 (fun _ _ _ _ _ _ => ar3 fun _ _ _ => rfl),
     chain_start := def_mk X G a27 l27 c27 k27 (fun _ _ _ _ _ _ => ar4 fun _ _ _ _ => rfl),
     chain_goal := def_mk X G a28 l28 c28 k28 (fun _ _ _ _ _ _ => ar4 fun _ _ _ _ => rfl),
     shortest_chain := def_mk X G a29 l29 c29 k29 (fun _ _ _ _ _ _ => ar4 fun _ _ _ _ => rfl),
     length := def_mk X G a30 l30 c30 k30 (fun _ _ _ _ _ _ => ar3 fun _ _ _ => rfl),
     law_cell_at := def_mk X G a31 l31 c31 k31 (fun _ _ _ _ _ _ => ar2 fun _ _ => rfl),
     law_mixed := def_mk X G a32 l32 c32 k32 (fun _ _ _ _ _ _ => ar3 fun _ _ _ => rfl),
     law_draw := def_mk X G a33 l33 c33 k33 (fun _ _ _ _ _ _ => ar3 fun _ _ _ => rfl),
     law_pick := def_mk X G a34 l34 c34 k34 (fun _ _ _ _ _ _ => ar3 fun _ _ _ => rfl),
     law_world := def_mk X G a35 l35 c35 k35 (fun _ _ _ _ _ _ => ar4 fun _ _ _ _ => rfl),
     law_running := def_mk X G a36 l36 c36 k36 (fun _ _ _ _ _ _ => ar2 fun _ _ => rfl),
     law_order := def_mk X G a37 l37 c37 k37 (fun _ _ _ _ _ _ => ar3 fun _ _ _ => rfl),
     law_begin := def_mk X G a38 l38 c38 k38 (fun _ _ _ _ _ _ => ar2 fun _ _ => rfl),
     law_told := def_mk X G a39 l39 c39 k39 (fun _ _ _ _ _ _ => ar3 fun _ _ _ => rfl),
     law := def_mk X G a40 l40 c40 k40 (fun _ _ _ _ _ _ => ar1 fun _ => rfl),
     n_all := PySem.W.mg_none_of X G z_all,
     n_bool := PySem.W.mg_none_of X G z_bool,
     n_enumerate := PySem.W.mg_none_of X G z_enumerate,
     n_int := PySem.W.mg_none_of X G z_int,
     n_isinstance := PySem.W.mg_none_of X G z_isinstance,
     n_len := PySem.W.mg_none_of X G z_len,
     n_list := PySem.W.mg_none_of X G z_list,
     n_max := PySem.W.mg_none_of X G z_max,
     n_min := PySem.W.mg_none_of X G z_min,
     n_range := PySem.W.mg_none_of X G z_range,
     n_set := PySem.W.mg_none_of X G z_set,
     n_sorted := PySem.W.mg_none_of X G z_sorted,
     n_sum := PySem.W.mg_none_of X G z_sum,
     n_tuple := PySem.W.mg_none_of X G z_tuple,
     c_MOST_BENCHES := ⟨_, PySem.W.mg_of X G x_MOST_BENCHES⟩,
     c_MOST_WORKS := ⟨_, PySem.W.mg_of X G x_MOST_WORKS⟩,
     c_MOST_LENGTH := ⟨_, PySem.W.mg_of X G x_MOST_LENGTH⟩,
     e_NoWorld := ⟨C_NoWorld, PySem.W.mg_of X G x_NoWorld, q_NoWorld⟩,
     e_NoOrder := ⟨C_NoOrder, PySem.W.mg_of X G x_NoOrder, q_NoOrder⟩,
     e_NoWork := ⟨C_NoWork, PySem.W.mg_of X G x_NoWork, q_NoWork⟩,
     e_Never := ⟨C_Never, PySem.W.mg_of X G x_Never, q_Never⟩ }⟩

theorem walk {l : PySem.W.OpenLaw} {q : Program} {loose : List Str} {XP : (Str → Option Value) → Heap → Prop} {YP : World → Heap → Prop} {d : DefRec} {K : Params → PySem.W.Frag} (hn : l.most = some 63) (hdf : d.params.defaults = [])
    (hY : ∀ (w : World) (h : Heap), YP w h → (K w.params).In h) (hd : d.name = "law")
    (F : ∀ (w : World) (mg : Str → Option Value) (h : Heap), (K w.params).In h → h.Ns mainGlobals mg → Nonempty (Txt (K w.params) mg)) :
    PySem.W.WalkO q loose XP YP l.row.toRowW d [] (fun f vs => PySem.call f vs) := by
  refine walk_of (l := l) (n := 63) (k := 12) (x := "_law_script") (K := K) (CX := fun w => CXr l.prog w) (sp := fun w => sp_law (K w.params)) hn (by decide) hdf ⟨rfl, by decide, by decide⟩ hY ?_ ?_ ?_
  · intro w mg fa h KX G hmg
    obtain ⟨T⟩ := F w mg h KX G
    rw [hd] at hmg
    have e : T.law.a = fa := by
      have z := T.law.m.symm.trans hmg
      injection z with z
      injection z
    subst e
    obtain ⟨oc, od, kV, doc, pm, an, cdv, ct, osl, ed, lk, hcd⟩ := T.law.F.ex
    refine ⟨T.law.d, fun s u => ?_, fun base _ _ => ok_law T⟩
    rw [ed]
    exact .of_eq rfl
  · intro w H a ns hl hO hS
    exact ⟨a, ns, rfl, Scr.of hS hO, fun _ => rfl⟩
  · intro w H s e s' h
    obtain ⟨_, _, _, _, _, _, _, z⟩ := h
    exact z
end Be
def PySem.W.Fast.tw12880335258771127206 : Unit := ()
def PySem.W.Fast.tw16053272668917120088 : Unit := ()
def PySem.W.Fast.tw16284283739637209035 : Unit := ()
def PySem.W.Fast.tw12854011120244094741 : Unit := ()
def PySem.W.Fast.tw17928558964018386319 : Unit := ()
def PySem.W.Fast.tw18388554821188883954 : Unit := ()
def PySem.W.Fast.tw10742587167014922697 : Unit := ()
def PySem.W.Fast.tw12642989167253919992 : Unit := ()
def PySem.W.Fast.tw14357763697872609766 : Unit := ()
def PySem.W.Fast.tw3985206468797286434 : Unit := ()
def PySem.W.Fast.tw1633333379593591717 : Unit := ()
def PySem.W.Fast.tw3147358965002688717 : Unit := ()
def PySem.W.Fast.tw5465669142184824680 : Unit := ()
def PySem.W.Fast.tw15640202314558727852 : Unit := ()
def PySem.W.Fast.tw1019917393123664771 : Unit := ()
def PySem.W.Fast.tw2827841106417369730 : Unit := ()
def PySem.W.Fast.tw14239940827062383750 : Unit := ()
def PySem.W.Fast.tw18035466904728161015 : Unit := ()
def PySem.W.Fast.tw18243961175535355407 : Unit := ()
def PySem.W.Fast.tw10583959205932064284 : Unit := ()
def PySem.W.Fast.tw4707899412348154681 : Unit := ()
def PySem.W.Fast.tw15782846245100289742 : Unit := ()
def PySem.W.Fast.tw6276538963111500797 : Unit := ()
def PySem.W.Fast.tw12567284437976186385 : Unit := ()
def PySem.W.Fast.tw5394546976262604258 : Unit := ()
def PySem.W.Fast.tw732834530365780112 : Unit := ()
def PySem.W.Fast.tw3776986323296756700 : Unit := ()
def PySem.W.Fast.tw6325413349274530392 : Unit := ()
def PySem.W.Fast.tw4685419398174200054 : Unit := ()
def PySem.W.Fast.tw11420682256677468532 : Unit := ()
def PySem.W.Fast.tw2078759817397450739 : Unit := ()
def PySem.W.Fast.tw7930768457941292801 : Unit := ()
def PySem.W.Fast.tw10369215149449606645 : Unit := ()
def PySem.W.Fast.tw10100444575789030466 : Unit := ()
def PySem.W.Fast.tw5907094796827066418 : Unit := ()
def PySem.W.Fast.tw7741171724116805993 : Unit := ()
def PySem.W.Fast.tw11945127037693525562 : Unit := ()
def PySem.W.Fast.tw9161091909001559566 : Unit := ()
def PySem.W.Fast.tw6402716921038867925 : Unit := ()
def PySem.W.Fast.tw17126790154368185863 : Unit := ()
def PySem.W.Fast.tw18441062223410859323 : Unit := ()
def PySem.W.Fast.tw3343973906512998417 : Unit := ()
def PySem.W.Fast.tw9014941679678158170 : Unit := ()
def PySem.W.Fast.tw9086713500643702624 : Unit := ()
def PySem.W.Fast.tw1552976705476112859 : Unit := ()
def PySem.W.Fast.tw136981433733496529 : Unit := ()
def PySem.W.Fast.tw5074098466428722581 : Unit := ()
def PySem.W.Fast.tw13180435824042297912 : Unit := ()
def PySem.W.Fast.tw10054695872773786586 : Unit := ()
def PySem.W.Fast.tw10267919716531579878 : Unit := ()
def PySem.W.Fast.tw12898370036872052777 : Unit := ()
def PySem.W.Fast.tw2202089136076737082 : Unit := ()
def PySem.W.Fast.tw18394716051472775914 : Unit := ()
def PySem.W.Fast.tw6975756421582909972 : Unit := ()
def PySem.W.Fast.tw9830589905361685947 : Unit := ()
def PySem.W.Fast.tw8737288397476543727 : Unit := ()
def PySem.W.Fast.tw388844715541827983 : Unit := ()
def PySem.W.Fast.tw728140663223775983 : Unit := ()
def PySem.W.Fast.tw16580414920250491683 : Unit := ()
def PySem.W.Fast.tw16624221269629110000 : Unit := ()
def PySem.W.Fast.tw3051231170996763133 : Unit := ()
def PySem.W.Fast.tw16136988912872983260 : Unit := ()
open PySem PySem.W PyProof.Rows
set_option maxRecDepth 100000 in
set_option maxHeartbeats 0 in
theorem PySem.Challenge.cw_benchends_k04_whole_by_lengths_holds : PySem.Challenge.rw_benchends_k04_whole_by_lengths.Holds := by
  w_on; o_law; k_head; (case hw => w_witness2)
  k_fill
  refine Be.walk (l := PySem.Challenge.rw_benchends_k04_whole_by_lengths) rfl rfl (fun w h Y => PySem.W.kIn_of Y) rfl ?F
  case F =>
    intro w mg h KX G
    refine' Be.txt_mk KX G ?a0 ?l0 ?c0 ?k0 ?a1 ?l1 ?c1 ?k1 ?a2 ?l2 ?c2 ?k2 ?a3 ?l3 ?c3 ?k3 ?a4 ?l4 ?c4 ?k4 ?a5 ?l5 ?c5 ?k5 ?a6 ?l6 ?c6 ?k6 ?a7 ?l7 ?c7 ?k7 ?a8 ?l8 ?c8 ?k8 ?a9 ?l9 ?c9 ?k9 ?a10 ?l10 ?c10 ?k10 ?a11 ?l11 ?c11 ?k11 ?a12 ?l12 ?c12 ?k12 ?a13 ?l13 ?c13 ?k13 ?a14 ?l14 ?c14 ?k14 ?a15 ?l15 ?c15 ?k15 ?a16 ?l16 ?c16 ?k16 ?a17 ?l17 ?c17 ?k17 ?a18 ?l18 ?c18 ?k18 ?a19 ?l19 ?c19 ?k19 ?a20 ?l20 ?c20 ?k20 ?a21 ?l21 ?c21 ?k21 ?a22 ?l22 ?c22 ?k22 ?a23 ?l23 ?c23 ?k23 ?a24 ?l24 ?c24 ?k24 ?a25 ?l25 ?c25 ?k25 ?a26 ?l26 ?c26 ?k26 ?a27 ?l27 ?c27 ?k27 ?a28 ?l28 ?c28 ?k28 ?a29 ?l29 ?c29 ?k29 ?a30 ?l30 ?c30 ?k30 ?a31 ?l31 ?c31 ?k31 ?a32 ?l32 ?c32 ?k32 ?a33 ?l33 ?c33 ?k33 ?a34 ?l34 ?c34 ?k34 ?a35 ?l35 ?c35 ?k35 ?a36 ?l36 ?c36 ?k36 ?a37 ?l37 ?c37 ?k37 ?a38 ?l38 ?c38 ?k38 ?a39 ?l39 ?c39 ?k39 ?a40 ?l40 ?c40 ?k40 ?z_all ?z_bool ?z_enumerate ?z_int ?z_isinstance ?z_len ?z_list ?z_max ?z_min ?z_range ?z_set ?z_sorted ?z_sum ?z_tuple ?x_MOST_BENCHES ?x_MOST_WORKS ?x_MOST_LENGTH ?x_NoWorld ?q_NoWorld ?x_NoOrder ?q_NoOrder ?x_NoWork ?q_NoWork ?x_Never ?q_Never
    (case a0 => k_is)
    (case l0 => k_is)
    (case c0 => k_is)
    (case k0 => k_is)
    (case a1 => k_is)
    (case l1 => k_is)
    (case c1 => k_is)
    (case k1 => k_is)
    (case a2 => k_is)
    (case l2 => k_is)
    (case c2 => k_is)
    (case k2 => k_is)
    (case a3 => k_is)
    (case l3 => k_is)
    (case c3 => k_is)
    (case k3 => k_is)
    (case a4 => k_is)
    (case l4 => k_is)
    (case c4 => k_is)
    (case k4 => k_is)
    (case a5 => k_is)
    (case l5 => k_is)
    (case c5 => k_is)
    (case k5 => k_is)
    (case a6 => k_is)
    (case l6 => k_is)
    (case c6 => k_is)
    (case k6 => k_is)
    (case a7 => k_is)
    (case l7 => k_is)
    (case c7 => k_is)
    (case k7 => k_is)
    (case a8 => k_is)
    (case l8 => k_is)
    (case c8 => k_is)
    (case k8 => k_is)
    (case a9 => k_is)
    (case l9 => k_is)
    (case c9 => k_is)
    (case k9 => k_is)
    (case a10 => k_is)
    (case l10 => k_is)
    (case c10 => k_is)
    (case k10 => k_is)
    (case a11 => k_is)
    (case l11 => k_is)
    (case c11 => k_is)
    (case k11 => k_is)
    (case a12 => k_is)
    (case l12 => k_is)
    (case c12 => k_is)
    (case k12 => k_is)
    (case a13 => k_is)
    (case l13 => k_is)
    (case c13 => k_is)
    (case k13 => k_is)
    (case a14 => k_is)
    (case l14 => k_is)
    (case c14 => k_is)
    (case k14 => k_is)
    (case a15 => k_is)
    (case l15 => k_is)
    (case c15 => k_is)
    (case k15 => k_is)
    (case a16 => k_is)
    (case l16 => k_is)
    (case c16 => k_is)
    (case k16 => k_is)
    (case a17 => k_is)
    (case l17 => k_is)
    (case c17 => k_is)
    (case k17 => k_is)
    (case a18 => k_is)
    (case l18 => k_is)
    (case c18 => k_is)
    (case k18 => k_is)
    (case a19 => k_is)
    (case l19 => k_is)
    (case c19 => k_is)
    (case k19 => k_is)
    (case a20 => k_is)
    (case l20 => k_is)
    (case c20 => k_is)
    (case k20 => k_is)
    (case a21 => k_is)
    (case l21 => k_is)
    (case c21 => k_is)
    (case k21 => k_is)
    (case a22 => k_is)
    (case l22 => k_is)
    (case c22 => k_is)
    (case k22 => k_is)
    (case a23 => k_is)
    (case l23 => k_is)
    (case c23 => k_is)
    (case k23 => k_is)
    (case a24 => k_is)
    (case l24 => k_is)
    (case c24 => k_is)
    (case k24 => k_is)
    (case a25 => k_is)
    (case l25 => k_is)
    (case c25 => k_is)
    (case k25 => k_is)
    (case a26 => k_is)
    (case l26 => k_is)
    (case c26 => k_is)
    (case k26 => k_is)
    (case a27 => k_is)
    (case l27 => k_is)
    (case c27 => k_is)
    (case k27 => k_is)
    (case a28 => k_is)
    (case l28 => k_is)
    (case c28 => k_is)
    (case k28 => k_is)
    (case a29 => k_is)
    (case l29 => k_is)
    (case c29 => k_is)
    (case k29 => k_is)
    (case a30 => k_is)
    (case l30 => k_is)
    (case c30 => k_is)
    (case k30 => k_is)
    (case a31 => k_is)
    (case l31 => k_is)
    (case c31 => k_is)
    (case k31 => k_is)
    (case a32 => k_is)
    (case l32 => k_is)
    (case c32 => k_is)
    (case k32 => k_is)
    (case a33 => k_is)
    (case l33 => k_is)
    (case c33 => k_is)
    (case k33 => k_is)
    (case a34 => k_is)
    (case l34 => k_is)
    (case c34 => k_is)
    (case k34 => k_is)
    (case a35 => k_is)
    (case l35 => k_is)
    (case c35 => k_is)
    (case k35 => k_is)
    (case a36 => k_is)
    (case l36 => k_is)
    (case c36 => k_is)
    (case k36 => k_is)
    (case a37 => k_is)
    (case l37 => k_is)
    (case c37 => k_is)
    (case k37 => k_is)
    (case a38 => k_is)
    (case l38 => k_is)
    (case c38 => k_is)
    (case k38 => k_is)
    (case a39 => k_is)
    (case l39 => k_is)
    (case c39 => k_is)
    (case k39 => k_is)
    (case a40 => k_is)
    (case l40 => k_is)
    (case c40 => k_is)
    (case k40 => k_is)
    (case z_all => k_is)
    (case z_bool => k_is)
    (case z_enumerate => k_is)
    (case z_int => k_is)
    (case z_isinstance => k_is)
    (case z_len => k_is)
    (case z_list => k_is)
    (case z_max => k_is)
    (case z_min => k_is)
    (case z_range => k_is)
    (case z_set => k_is)
    (case z_sorted => k_is)
    (case z_sum => k_is)
    (case z_tuple => k_is)
    (case x_MOST_BENCHES => k_is)
    (case x_MOST_WORKS => k_is)
    (case x_MOST_LENGTH => k_is)
    (case x_NoWorld => k_is)
    (case q_NoWorld => k_exc)
    (case x_NoOrder => k_is)
    (case q_NoOrder => k_exc)
    (case x_NoWork => k_is)
    (case q_NoWork => k_exc)
    (case x_Never => k_is)
    (case q_Never => k_exc)
