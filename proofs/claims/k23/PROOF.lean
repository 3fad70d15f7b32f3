import PyProof.Rows.All
import Wide.All
import OpenK.AllK
import Wide.FinOn
import Lean
import PyProof.EqAt
import PyProof.EqKinds
import PyProof.TupleCall
import PyProof.Rows.EqDataRows
import PyProof.ConsumeWalk
import PyProof.ZipIter
import KE.RegKIsAll
import PyProof.Rows.MinMaxN
import PyProof.SumWalk
import KE.KTupSum
import PyProof.Rows.SortWalk
import PyProof.CompUse
import PyProof.ListMulRoad
import PyProof.FactsAll.tuple
import PyProof.CallStr
import PyProof.StrLawsTight
import PyProof.StrLawsFirst
import PyProof.StrLaws
import PyProof.Rows.StrItems
import PyProof.Rows.StrNews2
import PyProof.Rows.StrJoin2
import PyProof.FString
import PyProof.SliceStr2
import PyProof.SetScanFacts
import PyProof.StrWalks
import PyProof.StrBlock2
import PyProof.StrCalls
import PyProof.Rows.StrPadFill
import KE.KRevSl
import PyProof.Rows.StrStep
import PyProof.Rows.StrFirst
import PyProof.StationsW
import PyProof.Conv_int_bool
import KE.KIntText
import KE.KSortTup
import PyProof.ListRange
import PyProof.DictWalks
import PyProof.CollectIter
import PyProof.EnumMake
import PySem.Challenge.RW_benchends_k23_whole_order_texts
set_option genSizeOf false
set_option Elab.async false
set_option linter.all false
set_option maxRecDepth 100000
/-! THE HAND LAYER, for ints, bools, texts, own classes, LISTS and tuples (index, slices, in, append, pop ..), calls, loops. Paste it whole ahead of your own text; what your proof does not reach may be deleted. -/
namespace L2
open PySem PySem.Spec PyProof.Rows

/-- a key: an int or a str -/
abbrev Key := Sum Int Str
def keyIs : Key → Value → Bool
  | .inl k, v => Value.isInt k v
  | .inr x, v => Value.isStrOf x v
def keyH (w : World) : Key → Int
  | .inl k => hashInt k
  | .inr x => hashStr w x
theorem keyIs_shape : ∀ {k : Key} {v : Value}, keyIs k v = true → (∃ i t, k = Sum.inl i ∧ v = Value.int i t) ∨ (∃ x t, k = Sum.inr x ∧ v = Value.str x t)
  | .inl i, v, h => by
    obtain ⟨t, e⟩ := Value.isInt_shape (k := i) (v := v) h
    exact .inl ⟨i, t, rfl, e⟩
  | .inr x, v, h => by
    obtain ⟨t, e⟩ := Value.isStrOf_shape (x := x) (v := v) h
    exact .inr ⟨x, t, rfl, e⟩
theorem keyIs_int (i : Int) (t : Tok) : keyIs (.inl i) (.int i t) = true := by simp [keyIs, Value.isInt]
theorem keyIs_str (x : Str) (t : Tok) : keyIs (.inr x) (.str x t) = true := by simp [keyIs, Value.isStrOf]
theorem key_ll (a b : Int) : decide ((Sum.inl a : Key) = Sum.inl b) = (a == b) := by
  by_cases e : a = b
  · subst e; simp
  · have h : ¬ (Sum.inl a : Key) = Sum.inl b := fun q => e (Sum.inl.inj q)
    rw [decide_eq_false h]
    exact (beq_eq_false_iff_ne.mpr e).symm
theorem key_rr (a b : Str) : decide ((Sum.inr a : Key) = Sum.inr b) = decide (a = b) := by
  by_cases e : a = b
  · subst e; simp
  · have h : ¬ (Sum.inr a : Key) = Sum.inr b := fun q => e (Sum.inr.inj q)
    rw [decide_eq_false h, decide_eq_false e]
theorem key_lr (a : Int) (b : Str) : decide ((Sum.inl a : Key) = Sum.inr b) = false := decide_eq_false (fun q => nomatch q)
theorem key_rl (a : Str) (b : Int) : decide ((Sum.inr a : Key) = Sum.inl b) = false := decide_eq_false (fun q => nomatch q)

def mixKind (prog : Program) (w : World) : PySem.KeyKind prog w Key where
  is := keyIs
  hash := keyH w
  inj := fun v a b ha hb => by
    rcases keyIs_shape ha with ⟨i, t, rfl, rfl⟩ | ⟨x, t, rfl, rfl⟩
    · rcases keyIs_shape hb with ⟨j, u, rfl, e⟩ | ⟨y, u, rfl, e⟩
      · injection e with e1 _; rw [e1]
      · exact nomatch e
    · rcases keyIs_shape hb with ⟨j, u, rfl, e⟩ | ⟨y, u, rfl, e⟩
      · exact nomatch e
      · injection e with e1 _; rw [e1]
  byValue := fun k v h => by
    rcases keyIs_shape h with ⟨i, t, rfl, rfl⟩ | ⟨x, t, rfl, rfl⟩ <;> rfl
  pyHash := fun hv h => by
    rcases keyIs_shape hv with ⟨i, t, rfl, rfl⟩ | ⟨x, t, rfl, rfl⟩
    · exact wpAny_pyHash_int h
    · exact wpAny_pyHash_str h
  eqBool := fun hu hv h => by
    rcases keyIs_shape hu with ⟨i, t, rfl, rfl⟩ | ⟨x, t, rfl, rfl⟩
    · rcases keyIs_shape hv with ⟨j, u, rfl, rfl⟩ | ⟨y, u, rfl, rfl⟩
      · rw [key_ll] at h; exact wpAny_eqBool_int h
      · rw [key_lr] at h; exact SeqAt.EqAt.int_str i t y u _ _ _ _ h
    · rcases keyIs_shape hv with ⟨j, u, rfl, rfl⟩ | ⟨y, u, rfl, rfl⟩
      · rw [key_rl] at h; exact SeqAt.EqAt.str_int x t j u _ _ _ _ h
      · rw [key_rr] at h; exact wpAny_eqBool_str h
  «strs» := fun k x t v h => by
    rcases keyIs_shape h with ⟨i, u, rfl, e⟩ | ⟨y, u, rfl, e⟩
    · exact nomatch e
    · injection e with e1 _
      subst e1
      cases v <;> rfl

theorem mixKind_int (prog : Program) (w : World) (i : Int) (t : Tok) : (mixKind prog w).is (.inl i) (.int i t) = true := keyIs_int i t
theorem mixKind_str (prog : Program) (w : World) (x : Str) (t : Tok) : (mixKind prog w).is (.inr x) (.str x t) = true := keyIs_str x t
end L2

namespace L2
open PySem PySem.Spec PyProof.Rows

/-- a value, without the heap -/
inductive V where
  | non | bl (b : Bool) | int (i : Int) | str (x : Str) | byt (b : Array UInt8) | flt (b : UInt64) | ref (a : Addr) | ty (n : String)
  deriving DecidableEq

def RelV : V → Value → Prop
  | .non, u => u = Value.none
  | .bl b, u => u = Value.bool b
  | .int i, u => ∃ t, u = Value.int i t
  | .str x, u => ∃ t, u = Value.str x t
  | .byt b, u => ∃ t, u = Value.bytes b t
  | .flt b, u => ∃ t, u = Value.float b t
  | .ref a, u => u = Value.ref a
  | .ty n, u => u = Value.type n

abbrev Vals : List V → List Value → Prop := Paired RelV
theorem Vals.length {xs : List V} {us : List Value} (r : Vals xs us) : xs.length = us.length := Paired.length r
theorem Vals.get : ∀ {xs : List V} {us : List Value} {i : Nat} {x : V}, Vals xs us → xs[i]? = some x → ∃ u, us[i]? = some u ∧ RelV x u
  | _, _, _, _, .nil, e => by simp at e
  | _, _, 0, _, .cons r _, e => by simp at e; subst e; exact ⟨_, rfl, r⟩
  | _, _, i + 1, x, .cons _ t, e => by
    obtain ⟨u, h1, h2⟩ := Vals.get (i := i) (x := x) t (by simpa using e)
    exact ⟨u, by simpa using h1, h2⟩
theorem Vals.set {x : V} {u : Value} (r : RelV x u) : ∀ {xs : List V} {us : List Value} (i : Nat), Vals xs us → Vals (xs.set i x) (us.set i u)
  | _, _, _, .nil => .nil
  | _, _, 0, .cons _ t => .cons r t
  | _, _, i + 1, .cons q t => .cons q (Vals.set r i t)
theorem Vals.append : ∀ {xs ys : List V} {us ws : List Value}, Vals xs us → Vals ys ws → Vals (xs ++ ys) (us ++ ws)
  | _, _, _, _, .nil, s => s
  | _, _, _, _, .cons r t, s => .cons r (Vals.append t s)
theorem Vals.take : ∀ {xs : List V} {us : List Value} (n : Nat), Vals xs us → Vals (xs.take n) (us.take n)
  | _, _, 0, _ => .nil
  | _, _, _ + 1, .nil => .nil
  | _, _, n + 1, .cons r t => .cons r (Vals.take n t)
theorem Vals.drop : ∀ {xs : List V} {us : List Value} (n : Nat), Vals xs us → Vals (xs.drop n) (us.drop n)
  | _, _, 0, r => r
  | _, _, _ + 1, .nil => .nil
  | _, _, n + 1, .cons _ t => Vals.drop n t
def RelO : Option V → Option Value → Prop
  | some v, some u => RelV v u
  | none, none => True
  | _, _ => False
def KV {κ : Type} : List (κ × V) → List (κ × Value) → Prop := Paired fun (p : κ × V) (q : κ × Value) => p.1 = q.1 ∧ RelV p.2 q.2

/-- a key of a dict (00_mix): an int or a text -/
def kV : Key → V
  | .inl i => .int i
  | .inr x => .str x

/-- what stands at a tracked address -/
inductive HO where
  /-- a list -/
  | lst (xs : List V)
  /-- a tuple (never changes) -/
  | tup (xs : List V)
  /-- a dict whose keys are ints and texts; one whose keys are tuples of ints and texts (the empty one is both) -/
  | dK (kvs : List (Key × V)) | dT (kvs : List (List Key × V))
  /-- a set of ints: its members, its size -/
  | set (S : Int → Bool) (n : Nat)
  /-- an instance of the class at C, its dict at dx, its attributes -/
  | ins (C dx : Addr) (fs : List (Str × V))
  /-- the dict of the instance at x -/
  | own (x : Addr)
  /-- the dict of an exception -/
  | xd (fs : List (Str × V))
  /-- a bound method, f of x -/
  | met (f x : Addr)
  /-- a range object lo, lo + 1, .. below hi -/
  | rng (lo hi : Int)
  /-- a thing that is known to the object (the script; a dict while a loop walks it): read, never written while it is so -/
  | frz (o : Obj) (u : HO)
  /-- a code object's table -/
  | tbl (ps : Array Value)
  /-- any other thing, by what is true of its one object (a def of one's own: SetO a S n := HO.ext fun h => ..) -/
  | ext (φ : Heap → Prop)

abbrev Hp := Addr → Option HO
def upd (H : Hp) (a : Addr) (o : HO) : Hp := fun b => if b = a then some o else H b
theorem upd_same {H : Hp} {a : Addr} {o : HO} : upd H a o a = some o := by unfold upd; rw [if_pos rfl]
theorem upd_ne {H : Hp} {a b : Addr} {o : HO} (h : b ≠ a) : upd H a o b = H b := by unfold upd; rw [if_neg h]
/-- two objects of different content stand apart -/
theorem ne_of {H : Hp} {a b : Addr} {o u : HO} (h : H a = some o) (h' : H b = some u) (d : o ≠ u) : a ≠ b := by
  intro e; subst e; rw [h] at h'; exact d (Option.some.inj h')
theorem ne_of_none {H : Hp} {a b : Addr} {o : HO} (h : H a = some o) (h' : H b = none) : a ≠ b := by
  intro e; subst e; rw [h] at h'; cases h'

section
variable (P : Program) (w : World)
def TupP (h : Heap) (a : Addr) (items : Array Value) : Prop := ∃ o, h.get? a = some o ∧ o.cls = .type "tuple" ∧ o.dict = none ∧ ∃ n, o.data = .seq items n
theorem TupP.t {h : Heap} {a : Addr} {items : Array Value} (p : TupP h a items) : IsTup h a items := let ⟨o, e, c, _, n, d⟩ := p; ⟨o, e, c, n, d⟩
theorem TupP.new (h : Heap) (items : Array Value) : TupP (h.push { cls := .type "tuple", data := .seq items }) h.objs.size items := ⟨_, Heap.get?_push_size _ rfl, rfl, rfl, 0, rfl⟩
def ObjOk (H : Hp) (h : Heap) (a : Addr) : HO → Prop
  | .lst xs => xs.length ≤ sizeLine ∧ ∃ (its : List Value) (n : Nat), Vals xs its ∧ h.get? a = some { cls := .type "list", data := .seq its.toArray n }
  | .tup xs => xs.length ≤ sizeLine ∧ ∃ its : List Value, Vals xs its ∧ TupP h a its.toArray
  | .dK kvs => kvs.length ≤ sizeLine ∧ (a == sysModules) = false ∧ ∃ vs, KV kvs vs ∧ h.DictOf (mixKind P w) a vs
  | .dT kvs => kvs.length ≤ sizeLine ∧ (a == sysModules) = false ∧ ∃ xs : List (List Key × Addr × Value),
      Paired (fun (p : List Key × V) (q : List Key × Addr × Value) => p.1 = q.1 ∧ H q.2.1 = some (.tup (p.1.map kV)) ∧ RelV p.2 q.2.2) kvs xs ∧
      ∃ o es ep, h.get? a = some o ∧ o.ExactDict ∧ o.data = .dict es ep ∧ es.toList = xs.map (entryOfKey (tupleKind (mixKind P w))) ∧ (xs.map (·.1)).Nodup
  | .set S n => h.SetOf (intKind P w) a S n
  | .ins C dx fs => H dx = some (.own a) ∧ fs.length ≤ 1000 ∧ dx ≠ a ∧ h.get? a = some (PySem.W.instObj C dx) ∧
      ∃ mA, h.Ns1 dx mA ∧ (∀ f, RelO (fs.lookup f) (mA f)) ∧ PySem.Within mA (fs.map (·.1))
  | .own _ => ∃ o, h.get? a = some o
  | .xd fs => ∃ mA, h.Ns1 a mA ∧ ∀ f, RelO (fs.lookup f) (mA f)
  | .rng lo hi => ∃ t u v, h.get? a = some { cls := .type "range", data := .fields #[.int lo t, .int hi u, .int 1 v] }
  | .frz o u => h.get? a = some o ∧ ObjOk H h a u
  | .tbl ps => h.get? a = some { cls := .none, data := .fields ps }
  | .met f x => h.get? a = some (PySem.W.methodObj (.ref f) (.ref x))
  | .ext φ => φ h ∧ (∃ o, h.get? a = some o) ∧ ∀ h1 h2 : Heap, φ h1 → (∀ o, h1.get? a = some o → h2.get? a = some o) → φ h2
/-- the abstract heap is held -/
def HOk (H : Hp) (h : Heap) : Prop := ∀ a o, H a = some o → ObjOk P w H h a o
end

section
variable {P : Program} {w : World} {H H' : Hp} {h h' : Heap} {a : Addr} {o : HO}
theorem ObjOk.lt (x : ObjOk P w H h a o) : a < h.objs.size := by
  cases o with
  | lst xs => obtain ⟨_, _, _, _, e⟩ := x; exact Heap.lt_size e
  | tup xs => obtain ⟨_, _, _, p⟩ := x; exact p.t.lt
  | dK kvs => obtain ⟨_, _, _, _, o, _, _, e, _⟩ := x; exact Heap.lt_size e
  | dT kvs => obtain ⟨_, _, _, _, o, _, _, e, _⟩ := x; exact Heap.lt_size e
  | set S n => obtain ⟨o, _, _, _, e, _⟩ := x; exact Heap.lt_size e
  | ins C dx fs => obtain ⟨_, _, _, e, _⟩ := x; exact Heap.lt_size e
  | own y => obtain ⟨_, e⟩ := x; exact Heap.lt_size e
  | xd fs => obtain ⟨_, ⟨_, _, _, e, _⟩, _⟩ := x; exact Heap.lt_size e
  | rng lo hi => obtain ⟨_, _, _, e⟩ := x; exact Heap.lt_size e
  | frz ob u => obtain ⟨e, _⟩ := x; exact Heap.lt_size e
  | tbl ps => exact Heap.lt_size (show h.get? a = some _ from x)
  | met f y => exact Heap.lt_size (show h.get? a = some _ from x)
  | ext φ => obtain ⟨_, ⟨_, e⟩, _⟩ := x; exact Heap.lt_size e
theorem Paired.mapP {α β : Type} {F G : α → β → Prop} : ∀ {l₁ : List α} {l₂ : List β}, Paired F l₁ l₂ → (∀ a b, F a b → G a b) → Paired G l₁ l₂
  | _, _, .nil, _ => .nil
  | _, _, .cons r t, f => .cons (f _ _ r) (Paired.mapP t f)
/-- what an object's description leans on: its own object, its own dict, the tuples -/
theorem ObjOk.stay (x : ObjOk P w H h a o) (k : ∀ b u, (b = a ∨ H b = some (.own a)) → h.get? b = some u → h'.get? b = some u)
    (ho : ∀ b, H b = some (.own a) → H' b = some (.own a)) (ht : ∀ b xs, H b = some (.tup xs) → H' b = some (.tup xs)) : ObjOk P w H' h' a o := by
  induction o with
  | lst xs => obtain ⟨z, its, n, r, e⟩ := x; exact ⟨z, its, n, r, k _ _ (.inl rfl) e⟩
  | tup xs => obtain ⟨z, its, r, ob, e, c⟩ := x; exact ⟨z, its, r, ob, k _ _ (.inl rfl) e, c⟩
  | dK kvs => obtain ⟨z, y, vs, r, ob, es, ep, e, c⟩ := x; exact ⟨z, y, vs, r, ob, es, ep, k _ _ (.inl rfl) e, c⟩
  | dT kvs =>
    obtain ⟨z, y, xs, r, ob, es, ep, e, c⟩ := x
    exact ⟨z, y, xs, Paired.mapP r fun p q z => ⟨z.1, ht _ _ z.2.1, z.2.2⟩, ob, es, ep, k _ _ (.inl rfl) e, c⟩
  | set S n => obtain ⟨ob, es, ep, t, e, c⟩ := x; exact ⟨ob, es, ep, t, k _ _ (.inl rfl) e, c⟩
  | ins C dx fs =>
    obtain ⟨d, z, ne, e, mA, ⟨od, es, ep, e2, c⟩, r⟩ := x
    exact ⟨ho _ d, z, ne, k _ _ (.inl rfl) e, mA, ⟨od, es, ep, k _ _ (.inr d) e2, c⟩, r⟩
  | own y => obtain ⟨ob, e⟩ := x; exact ⟨ob, k _ _ (.inl rfl) e⟩
  | xd fs => obtain ⟨mA, ⟨od, es, ep, e, c⟩, r⟩ := x; exact ⟨mA, ⟨od, es, ep, k _ _ (.inl rfl) e, c⟩, r⟩
  | rng lo hi => obtain ⟨t, u, v, e⟩ := x; exact ⟨t, u, v, k _ _ (.inl rfl) e⟩
  | frz ob u ih => obtain ⟨e, q⟩ := x; exact ⟨k _ _ (.inl rfl) e, ih q⟩
  | tbl ps =>
    have e : h.get? a = some { cls := .none, data := .fields ps } := x
    show h'.get? a = some { cls := .none, data := .fields ps }
    exact k a _ (.inl rfl) e
  | met f y =>
    have e : h.get? a = some (PySem.W.methodObj (.ref f) (.ref y)) := x
    show h'.get? a = some (PySem.W.methodObj (.ref f) (.ref y))
    exact k a _ (.inl rfl) e
  | ext φ => obtain ⟨p, ⟨o, e⟩, st⟩ := x; exact ⟨st _ _ p fun o q => k _ _ (.inl rfl) q, ⟨o, k _ _ (.inl rfl) e⟩, st⟩
theorem HOk.lt (x : HOk P w H h) (e : H a = some o) : a < h.objs.size := (x a o e).lt
theorem HOk.fresh (x : HOk P w H h) (e : h.objs.size ≤ a) : H a = none := by
  cases q : H a with
  | none => rfl
  | some u => exact absurd (Nat.lt_of_lt_of_le (x.lt q) e) (Nat.lt_irrefl _)
/-- every object of the heap is kept -/
theorem HOk.kept (x : HOk P w H h) (k : ∀ b u, h.get? b = some u → h'.get? b = some u) : HOk P w H h' := fun a o e =>
  (x a o e).stay (fun b u _ q => k b u q) (fun _ q => q) fun _ _ q => q
/-- a new object is laid and tracked -/
theorem HOk.laid (x : HOk P w H h) (k : ∀ b u, h.get? b = some u → h'.get? b = some u) (hp : h.objs.size ≤ a) (new : ObjOk P w (upd H a o) h' a o) : HOk P w (upd H a o) h' := fun b u e => by
  have hn := x.fresh hp
  by_cases hb : b = a
  · subst hb; rw [upd_same] at e; cases e; exact new
  · rw [upd_ne hb] at e
    exact (x b u e).stay (fun c v _ q => k c v q) (fun c q => by rw [upd_ne (ne_of_none q hn)]; exact q) fun c xs q => by rw [upd_ne (ne_of_none q hn)]; exact q
end

/-- what may be read as u: it is u, or a known u -/
def Rd (H : Hp) (a : Addr) (u : HO) : Prop := H a = some u ∨ ∃ o, H a = some (.frz o u)
theorem Rd.ok {P : Program} {w : World} {H : Hp} {h : Heap} {a : Addr} {u : HO} (r : Rd H a u) (x : HOk P w H h) : ObjOk P w H h a u := by
  rcases r with r | ⟨o, r⟩
  · exact x a u r
  · obtain ⟨_, q⟩ := x a _ r
    exact q
/-- what may be written -/
def Mut : Option HO → Prop
  | some (.lst _) => True
  | some (.dK _) => True
  | some (.dT _) => True
  | some (.set _ _) => True
  | some (.ins _ _ _) => True
  | some (.ext _) => True
  | _ => False
section
variable {P : Program} {w : World} {H : Hp} {h h' : Heap} {x e : Addr} {o' : HO}
/-- the object at e is changed: x itself, or the dict of the instance x -/
theorem HOk.write (ok : HOk P w H h) (mu : Mut (H x)) (he : e = x ∨ H e = some (.own x)) (k : ∀ b u, b ≠ e → h.get? b = some u → h'.get? b = some u) (heo : ∃ u, h'.get? e = some u)
    (new : ObjOk P w (upd H x o') h' x o') : HOk P w (upd H x o') h' := fun b u q => by
  have nown : ∀ c y, H c = some (.own y) → c ≠ x := fun c y r z => by subst z; rw [r] at mu; exact mu
  have ntup : ∀ c xs, H c = some (.tup xs) → c ≠ x := fun c xs r z => by subst z; rw [r] at mu; exact mu
  by_cases hb : b = x
  · subst hb; rw [upd_same] at q; cases q; exact new
  · rw [upd_ne hb] at q
    by_cases hbe : b = e
    · have q' : H b = some (.own x) := by
        rcases he with z | z
        · exact absurd (hbe.trans z) hb
        · rw [hbe]; exact z
      rw [q] at q'; cases q'
      obtain ⟨v, hv⟩ := heo
      exact ⟨v, by rw [hbe]; exact hv⟩
    · refine (ok b u q).stay (fun c v hc r => k c v ?_ r) (fun c r => by rw [upd_ne (nown c b r)]; exact r) fun c xs r => by rw [upd_ne (ntup c xs r)]; exact r
      rcases hc with rfl | hc
      · exact hbe
      · rintro rfl
        rcases he with z | z
        · exact nown c b hc z
        · rw [hc] at z; cases z; exact hb rfl
end

/-! ### kept unless tracked; of the frames at fs (the callers') the slots may change (an exception that passes writes there); of the records at ex (iterators) nothing is said -/
structure Un (fs ex : List Addr) (H H' : Hp) (h h' : Heap) : Prop where
  keep : ∀ b o, h.get? b = some o → H b = none → b ∉ fs → b ∉ ex → h'.get? b = some o
  slot : ∀ b o, h.get? b = some o → H b = none → b ∈ fs → b ∉ ex → ∃ sl, h'.get? b = some { o with slots := sl }
  free : ∀ b o, h.get? b = some o → H b = none → b ∉ ex → H' b = none
  there : ∀ b o, h.get? b = some o → b ∉ ex → ∃ o', h'.get? b = some o'
  tups : ∀ b xs, H b = some (.tup xs) → H' b = some (.tup xs)
  frzs : ∀ b o u, H b = some (.frz o u) → H' b = some (.frz o u)
  tbls : ∀ b ps, H b = some (.tbl ps) → ∃ more, H' b = some (.tbl (ps ++ more))
section
variable {fs fs' ex ex' : List Addr} {H H1 H2 : Hp} {h h1 h2 h' : Heap} {a x e : Addr} {o : HO}
theorem Un.any (u : Un fs ex H H1 h h1) {b : Addr} {ob : Obj} (q : h.get? b = some ob) (n : H b = none) (hx : b ∉ ex) : ∃ sl, h1.get? b = some { ob with slots := sl } := by
  by_cases hb : b ∈ fs
  · exact u.slot b ob q n hb hx
  · exact ⟨ob.slots, u.keep b ob q n hb hx⟩
theorem Un.kept (k : ∀ b u, h.get? b = some u → h'.get? b = some u) : Un fs ex H H h h' :=
  ⟨fun b ob q _ _ _ => k b ob q, fun b ob q _ _ _ => ⟨ob.slots, k b ob q⟩, fun _ _ _ n _ => n, fun b ob q _ => ⟨ob, k b ob q⟩, fun _ _ q => q, fun _ _ _ q => q, fun _ ps q => ⟨#[], by rw [q]; simp⟩⟩
theorem Un.refl : Un fs ex H H h h := Un.kept fun _ _ q => q
theorem Un.laid (k : ∀ b u, h.get? b = some u → h'.get? b = some u) (hp : h.objs.size ≤ a) (hn : H a = none) : Un fs ex H (upd H a o) h h' where
  keep := fun b u q _ _ _ => k b u q
  slot := fun b u q _ _ _ => ⟨u.slots, k b u q⟩
  free := fun b u q n _ => by rw [upd_ne (Nat.ne_of_lt (Nat.lt_of_lt_of_le (Heap.lt_size q) hp))]; exact n
  there := fun b u q _ => ⟨u, k b u q⟩
  tups := fun b xs q => by rw [upd_ne (ne_of_none q hn)]; exact q
  frzs := fun b u xs q => by rw [upd_ne (ne_of_none q hn)]; exact q
  tbls := fun b ps q => ⟨#[], by rw [upd_ne (ne_of_none q hn), q]; simp⟩
theorem Un.write (mu : Mut (H x)) (he : e = x ∨ H e = some (.own x)) (k : ∀ b u, b ≠ e → h.get? b = some u → h'.get? b = some u) (heo : ∃ u, h'.get? e = some u) : Un fs ex H (upd H x o) h h' := by
  have hx : ∀ b, H b = none → b ≠ x := fun b n z => by subst z; rw [n] at mu; exact mu
  have hb : ∀ b, H b = none → b ≠ e := fun b n z => by
    subst z
    rcases he with r | r
    · exact hx b n r
    · rw [n] at r; cases r
  have hm : ∀ b u, H b = some u → ¬ Mut (some u) → b ≠ x := fun b u q nm z => by subst z; rw [q] at mu; exact nm mu
  refine ⟨fun b u q n _ _ => k b u (hb b n) q, fun b u q n _ _ => ⟨u.slots, k b u (hb b n) q⟩, fun b u q n _ => by rw [upd_ne (hx b n)]; exact n, fun b u q _ => ?_,
    fun b xs q => by rw [upd_ne (hm b _ q fun z => z)]; exact q, fun b u xs q => by rw [upd_ne (hm b _ q fun z => z)]; exact q, fun b ps q => ⟨#[], by rw [upd_ne (hm b _ q fun z => z), q]; simp⟩⟩
  by_cases hbe : b = e
  · subst hbe; exact heo
  · exact ⟨u, k b u hbe q⟩
end

/-! ### the heap without what is tracked -/
def trk (h : Heap) (H : Hp) : List Addr := (List.range h.objs.size).filter fun a => (H a).isSome
def hidT (h : Heap) (H : Hp) : Heap := PySem.W.hideAll h (trk h H)
theorem hidT_size (h : Heap) (H : Hp) : (hidT h H).objs.size = h.objs.size := PySem.W.hideAll_size _ _
theorem hidT_get {h : Heap} {H : Hp} {b : Addr} {o : Obj} (e : h.get? b = some o) (n : H b = none) : (hidT h H).get? b = some o :=
  PySem.W.hideAll_get _ e fun hm => by
    have q : (H b).isSome = true := (List.mem_filter.mp hm).2
    rw [n] at q; simp at q
theorem of_hidT {h : Heap} {H : Hp} {b : Addr} {o : Obj} (e : (hidT h H).get? b = some o) : h.get? b = some o ∧ H b = none := by
  have e' : h.get? b = some o := PySem.W.of_hideAll (trk h H) e
  refine ⟨e', ?_⟩
  cases q : H b with
  | none => rfl
  | some x =>
    have hm : b ∈ trk h H := List.mem_filter.mpr ⟨List.mem_range.mpr (Heap.lt_size e'), by simp [q]⟩
    have z : (hidT h H).get? b = none := PySem.W.hideAll_none (trk h H) hm
    rw [z] at e; cases e

/-! ### OpenK's ledger, filled with every new object but one -/
end L2

namespace L2
open PySem PySem.Spec PyProof.Rows

/-- the module's facts, over the base: the heap at the law's entry without what is tracked there -/
structure Mod (K : PySem.W.Frag) (mg : Str → Option Value) (base : Heap) : Prop where
  kin : K.In base
  glob : base.Ns mainGlobals mg
  blt : ∃ mb, base.Ns builtinsNs mb ∧ ∀ x : Str, x ≠ "__name__" → mb x = bootBuiltins x
  nolimit : base.NoLimit

/-- the context: a def's body (or a comprehension's block) running. base: fixed through the whole law; s₀, H₀: the entry; outer: the frames whose slots others may change (a def's callers); stack: all frames that run;
   ex: iterators that were made ahead of the entry and are walked here (a comprehension's); fn: the names whose cells were made at the entry (a def: all; a comprehension's block: its own); calm: not within an except suite; pn: pins that every state bears; xe: what is wanted of an exception that leaves the code -/
structure Cx where
  prog : Program
  w : World
  K : PySem.W.Frag
  mg : Str → Option Value
  base : Heap
  A : Around
  N : List Str
  s₀ : Shared
  H₀ : Hp
  env : Env
  outer : List Env
  stack : List Env
  ex : List Addr
  fn : Str → Bool
  calm : Bool
  pn : List (Addr × Obj)
  xe : Value → Shared → Prop
/-- the callers' frames -/
def frs (l : List Env) : List Addr := l.filterMap (·.frame)
abbrev Cx.fs (X : Cx) : List Addr := frs X.outer

def Vis (sc : Scope) (x : Str) : Prop := sc.names.lookup x = some .local ∨ sc.names.lookup x = some .cell ∨ sc.names.lookup x = some .free
def Loc (sc : Scope) (x : Str) : Prop := sc.names.lookup x = some .local ∨ sc.names.lookup x = some .cell
def Look (env : Env) (h : Heap) (m : Str → Option Value) (x : Str) (u : Value) : Prop :=
  (env.kindOf x = some .local ∧ m x = some u) ∨ ((env.kindOf x = some .cell ∨ env.kindOf x = some .free) ∧ ∃ c, env.cells.lookup x = some c ∧ h.IsCell c (some u))

structure Cx.Ok (X : Cx) : Prop where
  mod : Mod X.K X.mg X.base
  kind : X.env.scope.kind = .function
  glob : X.env.globals = mainGlobals
  blt : X.env.builtins = builtinsNs
  above : X.s₀.heap.objs.size ≤ X.env.locals
  inj : ∀ x y c, X.env.cells.lookup x = some c → X.env.cells.lookup y = some c → x = y
  has : ∀ x, (X.env.kindOf x = some .cell ∨ X.env.kindOf x = some .free) → ∃ c, X.env.cells.lookup x = some c
  cab : ∀ x c, X.fn x = true → X.env.cells.lookup x = some c → X.s₀.heap.objs.size ≤ c
  hd : X.calm = true → X.A.handled = none
  frames : X.A.frames = some X.stack
  stk : X.stack = X.outer ∨ (X.stack = X.env :: X.outer ∧ X.env.frame = some X.env.locals)
  exf : ∀ b ∈ X.ex, b ≠ X.env.locals ∧ ∀ x c, X.env.cells.lookup x = some c → c ≠ b
  bs : ∀ b o, X.base.get? b = some o → X.s₀.heap.get? b = some o ∧ X.H₀ b = none
  bsz : X.base.objs.size ≤ X.s₀.heap.objs.size
  noex : ∀ b o, X.base.get? b = some o → b ∉ X.ex
  exfs : ∀ b ∈ X.ex, b ∉ X.fs
  funs : X.s₀.heap.FunFrames X.base X.outer
  frf : ∀ b ∈ X.fs, X.H₀ b = none

structure Inv (X : Cx) (pins : List (Addr × Obj)) (σ : List (Option V)) (H : Hp) (s : Shared) : Prop where
  ok : X.Ok
  os : s.os = X.s₀.os
  bare : AllBare s.gens
  base : Un X.fs X.ex X.H₀ H X.s₀.heap s.heap
  loc : ∃ m, s.heap.Ns X.env.locals m ∧ ∀ (i : Nat) (x : Str) (v : V), X.N[i]? = some x → σ[i]? = some (some v) → Vis X.env.scope x → ∃ u, RelV v u ∧ Look X.env s.heap m x u
  cell : ∀ x c, X.env.cells.lookup x = some c → ∃ v, s.heap.IsCell c v
  free : H X.env.locals = none
  freeC : ∀ x c, X.env.cells.lookup x = some c → H c = none
  pin : ∀ p ∈ X.pn ++ pins, s.heap.get? p.1 = some p.2 ∧ H p.1 = none ∧ p.1 ≠ X.env.locals ∧ p.1 ∉ X.fs ∧ ∀ v, p.2.data ≠ .cell v
  hok : HOk X.prog X.w H s.heap
  len : σ.length = X.N.length

section
variable {X : Cx} {pins : List (Addr × Obj)} {σ : List (Option V)} {H H' : Hp} {s : Shared} {h' : Heap}

theorem Cx.Ok.nofr (ok : X.Ok) {b : Addr} {o : Obj} (e : X.base.get? b = some o) : b ∉ X.fs := fun hb => by
  have := (ok.funs.mem hb).1
  rw [e] at this; cases this
theorem Inv.bs (I : Inv X pins σ H s) : ∀ b o, X.base.get? b = some o → s.heap.get? b = some o ∧ H b = none := fun b o e =>
  ⟨I.base.keep b o (I.ok.bs b o e).1 (I.ok.bs b o e).2 (I.ok.nofr e) (I.ok.noex b o e), I.base.free b o (I.ok.bs b o e).1 (I.ok.bs b o e).2 (I.ok.noex b o e)⟩
theorem Inv.bk (I : Inv X pins σ H s) : ∀ b o, X.base.get? b = some o → s.heap.get? b = some o := fun b o e => (I.bs b o e).1
theorem Inv.mod (I : Inv X pins σ H s) : Mod X.K X.mg X.base := I.ok.mod
theorem Inv.kIn (I : Inv X pins σ H s) : X.K.In s.heap := I.ok.mod.kin.keeps I.bk
/-- the frame over the base: for OpenK's rules (K.In X.base is I.mod.kin) -/
theorem Inv.fr (I : Inv X pins σ H s) : ∃ m, Fr X.base X.env.locals s.heap m :=
  let ⟨m, hn, _⟩ := I.loc
  ⟨m, hn, I.bk, Nat.le_trans I.ok.bsz I.ok.above⟩
theorem Inv.lt (I : Inv X pins σ H s) : X.env.locals < s.heap.objs.size := let ⟨_, hn, _⟩ := I.loc; hn.lt
theorem Inv.sz (I : Inv X pins σ H s) : X.s₀.heap.objs.size ≤ s.heap.objs.size := Nat.le_trans I.ok.above (Nat.le_of_lt I.lt)
theorem Inv.nofs (I : Inv X pins σ H s) {a : Addr} (h : s.heap.objs.size ≤ a) : a ∉ X.fs := fun hb => by
  obtain ⟨_, o, ho, _⟩ := I.ok.funs.mem hb
  exact absurd (Nat.lt_of_lt_of_le (Heap.lt_size ho) (Nat.le_trans I.sz h)) (Nat.lt_irrefl _)
theorem Inv.cne (I : Inv X pins σ H s) : ∀ x c, X.env.cells.lookup x = some c → c ≠ X.env.locals := fun x c e z => by
  obtain ⟨v, o, ho, hd⟩ := I.cell x c e
  obtain ⟨m, ⟨o', es, ep, ho', hd', _⟩, _⟩ := I.loc
  rw [z, ho'] at ho; cases ho; rw [hd'] at hd; cases hd
theorem Inv.funs (I : Inv X pins σ H s) : s.heap.FunFrames X.base X.outer := by
  have all : ∀ (l : List Env), (∀ b ∈ frs l, b ∈ X.fs) → X.s₀.heap.FunFrames X.base l → s.heap.FunFrames X.base l := by
    intro l
    induction l with
    | nil => intro _ _; trivial
    | cons env r ih =>
      intro hs hl
      obtain ⟨hk, ⟨L, o, hf, hn, ho, hd⟩, hr⟩ := hl
      have hL : L ∈ X.fs := hs L (by unfold frs; rw [List.filterMap_cons, hf]; exact List.mem_cons_self)
      obtain ⟨sl, e⟩ := I.base.slot L o ho (I.ok.frf L hL) hL fun z => I.ok.exfs L z hL
      exact ⟨hk, ⟨L, _, hf, hn, e, hd⟩, ih (fun b hb => hs b (by unfold frs; rw [List.filterMap_cons, hf]; exact List.mem_cons_of_mem _ hb)) hr⟩
  exact all X.outer (fun _ hb => hb) I.ok.funs

/-- the frames that run, for a call -/
theorem Inv.stack (I : Inv X pins σ H s) : s.heap.FunFrames X.base X.stack := by
  rcases I.ok.stk with e | ⟨e, hf⟩
  · rw [e]; exact I.funs
  · rw [e]
    obtain ⟨m, hn, _⟩ := I.loc
    refine .cons (by rw [I.ok.kind]; decide) hf hn ?_ I.funs
    exact Heap.get?_none_of_le (Nat.le_trans I.ok.bsz I.ok.above)
theorem Inv.stkSub (I : Inv X pins σ H s) : ∀ b ∈ frs X.stack, b ∈ X.env.locals :: X.fs := fun b hb => by
  rcases I.ok.stk with e | ⟨e, hf⟩
  · rw [e] at hb; exact List.mem_cons_of_mem _ hb
  · rw [e] at hb
    unfold frs at hb
    rw [List.filterMap_cons, hf] at hb
    exact hb
theorem Inv.stkFree (I : Inv X pins σ H s) : ∀ b ∈ frs X.stack, H b = none := fun b hb => by
  rcases List.mem_cons.mp (I.stkSub b hb) with e | hb
  · rw [e]; exact I.free
  · obtain ⟨_, o, ho, _⟩ := I.ok.funs.mem hb
    exact I.base.free b o ho (I.ok.frf b hb) fun z => I.ok.exfs b z hb

/-- THE STEP: the untracked objects but the frame and the records at ch are kept (the callers' frames up to slots), the frame's map is kept, the new abstract heap is held -/
theorem Inv.step {g' : Array GenState} {t' : Nat} {d' : Drawn} {ch : List Addr} (I : Inv X pins σ H s)
    (hch : ∀ b ∈ ch, (b ∈ X.ex ∨ X.s₀.heap.objs.size ≤ b) ∧ b ≠ X.env.locals ∧ (∀ x c, X.env.cells.lookup x = some c → c ≠ b) ∧ ∀ p ∈ X.pn ++ pins, p.1 ≠ b)
    (keep : ∀ b o, b ≠ X.env.locals → b ∉ X.fs → b ∉ ch → s.heap.get? b = some o → H b = none → h'.get? b = some o)
    (slot : ∀ b o, b ≠ X.env.locals → b ∈ X.fs → b ∉ ch → s.heap.get? b = some o → H b = none → ∃ sl, h'.get? b = some { o with slots := sl }) (free : ∀ b o, b ∉ ch → s.heap.get? b = some o → H b = none → H' b = none)
    (there : ∀ b o, b ∉ ch → s.heap.get? b = some o → ∃ o', h'.get? b = some o')
    (tups : ∀ b xs, H b = some (.tup xs) → H' b = some (.tup xs)) (frzs : ∀ b o u, H b = some (.frz o u) → H' b = some (.frz o u)) (tbls : ∀ b ps, H b = some (.tbl ps) → ∃ more, H' b = some (.tbl (ps ++ more)))
    (ns : ∀ m, s.heap.Ns X.env.locals m → h'.Ns X.env.locals m) (hok : HOk X.prog X.w H' h') (hg : AllBare g') :
    Inv X pins σ H' { s with heap := h', gens := g', drawn := d', toks := t' } := by
  have neL : ∀ b o, X.s₀.heap.get? b = some o → b ≠ X.env.locals := fun b o e => Nat.ne_of_lt (Nat.lt_of_lt_of_le (Heap.lt_size e) I.ok.above)
  have neC : ∀ b o, X.s₀.heap.get? b = some o → b ∉ X.ex → b ∉ ch := fun b o e hx hb => by
    rcases (hch b hb).1 with z | z
    · exact hx z
    · exact absurd (Nat.lt_of_lt_of_le (Heap.lt_size e) z) (Nat.lt_irrefl _)
  have cellK : ∀ x c, X.env.cells.lookup x = some c → ∀ v, s.heap.IsCell c v → h'.IsCell c v := fun x c e v ⟨o, ho, hd⟩ => by
    have nch : c ∉ ch := fun z => (hch c z).2.2.1 x c e rfl
    by_cases hc : c ∈ X.fs
    · obtain ⟨sl, q⟩ := slot c o (I.cne x c e) hc nch ho (I.freeC x c e)
      exact ⟨_, q, hd⟩
    · exact ⟨o, keep c o (I.cne x c e) hc nch ho (I.freeC x c e), hd⟩
  refine ⟨I.ok, I.os, hg, ⟨fun b o e n hb hx => ?_, fun b o e n hb hx => ?_, fun b o e n hx => ?_, fun b o e hx => ?_, fun b xs e => tups b xs (I.base.tups b xs e), fun b o xs e => frzs b o xs (I.base.frzs b o xs e), fun b ps e => ?_⟩, ?_, fun x c e => ?_, ?_, fun x c e => ?_, fun p hp => ?_, hok, I.len⟩
  · exact keep b o (neL b o e) hb (neC b o e hx) (I.base.keep b o e n hb hx) (I.base.free b o e n hx)
  · obtain ⟨sl, e1⟩ := I.base.slot b o e n hb hx
    obtain ⟨sl', e2⟩ := slot b _ (neL b o e) hb (neC b o e hx) e1 (I.base.free b o e n hx)
    exact ⟨sl', e2⟩
  · obtain ⟨o', e1⟩ := I.base.there b o e hx
    exact free b o' (neC b o e hx) e1 (I.base.free b o e n hx)
  · obtain ⟨o', e1⟩ := I.base.there b o e hx
    exact there b o' (neC b o e hx) e1
  · obtain ⟨m1, e1⟩ := I.base.tbls b ps e
    obtain ⟨m2, e2⟩ := tbls b _ e1
    exact ⟨m1 ++ m2, by rw [e2, Array.append_assoc]⟩
  · obtain ⟨m, hn, hl⟩ := I.loc
    refine ⟨m, ns m hn, fun i x v e1 e2 e3 => ?_⟩
    obtain ⟨u, r, l⟩ := hl i x v e1 e2 e3
    refine ⟨u, r, ?_⟩
    rcases l with l | ⟨k, c, e, z⟩
    · exact .inl l
    · exact .inr ⟨k, c, e, cellK x c e _ z⟩
  · obtain ⟨v, z⟩ := I.cell x c e
    exact ⟨v, cellK x c e v z⟩
  · obtain ⟨m, ⟨o, _, _, ho, _⟩, _⟩ := I.loc
    exact free _ o (fun z => (hch _ z).2.1 rfl) ho I.free
  · obtain ⟨v, o, ho, hd⟩ := I.cell x c e
    exact free c o (fun z => (hch c z).2.2.1 x c e rfl) ho (I.freeC x c e)
  · obtain ⟨e, n, ne, nf, d⟩ := I.pin p hp
    have nch : p.1 ∉ ch := fun z => (hch p.1 z).2.2.2 p hp rfl
    exact ⟨keep p.1 p.2 ne nf nch e n, free p.1 p.2 nch e n, ne, nf, d⟩
/-- .. where the frame's own object is kept too -/
theorem Inv.un {t' : Nat} (I : Inv X pins σ H s) (u : Un X.fs [] H H' s.heap h') (hok : HOk X.prog X.w H' h') : Inv X pins σ H' { s with heap := h', toks := t' } := by
  obtain ⟨m, ⟨o, es, ep, ho, r⟩, _⟩ := id I.loc
  obtain ⟨sl, hL⟩ := u.any ho I.free (by simp)
  exact I.step (g' := s.gens) (d' := s.drawn) (ch := []) (fun _ z => nomatch z) (fun b o _ hb _ e n => u.keep b o e n hb (by simp)) (fun b o _ hb _ e n => u.slot b o e n hb (by simp)) (fun b o _ e n => u.free b o e n (by simp)) (fun b o _ e => u.there b o e (by simp)) u.tups u.frzs u.tbls (fun m' hm => by
    obtain ⟨o', es', ep', ho', r'⟩ := hm
    rw [ho] at ho'; cases ho'
    exact ⟨_, es', ep', hL, r'⟩) hok I.bare
/-- behind a call (or a comprehension's block): the slots of this frame may have changed too, the records at ch may have turned -/
theorem Inv.call {g' : Array GenState} {t' : Nat} {d' : Drawn} {ch : List Addr} (I : Inv X pins σ H s) (u : Un (frs X.stack) ch H H' s.heap h') (hok : HOk X.prog X.w H' h') (hg : AllBare g')
    (hch : ∀ b ∈ ch, (b ∈ X.ex ∨ X.s₀.heap.objs.size ≤ b) ∧ b ≠ X.env.locals ∧ (∀ x c, X.env.cells.lookup x = some c → c ≠ b) ∧ ∀ p ∈ X.pn ++ pins, p.1 ≠ b) :
    Inv X pins σ H' { s with heap := h', gens := g', drawn := d', toks := t' } := by
  obtain ⟨m, ⟨o, es, ep, ho, r⟩, _⟩ := id I.loc
  obtain ⟨sl, hL⟩ := u.any ho I.free fun z => (hch _ z).2.1 rfl
  exact I.step (ch := ch) hch (fun b o hL hb hc e n => u.keep b o e n (fun z => (List.mem_cons.mp (I.stkSub b z)).elim hL hb) hc) (fun b o _ _ hc e n => u.any e n hc) (fun b o hc e n => u.free b o e n hc) (fun b o hc e => u.there b o e hc) u.tups u.frzs u.tbls (fun m' hm => by
    obtain ⟨o', es', ep', ho', r'⟩ := hm
    rw [ho] at ho'; cases ho'
    exact ⟨_, es', ep', hL, r'⟩) hok hg
/-- an untracked record of ours (an iterator) has turned -/
theorem Inv.turned {t' : Nat} {it : Addr} (I : Inv X pins σ H s) (k : ∀ b o, b ≠ it → s.heap.get? b = some o → h'.get? b = some o) (hn : H it = none) (hL : it ≠ X.env.locals)
    (h1 : it ∈ X.ex ∨ X.s₀.heap.objs.size ≤ it) (h2 : ∀ x c, X.env.cells.lookup x = some c → c ≠ it) (h3 : ∀ p ∈ X.pn ++ pins, p.1 ≠ it) : Inv X pins σ H { s with heap := h', toks := t' } := by
  have nit : ∀ b u, H b = some u → b ≠ it := fun b u e z => by rw [z, hn] at e; cases e
  refine I.step (g' := s.gens) (d' := s.drawn) (ch := [it]) (fun b hb => ?_) (fun b o _ _ hc e _ => k b o (fun z => hc (by simp [z])) e) (fun b o _ _ hc e _ => ⟨o.slots, k b o (fun z => hc (by simp [z])) e⟩) (fun _ _ _ _ n => n)
    (fun b o hc e => ⟨o, k b o (fun z => hc (by simp [z])) e⟩) (fun _ _ e => e) (fun _ _ _ e => e) (fun b ps e => ⟨#[], by rw [e]; simp⟩) (fun m hm => ?_) (fun b u e => ?_) I.bare
  · have e : b = it := by simpa using hb
    subst e
    exact ⟨h1, hL, h2, h3⟩
  · obtain ⟨o, es, ep, ho, r⟩ := hm
    exact ⟨o, es, ep, k _ o (Ne.symm hL) ho, r⟩
  · refine (I.hok b u e).stay (fun c v hc q => k c v ?_ q) (fun _ q => q) fun _ _ q => q
    rcases hc with z | z
    · rw [z]; exact nit b u e
    · exact nit c _ z
theorem Inv.tok (I : Inv X pins σ H s) (t : Nat) : Inv X pins σ H { s with toks := t } := I.un (h' := s.heap) (t' := t) Un.refl I.hok
/-- all objects kept -/
theorem Inv.kept {t' : Nat} (I : Inv X pins σ H s) (k : ∀ b u, s.heap.get? b = some u → h'.get? b = some u) : Inv X pins σ H { s with heap := h', toks := t' } := I.un (Un.kept k) (I.hok.kept k)
/-- a new object laid and tracked -/
theorem Inv.laid {a : Addr} {o : HO} {t' : Nat} (I : Inv X pins σ H s) (k : ∀ b u, s.heap.get? b = some u → h'.get? b = some u) (hp : s.heap.objs.size ≤ a) (new : ObjOk X.prog X.w (upd H a o) h' a o) :
    Inv X pins σ (upd H a o) { s with heap := h', toks := t' } := I.un (Un.laid k hp (I.hok.fresh hp)) (I.hok.laid k hp new)
/-- an object written -/
theorem Inv.write {x e : Addr} {o : HO} {t' : Nat} (I : Inv X pins σ H s) (mu : Mut (H x)) (he : e = x ∨ H e = some (.own x)) (k : ∀ b u, b ≠ e → s.heap.get? b = some u → h'.get? b = some u) (heo : ∃ u, h'.get? e = some u)
    (new : ObjOk X.prog X.w (upd H x o) h' x o) : Inv X pins σ (upd H x o) { s with heap := h', toks := t' } := I.un (Un.write mu he k heo) (I.hok.write mu he k heo new)
/-- forgetting slots, pins -/
theorem Inv.weak {σ' : List (Option V)} (I : Inv X pins σ H s) (hl : σ'.length = σ.length) (w : ∀ (i : Nat) v, σ'[i]? = some (some v) → σ[i]? = some (some v)) : Inv X pins σ' H s :=
  ⟨I.ok, I.os, I.bare, I.base, let ⟨m, hn, hl'⟩ := I.loc; ⟨m, hn, fun i x v e1 e2 e3 => hl' i x v e1 (w i v e2) e3⟩, I.cell, I.free, I.freeC, I.pin, I.hok, hl.trans I.len⟩
theorem Inv.pins_of {pins' : List (Addr × Obj)} (I : Inv X pins σ H s) (h : ∀ p ∈ pins', s.heap.get? p.1 = some p.2 ∧ H p.1 = none ∧ p.1 ≠ X.env.locals ∧ p.1 ∉ X.fs ∧ ∀ v, p.2.data ≠ .cell v) : Inv X pins' σ H s :=
  ⟨I.ok, I.os, I.bare, I.base, I.loc, I.cell, I.free, I.freeC, fun p hp => (List.mem_append.mp hp).elim (fun z => I.pin p (List.mem_append_left _ z)) (h p), I.hok, I.len⟩

theorem nodup_ix {N : List Str} (hN : N.Nodup) {i j : Nat} {x : Str} (a : N[i]? = some x) (b : N[j]? = some x) : i = j := by
  obtain ⟨h1, e1⟩ := List.getElem?_eq_some_iff.mp a
  obtain ⟨h2, e2⟩ := List.getElem?_eq_some_iff.mp b
  exact (List.getElem_inj hN).mp (e1.trans e2.symm)

/-- a name is stored; what changed -/
theorem store_ok2 {M : Model} {A : Around} {E : Value → Shared → Prop} {i : Nat} {x : Str} {v : V} {u : Value} {Q : Unit → Shared → Prop} (I : Inv X pins σ H s) (hN : X.N.Nodup) (hi : X.N[i]? = some x) (hx : Loc X.env.scope x) (r : RelV v u)
    (h : ∀ s', Inv X pins (σ.set i (some v)) H s' → (∃ a, Heap.SameBut a s.heap s'.heap ∧ (a = X.env.locals ∨ X.env.cells.lookup x = some a)) → Q () s') (hf : X.fn x = true ∨ X.env.scope.names.lookup x = some .local := by first | exact .inl rfl | exact .inr rfl | assumption) : wpAny M A (storeName X.env x u) Q E s := by
  obtain ⟨m, hn, hl⟩ := id I.loc
  have hcls : (X.env.scope.kind == .class || (X.env.scope.kind == .module && X.env.locals != X.env.globals)) = false := by rw [I.ok.kind]; rfl
  have hiσ : i < σ.length := by rw [I.len]; exact (List.getElem?_eq_some_iff.mp hi).1
  have cne := I.cne
  have tracked : ∀ {a : Addr} {h' : Heap}, (∃ o, s.heap.get? a = some o ∧ H a = none) → Heap.SameBut a s.heap h' → HOk X.prog X.w H h' := fun {a h'} ha hs b ob e => by
    obtain ⟨_, _, hfree⟩ := ha
    refine (I.hok b ob e).stay (fun c w' hc q => (hs.2 c ?_).trans q) (fun _ q => q) fun _ _ q => q
    rintro rfl
    rcases hc with rfl | hc
    · rw [hfree] at e; cases e
    · rw [hfree] at hc; cases hc
  rcases hx with hk | hk
  · refine wpAny_storeName_local hk hn (fun h' hn' hs => ?_) hcls
    obtain ⟨oL, _, _, hoL, _⟩ := id hn
    refine h _ ⟨I.ok, I.os, I.bare, ⟨fun b o e n hb hx => ?_, fun b o e n hb hx => ?_, I.base.free, fun b o e hx => ?_, I.base.tups, I.base.frzs, I.base.tbls⟩, ⟨_, hn', fun j y v' e1 e2 e3 => ?_⟩, fun y c e => ?_, I.free, I.freeC, fun p hp => ?_, tracked ⟨oL, hoL, I.free⟩ hs, by simpa using I.len⟩ ⟨_, hs, .inl rfl⟩
    · exact (hs.2 b (Nat.ne_of_lt (Nat.lt_of_lt_of_le (Heap.lt_size e) I.ok.above))).trans (I.base.keep b o e n hb hx)
    · obtain ⟨sl, e1⟩ := I.base.slot b o e n hb hx
      exact ⟨sl, (hs.2 b (Nat.ne_of_lt (Nat.lt_of_lt_of_le (Heap.lt_size e) I.ok.above))).trans e1⟩
    · obtain ⟨o', e1⟩ := I.base.there b o e hx
      exact ⟨o', (hs.2 b (Nat.ne_of_lt (Nat.lt_of_lt_of_le (Heap.lt_size e) I.ok.above))).trans e1⟩
    · by_cases hj : j = i
      · subst hj
        rw [hi] at e1; cases e1
        rw [List.getElem?_set_self hiσ] at e2
        cases e2
        exact ⟨u, r, .inl ⟨hk, by simp⟩⟩
      · rw [List.getElem?_set_ne (Ne.symm hj)] at e2
        obtain ⟨u', r', q⟩ := hl j y v' e1 e2 e3
        refine ⟨u', r', ?_⟩
        rcases q with ⟨k, e⟩ | ⟨k, c, e, z⟩
        · refine .inl ⟨k, ?_⟩
          have : y ≠ x := fun e => hj (nodup_ix hN e1 (e ▸ hi))
          simp [this, e]
        · exact .inr ⟨k, c, e, z.sameBut hs (cne y c e)⟩
    · obtain ⟨w', z⟩ := I.cell y c e
      exact ⟨w', z.sameBut hs (cne y c e)⟩
    · obtain ⟨e, n, ne, nf, d⟩ := I.pin p hp
      exact ⟨(hs.2 p.1 ne).trans e, n, ne, nf, d⟩
  · have hfn : X.fn x = true := by
      rcases hf with z | z
      · exact z
      · rw [z] at hk; cases hk
    obtain ⟨c, hc⟩ := I.ok.has x (.inl hk)
    obtain ⟨w', z⟩ := I.cell x c hc
    refine wpAny_storeName_cell I.ok.kind hk hc z (fun h' hc' hs => ?_)
    obtain ⟨oc, hoc, hocd⟩ := id z
    refine h { s with heap := h' } ⟨I.ok, I.os, I.bare, ⟨fun b o e n hb hx => ?_, fun b o e n hb hx => ?_, I.base.free, fun b o e hx => ?_, I.base.tups, I.base.frzs, I.base.tbls⟩, ⟨m, hn.sameBut hs (Ne.symm (cne x c hc)), fun j y v' e1 e2 e3 => ?_⟩, fun y c' e => ?_, I.free, I.freeC, fun p hp => ?_, tracked ⟨oc, hoc, I.freeC x c hc⟩ hs, by simpa using I.len⟩ ⟨c, hs, .inr hc⟩
    · exact (hs.2 b (Nat.ne_of_lt (Nat.lt_of_lt_of_le (Heap.lt_size e) (I.ok.cab x c hfn hc)))).trans (I.base.keep b o e n hb hx)
    · obtain ⟨sl, e1⟩ := I.base.slot b o e n hb hx
      exact ⟨sl, (hs.2 b (Nat.ne_of_lt (Nat.lt_of_lt_of_le (Heap.lt_size e) (I.ok.cab x c hfn hc)))).trans e1⟩
    · obtain ⟨o', e1⟩ := I.base.there b o e hx
      exact ⟨o', (hs.2 b (Nat.ne_of_lt (Nat.lt_of_lt_of_le (Heap.lt_size e) (I.ok.cab x c hfn hc)))).trans e1⟩
    · by_cases hj : j = i
      · subst hj
        rw [hi] at e1; cases e1
        rw [List.getElem?_set_self hiσ] at e2
        cases e2
        exact ⟨u, r, .inr ⟨.inl hk, c, hc, hc'⟩⟩
      · rw [List.getElem?_set_ne (Ne.symm hj)] at e2
        obtain ⟨u', r', q⟩ := hl j y v' e1 e2 e3
        refine ⟨u', r', ?_⟩
        rcases q with q | ⟨k, c', e, z'⟩
        · exact .inl q
        · refine .inr ⟨k, c', e, z'.sameBut hs ?_⟩
          rintro rfl
          exact hj (nodup_ix hN e1 (I.ok.inj _ _ _ e hc ▸ hi))
    · by_cases hcc : c' = c
      · subst hcc; exact ⟨_, hc'⟩
      · obtain ⟨w2, z2⟩ := I.cell y c' e
        exact ⟨w2, z2.sameBut hs hcc⟩
    · obtain ⟨e, n, ne, nf, d⟩ := I.pin p hp
      refine ⟨(hs.2 p.1 ?_).trans e, n, ne, nf, d⟩
      intro q
      rw [q, hoc] at e
      have q' : oc = p.2 := Option.some.inj e
      exact d w' (by rw [← q']; exact hocd)
theorem store_ok {M : Model} {A : Around} {E : Value → Shared → Prop} {i : Nat} {x : Str} {v : V} {u : Value} {Q : Unit → Shared → Prop} (I : Inv X pins σ H s) (hN : X.N.Nodup) (hi : X.N[i]? = some x) (hx : Loc X.env.scope x) (r : RelV v u)
    (h : ∀ s', Inv X pins (σ.set i (some v)) H s' → Q () s') (hf : X.fn x = true ∨ X.env.scope.names.lookup x = some .local := by first | exact .inl rfl | exact .inr rfl | assumption) : wpAny M A (storeName X.env x u) Q E s :=
  store_ok2 I hN hi hx r (fun s' I' _ => h s' I') hf
/-- behind a call or a block, the state as it is -/
theorem Inv.call' {s' : Shared} {ch : List Addr} (I : Inv X pins σ H s) (ho : s'.os = s.os) (u : Un (frs X.stack) ch H H' s.heap s'.heap) (hok : HOk X.prog X.w H' s'.heap) (hg : AllBare s'.gens)
    (hch : ∀ b ∈ ch, (b ∈ X.ex ∨ X.s₀.heap.objs.size ≤ b) ∧ b ≠ X.env.locals ∧ (∀ x c, X.env.cells.lookup x = some c → c ≠ b) ∧ ∀ p ∈ X.pn ++ pins, p.1 ≠ b) : Inv X pins σ H' s' := by
  obtain ⟨h', g', d', t', o'⟩ := s'
  have e : o' = s.os := ho
  subst e
  exact I.call (g' := g') (t' := t') (d' := d') u hok hg hch
end

/-! ### the judgements -/
/-- an exception: its class, its own dict's address (where it has one), the abstract heap behind it -/
abbrev XK := Value → Option Addr → Hp → Prop
abbrev St := List (Option V)
abbrev VK := V → Hp → Prop
/-- an expression's reading; a test's; an argument list's -/
abbrev TE := St → Hp → VK → Prop
abbrev TT := St → Hp → (Bool → Hp → Prop) → Prop
abbrev TA := St → Hp → (List V → Hp → Prop) → Prop
/-- what is wanted behind a statement -/
structure Ends where
  nx : St → Hp → Prop
  rt : VK
  bk : St → Hp → Prop := fun _ _ => False
  ct : St → Hp → Prop := fun _ _ => False
abbrev TS := Ends → St → Hp → Prop

def EP (X : Cx) (pins : List (Addr × Obj)) (σ : St) (Q : VK) (u : Value) (s' : Shared) : Prop := ∃ v H', Inv X pins σ H' s' ∧ RelV v u ∧ Q v H'
def TP (X : Cx) (pins : List (Addr × Obj)) (σ : St) (Q : Bool → Hp → Prop) (b : Bool) (s' : Shared) : Prop := ∃ H', Inv X pins σ H' s' ∧ Q b H'
def AP (X : Cx) (pins : List (Addr × Obj)) (σ : St) (Q : List V → Hp → Prop) (us : List Value) (s' : Shared) : Prop := ∃ vs H', Inv X pins σ H' s' ∧ Vals vs us ∧ Q vs H'
def SP (X : Cx) (pins : List (Addr × Obj)) (D : Ends) (f : Flow) (s' : Shared) : Prop :=
  match f with
  | .next => ∃ σ' H', Inv X pins σ' H' s' ∧ D.nx σ' H'
  | .brk => ∃ σ' H', Inv X pins σ' H' s' ∧ D.bk σ' H'
  | .cont => ∃ σ' H', Inv X pins σ' H' s' ∧ D.ct σ' H'
  | .ret u => ∃ v σ' H', Inv X pins σ' H' s' ∧ RelV v u ∧ D.rt v H'

def PE (X : Cx) (e : Expr) (t : TE) : Prop :=
  ∀ (pins : List (Addr × Obj)) (s : Shared) (σ : St) (H : Hp) (Q : VK), Inv X pins σ H s → t σ H Q → wpAny (model X.prog X.w) X.A (eval e X.env) (EP X pins σ Q) X.xe s
def PT (X : Cx) (e : Expr) (t : TT) : Prop :=
  ∀ (pins : List (Addr × Obj)) (s : Shared) (σ : St) (H : Hp) (Q : Bool → Hp → Prop), Inv X pins σ H s → t σ H Q → wpAny (model X.prog X.w) X.A (isTrue e X.env (eval e X.env)) (TP X pins σ Q) X.xe s
/-- a test whatever its 'whole' is (and, or) -/
def PW (X : Cx) (e : Expr) (t : TT) : Prop :=
  ∀ (whole : Sem Value) (pins : List (Addr × Obj)) (s : Shared) (σ : St) (H : Hp) (Q : Bool → Hp → Prop), Inv X pins σ H s → t σ H Q → wpAny (model X.prog X.w) X.A (isTrue e X.env whole) (TP X pins σ Q) X.xe s
theorem PW.pt {X : Cx} {e : Expr} {t : TT} (h : PW X e t) : PT X e t := h _
/-- an argument list (no star), from the left -/
def PA (X : Cx) (es : List Expr) (t : TA) : Prop :=
  ∀ (pos : Pos) (pins : List (Addr × Obj)) (s : Shared) (σ : St) (H : Hp) (Q : List V → Hp → Prop), Inv X pins σ H s → t σ H Q → wpAny (model X.prog X.w) X.A (spliced (backTo pos (starEach es X.env))) (AP X pins σ Q) X.xe s
def PS (X : Cx) (st : Stmt) (t : TS) : Prop :=
  ∀ (pins : List (Addr × Obj)) (s : Shared) (σ : St) (H : Hp) (D : Ends), Inv X pins σ H s → t D σ H → wpAny (model X.prog X.w) X.A (exec st X.env) (SP X pins D) X.xe s
def PSs (X : Cx) (st : List Stmt) (t : TS) : Prop :=
  ∀ (pins : List (Addr × Obj)) (s : Shared) (σ : St) (H : Hp) (D : Ends), Inv X pins σ H s → t D σ H → wpAny (model X.prog X.w) X.A (execs st X.env) (SP X pins D) X.xe s
/-- weaken the end -/
theorem thn {α : Type} {t : Sem α} {Q Q' : α → Shared → Prop} {M : Model} {A : Around} {E : Value → Shared → Prop} {s : Shared} (h : wpAny M A t Q E s) (hQ : ∀ a s, Q a s → Q' a s) : wpAny M A t Q' E s := wpAny_mono h hQ fun _ _ x => x
end L2

namespace L2
open PySem PySem.Spec PyProof.Rows
section
variable {X : Cx}

/-- two expressions in a row -/
theorem bin {a b : Expr} {ta tb : TE} (ha : PE X a ta) (hb : PE X b tb) {pins : List (Addr × Obj)} {s : Shared} {σ : St} {H : Hp} {R : V → V → Hp → Prop} (I : Inv X pins σ H s) (h : ta σ H fun x H1 => tb σ H1 fun y H2 => R x y H2)
    {α : Type} {Q : α → Shared → Prop} {f : Value → Value → Sem α}
    (hf : ∀ v u s2 x y H2, Inv X pins σ H2 s2 → RelV x v → RelV y u → R x y H2 → wpAny (model X.prog X.w) X.A (f v u) Q X.xe s2) :
    wpAny (model X.prog X.w) X.A (eval a X.env) (fun v s₁ => wpAny (model X.prog X.w) X.A (eval b X.env) (fun u s₂ => wpAny (model X.prog X.w) X.A (f v u) Q X.xe s₂) X.xe s₁) X.xe s := by
  refine thn (ha pins s σ H _ I h) fun v s1 ⟨x, H1, I1, r1, q1⟩ => ?_
  refine thn (hb pins s1 σ H1 _ I1 q1) fun u s2 ⟨y, H2, I2, r2, q2⟩ => ?_
  exact hf v u s2 x y H2 I2 r1 r2 q2

/-! ### names and constants -/
def tVar (i : Nat) : TE := fun σ H Q => ∃ v, σ[i]? = some (some v) ∧ Q v H
def tC (v : V) : TE := fun _ H Q => Q v H
theorem pe_var {i : Nat} {x : Str} {pos : Pos} (hN : X.N[i]? = some x) (hv : Vis X.env.scope x) (hd : (x == ("__debug__" : Str)) = false := by decide) (hcd : (x == ("__classdict__" : Str)) = false := by decide) : PE X (.Name x pos) (tVar i) := by
  intro pins s σ H Q I h
  obtain ⟨v, e, h⟩ := h
  obtain ⟨m, hn, hl⟩ := I.loc
  obtain ⟨u, r, l⟩ := hl i x v hN e hv
  have fin : EP X pins σ Q u s := ⟨v, H, I, r, h⟩
  rcases l with ⟨hk, hm⟩ | ⟨hk, c, hc, hcell⟩
  · exact wpAny_Name (wpAny_loadName_local I.ok.kind hk hn hm fin) hd
  · rcases hk with hk | hk
    · exact wpAny_Name (wpAny_loadName_cell I.ok.kind hk hc hcell fin) hd
    · exact wpAny_Name (wpAny_loadName_free I.ok.kind hk hc hcell fin hcd) hd
theorem pe_int {i j pos} : PE X (.Constant (.int i) j pos) (tC (.int i)) := fun _ _ _ H _ I h => wpAny_Constant_int ⟨.int i, H, I.tok _, ⟨_, rfl⟩, h⟩
theorem pe_bl {b j pos} : PE X (.Constant (.bool b) j pos) (tC (.bl b)) := fun _ _ _ H _ I h => Constant_bool ⟨.bl b, H, I, rfl, h⟩
theorem pe_non {j pos} : PE X (.Constant .none j pos) (tC .non) := fun _ _ _ H _ I h => Constant_none ⟨.non, H, I, rfl, h⟩
theorem pe_str {x j pos} : PE X (.Constant (.str x) j pos) (tC (.str x)) := fun _ _ _ H _ I h => Calls.Constant_str ⟨.str x, H, I.tok _, ⟨_, rfl⟩, h⟩

/-- a global name of the def -/
def Gl (X : Cx) (x : Str) : Prop := X.env.kindOf x = some .globalImplicit
theorem ld_glob {E : Value → Shared → Prop} {pins : List (Addr × Obj)} {s : Shared} {σ : St} {H : Hp} {x : Str} {u : Value} {pos : Pos} {Q : Value → Shared → Prop} (I : Inv X pins σ H s) (hg : Gl X x) (hm : X.mg x = some u) (h : Q u s)
    (hd : (x == ("__debug__" : Str)) = false := by decide) : wpAny (model X.prog X.w) X.A (eval (.Name x pos) X.env) Q E s :=
  Calls.Name_function_global I.ok.kind hg (Calls.loadGlobal_global (by rw [I.ok.glob]; exact I.mod.glob.keeps I.bk) hm h) hd
theorem ld_blt {E : Value → Shared → Prop} {pins : List (Addr × Obj)} {s : Shared} {σ : St} {H : Hp} {x : Str} {u : Value} {pos : Pos} {Q : Value → Shared → Prop} (I : Inv X pins σ H s) (hg : Gl X x) (hm : X.mg x = none) (hv : bootBuiltins x = some u) (h : Q u s)
    (hn : x ≠ "__name__" := by decide) (hd : (x == ("__debug__" : Str)) = false := by decide) : wpAny (model X.prog X.w) X.A (eval (.Name x pos) X.env) Q E s := by
  obtain ⟨mb, h1, h2⟩ := I.mod.blt
  exact Calls.Name_function_global I.ok.kind hg (Calls.loadGlobal_builtin (by rw [I.ok.glob]; exact I.mod.glob.keeps I.bk) hm (by rw [I.ok.blt]; exact h1.keeps I.bk) ((h2 x hn).trans hv) h) hd
/-- a module's constant, a class, a function, as a value -/
theorem pe_glob {x : Str} {v : V} {u : Value} {pos : Pos} (hg : Gl X x) (hm : X.mg x = some u) (r : RelV v u) (hd : (x == ("__debug__" : Str)) = false := by decide) : PE X (.Name x pos) (tC v) :=
  fun _ _ _ H _ I h => ld_glob I hg hm ⟨v, H, I, r, h⟩ hd
theorem pe_bltn {x : Str} {v : V} {u : Value} {pos : Pos} (hg : Gl X x) (hm : X.mg x = none) (hv : bootBuiltins x = some u) (r : RelV v u) (hn : x ≠ "__name__" := by decide) (hd : (x == ("__debug__" : Str)) = false := by decide) : PE X (.Name x pos) (tC v) :=
  fun _ _ _ H _ I h => ld_blt I hg hm hv ⟨v, H, I, r, h⟩ hn hd

/-! ### arithmetic -/
/-- two ints -/
def t2I (ta tb : TE) (k : Int → Int → Hp → Prop) : St → Hp → Prop := fun σ H => ta σ H fun x H1 => tb σ H1 fun y H2 => ∃ i j, x = .int i ∧ y = .int j ∧ k i j H2
variable {a b : Expr} {ta tb : TE} {pos : Pos}
/-! ### comparisons -/
def PC (X : Cx) (op : CmpOp) (a b : Expr) (t : TE) : Prop :=
  ∀ (pins : List (Addr × Obj)) (s : Shared) (σ : St) (H : Hp) (Q : VK), Inv X pins σ H s → t σ H Q →
    wpAny (model X.prog X.w) X.A (eval a X.env) (fun v s₁ => wpAny (model X.prog X.w) X.A (eval b X.env) (fun u s₂ => wpAny (model X.prog X.w) X.A (compareOp op v u) (EP X pins σ Q) X.xe s₂) X.xe s₁) X.xe s
def tCmp (p : Int → Int → Bool) (ta tb : TE) : TE := fun σ H Q => t2I ta tb (fun i j H2 => Q (.bl (p i j)) H2) σ H
/-- a comparison as a value, as a test -/
def tB (t : TE) : TT := fun σ H Q => t σ H fun x H1 => ∃ c, x = .bl c ∧ Q c H1
theorem pt_cmp {op : CmpOp} {t : TE} (h : PC X op a b t) (h1 : behindInMarks op b = false := by first | exact nobehind _ (by decide) (by decide) | rfl) : PT X (.Compare a [op] [b] pos) (tB t) := by
  intro pins s σ H Q I hw
  refine wpAny_isTrue_Compare1 (thn (h pins s σ H _ I hw) fun v s1 h1 => thn h1 fun u s2 h2 => thn h2 fun c s3 ⟨x, H1, I1, r1, q1⟩ => ?_) h1
  obtain ⟨d, rfl, q⟩ := q1
  cases r1
  exact wpAny_truthy_bool ⟨H1, I1, q⟩
/-- an expression whose value is a bool, as a test -/
theorem pt_val {e : Expr} {t : TE} (h : PE X e t) (he : ∀ whole, isTrue e X.env whole = (do let v ← whole; standAt e.pos; holding [v] (truthy v)) := by intro _; rfl) : PT X e (tB t) := by
  intro pins s σ H Q I hw
  refine isTrue_plain (thn (h pins s σ H _ I hw) fun v s1 ⟨x, H1, I1, r1, q1⟩ => ?_) (he _)
  obtain ⟨d, rfl, q⟩ := q1
  cases r1
  exact wpAny_truthy_bool ⟨H1, I1, q⟩

/-! ### and, or, not -/
variable {tA tB' : TT} {rest : List Expr}
def tOr (t u : TT) : TT := fun σ H Q => t σ H fun c H1 => if c = true then Q true H1 else u σ H1 Q
def tNot (t : TT) : TT := fun σ H Q => t σ H fun c H1 => Q (!c) H1
theorem pw_or1 (ha : PT X a tA) : PW X (.BoolOp .Or [a] pos) tA := by
  intro wh pins s σ H Q I h
  refine isTrue_or (thn (ha pins s σ H Q I h) fun c s1 e => ?_)
  cases c with
  | false => exact isTrue_or_nil e
  | true => exact e
theorem pw_or (ha : PT X a tA) (hb : PW X (.BoolOp .Or (b :: rest) pos) tB') : PW X (.BoolOp .Or (a :: b :: rest) pos) (tOr tA tB') := by
  intro wh pins s σ H Q I h
  refine isTrue_or (thn (ha pins s σ H _ I h) fun c s1 ⟨H1, I1, q1⟩ => ?_)
  cases c with
  | true => exact ⟨H1, I1, q1⟩
  | false => exact hb wh pins s1 σ H1 Q I1 q1
theorem pt_not (ha : PT X a tA) : PT X (.UnaryOp .Not a pos) (tNot tA) := by
  intro pins s σ H Q I h
  exact isTrue_not (ha pins s σ H (fun c H1 => Q (!c) H1) I h)
/-- .. as values (bools) -/
def tAndV (ta tb : TE) : TE := fun σ H Q => ta σ H fun x H1 => ∃ c, x = .bl c ∧ if c = true then tb σ H1 Q else Q (.bl false) H1
theorem pe_one {op} {t : TE} (h : PE X a t) : PE X (.BoolOp op [a] pos) t := fun pins s σ H Q I hw => BoolOp_one (h pins s σ H Q I hw)
theorem pe_and (ha : PE X a ta) (hb : PE X (.BoolOp .And (b :: rest) pos) tb) : PE X (.BoolOp .And (a :: b :: rest) pos) (tAndV ta tb) := by
  intro pins s σ H Q I h
  refine BoolOp_and (thn (ha pins s σ H _ I h) fun v s1 ⟨x, H1, I1, r1, q1⟩ => ?_)
  obtain ⟨c, rfl, q1⟩ := q1
  cases r1
  refine wpAny_truthy_bool ?_
  cases c with
  | true => exact hb pins s1 σ H1 Q I1 q1
  | false => exact ⟨.bl false, H1, I1, rfl, q1⟩
/-- a if t else b -/
def tIf (t : TT) (ta tb : TE) : TE := fun σ H Q => t σ H fun c H1 => if c = true then ta σ H1 Q else tb σ H1 Q
theorem pe_ifExp {c : Expr} (hc : PT X c tA) (ha : PE X a ta) (hb : PE X b tb) : PE X (.IfExp c a b pos) (tIf tA ta tb) := by
  intro pins s σ H Q I h
  refine wpAny_IfExp (thn (hc pins s σ H _ I h) fun d s1 ⟨H1, I1, q1⟩ => ?_)
  cases d with
  | true => exact ha pins s1 σ H1 Q I1 q1
  | false => exact hb pins s1 σ H1 Q I1 q1
end
end L2

namespace L2
open PySem PySem.Spec PyProof.Rows

/-! ### a list, a tuple that is read: tracked, frozen, or an object of the module -/
def SqL (K : PySem.W.Frag) (H : Hp) (a : Addr) (xs : List V) : Prop :=
  Rd H a (.lst xs) ∨
    ∃ (o : Obj) (its : Array Value) (n : Nat), K.lookup a = some o ∧ o.cls = .type "list" ∧ o.dict = none ∧ o.data = .seq its n ∧ its.size ≤ sizeLine ∧ Vals xs its.toList
def SqT (K : PySem.W.Frag) (H : Hp) (a : Addr) (xs : List V) : Prop :=
  Rd H a (.tup xs) ∨
    ∃ (o : Obj) (its : Array Value) (n : Nat), K.lookup a = some o ∧ o.cls = .type "tuple" ∧ o.data = .seq its n ∧ its.size ≤ sizeLine ∧ Vals xs its.toList
def absV : Value → Option V
  | .none => some .non
  | .bool b => some (.bl b)
  | .int i _ => some (.int i)
  | .str x _ => some (.str x)
  | .bytes b _ => some (.byt b)
  | .float b _ => some (.flt b)
  | .ref a => some (.ref a)
  | .type n => some (.ty n)
  | _ => none
theorem RelV.abs {x : V} {u : Value} (r : RelV x u) : absV u = some x := by
  cases x with
  | non => cases r; rfl
  | bl _ => cases r; rfl
  | int _ => obtain ⟨t, rfl⟩ := r; rfl
  | str _ => obtain ⟨t, rfl⟩ := r; rfl
  | byt _ => obtain ⟨t, rfl⟩ := r; rfl
  | flt _ => obtain ⟨t, rfl⟩ := r; rfl
  | ref _ => cases r; rfl
  | ty _ => cases r; rfl
theorem RelV.inj {x y : V} {u : Value} (r : RelV x u) (q : RelV y u) : x = y := Option.some.inj (r.abs.symm.trans q.abs)
theorem Vals.inj : ∀ {xs ys : List V} {us : List Value}, Vals xs us → Vals ys us → xs = ys
  | _, _, _, .nil, .nil => rfl
  | _, _, _, .cons r t, .cons r' t' => by rw [r.inj r', Vals.inj t t']
section
variable {X : Cx} {pins : List (Addr × Obj)} {σ : St} {H : Hp} {s : Shared} {a : Addr} {xs ys : List V}
theorem SqL.of {K : PySem.W.Frag} (h : H a = some (.lst xs)) : SqL K H a xs := .inl (.inl h)
theorem SqT.of {K : PySem.W.Frag} (h : H a = some (.tup xs)) : SqT K H a xs := .inl (.inl h)
theorem Inv.list (I : Inv X pins σ H s) (h : SqL X.K H a xs) : ∃ its : List Value, Vals xs its ∧ PlainL s.heap a its.toArray ∧ xs.length ≤ sizeLine := by
  rcases h with h | ⟨o, its, n, hk, hc, hd, hs, hz, r⟩
  · obtain ⟨z, its, n, r, e⟩ := h.ok I.hok
    exact ⟨its, r, ⟨_, n, e, rfl, rfl, rfl⟩, z⟩
  · refine ⟨its.toList, r, ⟨o, n, I.kIn a o hk, hc, hd, by simpa using hs⟩, ?_⟩
    have e := r.length
    simp only [Array.length_toList] at e
    omega
theorem Inv.tuple (I : Inv X pins σ H s) (h : SqT X.K H a xs) : ∃ its : List Value, Vals xs its ∧ IsTup s.heap a its.toArray ∧ xs.length ≤ sizeLine := by
  rcases h with h | ⟨o, its, n, hk, hc, hs, hz, r⟩
  · obtain ⟨z, its, r, p⟩ := h.ok I.hok
    exact ⟨its, r, p.t, z⟩
  · refine ⟨its.toList, r, ⟨o, I.kIn a o hk, hc, n, by simpa using hs⟩, ?_⟩
    have e := r.length
    simp only [Array.length_toList] at e
    omega
theorem Inv.list_inj (I : Inv X pins σ H s) (h : SqL X.K H a xs) (h' : SqL X.K H a ys) : xs = ys := by
  obtain ⟨its, r, ⟨o, n, e, _, _, d⟩, _⟩ := I.list h
  obtain ⟨its', r', ⟨o', n', e', _, _, d'⟩, _⟩ := I.list h'
  rw [e] at e'; cases e'
  rw [d] at d'
  injection d' with d1 _
  have : its = its' := by simpa using congrArg Array.toList d1
  subst this
  exact r.inj r'
theorem Inv.tuple_inj (I : Inv X pins σ H s) (h : SqT X.K H a xs) (h' : SqT X.K H a ys) : xs = ys := by
  obtain ⟨its, r, ⟨o, e, _, n, d⟩, _⟩ := I.tuple h
  obtain ⟨its', r', ⟨o', e', _, n', d'⟩, _⟩ := I.tuple h'
  rw [e] at e'; cases e'
  rw [d] at d'
  injection d' with d1 _
  have : its = its' := by simpa using congrArg Array.toList d1
  subst this
  exact r.inj r'
end

/-! ### another wish about exceptions -/
abbrev Cx.wish (X : Cx) (E : Value → Shared → Prop) : Cx := { X with xe := E }
/-- no exception leaves -/
abbrev Cx.nox (X : Cx) : Cx := X.wish fun _ _ => False
theorem Cx.Ok.wish {X : Cx} (ok : X.Ok) (E : Value → Shared → Prop) : (X.wish E).Ok :=
  ⟨ok.mod, ok.kind, ok.glob, ok.blt, ok.above, ok.inj, ok.has, ok.cab, ok.hd, ok.frames, ok.stk, ok.exf, ok.bs, ok.bsz, ok.noex, ok.exfs, ok.funs, ok.frf⟩
theorem Cx.Ok.unwish {X : Cx} {E : Value → Shared → Prop} (ok : (X.wish E).Ok) : X.Ok :=
  ⟨ok.mod, ok.kind, ok.glob, ok.blt, ok.above, ok.inj, ok.has, ok.cab, ok.hd, ok.frames, ok.stk, ok.exf, ok.bs, ok.bsz, ok.noex, ok.exfs, ok.funs, ok.frf⟩
section
variable {X : Cx} {pins : List (Addr × Obj)} {σ : St} {H : Hp} {s : Shared} {E : Value → Shared → Prop}
theorem Inv.wish (I : Inv X pins σ H s) (E : Value → Shared → Prop) : Inv (X.wish E) pins σ H s := ⟨I.ok.wish E, I.os, I.bare, I.base, I.loc, I.cell, I.free, I.freeC, I.pin, I.hok, I.len⟩
theorem Inv.unwish (I : Inv (X.wish E) pins σ H s) : Inv X pins σ H s := ⟨I.ok.unwish, I.os, I.bare, I.base, I.loc, I.cell, I.free, I.freeC, I.pin, I.hok, I.len⟩
theorem SP.unwish {D : Ends} {f : Flow} {s' : Shared} (h : SP (X.wish E) pins D f s') : SP X pins D f s' := by
  cases f with
  | next => obtain ⟨σ', H', I, q⟩ := h; exact ⟨σ', H', I.unwish, q⟩
  | brk => obtain ⟨σ', H', I, q⟩ := h; exact ⟨σ', H', I.unwish, q⟩
  | cont => obtain ⟨σ', H', I, q⟩ := h; exact ⟨σ', H', I.unwish, q⟩
  | ret u => obtain ⟨v, σ', H', I, r, q⟩ := h; exact ⟨v, σ', H', I.unwish, r, q⟩
theorem PSs.nox {st : List Stmt} {t : TS} (h : PSs X.nox st t) : PSs X st t := fun pins s σ H D I hw =>
  wpAny_mono (h pins s σ H D (I.wish _) hw) (fun _ _ q => q.unwish) fun _ _ z => False.elim z
end

/-! ### blocks and small statements -/
section
variable {X : Cx} {st : Stmt} {rest : List Stmt} {t u : TS} {e : Expr} {te : TE} {pos : Pos}
def tNext : TS := fun D σ H => D.nx σ H
def tSeq (t u : TS) : TS := fun D σ H => t { D with nx := u D } σ H
theorem pss_nil : PSs X [] tNext := fun _ _ σ H _ I h => wpAny_execs_nil ⟨σ, H, I, h⟩
theorem pss_cons (h1 : PS X st t) (h2 : PSs X rest u) : PSs X (st :: rest) (tSeq t u) := by
  intro pins s σ H D I h
  refine wpAny_execs_cons (thn (h1 pins s σ H { D with nx := u D } I h) fun f s1 q => ?_)
  cases f with
  | next =>
    obtain ⟨σ', H', I', q⟩ := q
    exact h2 pins s1 σ' H' D I' q
  | ret v => exact q
  | brk => exact q
  | cont => exact q
theorem pss_one (h1 : PS X st t) : PSs X [st] t := by
  intro pins s σ H D I h
  refine wpAny_execs_cons (thn (h1 pins s σ H D I h) fun f s1 q => ?_)
  cases f with
  | next => exact wpAny_execs_nil q
  | ret v => exact q
  | brk => exact q
  | cont => exact q
/-- in a def's body nothing is shown -/
theorem Inv.quiet {pins : List (Addr × Obj)} {σ : St} {H : Hp} {s : Shared} (I : Inv X pins σ H s) : interactive X.env = false := by simp [interactive, I.ok.kind]
/-- an expression whose value is dropped -/
def tDrop (te : TE) : TS := fun D σ H => te σ H fun _ H1 => D.nx σ H1
theorem ps_expr (he : PE X e te) (hs : swapsWith e none pos.line X.env = pure false := by rfl) : PS X (.Expr e pos) (tDrop te) := by
  intro pins s σ H D I h
  exact wpAny_Expr_any (thn (he pins s σ H _ I h) fun v s1 ⟨x, H1, I1, r1, q1⟩ => ⟨σ, H1, I1, q1⟩) I.quiet hs
def tRet (te : TE) : TS := fun D σ H => te σ H D.rt
theorem ps_ret (he : PE X e te) : PS X (.Return (some e) pos) (tRet te) := by
  intro pins s σ H D I h
  exact wpAny_Return_some (thn (he pins s σ H _ I h) fun v s1 ⟨x, H1, I1, r1, q1⟩ => ⟨x, σ, H1, I1, r1, q1⟩)
def tIfS (c : TT) (t u : TS) : TS := fun D σ H => c σ H fun b H1 => if b = true then t D σ H1 else u D σ H1
theorem ps_if {c : Expr} {a b : List Stmt} {tc : TT} (hc : PT X c tc) (ha : PSs X a t) (hb : PSs X b u) : PS X (.If c a b pos) (tIfS tc t u) := by
  intro pins s σ H D I h
  refine wpAny_If (thn (hc pins s σ H _ I h) fun d s1 ⟨H1, I1, q1⟩ => ?_)
  cases d with
  | true => exact ha pins s1 σ H1 D I1 q1
  | false => exact hb pins s1 σ H1 D I1 q1
end

/-! ### targets -/
abbrev TG := V → St → Hp → (St → Hp → Prop) → Prop
abbrev TGs := List V → St → Hp → (St → Hp → Prop) → Prop
def PG (X : Cx) (target : Expr) (t : TG) : Prop :=
  ∀ (pins : List (Addr × Obj)) (s : Shared) (σ : St) (H : Hp) (v : V) (u : Value) (Q : St → Hp → Prop), Inv X pins σ H s → RelV v u → t v σ H Q →
    wpAny (model X.prog X.w) X.A (assign target X.env u) (fun _ s' => ∃ σ' H', Inv X pins σ' H' s' ∧ Q σ' H') X.xe s
/-- several targets, one after another -/
def PGs (X : Cx) (ts : List Expr) (t : TGs) : Prop :=
  ∀ (pins : List (Addr × Obj)) (s : Shared) (σ : St) (H : Hp) (vs : List V) (us : List Value) (Q : St → Hp → Prop), Inv X pins σ H s → Vals vs us → t vs σ H Q →
    wpAny (model X.prog X.w) X.A (assignInOrder ((assignEach ts X.env).map (·.2)) us) (fun _ s' => ∃ σ' H', Inv X pins σ' H' s' ∧ Q σ' H') X.xe s
/-- o[i] = v, by values -/
abbrev TSet := V → V → V → Hp → (Hp → Prop) → Prop
def PSet (X : Cx) (t : TSet) : Prop :=
  ∀ (pins : List (Addr × Obj)) (s : Shared) (σ : St) (H : Hp) (o i v : V) (ov iv u : Value) (Q : Hp → Prop), Inv X pins σ H s → RelV o ov → RelV i iv → RelV v u → t o i v H Q →
    wpAny (model X.prog X.w) X.A (setItem ov iv u) (fun _ s' => ∃ H', Inv X pins σ H' s' ∧ Q H') X.xe s
section
variable {X : Cx} {pos : Pos}
def gName (i : Nat) : TG := fun v σ H Q => Q (σ.set i (some v)) H
theorem pg_name {i : Nat} {x : Str} (hN : X.N.Nodup) (hi : X.N[i]? = some x) (hx : Loc X.env.scope x) (hf : X.fn x = true ∨ X.env.scope.names.lookup x = some .local := by first | exact .inl rfl | exact .inr rfl | assumption) : PG X (.Name x pos) (gName i) := by
  intro pins s σ H v u Q I r h
  exact wpAny_assign_Name (store_ok I hN hi hx r (fun s' I' => ⟨_, H, I', h⟩) hf)
def gNil : TGs := fun vs σ H Q => vs = [] ∧ Q σ H
def gCons (t : TG) (u : TGs) : TGs := fun vs σ H Q => ∃ v r, vs = v :: r ∧ t v σ H fun σ' H' => u r σ' H' Q
theorem pgs_nil : PGs X [] gNil := by
  intro pins s σ H vs us Q I r h
  obtain ⟨e, h⟩ := h
  subst e
  cases r
  exact assignInOrder_nil ⟨σ, H, I, h⟩
theorem pgs_cons {e : Expr} {es : List Expr} {t : TG} {u : TGs} (h1 : PG X e t) (h2 : PGs X es u)
    (hs : (assignEach (e :: es) X.env).map (·.2) = assign e X.env :: (assignEach es X.env).map (·.2) := by rfl) : PGs X (e :: es) (gCons t u) := by
  intro pins s σ H vs us Q I r h
  obtain ⟨v, vr, e1, h⟩ := h
  subst e1
  cases r with
  | cons r rr =>
    rw [hs]
    refine assignInOrder_cons (thn (h1 pins s σ H _ _ _ I r h) fun _ s1 ⟨σ1, H1, I1, q1⟩ => ?_)
    exact h2 pins s1 σ1 H1 _ _ Q I1 rr q1
/-- (a, b, ..) = a tuple of that length -/
def gTup (K : PySem.W.Frag) (n : Nat) (t : TGs) : TG := fun v σ H Q => ∃ a xs, v = .ref a ∧ SqT K H a xs ∧ xs.length = n ∧ t xs σ H Q
theorem pg_tup {es : List Expr} {k : Nat} {t : TGs} {n : Nat} (hc : X.calm = true) (h : PGs X es t)
    (hn : (assignEach es X.env).length = n := by rfl) (hst : (assignEach es X.env).findIdx? (·.1) = none := by rfl) : PG X (.Tuple es k pos) (gTup X.K n t) := by
  intro pins s σ H v u Q I r hw
  obtain ⟨a, xs, e1, hq, hl, hw⟩ := hw
  subst e1
  cases r
  obtain ⟨its, rv, ht, hz⟩ := I.tuple hq
  refine assign_Tuple_tuple (I.ok.hd hc) ht (by simp [hn, ← hl, rv.length]) hst fun h' hx => ?_
  have I1 : Inv X pins σ H { s with heap := h' } := I.kept (t' := s.toks) fun b o e => hx b o (Nat.ne_of_lt (Heap.lt_size e)) e
  exact h pins _ σ H xs _ Q I1 (by simpa using rv) hw
/-- o[i] = .. -/
def gSub (to ti : TE) (t : TSet) : TG := fun v σ H Q => to σ H fun o H1 => ti σ H1 fun i H2 => t o i v H2 fun H3 => Q σ H3
theorem pg_sub {o i : Expr} {to ti : TE} {t : TSet} (ho : PE X o to) (hi : PE X i ti) (hs : PSet X t)
    (ha : ∀ v, assign (.Subscript o i pos) X.env v = (do
      let ov ← holding [v] (eval o X.env)
      let iv ← holding [v, ov] (eval i X.env)
      standAt pos
      holding [v, ov, iv] (setItem ov iv v)
      release [v, ov, iv] []) := by intro _; rfl) : PG X (.Subscript o i pos) (gSub to ti t) := by
  intro pins s σ H v u Q I r h
  rw [ha]
  refine wpAny_bind (wpAny_holding (thn (ho pins s σ H _ I h) fun ov s1 ⟨x, H1, I1, r1, q1⟩ => ?_))
  refine wpAny_bind (wpAny_holding (thn (hi pins s1 σ H1 _ I1 q1) fun iv s2 ⟨y, H2, I2, r2, q2⟩ => ?_))
  refine wpAny_bind (wpAny_standAt (wpAny_bind (wpAny_holding (thn (hs pins s2 σ H2 x y v ov iv u _ I2 r1 r2 r q2) fun _ s3 ⟨H3, I3, q3⟩ => ?_))))
  exact wpAny_release ⟨σ, H3, I3, q3⟩
/-- target = value -/
def tAsg (te : TE) (g : TG) : TS := fun D σ H => te σ H fun x H1 => g x σ H1 D.nx
theorem ps_asg {tg e : Expr} {te : TE} {g : TG} (he : PE X e te) (hg : PG X tg g) (hs : swapsWithSole [tg] e pos.line X.env = pure false := by rfl) (hw : swappedStores [tg] e X.env = pure none := by rfl)
    (h1 : (assignEach [tg] X.env).map (·.2) = [assign tg X.env] := by rfl) : PS X (.Assign [tg] e pos) (tAsg te g) := by
  intro pins s σ H D I h
  refine wpAny_Assign_stores (thn (he pins s σ H _ I h) fun v s1 ⟨x, H1, I1, r1, q1⟩ => ?_) hs hw
  rw [h1]
  exact thn (hg pins s1 σ H1 x v _ I1 r1 q1) fun _ s2 q => q
/-- name = value -/
theorem ps_set {i : Nat} {x : Str} {e : Expr} {te : TE} {pos' : Pos} (hN : X.N.Nodup) (hi : X.N[i]? = some x) (hx : Loc X.env.scope x) (he : PE X e te) (hs : swapsWith e (some (.Name x pos')) pos.line X.env = pure false := by rfl) (hf : X.fn x = true ∨ X.env.scope.names.lookup x = some .local := by first | exact .inl rfl | exact .inr rfl | assumption) :
    PS X (.Assign [.Name x pos'] e pos) (tAsg te (gName i)) := by
  intro pins s σ H D I h
  refine wpAny_Assign_Name (thn (he pins s σ H _ I h) fun v s1 ⟨y, H1, I1, r1, q1⟩ => ?_) hs
  exact store_ok I1 hN hi hx r1 (fun s2 I2 => ⟨_, H1, I2, q1⟩) hf
/-- a, b = x, y with plain local names: stored from the right; the pair itself is not tracked (the opening rows as in PyProof/Rows/TupAssign.lean:23) -/
def tPar (i j : Nat) (ta : TA) : TS := fun D σ H => ta σ H fun vs H1 => ∃ v w, vs = [v, w] ∧ D.nx ((σ.set i (some v)).set j (some w)) H1
theorem ps_par {i j : Nat} {x y : Str} {a b : Expr} {ta : TA} {px py pt : Pos} {kt k2 pt2} (hc : X.calm = true) (hN : X.N.Nodup) (hi : X.N[i]? = some x) (hj : X.N[j]? = some y) (hij : i ≠ j)
    (hx : X.env.scope.names.lookup x = some .local) (hy : X.env.scope.names.lookup y = some .local) (ha : PA X [a, b] ta)
    (hw : swappedStores [.Tuple [.Name x px, .Name y py] kt pt] (.Tuple [a, b] k2 pt2) X.env = pure (some [x, y]))
    (hs : swapsWithSole [.Tuple [.Name x px, .Name y py] kt pt] (.Tuple [a, b] k2 pt2) pos.line X.env = pure false := by rfl) :
    PS X (.Assign [.Tuple [.Name x px, .Name y py] kt pt] (.Tuple [a, b] k2 pt2) pos) (tPar i j ta) := by
  intro pins s σ H D I h
  rw [exec_Assign_arm]
  refine wpAny_bind (wpAny_standAt ?_)
  rw [hs]
  refine wpAny_bind (wpAny_pure ?_)
  rw [if_neg (by decide)]
  refine wpAny_bind (Tuple_ (thn (ha _ pins s σ H _ I h) fun us s1 ⟨vs, H1, I1, r1, q1⟩ => ?_))
  obtain ⟨v, w, e1, q1⟩ := q1
  subst e1
  obtain ⟨u1, u2, rfl, rv, rw'⟩ : ∃ u1 u2, us = [u1, u2] ∧ RelV v u1 ∧ RelV w u2 := by
    cases r1 with
    | cons p q =>
      cases q with
      | cons p' q' =>
        cases q'
        exact ⟨_, _, rfl, p, p'⟩
  refine wpAny_newObj_type ?_ (by show 2 ≤ sizeLine; decide)
  have I2 : Inv X pins σ H1 { s1 with heap := s1.heap.push { cls := .type "tuple", data := .seq [u1, u2].toArray } } := I1.kept (t' := s1.toks) fun b o e => Heap.get?_push_of_some _ e
  rw [hw]
  refine wpAny_bind (wpAny_pure ?_)
  show wpAny (model X.prog X.w) X.A (do rule "assign.swapped-stores"; let items ← unpackItems (.ref s1.heap.objs.size) 2 none; assignInOrder [fun v => bindName X.env y v, fun v => bindName X.env x v] items.reverse; pure Flow.next) _ _ _
  refine wpAny_bind (wpAny_rule (wpAny_bind (unpackItems_tuple (items := #[u1, u2]) (I.ok.hd hc) (IsTup.new s1.heap _) fun h' hx' => ?_)))
  have I3 := I2.kept (h' := h') (t' := s1.toks) fun b o e => hx' b o (Nat.ne_of_lt (Heap.lt_size e)) e
  show wpAny _ _ (assignInOrder [fun v => bindName X.env y v, fun v => bindName X.env x v] [u2, u1] >>= fun _ => pure Flow.next) _ _ _
  refine wpAny_bind (assignInOrder_cons (wpAny_bindName (store_ok I3 hN hj (.inl hy) rw' (fun s2 I4 => ?_) (.inr hy))))
  refine assignInOrder_cons (wpAny_bindName (store_ok I4 hN hi (.inl hx) rv (fun s3 I5 => assignInOrder_nil (wpAny_pure ?_)) (.inr hx)))
  rw [List.set_comm _ _ (Ne.symm hij)] at I5
  exact ⟨_, H1, I5, q1⟩
end

/-! ### while -/
section
variable {X : Cx} {pos : Pos}
end

/-! ### what a loop or a comprehension walks -/
/-- at turn i: it yields x (the heap may grow), or it stops -/
structure It where
  go : Nat → Hp → Prop
  yld : Nat → Hp → V → Hp → Prop
  stop : Nat → Hp → Prop
/-- the iterator's own objects may turn: they are not the frame's, not pinned, younger than the entry (or a comprehension's own) -/
def FpOk (X : Cx) (pins : List (Addr × Obj)) (H : Hp) (b : Addr) : Prop :=
  H b = none ∧ b ≠ X.env.locals ∧ b ∉ X.fs ∧ (b ∈ X.ex ∨ X.s₀.heap.objs.size ≤ b) ∧ (∀ x c, X.env.cells.lookup x = some c → c ≠ b) ∧ ∀ p ∈ X.pn ++ pins, p.1 ≠ b
theorem Inv.fpOk {X : Cx} {pins : List (Addr × Obj)} {σ : St} {H H' : Hp} {s : Shared} {b : Addr} (I : Inv X pins σ H s) (hb : s.heap.objs.size ≤ b) (hn : H' b = none) : FpOk X pins H' b := by
  refine ⟨hn, Nat.ne_of_gt (Nat.lt_of_lt_of_le I.lt hb), I.nofs hb, .inr (Nat.le_trans I.sz hb), fun x c e z => ?_, fun p hp z => ?_⟩
  · obtain ⟨v, q⟩ := I.cell x c e
    exact absurd (Nat.lt_of_lt_of_le q.lt (by rw [z]; exact hb)) (Nat.lt_irrefl _)
  · exact absurd (Nat.lt_of_lt_of_le (Heap.lt_size (I.pin p hp).1) (by rw [z]; exact hb)) (Nat.lt_irrefl _)
structure Turn (P : Program) (w : World) (K : PySem.W.Frag) (tg : Expr) (J : It) (fp : List Addr) (it : Addr) (tn : Nat → Heap → Prop) : Prop where
  mem : it ∈ fp
  obj : ∀ i h, tn i h → ∀ b ∈ fp, ∃ o, h.get? b = some o ∧ ∀ v, o.data ≠ .cell v
  keep : ∀ i h h', tn i h → (∀ b ∈ fp, ∀ o, h.get? b = some o → h'.get? b = some o) → tn i h'
  item : ∀ (X : Cx), X.prog = P → X.w = w → X.K = K → X.calm = true → ∀ (i : Nat) (pins : List (Addr × Obj)) (s : Shared) (σ : St) (H : Hp) (E : Value → Shared → Prop), Inv X pins σ H s → (∀ b ∈ fp, FpOk X pins H b) → tn i s.heap → J.go i H →
    wpAny (model P w) X.A (pyNext (.ref it)) (fun r s1 => ∃ u, r = some u ∧
      wpAny (model P w) X.A (letOwnedTupleGo tg (.ref it) u) (fun _ s2 => ∃ x H', Inv X pins σ H' s2 ∧ RelV x u ∧ J.yld i H x H' ∧ tn (i + 1) s2.heap ∧ ∀ b ∈ fp, H' b = none) E s1) E s
  done : ∀ (X : Cx), X.prog = P → X.w = w → X.K = K → X.calm = true → ∀ (i : Nat) (pins : List (Addr × Obj)) (s : Shared) (σ : St) (H : Hp) (E : Value → Shared → Prop), Inv X pins σ H s → (∀ b ∈ fp, FpOk X pins H b) → tn i s.heap → J.stop i H →
    wpAny (model P w) X.A (pyNext (.ref it)) (fun r s1 => r = none ∧ Inv X pins σ H s1) E s
  self : ∀ (A : Around) (i : Nat) (s : Shared) (Q : Value → Shared → Prop) (E : Value → Shared → Prop), tn i s.heap → Q (.ref it) s → wpAny (model P w) A (pyIter (.ref it)) Q E s
abbrev TI := St → Hp → (It → Hp → Prop) → Prop
/-- an iterator has come -/
def PIE (X : Cx) (pins : List (Addr × Obj)) (σ : St) (tg : Expr) (R : It → Hp → Prop) (itv : Value) (s2 : Shared) : Prop :=
  ∃ (it : Addr) (fp : List Addr) (tn : Nat → Heap → Prop) (J : It) (H' : Hp), itv = .ref it ∧ Inv X pins σ H' s2 ∧ Turn X.prog X.w X.K tg J fp it tn ∧ tn 0 s2.heap ∧ (∀ b ∈ fp, FpOk X pins H' b) ∧ R J H'
def PI (X : Cx) (tg iter : Expr) (wi : TI) : Prop :=
  ∀ (pins : List (Addr × Obj)) (s : Shared) (σ : St) (H : Hp) (R : It → Hp → Prop), Inv X pins σ H s → wi σ H R →
    wpAny (model X.prog X.w) X.A (eval iter X.env) (fun v s1 => wpAny (model X.prog X.w) X.A (pyIter v) (PIE X pins σ tg R) X.xe s1) X.xe s

/-- the step ahead of the store is nothing for an iterator that keeps no tuple -/
theorem go_of {M : Model} {A : Around} {E : Value → Shared → Prop} {s : Shared} {tg : Expr} {it : Addr} {u : Value} {o : Obj} {n : String} {vs : Array Value} {Q : Unit → Shared → Prop} (ho : s.heap.get? it = some o) (hc : o.cls = .type n) (hd : o.data = .fields vs)
    (hn : ["enumerate", "zip", "dict_itemiterator", "dict_reverseitemiterator", "odict_iterator", "itertools.zip_longest", "itertools.pairwise"].contains n = false) (hQ : Q () s) : wpAny M A (letOwnedTupleGo tg (.ref it) u) Q E s := by
  unfold letOwnedTupleGo
  cases tg <;> first
    | exact wpAny_pure hQ
    | (cases u <;> first
        | exact wpAny_pure hQ
        | (refine wpAny_bind (wpAny_load ho ?_)
           rw [hc, hd]
           show wpAny M A (if (["enumerate", "zip", "dict_itemiterator", "dict_reverseitemiterator", "odict_iterator", "itertools.zip_longest", "itertools.pairwise"].contains n && vs[0]? == some (rawInt _)) = true then _ else _) Q E s
           rw [if_neg (by intro h; rw [hn, Bool.false_and] at h; cases h)]
           exact wpAny_pure hQ))

/-- the list at a, as it stands at each turn (a loop may append to it) -/
def Itl (K : PySem.W.Frag) (a : Addr) : It :=
  ⟨fun i H => ∃ xs x, SqL K H a xs ∧ xs[i]? = some x, fun i H x H' => H' = H ∧ ∀ xs, SqL K H a xs → xs[i]? = some x, fun i H => ∃ xs, SqL K H a xs ∧ xs.length ≤ i⟩
def Itt (K : PySem.W.Frag) (a : Addr) : It :=
  ⟨fun i H => ∃ xs x, SqT K H a xs ∧ xs[i]? = some x, fun i H x H' => H' = H ∧ ∀ xs, SqT K H a xs → xs[i]? = some x, fun i H => ∃ xs, SqT K H a xs ∧ xs.length ≤ i⟩
/-- lo, lo + 1, .. (n of them) -/
def Itr (lo : Int) (n : Nat) : It := ⟨fun i _ => i < n, fun i H x H' => H' = H ∧ x = .int (lo + i), fun i _ => n ≤ i⟩
theorem turn_list {P : Program} {w : World} {K : PySem.W.Frag} {tg : Expr} (a it : Addr) : Turn P w K tg (Itl K a) [it] it (fun i h => h.IsListIter it a i) where
  mem := by simp
  obj := fun i h st b hb => by
    have e : b = it := by simpa using hb
    subst e
    obtain ⟨o, e, c, d⟩ := st
    exact ⟨o, e, fun v z => by rw [d] at z; cases z⟩
  keep := fun i h h' st k => st.at fun o e => k it (by simp) o e
  item := by
    intro X hP hw hK hc i pins s σ H E I hf st hg
    subst hP hw hK
    obtain ⟨xs, x, hq, hx⟩ := hg
    obtain ⟨its, rv, p, hz⟩ := I.list hq
    obtain ⟨u, hu, ru⟩ := rv.get hx
    obtain ⟨f0, f1, f2, f3, f4, f5⟩ := hf it (by simp)
    refine wpAny_pyNext_list_item st p.isList (x := u) (by simpa using hu) fun h' st' sb => ?_
    have I1 : Inv X pins σ H { s with heap := h' } := I.turned (t' := s.toks) (fun b o hb e => (sb.2 b hb).trans e) f0 f1 f3 f4 f5
    obtain ⟨o, e, c, d⟩ := id st'
    exact ⟨u, rfl, go_of (s := { s with heap := h' }) e c d (by decide) ⟨x, H, I1, ru, ⟨rfl, fun ys hy => by rw [I.list_inj hy hq]; exact hx⟩, st', fun b hb => (hf b hb).1⟩⟩
  done := by
    intro X hP hw hK hc i pins s σ H E I hf st hg
    subst hP hw hK
    obtain ⟨xs, hq, hx⟩ := hg
    obtain ⟨its, rv, p, hz⟩ := I.list hq
    obtain ⟨f0, f1, f2, f3, f4, f5⟩ := hf it (by simp)
    have hl := rv.length
    exact wpAny_pyNext_list_end (I.ok.hd hc) st p.isList (by simp; omega) fun h' eb => ⟨rfl, I.turned (t' := s.toks) (fun b o hb e => eb b o hb e) f0 f1 f3 f4 f5⟩
  self := fun _ _ _ _ _ st h => wpAny_pyIter_listiter st h
theorem turn_tuple {P : Program} {w : World} {K : PySem.W.Frag} {tg : Expr} (a it : Addr) : Turn P w K tg (Itt K a) [it] it (fun i h => h.IsTupleIter it a i) where
  mem := by simp
  obj := fun i h st b hb => by
    have e : b = it := by simpa using hb
    subst e
    obtain ⟨o, e, c, d⟩ := st
    exact ⟨o, e, fun v z => by rw [d] at z; cases z⟩
  keep := fun i h h' st k => st.at fun o e => k it (by simp) o e
  item := by
    intro X hP hw hK hc i pins s σ H E I hf st hg
    subst hP hw hK
    obtain ⟨xs, x, hq, hx⟩ := hg
    obtain ⟨its, rv, p, hz⟩ := I.tuple hq
    obtain ⟨u, hu, ru⟩ := rv.get hx
    obtain ⟨f0, f1, f2, f3, f4, f5⟩ := hf it (by simp)
    refine wpAny_pyNext_tuple_item st (show s.heap.IsTuple a its.toArray from p) (x := u) (by simpa using hu) fun h' st' sb => ?_
    have I1 : Inv X pins σ H { s with heap := h' } := I.turned (t' := s.toks) (fun b o hb e => (sb.2 b hb).trans e) f0 f1 f3 f4 f5
    obtain ⟨o, e, c, d⟩ := id st'
    exact ⟨u, rfl, go_of (s := { s with heap := h' }) e c d (by decide) ⟨x, H, I1, ru, ⟨rfl, fun ys hy => by rw [I.tuple_inj hy hq]; exact hx⟩, st', fun b hb => (hf b hb).1⟩⟩
  done := by
    intro X hP hw hK hc i pins s σ H E I hf st hg
    subst hP hw hK
    obtain ⟨xs, hq, hx⟩ := hg
    obtain ⟨its, rv, p, hz⟩ := I.tuple hq
    obtain ⟨f0, f1, f2, f3, f4, f5⟩ := hf it (by simp)
    have hl := rv.length
    exact wpAny_pyNext_tuple_end (I.ok.hd hc) st (show s.heap.IsTuple a its.toArray from p) (by simp; omega) fun h' eb => ⟨rfl, I.turned (t' := s.toks) (fun b o hb e => eb b o hb e) f0 f1 f3 f4 f5⟩
  self := fun _ _ _ _ _ st h => wpAny_pyIter_tupleiter st h
theorem turn_range {P : Program} {w : World} {K : PySem.W.Frag} {tg : Expr} (it : Addr) (lo : Int) (n : Nat) : Turn P w K tg (Itr lo n) [it] it (fun i h => IsRangeIter h it (lo + (i : Nat) * 1) ((n : Int) - (i : Nat)) 1) where
  mem := by simp
  obj := fun i h st b hb => by
    have e : b = it := by simpa using hb
    subst e
    exact ⟨_, st, fun v z => by
      have z' : Data.fields _ = Data.cell v := z
      cases z'⟩
  keep := fun i h h' st k => k it (by simp) _ st
  item := by
    intro X hP hw hK hc i pins s σ H E I hf st hg
    subst hP hw hK
    obtain ⟨f0, f1, f2, f3, f4, f5⟩ := hf it (by simp)
    have W := Walks.range (prog := X.prog) (w := X.w) (I.ok.hd hc) it lo 1 n
    refine W.item i s _ _ hg st fun v h' tk hv st' kk => ?_
    obtain ⟨t, rfl⟩ := hv
    have I1 : Inv X pins σ H { s with heap := h', toks := tk } := I.turned (fun b o hb e => kk b o (by simpa using hb) e) f0 f1 f3 f4 f5
    refine ⟨_, rfl, go_of (s := { s with heap := h', toks := tk }) (n := "range_iterator") st' rfl rfl (by decide) ⟨.int (lo + i), H, I1, ⟨t, ?_⟩, ⟨rfl, rfl⟩, st', fun b hb => (hf b hb).1⟩⟩
    rw [Int.mul_one]
  done := by
    intro X hP hw hK hc i pins s σ H E I hf st hg
    subst hP hw hK
    obtain ⟨f0, f1, f2, f3, f4, f5⟩ := hf it (by simp)
    exact wpAny_pyNext_range_end (I.ok.hd hc) st (by have : n ≤ i := hg; omega) fun h' eb => ⟨rfl, I.turned (t' := s.toks) (fun b o hb e => eb b o hb e) f0 f1 f3 f4 f5⟩
  self := fun _ _ _ _ _ st h => wpAny_pyIter_rangeiter st h
end L2

namespace L2
open PySem PySem.Spec PyProof.Rows
section
variable {X : Cx} {tg : Expr}
def iList (K : PySem.W.Frag) (tl : TE) : TI := fun σ H R => tl σ H fun x H1 => ∃ a, x = .ref a ∧ (∃ xs, SqL K H1 a xs) ∧ R (Itl K a) H1
def iTup (K : PySem.W.Frag) (tl : TE) : TI := fun σ H R => tl σ H fun x H1 => ∃ a, x = .ref a ∧ (∃ xs, SqT K H1 a xs) ∧ R (Itt K a) H1
theorem pi_list {l : Expr} {tl : TE} (hl : PE X l tl) : PI X tg l (iList X.K tl) := by
  intro pins s σ H R I h
  refine thn (hl pins s σ H _ I h) fun v s1 ⟨x, H1, I1, r1, q1⟩ => ?_
  obtain ⟨a, e, ⟨xs, hq⟩, q⟩ := q1
  subst e
  cases r1
  obtain ⟨its, rv, p, hz⟩ := I1.list hq
  refine wpAny_pyIter_list p.isList ?_
  refine ⟨s1.heap.objs.size, [s1.heap.objs.size], _, _, H1, rfl, I1.kept (t' := s1.toks) fun b o e => Heap.get?_push_of_some _ e, turn_list a _, ⟨_, Heap.get?_push_size _ rfl, rfl, rfl⟩, fun b hb => ?_, q⟩
  have e : b = s1.heap.objs.size := by simpa using hb
  subst e
  exact I1.fpOk (Nat.le_refl _) (I1.hok.fresh (Nat.le_refl _))
theorem pi_tup {l : Expr} {tl : TE} (hl : PE X l tl) : PI X tg l (iTup X.K tl) := by
  intro pins s σ H R I h
  refine thn (hl pins s σ H _ I h) fun v s1 ⟨x, H1, I1, r1, q1⟩ => ?_
  obtain ⟨a, e, ⟨xs, hq⟩, q⟩ := q1
  subst e
  cases r1
  obtain ⟨its, rv, p, hz⟩ := I1.tuple hq
  refine wpAny_pyIter_tuple (show s1.heap.IsTuple a its.toArray from p) ?_
  refine ⟨s1.heap.objs.size, [s1.heap.objs.size], _, _, H1, rfl, I1.kept (t' := s1.toks) fun b o e => Heap.get?_push_of_some _ e, turn_tuple a _, ⟨_, Heap.get?_push_size _ rfl, rfl, rfl⟩, fun b hb => ?_, q⟩
  have e : b = s1.heap.objs.size := by simpa using hb
  subst e
  exact I1.fpOk (Nat.le_refl _) (I1.hok.fresh (Nat.le_refl _))
/-- a range object just made, walked -/
theorem range_it {pins : List (Addr × Obj)} {σ : St} {H : Hp} {s : Shared} {R : It → Hp → Prop} {E : Value → Shared → Prop} {lo hi : Int} {t u v : Tok} {tk : Nat} (I : Inv X pins σ H s) (h1 : -(2 ^ 62) ≤ lo) (h2 : lo < 2 ^ 62) (h3 : -(2 ^ 62) ≤ hi) (h4 : hi < 2 ^ 62)
    (q : R (Itr lo (hi - lo).toNat) H) : wpAny (model X.prog X.w) X.A (pyIter (.ref s.heap.objs.size)) (PIE X pins σ tg R) E { s with heap := s.heap.push { cls := .type "range", data := .fields #[.int lo t, .int hi u, .int 1 v] }, toks := tk } := by
  refine wpAny_pyIter_range (IsRange.new ..) (small_one h1 h2 h3 h4) ?_
  have I1 : Inv X pins σ H { s with heap := s.heap.push { cls := .type "range", data := .fields #[.int lo t, .int hi u, .int 1 v] }, toks := tk } := I.kept fun b o e => Heap.get?_push_of_some _ e
  refine ⟨(s.heap.push { cls := .type "range", data := .fields #[.int lo t, .int hi u, .int 1 v] }).objs.size, [(s.heap.push { cls := .type "range", data := .fields #[.int lo t, .int hi u, .int 1 v] }).objs.size], _, _, H, rfl,
    I1.kept (t' := tk) fun b o e => Heap.get?_push_of_some _ e, turn_range _ lo (hi - lo).toNat, ?_, fun b hb => ?_, q⟩
  · have e1 : lo + ((0 : Nat) : Int) * 1 = lo := by simp
    have e2 : (((hi - lo).toNat : Nat) : Int) - ((0 : Nat) : Int) = Builtin.Range.rangeSize lo hi 1 := by rw [rangeSize_one]; split <;> omega
    show IsRangeIter _ _ (lo + ((0 : Nat) : Int) * 1) ((((hi - lo).toNat : Nat) : Int) - ((0 : Nat) : Int)) 1
    rw [e1, e2]
    exact Heap.get?_push_size _ rfl
  · have e : b = (s.heap.push { cls := .type "range", data := .fields #[.int lo t, .int hi u, .int 1 v] }).objs.size := by simpa using hb
    subst e
    exact I1.fpOk (Nat.le_refl _) (I1.hok.fresh (Nat.le_refl _))
def iRng1 (ta : TA) : TI := fun σ H R => ta σ H fun vs H1 => ∃ j : Int, vs = [.int j] ∧ -(2 ^ 62) ≤ j ∧ j < 2 ^ 62 ∧ R (Itr 0 j.toNat) H1
def iRng2 (ta : TA) : TI := fun σ H R => ta σ H fun vs H1 => ∃ i j : Int, vs = [.int i, .int j] ∧ (-(2 ^ 62) ≤ i ∧ i < 2 ^ 62 ∧ -(2 ^ 62) ≤ j ∧ j < 2 ^ 62) ∧ R (Itr i (j - i).toNat) H1
theorem pi_range1 {a : Expr} {ta : TA} {p pos : Pos} (hg : Gl X "range") (hm : X.mg "range" = none) (ha : PA X [a] ta) (hs : starEach [a] X.env = [(false, eval a X.env)] := by rfl) : PI X tg (.Call (.Name "range" p) [a] [] pos) (iRng1 ta) := by
  intro pins s σ H R I h
  refine Call_ (ld_blt I hg hm boot_range (PyProof.Rows.callWith_type1 (thn (ha pos pins s σ H _ I h) fun us s1 ⟨vs, H1, I1, r1, q1⟩ => ?_) hs rfl))
  obtain ⟨j, e, q1, q2, q⟩ := q1
  subst e
  cases r1 with
  | cons r rr =>
    cases rr
    obtain ⟨t, rfl⟩ := r
    exact call_range_1 (range_it I1 (by omega) (by omega) q1 q2 (by simpa using q))
theorem pi_range2 {a b : Expr} {ta : TA} {p pos : Pos} (hg : Gl X "range") (hm : X.mg "range" = none) (ha : PA X [a, b] ta) (hs : starEach [a, b] X.env = [(false, eval a X.env), (false, eval b X.env)] := by rfl) (hs2 : starEach [b] X.env = [(false, eval b X.env)] := by rfl) :
    PI X tg (.Call (.Name "range" p) [a, b] [] pos) (iRng2 ta) := by
  intro pins s σ H R I h
  refine Call_ (ld_blt I hg hm boot_range (PyProof.Rows.callWith_type1 (thn (ha pos pins s σ H _ I h) fun us s1 ⟨vs, H1, I1, r1, q1⟩ => ?_) (by rw [hs, hs2]) (by rw [hs2]; rfl)))
  obtain ⟨i, j, e, ⟨q1, q2, q3, q4⟩, q⟩ := q1
  subst e
  cases r1 with
  | cons r rr =>
    cases rr with
    | cons r' rr =>
      cases rr
      obtain ⟨t, rfl⟩ := r
      obtain ⟨t', rfl⟩ := r'
      exact call_range_2 (range_it I1 q1 q2 q3 q4 q)

/-! ### for -/
/-- W: the invariant by the turn and a measure; N: what the body is to reach -/
def tFor (wi : TI) (g : TG) (tb : TS) : TS := fun D σ H => wi σ H fun J H1 => ∃ W : Nat → Nat → St → Hp → Prop, (∃ m, W 0 m σ H1) ∧ ∀ i m σ H, W i m σ H →
  (J.stop i H ∧ D.nx σ H) ∨ (J.go i H ∧ ∃ N : St → Hp → Prop, (∀ σ' H', N σ' H' → ∃ m', m' < m ∧ W (i + 1) m' σ' H') ∧ ∀ x H', J.yld i H x H' → g x σ H' fun σ2 H2 => tb { D with nx := N, ct := N, bk := D.nx } σ2 H2)
/-- the records at fp as they stand -/
def pinsAt (fp : List Addr) (h : Heap) : List (Addr × Obj) := fp.filterMap fun b => (h.get? b).map fun o => (b, o)
theorem mem_pinsAt {fp : List Addr} {h : Heap} {b : Addr} {o : Obj} (hb : b ∈ fp) (e : h.get? b = some o) : (b, o) ∈ pinsAt fp h := List.mem_filterMap.mpr ⟨b, hb, by rw [e]; rfl⟩
theorem of_pinsAt {fp : List Addr} {h : Heap} {p : Addr × Obj} (hp : p ∈ pinsAt fp h) : p.1 ∈ fp ∧ h.get? p.1 = some p.2 := by
  obtain ⟨b, hb, e⟩ := List.mem_filterMap.mp hp
  cases q : h.get? b with
  | none => rw [q] at e; cases e
  | some o =>
    rw [q] at e
    have e' : (b, o) = p := Option.some.inj e
    subst e'
    exact ⟨hb, q⟩
theorem Inv.pinned {pins : List (Addr × Obj)} {σ : St} {H : Hp} {s : Shared} {fp : List Addr} (I : Inv X pins σ H s) (hf : ∀ b ∈ fp, FpOk X pins H b) (ho : ∀ b ∈ fp, ∃ o, s.heap.get? b = some o ∧ ∀ v, o.data ≠ .cell v) : Inv X (pins ++ pinsAt fp s.heap) σ H s :=
  I.pins_of fun p hp => (List.mem_append.mp hp).elim (fun z => I.pin p (List.mem_append_right _ z)) fun z => by
    obtain ⟨hb, e⟩ := of_pinsAt z
    obtain ⟨f0, f1, f2, _⟩ := hf p.1 hb
    obtain ⟨o, e', d⟩ := ho p.1 hb
    rw [e] at e'; cases e'
    exact ⟨e, f0, f1, f2, d⟩
theorem Inv.unpinned {pins pl : List (Addr × Obj)} {σ : St} {H : Hp} {s : Shared} (I : Inv X (pins ++ pl) σ H s) : Inv X pins σ H s := I.pins_of fun p hp => I.pin p (List.mem_append_right _ (List.mem_append_left _ hp))
theorem ps_for {iter : Expr} {body : List Stmt} {wi : TI} {g : TG} {tb : TS} {pos : Pos} (hp : PassesOwn (model X.prog X.w) X.A X.env X.xe) (hc : X.calm = true) (hi : PI X tg iter wi) (hg : PG X tg g) (hb : PSs X body tb)
    (hs : ∀ x, foldedSetIterable iter X.env x = pure x := by intro _; rfl) : PS X (.For tg iter body [] pos) (tFor wi g tb) := by
  intro pins s σ H D I h
  refine wpAny_For (thn (hi pins s σ H _ I h) fun v s1 h1 => thn h1 fun itv s2 h2 => ?_) hs
  obtain ⟨it, fp, tn, J, H2, e, I2, T, st2, f2, W, ⟨m0, w0⟩, turn⟩ := h2
  subst e
  -- what stays true of the iterator's objects through the loop
  have stat : ∀ {H' : Hp}, (∀ b ∈ fp, H' b = none) → ∀ b ∈ fp, FpOk X pins H' b := fun hn b hb => ⟨hn b hb, (f2 b hb).2⟩
  refine codeAny_forLoop_any (fun n s' => ∃ i σ' H', Inv X pins σ' H' s' ∧ tn i s'.heap ∧ (∀ b ∈ fp, H' b = none) ∧ W i n σ' H') ?_ m0 ⟨0, σ, H2, I2, st2, fun b hb => (f2 b hb).1, w0⟩
  rintro n s3 ⟨i, σ3, H3, I3, st3, fr3, w3⟩
  rcases turn i n σ3 H3 w3 with ⟨stop, qn⟩ | ⟨go, N, hN, step⟩
  · refine wpAny_passesOwn hp (thn (T.done X rfl rfl rfl hc i pins s3 σ3 H3 X.xe I3 (stat fr3) st3 stop) fun r s4 ⟨hr, I4⟩ => ?_)
    subst hr
    exact wpAny_execs_nil ⟨σ3, H3, I4, qn⟩
  · refine wpAny_passesOwn hp (thn (T.item X rfl rfl rfl hc i pins s3 σ3 H3 X.xe I3 (stat fr3) st3 go) fun r s4 ⟨u, hr, h4⟩ => ?_)
    subst hr
    refine wpAny_passesOwn hp (thn h4 fun _ s5 ⟨x, H5, I5, r5, y5, st5, fr5⟩ => ?_)
    have I5' := I5.pinned (stat fr5) (T.obj _ _ st5)
    refine wpAny_passesOwn hp (thn (hg _ s5 σ3 H5 x u _ I5' r5 (step x H5 y5)) fun _ s6 ⟨σ6, H6, I6, q6⟩ => ?_)
    refine wpAny_passesOwn hp (thn (hb _ s6 σ6 H6 _ I6 q6) fun f s7 q7 => ?_)
    have again : ∀ {σ7 : St} {H7 : Hp}, Inv X (pins ++ pinsAt fp s5.heap) σ7 H7 s7 → N σ7 H7 → ∃ m, m < n ∧ ∃ i σ' H', Inv X pins σ' H' s7 ∧ tn i s7.heap ∧ (∀ b ∈ fp, H' b = none) ∧ W i m σ' H' := fun {σ7 H7} I7 n7 => by
      obtain ⟨m', hm, w7⟩ := hN σ7 H7 n7
      refine ⟨m', hm, i + 1, σ7, H7, I7.unpinned, T.keep _ _ _ st5 fun b hb o e => (I7.pin (b, o) (List.mem_append_right _ (List.mem_append_right _ (mem_pinsAt hb e)))).1, fun b hb => ?_, w7⟩
      obtain ⟨o, e, d⟩ := T.obj _ _ st5 b hb
      exact (I7.pin (b, o) (List.mem_append_right _ (List.mem_append_right _ (mem_pinsAt hb e)))).2.1
    cases f with
    | next => obtain ⟨σ7, H7, I7, n7⟩ := q7; exact again I7 n7
    | cont => obtain ⟨σ7, H7, I7, n7⟩ := q7; exact again I7 n7
    | brk => obtain ⟨σ7, H7, I7, q7⟩ := q7; exact ⟨σ7, H7, I7.unpinned, q7⟩
    | ret v => obtain ⟨x7, σ7, H7, I7, r7, q7⟩ := q7; exact ⟨x7, σ7, H7, I7.unpinned, r7, q7⟩
end

/-! ### the forms one uses -/
/-- over a list that the body leaves as it is -/
theorem for_list {K : PySem.W.Frag} {a : Addr} {xs : List V} {g : TG} {tb : TS} {D : Ends} {σ : St} {H : Hp} (Pv : Nat → St → Hp → Prop) (h0 : Pv 0 σ H) (hl : ∀ i σ H, i ≤ xs.length → Pv i σ H → SqL K H a xs)
    (hs : ∀ i x σ H, xs[i]? = some x → Pv i σ H → g x σ H fun σ2 H2 => tb { D with nx := Pv (i + 1), ct := Pv (i + 1), bk := D.nx } σ2 H2) (hd : ∀ σ H, Pv xs.length σ H → D.nx σ H) :
    ∃ W : Nat → Nat → St → Hp → Prop, (∃ m, W 0 m σ H) ∧ ∀ i m σ H, W i m σ H →
      ((Itl K a).stop i H ∧ D.nx σ H) ∨ ((Itl K a).go i H ∧ ∃ N : St → Hp → Prop, (∀ σ' H', N σ' H' → ∃ m', m' < m ∧ W (i + 1) m' σ' H') ∧ ∀ x H', (Itl K a).yld i H x H' → g x σ H' fun σ2 H2 => tb { D with nx := N, ct := N, bk := D.nx } σ2 H2) := by
  refine ⟨fun i m σ H => m = xs.length - i ∧ i ≤ xs.length ∧ Pv i σ H, ⟨xs.length, by simp, Nat.zero_le _, h0⟩, ?_⟩
  rintro i m σ H ⟨rfl, hi, p⟩
  have q := hl i σ H hi p
  by_cases hlt : i < xs.length
  · refine .inr ⟨⟨xs, xs[i], q, by simp [hlt]⟩, Pv (i + 1), fun σ' H' p' => ⟨xs.length - (i + 1), by omega, rfl, hlt, p'⟩, fun x H' y => ?_⟩
    obtain ⟨e, y⟩ := y
    subst e
    exact hs i x σ _ (y xs q) p
  · have e : i = xs.length := by omega
    subst e
    exact .inl ⟨⟨xs, q, Nat.le_refl _⟩, hd σ H p⟩
theorem for_tup {K : PySem.W.Frag} {a : Addr} {xs : List V} {g : TG} {tb : TS} {D : Ends} {σ : St} {H : Hp} (Pv : Nat → St → Hp → Prop) (h0 : Pv 0 σ H) (hl : ∀ i σ H, i ≤ xs.length → Pv i σ H → SqT K H a xs)
    (hs : ∀ i x σ H, xs[i]? = some x → Pv i σ H → g x σ H fun σ2 H2 => tb { D with nx := Pv (i + 1), ct := Pv (i + 1), bk := D.nx } σ2 H2) (hd : ∀ σ H, Pv xs.length σ H → D.nx σ H) :
    ∃ W : Nat → Nat → St → Hp → Prop, (∃ m, W 0 m σ H) ∧ ∀ i m σ H, W i m σ H →
      ((Itt K a).stop i H ∧ D.nx σ H) ∨ ((Itt K a).go i H ∧ ∃ N : St → Hp → Prop, (∀ σ' H', N σ' H' → ∃ m', m' < m ∧ W (i + 1) m' σ' H') ∧ ∀ x H', (Itt K a).yld i H x H' → g x σ H' fun σ2 H2 => tb { D with nx := N, ct := N, bk := D.nx } σ2 H2) := by
  refine ⟨fun i m σ H => m = xs.length - i ∧ i ≤ xs.length ∧ Pv i σ H, ⟨xs.length, by simp, Nat.zero_le _, h0⟩, ?_⟩
  rintro i m σ H ⟨rfl, hi, p⟩
  have q := hl i σ H hi p
  by_cases hlt : i < xs.length
  · refine .inr ⟨⟨xs, xs[i], q, by simp [hlt]⟩, Pv (i + 1), fun σ' H' p' => ⟨xs.length - (i + 1), by omega, rfl, hlt, p'⟩, fun x H' y => ?_⟩
    obtain ⟨e, y⟩ := y
    subst e
    exact hs i x σ _ (y xs q) p
  · have e : i = xs.length := by omega
    subst e
    exact .inl ⟨⟨xs, q, Nat.le_refl _⟩, hd σ H p⟩
theorem for_range {lo : Int} {n : Nat} {g : TG} {tb : TS} {D : Ends} {σ : St} {H : Hp} (Pv : Nat → St → Hp → Prop) (h0 : Pv 0 σ H)
    (hs : ∀ i σ H, i < n → Pv i σ H → g (.int (lo + i)) σ H fun σ2 H2 => tb { D with nx := Pv (i + 1), ct := Pv (i + 1), bk := D.nx } σ2 H2) (hd : ∀ σ H, Pv n σ H → D.nx σ H) :
    ∃ W : Nat → Nat → St → Hp → Prop, (∃ m, W 0 m σ H) ∧ ∀ i m σ H, W i m σ H →
      ((Itr lo n).stop i H ∧ D.nx σ H) ∨ ((Itr lo n).go i H ∧ ∃ N : St → Hp → Prop, (∀ σ' H', N σ' H' → ∃ m', m' < m ∧ W (i + 1) m' σ' H') ∧ ∀ x H', (Itr lo n).yld i H x H' → g x σ H' fun σ2 H2 => tb { D with nx := N, ct := N, bk := D.nx } σ2 H2) := by
  refine ⟨fun i m σ H => m = n - i ∧ i ≤ n ∧ Pv i σ H, ⟨n, by simp, Nat.zero_le _, h0⟩, ?_⟩
  rintro i m σ H ⟨rfl, hi, p⟩
  by_cases hlt : i < n
  · refine .inr ⟨hlt, Pv (i + 1), fun σ' H' p' => ⟨n - (i + 1), by omega, rfl, hlt, p'⟩, fun x H' y => ?_⟩
    obtain ⟨e, y⟩ := y
    subst e y
    exact hs i σ _ hlt p
  · have e : i = n := by omega
    subst e
    exact .inl ⟨Nat.le_refl _, hd σ H p⟩
end L2

namespace L2
open PySem PySem.Spec PyProof.Rows

abbrev R2 := V → V → Hp → VK → Prop
/-- a two-place operation on values: f is binaryOp op, inplaceOp op or compareOp op -/
def OpR (X : Cx) (f : Value → Value → Sem Value) (r : R2) : Prop :=
  ∀ (pins : List (Addr × Obj)) (s : Shared) (σ : St) (H : Hp) (x y : V) (v u : Value) (Q : VK), Inv X pins σ H s → RelV x v → RelV y u → r x y H Q →
    wpAny (model X.prog X.w) X.A (f v u) (EP X pins σ Q) X.xe s
/-- a one-place operation -/
def UnR (X : Cx) (f : Value → Sem Value) (r : V → Hp → VK → Prop) : Prop :=
  ∀ (pins : List (Addr × Obj)) (s : Shared) (σ : St) (H : Hp) (x : V) (v : Value) (Q : VK), Inv X pins σ H s → RelV x v → r x H Q →
    wpAny (model X.prog X.w) X.A (f v) (EP X pins σ Q) X.xe s
/-- a call of a value that is known (a builtin, a type) with values -/
def CallR (X : Cx) (f : Value) (r : List V → Hp → VK → Prop) : Prop :=
  ∀ (pins : List (Addr × Obj)) (s : Shared) (σ : St) (H : Hp) (xs : List V) (us : List Value) (Q : VK), Inv X pins σ H s → Vals xs us → r xs H Q →
    wpAny (model X.prog X.w) X.A (call f us) (EP X pins σ Q) X.xe s
def tOp (r : R2) (ta tb : TE) : TE := fun σ H Q => ta σ H fun x H1 => tb σ H1 fun y H2 => r x y H2 Q
def tUn (r : V → Hp → VK → Prop) (ta : TE) : TE := fun σ H Q => ta σ H fun x H1 => r x H1 Q
/-- ints in, under C, and a value out -/
def rI (C : Int → Int → Prop) (g : Int → Int → V) : R2 := fun x y H Q => ∃ i j, x = .int i ∧ y = .int j ∧ C i j ∧ Q (g i j) H
def rI0 (g : Int → Int → V) : R2 := fun x y H Q => ∃ i j, x = .int i ∧ y = .int j ∧ Q (g i j) H
def rU (g : Int → V) : V → Hp → VK → Prop := fun x H Q => ∃ i, x = .int i ∧ Q (g i) H

section
variable {X : Cx} {a b c : Expr} {ta tb tc : TE} {pos : Pos}

theorem binT (ha : PE X a ta) (hb : PE X b tb) {pins : List (Addr × Obj)} {s : Shared} {σ : St} {H : Hp} {R : V → V → Hp → Prop} (I : Inv X pins σ H s)
    (h : ta σ H fun x H1 => tb σ H1 fun y H2 => R x y H2) {Q : Value → Shared → Prop} {f : Value → Value → Sem Value}
    (hf : ∀ v u s2 x y H2, Inv X pins σ H2 s2 → RelV x v → RelV y u → R x y H2 → wpAny (model X.prog X.w) X.A (f v u) Q X.xe s2) :
    wpAny (model X.prog X.w) X.A (eval a X.env) (fun v s₁ => wpAny (model X.prog X.w) X.A (eval b X.env) (fun u s₂ => wpAny (model X.prog X.w) X.A (f v u) Q X.xe s₂) X.xe s₁) X.xe s := by
  refine thn (ha pins s σ H _ I h) fun v s1 ⟨x, H1, I1, r1, q1⟩ => ?_
  refine thn (hb pins s1 σ H1 _ I1 q1) fun u s2 ⟨y, H2, I2, r2, q2⟩ => ?_
  exact hf v u s2 x y H2 I2 r1 r2 q2

theorem pe_op {op : Operator} {r : R2} (ho : OpR X (binaryOp op) r) (ha : PE X a ta) (hb : PE X b tb) : PE X (.BinOp a op b pos) (tOp r ta tb) := by
  intro pins s σ H Q I h
  exact wpAny_BinOp (binT ha hb I h fun v u s2 x y H2 I2 rx ry q => ho pins s2 σ H2 x y v u Q I2 rx ry q)
theorem pe_un {op : UnaryOp} {r : V → Hp → VK → Prop} (ho : UnR X (unaryOp op) r) (ha : PE X a ta) : PE X (.UnaryOp op a pos) (tUn r ta) := by
  intro pins s σ H Q I h
  exact UnaryOp_ (thn (ha pins s σ H _ I h) fun v s1 ⟨x, H1, I1, r1, q1⟩ => ho pins s1 σ H1 x v Q I1 r1 q1)
/-! ### ints -/
theorem opI {f : Value → Value → Sem Value} {C : Int → Int → Prop} {g : Int → Int → Int}
    (rule : ∀ (i j : Int) (t u : Tok) (s : Shared) (Q : Value → Shared → Prop) (E : Value → Shared → Prop), C i j → Q (.int (g i j) s.toks) { s with toks := s.toks + 1 } → wpAny (model X.prog X.w) X.A (f (.int i t) (.int j u)) Q E s) :
    OpR X f (rI C fun i j => .int (g i j)) := by
  intro pins s σ H x y v u Q I rx ry h
  obtain ⟨i, j, rfl, rfl, hc, q⟩ := h
  obtain ⟨t, rfl⟩ := rx
  obtain ⟨t', rfl⟩ := ry
  exact rule i j t t' s _ _ hc ⟨.int (g i j), H, I.tok _, ⟨_, rfl⟩, q⟩
theorem opI0 {f : Value → Value → Sem Value} {g : Int → Int → Int}
    (rule : ∀ (i j : Int) (t u : Tok) (s : Shared) (Q : Value → Shared → Prop) (E : Value → Shared → Prop), Q (.int (g i j) s.toks) { s with toks := s.toks + 1 } → wpAny (model X.prog X.w) X.A (f (.int i t) (.int j u)) Q E s) :
    OpR X f (rI0 fun i j => .int (g i j)) := by
  intro pins s σ H x y v u Q I rx ry h
  obtain ⟨i, j, rfl, rfl, q⟩ := h
  obtain ⟨t, rfl⟩ := rx
  obtain ⟨t', rfl⟩ := ry
  exact rule i j t t' s _ _ ⟨.int (g i j), H, I.tok _, ⟨_, rfl⟩, q⟩
theorem opB0 {f : Value → Value → Sem Value} {g : Int → Int → Bool}
    (rule : ∀ (i j : Int) (t u : Tok) (s : Shared) (Q : Value → Shared → Prop) (E : Value → Shared → Prop), Q (.bool (g i j)) s → wpAny (model X.prog X.w) X.A (f (.int i t) (.int j u)) Q E s) :
    OpR X f (rI0 fun i j => .bl (g i j)) := by
  intro pins s σ H x y v u Q I rx ry h
  obtain ⟨i, j, rfl, rfl, q⟩ := h
  obtain ⟨t, rfl⟩ := rx
  obtain ⟨t', rfl⟩ := ry
  exact rule i j t t' s _ _ ⟨.bl (g i j), H, I, rfl, q⟩

def CPow (i j : Int) : Prop := 0 ≤ j ∧ j ≤ 1000000 ∧ i.natAbs < 2 ^ 64
def CMul (i j : Int) : Prop := (-(2 ^ 64) < i ∧ i < 2 ^ 64) ∨ (-(2 ^ 64) < j ∧ j < 2 ^ 64)
theorem CMul.ok {i j : Int} (h : CMul i j) : IntMulOk i j := by
  rcases h with ⟨h1, h2⟩ | ⟨h1, h2⟩
  · exact .of_left (intBits_le_64 h1 h2)
  · exact .of_right (intBits_le_64 h1 h2)
theorem op_add : OpR X (binaryOp .Add) (rI0 fun i j => .int (i + j)) := opI0 fun _ _ _ _ _ _ _ q => add_int q
theorem op_sub : OpR X (binaryOp .Sub) (rI0 fun i j => .int (i - j)) := opI0 fun _ _ _ _ _ _ _ q => sub_int q
theorem op_mul : OpR X (binaryOp .Mult) (rI CMul fun i j => .int (i * j)) := opI fun _ _ _ _ _ _ _ hc q => mul_int q hc.ok
/-- % by a positive divisor of any size -/
theorem op_mod : OpR X (binaryOp .Mod) (rI (fun _ j => 0 < j) fun i j => .int (i % j)) := opI fun i j _ _ _ _ _ hc q => by
  have h1 : (0 : Int) < j := hc
  exact mod_int' (by omega) (by rw [Int.fmod_eq_emod_of_nonneg i (by omega)]; exact q)
theorem op_pow : OpR X (binaryOp .Pow) (rI CPow fun i j => .int (i ^ j.toNat)) := opI fun _ _ _ _ _ _ _ hc q => pow_int_small hc.1 hc.2.1 hc.2.2 q
theorem unI {f : Value → Sem Value} {g : Int → Int}
    (rule : ∀ (i : Int) (t : Tok) (s : Shared) (Q : Value → Shared → Prop) (E : Value → Shared → Prop), Q (.int (g i) s.toks) { s with toks := s.toks + 1 } → wpAny (model X.prog X.w) X.A (f (.int i t)) Q E s) :
    UnR X f (rU fun i => .int (g i)) := by
  intro pins s σ H x v Q I rx h
  obtain ⟨i, rfl, q⟩ := h
  obtain ⟨t, rfl⟩ := rx
  exact rule i t s _ _ ⟨.int (g i), H, I.tok _, ⟨_, rfl⟩, q⟩
theorem un_neg : UnR X (unaryOp .USub) (rU fun i => .int (-i)) := unI fun _ _ _ _ _ q => neg_int q
/-! ### bools among ints: n += (a < b) -/
end

/-! ### comparisons -/
/-- the scalars that == tells apart as data does -/
def scal : V → V → Bool
  | .non, .non => true | .non, .int _ => true | .int _, .non => true | .non, .bl _ => true | .bl _, .non => true | .non, .str _ => true | .str _, .non => true
  | .int _, .int _ => true | .bl _, .bl _ => true | .str _, .str _ => true | .byt _, .byt _ => true
  | .int _, .str _ => true | .str _, .int _ => true | .bl _, .str _ => true | .str _, .bl _ => true
  | _, _ => false
def rEq : R2 := fun x y H Q => scal x y = true ∧ Q (.bl (decide (x = y))) H
def rNe : R2 := fun x y H Q => scal x y = true ∧ Q (.bl (!decide (x = y))) H

theorem dec_int {i j : Int} : decide (V.int i = V.int j) = (i == j) := by
  rw [Bool.eq_iff_iff]
  simp
theorem dec_bl {i j : Bool} : decide (V.bl i = V.bl j) = (i == j) := by
  rw [Bool.eq_iff_iff]
  simp
theorem dec_str {i j : Str} : decide (V.str i = V.str j) = (i == j) := by
  rw [Bool.eq_iff_iff]
  simp
theorem dec_byt {i j : Array UInt8} : decide (V.byt i = V.byt j) = (i.toList == j.toList) := by
  rw [Bool.eq_iff_iff]
  cases i
  cases j
  simp

section
variable {X : Cx} {a b c : Expr} {ta tb tc : TE} {pos : Pos}
theorem fin_bl {pins : List (Addr × Obj)} {σ : St} {H : Hp} {s : Shared} {Q : VK} {k k' : Bool} (I : Inv X pins σ H s) (q : Q (.bl k) H) (e : k = k') : EP X pins σ Q (.bool k') s := by
  subst e
  exact ⟨.bl k, H, I, rfl, q⟩
theorem op_eq : OpR X (compareOp .Eq) rEq := by
  intro pins s σ H x y v u Q I rx ry h
  obtain ⟨hs, q⟩ := h
  cases x with
  | non =>
    cases rx
    cases y with
    | non => cases ry; exact PySem.EqNone.eq_none_none (fin_bl I q (by simp))
    | bl j => cases ry; exact PySem.EqNone.eq_none_bool (fin_bl I q (by simp))
    | int j => obtain ⟨t', rfl⟩ := ry; exact PySem.EqNone.eq_none_int (fin_bl I q (by simp))
    | str j => obtain ⟨t', rfl⟩ := ry; exact PySem.EqNone.eq_none_str (fin_bl I q (by simp))
    | _ => exact absurd (show false = true from hs) Bool.false_ne_true
  | bl i =>
    cases rx
    cases y with
    | non => cases ry; exact PySem.EqNone.eq_bool_none (fin_bl I q (by simp))
    | bl j => cases ry; exact eq_bool (fin_bl I q dec_bl)
    | str j => obtain ⟨t', rfl⟩ := ry; exact PySem.EqMixed.eq_bool_str (fin_bl I q (by simp))
    | _ => exact absurd (show false = true from hs) Bool.false_ne_true
  | int i =>
    obtain ⟨t, rfl⟩ := rx
    cases y with
    | non => cases ry; exact PySem.EqNone.eq_int_none (fin_bl I q (by simp))
    | int j => obtain ⟨t', rfl⟩ := ry; exact eq_int (fin_bl I q dec_int)
    | str j => obtain ⟨t', rfl⟩ := ry; exact PySem.EqMixed.eq_int_str (fin_bl I q (by simp))
    | _ => exact absurd (show false = true from hs) Bool.false_ne_true
  | str i =>
    obtain ⟨t, rfl⟩ := rx
    cases y with
    | non => cases ry; exact PySem.EqNone.eq_str_none (fin_bl I q (by simp))
    | bl j => cases ry; exact PySem.EqMixed.eq_str_bool (fin_bl I q (by simp))
    | int j => obtain ⟨t', rfl⟩ := ry; exact PySem.EqMixed.eq_str_int (fin_bl I q (by simp))
    | str j => obtain ⟨t', rfl⟩ := ry; exact eq_str (fin_bl I q dec_str)
    | _ => exact absurd (show false = true from hs) Bool.false_ne_true
  | byt i =>
    obtain ⟨t, rfl⟩ := rx
    cases y with
    | byt j => obtain ⟨t', rfl⟩ := ry; exact PySem.W.eq_bytes (fin_bl I q dec_byt)
    | _ => exact absurd (show false = true from hs) Bool.false_ne_true
  | _ => cases y <;> exact absurd (show false = true from hs) Bool.false_ne_true
theorem op_ne : OpR X (compareOp .NotEq) rNe := by
  intro pins s σ H x y v u Q I rx ry h
  obtain ⟨hs, q⟩ := h
  cases x with
  | non =>
    cases rx
    cases y with
    | non => cases ry; exact PySem.EqNone.ne_none_none (fin_bl I q (by simp))
    | bl j => cases ry; exact PySem.EqNone.ne_none_bool (fin_bl I q (by simp))
    | int j => obtain ⟨t', rfl⟩ := ry; exact PySem.EqNone.ne_none_int (fin_bl I q (by simp))
    | str j => obtain ⟨t', rfl⟩ := ry; exact PySem.EqNone.ne_none_str (fin_bl I q (by simp))
    | _ => exact absurd (show false = true from hs) Bool.false_ne_true
  | bl i =>
    cases rx
    cases y with
    | non => cases ry; exact PySem.EqNone.ne_bool_none (fin_bl I q (by simp))
    | bl j => cases ry; exact ne_bool (fin_bl I q (congrArg not dec_bl))
    | str j => obtain ⟨t', rfl⟩ := ry; exact PySem.EqMixed.ne_bool_str (fin_bl I q (by simp))
    | _ => exact absurd (show false = true from hs) Bool.false_ne_true
  | int i =>
    obtain ⟨t, rfl⟩ := rx
    cases y with
    | non => cases ry; exact PySem.EqNone.ne_int_none (fin_bl I q (by simp))
    | int j => obtain ⟨t', rfl⟩ := ry; exact ne_int (fin_bl I q (congrArg not dec_int))
    | str j => obtain ⟨t', rfl⟩ := ry; exact PySem.EqMixed.ne_int_str (fin_bl I q (by simp))
    | _ => exact absurd (show false = true from hs) Bool.false_ne_true
  | str i =>
    obtain ⟨t, rfl⟩ := rx
    cases y with
    | non => cases ry; exact PySem.EqNone.ne_str_none (fin_bl I q (by simp))
    | bl j => cases ry; exact PySem.EqMixed.ne_str_bool (fin_bl I q (by simp))
    | int j => obtain ⟨t', rfl⟩ := ry; exact PySem.EqMixed.ne_str_int (fin_bl I q (by simp))
    | str j => obtain ⟨t', rfl⟩ := ry; exact ne_str (fin_bl I q (congrArg not dec_str))
    | _ => exact absurd (show false = true from hs) Bool.false_ne_true
  | byt i =>
    obtain ⟨t, rfl⟩ := rx
    cases y with
    | byt j => obtain ⟨t', rfl⟩ := ry; exact PySem.W.ne_bytes (fin_bl I q (congrArg not dec_byt))
    | _ => exact absurd (show false = true from hs) Bool.false_ne_true
  | _ => cases y <;> exact absurd (show false = true from hs) Bool.false_ne_true

theorem op_lt : OpR X (compareOp .Lt) (rI0 fun i j => .bl (decide (i < j))) := opB0 fun _ _ _ _ _ _ _ q => lt_int q
theorem op_le : OpR X (compareOp .LtE) (rI0 fun i j => .bl (decide (i ≤ j))) := opB0 fun _ _ _ _ _ _ _ q => le_int q
theorem op_ge : OpR X (compareOp .GtE) (rI0 fun i j => .bl (decide (j ≤ i))) := opB0 fun _ _ _ _ _ _ _ q => ge_int q
theorem op_notN : OpR X (compareOp .IsNot) (fun x y H Q => y = .non ∧ Q (.bl (!decide (x = .non))) H) := by
  intro pins s σ H x y v u Q I rx ry h
  obtain ⟨rfl, q⟩ := h
  cases ry
  refine isnot_none_gen (fin_bl I q ?_)
  cases x <;> first
    | (cases rx; rfl)
    | (obtain ⟨t, rfl⟩ := rx; rfl)

theorem nomark (b : Expr) {op : CmpOp} (h : op ≠ .In := by decide) (h2 : op ≠ .NotIn := by decide) : behindInMarks op b = false := by
  have e1 : (op == CmpOp.In) = false := by cases op <;> first | rfl | exact absurd rfl h
  have e2 : (op == CmpOp.NotIn) = false := by cases op <;> first | rfl | exact absurd rfl h2
  cases b <;> simp [behindInMarks, e1, e2]
/-- a comparison as a value; hm: nomark b, or (for in, not in) by with_unfolding_all rfl -/
theorem pe_cmpR {op : CmpOp} {r : R2} (ho : OpR X (compareOp op) r) (ha : PE X a ta) (hb : PE X b tb) (hm : behindInMarks op b = false) : PE X (.Compare a [op] [b] pos) (tOp r ta tb) := by
  intro pins s σ H Q I h
  exact wpAny_Compare1 (binT ha hb I h fun v u s2 x y H2 I2 rx ry q => ho pins s2 σ H2 x y v u Q I2 rx ry q) hm
/-- a reading of a value as a test -/
def tTest (t : TE) : TT := fun σ H Q => t σ H fun x H' => ∃ k, x = .bl k ∧ Q k H'
theorem pt_cmpR {op : CmpOp} {r : R2} (ho : OpR X (compareOp op) r) (ha : PE X a ta) (hb : PE X b tb) (hm : behindInMarks op b = false) : PT X (.Compare a [op] [b] pos) (tTest (tOp r ta tb)) := by
  intro pins s σ H Q I h
  refine wpAny_isTrue_Compare1 (thn (ha pins s σ H _ I h) fun v s1 ⟨x, H1, I1, r1, q1⟩ => thn (hb pins s1 σ H1 _ I1 q1) fun u s2 ⟨y, H2, I2, r2, q2⟩ =>
    thn (ho pins s2 σ H2 x y v u _ I2 r1 r2 q2) fun c s3 ⟨z, H3, I3, r3, k, e, q3⟩ => ?_) hm
  subst e
  cases r3
  exact wpAny_truthy_bool ⟨H3, I3, q3⟩
/-- a op1 b op2 c -/
def tChain (r r' : R2) (ta tb tc : TE) : TE := fun σ H Q => ta σ H fun x H1 => tb σ H1 fun y H2 => r x y H2 fun z H3 => ∃ k, z = .bl k ∧
  (if k = true then tc σ H3 fun w' H4 => r' y w' H4 Q else Q (.bl false) H3)
theorem pe_chain {op op' : CmpOp} {r r' : R2} (ho : OpR X (compareOp op) r) (ho' : OpR X (compareOp op') r') (ha : PE X a ta) (hb : PE X b tb) (hc : PE X c tc)
    (hm : lastMarks [op, op'] [b, c] = false := by with_unfolding_all rfl) : PE X (.Compare a [op, op'] [b, c] pos) (tChain r r' ta tb tc) := by
  intro pins s σ H Q I h
  refine Compare_chain (thn (ha pins s σ H _ I h) fun v s1 ⟨x, H1, I1, r1, q1⟩ => chain_link (thn (hb pins s1 σ H1 _ I1 q1) fun u s2 ⟨y, H2, I2, r2, q2⟩ =>
    thn (ho pins s2 σ H2 x y v u _ I2 r1 r2 q2) fun d s3 ⟨z, H3, I3, r3, k, e, q3⟩ => ?_)) hm
  subst e
  cases r3
  refine wpAny_truthy_bool ?_
  cases k with
  | false => exact ite_ff ⟨.bl false, H3, I3, rfl, q3⟩
  | true => exact ite_tt (chain_last (thn (hc pins s3 σ H3 _ I3 q3) fun w' s4 ⟨z', H4, I4, r4, q4⟩ => ho' pins s4 σ H4 y z' u w' Q I4 r2 r4 q4))
theorem pt_chain {op op' : CmpOp} {r r' : R2} (ho : OpR X (compareOp op) r) (ho' : OpR X (compareOp op') r') (ha : PE X a ta) (hb : PE X b tb) (hc : PE X c tc)
    (hm : lastMarks [op, op'] [b, c] = false := by with_unfolding_all rfl) : PT X (.Compare a [op, op'] [b, c] pos) (tTest (tChain r r' ta tb tc)) := by
  intro pins s σ H Q I h
  refine isTrue_chain (thn (ha pins s σ H _ I h) fun v s1 ⟨x, H1, I1, r1, q1⟩ => test_link (thn (hb pins s1 σ H1 _ I1 q1) fun u s2 ⟨y, H2, I2, r2, q2⟩ =>
    thn (ho pins s2 σ H2 x y v u _ I2 r1 r2 q2) fun d s3 ⟨z, H3, I3, r3, k, e, q3⟩ => ?_)) hm
  subst e
  cases r3
  refine wpAny_truthy_bool ?_
  cases k with
  | false =>
    obtain ⟨k', e', q'⟩ := q3
    cases e'
    exact ite_ff ⟨H3, I3, q'⟩
  | true =>
    refine ite_tt (test_last (thn (hc pins s3 σ H3 _ I3 q3) fun w' s4 ⟨z', H4, I4, r4, q4⟩ => thn (ho' pins s4 σ H4 y z' u w' _ I4 r2 r4 q4) fun d' s5 ⟨z2, H5, I5, r5, k2, e2, q5⟩ => ?_))
    subst e2
    cases r5
    exact wpAny_truthy_bool ⟨H5, I5, q5⟩

/-! ### truth -/
theorem line63 : (sizeLine : Nat) < 2 ^ 63 := by rw [sizeLine_eq]; decide
/-! ### strs and bytes -/
theorem op_add_str : OpR X (binaryOp .Add) (fun x y H Q => ∃ i j, x = .str i ∧ y = .str j ∧ i.length + j.length ≤ sizeLine ∧ Q (.str (i ++ j)) H) := by
  intro pins s σ H x y v u Q I rx ry h
  obtain ⟨i, j, rfl, rfl, hz, q⟩ := h
  obtain ⟨t, rfl⟩ := rx
  obtain ⟨t', rfl⟩ := ry
  exact add_str (fun t' tk => ⟨.str (i ++ j), H, I.tok _, ⟨_, rfl⟩, q⟩) hz
/-! ### scalar builtins, by CallR -/
theorem vals1 {x : V} {us : List Value} (r : Vals [x] us) : ∃ u, us = [u] ∧ RelV x u := by
  cases r with
  | cons r1 r2 => cases r2; exact ⟨_, rfl, r1⟩
theorem vals2 {x y : V} {us : List Value} (r : Vals [x, y] us) : ∃ u w', us = [u, w'] ∧ RelV x u ∧ RelV y w' := by
  cases r with
  | cons r1 r2 =>
    cases r2 with
    | cons r3 r4 => cases r4; exact ⟨_, _, rfl, r1, r3⟩
theorem call_min2 (hc : X.calm = true) : CallR X (.builtin "min") (fun xs H Q => ∃ i j, xs = [.int i, .int j] ∧ Q (.int (if j < i then j else i)) H) := by
  intro pins s σ H xs us Q I r h
  obtain ⟨i, j, rfl, q⟩ := h
  obtain ⟨u, w', rfl, ⟨t, rfl⟩, ⟨t', rfl⟩⟩ := vals2 r
  refine min_two_ints (I.ok.hd hc) fun h' tk k => ⟨_, H, I.kept k, ?_, q⟩
  by_cases hj : j < i
  · rw [if_pos hj, if_pos hj]; exact ⟨_, rfl⟩
  · rw [if_neg hj, if_neg hj]; exact ⟨_, rfl⟩
theorem call_str_int : CallR X (.type "str") (fun xs H Q => ∃ i, xs = [.int i] ∧ i.natAbs.log2 < 1920 ∧ Q (.str (toString i)) H) := by
  intro pins s σ H xs us Q I r h
  obtain ⟨i, rfl, hz, q⟩ := h
  obtain ⟨u, rfl, t, rfl⟩ := vals1 r
  exact PySem.P.str_of_int hz ⟨.str _, H, I.tok _, ⟨_, rfl⟩, q⟩
end
end L2

namespace L2
open PySem PySem.Spec PyProof.Rows

/-! ### an instance, its attributes a map -/
structure ObjM (h : Heap) (x dx C : Addr) (mA : Str → Option Value) : Prop where
  obj : h.get? x = some (PySem.W.instObj C dx)
  ns : h.Ns1 dx mA
  ne : dx ≠ x

theorem lookIn_ns {h : Heap} {dx : Addr} {mA : Str → Option Value} (n : h.Ns1 dx mA) : ∃ od, h.get? dx = some od ∧ ∀ name, PySem.W.lookIn name od = some (mA name) := by
  obtain ⟨o, es, ep, ho, hd, hk, _, hm⟩ := n
  refine ⟨o, ho, fun name => ?_⟩
  have e := hm name
  unfold nsFind findBy at e
  rw [← Array.find?_toList] at e
  unfold PySem.W.lookIn
  rw [hd]
  dsimp only
  split
  · rename_i y q
    rw [q] at e
    exact congrArg some e
  · rename_i q
    rw [q] at e
    have a : es.toList.any (·.refKey) = false := by
      rw [List.any_eq_false]
      intro y hy
      obtain ⟨z, t, hkey⟩ := hk y (Array.mem_toList_iff.mp hy)
      simp [DictEntry.refKey, hkey]
    have a' : ¬ es.toList.any (·.refKey) = true := by rw [a]; exact Bool.false_ne_true
    rw [if_neg a']
    exact congrArg some e

theorem ObjM.look {h : Heap} {x dx C : Addr} {mA : Str → Option Value} (I : ObjM h x dx C mA) : ∃ od, PySem.W.InstAt h x (PySem.W.instObj C dx) C (some od) ∧ ∀ name, PySem.W.lookIn name od = some (mA name) :=
  let ⟨od, ho, hl⟩ := lookIn_ns I.ns
  ⟨od, ⟨I.obj, rfl, rfl, ho⟩, hl⟩

section
variable {prog : Program} {w : World} {A : Around} {E : Value → Shared → Prop} {s : Shared} {K : PySem.W.Frag} {x dx C f : Addr} {mA : Str → Option Value} {name : Str} {v : Value}

end

/-! ### the attributes as a list of pairs -/
section
variable {P : Program} {w : World} {H H' : Hp} {h h' : Heap} {a C dx : Addr} {fs fs' : List (Str × V)}
theorem ins_get (hok : HOk P w H h) (e : H a = some (.ins C dx fs)) : ∃ mA, ObjM h a dx C mA ∧ (∀ f, RelO (fs.lookup f) (mA f)) ∧ PySem.Within mA (fs.map (·.1)) ∧ fs.length ≤ 1000 ∧ H dx = some (.own a) := by
  obtain ⟨d, z, ne, ob, mA, n, r, q⟩ := (show ObjOk P w H h a (.ins C dx fs) from hok a _ e)
  exact ⟨mA, ⟨ob, n, ne⟩, r, q, z, d⟩
end

/-! ### what of the text a class must have -/
structure Cls (K : PySem.W.Frag) (C : Addr) : Prop where
  pg : PySem.W.plainGet K C Str.empty = true
  hd : PySem.W.hasDictIn K C = true
  po : PySem.W.plainOver K C = true
  sa : PySem.W.findIn K (.ref C) "__setattr__" = some (some (.builtin "object.__setattr__"))
theorem Cls.get {K : PySem.W.Frag} {C : Addr} (c : Cls K C) (f : Str) : PySem.W.plainGet K C f = true := c.pg
section
variable {X : Cx} {pins : List (Addr × Obj)} {σ : St} {H : Hp} {s : Shared} {a C dx : Addr} {fs : List (Str × V)} {f : Str} {v : V} {A : Around} {E : Value → Shared → Prop}

end

/-! ### readings and rules -/
section
variable {X : Cx} {o e value : Expr} {f : Str} {pos pos' tpos : Pos} {ta tv : TE}
end

/-! ### isinstance -/
section
variable {X : Cx} {pins : List (Addr × Obj)} {σ : St} {H : Hp} {s : Shared} {A : Around} {E : Value → Shared → Prop} {Q : Value → Shared → Prop} {c : Value} {b : Bool}
/-- the type of a value, as the fragment's deciders take it; for an instance its class -/
inductive TyOf (K : PySem.W.Frag) (H : Hp) : V → Value → Prop where
  | non : TyOf K H .non (.type "NoneType")
  | bl (x : Bool) : TyOf K H (.bl x) (.type "bool")
  | int (i : Int) : TyOf K H (.int i) (.type "int")
  | str (x : Str) : TyOf K H (.str x) (.type "str")
  | flt (x : UInt64) : TyOf K H (.flt x) (.type "float")
  | lst {a : Addr} {xs : List V} (e : H a = some (.lst xs)) : TyOf K H (.ref a) (.type "list")
  | frz {a : Addr} {o : Obj} {xs : List V} (e : H a = some (.frz o (.lst xs))) : TyOf K H (.ref a) (.type "list")
  | tup {a : Addr} {xs : List V} (e : H a = some (.tup xs)) : TyOf K H (.ref a) (.type "tuple")
  | dK {a : Addr} {kvs : List (Key × V)} (e : H a = some (.dK kvs)) : TyOf K H (.ref a) (.type "dict")
  | dT {a : Addr} {kvs : List (List Key × V)} (e : H a = some (.dT kvs)) : TyOf K H (.ref a) (.type "dict")
  | ins {a C dx : Addr} {fs : List (Str × V)} (e : H a = some (.ins C dx fs)) (cl : Cls K C) (ha : PySem.W.findIn K (.ref C) "__class__" = some (some (.builtin "object.__class__")))
      (hn : PySem.W.specialIn K (.builtin "object.__class__") "__get__" = some (some (.builtin "getset_descriptor.__get__"))) (htk : PySem.W.takesIn K (.builtin "object.__class__") = some true)
      (hm : PySem.W.mroIn K C (.type "object") = some true) : TyOf K H (.ref a) (.ref C)
/-- isinstance(x, c) for one class c, a built-in or an own one: kitOne's answer -/
theorem isinst_ok {x : V} {u t : Value} (I : Inv X pins σ H s) (rx : RelV x u) (ty : TyOf X.K H x t) (e : PySem.W.kitOne X.K t c = some b) (h : ∀ tk, Q (.bool b) { s with toks := tk }) :
    wpAny (model X.prog X.w) A (call (.builtin "isinstance") [u, c]) Q E s := by
  cases ty with
  | non => cases (show u = Value.none from rx); exact PySem.W.kia_one PySem.W.kitx_none I.kIn True.intro e (fun z => nomatch z) h
  | bl y => cases (show u = Value.bool y from rx); exact PySem.W.kia_one PySem.W.kitx_bool I.kIn True.intro e (fun z => nomatch z) h
  | int i => obtain ⟨t, q⟩ := (show ∃ t, u = Value.int i t from rx); cases q; exact PySem.W.kia_one PySem.W.kitx_int I.kIn True.intro e (fun z => nomatch z) h
  | str y => obtain ⟨t, q⟩ := (show ∃ t, u = Value.str y t from rx); cases q; exact PySem.W.kia_one PySem.W.kitx_str I.kIn True.intro e (fun z => nomatch z) h
  | flt y => obtain ⟨t, q⟩ := (show ∃ t, u = Value.float y t from rx); cases q; exact PySem.W.kia_one PySem.W.kitx_float I.kIn True.intro e (fun z => nomatch z) h
  | @lst a xs ea =>
    cases (show u = Value.ref a from rx)
    obtain ⟨_, _, n, _, h1⟩ := (show ObjOk X.prog X.w H s.heap a (.lst xs) from I.hok a _ ea)
    exact PySem.W.kia_one PySem.W.kitx_list I.kIn ⟨_, h1, rfl⟩ e (fun z => nomatch z) h
  | @frz a ob xs ea =>
    cases (show u = Value.ref a from rx)
    obtain ⟨_, _, _, n, _, h1⟩ := (show ObjOk X.prog X.w H s.heap a (.frz ob (.lst xs)) from I.hok a _ ea)
    exact PySem.W.kia_one PySem.W.kitx_list I.kIn ⟨_, h1, rfl⟩ e (fun z => nomatch z) h
  | @tup a xs ea =>
    cases (show u = Value.ref a from rx)
    obtain ⟨_, _, _, p⟩ := (show ObjOk X.prog X.w H s.heap a (.tup xs) from I.hok a _ ea)
    obtain ⟨o, h1, h2, _⟩ := p
    exact PySem.W.kia_one PySem.W.kitx_tuple I.kIn ⟨o, h1, h2⟩ e (fun z => nomatch z) h
  | @dK a kvs ea =>
    cases (show u = Value.ref a from rx)
    obtain ⟨_, _, vs, _, p⟩ := (show ObjOk X.prog X.w H s.heap a (.dK kvs) from I.hok a _ ea)
    obtain ⟨o, es, ep, h1, h2, _⟩ := p
    exact PySem.W.kia_one PySem.W.kitx_dict I.kIn ⟨o, h1, h2.1⟩ e (fun z => nomatch z) h
  | @dT a kvs ea =>
    cases (show u = Value.ref a from rx)
    obtain ⟨_, _, xs, _, o, es, ep, h1, h2, _⟩ := (show ObjOk X.prog X.w H s.heap a (.dT kvs) from I.hok a _ ea)
    exact PySem.W.kia_one PySem.W.kitx_dict I.kIn ⟨o, h1, h2.1⟩ e (fun z => nomatch z) h
  | @ins a C dx fs ea cl ha hn htk hm =>
    cases (show u = Value.ref a from rx)
    obtain ⟨mA, O, _⟩ := ins_get I.hok ea
    obtain ⟨od, J, _⟩ := O.look
    exact PySem.W.kia_one (PySem.W.kitx_own (cl.get _) cl.hd ha hn htk hm) I.kIn J e (fun z => nomatch z) h
end
end L2

namespace L2
open PySem PySem.Spec PyProof.Rows

/-! ### room -/
structure Room (k : Nat) (A : Around) : Prop where
  hd : A.handled = none
  dp : A.depth + 3 * k + 5 < recursionLimit
  un : A.units + 16 * k + 200 < cLine
theorem Room.mono {j k : Nat} {A : Around} (r : Room k A) (h : j ≤ k) : Room j A := ⟨r.hd, by have := r.dp; omega, by have := r.un; omega⟩
theorem Room.deeper {k : Nat} {A : Around} (r : Room (k + 1) A) (env : Env) : Room k (A.deeper env) :=
  ⟨r.hd, by have := r.dp; show A.depth + 1 + 3 * k + 5 < _; omega, by have := r.un; show A.units + 3 + 16 * k + 200 < _; omega⟩
theorem Room.depth {k : Nat} {A : Around} (r : Room k A) : A.depth < recursionLimit := by have := r.dp; omega
theorem Room.units {k : Nat} {A : Around} (r : Room k A) : A.units + 64 < cLine := by have := r.un; omega
theorem Room.units0 {k : Nat} {A : Around} (r : Room k A) : A.units < cLine := by have := r.un; omega

/-! ### argument lists and displays -/
def tNil : TA := fun _ H Q => Q [] H
def tCons (ta : TE) (tr : TA) : TA := fun σ H Q => ta σ H fun x H1 => tr σ H1 fun xs H2 => Q (x :: xs) H2
section
variable {X : Cx} {e : Expr} {es : List Expr} {te : TE} {t : TA} {pos : Pos}
theorem pa_nil : PA X [] tNil := fun _ _ _ _ H Q I h => Calls.spliced_nil ⟨[], H, I, .nil, h⟩
theorem pa_cons (ha : PE X e te) (hr : PA X es t) (hs : starEach (e :: es) X.env = (false, eval e X.env) :: starEach es X.env := by rfl) : PA X (e :: es) (tCons te t) := by
  intro pos pins s σ H Q I h
  rw [hs]
  show wpAny _ _ (spliced ((false, eval e X.env) :: backTo pos (starEach es X.env))) _ _ s
  refine Calls.spliced_cons (thn (ha pins s σ H _ I h) fun u s1 ⟨x, H1, I1, r1, q1⟩ => ?_)
  exact thn (hr pos pins s1 σ H1 _ I1 q1) fun us s2 ⟨xs, H2, I2, r2, q2⟩ => ⟨x :: xs, H2, I2, .cons r1 r2, q2⟩

/-- a tuple, a list of written items -/
def tTup (t : TA) : TE := fun σ H Q => t σ H fun xs H1 => xs.length ≤ sizeLine ∧ ∀ p, H1 p = none → Q (.ref p) (upd H1 p (.tup xs))
def tLst (t : TA) : TE := fun σ H Q => t σ H fun xs H1 => xs.length ≤ sizeLine ∧ ∀ p, H1 p = none → Q (.ref p) (upd H1 p (.lst xs))
theorem pe_tup {x1} (h : PA X es t) : PE X (.Tuple es x1 pos) (tTup t) := by
  intro pins s σ H Q I hq
  refine wpAny_Tuple_spliced (thn (h pos pins s σ H _ I hq) fun us s1 ⟨xs, H1, I1, r, z, q⟩ => ⟨by rw [← r.length]; exact z, ?_⟩)
  have hf : H1 s1.heap.objs.size = none := I1.hok.fresh (Nat.le_refl _)
  refine ⟨.ref s1.heap.objs.size, upd H1 s1.heap.objs.size (.tup xs), I1.laid (t' := s1.toks) (fun b u e => Heap.get?_push_of_some _ e) (Nat.le_refl _) ?_, rfl, q _ hf⟩
  exact ⟨z, us, r, ⟨_, Heap.get?_push_size _ rfl, rfl, rfl, _, rfl⟩⟩
theorem pe_lst (h : PA X es t) : PE X (.List es pos) (tLst t) := by
  intro pins s σ H Q I hq
  refine wpAny_List_spliced (thn (h pos pins s σ H _ I hq) fun us s1 ⟨xs, H1, I1, r, z, q⟩ => ⟨by rw [← r.length]; exact z, ?_⟩)
  have hf : H1 s1.heap.objs.size = none := I1.hok.fresh (Nat.le_refl _)
  refine ⟨.ref s1.heap.objs.size, upd H1 s1.heap.objs.size (.lst xs), I1.laid (t' := s1.toks) (fun b u e => Heap.get?_push_of_some _ e) (Nat.le_refl _) ?_, rfl, q _ hf⟩
  exact ⟨z, us, 0, r, Heap.get?_push_size _ rfl⟩
end

/-! ### what a def promises -/
/-- a def's promise: the bound arguments in the parameters' order, the heap, the wanted end, the wanted exception -/
abbrev Sp := List V → Hp → VK → XK → Prop
/-- how an exception lies behind a call (file 08 gives it): the callers' frames, abstract heap and state ahead of the call, the wish, the exception, the state -/
abbrev CXT := List Env → Hp → Shared → XK → Value → Shared → Prop

/-- the state at a call -/
structure Env0 (P : Program) (w : World) (K : PySem.W.Frag) (mg : Str → Option Value) (base : Heap) (A : Around) (outer : List Env) (s : Shared) (H : Hp) : Prop where
  frames : A.frames = some outer
  mod : Mod K mg base
  bs : ∀ b o, base.get? b = some o → s.heap.get? b = some o ∧ H b = none
  bsz : base.objs.size ≤ s.heap.objs.size
  funs : s.heap.FunFrames base outer
  frf : ∀ b ∈ frs outer, H b = none
  hok : HOk P w H s.heap
  bare : AllBare s.gens
/-- a call's end -/
def CE (outer : List Env) (P : Program) (w : World) (H : Hp) (s : Shared) (Q : VK) (u : Value) (s' : Shared) : Prop :=
  ∃ v H', s'.os = s.os ∧ AllBare s'.gens ∧ Un (frs outer) [] H H' s.heap s'.heap ∧ HOk P w H' s'.heap ∧ RelV v u ∧ Q v H'
def CR (CX : CXT) (outer : List Env) (P : Program) (w : World) (H : Hp) (s : Shared) (Q : VK) (E : XK) (r : Result) (s' : Shared) : Prop :=
  match r with
  | .ok (.ret u) => CE outer P w H s Q u s'
  | .ok _ => False
  | .error e => CX outer H s E e s'
structure FnOk (P : Program) (w : World) (K : PySem.W.Frag) (mg : Str → Option Value) (base : Heap) (CX : CXT) (k : Nat) (f : Addr) (fd : FuncData) (ps : List Str) (sp : Sp) : Prop where
  len : ∀ vs H Q E, sp vs H Q E → vs.length = ps.length
  run : ∀ (A : Around) (outer : List Env) (s : Shared) (H : Hp) (args : Args) (us : List Value) (vs : List V) (Q : VK) (E : XK), Room k A → Env0 P w K mg base A outer s H → BindsTo s fd args (ps.zip us) → Vals vs us → sp vs H Q E →
    codeAny (model P w) A (.call (.ref f) args) (CR CX outer P w H s Q E) s
section
variable {X : Cx} {pins : List (Addr × Obj)} {σ : St} {H : Hp} {s s' : Shared}
/-- from a body: what a callee wants -/
theorem Inv.env0 (I : Inv X pins σ H s) : Env0 X.prog X.w X.K X.mg X.base X.A X.stack s H :=
  ⟨I.ok.frames, I.ok.mod, I.bs, Nat.le_trans I.ok.bsz I.sz, I.stack, I.stkFree, I.hok, I.bare⟩
/-- behind a call -/
theorem Inv.after {Q : VK} {u : Value} (I : Inv X pins σ H s) (h : CE X.stack X.prog X.w H s Q u s') : EP X pins σ Q u s' := by
  obtain ⟨v, H', os, bare, un, hok, r, q⟩ := h
  obtain ⟨hh, g, d, t, os'⟩ := s'
  obtain rfl : os' = s.os := os
  exact ⟨v, H', I.call (h' := hh) (g' := g) (d' := d) (t' := t) (ch := []) un hok bare (fun b z => absurd z (by simp)), r, q⟩
end

/-! ### calls -/
/-- f(..): the written arguments, then the defaults dvs; E: what is wanted of an exception -/
def tCall (sp : Sp) (dvs : List V) (E : XK) (t : TA) : TE := fun σ H Q => t σ H fun vs H1 => sp (vs ++ dvs) H1 Q E
/-- how the parameters are bound: us the positional arguments, kw the keywords' values by name, ds the defaults that fill up -/
def Binds (K : PySem.W.Frag) (fd : FuncData) (ps : List Str) (ds : List Value) : Prop :=
  ∀ (s : Shared) (us : List Value), K.In s.heap → (us ++ ds).length = ps.length → BindsTo s fd ⟨us, []⟩ (ps.zip (us ++ ds))
/-- every parameter is given -/
theorem Binds.all {K : PySem.W.Frag} {fd : FuncData} {ps : List Str} (h : ∀ us : List Value, us.length = ps.length → bindArgs fd ⟨us, []⟩ = pure (ps.zip us)) : Binds K fd ps [] := fun s us _ hl => by
  rw [List.append_nil] at hl ⊢
  exact .of_eq (h us hl)

/-- an exception of a callee reaches what this body wants of exceptions -/
def Passes (CX : CXT) (X : Cx) (E : XK) : Prop := ∀ (pins : List (Addr × Obj)) (σ : St) (H : Hp) (s : Shared) (e : Value) (s' : Shared), Inv X pins σ H s → CX X.stack H s E e s' → X.xe e s'

section
variable {X : Cx} {CX : CXT} {k : Nat} {f C : Addr} {fd : FuncData} {ps : List Str} {sp : Sp} {dvs : List V} {ds : List Value} {E : XK} {x m : Str} {p pos apos : Pos} {e o : Expr} {es : List Expr} {ta : TE} {t : TA}

/-- the callee runs -/
theorem run_fn {pins : List (Addr × Obj)} {σ : St} {H : Hp} {s : Shared} {Q : VK} {us : List Value} {vs : List V} (F : FnOk X.prog X.w X.K X.mg X.base CX k f fd ps sp) (hr : Room k X.A) (hb : Binds X.K fd ps ds) (hd : Vals dvs ds) (hx : Passes CX X E)
    (I : Inv X pins σ H s) (r : Vals vs us) (h : sp (vs ++ dvs) H Q E) : wpAny (model X.prog X.w) X.A (call (.ref f) us) (EP X pins σ Q) X.xe s := by
  have r2 : Vals (vs ++ dvs) (us ++ ds) := r.append hd
  have hl : (us ++ ds).length = ps.length := by rw [← r2.length]; exact F.len _ _ _ _ h
  refine wpAny_call (codeAny_mono (F.run X.A X.stack s H ⟨us, []⟩ (us ++ ds) (vs ++ dvs) Q E hr I.env0 (hb s us I.kIn hl) r2 h) fun r s' hq => ?_)
  cases r with
  | error e => exact hx pins σ H s e s' I hq
  | ok fl =>
    cases fl with
    | ret u => exact I.after hq
    | next => exact False.elim hq
    | brk => exact False.elim hq
    | cont => exact False.elim hq

theorem pe_call (F : FnOk X.prog X.w X.K X.mg X.base CX k f fd ps sp) (hr : Room k X.A) (hg : Gl X x) (hm : X.mg x = some (.ref f)) (hk : PySem.W.keepIn X.K (.ref f) = true) (hb : Binds X.K fd ps ds) (hd : Vals dvs ds) (hx : Passes CX X E)
    (ha : PA X (e :: es) t) (hdb : (x == ("__debug__" : Str)) = false := by decide) (he : starEach (e :: es) X.env = (false, eval e X.env) :: starEach es X.env := by rfl) (hpl : (backTo pos (starEach es X.env)).any (·.1) = false := by rfl) :
    PE X (.Call (.Name x p) (e :: es) [] pos) (tCall sp dvs E t) := by
  intro pins s σ H Q I h
  refine wpAny_Call_Name_kw (ld_glob I hg hm ?_ hdb)
  refine PySem.W.callWith_K (h₀ := X.base) I.ok.mod.kin hk (thn (ha pos pins s σ H _ I h) fun us s1 ⟨vs, H1, I1, r, q⟩ => ⟨I1.kIn, ?_⟩) he hpl
  exact run_fn F hr hb hd hx I1 r q
end

/-! ### keywords -/
section
variable {X : Cx} {CX : CXT} {k : Nat} {f C : Addr} {fd : FuncData} {ps ks : List Str} {sp : Sp} {E : XK} {x m : Str} {p pos apos kpos : Pos} {e o : Expr} {es : List Expr} {kws : List Keyword} {te ta : TE} {t tk : TA} {nm : Option Str}
variable {g : List Value → List Value → List Value} {gV : List V → List V → List V}
end

/-! ### a def's body keeps its promise -/
/-- names: the parameters first -/
structure FnScope (N P : List Str) (sc : Scope) : Prop where
  kind : sc.kind = .function
  co : sc.isCoroutine = false
  gen : sc.isGenerator = false
  nd : N.Nodup
  pre : N.take P.length = P
  par : ∀ x ∈ P, sc.names.lookup x = some .local ∨ sc.names.lookup x = some .cell
  nofree : ∀ y ∈ sc.names, y.2 ≠ .free

theorem bindL_out {kindOf : Str → Option NameKind} {x : Str} : ∀ {binds : List (Str × Value)} {m : Str → Option Value}, (∀ v, (x, v) ∉ binds) → bindL kindOf binds m x = m x
  | [], _, _ => rfl
  | (n, v) :: r, m, h => by
    unfold bindL
    rw [bindL_out fun w hw => h w (List.mem_cons_of_mem _ hw)]
    split
    · have : x ≠ n := by rintro rfl; exact h v List.mem_cons_self
      simp [this]
    · rfl
theorem bindC_out {kindOf : Str → Option NameKind} {x : Str} : ∀ {binds : List (Str × Value)} {m : Str → Option Value}, (∀ v, (x, v) ∉ binds) → bindC kindOf binds m x = m x
  | [], _, _ => rfl
  | (n, v) :: r, m, h => by
    unfold bindC
    rw [bindC_out fun w hw => h w (List.mem_cons_of_mem _ hw)]
    split
    · rfl
    · have : x ≠ n := by rintro rfl; exact h v List.mem_cons_self
      simp [this]
theorem bindL_get {kindOf : Str → Option NameKind} {x : Str} {v : Value} : ∀ {P : List Str} {vs : List Value} {i : Nat} {m : Str → Option Value}, P.Nodup → P[i]? = some x → vs[i]? = some v → kindOf x = some .local →
    bindL kindOf (P.zip vs) m x = some v
  | [], _, _, _, _, h, _, _ => by simp at h
  | _ :: _, [], _, _, _, _, h, _ => by simp at h
  | p :: P, w :: vs, 0, m, nd, h1, h2, hk => by
    simp at h1 h2; subst h1; subst h2
    show bindL kindOf ((p, w) :: P.zip vs) m p = _
    unfold bindL
    rw [bindL_out fun v hv => (List.nodup_cons.mp nd).1 (List.of_mem_zip hv).1, if_pos hk]
    simp
  | p :: P, w :: vs, i + 1, m, nd, h1, h2, hk => by
    show bindL kindOf ((p, w) :: P.zip vs) m x = _
    unfold bindL
    exact bindL_get (i := i) (List.nodup_cons.mp nd).2 (by simpa using h1) (by simpa using h2) hk
theorem bindC_get {kindOf : Str → Option NameKind} {x : Str} {v : Value} : ∀ {P : List Str} {vs : List Value} {i : Nat} {m : Str → Option Value}, P.Nodup → P[i]? = some x → vs[i]? = some v → kindOf x ≠ some .local →
    bindC kindOf (P.zip vs) m x = some v
  | [], _, _, _, _, h, _, _ => by simp at h
  | _ :: _, [], _, _, _, _, h, _ => by simp at h
  | p :: P, w :: vs, 0, m, nd, h1, h2, hk => by
    simp at h1 h2; subst h1; subst h2
    show bindC kindOf ((p, w) :: P.zip vs) m p = _
    unfold bindC
    rw [bindC_out fun v hv => (List.nodup_cons.mp nd).1 (List.of_mem_zip hv).1, if_neg hk]
    simp
  | p :: P, w :: vs, i + 1, m, nd, h1, h2, hk => by
    show bindC kindOf ((p, w) :: P.zip vs) m x = _
    unfold bindC
    exact bindC_get (i := i) (List.nodup_cons.mp nd).2 (by simpa using h1) (by simpa using h2) hk

/-- the names' values at the entry -/
def start (N : List Str) (vs : List V) : St := vs.map some ++ List.replicate (N.length - vs.length) none

/-- the context of a def's body, at its entry; an exception leaves the frame, then lies as CX says -/
def cxOf (CX : CXT) (P : Program) (w : World) (K : PySem.W.Frag) (mg : Str → Option Value) (base : Heap) (N : List Str) (qual : Str) (scope : Scope) (f : Addr) (cd : Value) (A : Around) (outer : List Env) (s : Shared) (H : Hp) (E : XK) : Cx where
  prog := P
  w := w
  K := K
  mg := mg
  base := base
  A := A.deeper (envOfC qual scope s.heap.objs.size f cd)
  N := N
  s₀ := s
  H₀ := H
  env := envOfC qual scope s.heap.objs.size f cd
  outer := outer
  stack := envOfC qual scope s.heap.objs.size f cd :: outer
  ex := []
  calm := true
  fn := fun _ => true
  pn := []
  xe := fun e s' => wpAny (model P w) (A.deeper (envOfC qual scope s.heap.objs.size f cd)) (leaving (envOfC qual scope s.heap.objs.size f cd) e) (fun _ s'' => CX outer H s E e s'') (fun e' s'' => CX outer H s E e' s'') s'

theorem cell_has {sc : Scope} {n : Nat} {x : Str} (h : sc.names.lookup x = some .cell) : ∃ c, (cellsFrom n sc.names []).lookup x = some c := by
  have q := PySem.W.cellsFrom_some sc.names n [] (.inl h)
  exact Option.isSome_iff_exists.mp q

theorem inv_start {CX : CXT} {P : Program} {w : World} {K : PySem.W.Frag} {mg : Str → Option Value} {base : Heap} {N ps : List Str} {qual : Str} {scope : Scope} {f : Addr} {cd : Value} {A : Around} {outer : List Env} {s s1 : Shared} {H : Hp} {E : XK} {us : List Value} {vs : List V}
    (S : FnScope N ps scope) (hd : A.handled = none) (e0 : Env0 P w K mg base A outer s H) (hl : vs.length = ps.length) (r : Vals vs us)
    (x : InCallC s s.heap.objs.size (bindL (envOfC qual scope s.heap.objs.size f cd).kindOf (ps.zip us) fun _ => none) (cellsFrom (s.heap.objs.size + 1) scope.names []) (bindC (envOfC qual scope s.heap.objs.size f cd).kindOf (ps.zip us) fun _ => none) s1) :
    Inv (cxOf CX P w K mg base N qual scope f cd A outer s H E) [] (start N vs) H s1 := by
  have hpl : ps.length ≤ N.length := by have := congrArg List.length S.pre; rw [List.length_take] at this; omega
  obtain ⟨h1, tk, rfl, hk⟩ := x.done
  have noA : ∀ b : Addr, b ∉ (cxOf CX P w K mg base N qual scope f cd A outer s H E).ex := fun b z => absurd (show b ∈ ([] : List Addr) from z) (by simp)
  refine ⟨⟨e0.mod, S.kind, rfl, rfl, Nat.le_refl _, fun y z c h1 h2 => ?_, fun y hy => ?_, fun y c _ h => ?_, fun _ => hd, Around.frames_deeper e0.frames, .inr ⟨rfl, rfl⟩, fun b z => absurd z (noA b), e0.bs, e0.bsz, fun b _ _ => noA b, fun b z => absurd z (noA b), e0.funs, e0.frf⟩,
    rfl, e0.bare, Un.kept hk, ⟨_, x.toInCall.ns, fun i y v h1 h2 h3 => ?_⟩, fun y c h => ⟨_, x.cell y c h⟩, e0.hok.fresh (Nat.le_refl _), fun y c h => ?_, fun p hp => absurd (show p ∈ ([] : List (Addr × Obj)) from hp) (by simp), e0.hok.kept hk, ?_⟩
  · exact name_of_addr x.apart (PySem.mem_of_lookup h1) (PySem.mem_of_lookup h2)
  · have hy : scope.names.lookup y = some .cell ∨ scope.names.lookup y = some .free := hy
    rcases hy with hy | hy
    · exact cell_has hy
    · exact absurd rfl (S.nofree _ (PySem.mem_of_lookup hy))
  · exact Nat.le_of_lt (x.above y c (PySem.mem_of_lookup h))
  · have hi : i < vs.length := by
      unfold start at h2
      by_cases hi : i < vs.length
      · exact hi
      · rw [List.getElem?_append_right (by simpa using hi)] at h2
        rw [List.getElem?_replicate] at h2
        split at h2 <;> cases h2
    have ha : vs[i]? = some v := by
      unfold start at h2
      rw [List.getElem?_append_left (by simpa using hi), List.getElem?_map] at h2
      cases e : vs[i]? with
      | none => rw [e] at h2; cases h2
      | some a => rw [e] at h2; cases h2; rfl
    obtain ⟨u, hu, rv⟩ := r.get ha
    have hp : ps[i]? = some y := by
      rw [← S.pre, List.getElem?_take_of_lt (by omega)]; exact h1
    have ndP : ps.Nodup := by rw [← S.pre]; exact S.nd.sublist (List.take_sublist _ _)
    refine ⟨u, rv, ?_⟩
    rcases S.par y (List.mem_of_getElem? hp) with k | k
    · exact .inl ⟨k, bindL_get ndP hp hu k⟩
    · obtain ⟨c, e⟩ := cell_has (n := s.heap.objs.size + 1) k
      refine .inr ⟨.inl k, c, e, ?_⟩
      have q := x.cell y c e
      rw [bindC_get ndP hp hu (by show scope.names.lookup y ≠ _; rw [k]; decide)] at q
      exact q
  · exact e0.hok.fresh (Nat.le_of_lt (x.above y c (PySem.mem_of_lookup h)))
  · unfold start
    show _ = N.length
    rw [List.length_append, List.length_map, List.length_replicate]
    omega

/-- THE RULE: a def (or a method) of the text, by its body. The body's reading t is chosen for each entry; it is run at the parameters' values -/
theorem fn_of {CX : CXT} {P : Program} {w : World} {K : PySem.W.Frag} {mg : Str → Option Value} {base : Heap} {k : Nat} {f : Addr} {name qual : Str} {params : Arguments} {body : List Stmt} {scope : Scope} {dV kV doc pm cdv ct oc : Value} {an od : Option Addr}
    {osl : Array (Option Value)} {N ps : List Str} {sp : Sp} (lk : K.lookup f = some ⟨oc, od, .func (PySem.W.fnOf name qual params body scope dV kV doc pm an cdv ct), osl⟩) (hcd : PySem.W.codeIn K cdv qual = true) (S : FnScope N ps scope)
    (len : ∀ vs H Q E, sp vs H Q E → vs.length = ps.length)
    (hbody : ∀ (A : Around) (outer : List Env) (s : Shared) (H : Hp) (vs : List V) (Q : VK) (E : XK), Room k (A.deeper (envOfC qual scope s.heap.objs.size f cdv)) → sp vs H Q E →
      ∃ t, PSs (cxOf CX P w K mg base N qual scope f cdv A outer s H E) body t ∧ t { nx := fun _ H' => Q .non H', rt := Q } (start N vs) H) :
    FnOk P w K mg base CX (k + 1) f (PySem.W.fnOf name qual params body scope dV kV doc pm an cdv ct) ps sp := by
  refine ⟨len, fun A outer s H args us vs Q E hr e0 hb r hsp => ?_⟩
  have hl := len _ _ _ _ hsp
  have KX : K.In s.heap := e0.mod.kin.keeps fun b o e => (e0.bs b o e).1
  have lim : s.heap.NoLimit := e0.mod.nolimit.keeps fun b o e => (e0.bs b o e).1
  have hkind : ∀ y ∈ ps.zip us, scope.names.lookup y.1 = some .local ∨ (scope.names.lookup y.1 = some .cell ∧ ((cellsFrom (s.heap.objs.size + 1) scope.names []).lookup y.1).isSome = true) := fun ⟨n, v⟩ hy => by
    rcases S.par n (List.of_mem_zip hy).1 with q | q
    · exact .inl q
    · exact .inr ⟨q, PySem.W.cellsFrom_some _ _ _ (.inl q)⟩
  refine codeAny_call_function hr.depth (KX _ _ lk) rfl S.co S.gen rfl (PySem.W.codeRec_of KX hcd) (hb _ _ _ _ ?_)
  refine wpAny_newFunctionEnv_cells S.kind hkind fun env he s1 x => ?_
  subst he
  refine ⟨lim.keeps x.toInCall.keep, codeAny_func ?_⟩
  obtain ⟨t, ht, hq⟩ := hbody A outer s H vs Q E (hr.deeper _) hsp
  have I : Inv (cxOf CX P w K mg base N qual scope f cdv A outer s H E) [] (start N vs) H s1 := inv_start S hr.hd e0 hl r x
  refine wpAny_mono (ht [] s1 (start N vs) H _ I hq) (fun fl s' hs => ?_) fun e s' hs => hs
  have fin : ∀ {σ' : St} {H' : Hp} {v : V} {u : Value}, Inv (cxOf CX P w K mg base N qual scope f cdv A outer s H E) [] σ' H' s' → RelV v u → Q v H' → CE outer P w H s Q u s' :=
    fun {σ' H' v u} J rv q => ⟨v, H', J.os, J.bare, J.base, J.hok, rv, q⟩
  cases fl with
  | ret u =>
    obtain ⟨v, σ', H', J, rv, q⟩ := hs
    exact fin J rv q
  | next =>
    obtain ⟨σ', H', J, q⟩ := hs
    exact fin (v := V.non) (u := Value.none) J rfl q
  | brk =>
    obtain ⟨_, _, _, q⟩ := hs
    exact False.elim q
  | cont =>
    obtain ⟨_, _, _, q⟩ := hs
    exact False.elim q
end L2

namespace L2
open PySem PySem.Spec PyProof.Rows
section
variable {X : Cx} {x : Str} {p pos : Pos} {e : Expr} {es : List Expr} {t : TA} {id T : String} {r : List V → Hp → VK → Prop}

def tCB (r : List V → Hp → VK → Prop) (t : TA) : TE := fun σ H Q => t σ H fun vs H1 => r vs H1 Q
/-- f(e, ..), f a built-in function -/
theorem pe_callB (hc : CallR X (.builtin id) r) (hg : Gl X x) (hm : X.mg x = none) (hv : bootBuiltins x = some (.builtin id)) (ha : PA X (e :: es) t) (hn : x ≠ "__name__" := by decide) (hdb : (x == ("__debug__" : Str)) = false := by decide)
    (he : starEach (e :: es) X.env = (false, eval e X.env) :: starEach es X.env := by rfl) (hpl : (backTo pos (starEach es X.env)).any (·.1) = false := by rfl) : PE X (.Call (.Name x p) (e :: es) [] pos) (tCB r t) := by
  intro pins s σ H Q I h
  refine wpAny_Call_Name_kw (ld_blt I hg hm hv ?_ hn hdb)
  exact PyProof.Rows.callWith_builtin1 (thn (ha pos pins s σ H _ I h) fun us s1 ⟨vs, H1, I1, r1, q1⟩ => hc pins s1 σ H1 vs us Q I1 r1 q1) he hpl
/-- T(e, ..), T a built-in type -/
theorem pe_callTy (hc : CallR X (.type T) r) (hg : Gl X x) (hm : X.mg x = none) (hv : bootBuiltins x = some (.type T)) (ha : PA X (e :: es) t) (hn : x ≠ "__name__" := by decide) (hdb : (x == ("__debug__" : Str)) = false := by decide)
    (he : starEach (e :: es) X.env = (false, eval e X.env) :: starEach es X.env := by rfl) (hpl : (backTo pos (starEach es X.env)).any (·.1) = false := by rfl) : PE X (.Call (.Name x p) (e :: es) [] pos) (tCB r t) := by
  intro pins s σ H Q I h
  refine wpAny_Call_Name_kw (ld_blt I hg hm hv ?_ hn hdb)
  exact PyProof.Rows.callWith_type1 (thn (ha pos pins s σ H _ I h) fun us s1 ⟨vs, H1, I1, r1, q1⟩ => hc pins s1 σ H1 vs us Q I1 r1 q1) he hpl
end
end L2

namespace HT
open PySem PyProof.Rows

section
open PySem.SeqAt
open PySem.AutoSeq1 (wpAny_loadPart')
open PySem.MeetsSeq PySem.MeetsSeq2 PySem.MeetsSeq3

end

section
variable {prog : Program} {w : World} {A : Around} {E : Value → Shared → Prop} {s : Shared}

/-- t + u, t not empty -/
theorem cat_tup {t b : Addr} {vs ws : List Value} {Q : Value → Shared → Prop} (ht : IsTup s.heap t vs.toArray) (hb : IsTup s.heap b ws.toArray) (hv : vs ≠ [])
    (h1 : ws = [] → Q (.ref t) s) (h2 : ws ≠ [] → Q (.ref s.heap.objs.size) { s with heap := s.heap.push { cls := .type "tuple", data := .seq (vs ++ ws).toArray } })
    (hsz : vs.length + ws.length ≤ sizeLine) : wpAny (model prog w) A (binaryOp .Add (.ref t) (.ref b)) Q E s := by
  obtain ⟨⟨cls, dd, data, sl⟩, ho, hc, n, hd⟩ := id ht
  obtain ⟨⟨cls2, dd2, data2, sl2⟩, ho2, hc2, n2, hd2⟩ := id hb
  simp only at hc hd hc2 hd2
  subst hc hd hc2 hd2
  have e : vs.toArray ++ ws.toArray = (vs ++ ws).toArray := by simp
  by_cases hw : ws = []
  · exact concat_meets ⟨_, ho, rfl⟩ ⟨_, ho2, rfl⟩ noFill_tuple_add seq_tuple_add PySem.F.slot_tuple_add PySem.F.entry_tuple_add (PySem.F.args_tuple_add_2 _ _)
      (tuple_addW1 t b vs.toArray ws.toArray n n2 dd dd2 sl sl2 (by simpa using hv) (by simp [hw])) ⟨ho, ho2, h1 hw⟩
  · refine concat_meets ⟨_, ho, rfl⟩ ⟨_, ho2, rfl⟩ noFill_tuple_add seq_tuple_add PySem.F.slot_tuple_add PySem.F.entry_tuple_add (PySem.F.args_tuple_add_2 _ _)
      (tuple_addW2 t b vs.toArray ws.toArray n n2 dd dd2 sl sl2 (by simpa using hv) (by simpa using hw) (by rw [List.size_toArray, List.size_toArray]; exact hsz)) ⟨ho, ho2, ?_⟩
    rw [e]
    exact h2 hw

/-! ### t[a:b], not the whole -/
/-- a slice's bound as a place among n (d where it is left out) -/
def sIx (n d : Nat) : Option Int → Nat
  | none => d
  | some v => if v < 0 then (v + (n : Int)).toNat else min v.toNat n
theorem sIx_le (n d : Nat) (hd : d ≤ n) (o : Option Int) : sIx n d o ≤ n := by
  cases o with
  | none => exact hd
  | some v =>
    show (if v < 0 then (v + (n : Int)).toNat else min v.toNat n) ≤ n
    by_cases hv : v < 0
    · rw [if_pos hv]; omega
    · rw [if_neg hv]; exact Nat.min_le_right _ _
theorem clip_eq (v : Int) (n d : Nat) : (if v < 0 then max (v + (n : Int)) 0 else min v (n : Int)) = ((sIx n d (some v) : Nat) : Int) := by
  show (if v < 0 then max (v + (n : Int)) 0 else min v (n : Int)) = (((if v < 0 then (v + (n : Int)).toNat else min v.toNat n) : Nat) : Int)
  by_cases hv : v < 0
  · simp only [if_pos hv]; omega
  · simp only [if_neg hv]; omega
theorem adjust_gen (lo hi : Option Int) (n : Nat) : Builtin.Slice.sliceAdjust lo hi 1 (n : Int) = (((sIx n 0 lo : Nat) : Int), ((sIx n n hi : Nat) : Int)) := by
  have h1 : ¬ ((1 : Int) < 0) := by omega
  unfold Builtin.Slice.sliceAdjust
  simp only [h1, if_false]
  refine Prod.ext ?_ ?_
  · cases lo with
    | none => rfl
    | some v => exact clip_eq v n 0
  · cases hi with
    | none => rfl
    | some v => exact clip_eq v n n
theorem places_gen (i j : Nat) : Builtin.Slice.slicePlaces (i : Int) (j : Int) 1 = j - i := by
  unfold Builtin.Slice.slicePlaces
  have h1 : (1 : Int) > 0 := by omega
  simp only [h1, if_true, Int.ediv_one]
  split <;> omega
theorem slicePart_ {v : Value} {o : Option Int} {Q : Option Int → Shared → Prop} (p : IsPart v o) (h : Q o s) : wpAny (model prog w) A (Builtin.Slice.slicePartIndex v) Q E s := by
  cases p with
  | none => exact slicePart_none h
  | int i t => exact slicePart_int h
theorem sliceApplied_gen {sl : Addr} {vl vu : Value} {lo hi : Option Int} {n : Nat} {Q : Int × Int × Nat → Shared → Prop} (hs : s.heap.IsSliceOf sl vl vu .none) (pl : IsPart vl lo) (pu : IsPart vu hi)
    (h : Q (((sIx n 0 lo : Nat) : Int), 1, sIx n n hi - sIx n 0 lo) s) : wpAny (model prog w) A (Builtin.Slice.sliceApplied (.ref sl) (pure (n : Int))) Q E s := by
  obtain ⟨os, hos, hcs, hds⟩ := id hs
  unfold Builtin.Slice.sliceApplied Builtin.Slice.sliceFields
  refine wpAny_bind (wpAny_bind (wpAny_field hos hds (x := vl) rfl (wpAny_bind (wpAny_field hos hds (x := vu) rfl (wpAny_bind (wpAny_field hos hds (x := .none) rfl (wpAny_pure ?_)))))))
  refine wpAny_bind (slicePart_none ?_)
  show wpAny _ _ (if ((1 : Int) == 0) = true then _ else _) _ _ s
  rw [if_neg (by decide)]
  refine wpAny_bind (slicePart_ pl (wpAny_bind (slicePart_ pu (wpAny_bind (wpAny_pure ?_)))))
  show wpAny _ _ (match Builtin.Slice.sliceAdjust lo hi 1 (n : Int) with | (lo, hi) => pure (lo, (1 : Int), Builtin.Slice.slicePlaces lo hi 1)) _ _ s
  rw [adjust_gen lo hi n]
  show wpAny _ _ (pure (((sIx n 0 lo : Nat) : Int), (1 : Int), Builtin.Slice.slicePlaces ((sIx n 0 lo : Nat) : Int) ((sIx n n hi : Nat) : Int) 1)) _ _ s
  rw [places_gen]
  exact wpAny_pure h
theorem pick_gen (xs : Array Value) (i k : Nat) : ((List.range k).filterMap fun (m : Nat) => xs[((i : Int) + (m : Int) * 1).toNat]?).toArray = ((xs.toList.drop i).take k).toArray := by
  have e : (fun (m : Nat) => xs[((i : Int) + (m : Int) * 1).toNat]?) = fun m => xs[i + m]? := by
    funext m
    have : ((i : Int) + (m : Int) * 1).toNat = i + m := by omega
    rw [this]
  rw [e]
  have := pick_run xs i k
  rw [List.filterMap_map] at this
  have e2 : ((fun x => xs[x]?) ∘ fun x => i + x) = fun m => xs[i + m]? := rfl
  rw [e2] at this
  rw [this]

theorem getItem_tuple_cut {t sl : Addr} {items : Array Value} {vl vu : Value} {lo hi : Option Int} {Q : Value → Shared → Prop} (ht : IsTup s.heap t items) (hs : s.heap.IsSliceOf sl vl vu .none) (pl : IsPart vl lo) (pu : IsPart vu hi)
    (hw : ¬ (sIx items.size 0 lo = 0 ∧ sIx items.size items.size hi = items.size))
    (h : Q (.ref s.heap.objs.size) { s with heap := s.heap.push { cls := .type "tuple", data := .seq ((items.toList.drop (sIx items.size 0 lo)).take (sIx items.size items.size hi - sIx items.size 0 lo)).toArray } })
    (hsz : items.size ≤ sizeLine) : wpAny (model prog w) A (getItem (.ref t) (.ref sl)) Q E s := by
  have htake : sizeOk (.seq ((items.toList.drop (sIx items.size 0 lo)).take (sIx items.size items.size hi - sIx items.size 0 lo)).toArray) := by
    show ((items.toList.drop (sIx items.size 0 lo)).take (sIx items.size items.size hi - sIx items.size 0 lo)).toArray.size ≤ sizeLine
    rw [List.size_toArray, List.length_take, List.length_drop, Array.length_toList]
    omega
  have hj : sIx items.size items.size hi ≤ items.size := sIx_le _ _ (Nat.le_refl _) hi
  obtain ⟨os, hos, hcs, hds⟩ := id hs
  have hTs : s.TypeIs (.ref sl) "slice" := ⟨os, hos, hcs⟩
  unfold getItem
  try with_reducible refine wpAny_holding ?_
  first | refine wpAny_bind (wpAny_pure ?_) | skip
  refine wpAny_bind (wpAny_sequenceKey ht.typeIs (by decide) ?_)
  refine wpAny_bind (wpAny_callSpecial?_slot (name := Str.ofString "__getitem__") ht.typeIs PyProof.Rows.slot_tuple_getitem
    (wpAny_call_entry PyProof.Rows.slot_tuple_getitem ht.typeIs entry_tuple_getitem ?_ (args_tuple_getitem _ _)))
  show wpAny _ _ (Builtin.Tuple.tupleItemsOf (.ref t) >>= _) _ _ s
  refine wpAny_bind (tupleItemsOf_ ht ?_)
  refine wpAny_bind (wpAny_typeOf hTs ?_)
  rw [if_pos (by decide)]
  refine wpAny_bind (sliceApplied_gen hs pl pu ?_)
  have hno : ¬ ((((sIx items.size 0 lo : Nat) : Int) == 0 && (1 : Int) == 1 && (sIx items.size items.size hi - sIx items.size 0 lo) == items.size) = true) := by
    intro q
    rw [Bool.and_eq_true, Bool.and_eq_true] at q
    have q1 : ((sIx items.size 0 lo : Nat) : Int) = 0 := eq_of_beq q.1.1
    have q2 : sIx items.size items.size hi - sIx items.size 0 lo = items.size := eq_of_beq q.2
    exact hw ⟨by omega, by omega⟩
  show wpAny _ _ (if (((sIx items.size 0 lo : Nat) : Int) == 0 && (1 : Int) == 1 && (sIx items.size items.size hi - sIx items.size 0 lo) == items.size) = true then _ else _) _ _ s
  rw [if_neg hno, pick_gen]
  first
    | exact wpAny_bind (m := Builtin.Tuple.tupleExact _) (wpAny_newObj_type (wpAny_pure ⟨_, rfl, wpAny_pure h⟩) htake)
    | exact wpAny_bind (m := Builtin.Tuple.tupleExact _) (wpAny_newObj_type (wpAny_bind (wpAny_pure (wpAny_pure ⟨_, rfl, wpAny_pure h⟩))) htake)
    | exact wpAny_bind (wpAny_bind (m := Builtin.Tuple.tupleExact _) (wpAny_newObj_type (wpAny_pure (wpAny_pure ⟨_, rfl, wpAny_pure h⟩)) htake))
    | exact wpAny_bind (wpAny_bind (m := Builtin.Tuple.tupleExact _) (wpAny_newObj_type (wpAny_pure ⟨_, rfl, wpAny_pure h⟩) htake))
end
end HT

namespace L2
open PySem PySem.Spec PyProof.Rows

/-! ### the parts of a slice -/
abbrev TO := St → Hp → (Option Int → Hp → Prop) → Prop
/-- a slice's part (left out, or an int) -/
def PO (X : Cx) (e : Option Expr) (t : TO) : Prop :=
  ∀ (pins : List (Addr × Obj)) (s : Shared) (σ : St) (H : Hp) (Q : Option Int → Hp → Prop), Inv X pins σ H s → t σ H Q →
    wpAny (model X.prog X.w) X.A (evalPart e X.env) (fun u s' => ∃ o H', Inv X pins σ H' s' ∧ IsPart u o ∧ Q o H') X.xe s
def tNoPart : TO := fun _ H Q => Q none H
def tPart (t : TE) : TO := fun σ H Q => t σ H fun x H1 => ∃ i, x = .int i ∧ Q (some i) H1

section
variable {X : Cx} {e : Expr} {te : TE} {lo hi : Option Expr} {tl th : TO} {pos p2 : Pos}

theorem po_none : PO X none tNoPart := by
  intro pins s σ H Q I h
  rw [evalPart_none]
  exact wpAny_pure ⟨none, H, I, .none, h⟩
theorem po_some (h : PE X e te) : PO X (some e) (tPart te) := by
  intro pins s σ H Q I hw
  rw [evalPart_some]
  refine thn (h pins s σ H _ I hw) fun u s1 ⟨x, H1, I1, r1, q1⟩ => ?_
  obtain ⟨i, rfl, q⟩ := q1
  obtain ⟨t, rfl⟩ := r1
  exact ⟨some i, H1, I1, .int i t, q⟩

/-- what a slice of a value is, by values: the slice object stands at sl -/
def SlR (X : Cx) (r : V → Option Int → Option Int → Hp → VK → Prop) : Prop :=
  ∀ (pins : List (Addr × Obj)) (s : Shared) (σ : St) (H : Hp) (x : V) (v vl vu : Value) (lo hi : Option Int) (sl : Addr) (Q : VK), Inv X pins σ H s → RelV x v → s.heap.IsSliceOf sl vl vu .none → IsPart vl lo → IsPart vu hi → r x lo hi H Q →
    ∃ T id, typeLookup (.type T) "__getitem__" = pure (some (.builtin id)) ∧ s.TypeIs v T ∧ wpAny (model X.prog X.w) X.A (getItem v (.ref sl)) (EP X pins σ Q) X.xe s
def tSl (r : V → Option Int → Option Int → Hp → VK → Prop) (te : TE) (tl th : TO) : TE := fun σ H Q => te σ H fun x H1 => tl σ H1 fun l H2 => th σ H2 fun u H3 => r x l u H3 Q
/-- a[lo:hi], any a -/
theorem pe_slice {r : V → Option Int → Option Int → Hp → VK → Prop} (hr : SlR X r) (he : PE X e te) (hl : PO X lo tl) (hu : PO X hi th) : PE X (.Subscript e (.Slice lo hi none p2) pos) (tSl r te tl th) := by
  intro pins s σ H Q I h
  refine Subscript_ (thn (he pins s σ H _ I h) fun v s1 ⟨x, H1, I1, r1, q1⟩ => ?_)
  refine wpAny_Slice (thn (hl pins s1 σ H1 _ I1 q1) fun vl s2 ⟨l, H2, I2, pl, q2⟩ => thn (hu pins s2 σ H2 _ I2 q2) fun vu s3 ⟨u, H3, I3, pu, q3⟩ => ?_)
  rw [evalPart_none]
  refine wpAny_pure ?_
  have I4 : Inv X pins σ H3 { s3 with heap := s3.heap.push { cls := .type "slice", data := .fields #[vl, vu, .none] } } := I3.kept (t' := s3.toks) fun b ob q => Heap.get?_push_of_some _ q
  obtain ⟨T, id, hT, ht, hg⟩ := hr pins { s3 with heap := s3.heap.push { cls := .type "slice", data := .fields #[vl, vu, .none] } } σ H3 x v vl vu l u s3.heap.objs.size Q I4 r1 (Heap.IsSliceOf.new ..) pl pu q3
  show wpAny (model X.prog X.w) X.A (subscriptTail e (.Slice lo hi none p2) v (.ref s3.heap.objs.size)) (EP X pins σ Q) X.xe { s3 with heap := s3.heap.push { cls := .type "slice", data := .fields #[vl, vu, .none] } }
  exact tail_any (ops := [.ref s3.heap.objs.size, v]) ht hT hg (by with_unfolding_all rfl)

/-- the items of xs[lo:hi] -/
def cutV (xs : List V) (lo hi : Option Int) : List V := (xs.drop (HT.sIx xs.length 0 lo)).take (HT.sIx xs.length xs.length hi - HT.sIx xs.length 0 lo)
theorem cutV_length (xs : List V) (lo hi : Option Int) : (cutV xs lo hi).length ≤ xs.length := by
  unfold cutV
  rw [List.length_take, List.length_drop]
  omega
/-- t[lo:hi], not the whole of it (the whole would be t itself) -/
def rSlT (K : PySem.W.Frag) : V → Option Int → Option Int → Hp → VK → Prop := fun x lo hi H Q => ∃ a xs, x = .ref a ∧ SqT K H a xs ∧
  ¬ (HT.sIx xs.length 0 lo = 0 ∧ HT.sIx xs.length xs.length hi = xs.length) ∧ ∀ p, H p = none → Q (.ref p) (upd H p (.tup (cutV xs lo hi)))
theorem sl_tup : SlR X (rSlT X.K) := by
  intro pins s σ H x v vl vu lo hi sl Q I rx hs pl pu h
  obtain ⟨a, xs, rfl, hx, hw, q⟩ := h
  cases rx
  obtain ⟨its, r, ht, hz⟩ := I.tuple hx
  have hlen : its.toArray.size = xs.length := by rw [List.size_toArray]; exact r.length.symm
  refine ⟨"tuple", _, PyProof.Rows.slot_tuple_getitem.lookup, ht.typeIs, ?_⟩
  refine HT.getItem_tuple_cut ht hs pl pu (by rw [hlen]; exact hw) ?_ (by rw [hlen]; exact hz)
  rw [hlen]
  refine ⟨.ref s.heap.objs.size, _, I.laid (t' := s.toks) (o := .tup (cutV xs lo hi)) (fun b ob q => Heap.get?_push_of_some _ q) (Nat.le_refl _) ?_, rfl, q _ (I.hok.fresh (Nat.le_refl _))⟩
  exact ⟨Nat.le_trans (cutV_length xs lo hi) hz, _, (r.drop (HT.sIx xs.length 0 lo)).take (HT.sIx xs.length xs.length hi - HT.sIx xs.length 0 lo), TupP.new _ _⟩

/-! ### t < u, t + u -/
theorem Vals.nil_iff {xs : List V} {us : List Value} (r : Vals xs us) : us = [] ↔ xs = [] := by
  cases r with
  | nil => simp
  | cons _ _ => simp
end
end L2

namespace L2
open PySem PySem.Spec PyProof.Rows

/-! ### places -/
/-- the place that an index of any sign means -/
def ixN (n : Nat) (i : Int) : Option Nat := if 0 ≤ i then (if i < n then some i.toNat else none) else if -(n : Int) ≤ i then some (i + n).toNat else none
def atI {α : Type} (xs : List α) (i : Int) : Option α := (ixN xs.length i).bind fun j => xs[j]?
theorem ixN_seq {n : Nat} {i : Int} {j : Nat} (h : ixN n i = some j) : seqIndex? i n = some j ∧ j < n ∧ -(n : Int) ≤ i ∧ i < n := by
  unfold ixN at h
  by_cases h0 : 0 ≤ i
  · rw [if_pos h0] at h
    by_cases h1 : i < n
    · rw [if_pos h1] at h
      have e : i.toNat = j := Option.some.inj h
      exact ⟨by rw [seqIndex_of h0 h1, e], by omega, by omega, h1⟩
    · rw [if_neg h1] at h; cases h
  · rw [if_neg h0] at h
    by_cases h1 : -(n : Int) ≤ i
    · rw [if_pos h1] at h
      have e : (i + n).toNat = j := Option.some.inj h
      exact ⟨by rw [seqIndex_neg (by omega) h1, e], by omega, h1, by omega⟩
    · rw [if_neg h1] at h; cases h
theorem atI_get {α : Type} {xs : List α} {i : Int} {v : α} (h : atI xs i = some v) : ∃ j, seqIndex? i xs.length = some j ∧ xs[j]? = some v ∧ j < xs.length ∧ -(xs.length : Int) ≤ i ∧ i < xs.length := by
  unfold atI at h
  cases e : ixN xs.length i with
  | none => rw [e] at h; cases h
  | some j =>
    rw [e] at h
    obtain ⟨h1, h2, h3, h4⟩ := ixN_seq e
    exact ⟨j, h1, h, h2, h3, h4⟩
theorem atI_nat {α : Type} {xs : List α} {j : Nat} {v : α} (h : xs[j]? = some v) : atI xs (j : Int) = some v := by
  have hj : j < xs.length := (List.getElem?_eq_some_iff.mp h).1
  have e : ixN xs.length (j : Int) = some j := by
    unfold ixN
    rw [if_pos (by omega), if_pos (by omega)]; simp
  unfold atI; rw [e]; exact h
/-! ### what may be subscripted -/
/-- what stands as an index of a plain subscript -/
def PlainIx (b : Expr) : Prop := ∀ o i, subscripted b false o i = operate [o, i] (getItem o i)
/-- a subscript by values -/
def IxR (X : Cx) (r : R2) : Prop :=
  ∀ (value slice : Expr) (pins : List (Addr × Obj)) (s : Shared) (σ : St) (H : Hp) (x y : V) (v u : Value) (Q : VK), Inv X pins σ H s → RelV x v → RelV y u → r x y H Q →
    subscripted slice false v u = operate [v, u] (getItem v u) → wpAny (model X.prog X.w) X.A (subscriptTail value slice v u) (EP X pins σ Q) X.xe s
/-- a call of a builtin's method by values: the receiver, the arguments -/
def MtR (X : Cx) (id : String) (r : V → List V → Hp → VK → Prop) : Prop :=
  ∀ (pins : List (Addr × Obj)) (s : Shared) (σ : St) (H : Hp) (x : V) (xs : List V) (v : Value) (us : List Value) (Q : VK), Inv X pins σ H s → RelV x v → Vals xs us → r x xs H Q →
    wpAny (model X.prog X.w) X.A (call (.builtin id) (v :: us)) (EP X pins σ Q) X.xe s
section
variable {X : Cx} {a b : Expr} {ta tb : TE} {pos : Pos}
/-- a[b] -/
theorem pe_ix {r : R2} (hr : IxR X r) (ha : PE X a ta) (hb : PE X b tb) (hs : PlainIx b) : PE X (.Subscript a b pos) (tOp r ta tb) := by
  intro pins s σ H Q I h
  exact Subscript_ (binT ha hb I h fun v u s2 x y H2 I2 rx ry q => hr a b pins s2 σ H2 x y v u Q I2 rx ry q (hs _ _))

def rIxL (K : PySem.W.Frag) : R2 := fun x y H Q => ∃ p xs i v, x = .ref p ∧ y = .int i ∧ SqL K H p xs ∧ atI xs i = some v ∧ Q v H
def rIxT (K : PySem.W.Frag) : R2 := fun x y H Q => ∃ p xs i v, x = .ref p ∧ y = .int i ∧ SqT K H p xs ∧ atI xs i = some v ∧ Q v H
theorem ix_list : IxR X (rIxL X.K) := by
  intro value slice pins s σ H x y v u Q I rx ry h hs
  obtain ⟨p, xs, i, z, rfl, rfl, hq, he, q⟩ := h
  cases rx
  obtain ⟨t, rfl⟩ := ry
  obtain ⟨its, r, pl, hz⟩ := I.list hq
  obtain ⟨j, h1, h2, h3, h4, h5⟩ := atI_get he
  obtain ⟨w, ew, rw'⟩ := r.get h2
  have hl := r.length
  have hn := line63
  have fin : EP X pins σ Q w s := ⟨z, H, I, rw', q⟩
  by_cases h0 : 0 ≤ i
  · have hj : i.toNat = j := by
      rw [seqIndex_of h0 h5] at h1
      exact Option.some.inj h1
    exact item_listR pl.isList h0 (by omega) (by rw [hj]; simpa using ew) fin hs
  · have hj : (i + (its.toArray.size : Int)).toNat = j := by
      rw [seqIndex_neg (by omega) h4] at h1
      rw [List.size_toArray, ← hl]
      exact Option.some.inj h1
    exact subscriptTail_builtinR (x := w) pl.isList.typeIs slot_list_getitem.lookup
      (wpAny_getItem_list_neg (Q := fun r s' => r = w ∧ EP X pins σ Q r s') pl.isList (by omega) (by rw [List.size_toArray] <;> omega) (by omega) (by rw [hj]; simpa using ew) ⟨rfl, fin⟩) hs
theorem ix_tup : IxR X (rIxT X.K) := by
  intro value slice pins s σ H x y v u Q I rx ry h hs
  obtain ⟨p, xs, i, z, rfl, rfl, hq, he, q⟩ := h
  cases rx
  obtain ⟨t, rfl⟩ := ry
  obtain ⟨its, r, pl, hz⟩ := I.tuple hq
  obtain ⟨j, h1, h2, h3, h4, h5⟩ := atI_get he
  obtain ⟨w, ew, rw'⟩ := r.get h2
  have hl := r.length
  have hn := line63
  have fin : EP X pins σ Q w s := ⟨z, H, I, rw', q⟩
  exact subscriptTail_builtinR (x := w) pl.typeIs slot_tuple_getitem.lookup
    (getItem_tuple (j := j) (Q := fun r s' => r = w ∧ EP X pins σ Q r s') pl (by omega) (by omega) (by rw [List.size_toArray, ← hl]; exact h1) (by simpa using ew) ⟨rfl, fin⟩) hs
/-! ### xs[i] = v, any sign -/
/-- the list's object behind a store -/
theorem mapSeq_set (its : List Value) (n j : Nat) (u : Value) : Obj.mapSeq (·.setIfInBounds j u) { cls := .type "list", data := .seq its.toArray n } = { cls := .type "list", data := .seq (its.set j u).toArray n } := by
  simp [Obj.mapSeq]
theorem Inv.lst {pins : List (Addr × Obj)} {σ : St} {H : Hp} {s : Shared} {p : Addr} {xs : List V} (I : Inv X pins σ H s) (h : H p = some (.lst xs)) :
    ∃ (its : List Value) (n : Nat), Vals xs its ∧ s.heap.get? p = some { cls := .type "list", data := .seq its.toArray n } ∧ xs.length ≤ sizeLine := by
  obtain ⟨z, its, n, r, e⟩ := I.hok p _ h
  exact ⟨its, n, r, e, z⟩
/-- the list at p is written by an update of its object -/
theorem Inv.lstUpd {pins : List (Addr × Obj)} {σ : St} {H : Hp} {s : Shared} {p : Addr} {xs ys : List V} {its its' : List Value} {n n' : Nat} {f : Obj → Obj} (I : Inv X pins σ H s) (h : H p = some (.lst xs))
    (ho : s.heap.get? p = some { cls := .type "list", data := .seq its.toArray n }) (hf : f { cls := .type "list", data := .seq its.toArray n } = { cls := .type "list", data := .seq its'.toArray n' }) (r : Vals ys its') (hz : ys.length ≤ sizeLine) (t : Nat) :
    Inv X pins σ (upd H p (.lst ys)) { s with heap := s.heap.update p f, toks := t } := by
  have e : (s.heap.update p f).get? p = some { cls := .type "list", data := .seq its'.toArray n' } := by
    rw [Heap.get?_update_self f ho (by rw [hf] <;> rfl), hf]
  refine I.write (x := p) (e := p) (by rw [h]; trivial) (.inl rfl) (fun b u hb q => (Heap.get?_update_other _ _ (Ne.symm hb)).trans q) ⟨_, e⟩ ?_
  exact ⟨hz, its', n', r, e⟩
def rSetL : V → V → V → Hp → (Hp → Prop) → Prop := fun o i v H Q => ∃ p xs k j, o = .ref p ∧ i = .int k ∧ H p = some (.lst xs) ∧ ixN xs.length k = some j ∧ Q (upd H p (.lst (xs.set j v)))
theorem set_list : PSet X rSetL := by
  intro pins s σ H o i v ov iv u Q I ro ri rv h
  obtain ⟨p, xs, k, j, rfl, rfl, hp, hj, q⟩ := h
  cases ro
  obtain ⟨t, rfl⟩ := ri
  obtain ⟨its, n, r, ho, hz⟩ := I.lst hp
  obtain ⟨h1, h2, h3, h4⟩ := ixN_seq hj
  have hl := r.length
  have hn := line63
  have I' : Inv X pins σ (upd H p (.lst (xs.set j v))) { s with heap := s.heap.update p (Obj.mapSeq (·.setIfInBounds j u)) } :=
    I.lstUpd hp ho (mapSeq_set its n j u) (r.set rv j) (by rw [List.length_set]; exact hz) s.toks
  by_cases h0 : 0 ≤ k
  · have hk : k.toNat = j := by
      rw [seqIndex_of h0 h4] at h1
      exact Option.some.inj h1
    exact PySem.W.ki_setAt ho h0 (by omega) (by rw [List.size_toArray, ← hl]; exact h4) (by rw [hk]; exact ⟨_, I', q⟩)
  · have hk : (k + (its.toArray.size : Int)).toNat = j := by
      rw [seqIndex_neg (by omega) h3] at h1
      rw [List.size_toArray, ← hl]
      exact Option.some.inj h1
    exact PySem.W.ki_setBack ho (by omega) (by rw [List.size_toArray, ← hl]; exact h3) (by omega) (by rw [hk]; exact ⟨_, I', q⟩)

/-! ### slices -/
theorem slice_bounds (lo hi : Option Int) (n : Nat) : (sliceBounds lo hi none n).1 = ((HT.sIx n 0 lo : Nat) : Int) ∧ (sliceBounds lo hi none n).2.1 = ((HT.sIx n n hi : Nat) : Int) ∧ (sliceBounds lo hi none n).2.2 = 1 := by
  refine ⟨?_, ?_, rfl⟩
  · cases lo with
    | none => simp [sliceBounds, HT.sIx]
    | some i =>
      simp only [sliceBounds, HT.sIx, Option.getD_none, show (1 : Int) > 0 by decide, if_true]
      by_cases h : i < 0
      · simp only [h, if_true] <;> omega
      · simp only [h, if_false] <;> omega
  · cases hi with
    | none => simp [sliceBounds, HT.sIx]
    | some i =>
      simp only [sliceBounds, HT.sIx, Option.getD_none, show (1 : Int) > 0 by decide, if_true]
      by_cases h : i < 0
      · simp only [h, if_true] <;> omega
      · simp only [h, if_false] <;> omega
theorem slicePick_cut (its : List Value) (lo hi : Option Int) : slicePick its.toArray lo hi none = ((its.drop (HT.sIx its.length 0 lo)).take (HT.sIx its.length its.length hi - HT.sIx its.length 0 lo)).toArray := by
  obtain ⟨h1, h2, h3⟩ := slice_bounds lo hi its.toArray.size
  unfold slicePick
  rw [h1, h2, h3]
  simp only [sliceRange_one, pick_run, List.size_toArray] <;> rfl
/-- xs[lo:hi] of a list: a new list -/
def rSlL (K : PySem.W.Frag) : V → Option Int → Option Int → Hp → VK → Prop := fun x lo hi H Q => ∃ a xs, x = .ref a ∧ SqL K H a xs ∧ ∀ p, H p = none → Q (.ref p) (upd H p (.lst (cutV xs lo hi)))
theorem sl_list : SlR X (rSlL X.K) := by
  intro pins s σ H x v vl vu lo hi sl Q I rx hs pl pu h
  obtain ⟨a, xs, rfl, hx, q⟩ := h
  cases rx
  obtain ⟨its, r, ht, hz⟩ := I.list hx
  have hlen := r.length
  refine ⟨"list", _, slot_list_getitem.lookup, ht.isList.typeIs, ?_⟩
  refine wpAny_getItem_list_slice ht.isList hs pl pu .none (by simp) ?_ (by rw [List.size_toArray] <;> omega)
  rw [slicePick_cut, ← hlen]
  refine ⟨.ref s.heap.objs.size, _, I.laid (t' := s.toks) (o := .lst (cutV xs lo hi)) (fun b ob q => Heap.get?_push_of_some _ q) (Nat.le_refl _) ?_, rfl, q _ (I.hok.fresh (Nat.le_refl _))⟩
  exact ⟨Nat.le_trans (cutV_length xs lo hi) hz, _, 0, (r.drop (HT.sIx xs.length 0 lo)).take (HT.sIx xs.length xs.length hi - HT.sIx xs.length 0 lo), Heap.get?_push_size _ rfl⟩

/-! ### in, not in: flat items -/
def flatV : V → Bool
  | .non => true
  | .bl _ => true
  | .int _ => true
  | .str _ => true
  | _ => false
/-- == of flat values -/
def eqV : V → V → Bool
  | .non, .non => true
  | .bl a, .bl b => a == b
  | .bl a, .int b => (if a then 1 else 0) == b
  | .int a, .bl b => a == (if b then 1 else 0)
  | .int a, .int b => a == b
  | .str a, .str b => a == b
  | _, _ => false
theorem eqAt_V {A : Around} {s : Shared} {y x : V} {u v : Value} (ry : RelV y u) (rx : RelV x v) (fy : flatV y = true) (fx : flatV x = true) : SeqAt.EqAt A s u v (eqV y x) := by
  cases y with
  | non =>
    cases ry
    cases x with
    | non => cases rx; exact SeqAt.EqAt.same _
    | bl b => cases rx; exact SeqAt.EqAt.none_bool b
    | int b => obtain ⟨t, rfl⟩ := rx; exact SeqAt.EqAt.none_int b t
    | str b => obtain ⟨t, rfl⟩ := rx; exact SeqAt.EqAt.none_str b t
    | _ => exact absurd (show false = true from fx) Bool.false_ne_true
  | bl a =>
    cases ry
    cases x with
    | non => cases rx; exact SeqAt.EqAt.bool_none a
    | bl b => cases rx; exact SeqAt.EqAt.bool_bool a b
    | int b => obtain ⟨t, rfl⟩ := rx; exact SeqAt.EqAt.bool_int a b t
    | str b => obtain ⟨t, rfl⟩ := rx; exact SeqAt.EqAt.bool_str a b t
    | _ => exact absurd (show false = true from fx) Bool.false_ne_true
  | int a =>
    obtain ⟨t', rfl⟩ := ry
    cases x with
    | non => cases rx; exact SeqAt.EqAt.int_none a t'
    | bl b => cases rx; exact SeqAt.EqAt.int_bool a t' b
    | int b => obtain ⟨t, rfl⟩ := rx; exact SeqAt.EqAt.int_int a t' b t
    | str b => obtain ⟨t, rfl⟩ := rx; exact SeqAt.EqAt.int_str a t' b t
    | _ => exact absurd (show false = true from fx) Bool.false_ne_true
  | str a =>
    obtain ⟨t', rfl⟩ := ry
    cases x with
    | non => cases rx; exact SeqAt.EqAt.str_none a t'
    | bl b => cases rx; exact SeqAt.EqAt.str_bool a t' b
    | int b => obtain ⟨t, rfl⟩ := rx; exact SeqAt.EqAt.str_int a t' b t
    | str b => obtain ⟨t, rfl⟩ := rx; exact SeqAt.EqAt.str_str a t' b t
    | _ => exact absurd (show false = true from fx) Bool.false_ne_true
  | _ => exact absurd (show false = true from fy) Bool.false_ne_true
/-- the items' answers, read off the values (a value's own answer does not lean on its token) -/
def eqU (x : V) (u : Value) : Bool := match u with
  | .none => eqV .non x
  | .bool b => eqV (.bl b) x
  | .int i _ => eqV (.int i) x
  | .str z _ => eqV (.str z) x
  | _ => false
theorem eqU_of {x y : V} {u : Value} (r : RelV y u) (f : flatV y = true) : eqU x u = eqV y x := by
  cases y with
  | non => cases r; rfl
  | bl b => cases r; rfl
  | int i => obtain ⟨t, rfl⟩ := r; rfl
  | str z => obtain ⟨t, rfl⟩ := r; rfl
  | _ => exact absurd (show false = true from f) Bool.false_ne_true
theorem any_eqU {x : V} : ∀ {xs : List V} {us : List Value}, Vals xs us → xs.all flatV = true → us.any (eqU x) = xs.any fun y => eqV y x
  | _, _, .nil, _ => rfl
  | y :: xs, u :: us, .cons r t, f => by
    rw [List.all_cons, Bool.and_eq_true] at f
    rw [List.any_cons, List.any_cons, eqU_of r f.1, any_eqU t f.2]
theorem mem_eqAt {A : Around} {s : Shared} {x : V} {v : Value} (rx : RelV x v) (fx : flatV x = true) : ∀ {xs : List V} {us : List Value}, Vals xs us → xs.all flatV = true → ∀ u ∈ us, SeqAt.EqAt A s u v (eqU x u)
  | _, _, .nil, _ => fun u hu => by cases hu
  | y :: xs, u :: us, .cons r t, f => fun u' hu => by
    rw [List.all_cons, Bool.and_eq_true] at f
    rcases List.mem_cons.mp hu with rfl | hu
    · rw [eqU_of r f.1]; exact eqAt_V r rx f.1 fx
    · exact mem_eqAt rx fx t f.2 u' hu
def inV (x : V) (xs : List V) : Bool := xs.any fun y => eqV y x
/-- x in a list or tuple of flat items -/
def rIn (K : PySem.W.Frag) (neg : Bool) : R2 := fun x y H Q => ∃ p xs, y = .ref p ∧ (SqL K H p xs ∨ SqT K H p xs) ∧ flatV x = true ∧ xs.all flatV = true ∧ Q (.bl (if neg then !inV x xs else inV x xs)) H
theorem op_notIn_seq : OpR X (compareOp .NotIn) (rIn X.K true) := by
  intro pins s σ H x y v u Q I rx ry h
  obtain ⟨p, xs, rfl, hq, fx, fs, q⟩ := h
  cases ry
  rcases hq with hq | hq
  · obtain ⟨its, r, pl, hz⟩ := I.list hq
    refine SeqAt.notIn_listAt (eqU x) pl.isList (fun w hw => mem_eqAt rx fx r fs w (by simpa using hw)) ⟨.bl _, H, I, rfl, ?_⟩
    rw [show its.toArray.any (eqU x) = its.any (eqU x) by simp, any_eqU r fs]
    exact q
  · obtain ⟨its, r, pl, hz⟩ := I.tuple hq
    refine SeqAt.notIn_tupleAt (eqU x) pl (fun w hw => mem_eqAt rx fx r fs w (by simpa using hw)) ⟨.bl _, H, I, rfl, ?_⟩
    rw [show its.toArray.any (eqU x) = its.any (eqU x) by simp, any_eqU r fs]
    exact q
/-! ### len, list(x), tuple(x) of any list or tuple that is read -/
theorem call_len_seq : CallR X (.builtin "len") (fun xs H Q => ∃ p ys, xs = [.ref p] ∧ (SqL X.K H p ys ∨ SqT X.K H p ys) ∧ Q (.int ys.length) H) := by
  intro pins s σ H xs us Q I r h
  obtain ⟨p, ys, rfl, hq, q⟩ := h
  obtain ⟨u, rfl, rx⟩ := vals1 r
  cases rx
  have hn := line63
  rcases hq with hq | hq
  · obtain ⟨its, r', pl, hz⟩ := I.list hq
    have hlen := r'.length
    exact Calls.call_len_list pl.isList (by simp only [List.size_toArray] <;> omega) ⟨.int ys.length, H, I.tok _, ⟨s.toks + 1, by rw [List.size_toArray, hlen]⟩, q⟩
  · obtain ⟨its, r', pl, hz⟩ := I.tuple hq
    have hlen := r'.length
    exact len_tuple pl (by simp only [List.size_toArray] <;> omega) ⟨.int ys.length, H, I.tok _, ⟨s.toks + 1, by rw [List.size_toArray, hlen]⟩, q⟩
theorem call_len_str : CallR X (.builtin "len") (fun xs H Q => ∃ z, xs = [.str z] ∧ z.length ≤ sizeLine ∧ Q (.int z.length) H) := by
  intro pins s σ H xs us Q I r h
  obtain ⟨z, rfl, hz, q⟩ := h
  obtain ⟨u, rfl, t, rfl⟩ := vals1 r
  have hn := line63
  exact len_str (by omega) ⟨.int z.length, H, I.tok _, ⟨_, rfl⟩, q⟩
theorem call_tuple_of : CallR X (.type "tuple") (fun xs H Q => ∃ p ys, xs = [.ref p] ∧ ((SqL X.K H p ys ∧ ∀ l, H l = none → Q (.ref l) (upd H l (.tup ys))) ∨ (SqT X.K H p ys ∧ Q (.ref p) H))) := by
  intro pins s σ H xs us Q I r h
  obtain ⟨p, ys, rfl, h⟩ := h
  obtain ⟨u, rfl, rx⟩ := vals1 r
  cases rx
  rcases h with ⟨hq, q⟩ | ⟨hq, q⟩
  · obtain ⟨its, r', pl, hz⟩ := I.list hq
    have hlen := r'.length
    refine call_tuple_list pl.isList (fun h' kp => ?_) (by simp only [List.size_toArray] <;> omega)
    have I1 : Inv X pins σ H { s with heap := h' } := I.kept (t' := s.toks) kp
    have I2 : Inv X pins σ (upd H h'.objs.size (.tup ys)) { s with heap := h'.push { cls := .type "tuple", data := .seq its.toArray } } :=
      I1.laid (t' := s.toks) (fun b o e => Heap.get?_push_of_some _ e) (Nat.le_refl _) (show ObjOk X.prog X.w _ _ _ (.tup ys) from ⟨hz, its, r', TupP.new _ _⟩)
    exact ⟨.ref h'.objs.size, _, I2, rfl, q _ (I1.hok.fresh (Nat.le_refl _))⟩
  · obtain ⟨its, r', pl, hz⟩ := I.tuple hq
    exact call_tuple_same pl ⟨.ref p, H, I, rfl, q⟩

/-! ### the call of a builtin's method: o.m(..) -/
/-- the value is of that builtin type -/
def tyV (K : PySem.W.Frag) (T : String) (x : V) (H : Hp) : Prop := match x with
  | .str _ => T = "str"
  | .int _ => T = "int"
  | .ref p => (T = "list" ∧ ∃ xs, SqL K H p xs) ∨ (T = "tuple" ∧ ∃ o, K.lookup p = some o ∧ o.cls = .type "tuple" ∧ o.dict = none) ∨
      (T = "dict" ∧ ((∃ kvs, H p = some (.dK kvs)) ∨ ∃ kvs, H p = some (.dT kvs))) ∨ (T = "set" ∧ ∃ S n, H p = some (.set S n))
  | _ => False
theorem tyV_is {pins : List (Addr × Obj)} {σ : St} {H : Hp} {s : Shared} {T : String} {x : V} {v : Value} (I : Inv X pins σ H s) (r : RelV x v) (ty : tyV X.K T x H) :
    s.TypeIs v T ∧ ∀ a, v = .ref a → ∃ ob, s.heap.get? a = some ob ∧ ob.dict = none := by
  cases x with
  | str z =>
    obtain ⟨t, rfl⟩ := r
    cases (show T = "str" from ty)
    exact ⟨typeIs_str s z t, fun _ e => nomatch e⟩
  | int i =>
    obtain ⟨t, rfl⟩ := r
    cases (show T = "int" from ty)
    exact ⟨typeIs_int s i t, fun _ e => nomatch e⟩
  | ref p =>
    cases r
    rcases ty with ⟨rfl, xs, hq⟩ | ⟨rfl, o, hk, hc, hd⟩ | ⟨rfl, hk⟩ | ⟨rfl, S, n, hk⟩
    · obtain ⟨its, _, pl, _⟩ := I.list hq
      refine ⟨pl.isList.typeIs, fun a e => ?_⟩
      cases e
      obtain ⟨o, n, e, c, hd, _⟩ := pl
      exact ⟨o, e, hd⟩
    · refine ⟨⟨o, I.kIn p o hk, hc⟩, fun a e => ?_⟩
      cases e
      exact ⟨o, I.kIn _ o hk, hd⟩
    · have z : ∃ o, s.heap.get? p = some o ∧ o.ExactDict := by
        rcases hk with ⟨kvs, hk⟩ | ⟨kvs, hk⟩
        · obtain ⟨_, _, _, _, o, _, _, e, ex, _⟩ := I.hok p _ hk
          exact ⟨o, e, ex⟩
        · obtain ⟨_, _, _, _, o, _, _, e, ex, _⟩ := I.hok p _ hk
          exact ⟨o, e, ex⟩
      obtain ⟨o, e, ex⟩ := z
      refine ⟨⟨o, e, ex.1⟩, fun a e2 => ?_⟩
      cases e2
      exact ⟨o, e, ex.2.1⟩
    · obtain ⟨o, _, _, _, e, ex, _⟩ := I.hok p _ hk
      refine ⟨⟨o, e, ex.1⟩, fun a e2 => ?_⟩
      cases e2
      exact ⟨o, e, ex.2.1⟩
  | _ => exact False.elim ty
def tBM (K : PySem.W.Frag) (T : String) (r : V → List V → Hp → VK → Prop) (to : TE) (t : TA) : TE := fun σ H Q => to σ H fun x H1 => tyV K T x H1 ∧ t σ H1 fun xs H2 => r x xs H2 Q
variable {o e : Expr} {es : List Expr} {to : TE} {t : TA} {name : Str} {apos cpos : Pos} {T id : String} {r : V → List V → Hp → VK → Prop}
theorem pe_bm (pa : PlainAttrs T) (slot : Slot T name id) (hty : typeOf (.builtin id) = pure (.type "method_descriptor")) (hm : MtR X id r) (ho : PE X o to) (ha : PA X (e :: es) t)
    (hbase : attributeBase o name X.env (eval o X.env) = eval o X.env := by rfl)
    (hfew : ((backTo cpos (starEach (e :: es) X.env)).all (fun x => !x.1) && (backToKw cpos (keywordEach [] X.env)).all (fun x => x.1.isSome)
      && decide ((e :: es).length + ([] : List Keyword).length + (if ([] : List Keyword).isEmpty then 0 else 1) < 30)) = true := by rfl)
    (hline : (apos.endLine == cpos.line) = true := by rfl) (hs : starEach (e :: es) X.env = (false, eval e X.env) :: starEach es X.env := by rfl) (hplain : (backTo cpos (starEach es X.env)).any (·.1) = false := by rfl) :
    PE X (.Call (.Attribute o name apos) (e :: es) [] cpos) (tBM X.K T r to t) := by
  intro pins s σ H Q I h
  refine wpAny_Call_method_late hbase hfew hline rfl (thn (ho pins s σ H _ I h) fun v s1 ⟨x, H1, I1, r1, ty, q1⟩ => ?_)
  obtain ⟨h1, h2⟩ := tyV_is I1 r1 ty
  refine ⟨T, id, pa, slot, hty, h1, h2, ?_⟩
  have hA := ha cpos pins s1 σ H1 _ I1 q1
  rw [hs] at hA ⊢
  refine Calls.callWith_builtin (by show (false || (backTo cpos (starEach es X.env)).any (·.1)) = false; rw [hplain] <;> rfl) (Calls.evalArgs_plain ?_)
  exact thn hA fun us s2 ⟨vs, H2, I2, r2, q2⟩ => hm pins s2 σ H2 x vs v us Q I2 r1 r2 q2
/- xs.append(e), list.index on a module's tuple .. are MtR facts of 06m -/
end
end L2

namespace L2
open PySem PySem.Spec PyProof.Rows

def MtM (X : Cx) (id : String) (r : V → List V → Hp → VK → Prop) : Prop :=
  ∀ (pins : List (Addr × Obj)) (s : Shared) (σ : St) (H : Hp) (x : V) (xs : List V) (v : Value) (us : List Value) (Q : VK), Inv X pins σ H s → RelV x v → Vals xs us → r x xs H Q →
    wpAny (model X.prog X.w) X.A (call (.builtin id) (v :: us)) (EP X pins σ Q) X.xe s

/-! ### lists of values -/
theorem Vals.one : ∀ {x : V} {us : List Value}, Vals [x] us → ∃ u, us = [u] ∧ RelV x u
  | _, _, .cons r .nil => ⟨_, rfl, r⟩
theorem Vals.two : ∀ {x y : V} {us : List Value}, Vals [x, y] us → ∃ u v, us = [u, v] ∧ RelV x u ∧ RelV y v
  | _, _, _, .cons r (.cons q .nil) => ⟨_, _, rfl, r, q⟩
theorem Vals.rep {xs : List V} {us : List Value} (h : Vals xs us) : ∀ k : Nat, Vals (List.replicate k xs).flatten (List.replicate k us).flatten
  | 0 => .nil
  | k + 1 => by
    rw [List.replicate_succ, List.replicate_succ, List.flatten_cons, List.flatten_cons]
    exact Vals.append h (Vals.rep h k)
theorem foldl_rep (its : List Value) : ∀ (k : Nat) (acc : List Value),
    List.foldl (fun x1 x2 => x1 ++ x2) acc.toArray (List.replicate k its.toArray) = (acc ++ (List.replicate k its).flatten).toArray
  | 0, acc => by simp
  | k + 1, acc => by
    have e : acc.toArray ++ its.toArray = (acc ++ its).toArray := by simp
    have e2 : (acc ++ its) ++ (List.replicate k its).flatten = acc ++ (List.replicate (k + 1) its).flatten := by
      rw [List.replicate_succ, List.flatten_cons, List.append_assoc]
    rw [← e2, ← foldl_rep its k (acc ++ its), ← e, List.replicate_succ, List.foldl_cons]

section
variable {X : Cx} {pins : List (Addr × Obj)} {σ : St} {H : Hp} {s : Shared} {l b : Addr} {xs ys zs : List V}

/-! ### the two steps: a tracked list is rewritten, a new list is laid -/
theorem Inv.lset {its its' : List Value} {n : Nat} {f : Array Value → Array Value} {t' : Nat} (I : Inv X pins σ H s) (hH : H l = some (.lst xs))
    (e : s.heap.get? l = some { cls := .type "list", data := .seq its.toArray n }) (hf : f its.toArray = its'.toArray) (hv : Vals ys its') (hz : ys.length ≤ sizeLine) :
    Inv X pins σ (upd H l (.lst ys)) { s with heap := s.heap.update l (Obj.mapSeq f), toks := t' } := by
  have q := PySem.IsL.update e f
  rw [hf] at q
  refine I.write (x := l) (e := l) (by rw [hH]; exact trivial) (.inl rfl) (fun b' u hb hu => (Heap.get?_update_other s.heap (Obj.mapSeq f) (Ne.symm hb)).trans hu) ⟨_, q⟩ ?_
  exact ⟨hz, its', _, hv, q⟩
theorem Inv.lnew {its : List Value} {t' : Nat} (I : Inv X pins σ H s) (hv : Vals ys its) (hz : ys.length ≤ sizeLine) :
    Inv X pins σ (upd H s.heap.objs.size (.lst ys)) { s with heap := s.heap.push { cls := .type "list", data := .seq its.toArray }, toks := t' } :=
  I.laid (fun _ _ q => Heap.get?_push_of_some _ q) (Nat.le_refl _) ⟨hz, its, 0, hv, Heap.get?_push_size _ rfl⟩
theorem Inv.fresh (I : Inv X pins σ H s) : H s.heap.objs.size = none := I.hok.fresh (Nat.le_refl _)
theorem Inv.lstM (I : Inv X pins σ H s) (hH : H l = some (.lst xs)) : xs.length ≤ sizeLine ∧ ∃ (its : List Value) (n : Nat), Vals xs its ∧ xs.length = its.length ∧ s.heap.get? l = some { cls := .type "list", data := .seq its.toArray n } := by
  obtain ⟨z, its, n, r, e⟩ := I.hok l _ hH
  exact ⟨z, its, n, r, r.length, e⟩

theorem notLongL {n : Nat} (h : n ≤ sizeLine) : Builtin.List.listTooLong n = false := by
  unfold Builtin.List.listTooLong
  exact decide_eq_false (by omega)
end

section
variable {X : Cx}

/-! ### methods -/
def rAppend : V → List V → Hp → VK → Prop := fun x vs H Q => ∃ l xs y, x = .ref l ∧ vs = [y] ∧ H l = some (.lst xs) ∧ xs.length < sizeLine ∧ Q .non (upd H l (.lst (xs ++ [y])))
theorem mt_append : MtM X "list.append" rAppend := by
  intro pins s σ H x vs v us Q I rx rv h
  obtain ⟨l, xs, y, rfl, rfl, hH, hz, q⟩ := h
  cases rx
  obtain ⟨u, rfl, ru⟩ := rv.one
  obtain ⟨z, its, n, r, hl, e⟩ := I.lstM hH
  refine call_meets F.slot_list_append ⟨_, e, rfl⟩ F.entry_list_append (F.args_list_append_2 _ _) (PySem.list_append l its.toArray n u (by rw [List.size_toArray]; omega)) ⟨e, ?_⟩
  refine ⟨.non, _, I.lset (its' := its ++ [u]) hH e (by simp) (r.append (.cons ru .nil)) ?_, rfl, q⟩
  rw [List.length_append, List.length_singleton]
  omega

def rExtend : V → List V → Hp → VK → Prop := fun x vs H Q => ∃ l b xs zs, x = .ref l ∧ vs = [.ref b] ∧ H l = some (.lst xs) ∧ H b = some (.lst zs) ∧ xs.length + zs.length ≤ sizeLine ∧ Q .non (upd H l (.lst (xs ++ zs)))
theorem mt_extend : MtM X "list.extend" rExtend := by
  intro pins s σ H x vs v us Q I rx rv h
  obtain ⟨l, b, xs, zs, rfl, rfl, hH, hB, hz, q⟩ := h
  cases rx
  obtain ⟨u, rfl, ru⟩ := rv.one
  cases ru
  obtain ⟨z, its, n, r, hl, e⟩ := I.lstM hH
  obtain ⟨z2, its2, n2, r2, hl2, e2⟩ := I.lstM hB
  have hsz : its.toArray.size + its2.toArray.size ≤ sizeLine := by rw [List.size_toArray, List.size_toArray]; omega
  have hlong : ¬ (!its.toArray.isEmpty && Builtin.List.listTooLong (its.toArray.size + its2.toArray.size)) = true := by
    rw [notLongL hsz, Bool.and_false]
    exact Bool.false_ne_true
  refine call_meets F.slot_list_extend ⟨_, e, rfl⟩ F.entry_list_extend (F.args_list_extend_2 _ _)
    (AutoSeq1.list_extend_list_list_0 l its.toArray n b its2.toArray n2 hlong (by rw [List.size_toArray]; omega) (by omega)) ⟨e, e2, ?_⟩
  refine ⟨.non, _, I.lset (its' := its ++ its2) hH e (by simp) (r.append r2) ?_, rfl, q⟩
  rw [List.length_append]
  omega

/-! ### list + list, list += list, list * int -/
def rCat : R2 := fun x y H Q => ∃ l b xs zs, x = .ref l ∧ y = .ref b ∧ H l = some (.lst xs) ∧ H b = some (.lst zs) ∧ xs.length + zs.length ≤ sizeLine ∧ ∀ p, H p = none → Q (.ref p) (upd H p (.lst (xs ++ zs)))
theorem op_cat : OpR X (binaryOp .Add) rCat := by
  intro pins s σ H x y v u Q I rx ry h
  obtain ⟨l, b, xs, zs, rfl, rfl, hH, hB, hz, q⟩ := h
  cases rx
  cases ry
  obtain ⟨z, its, n, r, hl, e⟩ := I.lstM hH
  obtain ⟨z2, its2, n2, r2, hl2, e2⟩ := I.lstM hB
  refine PySem.P.add_list e e2 ?_ (by rw [List.size_toArray, List.size_toArray]; omega)
  have ea : its.toArray ++ its2.toArray = (its ++ its2).toArray := by simp
  rw [ea]
  exact ⟨.ref _, _, I.lnew (t' := s.toks) (r.append r2) (by rw [List.length_append]; omega), rfl, q _ I.fresh⟩
/-- a list times an int (a negative one is nothing) -/
def rRep : R2 := fun x y H Q => ∃ l k xs, x = .ref l ∧ y = .int k ∧ H l = some (.lst xs) ∧ -(2 ^ 63) ≤ k ∧ k < 2 ^ 63 ∧ xs.length * k.toNat ≤ sizeLine ∧
  ∀ p, H p = none → Q (.ref p) (upd H p (.lst (List.replicate k.toNat xs).flatten))
theorem len_rep {α : Type} (xs : List α) (k : Nat) : (List.replicate k xs).flatten.length = k * xs.length := by
  induction k with
  | zero => simp
  | succ k ih => rw [List.replicate_succ, List.flatten_cons, List.length_append, ih, Nat.succ_mul, Nat.add_comm]
theorem op_rep : OpR X (binaryOp .Mult) rRep := by
  intro pins s σ H x y v u Q I rx ry h
  obtain ⟨l, k, xs, rfl, rfl, hH, h1, h2, hz, q⟩ := h
  cases rx
  obtain ⟨t, rfl⟩ := ry
  obtain ⟨z, its, n, r, hl, e⟩ := I.lstM hH
  have hlen : its.toArray.size * k.toNat ≤ sizeLine := by rw [List.size_toArray, ← hl]; exact hz
  have hcap : ¬ its.toArray.size * k.toNat > (2 ^ 63 - 1) / 8 := by
    have : (sizeLine : Nat) ≤ (2 ^ 63 - 1) / 8 := by decide
    omega
  have hfit : ¬ (!Builtin.List.listFitsIndex k) = true := by
    rw [fitsIndex_both h1 h2]
    exact Bool.false_ne_true
  have hlong : ¬ Builtin.List.listTooLong (its.toArray.size * k.toNat) = true := by
    rw [notLongL hlen]
    exact Bool.false_ne_true
  have hnew : List.foldl (fun x1 x2 => x1 ++ x2) #[] (List.replicate (if its.toArray.isEmpty = true then 0 else k.toNat) its.toArray) = (List.replicate k.toNat its).flatten.toArray := by
    have f0 : ∀ m : Nat, List.foldl (fun x1 x2 => x1 ++ x2) #[] (List.replicate m its.toArray) = (List.replicate m its).flatten.toArray := fun m => by
      have := foldl_rep its m []
      rw [List.nil_append] at this
      exact this
    rw [f0]
    cases its with
    | nil => simp
    | cons a r' => rw [if_neg (by simp)]
  refine wpAny_binaryOp_repeat_ref (T := "list") (U := "int") (by decide) ⟨_, e, rfl⟩ (fun s' => typeIs_int s' k t) noFill_list_mul F.fills_int_mul F.slot_int_rmul repeat_list F.slot_int_index.lookup
    (call_meets F.slot_int_rmul (typeIs_int s k t) F.entry_int_rmul (F.args_int_rmul_2 _ _) (int___rmul___int_list k t l its.toArray n)
      ⟨e, rfl, ⟨_, e, rfl⟩, call_meets F.slot_list_mul ⟨_, e, rfl⟩ F.entry_list_mul (F.args_list_mul_2 _ _) (AutoListH.list___mul___list_int_3 l its.toArray n k t hfit hcap hlong) ⟨e, ?_⟩⟩)
  rw [hnew]
  exact ⟨.ref _, _, I.lnew (t' := s.toks) (r.rep k.toNat) (by rw [len_rep, Nat.mul_comm]; exact hz), rfl, q _ I.fresh⟩

/-! ### del xs[i] -/
end

/-! ### xs[a:b] = ys -/
section
variable {prog : Program} {w : World} {A : Around} {E : Value → Shared → Prop} {s : Shared}
end

section
variable {X : Cx}
end
end L2

namespace Att
open PySem PySem.W PySem.Calls PyProof.Rows

/-! ### the script -/
theorem ints_of_wellAll {P : Params} {h : Heap} : ∀ (ns : List Int) (vs : List Value), WellAll P h vs (ns.map WData.int) → IntsAre vs ns := by
  intro ns
  induction ns with
  | nil =>
    intro vs w
    rw [List.map_nil] at w
    cases w
    exact .nil
  | cons n ns ih =>
    intro vs w
    rw [List.map_cons] at w
    cases w with
    | cons a b =>
      cases a
      exact .cons _ _ (ih _ b)

theorem script_of {l : OpenLaw} {n : Nat} (hn : l.most = some n) {P : Params} {h : Heap} {args : List WData} {vals : List Value}
    (hpre : l.row.toRowW.claim.pre args = true) (hwl : WellAll P h vals args) :
    ∃ a vs ns, vals = [Value.ref a] ∧ args = [WData.list (ns.map WData.int)] ∧ h.get? a = some { cls := .type "list", data := .seq vs.toArray } ∧ IntsAre vs ns ∧ ns.length ≤ n := by
  have hsh : WShape.hasAll [] args [.list .int] = true := (pre_splitW hpre).1
  have hc : l.pre.holds [] { args := args } = true := (pre_splitW hpre).2
  obtain ⟨d, r, rfl, h1, h2⟩ := hasAllW_cons hsh
  obtain rfl := hasAllW_nil h2
  obtain ⟨xs, rfl, h3⟩ := hasW_list h1
  obtain ⟨ns, rfl⟩ := items_int h3
  have hlen : ns.length ≤ n := by
    unfold OpenLaw.pre at hc
    have h4 : (WTm.not (.lt (.lit (.int (n : Int))) (.len (.arg 0)))).holds [] { args := [.list (ns.map .int)] } = true := by
      have h4 := (holds_andW hc).1
      rw [hn] at h4
      exact h4
    have h5 := condW_of h4 (w_not (w_lt w_lit (w_len_list (w_arg rfl))))
    rw [List.length_map] at h5
    refine Nat.le_of_not_lt fun q => ?_
    have q' : (n : Int) < ((ns.length : Nat) : Int) := by omega
    first
      | (rw [decide_eq_true q'] at h5; exact absurd h5 (by decide))
      | (simp at h5; omega)
  cases hwl with
  | cons w1 w2 =>
    cases w2
    cases w1 with
    | list ho hall => exact ⟨_, _, ns, rfl, rfl, ho, ints_of_wellAll ns _ hall, hlen⟩

theorem post_true (l : OpenLaw) (args : List WData) : l.row.toRowW.claim.post args (.bool true) args = true :=
  postW_of (r := l.row.toRowW) (X := (true == true))
    (show WShape.has [] (.bool true) .bool = true by first | rfl | decide | simp [WShape.has, WShape.arms, WShape.armsAll])
    (show (WTm.eq .res (.lit (.bool true))).value [] { args := args, res := some (.bool true), after := args } = some (.bool (true == true)) from w_eq_bool (w_res rfl) w_lit) rfl

/-! ### the attachment: holds_open's last premise (the goal 'hc' behind k_head) from a wpAny of the law's body -/
/-- the same from a codeAny of the CALL (for a layer whose function contracts speak of calls) -/
theorem attach_call {l : OpenLaw} {n : Nat} {q : Program} {loose : List Str} {XP : (Str → Option Value) → Heap → Prop} {YP : World → Heap → Prop} {d : DefRec}
    (hn : l.most = some n) (hdf : d.params.defaults = [])
    (call : ∀ (w : World) (s₀ s₁ : Shared) (mg mb : Str → Option Value) (fa : Addr) (o : Obj) (pm cd doc : Value) (a : Addr) (vs : List Value) (ns : List Int),
      Ground q loose [] XP w s₀ mg mb s₁.heap → YP w s₁.heap →
      s₁.heap.get? fa = some o → o.data = .func (docDef d.name d.params d.body d.scope pm cd doc) → s₁.heap.CodeRec cd d.name → mg d.name = some (.ref fa) →
      s₁.heap.get? a = some { cls := .type "list", data := .seq vs.toArray } → IntsAre vs ns → ns.length ≤ n → s₁.gens = #[] →
      codeAny (model l.prog w) callerA (.call (.ref fa) ⟨[.ref a], []⟩) (fun r s' => r = .ok (.ret (.bool true)) ∧ OldK s₁.heap s'.heap ∧ s'.os = s₁.os ∧ AllBare s'.gens) s₁) :
    WalkO q loose XP YP l.row.toRowW d [] (fun f vs => PySem.call f vs) := by
  intro w s₀ s₁ mg mb G Y fa o pm cd doc dV kV ho hd hcd hD hmg hg args vals as hpre hlay hrd hwl hlo
  obtain rfl : dV = .none := Dflts.none hD hdf
  obtain rfl : kV = .none := Dflts.noKw hD
  obtain ⟨a, vs, ns, rfl, rfl, hobj, hints, hlen⟩ := script_of hn hpre hwl
  refine enter_call (codeAny_mono (call w s₀ s₁ mg mb fa o pm cd doc a vs ns G Y ho (fd_plain hd) hcd hmg hobj hints hlen hg) fun r s' hq => ?_)
  obtain ⟨rfl, h2, h3, h4⟩ := hq
  exact ⟨.inl ⟨.bool true, .bool true, [], rfl, fun _ => rfl, .bool true, post_true l _, fun _ => ⟨List.Pairwise.nil, fun _ hm => (nomatch hm)⟩⟩, h2, h3, h4⟩

/-! ### rules over ANY heap (no ledger) from facts about the written part K: the library's own take a ledger (News) for what they write -/
section
variable {prog : Program} {w : World} {A : Around} {E : Value → Shared → Prop} {s : Shared} {K : Frag}

/-! the whole heap as the ledger: makes every rule that writes through a ledger a rule over any heap -/
end
end Att

namespace L2
open PySem PySem.Spec PyProof.Rows

theorem vals_ints : ∀ {vs : List Value} {ns : List Int}, IntsAre vs ns → Vals (ns.map V.int) vs
  | _, _, .nil => .nil
  | _, _, .cons n t h => .cons ⟨t, rfl⟩ (vals_ints h)

/-- nothing is tracked but the script, known to the object (or it is an object of the module) -/
def Only (H : Hp) : Prop := ∀ b, H b = none ∨ ∃ o xs, H b = some (.frz o (.lst xs))

/-- THE HEAD: the law's promise, at the heap behind the top. F, the promise of the law's def, may use that base is part of the heap (so K.In base, base.Ns mainGlobals mg stand in Mod) -/
theorem law_call {P : Program} {w : World} {K : PySem.W.Frag} {mg mb : Str → Option Value} {CX : CXT} {k : Nat} {fa a : Addr} {fd : FuncData} {x : Str} {sp : Sp} {s₁ : Shared} {vs : List Value} {ns : List Int}
    (KX : K.In s₁.heap) (hns : s₁.heap.Ns mainGlobals mg) (hb : s₁.heap.Ns builtinsNs mb) (hbb : ∀ x : Str, x ≠ "__name__" → mb x = bootBuiltins x) (hlim : s₁.heap.NoLimit) (hg : s₁.gens = #[])
    (ha : s₁.heap.get? a = some { cls := .type "list", data := .seq vs.toArray }) (hi : IntsAre vs ns) (hl : ns.length ≤ sizeLine) (hr : Room k callerA)
    (F : ∀ base : Heap, K.In base → base.Ns mainGlobals mg → FnOk P w K mg base CX k fa fd [x] sp) (hbind : ∀ (s : Shared) (u : Value), BindsTo s fd ⟨[u], []⟩ [(x, u)])
    (hsp : ∀ H : Hp, Only H → SqL K H a (ns.map V.int) → sp [.ref a] H (fun v _ => v = .bl true) fun _ _ _ => False)
    (hCX : ∀ H e s', CX [] H s₁ (fun _ _ _ => False) e s' → False) :
    codeAny (model P w) callerA (.call (.ref fa) ⟨[.ref a], []⟩) (fun r s' => r = .ok (.ret (.bool true)) ∧ OldK s₁.heap s'.heap ∧ s'.os = s₁.os ∧ AllBare s'.gens) s₁ := by
  have rv := vals_ints hi
  have lenV := hi.length
  -- from an abstract heap in which nothing but the script may be tracked
  have core : ∀ H : Hp, Only H → SqL K H a (ns.map V.int) → HOk P w H s₁.heap → (∀ b, H b ≠ none → b = a) → (H a ≠ none → K.lookup a = none) →
      codeAny (model P w) callerA (.call (.ref fa) ⟨[.ref a], []⟩) (fun r s' => r = .ok (.ret (.bool true)) ∧ OldK s₁.heap s'.heap ∧ s'.os = s₁.os ∧ AllBare s'.gens) s₁ := by
    intro H hO hS hok hA hK
    have base_of : ∀ {b : Addr} {o : Obj}, s₁.heap.get? b = some o → H b = none → (hidT s₁.heap H).get? b = some o := fun e n => hidT_get e n
    have noA : ∀ {b : Addr} {o : Obj} {es : Array DictEntry} {ep : Nat}, s₁.heap.get? b = some o → o.data = .dict es ep → H b = none := fun {b o es ep} e d => by
      cases q : H b with
      | none => rfl
      | some u =>
        have e' : b = a := hA b (by rw [q]; simp)
        subst e'
        rw [ha] at e; cases e
        have d' : Data.seq vs.toArray _ = Data.dict es ep := d
        cases d'
    have nsK : ∀ {b : Addr} {m : Str → Option Value}, s₁.heap.Ns b m → (hidT s₁.heap H).Ns b m := fun {b m} ⟨o, es, ep, e, d, r⟩ => ⟨o, es, ep, base_of e (noA e d), d, r⟩
    have hKb : K.In (hidT s₁.heap H) := fun b o e => base_of (KX b o e) (by
      cases q : H b with
      | none => rfl
      | some u =>
        have e' : b = a := hA b (by rw [q]; simp)
        subst e'
        rw [hK (by rw [q]; simp)] at e; cases e)
    have hM : Mod K mg (hidT s₁.heap H) := ⟨hKb, nsK hns, ⟨mb, nsK hb, hbb⟩, let ⟨mc, h1, h2⟩ := hlim; ⟨mc, nsK h1, h2⟩⟩
    have e0 : Env0 P w K mg (hidT s₁.heap H) callerA [] s₁ H := ⟨rfl, hM, fun b o e => of_hidT e, Nat.le_of_eq (hidT_size _ _), trivial, fun b hb => absurd (show b ∈ ([] : List Addr) from hb) (by simp), hok, .of_eq hg⟩
    refine codeAny_mono ((F _ hKb (nsK hns)).run callerA [] s₁ H ⟨[.ref a], []⟩ [.ref a] [.ref a] _ _ hr e0 (hbind s₁ (.ref a)) (.cons rfl .nil) (hsp H hO hS)) fun r s' h => ?_
    cases r with
    | error e => exact (hCX H e s' h).elim
    | ok fl =>
      cases fl with
      | next => exact False.elim h
      | brk => exact False.elim h
      | cont => exact False.elim h
      | ret u =>
        obtain ⟨v, H', os, bare, un, hok', r', q⟩ := h
        have q' : v = .bl true := q
        subst q'
        obtain rfl : u = Value.bool true := r'
        refine ⟨rfl, OldK.of_keep fun b o e => ?_, os, bare⟩
        cases q : H b with
        | none => exact un.keep b o e q (by intro z; exact absurd (show b ∈ ([] : List Addr) from z) (by simp)) (by simp)
        | some u =>
          rcases hO b with z | ⟨ob, xs, z⟩
          · rw [q] at z; cases z
          · have z2 := un.frzs b ob _ z
            obtain ⟨e1, _⟩ := hok b _ z
            obtain ⟨e2, _⟩ := hok' b _ z2
            rw [e] at e1; cases e1
            exact e2
  cases hk : K.lookup a with
  | some o =>
    -- the script is one of the module's own objects
    have e := KX a o hk
    rw [ha] at e
    cases e
    refine core (fun _ => none) (fun _ => .inl rfl) (.inr ⟨_, vs.toArray, _, hk, rfl, rfl, rfl, by rw [List.size_toArray, lenV]; exact hl, by simpa using rv⟩) (fun b u z => by have z' : (none : Option HO) = some u := z; cases z') (fun b z => absurd rfl z) fun z => absurd rfl z
  | none =>
    refine core (fun b => if b = a then some (.frz { cls := .type "list", data := .seq vs.toArray } (.lst (ns.map V.int))) else none) (fun b => ?_) (.inl (.inr ⟨{ cls := .type "list", data := .seq vs.toArray }, if_pos rfl⟩)) (fun b u z => ?_) (fun b z => ?_) fun _ => hk
    · by_cases hb : b = a
      · exact .inr ⟨_, _, if_pos hb⟩
      · exact .inl (if_neg hb)
    · by_cases hb : b = a
      · have z' := (if_pos hb).symm.trans z
        cases z'
        subst hb
        exact ⟨ha, by rw [List.length_map]; exact hl, vs, _, rv, ha⟩
      · have z' := (if_neg hb).symm.trans z
        cases z'
    · by_cases hb : b = a
      · exact hb
      · exact absurd (if_neg hb) z
end L2

namespace L2
open PySem PySem.Spec PyProof.Rows

/-- the goal that k_head leaves (case hc), from the law's promise. F gives the function object fd (K's own) once, then the promise over every base -/
theorem walk_of {l : PySem.W.OpenLaw} {n k : Nat} {q : Program} {loose : List Str} {XP : (Str → Option Value) → Heap → Prop} {YP : World → Heap → Prop} {d : DefRec} {K : Params → PySem.W.Frag} {CX : World → CXT} {sp : World → Sp} {x : Str}
    (hn : l.most = some n) (hn2 : n ≤ sizeLine) (hdf : d.params.defaults = []) (hr : Room k callerA)
    (hY : ∀ (w : World) (h : Heap), YP w h → (K w.params).In h)
    (F : ∀ (w : World) (mg : Str → Option Value) (fa : Addr) (h : Heap), (K w.params).In h → h.Ns mainGlobals mg → mg d.name = some (.ref fa) →
      ∃ fd : FuncData, (∀ (s : Shared) (u : Value), BindsTo s fd ⟨[u], []⟩ [(x, u)]) ∧
        ∀ base : Heap, (K w.params).In base → base.Ns mainGlobals mg → FnOk l.prog w (K w.params) mg base (CX w) k fa fd [x] (sp w))
    (hsp : ∀ (w : World) (H : Hp) (a : Addr) (ns : List Int), ns.length ≤ n → Only H → SqL (K w.params) H a (ns.map V.int) → sp w [.ref a] H (fun v _ => v = .bl true) fun _ _ _ => False)
    (hCX : ∀ (w : World) (H : Hp) (s : Shared) (e : Value) (s' : Shared), CX w [] H s (fun _ _ _ => False) e s' → False) :
    PySem.W.WalkO q loose XP YP l.row.toRowW d [] (fun f vs => PySem.call f vs) := by
  refine Att.attach_call hn hdf fun w s₀ s₁ mg mb fa o pm cd doc a vs ns G Y ho hd hcd hmg hobj hints hlen hg => ?_
  have KX := hY w _ Y
  obtain ⟨fd, hb, hF⟩ := F w mg fa _ KX G.T.g hmg
  exact law_call KX G.T.g G.T.b G.T.builtins G.T.nolimit hg hobj hints (Nat.le_trans hlen hn2) hr hF hb (fun H hO hS => hsp w H a ns hlen hO hS) fun H e s' => hCX w H s₁ e s'
end L2

/- THE LAST THEOREM (shape; LID, My.* are yours):
   My.Adr: a structure of the addresses that your layer names (classes, functions); My.Txt K t: a structure (Prop) of the equations over K;
   My.txt_mk : {K} {implicit addresses ..} (e1 : nsIn K mainGlobals "law" = some (some (.ref f))) (e2 : K.lookup f = some ⟨oc, od, .func (fnOf "law" "law" params body scope dV kV doc pm an cdv ct), sl⟩) (e3 : codeIn K cdv "law" = true) .. : ∃ t, My.Txt K t

set_option maxRecDepth 100000 in
set_option maxHeartbeats 0 in
theorem PySem.Challenge.cw_LID_holds : PySem.Challenge.rw_LID.Holds := by
  w_on; o_law; k_head; (case hw => w_witness2)
  k_fill
  refine L2.walk_of (l := PySem.Challenge.rw_LID) (n := 63) (k := 40) (x := "script") (CX := fun w => ..) (sp := fun _ => My.sp_law) rfl (by decide) rfl ⟨rfl, by decide, by decide⟩ (fun w h Y => PySem.W.kIn_of Y) ?F ?S ?C
  case F =>
    intro w mg fa h KX G hmg
    have T : ∃ t, My.Txt (L2.KOf KX) t := by
      dsimp only [L2.KOf]                          -- K must stand as «<heap const> w.params» for k_is
      refine' My.txt_mk ?e1 ?e2 ?e3 ..
      (case e1 => PySem.W.k_is)                    -- in the order: a name -> its address -> its object -> its parts
      (case e2 => PySem.W.k_is)
      ..
    obtain ⟨t, T⟩ := T
    have e0 := hmg.symm.trans (PySem.W.mg_of KX G T.law)
    cases e0                                       -- fa is the law's own address
    exact ⟨_, fun s u => .of_eq rfl, fun base kb nb => My.law_fn T kb nb⟩     -- if «.of_eq rfl» comes too early: refine' ⟨_, ?b, fun base kb nb => My.law_fn T kb nb⟩; exact fun s u => .of_eq rfl
  case S => exact fun w H a ns hl hO hS => ..
  case C => exact ..
(the tactic k_is has no namespace: write k_is) -/

/-! SHORT WORDS over the layer: a def of the text, its body, what a loop and a test want. -/
namespace L2
open PySem PySem.Spec PyProof.Rows

/-! ### the text by places -/
def defArgs (s : Stmt) : Arguments := match s with
  | .FunctionDef _ a _ _ _ _ _ _ _ _ => a
  | _ => { posonlyargs := [], args := [], vararg := none, kwonlyargs := [], kw_defaults := [], kwarg := none, defaults := [] }
def defBody (s : Stmt) : List Stmt := match s with
  | .FunctionDef _ _ b _ _ _ _ _ _ _ => b
  | _ => []
def defScope (s : Stmt) : Scope := match s with
  | .FunctionDef _ _ _ _ _ _ sc _ _ _ => sc
  | _ => { kind := .function, names := [], isGenerator := false, isCoroutine := false }

/-! ### no exception leaves a def -/
abbrev E0 : XK := fun _ _ _ => False
/-! ### a def (or method) of the text as it stands behind the top -/
structure Fun (K : PySem.W.Frag) (x qual : Str) (st : Stmt) (f : Addr) (fd : FuncData) : Prop where
  ex : ∃ (oc : Value) (od : Option Addr) (kV doc pm : Value) (an : Option Addr) (cdv ct : Value) (osl : Array (Option Value)),
    fd = PySem.W.fnOf x qual (defArgs st) (defBody st) (defScope st) .none kV doc pm an cdv ct ∧ K.lookup f = some ⟨oc, od, .func fd, osl⟩ ∧ PySem.W.codeIn K cdv qual = true
  kp : PySem.W.keepIn K (.ref f) = true
section
variable {P : Program} {w : World} {K : PySem.W.Frag} {mg : Str → Option Value} {base : Heap}
/-- how its arguments bind (no defaults): h is «fun _ _ _ _ _ _ us hl => match us, hl with | [_, _], _ => rfl», one _ a parameter -/
theorem Fun.binds {x qual : Str} {st : Stmt} {f : Addr} {fd : FuncData} {ps : List Str} (F : Fun K x qual st f fd)
    (h : ∀ (kV doc pm : Value) (an : Option Addr) (cdv ct : Value) (us : List Value), us.length = ps.length → bindArgs (PySem.W.fnOf x qual (defArgs st) (defBody st) (defScope st) .none kV doc pm an cdv ct) ⟨us, []⟩ = pure (ps.zip us)) : Binds K fd ps [] := by
  obtain ⟨oc, od, kV, doc, pm, an, cdv, ct, osl, rfl, lk, hcd⟩ := F.ex
  exact .all (h kV doc pm an cdv ct)
theorem fun_mk {x qual : Str} {st : Stmt} {f : Addr} {oc : Value} {od an : Option Addr} {osl : Array (Option Value)} {kV doc pm cdv ct : Value} (l : K.lookup f = some ⟨oc, od, .func (PySem.W.fnOf x qual (defArgs st) (defBody st) (defScope st) .none kV doc pm an cdv ct), osl⟩)
    (c : PySem.W.codeIn K cdv qual = true) (k : PySem.W.keepIn K (.ref f) = true) : Fun K x qual st f (PySem.W.fnOf x qual (defArgs st) (defBody st) (defScope st) .none kV doc pm an cdv ct) := ⟨⟨oc, od, kV, doc, pm, an, cdv, ct, osl, rfl, l, c⟩, k⟩
end
theorem hu_of {A : Around} {k : Nat} (hr : Room k A) : A.units + 1 < cLine := Nat.lt_of_le_of_lt (Nat.add_le_add_left (by decide : 1 ≤ 64) _) hr.units
/-! ### expressions in short: the name that stands in the i-th slot -/
section
variable {X : Cx}
theorem pv (i : Nat) {x : Str} {pos : Pos} (hN : X.N[i]? = some x := by rfl) (hv : Vis X.env.scope x := by first | exact Or.inl rfl | exact Or.inr (Or.inl rfl) | exact Or.inr (Or.inr rfl)) (hd : (x == ("__debug__" : Str)) = false := by decide)
    (hcd : (x == ("__classdict__" : Str)) = false := by decide) : PE X (.Name x pos) (tVar i) := pe_var hN hv hd hcd
end

/-! ### tests -/
theorem iteF {A B : Prop} (h : B) : if false = true then A else B := by
  rw [if_neg Bool.false_ne_true]
  exact h
theorem iteT {A B : Prop} (h : A) : if true = true then A else B := by
  rw [if_pos rfl]
  exact h
theorem ite2 {c A B : Prop} [Decidable c] (h1 : c → A) (h2 : ¬ c → B) : if c then A else B := by
  by_cases h : c
  · rw [if_pos h]
    exact h1 h
  · rw [if_neg h]
    exact h2 h
/-! ### heaps -/
/-- all that was tracked is as it was -/
def Same (H H' : Hp) : Prop := ∀ b o, H b = some o → H' b = some o
theorem Same.refl (H : Hp) : Same H H := fun _ _ h => h
theorem Same.trans {H H1 H2 : Hp} (a : Same H H1) (b : Same H1 H2) : Same H H2 := fun c o h => b c o (a c o h)
theorem Same.free {H H' : Hp} (e : Same H H') {l : Addr} (h : H' l = Option.none) : H l = Option.none := by
  cases q : H l with
  | none => rfl
  | some o =>
    rw [e l o q] at h
    cases h
end L2
set_option Elab.async false
set_option linter.all false
set_option maxRecDepth 100000
/-! Plain data over the hand layer: what a value stands for (a tree of ints, texts, None, bools, lists, tuples), == of such, isinstance of such. -/
namespace L2
open PySem PySem.Spec PyProof.Rows

mutual
/-- the value v stands for the data d -/
inductive Rep (H : Hp) : V → PyData → Prop
  | non : Rep H .non .none
  | bl (b : Bool) : Rep H (.bl b) (.bool b)
  | int (i : Int) : Rep H (.int i) (.int i)
  | str (x : Str) : Rep H (.str x) (.str x)
  | lst {a : Addr} {vs : List V} {ds : List PyData} : H a = some (.lst vs) → Reps H vs ds → Rep H (.ref a) (.list ds)
  | tup {a : Addr} {vs : List V} {ds : List PyData} : H a = some (.tup vs) → Reps H vs ds → Rep H (.ref a) (.tuple ds)
inductive Reps (H : Hp) : List V → List PyData → Prop
  | nil : Reps H [] []
  | cons {v : V} {vs : List V} {d : PyData} {ds : List PyData} : Rep H v d → Reps H vs ds → Reps H (v :: vs) (d :: ds)
end

mutual
theorem Rep.mono {H H' : Hp} (e : Same H H') : ∀ {v : V} {d : PyData}, Rep H v d → Rep H' v d
  | _, _, .non => .non
  | _, _, .bl b => .bl b
  | _, _, .int i => .int i
  | _, _, .str x => .str x
  | _, _, .lst h r => .lst (e _ _ h) (Reps.mono e r)
  | _, _, .tup h r => .tup (e _ _ h) (Reps.mono e r)
theorem Reps.mono {H H' : Hp} (e : Same H H') : ∀ {vs : List V} {ds : List PyData}, Reps H vs ds → Reps H' vs ds
  | _, _, .nil => .nil
  | _, _, .cons r rs => .cons (Rep.mono e r) (Reps.mono e rs)
end

/-- no list within -/
def immut : PyData → Bool
  | .none => true
  | .bool _ => true
  | .int _ => true
  | .str _ => true
  | .list _ => false
  | .tuple ds => all ds
  | .dict _ => false
where all : List PyData → Bool
  | [] => true
  | d :: ds => immut d && all ds

/-- the tuples stand -/
def TSame (H H' : Hp) : Prop := ∀ b xs, H b = some (.tup xs) → H' b = some (.tup xs)
theorem Same.ts {H H' : Hp} (e : Same H H') : TSame H H' := fun b xs h => e b _ h
theorem TSame.trans {H H1 H2 : Hp} (a : TSame H H1) (b : TSame H1 H2) : TSame H H2 := fun c xs h => b c xs (a c xs h)
theorem TSame.lst {H : Hp} {p : Addr} {xs : List V} (h : H p = some (.lst xs)) (o : HO) : TSame H (upd H p o) := fun b ys q => by rw [upd_ne (ne_of q h (by intro z; cases z))]; exact q
theorem same_new {H : Hp} {p : Addr} (h : H p = none) (o : HO) : Same H (upd H p o) := fun b u q => by rw [upd_ne (ne_of_none q h)]; exact q
/-- what is new may be written -/
theorem Same.write {H H' : Hp} (e : Same H H') {p : Addr} (h : H p = none) (o : HO) : Same H (upd H' p o) := fun b u q => by rw [upd_ne (ne_of_none q h)]; exact e b u q

mutual
theorem Rep.tmono {H H' : Hp} (e : TSame H H') : ∀ {v : V} {d : PyData}, immut d = true → Rep H v d → Rep H' v d
  | _, _, _, .non => .non
  | _, _, _, .bl b => .bl b
  | _, _, _, .int i => .int i
  | _, _, _, .str x => .str x
  | _, _, h, .lst _ _ => by simp [immut] at h
  | _, _, h, .tup q r => .tup (e _ _ q) (Reps.tmono e (by simpa [immut] using h) r)
theorem Reps.tmono {H H' : Hp} (e : TSame H H') : ∀ {vs : List V} {ds : List PyData}, immut.all ds = true → Reps H vs ds → Reps H' vs ds
  | _, _, _, .nil => .nil
  | _, d :: ds, h, .cons r rs => by
    have h' : immut d = true ∧ immut.all ds = true := by simpa [immut.all] using h
    exact .cons (Rep.tmono e h'.1 r) (Reps.tmono e h'.2 rs)
end

section
variable {H : Hp}
theorem Rep.int_inv {v : V} {i : Int} (r : Rep H v (.int i)) : v = .int i := by cases r; rfl
theorem Rep.tup_inv {v : V} {ds : List PyData} (r : Rep H v (.tuple ds)) : ∃ a vs, v = .ref a ∧ H a = some (.tup vs) ∧ Reps H vs ds := by
  cases r with | tup h q => exact ⟨_, _, rfl, h, q⟩
theorem Reps.length : ∀ {vs : List V} {ds : List PyData}, Reps H vs ds → vs.length = ds.length
  | _, _, .nil => rfl
  | _, _, .cons _ r => congrArg (· + 1) (Reps.length r)
theorem Reps.get : ∀ {vs : List V} {ds : List PyData} {i : Nat} {d : PyData}, Reps H vs ds → ds[i]? = some d → ∃ v, vs[i]? = some v ∧ Rep H v d
  | _, _, _, _, .nil, e => by simp at e
  | _, _, 0, _, .cons r _, e => by
    have e' := Option.some.inj (show some _ = some _ from e)
    subst e'
    exact ⟨_, rfl, r⟩
  | _, _, i + 1, d, .cons _ t, e => by
    obtain ⟨v, h1, h2⟩ := Reps.get (i := i) (d := d) t (by simpa using e)
    exact ⟨v, by simpa using h1, h2⟩
theorem Reps.get' : ∀ {vs : List V} {ds : List PyData} {i : Nat} {v : V}, Reps H vs ds → vs[i]? = some v → ∃ d, ds[i]? = some d ∧ Rep H v d
  | _, _, _, _, .nil, e => by simp at e
  | _, _, 0, _, .cons r _, e => by
    have e' := Option.some.inj (show some _ = some _ from e)
    subst e'
    exact ⟨_, rfl, r⟩
  | _, _, i + 1, v, .cons _ t, e => by
    obtain ⟨d, h1, h2⟩ := Reps.get' (i := i) (v := v) t (by simpa using e)
    exact ⟨d, by simpa using h1, h2⟩
theorem Reps.append : ∀ {vs us : List V} {ds es : List PyData}, Reps H vs ds → Reps H us es → Reps H (vs ++ us) (ds ++ es)
  | _, _, _, _, .nil, q => q
  | _, _, _, _, .cons r rs, q => .cons r (Reps.append rs q)
theorem Reps.one {v : V} {d : PyData} (r : Rep H v d) : Reps H [v] [d] := .cons r .nil
theorem Reps.ints : ∀ {ns : List Int}, Reps H (ns.map V.int) (ns.map PyData.int)
  | [] => .nil
  | n :: r => .cons (.int n) (Reps.ints (ns := r))
theorem Reps.ints_inv : ∀ {vs : List V} {ns : List Int}, Reps H vs (ns.map PyData.int) → vs = ns.map V.int
  | _, [], r => by cases r; rfl
  | _, n :: ns, r => by
    cases r with
    | cons q t => rw [Rep.int_inv q, Reps.ints_inv (ns := ns) t]; rfl
end

mutual
theorem Rep.reads {P : Program} {w : World} {H : Hp} {h : Heap} (ok : HOk P w H h) : ∀ {v : V} {d : PyData} {u : Value}, Rep H v d → RelV v u → ∃ as, Reads h u d as
  | _, _, _, .non, q => by cases (show _ = Value.none from q); exact ⟨_, .none⟩
  | _, _, _, .bl b, q => by cases (show _ = Value.bool b from q); exact ⟨_, .bool b⟩
  | _, _, _, .int i, q => by obtain ⟨t, e⟩ := q; cases e; exact ⟨_, .int i t⟩
  | _, _, _, .str x, q => by obtain ⟨t, e⟩ := q; cases e; exact ⟨_, .str x t⟩
  | _, _, _, .lst (a := a) (vs := vs) e r, q => by
    cases (show _ = Value.ref a from q)
    obtain ⟨_, its, n, rv, ho⟩ := (show ObjOk P w H h a (.lst vs) from ok a _ e)
    obtain ⟨as, z⟩ := Reps.reads ok r rv
    exact ⟨_, .list ho rfl rfl (by simpa using z)⟩
  | _, _, _, .tup (a := a) (vs := vs) e r, q => by
    cases (show _ = Value.ref a from q)
    obtain ⟨_, its, rv, o, ho, hc, _, n, hd⟩ := (show ObjOk P w H h a (.tup vs) from ok a _ e)
    obtain ⟨as, z⟩ := Reps.reads ok r rv
    exact ⟨_, .tuple ho hc hd (by simpa using z)⟩
theorem Reps.reads {P : Program} {w : World} {H : Hp} {h : Heap} (ok : HOk P w H h) : ∀ {vs : List V} {ds : List PyData} {us : List Value}, Reps H vs ds → Vals vs us → ∃ as, ReadsAll h us ds as
  | _, _, _, .nil, q => by cases q; exact ⟨_, .nil⟩
  | _, _, _, .cons r rs, q => by
    cases q with
    | cons q qs =>
      obtain ⟨as, z⟩ := Rep.reads ok r q
      obtain ⟨bs, zs⟩ := Reps.reads ok rs qs
      exact ⟨_, .cons z zs⟩
end

/-! ### == and != of data -/
def rEqD : R2 := fun x y H Q => ∃ d e, Rep H x d ∧ Rep H y e ∧ SeqAt.shaped d = true ∧ SeqAt.shaped e = true ∧ Q (.bl (PyData.eqv d e)) H
def rNeD : R2 := fun x y H Q => ∃ d e, Rep H x d ∧ Rep H y e ∧ SeqAt.shaped d = true ∧ SeqAt.shaped e = true ∧ Q (.bl (!PyData.eqv d e)) H
section
variable {X : Cx}
theorem op_eqD (hu : X.A.units + 64 < cLine) : OpR X (compareOp .Eq) rEqD := by
  intro pins s σ H x y v u Q I rx ry h
  obtain ⟨d, e, hd, he, sd, se, q⟩ := h
  obtain ⟨as, za⟩ := hd.reads I.hok rx
  obtain ⟨bs, zb⟩ := he.reads I.hok ry
  exact eq_dataH za zb sd se hu ⟨.bl (PyData.eqv d e), H, I, rfl, q⟩
theorem op_neD (hu : X.A.units + 64 < cLine) : OpR X (compareOp .NotEq) rNeD := by
  intro pins s σ H x y v u Q I rx ry h
  obtain ⟨d, e, hd, he, sd, se, q⟩ := h
  obtain ⟨as, za⟩ := hd.reads I.hok rx
  obtain ⟨bs, zb⟩ := he.reads I.hok ry
  exact ne_dataH za zb sd se hu ⟨.bl (!PyData.eqv d e), H, I, rfl, q⟩

/-! ### isinstance(x, a built-in type) -/
/-- the type's name of a data -/
def tyD : PyData → String
  | .none => "NoneType"
  | .bool _ => "bool"
  | .int _ => "int"
  | .str _ => "str"
  | .list _ => "list"
  | .tuple _ => "tuple"
  | .dict _ => "dict"
theorem Rep.ty {K : PySem.W.Frag} {H : Hp} {v : V} {d : PyData} (r : Rep H v d) : TyOf K H v (.type (tyD d)) := by
  cases r with
  | non => exact .non
  | bl b => exact .bl b
  | int i => exact .int i
  | str x => exact .str x
  | lst h _ => exact .lst h
  | tup h _ => exact .tup h
/-- is a data of that type (for int: bools are) -/
def isIntD : PyData → Bool
  | .int _ => true
  | .bool _ => true
  | _ => false
def isBoolD : PyData → Bool
  | .bool _ => true
  | _ => false
def isStrD : PyData → Bool
  | .str _ => true
  | _ => false
def isTupD : PyData → Bool
  | .tuple _ => true
  | _ => false
theorem kit_int (K : PySem.W.Frag) (d : PyData) (hd : ∀ kvs, d ≠ .dict kvs) : PySem.W.kitOne K (.type (tyD d)) (.type "int") = some (isIntD d) := by
  cases d <;> first | exact absurd rfl (hd _) | (with_unfolding_all rfl)
theorem kit_bool (K : PySem.W.Frag) (d : PyData) (hd : ∀ kvs, d ≠ .dict kvs) : PySem.W.kitOne K (.type (tyD d)) (.type "bool") = some (isBoolD d) := by
  cases d <;> first | exact absurd rfl (hd _) | (with_unfolding_all rfl)
theorem kit_str (K : PySem.W.Frag) (d : PyData) (hd : ∀ kvs, d ≠ .dict kvs) : PySem.W.kitOne K (.type (tyD d)) (.type "str") = some (isStrD d) := by
  cases d <;> first | exact absurd rfl (hd _) | (with_unfolding_all rfl)
theorem kit_tuple (K : PySem.W.Frag) (d : PyData) (hd : ∀ kvs, d ≠ .dict kvs) : PySem.W.kitOne K (.type (tyD d)) (.type "tuple") = some (isTupD d) := by
  cases d <;> first | exact absurd rfl (hd _) | (with_unfolding_all rfl)
theorem Rep.nodict {H : Hp} {v : V} {d : PyData} (r : Rep H v d) : ∀ kvs, d ≠ .dict kvs := fun kvs z => by subst z; cases r
def rIsi (c : String) (f : PyData → Bool) : List V → Hp → VK → Prop := fun xs H Q => ∃ x d, xs = [x, .ty c] ∧ Rep H x d ∧ Q (.bl (f d)) H
theorem call_isi {c : String} {f : PyData → Bool} (kit : ∀ (K : PySem.W.Frag) (d : PyData), (∀ kvs, d ≠ .dict kvs) → PySem.W.kitOne K (.type (tyD d)) (.type c) = some (f d)) : CallR X (.builtin "isinstance") (rIsi c f) := by
  intro pins s σ H xs us Q I rs h
  obtain ⟨x, d, e, hd, q⟩ := h
  subst e
  obtain ⟨u, w', rfl, ru, rw'⟩ := Vals.two rs
  cases (show w' = Value.type c from rw')
  exact isinst_ok I ru hd.ty (kit X.K d hd.nodict) fun tk => ⟨.bl (f d), H, I.tok tk, rfl, q⟩
end
end L2
set_option Elab.async false
set_option linter.all false
set_option maxRecDepth 100000
/-! A list comprehension with one `for` and at most one `if`, over the hand layer. -/
namespace L2
open PySem PySem.Spec PyProof.Rows

/-! ### the tests of a clause -/
def PF (X : Cx) (ifs : List Expr) (t : TT) : Prop :=
  ∀ (pins : List (Addr × Obj)) (s : Shared) (σ : St) (H : Hp) (Q : Bool → Hp → Prop), Inv X pins σ H s → t σ H Q →
    wpAny (model X.prog X.w) X.A (forIn ifs true fun c r => if r = true then do let ok ← isTrue c X.env (eval c X.env); pure (ForInStep.yield ok) else pure (ForInStep.yield r)) (TP X pins σ Q) X.xe s
theorem pf_nil {X : Cx} : PF X [] (fun _ H Q => Q true H) := fun pins s σ H Q I h => wpAny_tests_nil ⟨H, I, h⟩
/-! ### the loop of a comprehension, any target -/
section
variable {prog : Program} {w : World} {A : Around} {R : Result → Shared → Prop} {s : Shared}
theorem compLoop_any {elt target iter : Expr} {ifs : List Expr} {scope : Scope} {pos : Pos} {it acc : Value} {env : Env} (I : Nat → Shared → Prop)
    (turn : ∀ n s, I n s → wpAny (model prog w) A (pyNext it) (fun r s₁ => match r with
      | none => R (.ok .next) s₁
      | some v => wpAny (model prog w) A (letOwnedTupleGo target it v) (fun _ s₀ => wpAny (model prog w) A (assign target env v) (fun _ s₂ =>
          wpAny (model prog w) A (forIn ifs true fun c r => if r = true then do let ok ← isTrue c env (eval c env); pure (ForInStep.yield ok) else pure (ForInStep.yield r)) (fun ok s₃ =>
            if ok = true then wpAny (model prog w) A (eval elt env) (fun x s₄ =>
              wpAny (model prog w) A (call (.builtin "list.append") [acc, x]) (fun _ s₅ => ∃ m, m < n ∧ I m s₅) (fun _ _ => False) s₄) (fun _ _ => False) s₃
            else ∃ m, m < n ∧ I m s₃) (fun _ _ => False) s₂) (fun _ _ => False) s₀) (fun _ _ => False) s₁) (fun _ _ => False) s)
    (n : Nat) (h : I n s) :
    codeAny (model prog w) A (.compLoop (.ListComp elt [⟨target, iter, ifs, 0⟩] scope pos) 0 it acc env) R s := by
  refine codeAny_loop rfl I (fun n s hI => ?_) n h
  show wpAny _ A ((compTurn (.ListComp elt [⟨target, iter, ifs, 0⟩] scope pos) 0 it acc env).onRaise (fun x => do noteFrame x env; theTreesLotGoes x)) _ _ s
  refine wpAny_noted ?_
  rw [compTurn_list]
  refine wpAny_bind (wpAny_standAt (wpAny_bind (wpAny_mono (turn n s hI) (fun r s₁ h₁ => ?_) fun _ _ f => f.elim)))
  cases r with
  | none => exact wpAny_pure h₁
  | some v =>
    refine wpAny_bind (wpAny_mono h₁ (fun _ s₀ h₀ => ?_) fun _ _ f => f.elim)
    refine wpAny_bind (wpAny_mono h₀ (fun _ s₂ h₂ => wpAny_bind (wpAny_mono h₂ (fun ok s₃ h₃ => ?_) fun _ _ f => f.elim)) fun _ _ f => f.elim)
    cases ok with
    | false => exact wpAny_pure ⟨rfl, h₃⟩
    | true =>
      exact wpAny_bind (wpAny_bind (wpAny_mono h₃ (fun x s₄ h₄ => wpAny_bind (wpAny_mono h₄ (fun _ s₅ h₅ => wpAny_pure (wpAny_pure ⟨rfl, h₅⟩)) fun _ _ f => f.elim)) fun _ _ f => f.elim))
end

/-! ### the block's context -/
/-- the closure of a block: its free names with the cells of the frame around it -/
def closOf (scope : Scope) (env : Env) : List (Str × Addr) :=
  ((scope.names.filter fun x => x.2 == .free).reverse).map fun x => (x.1, (env.cells.lookup x.1).getD 0)

/-- the context of a comprehension's block: entered at s₂, H₂, its frame at C, its iterator's records fp -/
def blk (X : Cx) (scope : Scope) (NB : List Str) (C : Addr) (s₂ : Shared) (H₂ : Hp) (fp : List Addr) : Cx where
  prog := X.prog
  w := X.w
  K := X.K
  mg := X.mg
  base := X.base
  A := X.A
  N := NB
  s₀ := s₂
  H₀ := H₂
  env := compEnvC scope (closOf scope X.env) C X.env
  outer := X.stack
  stack := X.stack
  ex := fp
  fn := fun _ => false
  calm := X.calm
  pn := []
  xe := fun _ _ => False

/-- the block's slots at its entry: some j: the outer slot j (a free name), none: its own -/
def tau (js : List (Option Nat)) (σ : St) : St := js.map fun o => match o with
  | some j => (match σ[j]? with | some v => v | none => none)
  | none => none

/-- what is asked of the names: NB the block's own names and its free ones, js where the free ones stand outside -/
structure BlkOk (X : Cx) (scope : Scope) (NB : List Str) (js : List (Option Nat)) : Prop where
  kind : scope.kind = .function
  nd : NB.Nodup
  len : js.length = NB.length
  nocell : ∀ y ∈ scope.names, y.2 ≠ .cell
  locs : ∀ y ∈ scope.names, y.2 = .local → scope.names.lookup y.1 = some .local
  clos : closureFor scope X.env = pure (closOf scope X.env)
  there : ∀ y ∈ scope.names, y.2 = .free → ∃ c, X.env.cells.lookup y.1 = some c
  outer : ∀ (i j : Nat), js[i]? = some (some j) → ∃ x, NB[i]? = some x ∧ X.N[j]? = some x ∧ (x, NameKind.free) ∈ scope.names ∧ Vis X.env.scope x ∧ X.env.scope.names.lookup x ≠ some .local
  inner : ∀ (i : Nat) (x : Str), NB[i]? = some x → (x, NameKind.free) ∈ scope.names → Vis (relabel scope X.env) x → (relabel scope X.env).names.lookup x ≠ some .local

/-- the same by looks at the text -/
def outerOk (X : Cx) (scope : Scope) (NB : List Str) (js : List (Option Nat)) : Bool := (js.zip NB).all fun p => match p.1 with
  | none => true
  | some j => X.N[j]? == some p.2 && scope.names.any (fun y => y.1 == p.2 && y.2 == .free) && (X.env.scope.names.lookup p.2 == some .cell || X.env.scope.names.lookup p.2 == some .free)
def innerOk (X : Cx) (scope : Scope) (NB : List Str) : Bool := NB.all fun x => !(scope.names.any fun y => y.1 == x && y.2 == .free) || ((relabel scope X.env).names.lookup x != some .local)
theorem any_free {l : List (Str × NameKind)} {x : Str} : (l.any fun y => y.1 == x && y.2 == NameKind.free) = true ↔ (x, NameKind.free) ∈ l := by
  rw [List.any_eq_true]
  constructor
  · rintro ⟨⟨n, k⟩, hy, e⟩
    simp only [Bool.and_eq_true, beq_iff_eq] at e
    obtain ⟨rfl, rfl⟩ := e
    exact hy
  · intro h
    exact ⟨_, h, by simp⟩
theorem blkOk_of {X : Cx} {scope : Scope} {NB : List Str} {js : List (Option Nat)} (kind : scope.kind = .function) (nd : NB.Nodup) (len : js.length = NB.length) (nocell : ∀ y ∈ scope.names, y.2 ≠ .cell) (locs : ∀ y ∈ scope.names, y.2 = .local → scope.names.lookup y.1 = some .local)
    (clos : closureFor scope X.env = pure (closOf scope X.env)) (there : (scope.names.all fun y => y.2 != .free || (X.env.cells.lookup y.1).isSome) = true) (outer : outerOk X scope NB js = true) (inner : innerOk X scope NB = true) : BlkOk X scope NB js := by
  refine ⟨kind, nd, len, nocell, locs, clos, fun y hy hf => ?_, fun i j e => ?_, fun i x e hm _ => ?_⟩
  · have := List.all_eq_true.mp there y hy
    rw [hf] at this
    exact Option.isSome_iff_exists.mp (by simpa using this)
  · have hi : i < js.length := (List.getElem?_eq_some_iff.mp e).1
    have hx : NB[i]? = some (NB[i]'(by omega)) := List.getElem?_eq_getElem (by omega)
    have hz : (js.zip NB)[i]? = some (some j, NB[i]'(by omega)) := by rw [List.getElem?_zip_eq_some]; exact ⟨e, hx⟩
    have := List.all_eq_true.mp outer _ (List.mem_of_getElem? hz)
    dsimp only at this
    simp only [Bool.and_eq_true, Bool.or_eq_true, beq_iff_eq] at this
    obtain ⟨⟨h1, h2⟩, h3⟩ := this
    refine ⟨_, hx, h1, any_free.mp h2, ?_, ?_⟩
    · rcases h3 with h3 | h3
      · exact .inr (.inl h3)
      · exact .inr (.inr h3)
    · rcases h3 with h3 | h3 <;> rw [h3] <;> decide
  · have := List.all_eq_true.mp inner x (List.mem_of_getElem? e)
    rw [any_free.mpr hm] at this
    simpa using this

theorem mem_closOf {scope : Scope} {env : Env} {x : Str} {c : Addr} (ht : ∀ y ∈ scope.names, y.2 = .free → ∃ c, env.cells.lookup y.1 = some c) (h : (closOf scope env).lookup x = some c) : env.cells.lookup x = some c ∧ (x, NameKind.free) ∈ scope.names := by
  have m := PySem.mem_of_lookup h
  unfold closOf at m
  obtain ⟨y, hy, e⟩ := List.mem_map.mp m
  have hy' := List.mem_filter.mp (List.mem_reverse.mp hy)
  obtain ⟨n, k⟩ := y
  have hk : k = .free := by simpa using hy'.2
  subst hk
  obtain ⟨c', ec⟩ := ht _ hy'.1 rfl
  have e1 : n = x := congrArg Prod.fst e
  have e2 : (env.cells.lookup n).getD 0 = c := congrArg Prod.snd e
  subst e1
  have ec' : env.cells.lookup n = some c' := ec
  rw [ec'] at e2
  have e3 : c' = c := e2
  subst e3
  exact ⟨ec', hy'.1⟩
theorem lookup_of_mem {β : Type} {x : Str} : ∀ {l : List (Str × β)} {b : β}, (x, b) ∈ l → ∃ c, l.lookup x = some c
  | (n, b') :: r, b, h => by
    rw [List.lookup_cons]
    cases e : x == n with
    | true => exact ⟨b', rfl⟩
    | false =>
      rcases List.mem_cons.mp h with q | q
      · have : x = n := congrArg Prod.fst q
        subst this
        simp at e
      · exact lookup_of_mem q
theorem closOf_has {scope : Scope} {env : Env} {x : Str} (h : (x, NameKind.free) ∈ scope.names) : ∃ c, (closOf scope env).lookup x = some c := by
  refine lookup_of_mem (b := (env.cells.lookup x).getD 0) ?_
  unfold closOf
  exact List.mem_map.mpr ⟨(x, NameKind.free), List.mem_reverse.mpr (List.mem_filter.mpr ⟨h, by simp⟩), rfl⟩
theorem relabel_free {scope : Scope} {env : Env} {x : Str} (hc : ∀ y ∈ scope.names, y.2 ≠ .cell) (h : (relabel scope env).names.lookup x = some .cell ∨ (relabel scope env).names.lookup x = some .free) : (x, NameKind.free) ∈ scope.names := by
  have key : ∀ k, (relabel scope env).names.lookup x = some k → k = .cell ∨ k = .free → (x, NameKind.free) ∈ scope.names := by
    intro k e hk
    have m := PySem.mem_of_lookup e
    unfold relabel at m
    obtain ⟨⟨n, k'⟩, hy, q⟩ := List.mem_map.mp m
    dsimp only at q
    split at q
    · rename_i hcond
      have e1 : n = x := congrArg Prod.fst q
      subst e1
      simp only [Bool.and_eq_true, beq_iff_eq] at hcond
      rw [hcond.1.1] at hy
      exact hy
    · have e1 : n = x := congrArg Prod.fst q
      have e2 : k' = k := congrArg Prod.snd q
      subst e1 e2
      rcases hk with hk | hk
      · subst hk
        exact absurd rfl (hc _ hy)
      · subst hk
        exact hy
  rcases h with h | h
  · exact key _ h (.inl rfl)
  · exact key _ h (.inr rfl)

/-- the world but one object -/
theorem Un.but {fs ex : List Addr} {H H' : Hp} {h h1 h2 : Heap} {C : Addr} (u : Un fs ex H H' h h1) (hC : h.objs.size ≤ C) (sb : Heap.SameBut C h1 h2) : Un fs ex H H' h h2 := by
  have ne : ∀ b o, h.get? b = some o → b ≠ C := fun b o e => Nat.ne_of_lt (Nat.lt_of_lt_of_le (Heap.lt_size e) hC)
  refine ⟨fun b o e n hb hx => (sb.2 b (ne b o e)).trans (u.keep b o e n hb hx), fun b o e n hb hx => ?_, u.free, fun b o e hx => ?_, u.tups, u.frzs, u.tbls⟩
  · obtain ⟨sl, q⟩ := u.slot b o e n hb hx
    exact ⟨sl, (sb.2 b (ne b o e)).trans q⟩
  · obtain ⟨o', q⟩ := u.there b o e hx
    exact ⟨o', (sb.2 b (ne b o e)).trans q⟩
theorem HOk.but {P : Program} {w : World} {H : Hp} {h1 h2 : Heap} {C : Addr} (ok : HOk P w H h1) (hC : H C = none) (sb : Heap.SameBut C h1 h2) : HOk P w H h2 := fun b ob e => by
  refine (ok b ob e).stay (fun c w' hc q => (sb.2 c ?_).trans q) (fun _ q => q) fun _ _ q => q
  rintro rfl
  rcases hc with rfl | hc
  · rw [hC] at e; cases e
  · rw [hC] at hc; cases hc

section
variable {X : Cx} {pins : List (Addr × Obj)} {σ : St} {H : Hp} {s : Shared}
theorem blk_ok {scope : Scope} {NB : List Str} {js : List (Option Nat)} {C : Addr} {fp : List Addr} (B : BlkOk X scope NB js) (I : Inv X pins σ H s) (hf : ∀ b ∈ fp, FpOk X pins H b) (hlt : ∀ b ∈ fp, b ≠ C) (hC : s.heap.objs.size ≤ C) :
    (blk X scope NB C s H fp).Ok := by
  refine ⟨I.mod, B.kind, I.ok.glob, I.ok.blt, hC, fun x y c hx hy => ?_, fun x hx => ?_, fun x c h _ => (nomatch h), I.ok.hd, I.ok.frames, .inl rfl, fun b hb => ⟨hlt b hb, fun x c hx => ?_⟩, I.bs, Nat.le_trans I.ok.bsz I.sz, fun b o e hb => ?_, fun b hb hb2 => ?_, I.stack, I.stkFree⟩
  · exact I.ok.inj x y c (mem_closOf B.there hx).1 (mem_closOf B.there hy).1
  · exact closOf_has (relabel_free B.nocell hx)
  · exact (hf b hb).2.2.2.2.1 x c (mem_closOf B.there hx).1
  · rcases (hf b hb).2.2.2.1 with z | z
    · exact I.ok.noex b o e z
    · exact absurd (Nat.lt_of_lt_of_le (Heap.lt_size e) (Nat.le_trans I.ok.bsz z)) (Nat.lt_irrefl _)
  · rcases List.mem_cons.mp (I.stkSub b hb2) with z | z
    · exact (hf b hb).2.1 z
    · exact (hf b hb).2.2.1 z

theorem tau_get {js : List (Option Nat)} {σ : St} {i : Nat} {v : V} (h : (tau js σ)[i]? = some (some v)) : ∃ j, js[i]? = some (some j) ∧ σ[j]? = some (some v) := by
  unfold tau at h
  rw [List.getElem?_map] at h
  cases e : js[i]? with
  | none => rw [e] at h; cases h
  | some o =>
    rw [e] at h
    cases o with
    | none => cases h
    | some j =>
      refine ⟨j, rfl, ?_⟩
      have h' : (match σ[j]? with | some v => v | none => none) = some v := Option.some.inj h
      cases q : σ[j]? with
      | none => rw [q] at h'; cases h'
      | some u => rw [q] at h'; rw [show u = some v from h']
end

/-! ### the reading -/
/-- what a turn of a comprehension's block is to reach -/
def turnC (g : TG) (tt : TT) (te : TE) (τ : St) (D : Addr) (ys : List V) (N : List V → Hp → Prop) (x : V) (H' : Hp) : Prop :=
  g x τ H' fun σ2 H2 => (∀ (k : Nat) (v : V), τ[k]? = some (some v) → σ2[k]? = some (some v)) ∧ tt σ2 H2 fun ok H3 =>
    if ok = true then te σ2 H3 fun v H4 => H4 D = some (.lst ys) ∧ ys.length < sizeLine ∧ N (ys ++ [v]) (upd H4 D (.lst (ys ++ [v]))) else N ys H3
/-- W: the invariant by the turn, a measure, the items so far; the new list stands at D -/
def tComp (js : List (Option Nat)) (wi : TI) (g : TG) (tt : TT) (te : TE) : TE := fun σ H Q => wi σ H fun J H1 => ∀ D, H1 D = none → ∃ W : Nat → Nat → List V → Hp → Prop, (∃ m, W 0 m [] (upd H1 D (.lst []))) ∧
  ∀ i m ys H, W i m ys H → (J.stop i H ∧ Q (.ref D) H) ∨ (J.go i H ∧ ∃ N : List V → Hp → Prop, (∀ ys' H', N ys' H' → ∃ m', m' < m ∧ W (i + 1) m' ys' H') ∧ ∀ x H', J.yld i H x H' → turnC g tt te (tau js σ) D ys N x H')

theorem pe_comp {X : Cx} {elt tg iter : Expr} {ifs : List Expr} {scope : Scope} {pos : Pos} {wi : TI} {g : TG} {tt : TT} {te : TE} {NB : List Str} {js : List (Option Nat)} (hc : X.calm = true) (B : BlkOk X scope NB js) (hi : PI X tg iter wi)
    (hg : ∀ C s₂ H₂ fp, PG (blk X scope NB C s₂ H₂ fp) tg g) (ht : ∀ C s₂ H₂ fp, PF (blk X scope NB C s₂ H₂ fp) ifs tt) (he : ∀ C s₂ H₂ fp, PE (blk X scope NB C s₂ H₂ fp) elt te)
    (hs : ∀ x, foldedSetIterable iter X.env x = pure x := by intro _; rfl) : PE X (.ListComp elt [⟨tg, iter, ifs, 0⟩] scope pos) (tComp js wi g tt te) := by
  intro pins s σ H Q I h
  rw [eval_ListComp]
  refine wpAny_comprehension_free (use := none) rfl hs B.clos B.kind B.locs (thn (hi pins s σ H _ I h) fun v s1 h1 => thn h1 fun itv s2 h2 => ?_)
  obtain ⟨it, fp, tn, J, H2, e, I2, T, st2, f2, hW⟩ := h2
  subst e
  have fresh2 : H2 s2.heap.objs.size = none := I2.hok.fresh (Nat.le_refl _)
  obtain ⟨W, ⟨m0, w0⟩, turn⟩ := hW s2.heap.objs.size fresh2
  refine wpAny_newObj_type (wpAny_newFunctionEnv B.nocell (by intro y hy; simp at hy) (fun h₁ hns₁ hsb₁ => ?_) B.kind)
  dsimp only at hns₁ hsb₁ ⊢
  generalize hH2 : s2.heap.push { cls := .type "list", dict := none, data := .seq ([] : List Value).toArray } = HP at hns₁ hsb₁ ⊢
  have hC : HP.objs.size = s2.heap.objs.size + 1 := by rw [← hH2, Heap.size_push]
  have hCle : s2.heap.objs.size ≤ HP.objs.size := by rw [hC]; exact Nat.le_succ _
  have hDC : s2.heap.objs.size ≠ HP.objs.size := by rw [hC]; exact Nat.ne_of_lt (Nat.lt_succ_self _)
  have below : ∀ b, b < s2.heap.objs.size → b ≠ HP.objs.size := fun b hb => Nat.ne_of_lt (Nat.lt_of_lt_of_le hb hCle)
  have old : ∀ b o, s2.heap.get? b = some o → h₁.get? b = some o := fun b o e => hsb₁.extBut b o (below b (Heap.lt_size e)) (Heap.get?_push_of_some _ (hH2 ▸ Heap.get?_push_of_some _ e))
  have hacc : h₁.get? s2.heap.objs.size = some { cls := .type "list", dict := none, data := .seq ([] : List Value).toArray } := hsb₁.extBut _ _ hDC (Heap.get?_push_of_some _ (hH2 ▸ Heap.get?_push_size _ rfl))
  have fplt : ∀ b ∈ fp, b < s2.heap.objs.size := fun b hb => by
    obtain ⟨o, ho, _⟩ := T.obj 0 _ st2 b hb
    exact Heap.lt_size ho
  have okY : (blk X scope NB HP.objs.size s2 H2 fp).Ok := blk_ok B I2 f2 (fun b hb => below b (fplt b hb)) hCle
  have lenτ : (tau js σ).length = NB.length := by unfold tau; rw [List.length_map]; exact B.len
  have IY : Inv (blk X scope NB HP.objs.size s2 H2 fp) [] (tau js σ) (upd H2 s2.heap.objs.size (.lst [])) { s2 with heap := h₁, toks := s2.toks + ([] : List (Str × Value)).length } := by
    refine ⟨okY, rfl, I2.bare, Un.laid old (Nat.le_refl _) fresh2, ⟨_, hns₁, fun i x v e1 e2 e3 => ?_⟩, fun x c e => ?_, ?_, fun x c e => ?_, fun p hp => absurd (show p ∈ ([] : List (Addr × Obj)) from hp) (by simp), I2.hok.laid old (Nat.le_refl _) ?_, lenτ⟩
    · obtain ⟨j, ej, ev⟩ := tau_get e2
      obtain ⟨x', n1, n2, n3, n4, n5⟩ := B.outer i j ej
      have ex : x' = x := Option.some.inj (n1.symm.trans e1)
      subst ex
      obtain ⟨m, _, hl⟩ := I2.loc
      obtain ⟨u, ru, l⟩ := hl j x' v n2 ev n4
      refine ⟨u, ru, .inr ?_⟩
      have e3' : Vis (relabel scope X.env) x' := e3
      have nl := B.inner i x' e1 n3 e3'
      have kk : (relabel scope X.env).names.lookup x' = some .cell ∨ (relabel scope X.env).names.lookup x' = some .free := by
        rcases e3' with z | z | z
        · exact absurd z nl
        · exact .inl z
        · exact .inr z
      refine ⟨kk, ?_⟩
      rcases l with ⟨z, _⟩ | ⟨_, c, ec, cell⟩
      · exact absurd z n5
      · obtain ⟨c', ec'⟩ := closOf_has (env := X.env) n3
        have q := (mem_closOf B.there ec').1
        rw [ec] at q
        cases q
        exact ⟨c, ec', cell.keeps old⟩
    · obtain ⟨v, z⟩ := I2.cell x c (mem_closOf B.there e).1
      exact ⟨v, z.keeps old⟩
    · show upd H2 s2.heap.objs.size (.lst []) HP.objs.size = none
      rw [upd_ne (Ne.symm hDC)]
      exact I2.hok.fresh hCle
    · have ec := (mem_closOf B.there e).1
      obtain ⟨v, o, ho, _⟩ := I2.cell x c ec
      rw [upd_ne (Nat.ne_of_lt (Heap.lt_size ho))]
      exact I2.freeC x c ec
    · exact ⟨by show 0 ≤ sizeLine; exact Nat.zero_le _, [], 0, .nil, hacc⟩
  have st1 : tn 0 h₁ := T.keep 0 _ _ st2 fun b _ o e => old b o e
  have statY : ∀ {H' : Hp}, (∀ b ∈ fp, H' b = none) → ∀ b ∈ fp, FpOk (blk X scope NB HP.objs.size s2 H2 fp) [] H' b := fun {H'} hn b hb =>
    ⟨hn b hb, below b (fplt b hb), okY.exfs b hb, .inl hb, (okY.exf b hb).2, fun p hp => absurd (show p ∈ ([] : List (Addr × Obj)) from hp) (by simp)⟩
  have frN : ∀ b ∈ fp, upd H2 s2.heap.objs.size (.lst []) b = none := fun b hb => by
    rw [upd_ne (Nat.ne_of_lt (fplt b hb))]
    exact (f2 b hb).1
  have loop : ∀ s₃ : Shared, s₃ = { s2 with heap := h₁, toks := s2.toks + ([] : List (Str × Value)).length } →
      codeAny (model X.prog X.w) X.A (.compLoop (.ListComp elt [⟨tg, iter, ifs, 0⟩] scope pos) 0 (.ref it) (.ref s2.heap.objs.size) (compEnvC scope (closOf scope X.env) HP.objs.size X.env))
        (compPost (model X.prog X.w) X.A X.xe none (EP X pins σ Q) (.ref s2.heap.objs.size) HP.objs.size) s₃ := by
    rintro s₃ rfl
    refine compLoop_any (fun n s' => ∃ i ys H', Inv (blk X scope NB HP.objs.size s2 H2 fp) [] (tau js σ) H' s' ∧ tn i s'.heap ∧ (∀ b ∈ fp, H' b = none) ∧ W i n ys H') ?_ m0 ⟨0, [], _, IY, st1, frN, w0⟩
    rintro n s3 ⟨i, ys, H3, I3, st3, fr3, w3⟩
    rcases turn i n ys H3 w3 with ⟨stop, qq⟩ | ⟨go, NN, hNN, step⟩
    · refine thn (T.done (blk X scope NB HP.objs.size s2 H2 fp) rfl rfl rfl hc i [] s3 (tau js σ) H3 (fun _ _ => False) I3 (statY fr3) st3 stop) fun r s4 ⟨hr, I4⟩ => ?_
      subst hr
      obtain ⟨m4, hn4, _⟩ := id I4.loc
      refine ⟨m4, hn4, fun h' sb => ⟨.ref s2.heap.objs.size, H3, ?_, rfl, qq⟩⟩
      have u4 : Un (frs X.stack) fp H2 H3 s2.heap s4.heap := I4.base
      exact I2.call' (s' := { s4 with heap := h' }) I4.os (u4.but hCle sb) (I4.hok.but I4.free sb) I4.bare fun b hb => ⟨(f2 b hb).2.2.2.1, (f2 b hb).2.1, (f2 b hb).2.2.2.2.1, (f2 b hb).2.2.2.2.2⟩
    · refine thn (T.item (blk X scope NB HP.objs.size s2 H2 fp) rfl rfl rfl hc i [] s3 (tau js σ) H3 (fun _ _ => False) I3 (statY fr3) st3 go) fun r s4 ⟨u, hr, h4⟩ => ?_
      subst hr
      refine thn h4 fun _ s5 ⟨x, H5, I5, r5, y5, st5, fr5⟩ => ?_
      have I5' := I5.pinned (statY fr5) (T.obj _ _ st5)
      refine thn (hg _ _ _ _ _ s5 (tau js σ) H5 x u _ I5' r5 (step x H5 y5)) fun _ s6 ⟨σ6, H6, I6, ag, q6⟩ => ?_
      have back : ∀ {s7 : Shared} {H7 : Hp}, Inv (blk X scope NB HP.objs.size s2 H2 fp) ([] ++ pinsAt fp s5.heap) σ6 H7 s7 → Inv (blk X scope NB HP.objs.size s2 H2 fp) [] (tau js σ) H7 s7 ∧ tn (i + 1) s7.heap ∧ ∀ b ∈ fp, H7 b = none := fun {s7 H7} I7 => by
        refine ⟨I7.unpinned.weak (lenτ.trans I7.len.symm) ag, T.keep _ _ _ st5 fun b hb o e => (I7.pin (b, o) (List.mem_append_right _ (List.mem_append_right _ (mem_pinsAt hb e)))).1, fun b hb => ?_⟩
        obtain ⟨o, e, d⟩ := T.obj _ _ st5 b hb
        exact (I7.pin (b, o) (List.mem_append_right _ (List.mem_append_right _ (mem_pinsAt hb e)))).2.1
      refine thn (ht _ _ _ _ _ s6 σ6 H6 _ I6 q6) fun ok s7 ⟨H7, I7, q7⟩ => ?_
      cases ok with
      | false =>
        obtain ⟨m', hm, w7⟩ := hNN _ _ q7
        obtain ⟨J1, J2, J3⟩ := back I7
        exact ⟨m', hm, i + 1, ys, H7, J1, J2, J3, w7⟩
      | true =>
        refine thn (he _ _ _ _ _ s7 σ6 H7 _ I7 q7) fun v s8 ⟨y, H8, I8, r8, hD8, hz, n8⟩ => ?_
        obtain ⟨m', hm, w8⟩ := hNN _ _ n8
        refine thn (mt_append _ s8 σ6 H8 (.ref s2.heap.objs.size) [y] (.ref s2.heap.objs.size) [v] (fun z H' => z = .non ∧ H' = upd H8 s2.heap.objs.size (.lst (ys ++ [y]))) I8 rfl (.cons r8 .nil) ⟨_, ys, y, rfl, rfl, hD8, hz, ⟨rfl, rfl⟩⟩) fun _ s9 ⟨z, H9, I9, r9, q9⟩ => ?_
        obtain ⟨ez, e9⟩ : z = .non ∧ H9 = upd H8 s2.heap.objs.size (.lst (ys ++ [y])) := q9
        subst e9
        obtain ⟨J1, J2, J3⟩ := back I9
        exact ⟨m', hm, i + 1, ys ++ [y], _, J1, J2, J3, w8⟩
  exact codeAny_compStart_list (loop _ rfl) (T.self _ _ _ _ _ st1 (loop _ rfl))

/-! ### the forms one uses -/
section
variable {g : TG} {tt : TT} {te : TE} {τ : St} {Q : VK} {H1 : Hp} {D : Addr}
theorem comp_range {lo : Int} {n : Nat} (Pv : Nat → List V → Hp → Prop) (h0 : Pv 0 [] (upd H1 D (.lst []))) (hs : ∀ i ys H, i < n → Pv i ys H → turnC g tt te τ D ys (Pv (i + 1)) (.int (lo + i)) H) (hd : ∀ ys H, Pv n ys H → Q (.ref D) H) :
    ∃ W : Nat → Nat → List V → Hp → Prop, (∃ m, W 0 m [] (upd H1 D (.lst []))) ∧ ∀ i m ys H, W i m ys H → ((Itr lo n).stop i H ∧ Q (.ref D) H) ∨ ((Itr lo n).go i H ∧ ∃ N : List V → Hp → Prop, (∀ ys' H', N ys' H' → ∃ m', m' < m ∧ W (i + 1) m' ys' H') ∧ ∀ x H', (Itr lo n).yld i H x H' → turnC g tt te τ D ys N x H') := by
  refine ⟨fun i m ys H => m = n - i ∧ i ≤ n ∧ Pv i ys H, ⟨n, by simp, Nat.zero_le _, h0⟩, ?_⟩
  rintro i m ys H ⟨rfl, hi, p⟩
  by_cases hlt : i < n
  · refine .inr ⟨hlt, Pv (i + 1), fun ys' H' p' => ⟨n - (i + 1), by omega, rfl, hlt, p'⟩, fun x H' y => ?_⟩
    obtain ⟨e, y⟩ := y
    subst e y
    exact hs i ys _ hlt p
  · have e : i = n := by omega
    subst e
    exact .inl ⟨Nat.le_refl _, hd ys H p⟩
theorem comp_list {K : PySem.W.Frag} {a : Addr} {xs : List V} (Pv : Nat → List V → Hp → Prop) (h0 : Pv 0 [] (upd H1 D (.lst []))) (hl : ∀ i ys H, i ≤ xs.length → Pv i ys H → SqL K H a xs)
    (hs : ∀ i ys x H, xs[i]? = some x → Pv i ys H → turnC g tt te τ D ys (Pv (i + 1)) x H) (hd : ∀ ys H, Pv xs.length ys H → Q (.ref D) H) :
    ∃ W : Nat → Nat → List V → Hp → Prop, (∃ m, W 0 m [] (upd H1 D (.lst []))) ∧ ∀ i m ys H, W i m ys H → ((Itl K a).stop i H ∧ Q (.ref D) H) ∨ ((Itl K a).go i H ∧ ∃ N : List V → Hp → Prop, (∀ ys' H', N ys' H' → ∃ m', m' < m ∧ W (i + 1) m' ys' H') ∧ ∀ x H', (Itl K a).yld i H x H' → turnC g tt te τ D ys N x H') := by
  refine ⟨fun i m ys H => m = xs.length - i ∧ i ≤ xs.length ∧ Pv i ys H, ⟨xs.length, by simp, Nat.zero_le _, h0⟩, ?_⟩
  rintro i m ys H ⟨rfl, hi, p⟩
  have q := hl i ys H hi p
  by_cases hlt : i < xs.length
  · refine .inr ⟨⟨xs, xs[i], q, by simp [hlt]⟩, Pv (i + 1), fun ys' H' p' => ⟨xs.length - (i + 1), by omega, rfl, hlt, p'⟩, fun x H' y => ?_⟩
    obtain ⟨e, y⟩ := y
    subst e
    exact hs i ys x _ (y xs q) p
  · have e : i = xs.length := by omega
    subst e
    exact .inl ⟨⟨xs, q, Nat.le_refl _⟩, hd ys H p⟩
theorem comp_tup {K : PySem.W.Frag} {a : Addr} {xs : List V} (Pv : Nat → List V → Hp → Prop) (h0 : Pv 0 [] (upd H1 D (.lst []))) (hl : ∀ i ys H, i ≤ xs.length → Pv i ys H → SqT K H a xs)
    (hs : ∀ i ys x H, xs[i]? = some x → Pv i ys H → turnC g tt te τ D ys (Pv (i + 1)) x H) (hd : ∀ ys H, Pv xs.length ys H → Q (.ref D) H) :
    ∃ W : Nat → Nat → List V → Hp → Prop, (∃ m, W 0 m [] (upd H1 D (.lst []))) ∧ ∀ i m ys H, W i m ys H → ((Itt K a).stop i H ∧ Q (.ref D) H) ∨ ((Itt K a).go i H ∧ ∃ N : List V → Hp → Prop, (∀ ys' H', N ys' H' → ∃ m', m' < m ∧ W (i + 1) m' ys' H') ∧ ∀ x H', (Itt K a).yld i H x H' → turnC g tt te τ D ys N x H') := by
  refine ⟨fun i m ys H => m = xs.length - i ∧ i ≤ xs.length ∧ Pv i ys H, ⟨xs.length, by simp, Nat.zero_le _, h0⟩, ?_⟩
  rintro i m ys H ⟨rfl, hi, p⟩
  have q := hl i ys H hi p
  by_cases hlt : i < xs.length
  · refine .inr ⟨⟨xs, xs[i], q, by simp [hlt]⟩, Pv (i + 1), fun ys' H' p' => ⟨xs.length - (i + 1), by omega, rfl, hlt, p'⟩, fun x H' y => ?_⟩
    obtain ⟨e, y⟩ := y
    subst e
    exact hs i ys x _ (y xs q) p
  · have e : i = xs.length := by omega
    subst e
    exact .inl ⟨⟨xs, q, Nat.le_refl _⟩, hd ys H p⟩
end
end L2
set_option Elab.async false
set_option linter.all false
set_option maxRecDepth 100000
/-! enumerate(a tuple), enumerate(a list): walked by a pair of names, over the hand layer. -/
namespace BE
open PySem PySem.Spec PyProof.Rows
open AutoSeq1 (wpAny_loadPart')
section
variable {prog : Program} {w : World} {A : Around} {E : Value → Shared → Prop} {s : Shared}
theorem nextOf_tup {it t : Addr} {i : Nat} {items : Array Value} {x : Value} {Q : Value → Shared → Prop} (st : s.heap.IsTupleIter it t i) (ht : s.heap.IsTuple t items) (hx : items[i]? = some x)
    (hQ : ∀ h', h'.IsTupleIter it t (i + 1) → Heap.SameBut it s.heap h' → Q x { s with heap := h' }) : wpAny (model prog w) A (Builtin.SmallTypes.nextOf (.ref it)) Q E s := by
  obtain ⟨ob, hob, hcl, hda⟩ := id st
  obtain ⟨ot, hot, _, nt, hdt⟩ := ht
  unfold Builtin.SmallTypes.nextOf
  refine wpAny_bind (wpAny_callSpecial?_slot (name := Str.ofString "__next__") st.typeIs F.slot_tuple_iterator_next (wpAny_call_entry F.slot_tuple_iterator_next st.typeIs F.entry_tuple_iterator_next ?_ (F.args_tuple_iterator_next_1 _)))
  show wpAny _ _ (field (.ref it) 0 >>= _) _ _ s
  refine wpAny_bind (wpAny_field hob hda (x := .ref t) rfl ?_)
  show wpAny _ _ (if (Value.ref t == Value.none) = true then _ else _) _ _ s
  rw [if_neg (show ¬ ((Value.ref t == Value.none) = true) from Bool.false_ne_true)]
  show wpAny _ _ (field (.ref it) 1 >>= _) _ _ s
  refine wpAny_bind (wpAny_field hob hda (x := .int i 0) rfl ?_)
  show wpAny _ _ (seqItems? (.ref t) >>= _) _ _ s
  refine wpAny_bind (wpAny_seqItems hot hdt ?_)
  simp only [Int.toNat_natCast, hx]
  refine wpAny_bind (wpAny_setField hob hda (by simp) (wpAny_pure ⟨x, rfl, wpAny_pure (hQ _ ?_ (Heap.SameBut.update ..))⟩))
  exact ⟨_, Heap.get?_update_self _ hob (Obj.isFreed_of_fields (Obj.data_mapFields hda _)), (Obj.cls_mapFields ..).trans hcl, by rw [Obj.data_mapFields hda]; simp [rawInt]⟩
theorem nextOf_tup_end {it t : Addr} {i : Nat} {items : Array Value} {Q : Value → Shared → Prop} (hh : A.handled = none) (st : s.heap.IsTupleIter it t i) (ht : s.heap.IsTuple t items) (hx : items[i]? = none)
    (hE : ∀ h' e, Heap.ExtBut it s.heap h' → (∃ o, h'.get? e = some o ∧ o.cls = .type "StopIteration") → E (.ref e) { s with heap := h' }) : wpAny (model prog w) A (Builtin.SmallTypes.nextOf (.ref it)) Q E s := by
  obtain ⟨ob, hob, hcl, hda⟩ := id st
  obtain ⟨ot, hot, _, nt, hdt⟩ := ht
  unfold Builtin.SmallTypes.nextOf
  refine wpAny_bind (wpAny_callSpecial?_slot (name := Str.ofString "__next__") st.typeIs F.slot_tuple_iterator_next (wpAny_call_entry F.slot_tuple_iterator_next st.typeIs F.entry_tuple_iterator_next ?_ (F.args_tuple_iterator_next_1 _)))
  show wpAny _ _ (field (.ref it) 0 >>= _) _ _ s
  refine wpAny_bind (wpAny_field hob hda (x := .ref t) rfl ?_)
  show wpAny _ _ (if (Value.ref t == Value.none) = true then _ else _) _ _ s
  rw [if_neg (show ¬ ((Value.ref t == Value.none) = true) from Bool.false_ne_true)]
  show wpAny _ _ (field (.ref it) 1 >>= _) _ _ s
  refine wpAny_bind (wpAny_field hob hda (x := .int i 0) rfl ?_)
  show wpAny _ _ (seqItems? (.ref t) >>= _) _ _ s
  refine wpAny_bind (wpAny_seqItems hot hdt ?_)
  simp only [Int.toNat_natCast, hx]
  refine wpAny_bind (wpAny_rule (wpAny_bind (wpAny_setField hob hda (by simp) ?_)))
  show wpAny _ _ (newExc (.type "StopIteration") [] >>= _) _ _ _
  refine wpAny_bind ?_
  simp only [newExc, newTuple]
  refine wpAny_bind (wpAny_newObj_type ?_ (by size_fits))
  refine wpAny_bind (m := firstArgMember _ _) (wpAny_of_eq (a := Value.none) (by first | rfl | (simp only [firstArgMember]; rfl)) ?_)
  refine wpAny_newObj_type ?_ (by size_fits)
  simp only [raiseNew]
  refine wpAny_bind (wpAny_handled ?_)
  first | rw [show A.in1.handled = none from hh] | rw [hh]
  refine wpAny_bind (wpAny_pure (wpAny_throw ?_))
  exact hE _ _ (((Heap.SameBut.update ..).extBut.push _).push _) ⟨_, Heap.get?_push_size _ rfl, rfl⟩
end
theorem drawsTup {prog : Program} {w : World} {A : Around} (hh : A.handled = none) (it l : Addr) (hne : l ≠ it) (items : Array Value) :
    Draws prog w A it [it, l] items.size (fun i v => items[i]? = some v) (fun i h => h.IsTupleIter it l i ∧ h.IsTuple l items) where
  live := fun _ _ st => let ⟨o, ho, _⟩ := st.1; ⟨o, ho⟩
  frame := fun _ _ _ st hk => ⟨st.1.at fun o e => hk it (by simp) o e, let ⟨o, ho, r⟩ := st.2; ⟨o, hk l (by simp) o ho, r⟩⟩
  item := fun i s Q E hi st hQ => by
    refine nextOf_tup st.1 st.2 (x := items[i]) (by simp [hi]) fun h' st' sb => ?_
    exact hQ _ h' s.toks (by simp [hi]) ⟨st', st.2.extBut sb.extBut hne⟩ sb
  done := fun s Q E st hE => nextOf_tup_end hh st.1 st.2 (by simp) hE

theorem enum_new_tup (l : Addr) (items : Array Value) (n : Nat) (dct : Option Addr) (sl : Array (Option Value)) :
    Meets (Builtin.«enumerate.__new__» ⟨[.type "enumerate", .ref l], []⟩) (fun _ R s => s.heap.get? l = some { cls := .type "tuple", dict := dct, data := .seq items n, slots := sl } ∧
      R (.ok (.ret (.ref (s.heap.push { cls := .type "tuple_iterator", data := .fields #[.ref l, .int 0 0] }).objs.size)))
        { s with heap := (s.heap.push { cls := .type "tuple_iterator", data := .fields #[.ref l, .int 0 0] }).push { cls := .type "enumerate", data := .fields #[.none, .bool false, .ref s.heap.objs.size, rawInt 0, .none, .none] } }) :=
  .of_wp fun prog w A R s h => by
    obtain ⟨hp, g, d, tk, os⟩ := s; obtain ⟨hl, h⟩ := h
    have hsub := sub_enumerate
    have hL : Heap.IsTuple (Shared.heap ⟨hp, g, d, tk, os⟩) l items := ⟨_, hl, rfl, n, rfl⟩
    wp_walk using wpAny_loadPart' hl
    refine wpAny_stack_any fun st => wpAny_pure ?_
    split
    · rename_i c _ _ _ _ _
      cases (c == Value.type "enumerate")
      · wp_walk using wpAny_loadPart' hl, wpAny_pyIter_tuple hL
        exact ⟨_, rfl, h⟩
      · wp_walk using wpAny_loadPart' hl, wpAny_pyIter_tuple hL
        exact ⟨_, rfl, h⟩
    · wp_walk using wpAny_loadPart' hl, wpAny_pyIter_tuple hL
      exact ⟨_, rfl, h⟩
section
variable {prog : Program} {w : World} {A : Around} {E : Value → Shared → Prop} {s : Shared}
theorem call_enum_tup {l : Addr} {items : Array Value} {Q : Value → Shared → Prop} (hL : s.heap.IsTuple l items)
    (h : ∀ h', IsEnum h' (s.heap.objs.size + 1) s.heap.objs.size 0 .none → h'.IsTupleIter s.heap.objs.size l 0 → h'.objs.size = s.heap.objs.size + 2 →
      (∀ b o, s.heap.get? b = some o → h'.get? b = some o) → Q (.ref (s.heap.objs.size + 1)) { s with heap := h' }) :
    wpAny (model prog w) A (call (.type "enumerate") [.ref l]) Q E s := by
  obtain ⟨⟨c, dct, dt, sl⟩, hl, hc, n, hd⟩ := hL
  replace hc : c = .type "tuple" := hc
  replace hd : dt = .seq items n := hd
  subst hc hd
  refine callType_new F.called_enumerate (by decide) (F.typeCall_enumerate_1 _) (F.newCall_enumerate_1 _) (fun obj => F.args_object_init_2 obj _) F.entry_enumerate_new (enum_new_tup l items n dct sl) ⟨hl, ?_⟩
  have hz : (s.heap.push { cls := .type "tuple_iterator", data := .fields #[.ref l, .int 0 0] }).objs.size = s.heap.objs.size + 1 := Heap.size_push ..
  show _ ∧ _
  rw [hz]
  have he : IsEnum ((s.heap.push { cls := .type "tuple_iterator", data := .fields #[.ref l, .int 0 0] }).push
      { cls := .type "enumerate", data := .fields #[.none, .bool false, .ref s.heap.objs.size, rawInt 0, .none, .none] }) (s.heap.objs.size + 1) s.heap.objs.size 0 .none := by
    have q := Heap.get?_push_size (s.heap.push { cls := .type "tuple_iterator", data := .fields #[.ref l, .int 0 0] })
      (o := { cls := .type "enumerate", data := .fields #[.none, .bool false, .ref s.heap.objs.size, rawInt 0, .none, .none] }) rfl
    rw [hz] at q; exact q
  exact ⟨⟨_, he, rfl⟩, h _ he ⟨_, Heap.get?_push_of_some _ (Heap.get?_push_size _ rfl), rfl, rfl⟩ (by rw [Heap.size_push, hz]) fun b o x => Heap.get?_push_of_some _ (Heap.get?_push_of_some _ x)⟩
end
end BE

namespace L2
open PySem PySem.Spec PyProof.Rows
section
variable {X : Cx} {pins : List (Addr × Obj)} {σ : St} {H : Hp} {s : Shared} {h' : Heap}
/-- two records of ours have turned, a new object is laid and tracked -/
theorem Inv.turned2 {t' : Nat} {it e T : Addr} {o : HO} (I : Inv X pins σ H s) (k : ∀ b u, b ≠ it → b ≠ e → s.heap.get? b = some u → h'.get? b = some u) (f1 : FpOk X pins H it) (f2 : FpOk X pins H e) (hp : s.heap.objs.size ≤ T)
    (new : ObjOk X.prog X.w (upd H T o) h' T o) : Inv X pins σ (upd H T o) { s with heap := h', toks := t' } := by
  have hT : H T = none := I.hok.fresh hp
  have old : ∀ b u, s.heap.get? b = some u → b ≠ T := fun b u q => Nat.ne_of_lt (Nat.lt_of_lt_of_le (Heap.lt_size q) hp)
  have up : ∀ b u, H b = some u → upd H T o b = some u := fun b u q => by rw [upd_ne (ne_of_none q hT)]; exact q
  have nit : ∀ b u, H b = some u → b ≠ it := fun b u q z => by rw [z, f1.1] at q; cases q
  have ne : ∀ b u, H b = some u → b ≠ e := fun b u q z => by rw [z, f2.1] at q; cases q
  have nin : ∀ b, b ∉ [it, e] → b ≠ it ∧ b ≠ e := fun b hb => ⟨fun z => hb (by simp [z]), fun z => hb (by simp [z])⟩
  refine I.step (g' := s.gens) (d' := s.drawn) (ch := [it, e]) (fun b hb => ?_) (fun b u _ _ hc q _ => k b u (nin b hc).1 (nin b hc).2 q) (fun b u _ _ hc q _ => ⟨u.slots, k b u (nin b hc).1 (nin b hc).2 q⟩) (fun b u hc q n => by rw [upd_ne (old b u q)]; exact n)
    (fun b u hc q => ⟨u, k b u (nin b hc).1 (nin b hc).2 q⟩) (fun b xs q => up b _ q) (fun b u v q => up b _ q) (fun b ps q => ⟨#[], by rw [up b _ q]; simp⟩) (fun m hm => ?_) (fun b u q => ?_) I.bare
  · have hb' : b = it ∨ b = e := by simpa using hb
    rcases hb' with rfl | rfl
    · exact ⟨f1.2.2.2.1, f1.2.1, f1.2.2.2.2.1, f1.2.2.2.2.2⟩
    · exact ⟨f2.2.2.2.1, f2.2.1, f2.2.2.2.2.1, f2.2.2.2.2.2⟩
  · obtain ⟨u, es, ep, hu, r⟩ := hm
    exact ⟨u, es, ep, k _ u (Ne.symm f1.2.1) (Ne.symm f2.2.1) hu, r⟩
  · by_cases z : b = T
    · subst z
      rw [upd_same] at q
      cases q
      exact new
    · rw [upd_ne z] at q
      refine (I.hok b u q).stay (fun c v hc r => k c v ?_ ?_ r) (fun c r => up c _ r) fun c xs r => up c _ r
      · rcases hc with hc | hc
        · rw [hc]; exact nit b u q
        · exact nit c _ hc
      · rcases hc with hc | hc
        · rw [hc]; exact ne b u q
        · exact ne c _ hc
end
/-- (0, x0), (1, x1), .. of the tuple at a; of the list at a -/
def Ite (K : PySem.W.Frag) (a : Addr) : It :=
  ⟨fun i H => ∃ xs x, SqT K H a xs ∧ xs[i]? = some x, fun i H x H' => ∃ p v, H p = none ∧ x = .ref p ∧ H' = upd H p (.tup [.int i, v]) ∧ ∀ xs, SqT K H a xs → xs[i]? = some v, fun i H => ∃ xs, SqT K H a xs ∧ xs.length ≤ i⟩
def ItL (K : PySem.W.Frag) (a : Addr) : It :=
  ⟨fun i H => ∃ xs x, SqL K H a xs ∧ xs[i]? = some x, fun i H x H' => ∃ p v, H p = none ∧ x = .ref p ∧ H' = upd H p (.tup [.int i, v]) ∧ ∀ xs, SqL K H a xs → xs[i]? = some v, fun i H => ∃ xs, SqL K H a xs ∧ xs.length ≤ i⟩

theorem tup2_ok {P : Program} {w : World} {H : Hp} {h : Heap} {T : Addr} {i : Nat} {t : Tok} {v : V} {u : Value} (ht : h.get? T = some { cls := .type "tuple", data := .seq #[.int i t, u] }) (r : RelV v u) : ObjOk P w H h T (.tup [.int i, v]) :=
  ⟨by show 2 ≤ sizeLine; decide, [.int i t, u], .cons ⟨t, rfl⟩ (.cons r .nil), ⟨_, ht, rfl, rfl, _, rfl⟩⟩

theorem turn_enumT {P : Program} {w : World} {K : PySem.W.Frag} {es : List Expr} {ek : Nat} {pos : Pos} (a it e : Addr) (hei : e ≠ it) : Turn P w K (.Tuple es ek pos) (Ite K a) [it, e] e (fun i h => (∃ old, IsEnum h e it i old) ∧ h.IsTupleIter it a i) where
  mem := by simp
  obj := fun i h st b hb => by
    obtain ⟨⟨old, he⟩, o, ho, hc, hd⟩ := st
    have hb' : b = it ∨ b = e := by simpa using hb
    rcases hb' with rfl | rfl
    · exact ⟨o, ho, fun v z => by rw [hd] at z; cases z⟩
    · exact ⟨_, he, fun v z => by
        have z' : Data.fields _ = Data.cell v := z
        cases z'⟩
  keep := fun i h h' st k => by
    obtain ⟨⟨old, he⟩, st⟩ := st
    exact ⟨⟨old, k e (by simp) _ he⟩, st.at fun o q => k it (by simp) o q⟩
  item := by
    intro X hP hw hK hc i pins s σ H E I hf st hg
    subst hP hw hK
    obtain ⟨⟨old, he⟩, st⟩ := st
    obtain ⟨xs, x, hq, hx⟩ := hg
    obtain ⟨its, rv, p, hz⟩ := I.tuple hq
    obtain ⟨u, hu, ru⟩ := rv.get hx
    have f1 := hf it (by simp)
    have f2 := hf e (by simp)
    have p' : s.heap.IsTuple a its.toArray := p
    have ha : a ≠ it := fun z => by
      obtain ⟨o, ho, hcl, _⟩ := st
      obtain ⟨o', ho', hcl', _⟩ := p'
      rw [z, ho] at ho'; cases ho'; rw [hcl] at hcl'; exact absurd (Value.type.inj hcl') (by decide)
    have hae : e ∉ [it, a] := fun z => by
      have z' : e = it ∨ e = a := by simpa using z
      rcases z' with z' | z'
      · exact hei z'
      · obtain ⟨o', ho', hcl', _⟩ := p'
        rw [← z', he] at ho'; cases ho'; exact absurd (Value.type.inj hcl') (by decide)
    have hlt : i < its.toArray.size := by
      have := (List.getElem?_eq_some_iff.mp hu).1
      simpa using this
    refine wpAny_pyNext_enum_itemD (BE.drawsTup (A := X.A.in1) (I.ok.hd hc) it a ha its.toArray) he ⟨st, p'⟩ hlt hei hae fun y h1 tk hy ho st1 hT hsz hk => ?_
    have ey : y = u := by
      have hy' : its.toArray[i]? = some y := hy
      rw [List.getElem?_toArray] at hy'
      rw [hu] at hy'; cases hy'; rfl
    subst ey
    refine ⟨_, rfl, wpAny_letOwnedTupleGo_enum ho fun h2 he2 sb2 => ?_⟩
    have neT : s.heap.objs.size ≠ e := Nat.ne_of_gt (Heap.lt_size he)
    have hT2 : h2.get? s.heap.objs.size = some { cls := .type "tuple", data := .seq #[.int i tk, y] } := (sb2.2 _ neT).trans hT
    have fr : H s.heap.objs.size = none := I.hok.fresh (Nat.le_refl _)
    have I2 : Inv X pins σ (upd H s.heap.objs.size (.tup [.int i, x])) { s with heap := h2, toks := tk + 1 } :=
      I.turned2 (it := it) (e := e) (fun b q h1' h2' r => (sb2.2 b h2').trans (hk b q h2' h1' r)) f1 f2 (Nat.le_refl _) (tup2_ok hT2 ru)
    refine ⟨.ref s.heap.objs.size, _, I2, rfl, ⟨_, x, fr, rfl, rfl, fun ys hy => by rw [I.tuple_inj hy hq]; exact hx⟩, ⟨⟨y, ?_⟩, ?_⟩, fun b hb => ?_⟩
    · have := he2
      rw [show ((i + 1 : Nat) : Int) = (i : Int) + 1 from by omega]
      exact this
    · exact st1.1.at fun o q => (sb2.2 it (Ne.symm hei)).trans q
    · have hn := (hf b hb).1
      have hb' : b ≠ s.heap.objs.size := fun z => by
        have hlt' : b < s.heap.objs.size := by
          have hb2 : b = it ∨ b = e := by simpa using hb
          rcases hb2 with rfl | rfl
          · obtain ⟨o, ho, _⟩ := st; exact Heap.lt_size ho
          · exact Heap.lt_size he
        exact absurd z (Nat.ne_of_lt hlt')
      rw [upd_ne hb']
      exact hn
  done := by
    intro X hP hw hK hc i pins s σ H E I hf st hg
    subst hP hw hK
    obtain ⟨⟨old, he⟩, st⟩ := st
    obtain ⟨xs, hq, hx⟩ := hg
    obtain ⟨its, rv, p, hz⟩ := I.tuple hq
    have f1 := hf it (by simp)
    have p' : s.heap.IsTuple a its.toArray := p
    have hT : s.TypeIs (.ref e) "enumerate" := ⟨_, he, rfl⟩
    unfold pyNext
    refine wpAny_bind (wpAny_attempt (wpAny_callSpecial?_slot (name := Str.ofString "__next__") hT F.slot_enumerate_next (wpAny_call_entry F.slot_enumerate_next hT F.entry_enumerate_next ?_ (F.args_enumerate_next_1 _))))
    show wpAny _ _ (field (.ref e) 2 >>= _) _ _ _
    refine wpAny_bind (wpAny_field he rfl (x := .ref it) rfl ?_)
    refine wpAny_bind (BE.nextOf_tup_end (A := X.A.in1) (I.ok.hd hc) st p' (by simp; have := rv.length; omega) fun h1 ex hb hx' => ?_)
    obtain ⟨o, ho, hcl⟩ := hx'
    refine wpAny_bind (wpAny_isInstance (T := "StopIteration") (b := true) ⟨o, ho, hcl⟩ isSubtype_stop ?_)
    exact wpAny_pure ⟨rfl, I.turned (t' := s.toks) (fun b q hb' r => hb b q hb' r) f1.1 f1.2.1 f1.2.2.2.1 f1.2.2.2.2.1 f1.2.2.2.2.2⟩
  self := fun _ _ _ _ _ st h => let ⟨⟨_, he⟩, _⟩ := st; wpAny_pyIter_enum he h

section
variable {X : Cx} {es : List Expr} {ek : Nat} {tpos : Pos}
def iEnumT (K : PySem.W.Frag) (ta : TA) : TI := fun σ H R => ta σ H fun vs H1 => ∃ a xs, vs = [.ref a] ∧ SqT K H1 a xs ∧ R (Ite K a) H1
theorem pi_enumT {x : Expr} {ta : TA} {p pos : Pos} (hg : Gl X "enumerate") (hm : X.mg "enumerate" = none) (ha : PA X [x] ta) (hs : starEach [x] X.env = [(false, eval x X.env)] := by rfl) :
    PI X (.Tuple es ek tpos) (.Call (.Name "enumerate" p) [x] [] pos) (iEnumT X.K ta) := by
  intro pins s σ H R I h
  refine Call_ (ld_blt I hg hm boot_enumerate (PyProof.Rows.callWith_type1 (thn (ha pos pins s σ H _ I h) fun us s1 ⟨vs, H1, I1, r1, q1⟩ => ?_) hs rfl))
  obtain ⟨a, xs, e, hq, q⟩ := q1
  subst e
  cases r1 with
  | cons r rr =>
    cases rr
    cases r
    obtain ⟨its, rv, pt, hz⟩ := I1.tuple hq
    refine BE.call_enum_tup (show s1.heap.IsTuple a its.toArray from pt) fun h' he hit hsz hk => ?_
    refine wpAny_pyIter_enum he ?_
    have hne : s1.heap.objs.size + 1 ≠ s1.heap.objs.size := Nat.succ_ne_self _
    refine ⟨s1.heap.objs.size + 1, [s1.heap.objs.size, s1.heap.objs.size + 1], _, _, H1, rfl, I1.kept (t' := s1.toks) hk, turn_enumT a s1.heap.objs.size (s1.heap.objs.size + 1) hne, ⟨⟨_, he⟩, hit⟩, fun b hb => ?_, q⟩
    have hb' : b = s1.heap.objs.size ∨ b = s1.heap.objs.size + 1 := by simpa using hb
    rcases hb' with rfl | rfl
    · exact I1.fpOk (Nat.le_refl _) (I1.hok.fresh (Nat.le_refl _))
    · exact I1.fpOk (Nat.le_succ _) (I1.hok.fresh (Nat.le_succ _))
end
/-- the form that one uses: over the pairs of a tuple that the body leaves as it is (tuples never change) -/
theorem for_enumT {K : PySem.W.Frag} {a : Addr} {xs : List V} {g : TG} {tb : TS} {D : Ends} {σ : St} {H : Hp} (Pv : Nat → St → Hp → Prop) (h0 : Pv 0 σ H) (hl : ∀ i σ H, i ≤ xs.length → Pv i σ H → SqT K H a xs)
    (hs : ∀ i v p σ H, xs[i]? = some v → H p = none → Pv i σ H → g (.ref p) σ (upd H p (.tup [.int i, v])) fun σ2 H2 => tb { D with nx := Pv (i + 1), ct := Pv (i + 1), bk := D.nx } σ2 H2) (hd : ∀ σ H, Pv xs.length σ H → D.nx σ H) :
    ∃ W : Nat → Nat → St → Hp → Prop, (∃ m, W 0 m σ H) ∧ ∀ i m σ H, W i m σ H →
      ((Ite K a).stop i H ∧ D.nx σ H) ∨ ((Ite K a).go i H ∧ ∃ N : St → Hp → Prop, (∀ σ' H', N σ' H' → ∃ m', m' < m ∧ W (i + 1) m' σ' H') ∧ ∀ x H', (Ite K a).yld i H x H' → g x σ H' fun σ2 H2 => tb { D with nx := N, ct := N, bk := D.nx } σ2 H2) := by
  refine ⟨fun i m σ H => m = xs.length - i ∧ i ≤ xs.length ∧ Pv i σ H, ⟨xs.length, by simp, Nat.zero_le _, h0⟩, ?_⟩
  rintro i m σ H ⟨rfl, hi, p⟩
  have q := hl i σ H hi p
  by_cases hlt : i < xs.length
  · refine .inr ⟨⟨xs, xs[i], q, by simp [hlt]⟩, Pv (i + 1), fun σ' H' p' => ⟨xs.length - (i + 1), by omega, rfl, hlt, p'⟩, fun x H' y => ?_⟩
    obtain ⟨b, v, hb, e1, e2, y⟩ := y
    subst e1 e2
    exact hs i v b σ _ (y xs q) hb p
  · have e : i = xs.length := by omega
    subst e
    exact .inl ⟨⟨xs, q, Nat.le_refl _⟩, hd σ H p⟩
end L2
set_option Elab.async false
set_option linter.all false
set_option maxRecDepth 100000
/-! More rules over the hand layer: t + u and t[a:b] of any tuples, all(list), any(list). -/
namespace L2
open PySem PySem.Spec PyProof.Rows
section
variable {prog : Program} {w : World} {A : Around} {E : Value → Shared → Prop} {s : Shared}
/-- t + u: one of them, or a new one -/
theorem catAny {t b : Addr} {vs ws : List Value} {Q : Value → Shared → Prop} (ht : IsTup s.heap t vs.toArray) (hb : IsTup s.heap b ws.toArray) (h0 : vs = [] → Q (.ref b) s) (h1 : ws = [] → Q (.ref t) s)
    (h2 : Q (.ref s.heap.objs.size) { s with heap := s.heap.push { cls := .type "tuple", data := .seq (vs ++ ws).toArray } }) (hsz : vs.length + ws.length ≤ sizeLine) : wpAny (model prog w) A (binaryOp .Add (.ref t) (.ref b)) Q E s := by
  by_cases hv : vs = []
  · obtain ⟨⟨c1, d1, a1, l1⟩, o1, k1, n1, q1⟩ := id ht
    obtain ⟨⟨c2, d2, a2, l2⟩, o2, k2, n2, q2⟩ := id hb
    simp only at k1 q1 k2 q2
    subst k1 q1 k2 q2
    exact concat_meets ⟨_, o1, rfl⟩ ⟨_, o2, rfl⟩ noFill_tuple_add seq_tuple_add PySem.F.slot_tuple_add PySem.F.entry_tuple_add (PySem.F.args_tuple_add_2 _ _) (tuple_addW0 t b vs.toArray ws.toArray n1 n2 d1 d2 l1 l2 (by simp [hv])) ⟨o1, o2, h0 hv⟩
  · exact HT.cat_tup ht hb hv h1 (fun _ => h2) hsz
/-- t[a:b], the whole of it: t itself -/
theorem sliceWhole {t sl : Addr} {items : Array Value} {vl vu : Value} {lo hi : Option Int} {Q : Value → Shared → Prop} (ht : IsTup s.heap t items) (hs : s.heap.IsSliceOf sl vl vu .none) (pl : IsPart vl lo) (pu : IsPart vu hi)
    (hw : HT.sIx items.size 0 lo = 0 ∧ HT.sIx items.size items.size hi = items.size) (h : Q (.ref t) s) : wpAny (model prog w) A (getItem (.ref t) (.ref sl)) Q E s := by
  obtain ⟨o1, ho1, hc1, hd1⟩ := id hs
  have hTs : s.TypeIs (.ref sl) "slice" := ⟨o1, ho1, hc1⟩
  unfold getItem
  try with_reducible refine wpAny_holding ?_
  first | refine wpAny_bind (wpAny_pure ?_) | skip
  refine wpAny_bind (wpAny_sequenceKey ht.typeIs (by decide) ?_)
  refine wpAny_bind (wpAny_callSpecial?_slot (name := Str.ofString "__getitem__") ht.typeIs PyProof.Rows.slot_tuple_getitem (wpAny_call_entry PyProof.Rows.slot_tuple_getitem ht.typeIs entry_tuple_getitem ?_ (args_tuple_getitem _ _)))
  show wpAny _ _ (Builtin.Tuple.tupleItemsOf (.ref t) >>= _) _ _ s
  refine wpAny_bind (tupleItemsOf_ ht ?_)
  refine wpAny_bind (wpAny_typeOf hTs ?_)
  rw [if_pos (by decide)]
  refine wpAny_bind (HT.sliceApplied_gen hs pl pu ?_)
  have yes : (((HT.sIx items.size 0 lo : Nat) : Int) == 0 && (1 : Int) == 1 && (HT.sIx items.size items.size hi - HT.sIx items.size 0 lo) == items.size) = true := by rw [hw.1, hw.2]; simp
  show wpAny _ _ (if (((HT.sIx items.size 0 lo : Nat) : Int) == 0 && (1 : Int) == 1 && (HT.sIx items.size items.size hi - HT.sIx items.size 0 lo) == items.size) = true then _ else _) _ _ s
  rw [if_pos yes]
  unfold Builtin.Tuple.tupleIsExact
  refine wpAny_bind (wpAny_bind (wpAny_typeOf ht.typeIs (wpAny_pure ?_)))
  rw [if_pos (by decide)]
  first
    | exact wpAny_bind (wpAny_rule (wpAny_pure ⟨_, rfl, wpAny_pure h⟩))
    | exact wpAny_bind (wpAny_rule (wpAny_bind (wpAny_pure (wpAny_pure ⟨_, rfl, wpAny_pure h⟩))))
end
/-- t + u of tuples: a tuple with both's items, all else as it was -/
def rCatA : R2 := fun x y H Q => ∃ a b xs ys, x = .ref a ∧ y = .ref b ∧ H a = some (.tup xs) ∧ H b = some (.tup ys) ∧ xs.length + ys.length ≤ sizeLine ∧ ∀ p H', Same H H' → H' p = some (.tup (xs ++ ys)) → Q (.ref p) H'
/-- t[a:b] of a tuple -/
def rSlA : V → Option Int → Option Int → Hp → VK → Prop := fun x lo hi H Q => ∃ a xs, x = .ref a ∧ H a = some (.tup xs) ∧ ∀ p H', Same H H' → H' p = some (.tup (cutV xs lo hi)) → Q (.ref p) H'
theorem cutV_whole {xs : List V} {lo hi : Option Int} (h : HT.sIx xs.length 0 lo = 0 ∧ HT.sIx xs.length xs.length hi = xs.length) : cutV xs lo hi = xs := by
  unfold cutV
  rw [h.1, h.2]
  simp
section
variable {X : Cx}
theorem op_catA : OpR X (binaryOp .Add) rCatA := by
  intro pins s σ H x y v u Q I rx ry h
  obtain ⟨a, b, xs, ys, rfl, rfl, ha, hb, hz, q⟩ := h
  cases rx
  cases ry
  obtain ⟨i1, r1, p1, _⟩ := I.tuple (SqT.of ha)
  obtain ⟨i2, r2, p2, _⟩ := I.tuple (SqT.of hb)
  refine catAny p1 p2 (fun z => ⟨.ref b, H, I, rfl, q b H (Same.refl H) ?_⟩) (fun z => ⟨.ref a, H, I, rfl, q a H (Same.refl H) ?_⟩) ?_ (by rw [← r1.length, ← r2.length]; exact hz)
  · rw [r1.nil_iff.mp z]; exact hb
  · rw [r2.nil_iff.mp z, List.append_nil]; exact ha
  · have fr : H s.heap.objs.size = none := I.hok.fresh (Nat.le_refl _)
    refine ⟨.ref s.heap.objs.size, _, I.laid (t' := s.toks) (o := .tup (xs ++ ys)) (fun b ob q => Heap.get?_push_of_some _ q) (Nat.le_refl _) ?_, rfl, q _ _ (same_new fr _) upd_same⟩
    exact ⟨by rw [List.length_append]; exact hz, _, r1.append r2, TupP.new _ _⟩
theorem sl_tupA : SlR X rSlA := by
  intro pins s σ H x v vl vu lo hi sl Q I rx hs pl pu h
  obtain ⟨a, xs, rfl, hx, q⟩ := h
  by_cases hw : HT.sIx xs.length 0 lo = 0 ∧ HT.sIx xs.length xs.length hi = xs.length
  · cases rx
    obtain ⟨its, r, ht, hz⟩ := I.tuple (SqT.of hx)
    have hlen : its.toArray.size = xs.length := by rw [List.size_toArray]; exact r.length.symm
    refine ⟨"tuple", _, PyProof.Rows.slot_tuple_getitem.lookup, ht.typeIs, ?_⟩
    exact sliceWhole ht hs pl pu (by rw [hlen]; exact hw) ⟨.ref a, H, I, rfl, q a H (Same.refl H) (by rw [cutV_whole hw]; exact hx)⟩
  · exact sl_tup pins s σ H _ v vl vu lo hi sl Q I rx hs pl pu ⟨a, xs, rfl, SqT.of hx, hw, fun p hp => q p _ (same_new hp _) upd_same⟩

/-! ### all(xs), any(xs) of a list of bools -/
def rAll : List V → Hp → VK → Prop := fun vs H Q => ∃ (a : Addr) (bs : List Bool), vs = [.ref a] ∧ H a = some (.lst (bs.map V.bl)) ∧ Q (.bl (bs.all id)) H
theorem bools_of : ∀ {bs : List Bool} {us : List Value}, Vals (bs.map V.bl) us → us = bs.map Value.bool
  | [], _, .nil => rfl
  | b :: r, _, .cons q t => by rw [show _ = Value.bool b from q, bools_of t]; rfl
theorem range_all (bs : List Bool) : (List.range bs.length).all (fun i => bs.getD i false) = bs.all id := by
  rw [Bool.eq_iff_iff, List.all_eq_true, List.all_eq_true]
  constructor
  · intro h b hb
    obtain ⟨i, hi, e⟩ := List.getElem_of_mem hb
    have := h i (List.mem_range.mpr hi)
    rw [List.getD_eq_getElem?_getD, List.getElem?_eq_getElem hi] at this
    rw [← e]; exact this
  · intro h i hi
    have hi' := List.mem_range.mp hi
    rw [List.getD_eq_getElem?_getD, List.getElem?_eq_getElem hi']
    exact h _ (List.getElem_mem hi')
theorem truth_bools {A : Around} (bs : List Bool) : TruthOf X.prog X.w A (fun i v => (bs.map Value.bool).toArray[i]? = some v) (fun i => bs.getD i false) := fun i v s Q E hP hQ => by
  have h2 : (bs.map Value.bool)[i]? = some v := by simpa using hP
  rw [List.getElem?_map] at h2
  cases e : bs[i]? with
  | none => rw [e] at h2; cases h2
  | some b =>
    rw [e] at h2
    cases h2
    refine wpAny_truthy_bool ?_
    have z : bs.getD i false = b := by rw [List.getD_eq_getElem?_getD, e]; rfl
    have hQ' : Q (bs.getD i false) s := hQ
    rw [z] at hQ'
    exact hQ'
theorem call_allL (hc : X.calm = true) : CallR X (.builtin "all") rAll := by
  intro pins s σ H xs us Q I rs h
  obtain ⟨a, bs, rfl, hl, q⟩ := h
  obtain ⟨u, rfl, ru⟩ := vals1 rs
  cases ru
  obtain ⟨its, rv, p, hz⟩ := I.list (SqL.of hl)
  have e := bools_of rv
  subst e
  obtain ⟨oa, hoa, _⟩ := id p.isList
  have hne : a ≠ s.heap.objs.size := Nat.ne_of_lt (Heap.lt_size hoa)
  refine call_all_walk (wpAny_pyIter_list p.isList ?_)
  refine ⟨s.heap.objs.size, _, _, _, _, _, fun i => bs.getD i false, rfl, Walks.list (A := X.A.in1) (I.ok.hd hc) _ a hne (bs.map Value.bool).toArray, ⟨⟨_, Heap.get?_push_size _ rfl, rfl, rfl⟩, p.isList.at fun o r => Heap.get?_push_of_some _ r⟩, truth_bools bs, fun h' tk hk => ?_⟩
  have en : (List.range (bs.map Value.bool).toArray.size).all (fun i => bs.getD i false) = bs.all id := by
    rw [List.size_toArray, List.length_map]; exact range_all bs
  refine ⟨.bl (bs.all id), H, I.kept (t' := tk) fun b o r => hk b o (fun z => ?_) (Heap.get?_push_of_some _ r), (by rw [en]; exact rfl), q⟩
  have z' : b = s.heap.objs.size := by simpa using z
  exact absurd z' (Nat.ne_of_lt (Heap.lt_size r))
end
end L2
set_option Elab.async false
set_option linter.all false
set_option maxRecDepth 100000
/-! Errors of the program's own over the hand layer: raised, passed on by callers. -/
namespace L2
open PySem PySem.Spec PyProof.Rows
theorem ObjOk.get {P : Program} {w : World} {H : Hp} {h : Heap} {a : Addr} {o : HO} (x : ObjOk P w H h a o) : ∃ ob, h.get? a = some ob := by
  cases o with
  | lst xs => obtain ⟨_, _, _, _, e⟩ := x; exact ⟨_, e⟩
  | tup xs => obtain ⟨_, _, _, o, e, _⟩ := x; exact ⟨_, e⟩
  | dK kvs => obtain ⟨_, _, _, _, o, _, _, e, _⟩ := x; exact ⟨_, e⟩
  | dT kvs => obtain ⟨_, _, _, _, o, _, _, e, _⟩ := x; exact ⟨_, e⟩
  | set S n => obtain ⟨o, _, _, _, e, _⟩ := x; exact ⟨_, e⟩
  | ins C dx fs => obtain ⟨_, _, _, e, _⟩ := x; exact ⟨_, e⟩
  | own y => exact x
  | xd fs => obtain ⟨_, ⟨_, _, _, e, _⟩, _⟩ := x; exact ⟨_, e⟩
  | rng lo hi => obtain ⟨_, _, _, e⟩ := x; exact ⟨_, e⟩
  | frz ob u => obtain ⟨e, _⟩ := x; exact ⟨_, e⟩
  | tbl ps => exact ⟨_, (show h.get? a = some _ from x)⟩
  | met f y => exact ⟨_, (show h.get? a = some _ from x)⟩
  | ext φ => exact x.2.1

/-- an error of the own class C lies behind a call: the object at a flies over the callers' frames; B: all else that stands -/
structure FlyX (P : Program) (w : World) (outer : List Env) (H : Hp) (s : Shared) (a C t : Addr) (H' : Hp) (B : Heap) (s' : Shared) : Prop where
  os : s'.os = s.os
  bare : AllBare s'.gens
  un : Un (frs outer) [] H H' s.heap s'.heap
  hok : HOk P w H' s'.heap
  fly : Heap.FlyingW B outer a (.ref C) (.ref t) s'.heap
  old : ∀ b o, s.heap.get? b = some o → b ∉ frs outer → ∃ ob, B.get? b = some ob
  trk : ∀ b o, H' b = some o → ∃ ob, B.get? b = some ob
def CXr (P : Program) (w : World) : CXT := fun outer H s E e s' => ∃ (a C t : Addr) (H' : Hp) (B : Heap), e = .ref a ∧ FlyX P w outer H s a C t H' B s' ∧ E (.ref C) none H'
/-- where no error is wished none comes -/
theorem passN {P : Program} {w : World} {X : Cx} : Passes (CXr P w) X E0 := fun _ _ _ _ _ _ _ h => let ⟨_, _, _, _, _, _, _, z⟩ := h; False.elim z

/-- from one heap to the next: B stands, the frames change their slots alone -/
theorem fly_step {P : Program} {w : World} {outer : List Env} {H H' : Hp} {h0 h1 h2 B : Heap} (un : Un (frs outer) [] H H' h0 h1) (hok : HOk P w H' h1) (b1 : B.StaysIn h1) (b2 : B.StaysIn h2)
    (old : ∀ b o, h0.get? b = some o → b ∉ frs outer → ∃ ob, B.get? b = some ob) (trk : ∀ b o, H' b = some o → ∃ ob, B.get? b = some ob) (frm : ∀ b ∈ frs outer, ∀ o, h1.get? b = some o → ∃ sl, h2.get? b = some { o with slots := sl }) :
    Un (frs outer) [] H H' h0 h2 ∧ HOk P w H' h2 := by
  have on : ∀ b ob o, B.get? b = some ob → h1.get? b = some o → h2.get? b = some o := fun b ob o q r => by
    have z := b1 b ob q
    rw [r] at z
    cases z
    exact b2 b _ q
  refine ⟨⟨fun b o e n hb hx => ?_, fun b o e n hb hx => ?_, un.free, fun b o e hx => ?_, un.tups, un.frzs, un.tbls⟩, fun b u e => ?_⟩
  · obtain ⟨ob, q⟩ := old b o e hb
    exact on b ob o q (un.keep b o e n hb hx)
  · obtain ⟨sl, q⟩ := un.slot b o e n hb hx
    obtain ⟨sl', r⟩ := frm b hb _ q
    exact ⟨sl', r⟩
  · by_cases hb : b ∈ frs outer
    · obtain ⟨o', q⟩ := un.there b o e hx
      obtain ⟨sl, r⟩ := frm b hb _ q
      exact ⟨_, r⟩
    · obtain ⟨ob, q⟩ := old b o e hb
      exact ⟨_, b2 b ob q⟩
  · refine (hok b u e).stay (fun c v hc q => ?_) (fun _ q => q) fun _ _ q => q
    rcases hc with hc | hc
    · subst hc
      obtain ⟨ob, r⟩ := trk c u e
      exact on c ob v r q
    · obtain ⟨ob, r⟩ := trk c _ hc
      exact on c ob v r q

section
variable {P : Program} {w : World} {K : PySem.W.Frag} {mg : Str → Option Value} {base : Heap} {N : List Str} {qual : Str} {scope : Scope} {f : Addr} {cd : Value} {A : Around} {outer : List Env} {s : Shared} {H : Hp} {E : XK}
/-- an error is made here, and leaves the def -/
theorem leave_made {pins : List (Addr × Obj)} {σ : St} {H1 : Hp} {s1 : Shared} {h' : Heap} {a C : Addr} {vs : List Value} (I : Inv (cxOf (CXr P w) P w K mg base N qual scope f cd A outer s H E) pins σ H1 s1) (hx : Heap.MadeExcOf s1.heap h' a (.ref C) vs)
    (hE : E (.ref C) none H1) : (cxOf (CXr P w) P w K mg base N qual scope f cd A outer s H E).xe (.ref a) { s1 with heap := h' } := by
  have fr : ∀ env ∈ (envOfC qual scope s.heap.objs.size f cd :: outer), ∀ b, env.frame = some b → b ∈ frs (envOfC qual scope s.heap.objs.size f cd :: outer) := fun env he b hb => List.mem_filterMap.mpr ⟨env, he, hb⟩
  have hst : s1.heap.FunFrames base (envOfC qual scope s.heap.objs.size f cd :: outer) := I.stack
  have hout : ∀ b, b ∉ frs outer → b ≠ s.heap.objs.size → b ∉ frs (envOfC qual scope s.heap.objs.size f cd :: outer) := fun b h1 h2 z => by
    rcases List.mem_cons.mp (I.stkSub b z) with q | q
    · exact h2 q
    · exact h1 q
  have B1 : (PySem.W.hideAll s1.heap (frs (envOfC qual scope s.heap.objs.size f cd :: outer))).StaysIn s1.heap := fun b o q => PySem.W.of_hideAll _ q
  have bin : ∀ b o, b ∉ frs (envOfC qual scope s.heap.objs.size f cd :: outer) → s1.heap.get? b = some o → (PySem.W.hideAll s1.heap (frs (envOfC qual scope s.heap.objs.size f cd :: outer))).get? b = some o := fun b o n q => PySem.W.hideAll_get _ q n
  have old : ∀ b o, s.heap.get? b = some o → b ∉ frs outer → ∃ ob, (PySem.W.hideAll s1.heap (frs (envOfC qual scope s.heap.objs.size f cd :: outer))).get? b = some ob := fun b o q n => by
    obtain ⟨o', r⟩ := I.base.there b o q (fun z => nomatch (show b ∈ ([] : List Addr) from z))
    exact ⟨o', bin b o' (hout b n (Nat.ne_of_lt (Heap.lt_size q))) r⟩
  have trk : ∀ b o, H1 b = some o → ∃ ob, (PySem.W.hideAll s1.heap (frs (envOfC qual scope s.heap.objs.size f cd :: outer))).get? b = some ob := fun b o q => by
    obtain ⟨ob, r⟩ := (I.hok b o q).get
    refine ⟨ob, bin b ob (fun z => ?_) r⟩
    rw [I.stkFree b z] at q
    cases q
  refine wpAny_leaves_madeW (base := PySem.W.hideAll s1.heap (frs (envOfC qual scope s.heap.objs.size f cd :: outer))) (L := s.heap.objs.size) I.ok.frames rfl B1 (PySem.W.funFrames_hide hst fr) hx fun h2 t fl tup tn ups => ?_
  have un1 : Un (frs outer) [] H H1 s.heap s1.heap := I.base
  have frm : ∀ b ∈ frs outer, ∀ o, s1.heap.get? b = some o → ∃ sl, h2.get? b = some { o with slots := sl } := fun b hb o q => by
    obtain ⟨_, o', r, nf⟩ := I.funs.mem hb
    rw [q] at r
    cases r
    exact ups b o (hx.keeps b o q) nf
  obtain ⟨un2, hok2⟩ := fly_step un1 I.hok B1 fl.1 old trk frm
  exact ⟨a, C, t, H1, _, rfl, ⟨I.os, I.bare, un2, hok2, fl, old, trk⟩, hE⟩
/-- an error of a callee leaves this def too -/
theorem passR : Passes (CXr P w) (cxOf (CXr P w) P w K mg base N qual scope f cd A outer s H E) E := by
  intro pins σ H1 s1 e s' I h
  obtain ⟨a, C, t, H', B, rfl, F, hE⟩ := h
  have I' : Inv (cxOf (CXr P w) P w K mg base N qual scope f cd A outer s H E) pins σ H' s' := I.call' F.os F.un F.hok F.bare fun b hb => nomatch hb
  have hout : ∀ b, b ∉ frs outer → b ≠ s.heap.objs.size → b ∉ frs (envOfC qual scope s.heap.objs.size f cd :: outer) := fun b h1 h2 z => by
    rcases List.mem_cons.mp (I.stkSub b z) with q | q
    · exact h2 q
    · exact h1 q
  have old : ∀ b o, s.heap.get? b = some o → b ∉ frs outer → ∃ ob, B.get? b = some ob := fun b o q n => by
    obtain ⟨o', r⟩ := I.base.there b o q (fun z => nomatch (show b ∈ ([] : List Addr) from z))
    exact F.old b o' r (hout b n (Nat.ne_of_lt (Heap.lt_size q)))
  refine wpAny_leaves_onW (base := B) (L := s.heap.objs.size) I.ok.frames rfl F.fly fun h2 fl ups => ?_
  have un1 : Un (frs outer) [] H H' s.heap s'.heap := I'.base
  have frm : ∀ b ∈ frs outer, ∀ o, s'.heap.get? b = some o → ∃ sl, h2.get? b = some { o with slots := sl } := fun b hb o q => by
    obtain ⟨_, o', r, nf⟩ := I'.funs.mem hb
    rw [q] at r
    cases r
    exact ups b o q nf
  obtain ⟨un2, hok2⟩ := fly_step un1 I'.hok F.fly.1 fl.1 old F.trk frm
  exact ⟨a, C, t, H', B, rfl, ⟨I'.os, I'.bare, un2, hok2, fl, old, F.trk⟩, hE⟩

/-- an own error class by the looks at the written part -/
theorem own_at {K : PySem.W.Frag} {h : Heap} {mg : Str → Option Value} {x : Str} {C : Addr} {bm : List Value} {newId : String} (X : K.In h) (m : mg x = some (.ref C)) (q : PySem.W.excIn K C bm newId = true) : OwnCls x C bm newId mg h := by
  refine ⟨m, ?_⟩
  unfold PySem.W.excIn at q
  split at q
  · rename_i d1 c1 s1 look
    split at q
    · rename_i C1 b1 e0 e1 e2 e3 n1 e5 mro slots
      simp only [Bool.and_eq_true, beq_iff_eq, Bool.not_eq_true'] at q
      obtain ⟨⟨⟨⟨⟨rfl, rfl⟩, nodel⟩, tail⟩, good⟩, noinit⟩ := q
      obtain ⟨a1, a2, a3, a4, a5, a6, a7, a8, a9, a10, a11⟩ := c1
      dsimp only at mro nodel good noinit
      subst mro nodel
      have es : s1 = #[e0, e1, e2, e3, some (.builtin n1), e5] := by
        obtain ⟨l1⟩ := s1
        simp only at slots
        rw [slots]
      subst es
      exact ⟨b1, a4, a1, a5, a2, a6, a7, a8, a9, a10, d1, e0, e1, e2, e3, e5, _, X _ _ look, .of_isNs (PySem.W.isNs_of_in X good), PySem.W.nsMap_none_of_in X good noinit, PySem.W.tail_of_in X tail⟩
    · cases q
  · cases q
/-- raise C(e), C an own error class -/
theorem ps_raise {x : Str} {C : Addr} {e0 : Expr} {te : TE} {np cpos pos : Pos} {bm : List Value} {Bn newId initId : String} (hm : mg x = some (.ref C)) (hq : PySem.W.excIn K C bm newId = true) (FB : ExcBaseFacts Bn newId initId bm) (hd : (A.deeper (envOfC qual scope s.heap.objs.size f cd)).handled = none)
    (he : PE (cxOf (CXr P w) P w K mg base N qual scope f cd A outer s H E) e0 te) (hg : Gl (cxOf (CXr P w) P w K mg base N qual scope f cd A outer s H E) x) (hdb : (x == ("__debug__" : Str)) = false := by decide)
    (hs : starEach [e0] (envOfC qual scope s.heap.objs.size f cd) = (false, eval e0 (envOfC qual scope s.heap.objs.size f cd)) :: [] := by rfl) :
    PS (cxOf (CXr P w) P w K mg base N qual scope f cd A outer s H E) (.Raise (some (.Call (.Name x np) [e0] [] cpos)) none pos) (fun _ σ H0 => tCons te tNil σ H0 fun xs H1 => xs.length ≤ sizeLine ∧ E (.ref C) none H1) := by
  intro pins s1 σ H1 D I h
  have O : OwnCls x C bm newId mg base := own_at I.mod.kin hm hq
  obtain ⟨tl, Nn, nm, q, bs, hdct, sn, sub, ab, col, dd, k0, k1, k2, k3, k5, mN, hC, hN, hni, T⟩ := O.obj
  refine wpAny_Raise_call_subT (C := C) (nm := nm) (q := q) (N := Nn) (bs := bs) (bm := tl) (hdct := hdct) (sn := sn) (sub := sub) (ab := ab) (col := col) (dd := dd) (k0 := k0) (k1 := k1) (k2 := k2) (k3 := k3) (k5 := k5)
    FB (mN := mN) (T.hasType FB.hasBase) hd (by show (backTo cpos (starEach [e0] (envOfC qual scope s.heap.objs.size f cd))).any (·.1) = false; rw [hs]; rfl) hni (ld_glob I hg O.bound ⟨rfl, ?_⟩ hdb)
  have pa : PA (cxOf (CXr P w) P w K mg base N qual scope f cd A outer s H E) [e0] (tCons te tNil) := pa_cons he pa_nil hs
  have z := pa cpos pins s1 σ H1 (fun xs H2 => xs.length ≤ sizeLine ∧ E (.ref C) none H2) I h
  show wpAny _ _ (evalArgs (.ref C) true (backTo cpos (starEach [e0] (envOfC qual scope s.heap.objs.size f cd))) []) _ _ _
  rw [hs]
  rw [show (cxOf (CXr P w) P w K mg base N qual scope f cd A outer s H E).env = envOfC qual scope s.heap.objs.size f cd from rfl, hs] at z
  refine Calls.evalArgs_plain (wpAny_mono z (fun vs s2 h2 => ?_) fun _ _ y => y)
  obtain ⟨xs, H2, I2, rv, ql, qE⟩ := h2
  have hlen : vs.length ≤ sizeLine := by rw [← rv.length]; exact ql
  exact ⟨rfl, hlen, I2.bk _ _ hC, hN.keeps I2.bk, T.keeps I2.bk, fun h' e hm => leave_made I2 hm qE⟩
end

/-! ### a def whose errors pass on, by its body -/
section
variable {P : Program} {w : World} {K : PySem.W.Frag} {mg : Str → Option Value} {base : Heap}
theorem Fun.okR {x qual : Str} {st : Stmt} {f : Addr} {fd : FuncData} {N ps : List Str} {k : Nat} {sp : Sp} (F : Fun K x qual st f fd) (S : FnScope N ps (defScope st)) (len : ∀ vs H Q E, sp vs H Q E → vs.length = ps.length)
    (hbody : ∀ (cdv : Value) (A : Around) (outer : List Env) (s : Shared) (H : Hp) (vs : List V) (Q : VK) (E : XK), Room k (A.deeper (envOfC qual (defScope st) s.heap.objs.size f cdv)) → sp vs H Q E →
      ∃ t, PSs (cxOf (CXr P w) P w K mg base N qual (defScope st) f cdv A outer s H E) (defBody st) t ∧ t { nx := fun _ H' => Q .non H', rt := Q } (start N vs) H) : FnOk P w K mg base (CXr P w) (k + 1) f fd ps sp := by
  obtain ⟨oc, od, kV, doc, pm, an, cdv, ct, osl, rfl, lk, hcd⟩ := F.ex
  refine fn_of lk hcd S len fun A outer s H vs Q E hr hsp => ?_
  obtain ⟨t, h, q⟩ := hbody cdv A outer s H vs Q E hr hsp
  exact ⟨t, h, q⟩
/-- .. for a def that no error leaves -/
theorem Fun.okN {x qual : Str} {st : Stmt} {f : Addr} {fd : FuncData} {N ps : List Str} {k : Nat} {sp : Sp} (F : Fun K x qual st f fd) (S : FnScope N ps (defScope st)) (len : ∀ vs H Q E, sp vs H Q E → vs.length = ps.length)
    (hbody : ∀ (cdv : Value) (A : Around) (outer : List Env) (s : Shared) (H : Hp) (vs : List V) (Q : VK) (E : XK), Room k (A.deeper (envOfC qual (defScope st) s.heap.objs.size f cdv)) → sp vs H Q E →
      ∃ t, PSs (cxOf (CXr P w) P w K mg base N qual (defScope st) f cdv A outer s H E).nox (defBody st) t ∧ t { nx := fun _ H' => Q .non H', rt := Q } (start N vs) H) : FnOk P w K mg base (CXr P w) (k + 1) f fd ps sp :=
  F.okR S len fun cdv A outer s H vs Q E hr h => let ⟨t, ht, q⟩ := hbody cdv A outer s H vs Q E hr h; ⟨t, ht.nox, q⟩
end
end L2
set_option Elab.async false
set_option linter.all false
set_option maxRecDepth 100000
namespace L2
open PySem PySem.Spec PyProof.Rows
/-! ### Python's own names -/
theorem bt_len : bootBuiltins "len" = some (.builtin "len") := by decide +kernel
theorem bt_isinstance : bootBuiltins "isinstance" = some (.builtin "isinstance") := by decide +kernel
theorem bt_min : bootBuiltins "min" = some (.builtin "min") := by decide +kernel
theorem bt_all : bootBuiltins "all" = some (.builtin "all") := by decide +kernel
theorem bt_sorted : bootBuiltins "sorted" = some (.builtin "sorted") := by decide +kernel
theorem bt_int : bootBuiltins "int" = some (.type "int") := by decide +kernel
theorem bt_bool : bootBuiltins "bool" = some (.type "bool") := by decide +kernel
theorem bt_str : bootBuiltins "str" = some (.type "str") := by decide +kernel
theorem bt_tuple : bootBuiltins "tuple" = some (.type "tuple") := by decide +kernel
/-! ### rules within a block: the written part said once -/
section
variable {X : Cx} (K : PySem.W.Frag)
theorem b_pg_tup {es : List Expr} {k : Nat} {t : TGs} {n : Nat} {pos : Pos} (hc : X.calm = true) (hp : PGs X es t) (hn : (assignEach es X.env).length = n := by rfl) (hst : (assignEach es X.env).findIdx? (·.1) = none := by rfl) (h : X.K = K := by rfl) : PG X (.Tuple es k pos) (gTup K n t) := h ▸ pg_tup hc hp hn hst
end
/-! ### a def of the text -/
structure DefAt (K : PySem.W.Frag) (mg : Str → Option Value) (x : Str) (st : Stmt) (ps : List Str) where
  a : Addr
  d : FuncData
  F : Fun K x x st a d
  b : Binds K d ps []
  m : mg x = some (.ref a)
structure ErrAt (K : PySem.W.Frag) (mg : Str → Option Value) (x : Str) where
  C : Addr
  m : mg x = some (.ref C)
  q : PySem.W.excIn K C [.type "ValueError", .type "Exception", .type "BaseException", .type "object"] "ValueError.__new__" = true
/-! ### the script, the town: a list that grows by 0 with each draw -/
def Scr (K : PySem.W.Frag) (H : Hp) (a : Addr) (ns : List Int) : Prop :=
  (∃ o, H a = some (.frz o (.lst (ns.map V.int)))) ∨
    ∃ (o : Obj) (its : Array Value) (n : Nat), K.lookup a = some o ∧ o.cls = .type "list" ∧ o.dict = none ∧ o.data = .seq its n ∧ its.size ≤ sizeLine ∧ Vals (ns.map V.int) its.toList
theorem Scr.sq {K : PySem.W.Frag} {H : Hp} {a : Addr} {ns : List Int} (h : Scr K H a ns) : SqL K H a (ns.map V.int) := h.elim (fun ⟨o, e⟩ => .inl (.inr ⟨o, e⟩)) .inr
theorem Scr.same {K : PySem.W.Frag} {H H' : Hp} {a : Addr} {ns : List Int} (h : Scr K H a ns) (e : Same H H') : Scr K H' a ns := h.elim (fun ⟨o, q⟩ => .inl ⟨o, e _ _ q⟩) .inr
theorem Scr.of {K : PySem.W.Frag} {H : Hp} {a : Addr} {ns : List Int} (h : SqL K H a (ns.map V.int)) (o : Only H) : Scr K H a ns := by
  rcases h with (h | ⟨ob, h⟩) | h
  · rcases o a with z | ⟨_, _, z⟩
    · rw [z] at h; cases h
    · rw [z] at h; cases h
  · exact .inl ⟨ob, h⟩
  · exact .inr h
def zeros (n : Nat) : List V := List.replicate n (.int 0)
theorem zeros_succ (n : Nat) : zeros n ++ [.int 0] = zeros (n + 1) := by unfold zeros; rw [List.replicate_succ']
theorem zeros_len (n : Nat) : (zeros n).length = n := List.length_replicate
/-- all but t is as it was -/
def SameX (t : Addr) (H H' : Hp) : Prop := ∀ b o, b ≠ t → H b = some o → H' b = some o
theorem SameX.refl (t : Addr) (H : Hp) : SameX t H H := fun _ _ _ h => h
theorem SameX.trans {t : Addr} {H H1 H2 : Hp} (a : SameX t H H1) (b : SameX t H1 H2) : SameX t H H2 := fun c o n h => b c o n (a c o n h)
theorem Same.x {H H' : Hp} (e : Same H H') (t : Addr) : SameX t H H' := fun b o _ h => e b o h
theorem SameX.write {t : Addr} {H H' : Hp} (e : SameX t H H') (o : HO) : SameX t H (upd H' t o) := fun b u n h => by rw [upd_ne n]; exact e b u n h
theorem SameX.new {t p : Addr} {H H' : Hp} (e : SameX t H H') (hp : H' p = none) (o : HO) : SameX t H (upd H' p o) := fun b u n h => by
  have q := e b u n h
  rw [upd_ne (ne_of_none q hp)]; exact q
theorem SameX.ts {t : Addr} {H H' : Hp} (e : SameX t H H') {xs : List V} (h : H t = some (.lst xs)) : TSame H H' := fun b ys q => e b _ (ne_of q h (by intro z; cases z)) q
theorem SameX.scr {K : PySem.W.Frag} {t a : Addr} {H H' : Hp} {ns : List Int} (e : SameX t H H') {xs : List V} (h : H t = some (.lst xs)) (s : Scr K H a ns) : Scr K H' a ns := s.elim (fun ⟨o, q⟩ => .inl ⟨o, e _ _ (ne_of q h (by intro z; cases z)) q⟩) .inr
/-! ### a list of ints == [] -/
def rEqNil (K : PySem.W.Frag) : R2 := fun x y H Q => ∃ a b xs, x = .ref a ∧ y = .ref b ∧ SqL K H a xs ∧ SqL K H b [] ∧ Q (.bl (decide (xs = []))) H
theorem op_eqNil {X : Cx} (hu : X.A.units < cLine) : OpR X (compareOp .Eq) (rEqNil X.K) := by
  intro pins s σ H x y v u Q I rx ry h
  obtain ⟨a, b, xs, rfl, rfl, ha, hb, q⟩ := h
  cases rx
  cases ry
  obtain ⟨i1, r1, p1, _⟩ := I.list ha
  obtain ⟨i2, r2, p2, _⟩ := I.list hb
  have e2 : i2 = [] := by cases r2; rfl
  subst e2
  by_cases hx : xs = []
  · subst hx
    have e1 : i1 = [] := by cases r1; rfl
    subst e1
    refine SeqAt.eq_listAt (e := fun _ => true) p1.isList p2.isList rfl hu (fun j h1 _ => absurd h1 (by simp)) ⟨.bl true, H, I, rfl, ?_⟩
    exact q
  · refine SeqAt.eq_list_lengthsAt p1.isList p2.isList ?_ hu ⟨.bl false, H, I, rfl, ?_⟩
    · have := r1.length
      have hx' : xs.length ≠ 0 := fun z => hx (List.length_eq_zero_iff.mp z)
      have h1 : i1 ≠ [] := fun z => hx' (by rw [this, z]; rfl)
      simpa using h1
    · rw [decide_eq_false hx] at q
      exact q
end L2
set_option Elab.async false
set_option linter.all false
set_option maxRecDepth 100000
namespace L2
open PySem
theorem bt_ValueError : bootBuiltins "ValueError" = some (.type "ValueError") := by decide +kernel
end L2
namespace Be
open PySem L2
def top (i : Nat) : Stmt := PySem.Challenge.pw_benchends_k23_whole_order_texts.main.body.getD i (.Pass ⟨0, 0, 0, 0⟩)
set_option genInjectivity false in
structure Txt (K : PySem.W.Frag) (mg : Str → Option Value) where
  is_whole_within : DefAt K mg "is_whole_within" (top 17) ["thing", "least", "most"]
  is_pair : DefAt K mg "is_pair" (top 18) ["thing"]
  are_bounds_of_work : DefAt K mg "are_bounds_of_work" (top 19) ["thing"]
  are_bounds : DefAt K mg "are_bounds" (top 20) ["thing"]
  is_world : DefAt K mg "is_world" (top 21) ["thing"]
  check_world : DefAt K mg "check_world" (top 22) ["world"]
  is_order : DefAt K mg "is_order" (top 23) ["world", "thing"]
  check_order : DefAt K mg "check_order" (top 24) ["world", "order"]
  how_many_benches : DefAt K mg "how_many_benches" (top 25) ["world"]
  how_many_works : DefAt K mg "how_many_works" (top 26) ["world"]
  how_many_began : DefAt K mg "how_many_began" (top 27) ["world", "ends"]
  check_text : DefAt K mg "check_text" (top 29) ["text"]
  read_number : DefAt K mg "read_number" (top 30) ["text", "least", "most"]
  order_text : DefAt K mg "order_text" (top 31) ["world", "order"]
  read_works : DefAt K mg "read_works" (top 32) ["world", "text"]
  read_order : DefAt K mg "read_order" (top 33) ["world", "text"]
  law_cell_at : DefAt K mg "_law_cell_at" (top 35) ["_law_script", "_law_k"]
  law_mixed : DefAt K mg "_law_mixed" (top 36) ["_law_script", "_law_k", "_law_many"]
  law_draw : DefAt K mg "_law_draw" (top 37) ["_law_script", "_law_town", "_law_many"]
  law_pick : DefAt K mg "_law_pick" (top 38) ["_law_script", "_law_town", "_law_some_here"]
  law_world : DefAt K mg "_law_world" (top 39) ["_law_script", "_law_town", "_law_most", "_law_wide"]
  law_some : DefAt K mg "_law_some" (top 40) ["_law_script", "_law_town", "_law_world_here"]
  law_ends : DefAt K mg "_law_ends" (top 41) ["_law_many", "_law_some_here"]
  law_order : DefAt K mg "_law_order" (top 42) ["_law_world_here", "_law_some_here"]
  law_which : DefAt K mg "_law_which" (top 43) ["_law_e"]
  law_odd_world : DefAt K mg "_law_odd_world" (top 44) ["_law_script", "_law_town"]
  law_ask : DefAt K mg "_law_ask" (top 46) ["_law_world_here", "_law_thing"]
  law_due : DefAt K mg "_law_due" (top 47) ["_law_world_here", "_law_text"]
  law : DefAt K mg "law" (top 48) ["_law_script"]
  n_ValueError : mg "ValueError" = none
  n_all : mg "all" = none
  n_bool : mg "bool" = none
  n_enumerate : mg "enumerate" = none
  n_int : mg "int" = none
  n_isinstance : mg "isinstance" = none
  n_len : mg "len" = none
  n_min : mg "min" = none
  n_range : mg "range" = none
  n_set : mg "set" = none
  n_sorted : mg "sorted" = none
  n_str : mg "str" = none
  n_tuple : mg "tuple" = none
  c_MOST_BENCHES : ∃ t, mg "MOST_BENCHES" = some (.int 4 t)
  c_MOST_WORKS : ∃ t, mg "MOST_WORKS" = some (.int 10 t)
  c_MOST_LENGTH : ∃ t, mg "MOST_LENGTH" = some (.int 99 t)
  e_BenchError : ErrAt K mg "BenchError"
  e_NoWorld : ErrAt K mg "NoWorld"
  e_NoOrder : ErrAt K mg "NoOrder"
  e_NoLengths : ErrAt K mg "NoLengths"
  e_NoWork : ErrAt K mg "NoWork"
  e_NoSide : ErrAt K mg "NoSide"
  e_Never : ErrAt K mg "Never"
  e_TooMany : ErrAt K mg "TooMany"
  e_NoStep : ErrAt K mg "NoStep"
  e_NoNumber : ErrAt K mg "NoNumber"
  e_NoRow : ErrAt K mg "NoRow"
  e_NoText : ErrAt K mg "NoText"
theorem sc_is_whole_within : FnScope ["thing", "least", "most"] ["thing", "least", "most"] (defScope (top 17)) := ⟨rfl, rfl, rfl, by decide +kernel, rfl, by decide +kernel, by decide +kernel⟩
theorem sc_is_pair : FnScope ["thing"] ["thing"] (defScope (top 18)) := ⟨rfl, rfl, rfl, by decide +kernel, rfl, by decide +kernel, by decide +kernel⟩
theorem sc_are_bounds_of_work : FnScope ["thing"] ["thing"] (defScope (top 19)) := ⟨rfl, rfl, rfl, by decide +kernel, rfl, by decide +kernel, by decide +kernel⟩
theorem sc_are_bounds : FnScope ["thing"] ["thing"] (defScope (top 20)) := ⟨rfl, rfl, rfl, by decide +kernel, rfl, by decide +kernel, by decide +kernel⟩
theorem sc_is_world : FnScope ["thing"] ["thing"] (defScope (top 21)) := ⟨rfl, rfl, rfl, by decide +kernel, rfl, by decide +kernel, by decide +kernel⟩
theorem sc_check_world : FnScope ["world"] ["world"] (defScope (top 22)) := ⟨rfl, rfl, rfl, by decide +kernel, rfl, by decide +kernel, by decide +kernel⟩
theorem sc_is_order : FnScope ["world", "thing", "ended", "ahead", "work"] ["world", "thing"] (defScope (top 23)) := ⟨rfl, rfl, rfl, by decide +kernel, rfl, by decide +kernel, by decide +kernel⟩
theorem sc_check_order : FnScope ["world", "order"] ["world", "order"] (defScope (top 24)) := ⟨rfl, rfl, rfl, by decide +kernel, rfl, by decide +kernel, by decide +kernel⟩
theorem sc_how_many_benches : FnScope ["world"] ["world"] (defScope (top 25)) := ⟨rfl, rfl, rfl, by decide +kernel, rfl, by decide +kernel, by decide +kernel⟩
theorem sc_how_many_works : FnScope ["world"] ["world"] (defScope (top 26)) := ⟨rfl, rfl, rfl, by decide +kernel, rfl, by decide +kernel, by decide +kernel⟩
theorem sc_how_many_began : FnScope ["world", "ends"] ["world", "ends"] (defScope (top 27)) := ⟨rfl, rfl, rfl, by decide +kernel, rfl, by decide +kernel, by decide +kernel⟩
theorem sc_check_text : FnScope ["text"] ["text"] (defScope (top 29)) := ⟨rfl, rfl, rfl, by decide +kernel, rfl, by decide +kernel, by decide +kernel⟩
theorem sc_read_number : FnScope ["text", "least", "most", "number"] ["text", "least", "most"] (defScope (top 30)) := ⟨rfl, rfl, rfl, by decide +kernel, rfl, by decide +kernel, by decide +kernel⟩
theorem sc_order_text : FnScope ["world", "order"] ["world", "order"] (defScope (top 31)) := ⟨rfl, rfl, rfl, by decide +kernel, rfl, by decide +kernel, by decide +kernel⟩
theorem sc_read_works : FnScope ["world", "text"] ["world", "text"] (defScope (top 32)) := ⟨rfl, rfl, rfl, by decide +kernel, rfl, by decide +kernel, by decide +kernel⟩
theorem sc_read_order : FnScope ["world", "text", "order"] ["world", "text"] (defScope (top 33)) := ⟨rfl, rfl, rfl, by decide +kernel, rfl, by decide +kernel, by decide +kernel⟩
theorem sc_law_cell_at : FnScope ["_law_script", "_law_k"] ["_law_script", "_law_k"] (defScope (top 35)) := ⟨rfl, rfl, rfl, by decide +kernel, rfl, by decide +kernel, by decide +kernel⟩
theorem sc_law_mixed : FnScope ["_law_script", "_law_k", "_law_many", "_law_drawn"] ["_law_script", "_law_k", "_law_many"] (defScope (top 36)) := ⟨rfl, rfl, rfl, by decide +kernel, rfl, by decide +kernel, by decide +kernel⟩
theorem sc_law_draw : FnScope ["_law_script", "_law_town", "_law_many"] ["_law_script", "_law_town", "_law_many"] (defScope (top 37)) := ⟨rfl, rfl, rfl, by decide +kernel, rfl, by decide +kernel, by decide +kernel⟩
theorem sc_law_pick : FnScope ["_law_script", "_law_town", "_law_some_here"] ["_law_script", "_law_town", "_law_some_here"] (defScope (top 38)) := ⟨rfl, rfl, rfl, by decide +kernel, rfl, by decide +kernel, by decide +kernel⟩
theorem sc_law_world : FnScope ["_law_script", "_law_town", "_law_most", "_law_wide", "_law_made", "_law_top", "_law_k", "_law_low"] ["_law_script", "_law_town", "_law_most", "_law_wide"] (defScope (top 39)) := ⟨rfl, rfl, rfl, by decide +kernel, rfl, by decide +kernel, by decide +kernel⟩
theorem sc_law_some : FnScope ["_law_script", "_law_town", "_law_world_here"] ["_law_script", "_law_town", "_law_world_here"] (defScope (top 40)) := ⟨rfl, rfl, rfl, by decide +kernel, rfl, by decide +kernel, by decide +kernel⟩
theorem sc_law_ends : FnScope ["_law_many", "_law_some_here", "_law_free", "_law_ends_here", "_law_one", "_law_at"] ["_law_many", "_law_some_here"] (defScope (top 41)) := ⟨rfl, rfl, rfl, by decide +kernel, rfl, by decide +kernel, by decide +kernel⟩
theorem sc_law_order : FnScope ["_law_world_here", "_law_some_here", "_law_rows"] ["_law_world_here", "_law_some_here"] (defScope (top 42)) := ⟨rfl, rfl, rfl, by decide +kernel, rfl, by decide +kernel, by decide +kernel⟩
theorem sc_law_which : FnScope ["_law_e", "_law_own"] ["_law_e"] (defScope (top 43)) := ⟨rfl, rfl, rfl, by decide +kernel, rfl, by decide +kernel, by decide +kernel⟩
theorem sc_law_odd_world : FnScope ["_law_script", "_law_town", "_law_some_here"] ["_law_script", "_law_town"] (defScope (top 44)) := ⟨rfl, rfl, rfl, by decide +kernel, rfl, by decide +kernel, by decide +kernel⟩
theorem sc_law_ask : FnScope ["_law_world_here", "_law_thing", "_law_e"] ["_law_world_here", "_law_thing"] (defScope (top 46)) := ⟨rfl, rfl, rfl, by decide +kernel, rfl, by decide +kernel, by decide +kernel⟩
theorem sc_law_due : FnScope ["_law_world_here", "_law_text", "_law_made", "_law_place", "_law_word"] ["_law_world_here", "_law_text"] (defScope (top 47)) := ⟨rfl, rfl, rfl, by decide +kernel, rfl, by decide +kernel, by decide +kernel⟩
theorem sc_law : FnScope ["_law_script", "_law_town", "_law_often", "_law_cut", "_law_world_here", "_law_order_here", "_law_text", "_law_k", "_law_at", "_law_more", "_law_due_here", "_law_odd"] ["_law_script"] (defScope (top 48)) := ⟨rfl, rfl, rfl, by decide +kernel, rfl, by decide +kernel, by decide +kernel⟩

end Be
set_option Elab.async false
set_option linter.all false
/-! The mathematics of worlds, orders, rules: plain Lean. -/
namespace Be
structure Wd where
  b : Int
  bs : List (Int × Int)
structure Wd.Ok (W : Wd) : Prop where
  b1 : 1 ≤ W.b
  b4 : W.b ≤ 4
  l1 : 1 ≤ W.bs.length
  l10 : W.bs.length ≤ 10
  bd : ∀ p ∈ W.bs, 1 ≤ p.1 ∧ p.1 ≤ p.2 ∧ p.2 ≤ 99
/-- how many works have begun behind n ends -/
def began (W : Wd) (n : Nat) : Nat := (min (W.bs.length : Int) (n + W.b)).toNat
def upto (n : Nat) : List Int := (List.range n).map fun (k : Nat) => (k : Int)
/-- the works that run -/
def runM (W : Wd) (o : List Int) : List Int := (upto (began W o.length)).filter fun x => decide (x ∉ o)
def bnd (W : Wd) (x : Int) : Int × Int := W.bs.getD x.toNat (0, 0)
/-- the event with which a work begins -/
def bg (W : Wd) (x : Int) : Int := if x < W.b then 0 else x - W.b + 1
/-- an order of the world -/
structure VO (W : Wd) (o : List Int) : Prop where
  nd : o.Nodup
  at_ : ∀ (i : Nat) (x : Int), o[i]? = some x → 0 ≤ x ∧ x < (began W i : Int)
theorem upto_succ (n : Nat) : upto (n + 1) = upto n ++ [(n : Int)] := by unfold upto; rw [List.range_succ, List.map_append]; rfl
theorem mem_upto {n : Nat} {x : Int} : x ∈ upto n ↔ 0 ≤ x ∧ x < (n : Int) := by
  unfold upto
  rw [List.mem_map]
  constructor
  · rintro ⟨k, hk, rfl⟩
    have := List.mem_range.mp hk
    omega
  · rintro ⟨h1, h2⟩
    exact ⟨x.toNat, List.mem_range.mpr (by omega), by omega⟩
theorem upto_len (n : Nat) : (upto n).length = n := by unfold upto; rw [List.length_map, List.length_range]
theorem upto_nodup : ∀ n : Nat, (upto n).Nodup
  | 0 => List.nodup_nil
  | n + 1 => by
    rw [upto_succ, List.nodup_append]
    refine ⟨upto_nodup n, by simp, fun a ha b hb e => ?_⟩
    have h1 := mem_upto.mp ha
    have h2 := List.mem_singleton.mp hb
    omega
theorem nodup_le : ∀ {l1 l2 : List Int}, l1.Nodup → (∀ x ∈ l1, x ∈ l2) → l1.length ≤ l2.length
  | [], _, _, _ => Nat.zero_le _
  | a :: r, l2, h, s => by
    have ha : a ∈ l2 := s a List.mem_cons_self
    have hn := List.nodup_cons.mp h
    have ih := nodup_le (l1 := r) (l2 := l2.erase a) hn.2 fun x hx => by
      have hne : x ≠ a := fun e => hn.1 (e ▸ hx)
      exact (List.mem_erase_of_ne hne).mpr (s x (List.mem_cons_of_mem _ hx))
    rw [List.length_erase_of_mem ha] at ih
    have : 0 < l2.length := List.length_pos_of_mem ha
    rw [List.length_cons]
    omega
theorem began_le (W : Wd) (n : Nat) : began W n ≤ W.bs.length := by unfold began; omega
theorem mem_run {W : Wd} {o : List Int} {x : Int} : x ∈ runM W o ↔ (0 ≤ x ∧ x < (began W o.length : Int)) ∧ x ∉ o := by
  unfold runM
  rw [List.mem_filter, mem_upto, decide_eq_true_iff]
theorem VO.nil (W : Wd) : VO W [] := ⟨List.nodup_nil, fun i x e => by simp at e⟩
theorem VO.snoc {W : Wd} {o : List Int} {x : Int} (h : VO W o) (hx : x ∈ runM W o) : VO W (o ++ [x]) := by
  obtain ⟨⟨a, b⟩, c⟩ := mem_run.mp hx
  refine ⟨?_, fun i y e => ?_⟩
  · rw [List.nodup_append]
    refine ⟨h.nd, by simp, fun p hp r hr z => ?_⟩
    have := List.mem_singleton.mp hr
    subst this
    exact c (z ▸ hp)
  · by_cases hi : i < o.length
    · rw [List.getElem?_append_left hi] at e
      exact h.at_ i y e
    · have hi' : i = o.length := by
        have := (List.getElem?_eq_some_iff.mp e).1
        rw [List.length_append, List.length_singleton] at this
        omega
      subst hi'
      rw [List.getElem?_append_right (Nat.le_refl _), Nat.sub_self] at e
      cases e
      exact ⟨a, b⟩
theorem VO.lt {W : Wd} {o : List Int} (h : VO W o) {x : Int} (hx : x ∈ o) : 0 ≤ x ∧ x < (W.bs.length : Int) := by
  obtain ⟨i, hi, e⟩ := List.getElem_of_mem hx
  have := h.at_ i x (by rw [List.getElem?_eq_getElem hi, e])
  have := began_le W i
  omega
theorem VO.len {W : Wd} {o : List Int} (h : VO W o) : o.length ≤ W.bs.length := by
  have := nodup_le (l2 := upto W.bs.length) h.nd fun x hx => mem_upto.mpr (h.lt hx)
  rwa [upto_len] at this
end Be
set_option Elab.async false
set_option linter.all false
set_option maxRecDepth 100000
/-! zip(a list, a list): walked by a pair of names, over the hand layer. -/
namespace L2
open PySem PySem.Spec PyProof.Rows
section
variable {X : Cx} {pins : List (Addr × Obj)} {σ : St} {H : Hp} {s : Shared} {h' : Heap}
end
section
variable {X : Cx} {es : List Expr} {ek : Nat} {tpos : Pos}
theorem comp_listR {g : TG} {tt : TT} {te : TE} {τ : St} {D : Addr} {H1 : Hp} {R : Hp → Prop} {K : PySem.W.Frag} {a : Addr} {xs : List V} (Pv : Nat → List V → Hp → Prop) (h0 : Pv 0 [] (upd H1 D (.lst []))) (hl : ∀ i ys H, i ≤ xs.length → Pv i ys H → SqL K H a xs)
    (hs : ∀ i ys x H, xs[i]? = some x → Pv i ys H → turnC g tt te τ D ys (Pv (i + 1)) x H) (hd : ∀ ys H, Pv xs.length ys H → R H) :
    ∃ W : Nat → Nat → List V → Hp → Prop, (∃ m, W 0 m [] (upd H1 D (.lst []))) ∧ ∀ i m ys H, W i m ys H → ((Itl K a).stop i H ∧ R H) ∨ ((Itl K a).go i H ∧ ∃ N : List V → Hp → Prop, (∀ ys' H', N ys' H' → ∃ m', m' < m ∧ W (i + 1) m' ys' H') ∧ ∀ x H', (Itl K a).yld i H x H' → turnC g tt te τ D ys N x H') :=
  comp_list (Q := fun _ H => R H) Pv h0 hl hs hd
end
end L2
set_option Elab.async false
set_option linter.all false
set_option maxRecDepth 100000
/-! zip of two things each of which is a list or a tuple. The kind: true for a tuple. -/
namespace BE
open PySem PySem.Spec PyProof.Rows
section
variable {prog : Program} {w : World} {A : Around} {E : Value → Shared → Prop} {s : Shared}
end
section
variable {prog : Program} {w : World} {A : Around} {E : Value → Shared → Prop} {s : Shared}
end
end BE
namespace L2
open PySem PySem.Spec PyProof.Rows
section
variable {X : Cx} {pins : List (Addr × Obj)} {σ : St} {H : Hp} {s : Shared}
end
section
variable {X : Cx} {es : List Expr} {ek : Nat} {tpos : Pos}
end
end L2
set_option Elab.async false
set_option linter.all false
set_option maxRecDepth 100000
/-! min(a list of ints) -/
namespace L2
open PySem PySem.Spec PyProof.Rows
section
variable {X : Cx}
def rMinL : List V → Hp → VK → Prop := fun xs H Q => ∃ (a : Addr) (ns : List Int), xs = [.ref a] ∧ H a = some (.lst (ns.map V.int)) ∧ ns ≠ [] ∧ ∀ M, M ∈ ns → (∀ b, b ∈ ns → M ≤ b) → Q (.int M) H
theorem ints_are : ∀ {ns : List Int} {us : List Value}, Vals (ns.map V.int) us → IntsAre us ns
  | [], _, r => by cases r; exact .nil
  | n :: ns, _, r => by
    cases r with
    | cons h r =>
      obtain ⟨t, rfl⟩ := h
      exact .cons n t (ints_are r)
theorem call_minL (hc : X.calm = true) : CallR X (.builtin "min") rMinL := by
  intro pins s σ H xs us Q I r h
  obtain ⟨a, ns, rfl, ha, hne, q⟩ := h
  obtain ⟨u, rfl, rfl⟩ := vals1 r
  obtain ⟨z, its, n, rv, hl, e⟩ := I.lstM ha
  have hi := ints_are rv
  obtain ⟨ys, ey⟩ := hi.allInts.items
  have hL : s.heap.IsList a its.toArray := ⟨_, e, rfl, n, rfl⟩
  have hns : ns = ys.toList.map (·.1) := by
    rw [← hi.numsOf, ← nums_intItems, ← ey]
  have hsz : 0 < ys.size := by
    have h3 : 0 < ns.length := List.length_pos_iff.mpr hne
    rw [hns, List.length_map, Array.length_toList] at h3
    exact h3
  rw [ey] at hL
  refine min_intList (I.ok.hd hc) hL hsz fun v h' tk hv hk => ?_
  obtain ⟨t, rfl⟩ := intItems_at hv
  obtain ⟨h1, h2⟩ := argBest_lt (numAt ys) (ys.size - 1)
  refine ⟨.int _, H, I.kept hk, ⟨_, rfl⟩, q _ ?_ fun b hb => ?_⟩
  · rw [hns, numAt_eq]; exact getD_mem (by rw [List.length_map, Array.length_toList]; omega)
  · rw [hns] at hb
    obtain ⟨j, hj, rfl⟩ := mem_getD hb
    rw [List.length_map, Array.length_toList] at hj
    rw [← numAt_eq]; exact h2 j (by omega)
end
end L2
set_option Elab.async false
set_option linter.all false
set_option maxRecDepth 100000
/-! index of an int in a tuple of ints -/
namespace BE
open PySem PySem.Spec PyProof.Rows SeqAt
open AutoSeq1 (wpAny_loadPart')
end BE
namespace L2
open PySem PySem.SeqAt PySem.Spec PyProof.Rows
section
variable {X : Cx}
def isIntOf (k : Int) : Value → Bool
  | .int i _ => i == k
  | _ => false
theorem ints_of : ∀ {ns : List Int} {us : List Value} {i : Nat} {u : Value}, Vals (ns.map V.int) us → us[i]? = some u → ∃ n t, ns[i]? = some n ∧ u = .int n t
  | [], _, i, u, r, h => by cases r; simp at h
  | n :: ns, _, i, u, r, h => by
    cases r with
    | cons a r =>
      obtain ⟨t, rfl⟩ := a
      cases i with
      | zero =>
        rw [List.getElem?_cons_zero] at h
        exact ⟨n, t, rfl, (Option.some.inj h).symm⟩
      | succ i =>
        rw [List.getElem?_cons_succ] at h
        obtain ⟨m, t', h1, h2⟩ := ints_of r h
        exact ⟨m, t', h1, h2⟩
end
end L2
set_option Elab.async false
set_option linter.all false
set_option maxRecDepth 100000
/-! count and index of a list of bools over the hand layer; a def whose body starts at no pins. -/
namespace L2
open PySem PySem.SeqAt PySem.Spec PyProof.Rows
section
variable {X : Cx}
def rCountB : V → List V → Hp → VK → Prop := fun x vs H Q => ∃ (l : Addr) (bs : List Bool) (k : Bool), x = .ref l ∧ vs = [.bl k] ∧ H l = some (.lst (bs.map V.bl)) ∧ Q (.int (bs.count k : Nat)) H
theorem cntB (k : Bool) : ∀ bs : List Bool, (bs.map Value.bool).countP (isBoolOf k) = bs.count k
  | [] => rfl
  | b :: bs => by
    have ih := cntB k bs
    show List.countP (isBoolOf k) (Value.bool b :: bs.map Value.bool) = _
    rw [List.countP_cons, List.count_cons, ih]
    rfl
theorem mt_countB : MtM X "list.count" rCountB := by
  intro pins s σ H x vs v us Q I rx rv h
  obtain ⟨l, bs, k, rfl, rfl, hH, q⟩ := h
  cases rx
  obtain ⟨u, rfl, ru⟩ := rv.one
  cases ru
  obtain ⟨z, its, n, r, hl, e⟩ := I.lstM hH
  have eb := bools_of r
  subst eb
  refine call_meets F.slot_list_count ⟨_, e, rfl⟩ F.entry_list_count (F.args_list_count_2 _ _) (list_countAt l (bs.map Value.bool).toArray n none #[] (.bool k) (isBoolOf k)) ⟨e, fun y hy => ?_, ?_⟩
  · have hy' : y ∈ bs.map Value.bool := by simpa using hy
    obtain ⟨b, _, rfl⟩ := List.mem_map.mp hy'
    exact EqAt.bool_bool b k
  · refine ⟨.int (bs.count k : Nat), H, I.tok _, ⟨s.toks, ?_⟩, q⟩
    rw [show (bs.map Value.bool).toArray.toList = bs.map Value.bool from rfl, cntB]
def rIndexB : V → List V → Hp → VK → Prop := fun x vs H Q => ∃ (l : Addr) (bs : List Bool) (k : Bool) (j : Nat), x = .ref l ∧ vs = [.bl k] ∧ H l = some (.lst (bs.map V.bl)) ∧ bs[j]? = some k ∧ (∀ m, m < j → bs[m]? ≠ some k) ∧ Q (.int j) H
theorem mt_indexB : MtM X "list.index" rIndexB := by
  intro pins s σ H x vs v us Q I rx rv h
  obtain ⟨l, bs, k, j, rfl, rfl, hH, hj, hn, q⟩ := h
  cases rx
  obtain ⟨u, rfl, ru⟩ := rv.one
  cases ru
  obtain ⟨z, its, n, r, hl, e⟩ := I.lstM hH
  have eb := bools_of r
  subst eb
  have hlt : j < bs.length := (List.getElem?_eq_some_iff.mp hj).1
  have hbj : bs[j] = k := (List.getElem?_eq_some_iff.mp hj).2
  have hz : bs.length ≤ sizeLine := by rw [List.length_map] at z; exact z
  have h63 := line63
  refine call_meets F.slot_list_index ⟨_, e, rfl⟩ F.entry_list_index (F.args_list_index_2 _ _)
    (list_indexAt l (bs.map Value.bool).toArray n none #[] (.bool k) (isBoolOf k) j (by rw [List.size_toArray, List.length_map]; exact hlt) (by omega) ?_ ?_) ⟨e, fun y hy => ?_, ?_⟩
  · rw [List.getElem_toArray, List.getElem_map, hbj]
    show (k == k) = true
    exact beq_self_eq_true k
  · intro m hm hmj
    have hm' : m < bs.length := by rw [List.size_toArray, List.length_map] at hm; exact hm
    rw [List.getElem_toArray, List.getElem_map]
    show (bs[m] == k) = false
    refine beq_eq_false_iff_ne.mpr fun c => hn m hmj ?_
    rw [List.getElem?_eq_getElem hm', c]
  · have hy' : y ∈ bs.map Value.bool := by simpa using hy
    obtain ⟨b, _, rfl⟩ := List.mem_map.mp hy'
    exact EqAt.bool_bool b k
  · exact ⟨.int j, H, I.tok _, ⟨_, rfl⟩, q⟩
end
end L2
set_option Elab.async false
set_option linter.all false
set_option maxRecDepth 100000
/-! range as a value, list of a range. -/
namespace L2
open PySem PySem.Spec PyProof.Rows
section
variable {X : Cx}
end
end L2
set_option Elab.async false
set_option linter.all false
set_option maxRecDepth 100000
/-! max of a list of ints, index in one, sum of a tuple of ints, sorted of a tuple or a list of ints. -/
namespace BE
open PySem PySem.Spec PyProof.Rows
section
variable {prog : Program} {w : World} {A : Around} {E : Value → Shared → Prop} {s : Shared}
theorem sortedS_kept {h h1 : Heap} {vs : List Value} {out : Array Value} (hk : ∀ b u, h.get? b = some u → h1.get? b = some u) : ∀ b u, h.get? b = some u → (sortedHeap (h1.push (seqObj "list" vs.toArray 0)) h1.objs.size vs out).get? b = some u := fun b u e => by
  have e1 := hk b u e
  have lt := Heap.lt_size e1
  rw [sortedHeap_old (Nat.ne_of_lt lt) (by rw [size_push']; exact Nat.lt_succ_of_lt lt)]
  exact Heap.get?_push_of_some _ e1
end
section
variable {prog : Program} {w : World} {A : Around} {E : Value → Shared → Prop} {s : Shared}
end
end BE
namespace L2
open PySem PySem.SeqAt PySem.Spec PyProof.Rows
section
variable {X : Cx}
def rIndexI : V → List V → Hp → VK → Prop := fun x vs H Q => ∃ (l : Addr) (ns : List Int) (k : Int) (j : Nat), x = .ref l ∧ vs = [.int k] ∧ H l = some (.lst (ns.map V.int)) ∧ ns[j]? = some k ∧ (∀ m, m < j → ns[m]? ≠ some k) ∧ Q (.int j) H
theorem mt_indexI : MtM X "list.index" rIndexI := by
  intro pins s σ H x vs v us Q I rx rv h
  obtain ⟨l, ns, k, j, rfl, rfl, hH, hj, hn, q⟩ := h
  cases rx
  obtain ⟨u, rfl, ru⟩ := rv.one
  obtain ⟨t, rfl⟩ := ru
  obtain ⟨z, its, n, r, hl, e⟩ := I.lstM hH
  rw [List.length_map] at hl z
  have hlt : j < ns.length := (List.getElem?_eq_some_iff.mp hj).1
  have h63 := line63
  have at_ : ∀ m (hm : m < its.toArray.size), ∃ i t', ns[m]? = some i ∧ its.toArray[m] = .int i t' := fun m hm => by
    have hm' : m < its.length := by simpa using hm
    obtain ⟨i, t', h1, h2⟩ := ints_of r (List.getElem?_eq_getElem hm')
    exact ⟨i, t', h1, by rw [List.getElem_toArray]; exact h2⟩
  refine call_meets F.slot_list_index ⟨_, e, rfl⟩ F.entry_list_index (F.args_list_index_2 _ _)
    (list_indexAt l its.toArray n none #[] (.int k t) (isIntOf k) j (by rw [List.size_toArray, ← hl]; exact hlt) (by omega) ?_ ?_) ⟨e, fun y hy => ?_, ?_⟩
  · obtain ⟨i, t', h1, h2⟩ := at_ j (by rw [List.size_toArray, ← hl]; exact hlt)
    rw [hj] at h1
    cases h1
    rw [h2]
    exact beq_self_eq_true k
  · intro m hm hmj
    obtain ⟨i, t', h1, h2⟩ := at_ m hm
    rw [h2]
    exact beq_eq_false_iff_ne.mpr fun c => hn m hmj (by rw [h1, c])
  · obtain ⟨m, hm, e'⟩ := Array.getElem_of_mem hy
    obtain ⟨i, t', h1, h2⟩ := at_ m hm
    rw [← e', h2]
    exact EqAt.int_int i t' k t
  · exact ⟨.int j, H, I.tok _, ⟨s.toks, rfl⟩, q⟩
end
end L2
set_option Elab.async false
set_option linter.all false
set_option maxRecDepth 100000
namespace L2
open PySem PySem.Spec PyProof.Rows
end L2
set_option Elab.async false
set_option linter.all false
/-! Works taken up one by one by the bench that is free first: plain lists. -/
namespace Be
def mn : List Int → Int
  | [] => 0
  | [x] => x
  | x :: y :: r => if x ≤ mn (y :: r) then x else mn (y :: r)
theorem mn_mem : ∀ {l : List Int}, l ≠ [] → mn l ∈ l
  | [x], _ => by simp [mn]
  | x :: y :: r, _ => by
    have ih := mn_mem (l := y :: r) (by simp)
    unfold mn
    split
    · simp
    · exact List.mem_cons_of_mem _ ih
theorem mn_le : ∀ {l : List Int} {x : Int}, x ∈ l → mn l ≤ x
  | [a], x, h => by
    have := List.mem_singleton.mp h
    subst this
    exact Int.le_refl _
  | a :: b :: r, x, h => by
    unfold mn
    rcases List.mem_cons.mp h with rfl | h
    · split
      · exact Int.le_refl _
      · omega
    · have ih := mn_le (l := b :: r) h
      split <;> omega
theorem mn_eq {l : List Int} {M : Int} (h : M ∈ l) (hl : ∀ b ∈ l, M ≤ b) : M = mn l := by
  have h1 := mn_le h
  have h2 := hl _ (mn_mem (List.ne_nil_of_mem h))
  omega
def pl (l : List Int) : Nat := l.idxOf (mn l)
theorem pl_lt {l : List Int} (h : l ≠ []) : pl l < l.length := List.idxOf_lt_length_iff.mpr (mn_mem h)
theorem pl_get {l : List Int} (h : l ≠ []) : l[pl l]? = some (mn l) := by
  rw [List.getElem?_eq_getElem (pl_lt h)]
  congr 1
  exact List.getElem_idxOf (pl_lt h)
theorem pl_first {l : List Int} : ∀ m, m < pl l → l[m]? ≠ some (mn l) := by
  intro m hm e
  have h1 := List.getElem?_eq_some_iff.mp e
  obtain ⟨hl, he⟩ := h1
  have : pl l ≤ m := by
    unfold pl
    have gen : ∀ (l : List Int) (x : Int) (m : Nat) (h : m < l.length), l[m] = x → l.idxOf x ≤ m := by
      intro l x
      induction l with
      | nil => intro m h; exact absurd h (Nat.not_lt_zero _)
      | cons a r ih =>
        intro m h e
        rw [List.idxOf_cons]
        cases m with
        | zero =>
          have e' : a = x := e
          rw [e']
          simp
        | succ m =>
          have := ih m (by simpa using h) e
          by_cases c : (a == x) = true
          · rw [c]; exact Nat.zero_le _
          · have c' : (a == x) = false := by simpa using c
            rw [c']
            show r.idxOf x + 1 ≤ m + 1
            omega
    exact gen l (mn l) m hl he
  omega
/-- bench, begin, end of each -/
abbrev Tk := Int × Int × Int
def nxt (f : List Int) (x : Int) : List Int := f.set (pl f) (mn f + x)
def tk : List Int → List Int → List Tk
  | _, [] => []
  | f, x :: r => ((pl f : Int), mn f, mn f + x) :: tk (nxt f x) r
/-- what is free, behind so many -/
def fr : List Int → List Int → List Int
  | f, [] => f
  | f, x :: r => fr (nxt f x) r
theorem tk_len : ∀ (f ls : List Int), (tk f ls).length = ls.length
  | _, [] => rfl
  | f, x :: r => by show (tk (nxt f x) r).length + 1 = _; rw [tk_len]; rfl
theorem fr_len : ∀ (f ls : List Int), (fr f ls).length = f.length
  | _, [] => rfl
  | f, x :: r => by show (fr (nxt f x) r).length = _; rw [fr_len]; exact List.length_set
theorem tk_snoc : ∀ (f ls : List Int) (x : Int), tk f (ls ++ [x]) = tk f ls ++ [((pl (fr f ls) : Int), mn (fr f ls), mn (fr f ls) + x)]
  | f, [], x => rfl
  | f, y :: r, x => by
    show _ :: tk (nxt f y) (r ++ [x]) = _
    rw [tk_snoc]
    rfl
theorem fr_snoc : ∀ (f ls : List Int) (x : Int), fr f (ls ++ [x]) = nxt (fr f ls) x
  | f, [], x => rfl
  | f, y :: r, x => fr_snoc (nxt f y) r x
def zf (b : Nat) : List Int := List.replicate b 0
theorem zf_len (b : Nat) : (zf b).length = b := List.length_replicate
theorem zf_ne {b : Nat} (h : 0 < b) : zf b ≠ [] := by
  intro z
  have := congrArg List.length z
  rw [zf_len] at this
  simp at this
  omega
theorem fr_ne {f ls : List Int} (h : f ≠ []) : fr f ls ≠ [] := by
  intro z
  have := congrArg List.length z
  rw [fr_len] at this
  exact h (List.eq_nil_of_length_eq_zero this)
/-! ### more benches never end later -/
theorem nxt_ne {f : List Int} {x : Int} (hne : f ≠ []) : nxt f x ≠ [] := fun z => by
  have := congrArg List.length z
  unfold nxt at this
  rw [List.length_set] at this
  exact hne (List.eq_nil_of_length_eq_zero this)
def ens (b : Nat) (ls : List Int) : List Int := (tk (zf b) ls).map fun t => t.2.2
def bgs (b : Nat) (ls : List Int) : List Int := (tk (zf b) ls).map fun t => t.2.1
theorem ens_len (b : Nat) (ls : List Int) : (ens b ls).length = ls.length := by unfold ens; rw [List.length_map, tk_len]
theorem zf_bd (b : Nat) : ∀ y ∈ zf b, 0 ≤ y ∧ y ≤ 0 := fun y hy => by have := (List.mem_replicate.mp hy).2; omega
/-- two sorted lists of the same are one -/
theorem sorted_one : ∀ {a b : List Int}, a.Perm b → a.Pairwise (· ≤ ·) → b.Pairwise (· ≤ ·) → a = b
  | a, b, p, ha, hb => List.Perm.eq_of_pairwise (fun x y _ _ h1 h2 => Int.le_antisymm h1 h2) ha hb p
end Be
set_option Elab.async false
set_option linter.all false
set_option maxRecDepth 100000
namespace L2
open PySem PySem.Spec PyProof.Rows
theorem comp_tupR {g : TG} {tt : TT} {te : TE} {τ : St} {D : Addr} {H1 : Hp} {R : Hp → Prop} {K : PySem.W.Frag} {a : Addr} {xs : List V} (Pv : Nat → List V → Hp → Prop) (h0 : Pv 0 [] (upd H1 D (.lst []))) (hl : ∀ i ys H, i ≤ xs.length → Pv i ys H → SqT K H a xs)
    (hs : ∀ i ys x H, xs[i]? = some x → Pv i ys H → turnC g tt te τ D ys (Pv (i + 1)) x H) (hd : ∀ ys H, Pv xs.length ys H → R H) :
    ∃ W : Nat → Nat → List V → Hp → Prop, (∃ m, W 0 m [] (upd H1 D (.lst []))) ∧ ∀ i m ys H, W i m ys H → ((Itt K a).stop i H ∧ R H) ∨ ((Itt K a).go i H ∧ ∃ N : List V → Hp → Prop, (∀ ys' H', N ys' H' → ∃ m', m' < m ∧ W (i + 1) m' ys' H') ∧ ∀ x H', (Itt K a).yld i H x H' → turnC g tt te τ D ys N x H') :=
  comp_tup (Q := fun _ H => R H) Pv h0 hl hs hd
theorem comp_rangeR {g : TG} {tt : TT} {te : TE} {τ : St} {D : Addr} {H1 : Hp} {R : Hp → Prop} {lo : Int} {n : Nat} (Pv : Nat → List V → Hp → Prop) (h0 : Pv 0 [] (upd H1 D (.lst []))) (hs : ∀ i ys H, i < n → Pv i ys H → turnC g tt te τ D ys (Pv (i + 1)) (.int (lo + i)) H) (hd : ∀ ys H, Pv n ys H → R H) :
    ∃ W : Nat → Nat → List V → Hp → Prop, (∃ m, W 0 m [] (upd H1 D (.lst []))) ∧ ∀ i m ys H, W i m ys H → ((Itr lo n).stop i H ∧ R H) ∨ ((Itr lo n).go i H ∧ ∃ N : List V → Hp → Prop, (∀ ys' H', N ys' H' → ∃ m', m' < m ∧ W (i + 1) m' ys' H') ∧ ∀ x H', (Itr lo n).yld i H x H' → turnC g tt te τ D ys N x H') :=
  comp_range (Q := fun _ H => R H) Pv h0 hs hd
end L2
namespace Be
open PySem L2
/-! ### worlds as data -/
def encB (p : Int × Int) : PyData := .tuple [.int p.1, .int p.2]
def encW (W : Wd) : PyData := .tuple [.int W.b, .tuple (W.bs.map encB)]
def encO (o : List Int) : PyData := .tuple (o.map .int)
theorem all_encB (bs : List (Int × Int)) : immut.all (bs.map encB) = true := by
  induction bs with
  | nil => rfl
  | cons p r ih =>
    rw [List.map_cons]
    show (immut (encB p) && immut.all (r.map encB)) = true
    rw [ih]; rfl
theorem im_W (W : Wd) : immut (encW W) = true := by
  show (immut (.int W.b) && (immut (.tuple (W.bs.map encB)) && true)) = true
  show (true && (immut.all (W.bs.map encB) && true)) = true
  rw [all_encB]; rfl
/-- what stands in the heap of a world -/
structure AtW (H : Hp) (v : V) (W : Wd) (a p : Addr) (vs : List V) : Prop where
  v : v = .ref a
  a : H a = some (.tup [.int W.b, .ref p])
  p : H p = some (.tup vs)
  it : ∀ (i : Nat) (x : Int × Int), W.bs[i]? = some x → ∃ q, vs[i]? = some (.ref q) ∧ H q = some (.tup [.int x.1, .int x.2])
  len : vs.length = W.bs.length
theorem pair_inv {H : Hp} {v : V} {x : Int × Int} (r : Rep H v (encB x)) : ∃ q, v = .ref q ∧ H q = some (.tup [.int x.1, .int x.2]) := by
  obtain ⟨q, vs, rfl, hq, rs⟩ := r.tup_inv
  have e : vs = [.int x.1, .int x.2] := Reps.ints_inv (ns := [x.1, x.2]) rs
  subst e
  exact ⟨q, rfl, hq⟩
theorem atW {H : Hp} {v : V} {W : Wd} (r : Rep H v (encW W)) : ∃ a p vs, AtW H v W a p vs := by
  obtain ⟨a, us, rfl, ha, rs⟩ := r.tup_inv
  cases rs with
  | cons r1 rs =>
    cases rs with
    | cons r2 rs =>
      cases rs
      cases r1.int_inv
      obtain ⟨p, vs, rfl, hp, rv⟩ := r2.tup_inv
      refine ⟨a, p, vs, rfl, ha, hp, fun i x e => ?_, by rw [rv.length, List.length_map]⟩
      obtain ⟨u, hu, ru⟩ := rv.get (i := i) (d := encB x) (by rw [List.getElem?_map, e]; rfl)
      obtain ⟨q, rfl, hq⟩ := pair_inv ru
      exact ⟨q, hu, hq⟩
theorem agree0 {x : V} {r : St} : ∀ (k : Nat) (v : V), (none :: r : St)[k]? = some (some v) → ((none :: r : St).set 0 (some x))[k]? = some (some v)
  | 0, v, h => by cases h
  | k + 1, v, h => h
theorem if_f {c : Bool} {A B : Prop} (h : c = false) (b : B) : if c = true then A else B := by subst h; exact b
theorem if_t {c : Bool} {A B : Prop} (h : c = true) (a : A) : if c = true then A else B := by subst h; exact a
theorem seqO {K : PySem.W.Frag} {H : Hp} {v : V} {o : List Int} (r : Rep H v (encO o)) : ∃ p, v = .ref p ∧ H p = some (.tup (o.map V.int)) := by
  obtain ⟨p, vs, rfl, hp, rs⟩ := r.tup_inv
  rw [Reps.ints_inv rs] at hp
  exact ⟨p, rfl, hp⟩
section
variable {P : Program} {w : World} {K : PySem.W.Frag} {mg : Str → Option Value} {base : Heap}
theorem atI_ints {ns : List Int} {k : Int} (h0 : 0 ≤ k) (h1 : k < (ns.length : Int)) : ∃ v : Int, atI (ns.map V.int) k = some (.int v) := by
  have hk : k.toNat < ns.length := by omega
  have ek : k = ((k.toNat : Nat) : Int) := by omega
  have q : atI (ns.map V.int) ((k.toNat : Nat) : Int) = some (.int ns[k.toNat]) := atI_nat (by rw [List.getElem?_map, List.getElem?_eq_getElem hk] <;> rfl)
  rw [← ek] at q
  exact ⟨_, q⟩
theorem atI_int {xs : List V} {v : V} {k : Int} (h0 : 0 ≤ k) (h : xs[k.toNat]? = some v) : atI xs k = some v := by
  have q := atI_nat h
  rw [show ((k.toNat : Nat) : Int) = k by omega] at q
  exact q
def sp_cell (K : PySem.W.Frag) : Sp := fun vs H Q _ => ∃ (a : Addr) (ns : List Int) (k : Int), vs = [.ref a, .int k] ∧ Scr K H a ns ∧ 0 ≤ k ∧ ∀ (r : Int) (H' : Hp), Same H H' → Q (.int r) H'
theorem ok_law_cell_at (T : Txt K mg) : FnOk P w K mg base (CXr P w) 1 T.law_cell_at.a T.law_cell_at.d ["_law_script", "_law_k"] (sp_cell K) := by
  refine T.law_cell_at.F.okN sc_law_cell_at (fun vs H Q E h => ?_) (fun cdv A outer s H vs Q E hr h => ?_)
  · obtain ⟨a, ns, k, rfl, _⟩ := h; rfl
  obtain ⟨a, ns, k, rfl, hS, h0, q⟩ := h
  refine ⟨_, (pss_cons (ps_if (pt_cmpR op_lt (pv 1) (pe_callB call_len_seq rfl T.n_len bt_len (pa_cons (pv 0) pa_nil)) (nomark _)) (pss_one (ps_ret (pe_ix ix_list (pv 0) (pv 1) (fun _ _ => rfl)))) pss_nil) (pss_cons (ps_if (pt_cmpR (op_eqNil hr.units0) (pv 0) (pe_lst pa_nil) (nomark _)) (pss_one (ps_ret pe_int)) pss_nil) (pss_one (ps_ret (pe_op op_add (pe_op op_mul (pe_ix ix_list (pv 0) (pe_op op_mod (pv 1) (pe_callB call_len_seq rfl T.n_len bt_len (pa_cons (pv 0) pa_nil))) (fun _ _ => rfl)) pe_int) (pv 1)))))), ?_⟩
  have hl : (ns.map V.int).length = ns.length := List.length_map _
  refine ⟨_, rfl, _, rfl, a, _, rfl, .inl hS.sq, _, _, rfl, rfl, _, rfl, ?_⟩
  refine ite2 (fun c => ?_) (fun c => ?_)
  · have c' := of_decide_eq_true c
    rw [hl] at c'
    obtain ⟨v, hv⟩ := atI_ints (ns := ns) h0 c'
    exact ⟨_, rfl, _, rfl, a, _, _, _, rfl, rfl, hS.sq, hv, q v H (Same.refl H)⟩
  · have c' := of_decide_eq_false (Bool.eq_false_iff.mpr c)
    rw [hl] at c'
    refine ⟨_, rfl, Nat.zero_le _, fun l hl' => ?_⟩
    have g1 := same_new hl' (.lst [])
    have hS1 := hS.same g1
    refine ⟨a, l, _, rfl, rfl, hS1.sq, SqL.of upd_same, _, rfl, ?_⟩
    refine ite2 (fun c2 => ?_) (fun c2 => ?_)
    · exact q 0 _ g1
    · have hne : ns ≠ [] := fun z => c2 (by rw [z]; rfl)
      have hpos : (0 : Int) < ((ns.map V.int).length : Int) := by rw [hl]; have := List.length_pos_iff.mpr hne; omega
      have m0 := Int.emod_nonneg k (show ((ns.map V.int).length : Int) ≠ 0 by omega)
      have m1 := Int.emod_lt_of_pos k hpos
      obtain ⟨v, hv⟩ := atI_ints (ns := ns) m0 (by rw [hl] at m1 ⊢; exact m1)
      exact ⟨_, rfl, _, rfl, _, rfl, a, _, rfl, .inl hS1.sq, _, _, rfl, rfl, hpos, a, _, _, _, rfl, rfl, hS1.sq, hv, _, _, rfl, rfl, .inr ⟨by decide, by decide⟩, _, rfl, _, _, rfl, rfl, q _ _ g1⟩
def sp_mixed (K : PySem.W.Frag) : Sp := fun vs H Q _ => ∃ (a : Addr) (ns : List Int) (k m : Int), vs = [.ref a, .int k, .int m] ∧ Scr K H a ns ∧ 0 ≤ k ∧ 0 < m ∧ ∀ (r : Int) (H' : Hp), 0 ≤ r → r < m → Same H H' → Q (.int r) H'
theorem ok_law_mixed (T : Txt K mg) : FnOk P w K mg base (CXr P w) 2 T.law_mixed.a T.law_mixed.d ["_law_script", "_law_k", "_law_many"] (sp_mixed K) := by
  refine T.law_mixed.F.okN sc_law_mixed (fun vs H Q E h => ?_) (fun cdv A outer s H vs Q E hr h => ?_)
  · obtain ⟨a, ns, k, m, rfl, _⟩ := h; rfl
  obtain ⟨a, ns, k, m, rfl, hS, h0, hm, q⟩ := h
  refine ⟨_, (pss_cons (ps_set (i := 3) sc_law_mixed.nd rfl (by first | exact Or.inl rfl | exact Or.inr rfl) (pe_op op_mod (pe_op op_add (pe_op op_add (pe_op op_mul (pe_call (ok_law_cell_at T) (hr.mono (by decide)) rfl T.law_cell_at.m T.law_cell_at.F.kp T.law_cell_at.b .nil passN (pa_cons (pv 0) (pa_cons (pv 1) pa_nil))) pe_int) (pe_op op_mul pe_int (pv 1))) pe_int) pe_int)) (pss_one (ps_ret (pe_op op_mod (pe_op op_mod (pe_op op_mod (pe_op op_pow (pv 3) pe_int) pe_int) pe_int) (pv 2))))), ?_⟩
  refine ⟨_, rfl, _, rfl, a, ns, k, rfl, hS, h0, fun r H1 g1 => ?_⟩
  refine ⟨_, _, rfl, rfl, .inr ⟨by decide, by decide⟩, _, rfl, _, _, rfl, rfl, .inl ⟨by decide, by decide⟩, _, _, rfl, rfl, _, _, rfl, rfl, _, _, rfl, rfl, (by show (0 : Int) < 2147483647; decide), ?_⟩
  have l1 := Int.emod_nonneg (r * 1103515245 + 7919 * k + 12345) (show (2147483647 : Int) ≠ 0 by decide)
  have l2 := Int.emod_lt_of_pos (r * 1103515245 + 7919 * k + 12345) (show (0 : Int) < 2147483647 by decide)
  refine ⟨_, rfl, _, _, rfl, rfl, ⟨by decide, by decide, ?_⟩, _, _, rfl, rfl, (by show (0 : Int) < 2147483647; decide), _, _, rfl, rfl, (by show (0 : Int) < 999983; decide), _, rfl, _, _, rfl, rfl, hm, ?_⟩
  · exact Nat.lt_of_lt_of_le (show _ < 2147483647 by omega) (by decide)
  exact q _ H1 (Int.emod_nonneg _ (by omega)) (Int.emod_lt_of_pos _ hm) g1
def sp_draw (K : PySem.W.Frag) : Sp := fun vs H Q _ => ∃ (a t : Addr) (ns : List Int) (n : Nat) (m : Int), vs = [.ref a, .ref t, .int m] ∧ Scr K H a ns ∧ H t = some (.lst (zeros n)) ∧ n < 5000 ∧ 0 < m ∧
  ∀ (r : Int) (H' : Hp), 0 ≤ r → r < m → SameX t H H' → H' t = some (.lst (zeros (n + 1))) → Q (.int r) H'
theorem ok_law_draw (T : Txt K mg) : FnOk P w K mg base (CXr P w) 3 T.law_draw.a T.law_draw.d ["_law_script", "_law_town", "_law_many"] (sp_draw K) := by
  refine T.law_draw.F.okN sc_law_draw (fun vs H Q E h => ?_) (fun cdv A outer s H vs Q E hr h => ?_)
  · obtain ⟨a, t, ns, n, m, rfl, _⟩ := h; rfl
  obtain ⟨a, t, ns, n, m, rfl, hS, ht, hn, hm, q⟩ := h
  refine ⟨_, (pss_cons (ps_expr (pe_bm PySem.F.plainAttrs_list PySem.F.slot_list_append PySem.F.type_list_append mt_append (pv 1) (pa_cons pe_int pa_nil))) (pss_one (ps_ret (pe_call (ok_law_mixed T) (hr.mono (by decide)) rfl T.law_mixed.m T.law_mixed.F.kp T.law_mixed.b .nil passN (pa_cons (pv 0) (pa_cons (pe_callB call_len_seq rfl T.n_len bt_len (pa_cons (pv 1) pa_nil)) (pa_cons (pv 2) pa_nil))))))), ?_⟩
  refine ⟨_, rfl, .inl ⟨rfl, _, SqL.of ht⟩, t, _, _, rfl, rfl, ht, (by rw [zeros_len]; exact Nat.lt_of_lt_of_le hn (by decide)), ?_⟩
  rw [zeros_succ]
  have gx : SameX t H (upd H t (.lst (zeros (n + 1)))) := (SameX.refl t H).write _
  have hS1 := gx.scr ht hS
  refine ⟨_, rfl, _, rfl, t, _, rfl, .inl (SqL.of upd_same), _, rfl, a, ns, _, m, rfl, hS1, by omega, hm, fun r H' l1 l2 g => ?_⟩
  exact q r H' l1 l2 (gx.trans (g.x t)) (g _ _ upd_same)
def sp_pick (K : PySem.W.Frag) : Sp := fun vs H Q _ => ∃ (a t p : Addr) (ns : List Int) (n : Nat) (xs : List V), vs = [.ref a, .ref t, .ref p] ∧ Scr K H a ns ∧ H t = some (.lst (zeros n)) ∧ n < 5000 ∧ H p = some (.lst xs) ∧ p ≠ t ∧ xs ≠ [] ∧
  ∀ (v : V) (H' : Hp), v ∈ xs → SameX t H H' → H' t = some (.lst (zeros (n + 1))) → Q v H'
theorem ok_law_pick (T : Txt K mg) : FnOk P w K mg base (CXr P w) 4 T.law_pick.a T.law_pick.d ["_law_script", "_law_town", "_law_some_here"] (sp_pick K) := by
  refine T.law_pick.F.okN sc_law_pick (fun vs H Q E h => ?_) (fun cdv A outer s H vs Q E hr h => ?_)
  · obtain ⟨a, t, p, ns, n, xs, rfl, _⟩ := h; rfl
  obtain ⟨a, t, p, ns, n, xs, rfl, hS, ht, hn, hp, hpt, hx, q⟩ := h
  refine ⟨_, (pss_one (ps_ret (pe_ix ix_list (pv 2) (pe_call (ok_law_draw T) (hr.mono (by decide)) rfl T.law_draw.m T.law_draw.F.kp T.law_draw.b .nil passN (pa_cons (pv 0) (pa_cons (pv 1) (pa_cons (pe_callB call_len_seq rfl T.n_len bt_len (pa_cons (pv 2) pa_nil)) pa_nil)))) (fun _ _ => rfl)))), ?_⟩
  have hpos := List.length_pos_iff.mpr hx
  refine ⟨_, rfl, _, rfl, _, rfl, _, rfl, p, _, rfl, .inl (SqL.of hp), a, t, ns, n, _, rfl, hS, ht, hn, by omega, fun r H' l1 l2 g ht' => ?_⟩
  have hr' : r.toNat < xs.length := by omega
  exact ⟨p, xs, r, xs[r.toNat], rfl, rfl, SqL.of (g p _ hpt hp), atI_int l1 (by simp [hr']), q _ H' (List.getElem_mem hr') g ht'⟩
def sp_world (K : PySem.W.Frag) : Sp := fun vs H Q _ => ∃ (a t : Addr) (ns : List Int) (n : Nat) (most wide : Int), vs = [.ref a, .ref t, .int most, .int wide] ∧ Scr K H a ns ∧ H t = some (.lst (zeros n)) ∧ n < 4000 ∧ 1 ≤ most ∧ most ≤ 10 ∧ 1 ≤ wide ∧ wide ≤ 99 ∧
  ∀ (W : Wd) (v : V) (n' : Nat) (H' : Hp), W.Ok → (W.bs.length : Int) ≤ most → (∀ p ∈ W.bs, p.2 ≤ p.1 + wide - 1) → Rep H' v (encW W) → SameX t H H' → H' t = some (.lst (zeros n')) → n' ≤ n + 24 → Q v H'
theorem ok_law_world (T : Txt K mg) : FnOk P w K mg base (CXr P w) 5 T.law_world.a T.law_world.d ["_law_script", "_law_town", "_law_most", "_law_wide"] (sp_world K) := by
  refine T.law_world.F.okN sc_law_world (fun vs H Q E h => ?_) (fun cdv A outer s H vs Q E hr h => ?_)
  · obtain ⟨a, t, ns, n, most, wide, rfl, _⟩ := h; rfl
  obtain ⟨a, t, ns, n, most, wide, rfl, hS, ht, hn, hm1, hm2, hw1, hw2, q⟩ := h
  refine ⟨_, (pss_cons (ps_set (i := 4) sc_law_world.nd rfl (by first | exact Or.inl rfl | exact Or.inr rfl) (pe_tup pa_nil)) (pss_cons (ps_set (i := 5) sc_law_world.nd rfl (by first | exact Or.inl rfl | exact Or.inr rfl) (pe_call (ok_law_pick T) (hr.mono (by decide)) rfl T.law_pick.m T.law_pick.F.kp T.law_pick.b .nil passN (pa_cons (pv 0) (pa_cons (pv 1) (pa_cons (pe_lst (pa_cons pe_int (pa_cons pe_int (pa_cons pe_int (pa_cons pe_int pa_nil))))) pa_nil))))) (pss_cons (ps_for PassesOwn.never rfl (pi_range1 rfl T.n_range (pa_cons (pe_op op_add pe_int (pe_call (ok_law_draw T) (hr.mono (by decide)) rfl T.law_draw.m T.law_draw.F.kp T.law_draw.b .nil passN (pa_cons (pv 0) (pa_cons (pv 1) (pa_cons (pv 2) pa_nil))))) pa_nil)) (pg_name (i := 6) sc_law_world.nd rfl (by first | exact Or.inl rfl | exact Or.inr rfl)) (pss_cons (ps_set (i := 7) sc_law_world.nd rfl (by first | exact Or.inl rfl | exact Or.inr rfl) (pe_op op_add pe_int (pe_call (ok_law_draw T) (hr.mono (by decide)) rfl T.law_draw.m T.law_draw.F.kp T.law_draw.b .nil passN (pa_cons (pv 0) (pa_cons (pv 1) (pa_cons (pv 5) pa_nil)))))) (pss_one (ps_set (i := 4) sc_law_world.nd rfl (by first | exact Or.inl rfl | exact Or.inr rfl) (pe_op op_catA (pv 4) (pe_tup (pa_cons (pe_tup (pa_cons (pv 7) (pa_cons (pe_callB (call_min2 rfl) rfl T.n_min bt_min (pa_cons pe_int (pa_cons (pe_op op_add (pv 7) (pe_call (ok_law_draw T) (hr.mono (by decide)) rfl T.law_draw.m T.law_draw.F.kp T.law_draw.b .nil passN (pa_cons (pv 0) (pa_cons (pv 1) (pa_cons (pv 3) pa_nil))))) pa_nil))) pa_nil))) pa_nil))))))) (pss_one (ps_ret (pe_tup (pa_cons (pe_op op_add pe_int (pe_call (ok_law_draw T) (hr.mono (by decide)) rfl T.law_draw.m T.law_draw.F.kp T.law_draw.b .nil passN (pa_cons (pv 0) (pa_cons (pv 1) (pa_cons pe_int pa_nil))))) (pa_cons (pv 4) pa_nil)))))))), ?_⟩
  -- made = ()
  refine ⟨by show 0 ≤ sizeLine; decide, fun m0 hm0 => ?_⟩
  have g0 := same_new hm0 (.tup [])
  have hS0 := hS.same g0
  have t0 := g0 _ _ ht
  have hm00 : upd H m0 (.tup []) m0 = some (.tup []) := upd_same
  generalize upd H m0 (.tup []) = H0 at *
  -- top
  refine ⟨_, rfl, _, rfl, (by show 4 ≤ sizeLine; decide), fun p hp => ?_⟩
  have hpt : p ≠ t := fun z => by rw [z, t0] at hp; cases hp
  have g1 := same_new hp (.lst [.int 4, .int 9, .int 30, .int 90])
  refine ⟨a, t, p, ns, n, _, rfl, hS0.same g1, g1 _ _ t0, by omega, upd_same, hpt, by simp, fun v H2 hv g2 t2 => ?_⟩
  obtain ⟨top', rfl, htop1, htop2⟩ : ∃ z : Int, v = .int z ∧ 1 ≤ z ∧ z ≤ 90 := by
    simp only [List.mem_cons, List.not_mem_nil, or_false] at hv
    rcases hv with rfl | rfl | rfl | rfl
    · exact ⟨4, rfl, by omega, by omega⟩
    · exact ⟨9, rfl, by omega, by omega⟩
    · exact ⟨30, rfl, by omega, by omega⟩
    · exact ⟨90, rfl, by omega, by omega⟩
  have gx2 : SameX t H0 H2 := (g1.x t).trans g2
  have hS2 := gx2.scr t0 hS0
  have m02 : m0 ≠ t := fun z => by rw [z, t0] at hm00; cases hm00
  have hm2' := gx2 _ _ m02 hm00
  -- how many
  refine ⟨_, rfl, _, rfl, _, rfl, a, t, ns, n + 1, most, rfl, hS2, t2, by omega, by omega, fun r H3 r0 r1 g3 t3 => ?_⟩
  have hS3 := g3.scr t2 hS2
  have gx3 : SameX t H H3 := ((g0.x t).trans gx2).trans g3
  refine ⟨_, _, rfl, rfl, 1 + r, rfl, by omega, by omega, for_range (n := (1 + r).toNat) (fun i σ H4 => ∃ (n2 : Nat) (m : Addr) (ws : List V) (bl : List (Int × Int)) (x y : Option V), σ = [some (.ref a), some (.ref t), some (.int most), some (.int wide), some (.ref m), some (.int top'), x, y] ∧
      SameX t H H4 ∧ H4 t = some (.lst (zeros n2)) ∧ n2 ≤ n + 2 + 2 * i ∧ H4 m = some (.tup ws) ∧ Reps H4 ws (bl.map encB) ∧ bl.length = i ∧ ∀ p ∈ bl, 1 ≤ p.1 ∧ p.1 ≤ p.2 ∧ p.2 ≤ 99 ∧ p.2 ≤ p.1 + wide - 1) ?_ ?_ ?_⟩
  · exact ⟨n + 2, m0, [], [], none, none, rfl, gx3, t3, by omega, g3 _ _ m02 hm2', .nil, rfl, fun p hp => nomatch hp⟩
  · rintro i σ H4 hi ⟨n2, m, ws, bl, x, y, rfl, g4, t4, hn2, hm4, rs, hbl, hb⟩
    have hi10 : i < 10 := by omega
    have hS4 := g4.scr ht hS
    refine ⟨_, rfl, _, rfl, _, rfl, a, t, ns, n2, top', rfl, hS4, t4, by omega, by omega, fun r1 H5 a1 a2 g5 t5 => ?_⟩
    have hS5 := g5.scr t4 hS4
    refine ⟨_, _, rfl, rfl, ?_⟩
    refine ⟨_, rfl, _, rfl, _, rfl, _, rfl, _, rfl, _, rfl, a, t, ns, n2 + 1, wide, rfl, hS5, t5, by omega, by omega, fun r2 H6 b1 b2 g6 t6 => ?_⟩
    refine ⟨_, _, rfl, rfl, _, _, rfl, (by show 2 ≤ sizeLine; decide), fun p3 hp3 => ?_⟩
    have mt : m ≠ t := fun z => by rw [z, t4] at hm4; cases hm4
    have ts6 : TSame H4 H6 := (g5.ts t4).trans (g6.ts t5)
    have k3 := same_new hp3 (.tup [.int (1 + r1), .int (if 1 + r1 + r2 < 99 then 1 + r1 + r2 else 99)])
    have e3 : upd H6 p3 (.tup [.int (1 + r1), .int (if 1 + r1 + r2 < 99 then 1 + r1 + r2 else 99)]) p3 = some (.tup [.int (1 + r1), .int (if 1 + r1 + r2 < 99 then 1 + r1 + r2 else 99)]) := upd_same
    generalize upd H6 p3 (.tup [.int (1 + r1), .int (if 1 + r1 + r2 < 99 then 1 + r1 + r2 else 99)]) = H7 at *
    refine ⟨by show 1 ≤ sizeLine; decide, fun p4 hp4 => ?_⟩
    have k4 := same_new hp4 (.tup [.ref p3])
    have e4 : upd H7 p4 (.tup [.ref p3]) p4 = some (.tup [.ref p3]) := upd_same
    generalize upd H7 p4 (.tup [.ref p3]) = H8 at *
    have k34 := k3.trans k4
    have hm8 := k34 _ _ (ts6 _ _ hm4)
    have wl := rs.length
    rw [List.length_map, hbl] at wl
    refine ⟨m, p4, ws, [.ref p3], rfl, rfl, hm8, e4, Nat.le_trans (show ws.length + 1 ≤ 100 by omega) (by decide), fun p5 H9 g9 h9 => ?_⟩
    have ts9 : TSame H4 H9 := (ts6.trans k34.ts).trans g9.ts
    refine ⟨n2 + 2, p5, ws ++ [.ref p3], bl ++ [(1 + r1, if 1 + r1 + r2 < 99 then 1 + r1 + r2 else 99)], _, _, rfl, ?_, g9 _ _ (k34 _ _ t6), by omega, h9, ?_, by simp [hbl], fun p hp => ?_⟩
    · exact ((g4.trans g5).trans g6).trans ((k34.trans g9).x t)
    · rw [List.map_append]
      refine (rs.tmono ts9 (all_encB bl)).append (Reps.one (.tup (g9 _ _ (k4 _ _ e3)) (Reps.ints (ns := [_, _]))))
    · rcases List.mem_append.mp hp with hp | hp
      · exact hb p hp
      · have e := List.mem_singleton.mp hp
        subst e
        dsimp only
        split <;> omega
  · rintro σ H4 ⟨n2, m, ws, bl, x, y, rfl, g4, t4, hn2, hm4, rs, hbl, hb⟩
    have hS4 := g4.scr ht hS
    have hbl' : bl.length = (1 + r).toNat := hbl
    refine ⟨_, rfl, _, rfl, a, t, ns, n2, 4, rfl, hS4, t4, by omega, by decide, fun r3 H5 c1 c2 g5 t5 => ?_⟩
    refine ⟨_, _, rfl, rfl, _, rfl, by show 2 ≤ sizeLine; decide, fun p2 hp2 => ?_⟩
    have k2 := same_new hp2 (.tup [.int (1 + r3), .ref m])
    have ts : TSame H4 (upd H5 p2 (.tup [.int (1 + r3), .ref m])) := (g5.ts t4).trans k2.ts
    refine q ⟨1 + r3, bl⟩ _ n2.succ _ ⟨by show 1 ≤ 1 + r3; omega, by show 1 + r3 ≤ 4; omega, by show 1 ≤ bl.length; omega, by show bl.length ≤ 10; omega, fun p hp => ?_⟩ (by show (bl.length : Int) ≤ most; omega) (fun p hp => (hb p hp).2.2.2) ?_ ((g4.trans g5).new hp2 _) (k2 _ _ t5) (by omega)
    · have := hb p hp
      exact ⟨this.1, this.2.1, this.2.2.1⟩
    · exact .tup upd_same (.cons (.int _) (.cons (.tup (ts _ _ hm4) (rs.tmono ts (all_encB bl))) .nil))
/-- lengths within bounds -/
def InB (W : Wd) (ls : List Int) : Prop := ls.length = W.bs.length ∧ ∀ (i : Nat) (p : Int × Int) (x : Int), W.bs[i]? = some p → ls[i]? = some x → p.1 ≤ x ∧ x ≤ p.2
theorem InB.l10 {W : Wd} {ls : List Int} (h : InB W ls) (hok : W.Ok) : ls.length ≤ 10 := by rw [h.1]; exact hok.l10
def sp_some (K : PySem.W.Frag) : Sp := fun vs H Q _ => ∃ (a t : Addr) (v : V) (ns : List Int) (n : Nat) (W : Wd), vs = [.ref a, .ref t, v] ∧ Scr K H a ns ∧ H t = some (.lst (zeros n)) ∧ n < 4000 ∧ Rep H v (encW W) ∧ W.Ok ∧
  ∀ (ls : List Int) (p : Addr) (n' : Nat) (H' : Hp), InB W ls → H' p = some (.tup (ls.map V.int)) → SameX t H H' → H' t = some (.lst (zeros n')) → n' ≤ n + 10 → Q (.ref p) H'
theorem agree2 {x y : V} {r : St} : ∀ (k : Nat) (v : V), (none :: none :: r : St)[k]? = some (some v) → (((none :: none :: r : St).set 0 (some x)).set 1 (some y))[k]? = some (some v)
  | 0, v, h => by cases h
  | 1, v, h => by cases h
  | k + 2, v, h => h
theorem ok_law_some (T : Txt K mg) : FnOk P w K mg base (CXr P w) 4 T.law_some.a T.law_some.d ["_law_script", "_law_town", "_law_world_here"] (sp_some K) := by
  refine T.law_some.F.okN sc_law_some (fun vs H Q E h => ?_) (fun cdv A outer s H vs Q E hr h => ?_)
  · obtain ⟨a, t, v, ns, n, W, rfl, _⟩ := h; rfl
  obtain ⟨a, t, v, ns, n, W, rfl, hS, ht, hn, hW, hok, q⟩ := h
  refine ⟨_, (pss_one (ps_ret (pe_callTy call_tuple_of rfl T.n_tuple bt_tuple (pa_cons (pe_comp (NB := ["_law_low", "_law_high", "_law_script", "_law_town"]) (js := [none, none, some 0, some 1]) rfl (blkOk_of rfl (by decide +kernel) rfl (by decide +kernel) (by decide +kernel) (by with_unfolding_all rfl) (by with_unfolding_all rfl) (by with_unfolding_all rfl) (by with_unfolding_all rfl)) (pi_tup (pe_ix ix_tup (pv 2) pe_int (fun _ _ => rfl))) (fun _ _ _ _ => (b_pg_tup K (n := 2) rfl (pgs_cons (pg_name (i := 0) (show (["_law_low", "_law_high", "_law_script", "_law_town"] : List Str).Nodup by decide +kernel) rfl (by first | exact Or.inl rfl | exact Or.inr rfl)) (pgs_cons (pg_name (i := 1) (show (["_law_low", "_law_high", "_law_script", "_law_town"] : List Str).Nodup by decide +kernel) rfl (by first | exact Or.inl rfl | exact Or.inr rfl)) pgs_nil)))) (fun _ _ _ _ => pf_nil) (fun _ _ _ _ => (pe_op op_add (pv 0) (pe_call (ok_law_draw T) (hr.mono (by decide)) rfl T.law_draw.m T.law_draw.F.kp T.law_draw.b .nil passN (pa_cons (pv 2) (pa_cons (pv 3) (pa_cons (pe_op op_add (pe_op op_sub (pv 1) (pv 0)) pe_int) pa_nil))))))) pa_nil)))), ?_⟩
  obtain ⟨ca, cp, cvs, AW⟩ := atW hW
  obtain rfl := AW.v
  have l10 := hok.l10
  refine ⟨_, rfl, ca, _, _, _, rfl, rfl, SqT.of AW.a, rfl, cp, rfl, ⟨_, SqT.of AW.p⟩, fun D hD => ?_⟩
  have Dt : D ≠ t := fun z => by rw [z, ht] at hD; cases hD
  refine comp_tupR (K := K) (a := cp) (xs := cvs) (fun i ys H2 => ∃ (n2 : Nat) (ls : List Int), SameX t H H2 ∧ H2 t = some (.lst (zeros n2)) ∧ n2 ≤ n + i ∧ H2 D = some (.lst ys) ∧ ys = ls.map V.int ∧ ls.length = i ∧ ∀ (j : Nat) (p : Int × Int) (x : Int), W.bs[j]? = some p → ls[j]? = some x → p.1 ≤ x ∧ x ≤ p.2)
    ⟨n, [], (SameX.refl t H).new hD _, by rw [upd_ne (Ne.symm Dt)]; exact ht, by omega, upd_same, rfl, rfl, fun j p x _ h => by cases h⟩ (fun i ys H2 _ hP => ?_) (fun i ys y H2 hy hP => ?_) (fun ys H2 hP => ?_)
  · obtain ⟨n2, ls, g, _⟩ := hP
    exact SqT.of (g.ts ht _ _ AW.p)
  · obtain ⟨n2, ls, g, t2, hn2, hD2, rfl, hll, hb⟩ := hP
    have hi : i < W.bs.length := by rw [← AW.len]; exact (List.getElem?_eq_some_iff.mp hy).1
    obtain ⟨q', hq', hqt⟩ := AW.it i _ (List.getElem?_eq_getElem hi)
    rw [hy] at hq'
    obtain rfl := Option.some.inj hq'
    have bp := hok.bd _ (List.getElem_mem hi)
    have epp : W.bs[i]? = some W.bs[i] := List.getElem?_eq_getElem hi
    generalize W.bs[i] = pp at *
    have hS2 := g.scr ht hS
    refine ⟨q', _, rfl, SqT.of (g.ts ht _ _ hqt), rfl, _, _, rfl, _, _, rfl, rfl, agree2, iteT ⟨_, rfl, _, rfl, _, rfl, _, rfl, _, rfl, _, _, rfl, rfl, _, _, rfl, rfl, a, t, ns, n2, _, rfl, hS2, t2, by omega, by omega, fun r H3 r0 r1 g3 t3 => ?_⟩⟩
    refine ⟨_, _, rfl, rfl, g3 _ _ Dt hD2, ?_, n2 + 1, ls ++ [pp.1 + r], ?_, ?_, by omega, upd_same, by rw [List.map_append]; rfl, by simp [hll], fun j p x hp hx => ?_⟩
    · rw [List.length_map]
      exact Nat.lt_of_lt_of_le (show _ < 100 by omega) (by decide)
    · intro b o nb hb'
      have nD : b ≠ D := fun z => by rw [z, hD] at hb'; cases hb'
      rw [upd_ne nD]
      exact g3 b o nb (g b o nb hb')
    · rw [upd_ne (Ne.symm Dt)]; exact t3
    · by_cases c : j < i
      · rw [List.getElem?_append_left (by omega)] at hx
        exact hb j p x hp hx
      · have hj := (List.getElem?_eq_some_iff.mp hx).1
        rw [List.length_append, hll] at hj
        simp only [List.length_cons, List.length_nil] at hj
        have ej : j = i := by omega
        subst ej
        rw [List.getElem?_append_right (by omega), hll, Nat.sub_self] at hx
        have ex : pp.1 + r = x := by simpa using hx
        rw [epp] at hp
        obtain rfl := Option.some.inj hp
        omega
  · obtain ⟨n2, ls, g, t2, hn2, hD2, rfl, hll, hb⟩ := hP
    refine ⟨D, _, rfl, .inl ⟨SqL.of hD2, fun p hp => ?_⟩⟩
    have k := same_new hp (.tup (ls.map V.int))
    exact q ls p n2 _ ⟨by rw [hll, AW.len], hb⟩ upd_same (g.trans (k.x t)) (k _ _ t2) (by rw [AW.len] at hn2; omega)
end
end Be
set_option Elab.async false
set_option linter.all false
set_option maxRecDepth 100000
namespace Be
open PySem L2
/-! ### what a world is, on data -/
def wholeIn (d : PyData) (lo hi : Int) : Bool := match d with
  | .int i => decide (lo ≤ i) && decide (i ≤ hi)
  | _ => false
def isPairD : PyData → Bool
  | .tuple ds => decide (ds.length = 2)
  | _ => false
def bowD : PyData → Bool
  | .tuple [.int i, b] => wholeIn (.int i) 1 99 && wholeIn b i 99
  | _ => false
def arBD : PyData → Bool
  | .tuple ds => decide (1 ≤ ds.length) && decide (ds.length ≤ 10) && ds.all bowD
  | _ => false
def isWD : PyData → Bool
  | .tuple [b, x] => wholeIn b 1 4 && arBD x
  | _ => false
theorem pair_of {d : PyData} (h : isPairD d = true) : ∃ x y, d = .tuple [x, y] := by
  cases d with
  | tuple ds =>
    have := of_decide_eq_true (show decide (ds.length = 2) = true from h)
    match ds, this with
    | [x, y], _ => exact ⟨x, y, rfl⟩
  | _ => cases h
theorem bow_no {d : PyData} (h : isPairD d = false) : bowD d = false := by
  unfold bowD
  split
  · cases h
  · rfl
theorem isW_no {d : PyData} (h : isPairD d = false) : isWD d = false := by
  unfold isWD
  split
  · cases h
  · rfl
section
variable {P : Program} {w : World} {K : PySem.W.Frag} {mg : Str → Option Value} {base : Heap}
def sp_whole : Sp := fun vs H Q _ => ∃ (v : V) (d : PyData) (lo hi : Int), vs = [v, .int lo, .int hi] ∧ Rep H v d ∧ Q (.bl (wholeIn d lo hi)) H
theorem ok_is_whole_within (T : Txt K mg) : FnOk P w K mg base (CXr P w) 1 T.is_whole_within.a T.is_whole_within.d ["thing", "least", "most"] sp_whole := by
  refine T.is_whole_within.F.okN sc_is_whole_within (fun vs H Q E h => ?_) (fun cdv A outer s H vs Q E hr h => ?_)
  · obtain ⟨v, d, lo, hi, rfl, _⟩ := h; rfl
  obtain ⟨v, d, lo, hi, rfl, hd, q⟩ := h
  refine ⟨_, (pss_cons (ps_if (PW.pt (pw_or (pt_not (pt_val (pe_callB (call_isi kit_int) rfl T.n_isinstance bt_isinstance (pa_cons (pv 0) (pa_cons (pe_bltn (v := .ty "int") rfl T.n_int bt_int rfl) pa_nil))))) (pw_or1 (pt_val (pe_callB (call_isi kit_bool) rfl T.n_isinstance bt_isinstance (pa_cons (pv 0) (pa_cons (pe_bltn (v := .ty "bool") rfl T.n_bool bt_bool rfl) pa_nil))))))) (pss_one (ps_ret pe_bl)) pss_nil) (pss_one (ps_ret (pe_chain op_le op_le (pv 1) (pv 0) (pv 2))))), ?_⟩
  refine ⟨_, rfl, v, d, rfl, hd, _, rfl, ?_⟩
  cases hd with
  | non => exact iteT (iteT q)
  | str x => exact iteT (iteT q)
  | lst e r => exact iteT (iteT q)
  | tup e r => exact iteT (iteT q)
  | bl b => exact iteF ⟨_, rfl, _, _, rfl, .bl b, _, rfl, iteT q⟩
  | int i =>
    refine iteF ⟨_, rfl, _, _, rfl, .int i, _, rfl, iteF ?_⟩
    refine ⟨_, rfl, _, rfl, _, _, rfl, rfl, _, rfl, ?_⟩
    refine ite2 (fun c => ?_) (fun c => ?_)
    · refine ⟨_, rfl, _, _, rfl, rfl, ?_⟩
      have e : wholeIn (.int i) lo hi = decide (i ≤ hi) := by show (decide (lo ≤ i) && decide (i ≤ hi)) = _; rw [c]; rfl
      rw [e] at q
      exact q
    · have e : wholeIn (.int i) lo hi = false := by show (decide (lo ≤ i) && decide (i ≤ hi)) = _; rw [Bool.eq_false_iff.mpr c]; rfl
      rw [e] at q
      exact q
def sp_pair : Sp := fun vs H Q _ => ∃ (v : V) (d : PyData), vs = [v] ∧ Rep H v d ∧ Q (.bl (isPairD d)) H
theorem ok_is_pair (T : Txt K mg) : FnOk P w K mg base (CXr P w) 1 T.is_pair.a T.is_pair.d ["thing"] sp_pair := by
  refine T.is_pair.F.okN sc_is_pair (fun vs H Q E h => ?_) (fun cdv A outer s H vs Q E hr h => ?_)
  · obtain ⟨v, d, rfl, _⟩ := h; rfl
  obtain ⟨v, d, rfl, hd, q⟩ := h
  refine ⟨_, (pss_one (ps_ret (pe_and (pe_callB (call_isi kit_tuple) rfl T.n_isinstance bt_isinstance (pa_cons (pv 0) (pa_cons (pe_bltn (v := .ty "tuple") rfl T.n_tuple bt_tuple rfl) pa_nil))) (pe_one (pe_cmpR op_eq (pe_callB call_len_seq rfl T.n_len bt_len (pa_cons (pv 0) pa_nil)) pe_int (nomark _)))))), ?_⟩
  refine ⟨_, rfl, v, d, rfl, hd, _, rfl, ?_⟩
  cases hd with
  | non => exact iteF q
  | str x => exact iteF q
  | bl b => exact iteF q
  | int i => exact iteF q
  | lst e r => exact iteF q
  | @tup a vs ds e r =>
    refine iteT ⟨_, rfl, a, _, rfl, .inr (SqT.of e), rfl, ?_⟩
    have z : decide (V.int (vs.length : Int) = V.int 2) = isPairD (.tuple ds) := by
      show _ = decide (ds.length = 2)
      rw [r.length]
      by_cases h2 : ds.length = 2
      · rw [h2]; rfl
      · rw [decide_eq_false h2, decide_eq_false]
        intro z
        have := V.int.inj z
        omega
    rw [z]
    exact q
def sp_bow : Sp := fun vs H Q _ => ∃ (v : V) (d : PyData), vs = [v] ∧ Rep H v d ∧ Q (.bl (bowD d)) H
theorem ok_are_bounds_of_work (T : Txt K mg) : FnOk P w K mg base (CXr P w) 2 T.are_bounds_of_work.a T.are_bounds_of_work.d ["thing"] sp_bow := by
  refine T.are_bounds_of_work.F.okN sc_are_bounds_of_work (fun vs H Q E h => ?_) (fun cdv A outer s H vs Q E hr h => ?_)
  · obtain ⟨v, d, rfl, _⟩ := h; rfl
  obtain ⟨v, d, rfl, hd, q⟩ := h
  refine ⟨_, (pss_cons (ps_if (PW.pt (pw_or (pt_not (pt_val (pe_call (ok_is_pair T) (hr.mono (by decide)) rfl T.is_pair.m T.is_pair.F.kp T.is_pair.b .nil passN (pa_cons (pv 0) pa_nil)))) (pw_or1 (pt_not (pt_val (pe_call (ok_is_whole_within T) (hr.mono (by decide)) rfl T.is_whole_within.m T.is_whole_within.F.kp T.is_whole_within.b .nil passN (pa_cons (pe_ix ix_tup (pv 0) pe_int (fun _ _ => rfl)) (pa_cons pe_int (pa_cons (pe_glob (v := .int 99) rfl T.c_MOST_LENGTH.choose_spec ⟨_, rfl⟩) pa_nil))))))))) (pss_one (ps_ret pe_bl)) pss_nil) (pss_one (ps_ret (pe_call (ok_is_whole_within T) (hr.mono (by decide)) rfl T.is_whole_within.m T.is_whole_within.F.kp T.is_whole_within.b .nil passN (pa_cons (pe_ix ix_tup (pv 0) pe_int (fun _ _ => rfl)) (pa_cons (pe_ix ix_tup (pv 0) pe_int (fun _ _ => rfl)) (pa_cons (pe_glob (v := .int 99) rfl T.c_MOST_LENGTH.choose_spec ⟨_, rfl⟩) pa_nil))))))), ?_⟩
  refine ⟨_, rfl, v, d, rfl, hd, _, rfl, ?_⟩
  cases hp : isPairD d with
  | false =>
    rw [bow_no hp] at q
    exact iteT (iteT q)
  | true =>
    obtain ⟨x, y, rfl⟩ := pair_of hp
    obtain ⟨a, vs, rfl, ha, rs⟩ := hd.tup_inv
    cases rs with
    | @cons v1 _ _ _ r1 rs =>
      cases rs with
      | @cons v2 _ _ _ r2 rs =>
        cases rs
        refine iteF ⟨_, rfl, a, _, _, _, rfl, rfl, SqT.of ha, rfl, _, x, 1, 99, rfl, r1, _, rfl, ?_⟩
        cases hx : wholeIn x 1 99 with
        | false =>
          have e : bowD (.tuple [x, y]) = false := by
            cases x with
            | int i => show (wholeIn (.int i) 1 99 && _) = false; rw [hx]; rfl
            | _ => rfl
          rw [e] at q
          exact iteT q
        | true =>
          cases r1 with
          | int i =>
            refine iteF ?_
            refine ⟨_, rfl, a, _, _, _, rfl, rfl, SqT.of ha, rfl, _, rfl, a, _, _, _, rfl, rfl, SqT.of ha, rfl, v2, y, i, 99, rfl, r2, ?_⟩
            have e : bowD (.tuple [.int i, y]) = wholeIn y i 99 := by show (wholeIn (.int i) 1 99 && _) = _; rw [hx]; rfl
            rw [e] at q
            exact q
          | _ => cases hx
def sp_arb : Sp := fun vs H Q _ => ∃ (v : V) (d : PyData), vs = [v] ∧ Rep H v d ∧ ∀ H', Same H H' → Q (.bl (arBD d)) H'
theorem ok_are_bounds (T : Txt K mg) : FnOk P w K mg base (CXr P w) 3 T.are_bounds.a T.are_bounds.d ["thing"] sp_arb := by
  refine T.are_bounds.F.okN sc_are_bounds (fun vs H Q E h => ?_) (fun cdv A outer s H vs Q E hr h => ?_)
  · obtain ⟨v, d, rfl, _⟩ := h; rfl
  obtain ⟨v, d, rfl, hd, q⟩ := h
  refine ⟨_, (pss_cons (ps_if (PW.pt (pw_or (pt_not (pt_val (pe_callB (call_isi kit_tuple) rfl T.n_isinstance bt_isinstance (pa_cons (pv 0) (pa_cons (pe_bltn (v := .ty "tuple") rfl T.n_tuple bt_tuple rfl) pa_nil))))) (pw_or1 (pt_not (pt_chain op_le op_le pe_int (pe_callB call_len_seq rfl T.n_len bt_len (pa_cons (pv 0) pa_nil)) (pe_glob (v := .int 10) rfl T.c_MOST_WORKS.choose_spec ⟨_, rfl⟩)))))) (pss_one (ps_ret pe_bl)) pss_nil) (pss_one (ps_ret (pe_callB (call_allL rfl) rfl T.n_all bt_all (pa_cons (pe_comp (NB := ["part"]) (js := [none]) rfl (blkOk_of rfl (by decide +kernel) rfl (by decide +kernel) (by decide +kernel) (by with_unfolding_all rfl) (by with_unfolding_all rfl) (by with_unfolding_all rfl) (by with_unfolding_all rfl)) (pi_tup (pv 0)) (fun _ _ _ _ => (pg_name (i := 0) (show (["part"] : List Str).Nodup by decide +kernel) rfl (by first | exact Or.inl rfl | exact Or.inr rfl))) (fun _ _ _ _ => pf_nil) (fun _ _ _ _ => (pe_call (ok_are_bounds_of_work T) (hr.mono (by decide)) rfl T.are_bounds_of_work.m T.are_bounds_of_work.F.kp T.are_bounds_of_work.b .nil passN (pa_cons (pv 0) pa_nil)))) pa_nil))))), ?_⟩
  refine ⟨_, rfl, v, d, rfl, hd, _, rfl, ?_⟩
  cases hd with
  | non => exact iteT (iteT (q H (Same.refl H)))
  | str x => exact iteT (iteT (q H (Same.refl H)))
  | bl b => exact iteT (iteT (q H (Same.refl H)))
  | int i => exact iteT (iteT (q H (Same.refl H)))
  | lst e r => exact iteT (iteT (q H (Same.refl H)))
  | @tup a vs ds e r =>
    have hl := r.length
    refine iteF ⟨_, rfl, a, _, rfl, .inr (SqT.of e), _, _, rfl, rfl, _, rfl, ?_⟩
    refine ite2 (fun c1 => ?_) (fun c1 => ?_)
    · have c1' : 1 ≤ (vs.length : Int) := of_decide_eq_true c1
      refine ⟨_, _, rfl, rfl, _, rfl, ?_⟩
      refine ite2 (fun c2 => ?_) (fun c2 => ?_)
      · have c2' : ¬ ((vs.length : Int) ≤ 10) := by simpa using c2
        have no : arBD (.tuple ds) = false := by
          show (_ && decide (ds.length ≤ 10) && _) = false
          rw [decide_eq_false (show ¬ ds.length ≤ 10 by omega)]; simp
        rw [no] at q
        exact q H (Same.refl H)
      · have c2' : (vs.length : Int) ≤ 10 := by simpa using c2
        have yes : arBD (.tuple ds) = ds.all bowD := by
          show (decide (1 ≤ ds.length) && decide (ds.length ≤ 10) && ds.all bowD) = _
          rw [decide_eq_true (show 1 ≤ ds.length by omega), decide_eq_true (show ds.length ≤ 10 by omega)]; rfl
        rw [yes] at q
        refine ⟨_, rfl, a, rfl, ⟨_, SqT.of e⟩, fun D hD => ?_⟩
        refine comp_tup (K := K) (a := a) (xs := vs) (Q := fun x H1 => rAll [x] H1 Q) (fun i ys H2 => Same H H2 ∧ H2 D = some (.lst ys) ∧ ys = ((ds.take i).map bowD).map V.bl) ⟨same_new hD _, upd_same, rfl⟩ (fun i ys H2 _ hP => SqT.of (hP.1 _ _ e)) (fun i ys x H2 hx hP => ?_) (fun ys H2 hP => ?_)
        · obtain ⟨g, hD2, rfl⟩ := hP
          obtain ⟨d, hd, rx⟩ := (r.mono g).get' hx
          have hi : i < ds.length := (List.getElem?_eq_some_iff.mp hd).1
          refine ⟨agree0, iteT ⟨_, rfl, x, d, rfl, rx, hD2, ?_, g.write hD _, upd_same, ?_⟩⟩
          · rw [List.length_map, List.length_map]
            have := List.length_take_le i ds
            exact Nat.lt_of_lt_of_le (show _ < 100 by omega) (by decide)
          · rw [List.take_add_one, hd, List.map_append, List.map_append]; rfl
        · obtain ⟨g, hD2, rfl⟩ := hP
          rw [hl, List.take_length] at hD2
          refine ⟨D, _, rfl, hD2, ?_⟩
          rw [List.all_map]
          exact q H2 g
    · refine ⟨_, rfl, iteT ?_⟩
      have c1' : ¬ (1 ≤ (vs.length : Int)) := of_decide_eq_false (Bool.eq_false_iff.mpr c1)
      have no : arBD (.tuple ds) = false := by
        show (decide (1 ≤ ds.length) && _ && _) = false
        rw [decide_eq_false (show ¬ 1 ≤ ds.length by omega)]; simp
      rw [no] at q
      exact q H (Same.refl H)
def sp_isw : Sp := fun vs H Q _ => ∃ (v : V) (d : PyData), vs = [v] ∧ Rep H v d ∧ ∀ H', Same H H' → Q (.bl (isWD d)) H'
theorem ok_is_world (T : Txt K mg) : FnOk P w K mg base (CXr P w) 4 T.is_world.a T.is_world.d ["thing"] sp_isw := by
  refine T.is_world.F.okN sc_is_world (fun vs H Q E h => ?_) (fun cdv A outer s H vs Q E hr h => ?_)
  · obtain ⟨v, d, rfl, _⟩ := h; rfl
  obtain ⟨v, d, rfl, hd, q⟩ := h
  refine ⟨_, (pss_one (ps_ret (pe_and (pe_call (ok_is_pair T) (hr.mono (by decide)) rfl T.is_pair.m T.is_pair.F.kp T.is_pair.b .nil passN (pa_cons (pv 0) pa_nil)) (pe_and (pe_call (ok_is_whole_within T) (hr.mono (by decide)) rfl T.is_whole_within.m T.is_whole_within.F.kp T.is_whole_within.b .nil passN (pa_cons (pe_ix ix_tup (pv 0) pe_int (fun _ _ => rfl)) (pa_cons pe_int (pa_cons (pe_glob (v := .int 4) rfl T.c_MOST_BENCHES.choose_spec ⟨_, rfl⟩) pa_nil)))) (pe_one (pe_call (ok_are_bounds T) (hr.mono (by decide)) rfl T.are_bounds.m T.are_bounds.F.kp T.are_bounds.b .nil passN (pa_cons (pe_ix ix_tup (pv 0) pe_int (fun _ _ => rfl)) pa_nil))))))), ?_⟩
  refine ⟨_, rfl, v, d, rfl, hd, _, rfl, ?_⟩
  cases hp : isPairD d with
  | false =>
    rw [isW_no hp] at q
    exact iteF (q H (Same.refl H))
  | true =>
    obtain ⟨x, y, rfl⟩ := pair_of hp
    obtain ⟨a, vs, rfl, ha, rs⟩ := hd.tup_inv
    cases rs with
    | @cons v1 _ _ _ r1 rs =>
      cases rs with
      | @cons v2 _ _ _ r2 rs =>
        cases rs
        refine iteT ⟨_, rfl, a, _, _, _, rfl, rfl, SqT.of ha, rfl, v1, x, 1, 4, rfl, r1, _, rfl, ?_⟩
        cases hx : wholeIn x 1 4 with
        | false =>
          have e : isWD (.tuple [x, y]) = false := by show (wholeIn x 1 4 && _) = false; rw [hx]; rfl
          rw [e] at q
          exact iteF (q H (Same.refl H))
        | true =>
          have e : isWD (.tuple [x, y]) = arBD y := by show (wholeIn x 1 4 && _) = _; rw [hx]; rfl
          rw [e] at q
          exact iteT ⟨_, rfl, a, _, _, _, rfl, rfl, SqT.of ha, rfl, v2, y, rfl, r2, fun H' g => q H' g⟩
def sp_cw (T : Txt K mg) : Sp := fun vs H Q E => ∃ (v : V) (d : PyData), vs = [v] ∧ Rep H v d ∧ (isWD d = true → ∀ H', Same H H' → Q .non H') ∧ (isWD d = false → ∀ H', Same H H' → E (.ref T.e_NoWorld.C) none H')
theorem ok_check_world (T : Txt K mg) : FnOk P w K mg base (CXr P w) 5 T.check_world.a T.check_world.d ["world"] (sp_cw T) := by
  refine T.check_world.F.okR sc_check_world (fun vs H Q E h => ?_) (fun cdv A outer s H vs Q E hr h => ?_)
  · obtain ⟨v, d, rfl, _⟩ := h; rfl
  obtain ⟨v, d, rfl, hd, q1, q2⟩ := h
  refine ⟨_, (pss_one (ps_if (pt_not (pt_val (pe_call (ok_is_world T) (hr.mono (by decide)) rfl T.is_world.m T.is_world.F.kp T.is_world.b .nil passN (pa_cons (pv 0) pa_nil)))) (pss_one (ps_raise T.e_NoWorld.m T.e_NoWorld.q PySem.F.excBase_ValueError hr.hd pe_str rfl)) pss_nil)), ?_⟩
  refine ⟨_, rfl, v, d, rfl, hd, fun H' g => ⟨_, rfl, ?_⟩⟩
  cases hw : isWD d with
  | true => exact iteF (q1 hw H' g)
  | false => exact iteT ⟨by show 1 ≤ sizeLine; decide, q2 hw H' g⟩
end
end Be
set_option Elab.async false
set_option linter.all false
set_option maxRecDepth 100000
namespace Be
open PySem L2
section
variable {P : Program} {w : World} {K : PySem.W.Frag} {mg : Str → Option Value} {base : Heap}
end
end Be
set_option Elab.async false
set_option linter.all false
set_option maxRecDepth 100000
namespace L2
open PySem PySem.Spec PyProof.Rows

/-! ### lists of pairs as tables -/
section
variable {κ : Type} [DecidableEq κ]
def valV (kvs : List (κ × V)) (k : κ) : Option V := (kvs.find? fun kv => decide (kv.1 = k)).map (·.2)
/-- in its place, or at the end -/
def putK (kvs : List (κ × V)) (k : κ) (v : V) : List (κ × V) :=
  if (kvs.any fun kv => decide (kv.1 = k)) = true then kvs.map (fun kv => if kv.1 = k then (kv.1, v) else kv) else kvs ++ [(k, v)]
theorem valV_pos {p : κ × V} {r : List (κ × V)} {k : κ} (e : p.1 = k) : valV (p :: r) k = some p.2 := by simp [valV, List.find?_cons, e]
theorem valV_neg {p : κ × V} {r : List (κ × V)} {k : κ} (e : ¬ p.1 = k) : valV (p :: r) k = valV r k := by simp [valV, List.find?_cons, e]
theorem valV_any (k : κ) : ∀ kvs : List (κ × V), (kvs.any fun kv => decide (kv.1 = k)) = (valV kvs k).isSome
  | [] => rfl
  | p :: r => by
    rw [List.any_cons]
    by_cases e : p.1 = k
    · simp only [valV_pos e, decide_eq_true e, Bool.true_or, Option.isSome_some]
    · rw [valV_neg e, decide_eq_false e, Bool.false_or]; exact valV_any k r
theorem length_putK (kvs : List (κ × V)) (k : κ) (v : V) : (putK kvs k v).length ≤ kvs.length + 1 := by
  unfold putK
  split
  · rw [List.length_map]; omega
  · rw [List.length_append, List.length_cons, List.length_nil]; omega
theorem putK_new {kvs : List (κ × V)} {k : κ} (v : V) (h : valV kvs k = none) : putK kvs k v = kvs ++ [(k, v)] := by
  unfold putK
  rw [valV_any, h]
  exact if_neg (by decide)

theorem RelO.isSome_eq {o : Option V} {u : Option Value} (r : RelO o u) : o.isSome = u.isSome := by
  cases o with
  | none => cases u with
    | none => rfl
    | some _ => exact (show False from r).elim
  | some _ => cases u with
    | none => exact (show False from r).elim
    | some _ => rfl
/-- raw tables of the same keys -/
theorem KV.val {kvs : List (κ × V)} {vs : List (κ × Value)} (r : KV kvs vs) (k : κ) : RelO (valV kvs k) (valueAt vs k) := by
  unfold KV at r
  induction r with
  | nil => exact True.intro
  | @cons p q ps qs h t ih =>
    obtain ⟨h1, h2⟩ := h
    by_cases e : p.1 = k
    · have e' : q.1 = k := h1.symm.trans e
      have b : valueAt (q :: qs) k = some q.2 := by simp [valueAt, List.find?_cons, e']
      rw [valV_pos e, b]; exact h2
    · have e' : ¬ q.1 = k := fun z => e (h1.trans z)
      have b : valueAt (q :: qs) k = valueAt qs k := by simp [valueAt, List.find?_cons, e']
      rw [valV_neg e, b]; exact ih
theorem KV.any {kvs : List (κ × V)} {vs : List (κ × Value)} (r : KV kvs vs) (k : κ) : (kvs.any fun kv => decide (kv.1 = k)) = vs.any fun kv => decide (kv.1 = k) := by
  unfold KV at r
  induction r with
  | nil => rfl
  | cons h t ih => rw [List.any_cons, List.any_cons, ih, h.1]
theorem KV.repl {kvs : List (κ × V)} {vs : List (κ × Value)} (r : KV kvs vs) (k : κ) {y : V} {u : Value} (ry : RelV y u) :
    KV (kvs.map fun kv => if kv.1 = k then (kv.1, y) else kv) (vs.map fun kv => if kv.1 = k then (kv.1, u) else kv) := by
  unfold KV at r ⊢
  induction r with
  | nil => exact .nil
  | @cons p q ps qs h t ih =>
    rw [List.map_cons, List.map_cons]
    refine .cons ?_ ih
    obtain ⟨h1, h2⟩ := h
    by_cases e : p.1 = k
    · rw [if_pos e, if_pos (h1.symm.trans e)]; exact ⟨h1, ry⟩
    · rw [if_neg e, if_neg (fun z => e (h1.trans z))]; exact ⟨h1, h2⟩
theorem KV.put {kvs : List (κ × V)} {vs : List (κ × Value)} (r : KV kvs vs) (k : κ) {y : V} {u : Value} (ry : RelV y u) : KV (putK kvs k y) (stored vs k u) := by
  unfold putK stored
  rw [r.any k]
  by_cases e : (vs.any fun kv => decide (kv.1 = k)) = true
  · rw [if_pos e, if_pos e]; exact r.repl k ry
  · rw [if_neg e, if_neg e]; exact Paired.snoc r ⟨rfl, ry⟩
theorem KV.length {kvs : List (κ × V)} {vs : List (κ × Value)} (r : KV kvs vs) : kvs.length = vs.length := Paired.length r
end


/-! ### a tracked dict, its keys ints and texts or tuples of these -/
theorem kV_is {P : Program} {w : World} {k : Key} {u : Value} (r : RelV (kV k) u) : (mixKind P w).is k u = true := by
  cases k with
  | inl i => obtain ⟨t, e⟩ := (show ∃ t, u = Value.int i t from r); subst e; exact mixKind_int P w i t
  | inr x => obtain ⟨t, e⟩ := (show ∃ t, u = Value.str x t from r); subst e; exact mixKind_str P w x t
theorem items_are {P : Program} {w : World} : ∀ {ks : List Key} {us : List Value}, Vals (ks.map kV) us → ItemsAre (mixKind P w) ks us
  | [], _, r => by rw [List.map_nil] at r; cases r; exact .nil
  | k :: ks, _, r => by
    rw [List.map_cons] at r
    cases r with
    | cons h t => exact .cons (kV_is h) (items_are t)

/-- raw entries of a dict with tuple keys -/
abbrev KT (H : Hp) : List (List Key × V) → List (List Key × Addr × Value) → Prop := Paired fun p q => p.1 = q.1 ∧ H q.2.1 = some (.tup (p.1.map kV)) ∧ RelV p.2 q.2.2
theorem KT.val {H : Hp} {kvs : List (List Key × V)} {xs : List (List Key × Addr × Value)} (r : KT H kvs xs) (k : List Key) : RelO (valV kvs k) ((atKey xs k).map (·.2)) := by
  induction r with
  | nil => exact True.intro
  | @cons p q ps qs h t ih =>
    obtain ⟨h1, _, h2⟩ := h
    by_cases e : p.1 = k
    · have e' : q.1 = k := h1.symm.trans e
      have b : atKey (q :: qs) k = some q.2 := by simp [atKey, List.find?_cons, e']
      rw [valV_pos e, b]; exact h2
    · have e' : ¬ q.1 = k := fun z => e (h1.trans z)
      have b : atKey (q :: qs) k = atKey qs k := by simp [atKey, List.find?_cons, e']
      rw [valV_neg e, b]; exact ih
theorem KT.repl {H : Hp} {kvs : List (List Key × V)} {xs : List (List Key × Addr × Value)} (r : KT H kvs xs) (k : List Key) {y : V} {u : Value} (ry : RelV y u) :
    KT H (kvs.map fun kv => if kv.1 = k then (kv.1, y) else kv) (xs.map (putAt k u)) := by
  induction r with
  | nil => exact .nil
  | @cons p q ps qs h t ih =>
    rw [List.map_cons, List.map_cons]
    refine .cons ?_ ih
    obtain ⟨h1, h2, h3⟩ := h
    unfold putAt
    by_cases e : p.1 = k
    · rw [if_pos e, if_pos (h1.symm.trans e)]; exact ⟨h1, h2, ry⟩
    · rw [if_neg e, if_neg (fun z => e (h1.trans z))]; exact ⟨h1, h2, h3⟩
theorem KT.put {H : Hp} {kvs : List (List Key × V)} {xs : List (List Key × Addr × Value)} (r : KT H kvs xs) (k : List Key) {b : Addr} {y : V} {u : Value} (hb : H b = some (.tup (k.map kV))) (ry : RelV y u) :
    KT H (putK kvs k y) (storedH xs k b u) := by
  have e : (kvs.any fun kv => decide (kv.1 = k)) = (atKey xs k).isSome := by
    rw [valV_any, (r.val k).isSome_eq, Option.isSome_map]
  unfold putK storedH
  rw [e]
  by_cases q : (atKey xs k).isSome = true
  · rw [if_pos q, if_pos q]; exact r.repl k ry
  · rw [if_neg q, if_neg q]; exact Paired.snoc r ⟨rfl, hb, ry⟩
theorem KT.keeps {H H' : Hp} {kvs : List (List Key × V)} {xs : List (List Key × Addr × Value)} (r : KT H kvs xs) (ht : ∀ b ys, H b = some (.tup ys) → H' b = some (.tup ys)) : KT H' kvs xs :=
  Paired.mapP r fun _ _ z => ⟨z.1, ht _ _ z.2.1, z.2.2⟩

section
variable {P : Program} {w : World} {H : Hp} {h : Heap} {a : Addr}
theorem rd_of {u : HO} (ok : HOk P w H h) (e : Rd H a u) : ObjOk P w H h a u := e.ok ok
theorem dk_rd {kvs : List (Key × V)} (ok : HOk P w H h) (e : Rd H a (.dK kvs)) : kvs.length ≤ sizeLine ∧ (a == sysModules) = false ∧ ∃ vs, KV kvs vs ∧ h.DictOf (mixKind P w) a vs :=
  show ObjOk P w H h a (.dK kvs) from rd_of ok e
theorem dk_of {kvs : List (Key × V)} (ok : HOk P w H h) (e : H a = some (.dK kvs)) : kvs.length ≤ sizeLine ∧ (a == sysModules) = false ∧ ∃ vs, KV kvs vs ∧ h.DictOf (mixKind P w) a vs := dk_rd ok (.inl e)
/-- a tracked tuple of ints and texts is a key -/
theorem key_of {ks : List Key} (ok : HOk P w H h) (e : H a = some (.tup (ks.map kV))) : (tupleKind (mixKind P w)).is h ks a := by
  obtain ⟨_, its, r, o, h1, h2, _, n, h3⟩ := (show ObjOk P w H h a (.tup (ks.map kV)) from ok a _ e)
  exact ⟨o, its.toArray, n, h1, h2, h3, by simpa using items_are r⟩
theorem dt_rd {kvs : List (List Key × V)} (ok : HOk P w H h) (e : Rd H a (.dT kvs)) : kvs.length ≤ sizeLine ∧ (a == sysModules) = false ∧
    ∃ xs, KT H kvs xs ∧ h.DictOfH (tupleKind (mixKind P w)) a xs := by
  obtain ⟨z, y, xs, r, o, es, ep, h1, h2, h3, h4, h5⟩ := (show ObjOk P w H h a (.dT kvs) from rd_of ok e)
  refine ⟨z, y, xs, r, o, es, ep, h1, h2, h3, h4, fun x hx => ?_, h5⟩
  have all : ∀ {l : List (List Key × V)} {m : List (List Key × Addr × Value)}, KT H l m → ∀ x ∈ m, (tupleKind (mixKind P w)).is h x.1 x.2.1 := by
    intro l m q
    induction q with
    | nil => intro x hx; exact nomatch hx
    | @cons p q ps qs hq t ih =>
      intro x hx
      rcases List.mem_cons.mp hx with e | hx
      · subst e
        exact key_of ok (by rw [← hq.1]; exact hq.2.1)
      · exact ih x hx
  exact all r x hx
theorem dt_of {kvs : List (List Key × V)} (ok : HOk P w H h) (e : H a = some (.dT kvs)) : kvs.length ≤ sizeLine ∧ (a == sysModules) = false ∧
    ∃ xs, KT H kvs xs ∧ h.DictOfH (tupleKind (mixKind P w)) a xs := dt_rd ok (.inl e)
end

/-- what the dict at a holds at the key y -/
def DGet (H : Hp) (a : Addr) (y : V) (r : Option V) : Prop :=
  (∃ kvs k, Rd H a (.dK kvs) ∧ y = kV k ∧ r = valV kvs k) ∨ ∃ kvs k b, Rd H a (.dT kvs) ∧ y = .ref b ∧ H b = some (.tup (k.map kV)) ∧ r = valV kvs k
/-- the heap behind a[y] = v -/
def DPut (H : Hp) (a : Addr) (y v : V) (H' : Hp) : Prop :=
  (∃ kvs k, H a = some (.dK kvs) ∧ y = kV k ∧ kvs.length < sizeLine ∧ H' = upd H a (.dK (putK kvs k v))) ∨
  ∃ kvs k b, H a = some (.dT kvs) ∧ y = .ref b ∧ H b = some (.tup (k.map kV)) ∧ kvs.length < sizeLine ∧ H' = upd H a (.dT (putK kvs k v))
theorem DGet.k {H : Hp} {a : Addr} {kvs : List (Key × V)} {k : Key} (e : H a = some (.dK kvs)) : DGet H a (kV k) (valV kvs k) := .inl ⟨kvs, k, .inl e, rfl, rfl⟩
theorem DPut.k {H : Hp} {a : Addr} {kvs : List (Key × V)} {k : Key} {v : V} (e : H a = some (.dK kvs)) (hl : kvs.length < sizeLine) : DPut H a (kV k) v (upd H a (.dK (putK kvs k v))) := .inl ⟨kvs, k, e, rfl, hl, rfl⟩
section
variable {X : Cx} {pins : List (Addr × Obj)} {σ : St} {H : Hp} {s : Shared} {a : Addr} {y v : V} {u r : Value} {o : Option V} {A : Around} {E : Value → Shared → Prop}

theorem Inv.big (I : Inv X pins σ H s) : sysModules < s.heap.objs.size := by
  have h : mainGlobals < s.heap.objs.size := (I.mod.glob.keeps I.bk).lt
  exact Nat.lt_trans (by decide) h

/-- y in d -/
theorem d_in {Q : Value → Shared → Prop} (hu : A.units + 1 < cLine) (I : Inv X pins σ H s) (g : DGet H a y o) (ry : RelV y u) (h : ∀ s', Inv X pins σ H s' → Q (.bool o.isSome) s') :
    wpAny (model X.prog X.w) A (compareOp .In u (.ref a)) Q E s := by
  rcases g with ⟨kvs, k, e, ey, l⟩ | ⟨kvs, k, b, e, ey, eb, l⟩
  · subst ey
    obtain ⟨z, hd, vs, rel, dd⟩ := dk_rd I.hok e
    refine wpAny_in_of (kV_is ry) hd dd.mapOf ?_
    rw [← (rel.val k).isSome_eq, ← l]
    exact h _ (I.tok _)
  · subst ey
    cases (show u = Value.ref b from ry)
    obtain ⟨z, hd, xs, rel, dd⟩ := dt_rd I.hok e
    refine wpAny_in_heap (tupleKind_room_in1 hu) (key_of I.hok eb) hd dd ?_
    have q := (rel.val k).isSome_eq
    rw [Option.isSome_map] at q
    rw [← q, ← l]
    exact h _ (I.tok _)
/-- a dict's object is replaced -/
theorem d_write {h' : Heap} {t' : Nat} {ob : HO} (I : Inv X pins σ H s) (mu : Mut (H a)) (hs : Heap.SameBut a s.heap h') (he : ∃ q, h'.get? a = some q) (new : ObjOk X.prog X.w (upd H a ob) h' a ob) :
    Inv X pins σ (upd H a ob) { s with heap := h', toks := t' } :=
  I.write (x := a) (e := a) mu (.inl rfl) (fun b q hb z => (hs.2 b hb).trans z) he new
theorem dk_new {P : Program} {w : World} {H' : Hp} {h' : Heap} {kvs : List (Key × V)} {vs : List (Key × Value)} (z : kvs.length ≤ sizeLine) (hd : (a == sysModules) = false) (rel : KV kvs vs) (dd : h'.DictOf (mixKind P w) a vs) :
    ObjOk P w H' h' a (.dK kvs) := ⟨z, hd, vs, rel, dd⟩
/-- d[y] = v -/
theorem d_setItem {H' : Hp} {Q : Unit → Shared → Prop} (hu : A.units + 1 < cLine) (I : Inv X pins σ H s) (g : DPut H a y v H') (ry : RelV y u) (rv : RelV v r) (h : ∀ s', Inv X pins σ H' s' → Q () s') :
    wpAny (model X.prog X.w) A (setItem (.ref a) u r) Q E s := by
  rcases g with ⟨kvs, k, e, ey, l, eH⟩ | ⟨kvs, k, b, e, ey, eb, l, eH⟩
  · subst ey eH
    obtain ⟨z, hd, vs, rel, dd⟩ := dk_of I.hok e
    have hz : vs.length ≤ sizeLine := by rw [← rel.length]; exact z
    have hl : (putK kvs k v).length ≤ sizeLine := by have := length_putK kvs k v; omega
    refine wpAny_setItem_pairs (hsz := hz) (kV_is ry) dd fun h' dd' hs => h _ ?_
    have he : ∃ q, h'.get? a = some q := let ⟨q, _, _, hq, _⟩ := dd'; ⟨q, hq⟩
    exact d_write I (by rw [e]; exact True.intro) hs he (dk_new hl hd (rel.put k rv) dd')
  · subst ey eH
    cases (show u = Value.ref b from ry)
    obtain ⟨z, hd, xs, rel, dd⟩ := dt_of I.hok e
    have hz : xs.length ≤ sizeLine := by rw [← Paired.length rel]; exact z
    have hl : (putK kvs k v).length ≤ sizeLine := by have := length_putK kvs k v; omega
    refine wpAny_setItem_heap (hsz := hz) (tupleKind_room_in1 hu) (key_of I.hok eb) dd fun h' dd' hs => h _ ?_
    obtain ⟨q, es, ep, hq, h2, h3, h4, _, h5⟩ := dd'
    refine d_write I (by rw [e]; exact True.intro) hs ⟨q, hq⟩ ⟨hl, hd, _, (rel.put k eb rv).keeps fun c ys ec => ?_, q, es, ep, hq, h2, h3, h4, h5⟩
    rw [upd_ne (ne_of ec e (fun z => nomatch z))]
    exact ec
end

section
variable {X : Cx} {pins : List (Addr × Obj)} {σ : St} {H : Hp} {s : Shared} {a : Addr} {kvs : List (Key × V)} {k : Key} {u : Value} {A : Around} {E : Value → Shared → Prop}
end


/-! ### readings and rules -/
/-- y in d, y not in d -/
def tDIn (ty td : TE) : TE := fun σ H Q => ty σ H fun y H1 => td σ H1 fun x H2 => ∃ a o, x = .ref a ∧ DGet H2 a y o ∧ Q (.bl o.isSome) H2
/-- d[y] = v -/
def sDPut (td ty tv : TE) : TS := fun D σ H => tv σ H fun v H1 => td σ H1 fun x H2 => ty σ H2 fun y H3 => ∃ a H4, x = .ref a ∧ DPut H3 a y v H4 ∧ D.nx σ H4
section
variable {X : Cx} {o i e value : Expr} {pos pos' tpos : Pos} {td ty tv : TE}
theorem pc_din (hu : X.A.units + 1 < cLine) (hi : PE X i ty) (ho : PE X o td) : PC X .In i o (tDIn ty td) := by
  intro pins s σ H Q I h
  refine thn (hi pins s σ H _ I h) fun iv s1 ⟨y, H1, I1, ry, q1⟩ => thn (ho pins s1 σ H1 _ I1 q1) fun u s2 ⟨x, H2, I2, rx, a, ov, ex, g, q2⟩ => ?_
  subst ex
  obtain rfl : u = Value.ref a := rx
  exact d_in hu I2 g ry fun s3 I3 => ⟨.bl ov.isSome, H2, I3, rfl, q2⟩
theorem ps_dput (hu : X.A.units + 1 < cLine) (ho : PE X o td) (hi : PE X i ty) (hv : PE X value tv) (hs : swapsWith value (some (.Subscript o i pos')) pos.line X.env = pure false) :
    PS X (.Assign [.Subscript o i pos'] value pos) (sDPut td ty tv) := by
  intro pins s σ H D I h
  refine wpAny_Assign_Subscript (thn (hv pins s σ H _ I h) fun r s1 ⟨v, H1, I1, rv, q1⟩ => thn (ho pins s1 σ H1 _ I1 q1) fun u s2 ⟨x, H2, I2, rx, q2⟩ => thn (hi pins s2 σ H2 _ I2 q2) fun iv s3 ⟨y, H3, I3, ry, a, H4, ex, g, q3⟩ => ?_) hs
  subst ex
  obtain rfl : u = Value.ref a := rx
  exact d_setItem hu I3 g ry rv fun s4 I4 => ⟨σ, H4, I4, q3⟩
end


/-! ### displays -/
theorem dk_empty {P : Program} {w : World} {H : Hp} (h : Heap) (hb : sysModules < h.objs.size) : ObjOk P w H (h.push { cls := .type "dict", data := .dict #[] }) h.objs.size (.dK []) :=
  ⟨Nat.zero_le _, beq_eq_false_iff_ne.mpr (Ne.symm (Nat.ne_of_lt hb)), [], .nil, Heap.DictOf.new h⟩
/-- {}, to be a dict of the kind that is wanted -/
def tDNewK : TE := fun _ H Q => ∀ p, H p = none → Q (.ref p) (upd H p (.dK []))
section
variable {X : Cx} {pos : Pos}
theorem pe_dnewK : PE X (.Dict [] [] pos) tDNewK := fun pins s σ H Q I h =>
  wpAny_Dict_empty ⟨.ref s.heap.objs.size, _, I.laid (a := s.heap.objs.size) (o := .dK []) (t' := s.toks) (fun _ _ q => Heap.get?_push_of_some _ q) (Nat.le_refl _) (dk_empty s.heap I.big), rfl, h _ (I.hok.fresh (Nat.le_refl _))⟩
end

/-! ### methods -/
section
variable {X : Cx} {pins : List (Addr × Obj)} {σ : St} {H : Hp} {s : Shared} {a : Addr} {y d : V} {u r : Value} {o : Option V} {A : Around} {E : Value → Shared → Prop}
end

section
variable {X : Cx} {o e f : Expr} {apos cpos : Pos} {td ty tx : TE}
end

/-! ### dict(d): a copy -/
section
variable {X : Cx} {pins : List (Addr × Obj)} {σ : St} {H : Hp} {s : Shared} {a : Addr} {kvs : List (Key × V)} {A : Around} {E : Value → Shared → Prop}
end


section
variable {X : Cx} {pins : List (Addr × Obj)} {σ : St} {H : Hp} {s : Shared} {a : Addr} {y : V} {u : Value} {A : Around} {E : Value → Shared → Prop}
end
end L2
set_option Elab.async false
set_option linter.all false
set_option maxRecDepth 100000
namespace Be
open PySem L2
/-! ### what an order is, on data -/
def ordGo (W : Wd) : List PyData → Nat → List Int → Bool
  | [], _, _ => true
  | d :: r, i, seen => match d with
    | .int x => decide (0 ≤ x) && decide (x < (began W i : Int)) && decide (x ∉ seen) && ordGo W r (i + 1) (seen ++ [x])
    | _ => false
def ordD (W : Wd) : PyData → Bool
  | .tuple ds => ordGo W ds 0 []
  | _ => false
def seenK (seen : List Int) : List (Key × V) := seen.map fun x => (Sum.inl x, V.bl true)
theorem valV_seen (x : Int) : ∀ seen : List Int, (valV (seenK seen) (Sum.inl x : Key)).isSome = decide (x ∈ seen)
  | [] => by simp [seenK, valV]
  | y :: r => by
    have ih := valV_seen x r
    by_cases h : y = x
    · subst h
      rw [show seenK (y :: r) = ((Sum.inl y : Key), V.bl true) :: seenK r from rfl, valV_pos rfl]
      simp
    · rw [show seenK (y :: r) = ((Sum.inl y : Key), V.bl true) :: seenK r from rfl, valV_neg (fun z => h (Sum.inl.inj z)), ih]
      have h2 : ¬ x = y := fun z => h z.symm
      simp [h2]
section
variable {P : Program} {w : World} {K : PySem.W.Frag} {mg : Str → Option Value} {base : Heap}
def sp_hmw : Sp := fun vs H Q _ => ∃ (v : V) (W : Wd), vs = [v] ∧ Rep H v (encW W) ∧ Q (.int W.bs.length) H
theorem ok_how_many_works (T : Txt K mg) : FnOk P w K mg base (CXr P w) 1 T.how_many_works.a T.how_many_works.d ["world"] sp_hmw := by
  refine T.how_many_works.F.okN sc_how_many_works (fun vs H Q E h => ?_) (fun cdv A outer s H vs Q E hr h => ?_)
  · obtain ⟨v, W, rfl, _⟩ := h; rfl
  obtain ⟨v, W, rfl, hW, q⟩ := h
  obtain ⟨a, p, vs, AW⟩ := atW hW
  obtain rfl := AW.v
  refine ⟨_, (pss_one (ps_ret (pe_callB call_len_seq rfl T.n_len bt_len (pa_cons (pe_ix ix_tup (pv 0) pe_int (fun _ _ => rfl)) pa_nil)))), ?_⟩
  refine ⟨_, rfl, a, _, _, _, rfl, rfl, SqT.of AW.a, rfl, p, _, rfl, .inr (SqT.of AW.p), ?_⟩
  rw [AW.len]
  exact q
def sp_hmbn : Sp := fun vs H Q _ => ∃ (v : V) (W : Wd), vs = [v] ∧ Rep H v (encW W) ∧ Q (.int W.b) H
theorem ok_how_many_benches (T : Txt K mg) : FnOk P w K mg base (CXr P w) 1 T.how_many_benches.a T.how_many_benches.d ["world"] sp_hmbn := by
  refine T.how_many_benches.F.okN sc_how_many_benches (fun vs H Q E h => ?_) (fun cdv A outer s H vs Q E hr h => ?_)
  · obtain ⟨v, W, rfl, _⟩ := h; rfl
  obtain ⟨v, W, rfl, hW, q⟩ := h
  obtain ⟨a, p, vs, AW⟩ := atW hW
  obtain rfl := AW.v
  refine ⟨_, (pss_one (ps_ret (pe_ix ix_tup (pv 0) pe_int (fun _ _ => rfl)))), ?_⟩
  exact ⟨_, rfl, a, _, _, _, rfl, rfl, SqT.of AW.a, rfl, q⟩
def sp_hmb : Sp := fun vs H Q _ => ∃ (v : V) (W : Wd) (n : Nat), vs = [v, .int n] ∧ Rep H v (encW W) ∧ 0 ≤ W.b ∧ Q (.int (began W n : Int)) H
theorem ok_how_many_began (T : Txt K mg) : FnOk P w K mg base (CXr P w) 2 T.how_many_began.a T.how_many_began.d ["world", "ends"] sp_hmb := by
  refine T.how_many_began.F.okN sc_how_many_began (fun vs H Q E h => ?_) (fun cdv A outer s H vs Q E hr h => ?_)
  · obtain ⟨v, W, n, rfl, _⟩ := h; rfl
  obtain ⟨v, W, n, rfl, hW, hb, q⟩ := h
  obtain ⟨a, p, vs, AW⟩ := atW hW
  obtain rfl := AW.v
  refine ⟨_, (pss_one (ps_ret (pe_callB (call_min2 rfl) rfl T.n_min bt_min (pa_cons (pe_op op_add (pe_call (ok_how_many_benches T) (hr.mono (by decide)) rfl T.how_many_benches.m T.how_many_benches.F.kp T.how_many_benches.b .nil passN (pa_cons (pv 0) pa_nil)) (pv 1)) (pa_cons (pe_call (ok_how_many_works T) (hr.mono (by decide)) rfl T.how_many_works.m T.how_many_works.F.kp T.how_many_works.b .nil passN (pa_cons (pv 0) pa_nil)) pa_nil))))), ?_⟩
  refine ⟨_, rfl, .ref a, W, rfl, hW, _, rfl, _, _, rfl, rfl, _, rfl, .ref a, W, rfl, hW, _, _, rfl, ?_⟩
  have e : (if (W.bs.length : Int) < W.b + (n : Int) then (W.bs.length : Int) else W.b + (n : Int)) = (began W n : Int) := by
    unfold began
    split <;> omega
  rw [e]
  exact q
def sp_iso : Sp := fun vs H Q _ => ∃ (v t : V) (W : Wd) (d : PyData), vs = [v, t] ∧ Rep H v (encW W) ∧ W.Ok ∧ Rep H t d ∧ (∀ ds, d = .tuple ds → ds.length ≤ 1000) ∧ ∀ H', Same H H' → Q (.bl (ordD W d)) H'
theorem ok_is_order (T : Txt K mg) : FnOk P w K mg base (CXr P w) 3 T.is_order.a T.is_order.d ["world", "thing"] sp_iso := by
  refine T.is_order.F.okN sc_is_order (fun vs H Q E h => ?_) (fun cdv A outer s H vs Q E hr h => ?_)
  · obtain ⟨v, t, W, d, rfl, _⟩ := h; rfl
  obtain ⟨v, t, W, d, rfl, hW, hok, hd, hln, q⟩ := h
  refine ⟨_, (pss_cons (ps_if (pt_not (pt_val (pe_callB (call_isi kit_tuple) rfl T.n_isinstance bt_isinstance (pa_cons (pv 1) (pa_cons (pe_bltn (v := .ty "tuple") rfl T.n_tuple bt_tuple rfl) pa_nil))))) (pss_one (ps_ret pe_bl)) pss_nil) (pss_cons (ps_set (i := 2) sc_is_order.nd rfl (by first | exact Or.inl rfl | exact Or.inr rfl) pe_dnewK) (pss_cons (ps_for PassesOwn.never rfl (pi_enumT rfl T.n_enumerate (pa_cons (pv 1) pa_nil)) (pg_tup rfl (pgs_cons (pg_name (i := 3) sc_is_order.nd rfl (by first | exact Or.inl rfl | exact Or.inr rfl)) (pgs_cons (pg_name (i := 4) sc_is_order.nd rfl (by first | exact Or.inl rfl | exact Or.inr rfl)) pgs_nil))) (pss_cons (ps_if (PW.pt (pw_or (pt_not (pt_val (pe_call (ok_is_whole_within T) (hr.mono (by decide)) rfl T.is_whole_within.m T.is_whole_within.F.kp T.is_whole_within.b .nil passN (pa_cons (pv 4) (pa_cons pe_int (pa_cons (pe_op op_sub (pe_call (ok_how_many_began T) (hr.mono (by decide)) rfl T.how_many_began.m T.how_many_began.F.kp T.how_many_began.b .nil passN (pa_cons (pv 0) (pa_cons (pv 3) pa_nil))) pe_int) pa_nil)))))) (pw_or1 (pt_cmp (pc_din (hu_of hr) (pv 4) (pv 2)))))) (pss_one (ps_ret pe_bl)) pss_nil) (pss_one (ps_dput (hu_of hr) (pv 2) (pv 4) pe_bl rfl)))) (pss_one (ps_ret pe_bl))))), ?_⟩
  refine ⟨_, rfl, t, d, rfl, hd, _, rfl, ?_⟩
  cases hd with
  | non => exact iteT (q H (Same.refl H))
  | str x => exact iteT (q H (Same.refl H))
  | bl b => exact iteT (q H (Same.refl H))
  | int i => exact iteT (q H (Same.refl H))
  | lst e r => exact iteT (q H (Same.refl H))
  | @tup a vs ds e r =>
    have hl := r.length
    have hln' := hln ds rfl
    refine iteF (fun D hD => ?_)
    have nD : ∀ b o, H b = some o → b ≠ D := fun b o z => ne_of_none z hD
    refine ⟨_, rfl, a, vs, rfl, SqT.of (same_new hD _ _ _ e), for_enumT (K := K) (a := a) (xs := vs) (fun i σ H2 => ∃ (seen : List Int) (x y : Option V), σ = [some v, some (.ref a), some (.ref D), x, y] ∧ Same H H2 ∧ H2 D = some (.dK (seenK seen)) ∧ seen.length = i ∧ ordGo W ds 0 [] = ordGo W (ds.drop i) i seen) ?_ ?_ ?_ ?_⟩
    · exact ⟨[], none, none, rfl, same_new hD _, upd_same, rfl, rfl⟩
    · rintro i σ H2 _ ⟨seen, x, y, rfl, g, _⟩
      exact SqT.of (g _ _ e)
    · rintro i u p σ H2 hu hp ⟨seen, x, y, rfl, g, hD2, hs, ho⟩
      obtain ⟨d, hd, ru⟩ := (r.mono g).get' hu
      have hi : i < ds.length := (List.getElem?_eq_some_iff.mp hd).1
      have hdrop : ds.drop i = d :: ds.drop (i + 1) := by
        have := List.drop_eq_getElem_cons hi
        rw [this]
        congr 1
        exact (List.getElem?_eq_some_iff.mp hd).2
      rw [hdrop] at ho
      have g2 := same_new hp (.tup [.int i, u])
      have gg := g.trans g2
      refine ⟨p, _, rfl, SqT.of upd_same, rfl, _, _, rfl, _, _, rfl, rfl, ?_⟩
      refine ⟨_, rfl, _, rfl, _, rfl, v, W, i, rfl, hW.mono gg, by have := hok.b1; omega, _, _, rfl, rfl, u, d, 0, _, rfl, ru.mono g2, _, rfl, ?_⟩
      cases hw : wholeIn d 0 ((began W i : Int) - 1) with
      | false =>
        have no : ordGo W (d :: ds.drop (i + 1)) i seen = false := by
          unfold ordGo
          cases d with
          | int z =>
            show (decide (0 ≤ z) && decide (z < (began W i : Int)) && _ && _) = false
            have hw' : (decide (0 ≤ z) && decide (z ≤ (began W i : Int) - 1)) = false := hw
            have ez : decide (z < (began W i : Int)) = decide (z ≤ (began W i : Int) - 1) := by
              by_cases hz : z < (began W i : Int)
              · rw [decide_eq_true hz, decide_eq_true (by omega)]
              · rw [decide_eq_false hz, decide_eq_false (by omega)]
            rw [ez, hw']; rfl
          | _ => rfl
        have e0 : ordD W (.tuple ds) = false := by show ordGo W ds 0 [] = false; rw [ho]; exact no
        rw [e0] at q
        exact iteT (iteT (q _ gg))
      | true =>
        cases ru with
        | int z =>
          have hw' : (decide (0 ≤ z) && decide (z ≤ (began W i : Int) - 1)) = true := hw
          rw [Bool.and_eq_true] at hw'
          have z0 := of_decide_eq_true hw'.1
          have z1 := of_decide_eq_true hw'.2
          refine iteF ⟨_, rfl, _, rfl, D, _, rfl, DGet.k (k := Sum.inl z) (g2 _ _ hD2), _, rfl, ?_⟩
          rw [valV_seen]
          have step : ordGo W (.int z :: ds.drop (i + 1)) i seen = (decide (z ∉ seen) && ordGo W (ds.drop (i + 1)) (i + 1) (seen ++ [z])) := by
            show (decide (0 ≤ z) && decide (z < (began W i : Int)) && decide (z ∉ seen) && _) = _
            rw [decide_eq_true z0, decide_eq_true (show z < (began W i : Int) by omega)]; rfl
          rw [step] at ho
          by_cases hm : z ∈ seen
          · have e0 : ordD W (.tuple ds) = false := by show ordGo W ds 0 [] = false; rw [ho, decide_eq_false (by simpa using hm)]; rfl
            rw [e0] at q
            rw [decide_eq_true hm]
            exact iteT (q _ gg)
          · rw [decide_eq_false hm]
            refine iteF ⟨_, rfl, _, rfl, D, _, rfl, DPut.k (k := Sum.inl z) (g2 _ _ hD2) ?_, ?_⟩
            · show (seenK seen).length < sizeLine
              unfold seenK
              rw [List.length_map]
              exact Nat.lt_of_lt_of_le (show seen.length < 2000 by omega) (by decide)
            · refine ⟨seen ++ [z], _, _, rfl, ?_, ?_, by simp [hs], ?_⟩
              · exact gg.write hD _
              · rw [upd_same]
                have nn : valV (seenK seen) (Sum.inl z : Key) = none := by
                  have := valV_seen z seen
                  rw [decide_eq_false hm] at this
                  exact Option.isNone_iff_eq_none.mp (by simpa using this)
                rw [putK_new _ nn]
                unfold seenK
                rw [List.map_append]
                rfl
              · rw [ho, decide_eq_true hm]; rfl
        | _ => cases hw
    · rintro σ H2 ⟨seen, x, y, rfl, g, hD2, hs, ho⟩
      rw [hl, List.drop_length] at ho
      have e0 : ordD W (.tuple ds) = true := ho
      rw [e0] at q
      exact q _ g
end
end Be
set_option Elab.async false
set_option linter.all false
set_option maxRecDepth 100000
namespace L2
open PySem PySem.Spec PyProof.Rows
end L2
namespace Be
open PySem L2
/-! ### what is a world, what is an order: data and things -/
theorem whole_of {d : PyData} {lo hi : Int} (h : wholeIn d lo hi = true) : ∃ i, d = .int i ∧ lo ≤ i ∧ i ≤ hi := by
  cases d with
  | int i =>
    have h' : (decide (lo ≤ i) && decide (i ≤ hi)) = true := h
    rw [Bool.and_eq_true] at h'
    exact ⟨i, rfl, of_decide_eq_true h'.1, of_decide_eq_true h'.2⟩
  | _ => cases h
theorem bow_of {d : PyData} (h : bowD d = true) : ∃ p : Int × Int, d = encB p ∧ 1 ≤ p.1 ∧ p.1 ≤ p.2 ∧ p.2 ≤ 99 := by
  unfold bowD at h
  split at h
  · rename_i i b
    rw [Bool.and_eq_true] at h
    obtain ⟨j, e, h1, h2⟩ := whole_of h.1
    cases e
    obtain ⟨k, e, h3, h4⟩ := whole_of h.2
    subst e
    exact ⟨(i, k), rfl, h1, h3, h4⟩
  · cases h
theorem bows_of : ∀ {ds : List PyData}, ds.all bowD = true → ∃ bs : List (Int × Int), ds = bs.map encB ∧ ∀ p ∈ bs, 1 ≤ p.1 ∧ p.1 ≤ p.2 ∧ p.2 ≤ 99
  | [], _ => ⟨[], rfl, fun _ z => nomatch z⟩
  | d :: r, h => by
    rw [List.all_cons, Bool.and_eq_true] at h
    obtain ⟨p, rfl, hp⟩ := bow_of h.1
    obtain ⟨bs, rfl, hb⟩ := bows_of h.2
    refine ⟨p :: bs, rfl, fun x hx => ?_⟩
    rcases List.mem_cons.mp hx with rfl | hx
    · exact hp
    · exact hb x hx
theorem isW_of {d : PyData} (h : isWD d = true) : ∃ W : Wd, W.Ok ∧ d = encW W := by
  unfold isWD at h
  split at h
  · rename_i b x
    rw [Bool.and_eq_true] at h
    obtain ⟨i, rfl, h1, h2⟩ := whole_of h.1
    have h' := h.2
    unfold arBD at h'
    split at h'
    · rename_i ds
      rw [Bool.and_eq_true, Bool.and_eq_true] at h'
      obtain ⟨bs, rfl, hb⟩ := bows_of h'.2
      have l1 := of_decide_eq_true h'.1.1
      have l2 := of_decide_eq_true h'.1.2
      rw [List.length_map] at l1 l2
      exact ⟨⟨i, bs⟩, ⟨h1, h2, l1, l2, hb⟩, rfl⟩
    · cases h'
  · cases h
theorem wholeIn_of {i lo hi : Int} (h1 : lo ≤ i) (h2 : i ≤ hi) : wholeIn (.int i) lo hi = true := by
  show (decide (lo ≤ i) && decide (i ≤ hi)) = true
  rw [decide_eq_true h1, decide_eq_true h2]; rfl
theorem bow_enc {p : Int × Int} (h : 1 ≤ p.1 ∧ p.1 ≤ p.2 ∧ p.2 ≤ 99) : bowD (encB p) = true := by
  show (wholeIn (.int p.1) 1 99 && wholeIn (.int p.2) p.1 99) = true
  rw [wholeIn_of h.1 (by omega), wholeIn_of h.2.1 h.2.2]; rfl
theorem isW_enc {W : Wd} (h : W.Ok) : isWD (encW W) = true := by
  show (wholeIn (.int W.b) 1 4 && (decide (1 ≤ (W.bs.map encB).length) && decide ((W.bs.map encB).length ≤ 10) && (W.bs.map encB).all bowD)) = true
  rw [wholeIn_of h.b1 h.b4, List.length_map, decide_eq_true h.l1, decide_eq_true h.l10]
  show (W.bs.map encB).all bowD = true
  rw [List.all_eq_true]
  intro d hd
  obtain ⟨p, hp, rfl⟩ := List.mem_map.mp hd
  exact bow_enc (h.bd p hp)
theorem ordGo_iff (W : Wd) : ∀ (ds : List PyData) (seen : List Int), VO W seen → (ordGo W ds seen.length seen = true ↔ ∃ o, ds = o.map PyData.int ∧ VO W (seen ++ o))
  | [], seen, h => ⟨fun _ => ⟨[], rfl, by rw [List.append_nil]; exact h⟩, fun _ => rfl⟩
  | d :: r, seen, h => by
    constructor
    · intro e
      unfold ordGo at e
      cases d with
      | int x =>
        have e' : (decide (0 ≤ x) && decide (x < (began W seen.length : Int)) && decide (x ∉ seen) && ordGo W r (seen.length + 1) (seen ++ [x])) = true := e
        rw [Bool.and_eq_true, Bool.and_eq_true, Bool.and_eq_true] at e'
        obtain ⟨⟨⟨a, b⟩, c⟩, f⟩ := e'
        have hx : x ∈ runM W seen := mem_run.mpr ⟨⟨of_decide_eq_true a, of_decide_eq_true b⟩, of_decide_eq_true c⟩
        have f' : ordGo W r (seen ++ [x]).length (seen ++ [x]) = true := by rw [List.length_append]; exact f
        obtain ⟨o, rfl, ho⟩ := (ordGo_iff W r (seen ++ [x]) (h.snoc hx)).mp f'
        exact ⟨x :: o, rfl, by rw [List.append_assoc] at ho; exact ho⟩
      | _ => cases e
    · rintro ⟨o, e, ho⟩
      cases o with
      | nil => cases e
      | cons x o =>
        rw [List.map_cons] at e
        injection e with e1 e2
        subst e1 e2
        have at1 := ho.at_ seen.length x (by rw [List.getElem?_append_right (Nat.le_refl _), Nat.sub_self]; rfl)
        have nm : x ∉ seen := fun z => by
          have := (List.nodup_append.mp ho.nd).2.2 x z x List.mem_cons_self
          exact this rfl
        have hx : x ∈ runM W seen := mem_run.mpr ⟨at1, nm⟩
        have ih := (ordGo_iff W (o.map PyData.int) (seen ++ [x]) (h.snoc hx)).mpr ⟨o, rfl, by rw [List.append_assoc]; exact ho⟩
        rw [List.length_append] at ih
        show (decide (0 ≤ x) && decide (x < (began W seen.length : Int)) && decide (x ∉ seen) && ordGo W (o.map PyData.int) (seen.length + 1) (seen ++ [x])) = true
        rw [decide_eq_true at1.1, decide_eq_true at1.2, decide_eq_true nm]
        exact ih
theorem ord_of {W : Wd} {d : PyData} (h : ordD W d = true) : ∃ o, d = encO o ∧ VO W o := by
  unfold ordD at h
  split at h
  · rename_i ds
    obtain ⟨o, rfl, ho⟩ := (ordGo_iff W ds [] (VO.nil W)).mp h
    exact ⟨o, rfl, ho⟩
  · cases h
theorem ord_enc {W : Wd} {o : List Int} (h : VO W o) : ordD W (encO o) = true := (ordGo_iff W (o.map .int) [] (VO.nil W)).mpr ⟨o, rfl, h⟩
section
variable {P : Program} {w : World} {K : PySem.W.Frag} {mg : Str → Option Value} {base : Heap}
def sp_co (T : Txt K mg) : Sp := fun vs H Q E => ∃ (v t : V) (d dt : PyData), vs = [v, t] ∧ Rep H v d ∧ Rep H t dt ∧ (∀ ds, dt = .tuple ds → ds.length ≤ 1000) ∧ (isWD d = false → ∀ H', Same H H' → E (.ref T.e_NoWorld.C) none H') ∧
  ∀ W : Wd, W.Ok → d = encW W → (ordD W dt = false → ∀ H', Same H H' → E (.ref T.e_NoOrder.C) none H') ∧ (ordD W dt = true → ∀ H', Same H H' → Q .non H')
theorem ok_check_order (T : Txt K mg) : FnOk P w K mg base (CXr P w) 6 T.check_order.a T.check_order.d ["world", "order"] (sp_co T) := by
  refine T.check_order.F.okR sc_check_order (fun vs H Q E h => ?_) (fun cdv A outer s H vs Q E hr h => ?_)
  · obtain ⟨v, t, d, dt, rfl, _⟩ := h; rfl
  obtain ⟨v, t, d, dt, rfl, hd, ht, hl, q1, q2⟩ := h
  refine ⟨_, (pss_cons (ps_expr (pe_call (ok_check_world T) (hr.mono (by decide)) rfl T.check_world.m T.check_world.F.kp T.check_world.b .nil passR (pa_cons (pv 0) pa_nil))) (pss_one (ps_if (pt_not (pt_val (pe_call (ok_is_order T) (hr.mono (by decide)) rfl T.is_order.m T.is_order.F.kp T.is_order.b .nil passN (pa_cons (pv 0) (pa_cons (pv 1) pa_nil))))) (pss_one (ps_raise T.e_NoOrder.m T.e_NoOrder.q PySem.F.excBase_ValueError hr.hd pe_str rfl)) pss_nil))), ?_⟩
  refine ⟨_, rfl, v, d, rfl, hd, fun hw H1 g1 => ?_, fun hw H1 g1 => q1 hw H1 g1⟩
  obtain ⟨W, hok, rfl⟩ := isW_of hw
  obtain ⟨qn, qy⟩ := q2 W hok rfl
  refine ⟨_, rfl, _, rfl, v, t, W, dt, rfl, hd.mono g1, hok, ht.mono g1, hl, fun H2 g2 => ⟨_, rfl, ?_⟩⟩
  cases ho : ordD W dt with
  | true => exact iteF (qy ho H2 (g1.trans g2))
  | false => exact iteT ⟨by show 1 ≤ sizeLine; decide, qn ho H2 (g1.trans g2)⟩
end
end Be
set_option Elab.async false
set_option linter.all false
set_option maxRecDepth 100000
/-! a tuple times a number; str of a number -/
namespace BE
open PySem PySem.W PySem.Spec PyProof.Rows
open Builtin
theorem noFill_tuple_mul : fillsNumberSlot (.type "tuple") "mul" = pure false :=
  PySem.fillsNumberSlot_seq (id := "tuple.__mul__") (r := some (.builtin "tuple.__rmul__")) F.slot_tuple_mul.lookup (by decide +kernel) F.slot_tuple_rmul.lookup (by decide +kernel)
theorem repeat_tuple : seqRepeat? (.type "tuple") = pure (some (.builtin "tuple.__mul__")) := by
  unfold seqRepeat?
  rw [PySem.seqSlot_of (T := "tuple") (name := "__mul__") (id := "tuple.__mul__") F.slot_tuple_mul.lookup (by decide +kernel), PySem.seqSlot_of (T := "tuple") (name := "__rmul__") (id := "tuple.__rmul__") F.slot_tuple_rmul.lookup (by decide +kernel)]
  rfl
theorem int_rmul_tuple (a : Int) (t : Tok) (l : Addr) (o : Obj) (hc : o.cls = .type "tuple") (items : Array Value) (n : Nat) (hd : o.data = .seq items n) :
    Meets (Builtin.«int.__rmul__» ⟨[.int a t, .ref l], []⟩) (fun _ R s => s.heap.get? l = some o ∧ R (.ok (.ret Value.notImplemented)) s) :=
  .of_wp fun prog w A R s h => by
    obtain ⟨hp, g, d, tk, os⟩ := s; obtain ⟨hl, h⟩ := h
    obtain ⟨oc, od, odt, osl⟩ := o
    simp only at hc hd
    subst hc hd
    wp_walk; exact ⟨_, rfl, h⟩
section
variable {prog : Program} {w : World} {A : Around} {E : Value → Shared → Prop} {s : Shared}
theorem tuple_mul_tree {a : Addr} {o : Obj} {its : List Value} {n : Nat} {x : Int} {u : Tok} {P : PySem.Fin → Shared → Prop} (ho : s.heap.get? a = some o) (hd : o.data = .seq its.toArray n) (h1 : 2 ≤ x) (h2 : x < 2 ^ 63) (hne : its.toArray.isEmpty = false) (hz : its.toArray.size * x.toNat ≤ sizeLine)
    (h : P (.done (.ret (.ref s.heap.objs.size))) { s with heap := s.heap.push { cls := .type "tuple", data := .seq (List.replicate x.toNat its).flatten.toArray } }) :
    wpAny (model prog w) A (Builtin.«tuple.__mul__» ⟨[.ref a, .int x u], []⟩) P E s := by
  have hnew : List.foldl (fun x1 x2 => x1 ++ x2) #[] (List.replicate x.toNat its.toArray) = (List.replicate x.toNat its).flatten.toArray := by
    have := L2.foldl_rep its x.toNat []
    rw [List.nil_append] at this
    exact this
  show wpAny _ _ (asIndex (.int x u) >>= _) _ _ s
  refine wpAny_bind ?_
  show wpAny _ _ (pure x) _ _ s
  refine wpAny_pure ?_
  have c1 : (decide (x < -(2 ^ 63)) || decide (x ≥ 2 ^ 63)) = false := by
    rw [decide_eq_false (by omega), decide_eq_false (by omega)]; rfl
  simp only [c1, Bool.false_eq_true, if_false]
  refine wpAny_bind (wpAny_tupleItemsOf ho hd ?_)
  have c2 : (its.toArray.isEmpty || x == 1) = false := by rw [hne]; simp; omega
  simp only [c2, Bool.false_eq_true, if_false]
  have c3 : (decide (x ≤ 0) || its.toArray.isEmpty) = false := by rw [hne, decide_eq_false (by omega)]; rfl
  simp only [c3, Bool.false_eq_true, if_false]
  have sl : sizeLine = 16777216 := sizeLine_eq
  have ex : (x.toNat : Int) = x := by omega
  have hz' : (its.toArray.size : Int) * x ≤ 16777216 := by
    have h0 : ((its.toArray.size * x.toNat : Nat) : Int) ≤ 16777216 := by omega
    rw [Int.natCast_mul, ex] at h0
    exact h0
  have c4 : ¬ ((its.toArray.size : Int) * x > (2 ^ 63 - 1) / 8) := by omega
  simp only [c4, if_false]
  have c5 : Builtin.Tuple.tupleTooMany ((its.toArray.size : Int) * x) = false := by unfold Builtin.Tuple.tupleTooMany; exact decide_eq_false (by omega)
  simp only [c5, Bool.false_eq_true, if_false]
  refine wpAny_bind ?_
  unfold Builtin.Tuple.tupleExact
  rw [hnew]
  refine wpAny_newObj_type (wpAny_pure h) (hd := ?_)
  show (List.replicate x.toNat its).flatten.toArray.size ≤ sizeLine
  rw [List.size_toArray, L2.len_rep, Nat.mul_comm, ← List.size_toArray]
  exact hz
end
end BE
namespace L2
open PySem PySem.SeqAt PySem.Spec PyProof.Rows
section
variable {X : Cx}
/-- a tuple so many times, twice at the least -/
def rRepT : R2 := fun x y H Q => ∃ a k xs, x = .ref a ∧ y = .int k ∧ H a = some (.tup xs) ∧ xs ≠ [] ∧ 2 ≤ k ∧ k < 2 ^ 63 ∧ xs.length * k.toNat ≤ sizeLine ∧
  ∀ p, H p = none → Q (.ref p) (upd H p (.tup (List.replicate k.toNat xs).flatten))
theorem op_repT : OpR X (binaryOp .Mult) rRepT := by
  intro pins s σ H x y v u Q I rx ry h
  obtain ⟨a, k, xs, rfl, rfl, hH, hne, h1, h2, hz, q⟩ := h
  cases rx
  obtain ⟨t, rfl⟩ := ry
  obtain ⟨its, r, ⟨o, ho, hc, n, hd⟩, hz2⟩ := I.tuple (SqT.of hH)
  have hl := r.length
  have hlen : its.toArray.size * k.toNat ≤ sizeLine := by rw [List.size_toArray, ← hl]; exact hz
  have hemp : its.toArray.isEmpty = false := by
    cases its with
    | nil => simp at hl; exact absurd hl hne
    | cons a r' => rfl
  refine wpAny_binaryOp_repeat_ref (T := "tuple") (U := "int") (by decide) ⟨_, ho, hc⟩ (fun s' => typeIs_int s' k t) BE.noFill_tuple_mul F.fills_int_mul F.slot_int_rmul BE.repeat_tuple F.slot_int_index.lookup
    (call_meets F.slot_int_rmul (typeIs_int s k t) F.entry_int_rmul (F.args_int_rmul_2 _ _) (BE.int_rmul_tuple k t a o hc _ _ hd)
      ⟨ho, rfl, ⟨_, ho, hc⟩, wpAny_call_entry F.slot_tuple_mul ⟨_, ho, hc⟩ F.entry_tuple_mul (BE.tuple_mul_tree ho hd h1 h2 hemp hlen ⟨_, rfl, ?_⟩) (F.args_tuple_mul_2 _ _)⟩)
  refine ⟨.ref s.heap.objs.size, _, I.laid (t' := s.toks) (o := .tup (List.replicate k.toNat xs).flatten) (fun b ob q => Heap.get?_push_of_some _ q) (Nat.le_refl _) ?_, rfl, q _ (I.hok.fresh (Nat.le_refl _))⟩
  exact ⟨by rw [len_rep, Nat.mul_comm]; exact hz, _, r.rep k.toNat, TupP.new _ _⟩
end
end L2
set_option Elab.async false
set_option linter.all false
set_option maxRecDepth 100000
/-! texts: what is cut at a sign and what is joined by it; texts of small numbers -/
namespace BE
open PySem PySem.Builtin PySem.Builtin.Str PyProof.Rows
theorem str_ext {x y : Str} (h : x.cps.toList = y.cps.toList) : x = y := by
  cases x; cases y
  congr 1
  exact Array.toList_inj.mp h
theorem cat_cps (x y : Str) : (x ++ y).cps.toList = x.cps.toList ++ y.cps.toList := by
  show (x.cps ++ y.cps).toList = _
  exact Array.toList_append
theorem cat_len (x y : Str) : (x ++ y).length = x.length + y.length := by
  show (x.cps ++ y.cps).size = _
  exact Array.size_append
def jn (c : Nat) : List (List Nat) → List Nat
  | [] => []
  | [w] => w
  | w :: v :: r => w ++ c :: jn c (v :: r)
theorem join_jn (c : Nat) : ∀ ws : List Str, (Str.join ⟨#[c]⟩ ws).cps.toList = jn c (ws.map fun w => w.cps.toList)
  | [] => rfl
  | [w] => rfl
  | w :: v :: r => by
    show (w ++ ⟨#[c]⟩ ++ Str.join ⟨#[c]⟩ (v :: r)).cps.toList = _
    rw [cat_cps, cat_cps, join_jn c (v :: r)]
    simp [jn]
theorem cut_eq {c : Nat} : ∀ {a b x y : List Nat}, c ∉ a → c ∉ b → a ++ c :: x = b ++ c :: y → a = b ∧ x = y
  | [], [], x, y, _, _, h => ⟨rfl, (List.cons.inj h).2⟩
  | [], b0 :: b, x, y, _, hb, h => absurd (List.cons.inj h).1 (fun e => hb (by rw [e]; exact List.mem_cons_self))
  | a0 :: a, [], x, y, ha, _, h => absurd (List.cons.inj h).1.symm (fun e => ha (by rw [e]; exact List.mem_cons_self))
  | a0 :: a, b0 :: b, x, y, ha, hb, h => by
    obtain ⟨e1, e2⟩ := List.cons.inj h
    obtain ⟨e3, e4⟩ := cut_eq (fun z => ha (List.mem_cons_of_mem _ z)) (fun z => hb (List.mem_cons_of_mem _ z)) e2
    exact ⟨by rw [e1, e3], e4⟩
theorem jn_inj {c : Nat} : ∀ {ws vs : List (List Nat)}, ws ≠ [] → vs ≠ [] → (∀ w ∈ ws, c ∉ w) → (∀ v ∈ vs, c ∉ v) → jn c ws = jn c vs → ws = vs
  | [], _, h, _, _, _, _ => absurd rfl h
  | _, [], _, h, _, _, _ => absurd rfl h
  | [w], [v], _, _, _, _, h => by rw [show w = v from h]
  | [w], v :: v2 :: r, _, _, hw, _, h => absurd (show c ∈ w by rw [show w = v ++ c :: jn c (v2 :: r) from h]; simp) (hw w List.mem_cons_self)
  | w :: w2 :: r, [v], _, _, _, hv, h => absurd (show c ∈ v by rw [← show w ++ c :: jn c (w2 :: r) = v from h]; simp) (hv v List.mem_cons_self)
  | w :: w2 :: r, v :: v2 :: q, _, _, hw, hv, h => by
    obtain ⟨e1, e2⟩ := cut_eq (hw w List.mem_cons_self) (hv v List.mem_cons_self) h
    rw [e1, jn_inj (by simp) (by simp) (fun x hx => hw x (List.mem_cons_of_mem _ hx)) (fun x hx => hv x (List.mem_cons_of_mem _ hx)) e2]
theorem split_join {c : Nat} {ws : List Str} (hne : ws ≠ []) (hw : ∀ w ∈ ws, c ∉ w.cps.toList) : Txt.split (Txt.join ⟨#[c]⟩ ws) ⟨#[c]⟩ = ws := by
  have ej : Txt.join ⟨#[c]⟩ ws = Str.join ⟨#[c]⟩ ws := StrLaws.glued_eq_join _ _
  rw [ej]
  have hj := StrLaws.join_split (Str.join ⟨#[c]⟩ ws) ⟨#[c]⟩
  have hf := StrLaws.split_free (Str.join ⟨#[c]⟩ ws) c
  have hp := split_pos (Str.join ⟨#[c]⟩ ws) ⟨#[c]⟩
  generalize Txt.split (Str.join ⟨#[c]⟩ ws) ⟨#[c]⟩ = vs at *
  have h2 := congrArg (fun s : Str => s.cps.toList) hj
  simp only [join_jn] at h2
  have := jn_inj (c := c) (ws := vs.map fun w => w.cps.toList) (vs := ws.map fun w => w.cps.toList) (fun z => by rw [List.map_eq_nil_iff.mp z] at hp; simp at hp) (fun z => hne (List.map_eq_nil_iff.mp z))
    (fun w h => by obtain ⟨x, hx, rfl⟩ := List.mem_map.mp h; exact hf x hx) (fun w h => by obtain ⟨x, hx, rfl⟩ := List.mem_map.mp h; exact hw x hx) h2
  exact (List.map_inj_right (fun x y h => str_ext h)).mp this
/-- the text of a number -/
def nT (i : Int) : Str := Str.ofString (toString i)
def okT (n : Nat) : Bool := let t := (nT (n : Int)).cps.toList
  decide (t ≠ []) && decide (45 ∉ t) && decide (32 ∉ t) && decide (58 ∉ t) && decide (t.length ≤ 2) && (decide (10 ≤ n) || decide (t.length = 1))
theorem okTs : ((List.range 100).all okT) = true := by decide +kernel
theorem injT : ((List.range 100).all fun n => (List.range 100).all fun m => (nT (n : Int) == nT (m : Int)) == (n == m)) = true := by decide +kernel
theorem nT_inj {i j : Int} (hi : 0 ≤ i ∧ i < 100) (hj : 0 ≤ j ∧ j < 100) (h : nT i = nT j) : i = j := by
  have a := List.all_eq_true.mp (List.all_eq_true.mp injT i.toNat (List.mem_range.mpr (by omega))) j.toNat (List.mem_range.mpr (by omega))
  rw [show ((i.toNat : Nat) : Int) = i by omega, show ((j.toNat : Nat) : Int) = j by omega, h, beq_self_eq_true] at a
  have b := beq_iff_eq.mp a
  have := beq_iff_eq.mp b.symm
  omega
structure Okt (i : Int) : Prop where
  ne : (nT i).cps.toList ≠ []
  d : 45 ∉ (nT i).cps.toList
  s : 32 ∉ (nT i).cps.toList
  c : 58 ∉ (nT i).cps.toList
  l : (nT i).length ≤ 2
  one : i < 10 → (nT i).length = 1
theorem nT_ok {i : Int} (h0 : 0 ≤ i) (h1 : i < 100) : Okt i := by
  have a := List.all_eq_true.mp okTs i.toNat (List.mem_range.mpr (by omega))
  unfold okT at a
  rw [show ((i.toNat : Nat) : Int) = i by omega] at a
  simp only [Bool.and_eq_true, Bool.or_eq_true, decide_eq_true_eq] at a
  obtain ⟨⟨⟨⟨⟨a1, a2⟩, a3⟩, a4⟩, a5⟩, a6⟩ := a
  have e : (nT i).cps.toList.length = (nT i).length := Array.length_toList
  exact ⟨a1, a2, a3, a4, by omega, fun h => by omega⟩
end BE
set_option Elab.async false
set_option linter.all false
set_option maxRecDepth 100000
/-! texts, in the layer: partition, split, join, f'{a}..{b}' -/
namespace L2
open PySem PySem.Builtin.Str PySem.Spec PyProof.Rows BE
section
variable {X : Cx}
theorem vals_strs : ∀ {ys : List Str} {us : List Value}, Vals (ys.map V.str) us → StrsAre us ys
  | [], _, r => by cases r; exact .nil
  | y :: ys, _, r => by
    rw [List.map_cons] at r
    cases r with
    | cons r1 r2 =>
      obtain ⟨t, rfl⟩ := r1
      exact .cons y t (vals_strs r2)
theorem strs_vals : ∀ (l : List (Str × Tok)), Vals ((l.map (·.1)).map V.str) (strValues l)
  | [] => .nil
  | p :: l => .cons ⟨p.2, rfl⟩ (strs_vals l)
def rSplit : V → List V → Hp → VK → Prop := fun x vs H Q => ∃ (z y : Str), x = .str z ∧ vs = [.str y] ∧ (y.length == 0) = false ∧ z.length + 2 ≤ sizeLine ∧
  ∀ p, H p = none → (Txt.split z y).length ≤ sizeLine → Q (.ref p) (upd H p (.lst ((Txt.split z y).map V.str)))
theorem mt_split : MtM X "str.split" rSplit := by
  intro pins s σ H x vs v us Q I rx rv h
  obtain ⟨z, y, rfl, rfl, hy, hz, q⟩ := h
  obtain ⟨t, rfl⟩ := rx
  obtain ⟨u, rfl, ⟨tu, rfl⟩⟩ := vals1 rv
  have hn : (partsBetween z (occurrences z y 0 z.length (z.length + 1)) y.length).length ≤ sizeLine := by
    have := StrLaws.occ_length_le z y 0 z.length (z.length + 1)
    rw [length_partsBetween]; omega
  have hs : (Txt.split z y).length ≤ sizeLine := by
    unfold Txt.split
    split
    · show 1 ≤ sizeLine; decide
    · split
      · show 1 ≤ sizeLine; decide
      · exact hn
  have fin : ∀ (l : List (Str × Tok)) (tk : Nat), l.map (·.1) = Txt.split z y → EP X pins σ Q (.ref s.heap.objs.size) { s with toks := tk, heap := s.heap.push { cls := .type "list", data := .seq (strValues l).toArray } } := fun l tk e =>
    ⟨.ref s.heap.objs.size, _, I.laid (t' := tk) (o := .lst ((Txt.split z y).map V.str)) (fun b ob e => Heap.get?_push_of_some _ e) (Nat.le_refl _) ⟨by rw [List.length_map]; exact hs, strValues l, 0, by rw [← e]; exact strs_vals l, Heap.get?_push_size _ rfl⟩, rfl, q _ (I.hok.fresh (Nat.le_refl _)) hs⟩
  cases h1 : (decide (z.length < y.length) || decide (strKind z < strKind y)) with
  | true => exact call_meets F.slot_str_split (typeIs_str _ _ _) F.entry_str_split (F.args_str_split_2 _ _) (meets_str_split_cannot_occur z y t tu h1) (fin [(z, t)] s.toks (if_pos h1).symm)
  | false =>
    cases hf : (occurrences z y 0 z.length (z.length + 1)).isEmpty with
    | true => exact call_meets F.slot_str_split (typeIs_str _ _ _) F.entry_str_split (F.args_str_split_2 _ _) (meets_str_split_not_found z y t tu h1 hy hf) (fin [(z, t)] s.toks ((if_neg (ne_true_of_eq_false h1)).trans (if_pos hf)).symm)
    | false =>
      refine call_meets F.slot_str_split (typeIs_str _ _ _) F.entry_str_split (F.args_str_split_2 _ _) (meets_str_split_sep z y t tu h1 hy hf (by omega) hn) ?_
      have := fin (numbered s.toks (partsBetween z (occurrences z y 0 z.length (z.length + 1)) y.length)) (s.toks + (partsBetween z (occurrences z y 0 z.length (z.length + 1)) y.length).length) ((numbered_texts _ _).trans ((if_neg (ne_true_of_eq_false h1)).trans (if_neg (ne_true_of_eq_false hf))).symm)
      rw [← strsFrom_eq] at this
      exact this
def rJoin : V → List V → Hp → VK → Prop := fun x vs H Q => ∃ (z : Str) (l : Addr) (ys : List Str), x = .str z ∧ vs = [.ref l] ∧ H l = some (.lst (ys.map V.str)) ∧ (ys.map (·.length)).sum + ys.length * z.length ≤ 16777216 ∧ Q (.str (Txt.join z ys)) H
theorem mt_join : MtM X "str.join" rJoin := by
  intro pins s σ H x vs v us Q I rx rv h
  obtain ⟨z, l, ys, rfl, rfl, hl, hb, q⟩ := h
  obtain ⟨t, rfl⟩ := rx
  obtain ⟨u, rfl, ru⟩ := vals1 rv
  cases ru
  obtain ⟨_, its, n, rs, _, e⟩ := I.lstM hl
  exact PyProof.Rows.join_list (items := its.toArray) ⟨_, e, rfl, n, rfl⟩ (by simpa using vals_strs rs) hb fun t' k => ⟨.str _, H, I.tok _, ⟨_, rfl⟩, q⟩
end
end L2
set_option Elab.async false
set_option linter.all false
set_option maxRecDepth 100000
/-! texts, in the layer: times, count, ljust, walked sign by sign -/
namespace L2
open PySem PySem.Builtin.Str PySem.Spec PyProof.Rows BE
section
variable {X : Cx} {tg : Expr}
end
end L2
set_option Elab.async false
set_option linter.all false
set_option maxRecDepth 100000
/-! how often a sign stands in a text; a sign so many times; filled up -/
namespace BE
open PySem PySem.Builtin PySem.Builtin.Str PyProof.Rows
end BE
set_option Elab.async false
set_option linter.all false
set_option maxRecDepth 100000
/-! xs[::-1] of a list. -/
namespace L2
open PySem PySem.Spec PyProof.Rows
section
variable {X : Cx}
end
end L2
set_option Elab.async false
set_option linter.all false
set_option maxRecDepth 100000
/-! texts, in the layer: backwards, index, in -/
namespace L2
open PySem PySem.Builtin.Str PySem.Spec PyProof.Rows BE
section
variable {X : Cx}
end
end L2
namespace BE
open PySem PySem.Builtin PySem.Builtin.Str PyProof.Rows
end BE
set_option Elab.async false
set_option linter.all false
set_option maxRecDepth 100000
/-! texts, in the layer: cut at a place -/
namespace L2
open PySem PySem.Builtin.Str PySem.Spec PyProof.Rows BE
section
variable {X : Cx}
theorem fm_congr {α β : Type} {f g : α → Option β} : ∀ {l : List α}, (∀ x ∈ l, f x = g x) → l.filterMap f = l.filterMap g
  | [], _ => rfl
  | x :: r, h => by
    rw [List.filterMap_cons, List.filterMap_cons, h x List.mem_cons_self, fm_congr (l := r) fun y hy => h y (List.mem_cons_of_mem _ hy)]
theorem cut_range (z : Str) (a n : Nat) (h : a + n ≤ z.length) : ((List.range n).map fun (k : Nat) => ((a : Int) + 1 * (k : Int)).toNat).filterMap (z.cps[·]?) = (z.cps.toList.drop a).take n := by
  have zl : z.cps.toList.length = z.length := Array.length_toList
  have el : ((z.cps.toList.drop a).take n).length = n := by rw [List.length_take, List.length_drop]; omega
  rw [List.filterMap_map]
  have : List.filterMap ((fun (i : Nat) => z.cps[i]?) ∘ fun (k : Nat) => ((a : Int) + 1 * (k : Int)).toNat) (List.range n) = List.filterMap (fun k => ((z.cps.toList.drop a).take n)[k]?) (List.range n) := by
    refine fm_congr fun k hk => ?_
    have hk := List.mem_range.mp hk
    show z.cps[((a : Int) + 1 * (k : Int)).toNat]? = _
    rw [show ((a : Int) + 1 * (k : Int)).toNat = a + k by omega, List.getElem?_take_of_lt hk, List.getElem?_drop, Array.getElem?_toList]
  rw [this]
  have := PySem.List.filterMap_getElem?_range_length ((z.cps.toList.drop a).take n)
  rw [el] at this
  exact this
/-- z[:i] and z[i:], for i that is not below nothing -/
def rSlS : V → Option Int → Option Int → Hp → VK → Prop := fun x lo hi H Q => ∃ z : Str, x = .str z ∧ z.length ≤ sizeLine ∧ ((∃ i, lo = none ∧ hi = some i ∧ 0 ≤ i ∧ Q (.str ⟨(z.cps.toList.take i.toNat).toArray⟩) H) ∨ (∃ i, lo = some i ∧ hi = none ∧ 0 ≤ i ∧ Q (.str ⟨(z.cps.toList.drop i.toNat).toArray⟩) H))
theorem made_cut {pins : List (Addr × Obj)} {s : Shared} {σ : St} {H : Hp} {Q : VK} {z : Str} {t : Tok} {l u : Option (Int × Tok)} {ys : List Nat} (I : Inv X pins σ H s) (hz : z.length ≤ sizeLine) (hy : ys.length ≤ z.length) (e : (slicePicked z l u none).filterMap (z.cps[·]?) = ys) (hw : (slicePicked z l u none).length = z.length → ys = z.cps.toList) (q : Q (.str ⟨ys.toArray⟩) H) :
    (sliceMade z t l u none).post (EP X pins σ Q) s := by
  unfold sliceMade
  by_cases c : (slicePicked z l u none).length = z.length
  · rw [if_pos (by rw [c]; simp)]
    refine ⟨.str z, H, I, ⟨t, rfl⟩, ?_⟩
    rw [hw c] at q
    exact q
  · rw [if_neg (by intro h; rw [Bool.and_eq_true] at h; exact c (by simpa using h.2)), e]
    refine ⟨?_, .str _, H, I.tok _, ⟨_, rfl⟩, q⟩
    show ys.toArray.size ≤ sizeLine
    rw [List.size_toArray]
    omega
theorem sl_strA : SlR X rSlS := by
  intro pins s σ H x v vl vu lo hi sl Q I rx hs pl pu h
  obtain ⟨z, rfl, hz, h⟩ := h
  obtain ⟨t, rfl⟩ := rx
  have zl : z.cps.toList.length = z.length := Array.length_toList
  rcases h with ⟨i, rfl, rfl, h0, q⟩ | ⟨i, rfl, rfl, h0, q⟩
  · cases pl
    cases pu with
    | int j tl =>
      have ep : slicePicked z none (some (i, tl)) none = (List.range (min i.toNat z.length)).map fun (k : Nat) => (((0 : Nat) : Int) + 1 * (k : Int)).toNat := by
        unfold slicePicked strSliceIndices
        show sliceRange 0 (if (1 : Int) > 0 then max 0 (min (if i < 0 then i + (z.length : Int) else i) (z.length : Int)) else _) 1 = _
        rw [if_pos (by decide), if_neg (by omega)]
        unfold sliceRange
        have e1 : (if (1 : Int) > 0 then (if (0 : Int) < max 0 (min i (z.length : Int)) then (max 0 (min i (z.length : Int)) - 0 + 1 - 1) / 1 else 0) else (if (0 : Int) > max 0 (min i (z.length : Int)) then (0 - max 0 (min i (z.length : Int)) - 1 - 1) / (-1) else 0)).toNat = min i.toNat z.length := by
          rw [if_pos (by decide)]
          split <;> omega
        simp only [e1]
        rfl
      have ef := cut_range z 0 (min i.toNat z.length) (by omega)
      rw [List.drop_zero] at ef
      have et : z.cps.toList.take (min i.toNat z.length) = z.cps.toList.take i.toNat := by
        rcases Nat.le_total i.toNat z.length with h | h
        · rw [Nat.min_eq_left h]
        · rw [Nat.min_eq_right h, List.take_of_length_le (by omega), List.take_of_length_le (by omega)]
      refine ⟨"str", _, F.slot_str_getitem.lookup, typeIs_str _ _ _, wpAny_getItem_str_slice (l := none) (u := some (i, tl)) (st := none) hs rfl (made_cut I hz (by rw [List.length_take]; omega) (by rw [ep, ef, et]) (fun e => ?_) q)⟩
      rw [ep, List.length_map, List.length_range] at e
      exact List.take_of_length_le (by omega)
  · cases pu
    cases pl with
    | int j tl =>
      have ep : slicePicked z (some (i, tl)) none none = (List.range (z.length - min i.toNat z.length)).map fun (k : Nat) => (((min i.toNat z.length : Nat) : Int) + 1 * (k : Int)).toNat := by
        unfold slicePicked strSliceIndices
        show sliceRange (if (1 : Int) > 0 then max 0 (min (if i < 0 then i + (z.length : Int) else i) (z.length : Int)) else _) (z.length : Int) 1 = _
        rw [if_pos (by decide), if_neg (by omega), show max 0 (min i (z.length : Int)) = ((min i.toNat z.length : Nat) : Int) by omega]
        unfold sliceRange
        have e1 : (if (1 : Int) > 0 then (if ((min i.toNat z.length : Nat) : Int) < (z.length : Int) then ((z.length : Int) - ((min i.toNat z.length : Nat) : Int) + 1 - 1) / 1 else 0) else (if ((min i.toNat z.length : Nat) : Int) > (z.length : Int) then (((min i.toNat z.length : Nat) : Int) - (z.length : Int) - 1 - 1) / (-1) else 0)).toNat = z.length - min i.toNat z.length := by
          rw [if_pos (by decide)]
          split <;> omega
        simp only [e1]
      have ef := cut_range z (min i.toNat z.length) (z.length - min i.toNat z.length) (by omega)
      rw [List.take_of_length_le (by rw [List.length_drop]; omega)] at ef
      have et : z.cps.toList.drop (min i.toNat z.length) = z.cps.toList.drop i.toNat := by
        rcases Nat.le_total i.toNat z.length with h | h
        · rw [Nat.min_eq_left h]
        · rw [Nat.min_eq_right h, List.drop_of_length_le (by omega), List.drop_of_length_le (by omega)]
      refine ⟨"str", _, F.slot_str_getitem.lookup, typeIs_str _ _ _, wpAny_getItem_str_slice (l := some (i, tl)) (u := none) (st := none) hs rfl (made_cut I hz (by rw [List.length_drop]; omega) (by rw [ep, ef, et]) (fun e => ?_) q)⟩
      rw [ep, List.length_map, List.length_range] at e
      have : z.length = 0 ∨ i.toNat = 0 := by omega
      rcases this with h | h
      · rw [List.drop_of_length_le (by omega), List.eq_nil_of_length_eq_zero (by omega : z.cps.toList.length = 0)]
      · rw [h]; rfl
end
end L2
set_option Elab.async false
set_option linter.all false
set_option maxRecDepth 100000
/-! an error that flies, whatever frame it is marked with: it leaves, is noted by a block of the same frame, is passed on; what is let go beneath it -/
namespace L2
open PySem PySem.Spec PyProof.Rows
section
variable {M : Model} {A : Around} {E : Value → Shared → Prop} {s : Shared}
def FlyAt (base : Heap) (l : List Env) (e : Addr) (cls a0 fl : Value) (h : Heap) : Prop := base.StaysIn h ∧ base.get? e = none ∧ h.FunFrames base l ∧ h.TracedAtW base e cls a0 fl
theorem leaves_at {base : Heap} {env : Env} {outer : List Env} {L e : Addr} {cls a0 fl : Value} {Q : Unit → Shared → Prop} (hfr : A.frames = some (env :: outer)) (hf : env.frame = some L) (x : FlyAt base (env :: outer) e cls a0 fl s.heap)
    (hQ : ∀ h', Heap.FlyingW base outer e cls a0 h' → s.heap.UpToSlots h' → Q () { s with heap := h' }) : wpAny M A (leaving env (.ref e)) Q E s := by
  obtain ⟨hkb, hen, hl, ht⟩ := x
  by_cases c : fl = rawInt L
  · subst c
    unfold leaving
    refine wpAny_bind (wpAny_noteFrame_againW hf ht ?_)
    refine wpAny_landsW ⟨hkb, hen, hl, ht⟩ fun h' hfl up => ?_
    obtain ⟨k1, k2, ⟨_, _, k3⟩, k4⟩ := hfl
    exact hQ h' ⟨k1, k2, k3, k4⟩ up
  · obtain ⟨oe, vs, T, oT, ts, he, ⟨hcls, h0⟩, hd, h1, hnT, hTe, hT, hdT, h3⟩ := ht
    subst hcls
    unfold leaving noteFrame
    simp only [hf]
    refine wpAny_bind (wpAny_bind (wpAny_field he hd h1 ?_))
    rw [if_pos (show (Value.ref T != Value.none) = true from by simp)]
    refine wpAny_bind (wpAny_field hT hdT h3 ?_)
    rw [if_neg (by simpa using c)]
    refine wpAny_bind (wpAny_setField hT hdT (Array.getElem?_eq_some_iff.mp h3).1 ?_)
    have other : ∀ b, b ≠ T → (s.heap.update T (Obj.mapFields (·.setIfInBounds 3 Value.none))).get? b = s.heap.get? b := fun b hb => Heap.get?_update_other _ _ (Ne.symm hb)
    have rec_ : ∀ b o, s.heap.get? b = some o → (∀ vs, o.data ≠ .fields vs) → b ≠ T := fun b o hb hnf q => by
      rw [q, hT] at hb; injection hb with hb; subst hb; exact hnf ts hdT
    refine wpAny_newEntryW hfr (hl.of_keeps fun b o hb hnf => ⟨o, (other b (rec_ b o hb hnf)).trans hb, rfl⟩) hf ((other e (Ne.symm hTe)).trans he) (fun b o hbo => (other b fun q => by rw [q, hnT] at hbo; cases hbo).trans (hkb b o hbo)) hen hd (Array.getElem?_eq_some_iff.mp h1).1 h0 fun h' y => ?_
    obtain ⟨x1, ⟨_, _, x2⟩, x3, x4⟩ := y
    exact hQ h' ⟨x1, hen, x2, x3⟩ fun b o hb hnf => x4 b o ((other b (rec_ b o hb hnf)).trans hb) hnf
/-- noted by a block of the same frame -/
theorem note_same {env cenv : Env} (x : Value) (h : cenv.frame = env.frame) : noteFrame x cenv = noteFrame x env := by
  unfold noteFrame PySem.frameOf
  rw [h]
theorem note_at {base : Heap} {env cenv : Env} {outer : List Env} {L e : Addr} {cls a0 : Value} {Q : Unit → Shared → Prop} (hfr : A.frames = some (env :: outer)) (hf : env.frame = some L) (hc : cenv.frame = env.frame) (x : Heap.FlyingW base (env :: outer) e cls a0 s.heap)
    (hQ : ∀ h', FlyAt base (env :: outer) e cls a0 (rawInt L) h' → s.heap.UpToSlots h' → Q () { s with heap := h' }) : wpAny M A (noteFrame (.ref e) cenv) Q E s := by
  rw [note_same _ hc]
  exact wpAny_looks_onW hfr hf x hQ
/-- passed on -/
theorem pass_at {α : Type} {base : Heap} {cenv : Env} {l : List Env} {e : Addr} {cls a0 fl : Value} {what : String} {Q : α → Shared → Prop} (x : FlyAt base l e cls a0 fl s.heap)
    (hE : ∀ h' fl', FlyAt base l e cls a0 fl' h' → s.heap.UpToSlots h' → E (.ref e) { s with heap := h' }) : wpAny M A (PySem.passOn what (.ref e) cenv : Sem α) Q E s := by
  obtain ⟨hkb, hen, hl, oe, vs, T, oT, ts, he, hcls, hd, h1, hnT, hTe, hT, hdT, h3⟩ := x
  have hsz3 : 3 < ts.size := (Array.getElem?_eq_some_iff.mp h3).1
  have other : ∀ (v : Value) b, b ≠ T → (s.heap.update T (Obj.mapFields (·.setIfInBounds 3 v))).get? b = s.heap.get? b := fun v b hb => Heap.get?_update_other _ _ (Ne.symm hb)
  have rec_ : ∀ b o, s.heap.get? b = some o → (∀ vs, o.data ≠ .fields vs) → b ≠ T := fun b o hb hnf q => by
    rw [q, hT] at hb; injection hb with hb; subst hb; exact hnf ts hdT
  unfold PySem.passOn setFlight
  refine wpAny_bind (wpAny_field he hd h1 ?_)
  rw [if_neg (show ¬ ((Value.ref T == Value.none) = true) from by simp)]
  refine wpAny_bind (wpAny_bind (wpAny_field he hd h1 ?_))
  rw [if_pos (show (Value.ref T != Value.none) = true from by simp)]
  refine wpAny_setField hT hdT hsz3 (wpAny_throw ?_)
  refine hE _ (cenv.frame.elim .none fun f => rawInt f) ⟨fun b o hbo => (other _ b fun q => by rw [q, hnT] at hbo; cases hbo).trans (hkb b o hbo), hen, hl.of_keeps fun b o hb hnf => ⟨o, (other _ b (rec_ b o hb hnf)).trans hb, rfl⟩, ?_⟩ fun b o hb hnf => ⟨o.slots, (other _ b (rec_ b o hb hnf)).trans hb⟩
  exact ⟨oe, vs, T, _, _, (other _ e (Ne.symm hTe)).trans he, hcls, hd, h1, hnT, hTe, Heap.get?_update_self _ hT (Obj.isFreed_of_fields (Obj.data_mapFields hdT _)), Obj.data_mapFields hdT _, by simp [hsz3]⟩
/-- all but what stands at C -/
def cutH (B : Heap) (C : Addr) : Heap := B.update C fun o => { o with data := .freed }
theorem cut_none (B : Heap) (C : Addr) : (cutH B C).get? C = none := by
  cases h : (cutH B C).get? C with
  | none => rfl
  | some o =>
    obtain ⟨e1, e2⟩ := Heap.get?_some_iff.mp h
    have e1 : (B.objs.modify C fun o => { o with data := .freed })[C]? = some o := e1
    rw [Array.getElem?_modify] at e1
    simp only [if_true] at e1
    cases hb : B.objs[C]? with
    | none => rw [hb] at e1; cases e1
    | some ob =>
      rw [hb] at e1
      have e1 := Option.some.inj e1
      rw [← e1] at e2
      cases e2
theorem cut_get {B : Heap} {C b : Addr} {o : Obj} (h : (cutH B C).get? b = some o) : b ≠ C ∧ B.get? b = some o := by
  by_cases c : b = C
  · subst c; rw [cut_none] at h; cases h
  · exact ⟨c, by rw [← Heap.get?_update_other B _ (Ne.symm c)]; exact h⟩
theorem cut_of {B : Heap} {C b : Addr} {o : Obj} (h : B.get? b = some o) (n : b ≠ C) : (cutH B C).get? b = some o := by
  unfold cutH
  rw [Heap.get?_update_other B _ (Ne.symm n)]; exact h
theorem cut_no {B : Heap} {C b : Addr} (h : B.get? b = none) : (cutH B C).get? b = none := by
  cases e : (cutH B C).get? b with
  | none => rfl
  | some o => rw [(cut_get e).2] at h; cases h
theorem frames_cut {B h h' : Heap} {C : Addr} {ob : Obj} (hC : B.get? C = some ob) (sb : Heap.SameBut C h h') : ∀ {l : List Env}, h.FunFrames B l → h'.FunFrames (cutH B C) l
  | [], _ => trivial
  | env :: l, ⟨k, ⟨L, o, f, n, g, d⟩, r⟩ => ⟨k, ⟨L, o, f, cut_no n, by rw [sb.2 L fun z => by rw [z, hC] at n; cases n]; exact g, d⟩, frames_cut hC sb r⟩
theorem FlyAt.cut {B h h' : Heap} {l : List Env} {e C : Addr} {cls a0 fl : Value} {ob : Obj} (x : FlyAt B l e cls a0 fl h) (hC : B.get? C = some ob) (sb : Heap.SameBut C h h') : FlyAt (cutH B C) l e cls a0 fl h' := by
  obtain ⟨hkb, hen, hl, oe, vs, T, oT, ts, he, hcls, hd, h1, hnT, hTe, hT, hdT, h3⟩ := x
  have ne : ∀ b, B.get? b = none → b ≠ C := fun b hb z => by rw [z, hC] at hb; cases hb
  refine ⟨fun b o hb => ?_, cut_no hen, frames_cut hC sb hl, oe, vs, T, oT, ts, (sb.2 e (ne e hen)).trans he, hcls, hd, h1, cut_no hnT, hTe, (sb.2 T (ne T hnT)).trans hT, hdT, h3⟩
  obtain ⟨n, g⟩ := cut_get hb
  exact (sb.2 b n).trans (hkb b o g)
end
end L2
set_option Elab.async false
set_option linter.all false
set_option maxRecDepth 100000
/-! a comprehension whose element may raise -/
namespace L2
open PySem PySem.Spec PyProof.Rows
section
variable {prog : Program} {w : World} {A : Around} {R : Result → Shared → Prop} {s : Shared}
theorem compLoop_anyX {elt target iter : Expr} {ifs : List Expr} {scope : Scope} {pos : Pos} {it acc : Value} {env : Env} (I : Nat → Shared → Prop)
    (turn : ∀ n s, I n s → wpAny (model prog w) A (pyNext it) (fun r s₁ => match r with
      | none => R (.ok .next) s₁
      | some v => wpAny (model prog w) A (letOwnedTupleGo target it v) (fun _ s₀ => wpAny (model prog w) A (assign target env v) (fun _ s₂ =>
          wpAny (model prog w) A (forIn ifs true fun c r => if r = true then do let ok ← isTrue c env (eval c env); pure (ForInStep.yield ok) else pure (ForInStep.yield r)) (fun ok s₃ =>
            if ok = true then wpAny (model prog w) A (eval elt env) (fun x s₄ =>
              wpAny (model prog w) A (call (.builtin "list.append") [acc, x]) (fun _ s₅ => ∃ m, m < n ∧ I m s₅) (fun _ _ => False) s₄) (notedBy (model prog w) A env fun e s' => R (.error e) s') s₃
            else ∃ m, m < n ∧ I m s₃) (fun _ _ => False) s₂) (fun _ _ => False) s₀) (fun _ _ => False) s₁) (fun _ _ => False) s)
    (n : Nat) (h : I n s) :
    codeAny (model prog w) A (.compLoop (.ListComp elt [⟨target, iter, ifs, 0⟩] scope pos) 0 it acc env) R s := by
  refine codeAny_loop rfl I (fun n s hI => ?_) n h
  show wpAny _ A ((compTurn (.ListComp elt [⟨target, iter, ifs, 0⟩] scope pos) 0 it acc env).onRaise (fun x => do noteFrame x env; theTreesLotGoes x)) _ _ s
  refine wpAny_noted ?_
  rw [compTurn_list]
  refine wpAny_bind (wpAny_standAt (wpAny_bind (wpAny_mono (turn n s hI) (fun r s₁ h₁ => ?_) fun _ _ f => f.elim)))
  cases r with
  | none => exact wpAny_pure h₁
  | some v =>
    refine wpAny_bind (wpAny_mono h₁ (fun _ s₀ h₀ => ?_) fun _ _ f => f.elim)
    refine wpAny_bind (wpAny_mono h₀ (fun _ s₂ h₂ => wpAny_bind (wpAny_mono h₂ (fun ok s₃ h₃ => ?_) fun _ _ f => f.elim)) fun _ _ f => f.elim)
    cases ok with
    | false => exact wpAny_pure ⟨rfl, h₃⟩
    | true =>
      exact wpAny_bind (wpAny_bind (wpAny_mono h₃ (fun x s₄ h₄ => wpAny_bind (wpAny_mono h₄ (fun _ s₅ h₅ => wpAny_pure (wpAny_pure ⟨rfl, h₅⟩)) fun _ _ f => f.elim)) fun _ _ f => f))
end
/-- what stands when the element of a block raises: told from the block's entry -/
structure XBs (X : Cx) (C : Addr) (s₂ : Shared) (H₂ : Hp) (fp : List Addr) (a Cc t : Addr) (H' : Hp) (B : Heap) (s' : Shared) : Prop where
  os : s'.os = s₂.os
  bare : AllBare s'.gens
  un : Un (frs X.stack) fp H₂ H' s₂.heap s'.heap
  hok : HOk X.prog X.w H' s'.heap
  fly : Heap.FlyingW B X.stack a (.ref Cc) (.ref t) s'.heap
  old : ∀ b o, s₂.heap.get? b = some o → b ∉ frs X.stack → b ∉ fp → ∃ ob, B.get? b = some ob
  trk : ∀ b o, H' b = some o → ∃ ob, B.get? b = some ob
  ns : ∃ m, s'.heap.Ns C m
  inB : ∃ ob, B.get? C = some ob
  frC : H' C = none
def XB (X : Cx) (E : XK) (C : Addr) (s₂ : Shared) (H₂ : Hp) (fp : List Addr) : Value → Shared → Prop := fun e s' => ∃ (a Cc t : Addr) (H' : Hp) (B : Heap), e = .ref a ∧ XBs X C s₂ H₂ fp a Cc t H' B s' ∧ E (.ref Cc) none H'
theorem passB {P : Program} {w : World} {X : Cx} {E : XK} {scope : Scope} {NB : List Str} {C : Addr} {s₂ : Shared} {H₂ : Hp} {fp : List Addr} (hP : X.prog = P) (hw : X.w = w) : Passes (CXr P w) ((blk X scope NB C s₂ H₂ fp).wish (XB X E C s₂ H₂ fp)) E := by
  subst hP hw
  intro pins σ H s e s' I h
  obtain ⟨a, Cc, t, H', B, rfl, F, hE⟩ := h
  have I' : Inv ((blk X scope NB C s₂ H₂ fp).wish (XB X E C s₂ H₂ fp)) pins σ H' s' := I.call' F.os F.un F.hok F.bare fun b hb => nomatch hb
  obtain ⟨m, hn0, _⟩ := id I.loc
  obtain ⟨o, ho⟩ : ∃ o, s.heap.get? C = some o := let ⟨o, _, _, ho, _⟩ := hn0; ⟨o, ho⟩
  obtain ⟨m', hn', _⟩ := id I'.loc
  refine ⟨a, Cc, t, H', B, rfl, ⟨I'.os, I'.bare, I'.base, I'.hok, F.fly, fun b o q n hf => ?_, F.trk, ⟨m', hn'⟩, ?_, I'.free⟩, hE⟩
  · obtain ⟨o', r⟩ := I.base.there b o q hf
    exact F.old b o' r n
  · refine F.old C o ho fun hC => ?_
    obtain ⟨_, o2, r, _⟩ := I.ok.funs.mem hC
    exact absurd (Heap.lt_size r) (Nat.not_lt.mpr I.ok.above)
/-- what a def's context does with an error out of a block of its own -/
def LeavesB (X : Cx) (E : XK) : Prop := ∀ {pins : List (Addr × Obj)} {σ : St} {H2 : Hp} {s2 : Shared} {C : Addr} {fp : List Addr} {a Cc t : Addr} {H' : Hp} {B : Heap} {s' : Shared} {cenv : Env} {Q : Value → Shared → Prop} {acc : Value}, Inv X pins σ H2 s2 → (∀ b ∈ fp, FpOk X pins H2 b) → s2.heap.objs.size ≤ C →
  XBs X C s2 H2 fp a Cc t H' B s' → E (.ref Cc) none H' → cenv.frame = X.env.frame → notedBy (model X.prog X.w) X.A cenv (fun e s'' => compPost (model X.prog X.w) X.A X.xe none Q acc C (.error e) s'') (.ref a) s'
theorem leavesB {P : Program} {w : World} {K : PySem.W.Frag} {mg : Str → Option Value} {base : Heap} {N : List Str} {qual : Str} {scope : Scope} {f : Addr} {cd : Value} {A : Around} {outer : List Env} {s : Shared} {H : Hp} {E : XK} : LeavesB (cxOf (CXr P w) P w K mg base N qual scope f cd A outer s H E) E := by
  intro pins σ H2 s2 C fp a Cc t H' B s' cenv Q acc I2 f2 hC S hE hf
  refine note_at (env := envOfC qual scope s.heap.objs.size f cd) (outer := outer) (L := s.heap.objs.size) I2.ok.frames rfl hf S.fly fun h1 fl1 up1 => ?_
  obtain ⟨m, hn⟩ := S.ns
  refine ⟨m, up1.ns hn, fun h2 sb cenv' _ => ?_⟩
  obtain ⟨ob, hB⟩ := S.inB
  refine pass_at (fl1.cut hB sb) fun h3 fl' fl3 up3 => ?_
  refine leaves_at (env := envOfC qual scope s.heap.objs.size f cd) (outer := outer) (L := s.heap.objs.size) I2.ok.frames rfl fl3 fun h4 fl4 up4 => ?_
  have I' : Inv (cxOf (CXr P w) P w K mg base N qual scope f cd A outer s H E) pins σ H' s' := I2.call' S.os S.un S.hok S.bare fun b hb => ⟨(f2 b hb).2.2.2.1, (f2 b hb).2.1, (f2 b hb).2.2.2.2.1, (f2 b hb).2.2.2.2.2⟩
  have hout : ∀ b, b ∉ frs outer → b ≠ s.heap.objs.size → b ∉ frs (envOfC qual scope s.heap.objs.size f cd :: outer) := fun b h1 h2 z => by
    rcases List.mem_cons.mp (I2.stkSub b z) with q | q
    · exact h2 q
    · exact h1 q
  have old : ∀ b o, s.heap.get? b = some o → b ∉ frs outer → ∃ ob, (cutH B C).get? b = some ob := fun b o q n => by
    obtain ⟨o', r⟩ := I2.base.there b o q (fun z => nomatch (show b ∈ ([] : List Addr) from z))
    have nf : b ∉ fp := fun z => by
      rcases (f2 b z).2.2.2.1 with y | y
      · exact nomatch (show b ∈ ([] : List Addr) from y)
      · exact absurd (Heap.lt_size q) (Nat.not_lt.mpr y)
    obtain ⟨ob', hb'⟩ := S.old b o' r (hout b n (Nat.ne_of_lt (Heap.lt_size q))) nf
    exact ⟨ob', cut_of hb' (Nat.ne_of_lt (Nat.lt_of_lt_of_le (Heap.lt_size r) hC))⟩
  have trk : ∀ b o, H' b = some o → ∃ ob, (cutH B C).get? b = some ob := fun b o q => by
    obtain ⟨ob', hb'⟩ := S.trk b o q
    exact ⟨ob', cut_of hb' fun z => by rw [z, S.frC] at q; cases q⟩
  have un1 : Un (frs outer) [] H H' s.heap s'.heap := I'.base
  have frm : ∀ b ∈ frs outer, ∀ o, s'.heap.get? b = some o → ∃ sl, h4.get? b = some { o with slots := sl } := fun b hb o q => by
    obtain ⟨_, o', r, nf⟩ := I'.funs.mem hb
    rw [q] at r
    cases r
    obtain ⟨l1, r1⟩ := up1 b o q nf
    have bC : b ≠ C := fun z => by
      obtain ⟨_, o2, r2, _⟩ := I2.funs.mem hb
      exact absurd (Heap.lt_size r2) (Nat.not_lt.mpr (z ▸ hC))
    have r2 := (sb.2 b bC).trans r1
    obtain ⟨l3, r3⟩ := up3 b _ r2 nf
    obtain ⟨l4, r4⟩ := up4 b { o with slots := l3 } r3 nf
    exact ⟨l4, r4⟩
  obtain ⟨un2, hok2⟩ := fly_step un1 I'.hok (fun b o q => S.fly.1 b o (cut_get q).2) fl4.1 old trk frm
  exact ⟨a, Cc, t, H', cutH B C, rfl, ⟨I'.os, I'.bare, un2, hok2, fl4, old, trk⟩, hE⟩
theorem pe_compX {X : Cx} {E : XK} {elt tg iter : Expr} {ifs : List Expr} {scope : Scope} {pos : Pos} {wi : TI} {g : TG} {tt : TT} {te : TE} {NB : List Str} {js : List (Option Nat)} (lv : LeavesB X E) (hc : X.calm = true) (B : BlkOk X scope NB js) (hi : PI X tg iter wi)
    (hg : ∀ C s₂ H₂ fp, PG (blk X scope NB C s₂ H₂ fp) tg g) (ht : ∀ C s₂ H₂ fp, PF (blk X scope NB C s₂ H₂ fp) ifs tt) (he : ∀ C s₂ H₂ fp, PE ((blk X scope NB C s₂ H₂ fp).wish (XB X E C s₂ H₂ fp)) elt te)
    (hs : ∀ x, foldedSetIterable iter X.env x = pure x := by intro _; rfl) : PE X (.ListComp elt [⟨tg, iter, ifs, 0⟩] scope pos) (tComp js wi g tt te) := by
  intro pins s σ H Q I h
  rw [eval_ListComp]
  refine wpAny_comprehension_free (use := none) rfl hs B.clos B.kind B.locs (thn (hi pins s σ H _ I h) fun v s1 h1 => thn h1 fun itv s2 h2 => ?_)
  obtain ⟨it, fp, tn, J, H2, e, I2, T, st2, f2, hW⟩ := h2
  subst e
  have fresh2 : H2 s2.heap.objs.size = none := I2.hok.fresh (Nat.le_refl _)
  obtain ⟨W, ⟨m0, w0⟩, turn⟩ := hW s2.heap.objs.size fresh2
  refine wpAny_newObj_type (wpAny_newFunctionEnv B.nocell (by intro y hy; simp at hy) (fun h₁ hns₁ hsb₁ => ?_) B.kind)
  dsimp only at hns₁ hsb₁ ⊢
  generalize hH2 : s2.heap.push { cls := .type "list", dict := none, data := .seq ([] : List Value).toArray } = HP at hns₁ hsb₁ ⊢
  have hC : HP.objs.size = s2.heap.objs.size + 1 := by rw [← hH2, Heap.size_push]
  have hCle : s2.heap.objs.size ≤ HP.objs.size := by rw [hC]; exact Nat.le_succ _
  have hDC : s2.heap.objs.size ≠ HP.objs.size := by rw [hC]; exact Nat.ne_of_lt (Nat.lt_succ_self _)
  have below : ∀ b, b < s2.heap.objs.size → b ≠ HP.objs.size := fun b hb => Nat.ne_of_lt (Nat.lt_of_lt_of_le hb hCle)
  have old : ∀ b o, s2.heap.get? b = some o → h₁.get? b = some o := fun b o e => hsb₁.extBut b o (below b (Heap.lt_size e)) (Heap.get?_push_of_some _ (hH2 ▸ Heap.get?_push_of_some _ e))
  have hacc : h₁.get? s2.heap.objs.size = some { cls := .type "list", dict := none, data := .seq ([] : List Value).toArray } := hsb₁.extBut _ _ hDC (Heap.get?_push_of_some _ (hH2 ▸ Heap.get?_push_size _ rfl))
  have fplt : ∀ b ∈ fp, b < s2.heap.objs.size := fun b hb => by
    obtain ⟨o, ho, _⟩ := T.obj 0 _ st2 b hb
    exact Heap.lt_size ho
  have okY : (blk X scope NB HP.objs.size s2 H2 fp).Ok := blk_ok B I2 f2 (fun b hb => below b (fplt b hb)) hCle
  have lenτ : (tau js σ).length = NB.length := by unfold tau; rw [List.length_map]; exact B.len
  have IY : Inv (blk X scope NB HP.objs.size s2 H2 fp) [] (tau js σ) (upd H2 s2.heap.objs.size (.lst [])) { s2 with heap := h₁, toks := s2.toks + ([] : List (Str × Value)).length } := by
    refine ⟨okY, rfl, I2.bare, Un.laid old (Nat.le_refl _) fresh2, ⟨_, hns₁, fun i x v e1 e2 e3 => ?_⟩, fun x c e => ?_, ?_, fun x c e => ?_, fun p hp => absurd (show p ∈ ([] : List (Addr × Obj)) from hp) (by simp), I2.hok.laid old (Nat.le_refl _) ?_, lenτ⟩
    · obtain ⟨j, ej, ev⟩ := tau_get e2
      obtain ⟨x', n1, n2, n3, n4, n5⟩ := B.outer i j ej
      have ex : x' = x := Option.some.inj (n1.symm.trans e1)
      subst ex
      obtain ⟨m, _, hl⟩ := I2.loc
      obtain ⟨u, ru, l⟩ := hl j x' v n2 ev n4
      refine ⟨u, ru, .inr ?_⟩
      have e3' : Vis (relabel scope X.env) x' := e3
      have nl := B.inner i x' e1 n3 e3'
      have kk : (relabel scope X.env).names.lookup x' = some .cell ∨ (relabel scope X.env).names.lookup x' = some .free := by
        rcases e3' with z | z | z
        · exact absurd z nl
        · exact .inl z
        · exact .inr z
      refine ⟨kk, ?_⟩
      rcases l with ⟨z, _⟩ | ⟨_, c, ec, cell⟩
      · exact absurd z n5
      · obtain ⟨c', ec'⟩ := closOf_has (env := X.env) n3
        have q := (mem_closOf B.there ec').1
        rw [ec] at q
        cases q
        exact ⟨c, ec', cell.keeps old⟩
    · obtain ⟨v, z⟩ := I2.cell x c (mem_closOf B.there e).1
      exact ⟨v, z.keeps old⟩
    · show upd H2 s2.heap.objs.size (.lst []) HP.objs.size = none
      rw [upd_ne (Ne.symm hDC)]
      exact I2.hok.fresh hCle
    · have ec := (mem_closOf B.there e).1
      obtain ⟨v, o, ho, _⟩ := I2.cell x c ec
      rw [upd_ne (Nat.ne_of_lt (Heap.lt_size ho))]
      exact I2.freeC x c ec
    · exact ⟨by show 0 ≤ sizeLine; exact Nat.zero_le _, [], 0, .nil, hacc⟩
  have st1 : tn 0 h₁ := T.keep 0 _ _ st2 fun b _ o e => old b o e
  have statY : ∀ {H' : Hp}, (∀ b ∈ fp, H' b = none) → ∀ b ∈ fp, FpOk (blk X scope NB HP.objs.size s2 H2 fp) [] H' b := fun {H'} hn b hb =>
    ⟨hn b hb, below b (fplt b hb), okY.exfs b hb, .inl hb, (okY.exf b hb).2, fun p hp => absurd (show p ∈ ([] : List (Addr × Obj)) from hp) (by simp)⟩
  have frN : ∀ b ∈ fp, upd H2 s2.heap.objs.size (.lst []) b = none := fun b hb => by
    rw [upd_ne (Nat.ne_of_lt (fplt b hb))]
    exact (f2 b hb).1
  have loop : ∀ s₃ : Shared, s₃ = { s2 with heap := h₁, toks := s2.toks + ([] : List (Str × Value)).length } →
      codeAny (model X.prog X.w) X.A (.compLoop (.ListComp elt [⟨tg, iter, ifs, 0⟩] scope pos) 0 (.ref it) (.ref s2.heap.objs.size) (compEnvC scope (closOf scope X.env) HP.objs.size X.env))
        (compPost (model X.prog X.w) X.A X.xe none (EP X pins σ Q) (.ref s2.heap.objs.size) HP.objs.size) s₃ := by
    rintro s₃ rfl
    refine compLoop_anyX (fun n s' => ∃ i ys H', Inv (blk X scope NB HP.objs.size s2 H2 fp) [] (tau js σ) H' s' ∧ tn i s'.heap ∧ (∀ b ∈ fp, H' b = none) ∧ W i n ys H') ?_ m0 ⟨0, [], _, IY, st1, frN, w0⟩
    rintro n s3 ⟨i, ys, H3, I3, st3, fr3, w3⟩
    rcases turn i n ys H3 w3 with ⟨stop, qq⟩ | ⟨go, NN, hNN, step⟩
    · refine thn (T.done (blk X scope NB HP.objs.size s2 H2 fp) rfl rfl rfl hc i [] s3 (tau js σ) H3 (fun _ _ => False) I3 (statY fr3) st3 stop) fun r s4 ⟨hr, I4⟩ => ?_
      subst hr
      obtain ⟨m4, hn4, _⟩ := id I4.loc
      refine ⟨m4, hn4, fun h' sb => ⟨.ref s2.heap.objs.size, H3, ?_, rfl, qq⟩⟩
      have u4 : Un (frs X.stack) fp H2 H3 s2.heap s4.heap := I4.base
      exact I2.call' (s' := { s4 with heap := h' }) I4.os (u4.but hCle sb) (I4.hok.but I4.free sb) I4.bare fun b hb => ⟨(f2 b hb).2.2.2.1, (f2 b hb).2.1, (f2 b hb).2.2.2.2.1, (f2 b hb).2.2.2.2.2⟩
    · refine thn (T.item (blk X scope NB HP.objs.size s2 H2 fp) rfl rfl rfl hc i [] s3 (tau js σ) H3 (fun _ _ => False) I3 (statY fr3) st3 go) fun r s4 ⟨u, hr, h4⟩ => ?_
      subst hr
      refine thn h4 fun _ s5 ⟨x, H5, I5, r5, y5, st5, fr5⟩ => ?_
      have I5' := I5.pinned (statY fr5) (T.obj _ _ st5)
      refine thn (hg _ _ _ _ _ s5 (tau js σ) H5 x u _ I5' r5 (step x H5 y5)) fun _ s6 ⟨σ6, H6, I6, ag, q6⟩ => ?_
      have back : ∀ {s7 : Shared} {H7 : Hp}, Inv (blk X scope NB HP.objs.size s2 H2 fp) ([] ++ pinsAt fp s5.heap) σ6 H7 s7 → Inv (blk X scope NB HP.objs.size s2 H2 fp) [] (tau js σ) H7 s7 ∧ tn (i + 1) s7.heap ∧ ∀ b ∈ fp, H7 b = none := fun {s7 H7} I7 => by
        refine ⟨I7.unpinned.weak (lenτ.trans I7.len.symm) ag, T.keep _ _ _ st5 fun b hb o e => (I7.pin (b, o) (List.mem_append_right _ (List.mem_append_right _ (mem_pinsAt hb e)))).1, fun b hb => ?_⟩
        obtain ⟨o, e, d⟩ := T.obj _ _ st5 b hb
        exact (I7.pin (b, o) (List.mem_append_right _ (List.mem_append_right _ (mem_pinsAt hb e)))).2.1
      refine thn (ht _ _ _ _ _ s6 σ6 H6 _ I6 q6) fun ok s7 ⟨H7, I7, q7⟩ => ?_
      cases ok with
      | false =>
        obtain ⟨m', hm, w7⟩ := hNN _ _ q7
        obtain ⟨J1, J2, J3⟩ := back I7
        exact ⟨m', hm, i + 1, ys, H7, J1, J2, J3, w7⟩
      | true =>
        refine wpAny_mono (he HP.objs.size s2 H2 fp _ s7 σ6 H7 _ (I7.wish _) q7) (fun v s8 ⟨y, H8, I8w, r8, hD8, hz, n8⟩ => ?_) (fun e8 s8 hx => ?_)
        case refine_2 =>
          obtain ⟨ea, ec, et, eH, eB, rfl, eS, eE⟩ := hx
          exact lv I2 f2 hCle eS eE rfl
        have I8 := I8w.unwish
        obtain ⟨m', hm, w8⟩ := hNN _ _ n8
        refine thn (mt_append _ s8 σ6 H8 (.ref s2.heap.objs.size) [y] (.ref s2.heap.objs.size) [v] (fun z H' => z = .non ∧ H' = upd H8 s2.heap.objs.size (.lst (ys ++ [y]))) I8 rfl (.cons r8 .nil) ⟨_, ys, y, rfl, rfl, hD8, hz, ⟨rfl, rfl⟩⟩) fun _ s9 ⟨z, H9, I9, r9, q9⟩ => ?_
        obtain ⟨ez, e9⟩ : z = .non ∧ H9 = upd H8 s2.heap.objs.size (.lst (ys ++ [y])) := q9
        subst e9
        obtain ⟨J1, J2, J3⟩ := back I9
        exact ⟨m', hm, i + 1, ys ++ [y], _, J1, J2, J3, w8⟩
  exact codeAny_compStart_list (loop _ rfl) (T.self _ _ _ _ _ st1 (loop _ rfl))
end L2
set_option Elab.async false
set_option linter.all false
set_option maxRecDepth 100000
namespace Be
open PySem L2 BE PySem.Builtin.Str
theorem sp_cps : (" " : Str) = ⟨#[32]⟩ := by decide +kernel
theorem log_small {i : Int} (h0 : 0 ≤ i) (h1 : i < 100) : i.natAbs.log2 < 1920 := by
  by_cases z : i.natAbs = 0
  · rw [z]; decide
  · exact (Nat.log2_lt z).mpr (Nat.lt_of_lt_of_le (show i.natAbs < 2 ^ 7 by omega) (Nat.pow_le_pow_right (n := 2) (by decide) (show 7 ≤ 1920 by omega)))
/-- the number below n that a word is -/
def wkN (n : Nat) (z : Str) : Option Int := ((List.range n).find? fun (k : Nat) => decide (z = nT (k : Int))).map fun (k : Nat) => (k : Int)
def rdW (n : Nat) : List Str → Option (List Int)
  | [] => some []
  | z :: r => match wkN n z, rdW n r with
    | some k, some o => some (k :: o)
    | _, _ => none
def rdT (n : Nat) (z : Str) : Option (List Int) := if z = "" then some [] else rdW n (Txt.split z " ")
theorem wkN_some {n : Nat} {z : Str} {k : Int} (h : wkN n z = some k) : 0 ≤ k ∧ k < (n : Int) ∧ z = nT k := by
  unfold wkN at h
  cases e : (List.range n).find? fun (k : Nat) => decide (z = nT (k : Int)) with
  | none => rw [e] at h; cases h
  | some j =>
    rw [e] at h
    obtain rfl := Option.some.inj h
    have h1 := List.mem_range.mp (List.mem_of_find?_eq_some e)
    have h2 := List.find?_some e
    exact ⟨by show (0 : Int) ≤ (j : Int); omega, by show (j : Int) < (n : Int); omega, of_decide_eq_true h2⟩
theorem wkN_none {n : Nat} {z : Str} (h : wkN n z = none) : ∀ k : Int, 0 ≤ k → k ≤ (n : Int) - 1 → z ≠ nT k := fun k h0 h1 e => by
  unfold wkN at h
  have h := Option.map_eq_none_iff.mp h
  have := List.find?_eq_none.mp h k.toNat (List.mem_range.mpr (by omega))
  rw [Int.toNat_of_nonneg h0] at this
  exact this (decide_eq_true e)
theorem rdW_take {n : Nat} : ∀ {ws : List Str} {o : List Int}, rdW n ws = some o → ∀ (i : Nat) (z : Str), ws[i]? = some z → ∃ k, wkN n z = some k ∧ o[i]? = some k
  | [], o, h, i, z, hz => by simp at hz
  | w :: r, o, h, i, z, hz => by
    unfold rdW at h
    cases h1 : wkN n w with
    | none => rw [h1] at h; cases h
    | some k =>
      cases h2 : rdW n r with
      | none => rw [h1, h2] at h; cases h
      | some o' =>
        rw [h1, h2] at h
        obtain rfl := Option.some.inj h
        cases i with
        | zero => obtain rfl := Option.some.inj hz; exact ⟨k, h1, rfl⟩
        | succ i => exact rdW_take h2 i z hz
theorem rdW_len {n : Nat} : ∀ {ws : List Str} {o : List Int}, rdW n ws = some o → o.length = ws.length
  | [], o, h => by obtain rfl := Option.some.inj h; rfl
  | w :: r, o, h => by
    unfold rdW at h
    cases h1 : wkN n w with
    | none => rw [h1] at h; cases h
    | some k =>
      cases h2 : rdW n r with
      | none => rw [h1, h2] at h; cases h
      | some o' =>
        rw [h1, h2] at h
        obtain rfl := Option.some.inj h
        rw [List.length_cons, List.length_cons, rdW_len h2]
theorem rdW_bad {n : Nat} {ws : List Str} {i : Nat} {z : Str} (h : ws[i]? = some z) (hn : wkN n z = none) : rdW n ws = none := by
  cases e : rdW n ws with
  | none => rfl
  | some o =>
    obtain ⟨k, hk, _⟩ := rdW_take e i z h
    rw [hn] at hk; cases hk
theorem rdW_snoc {n : Nat} {z : Str} {k : Int} (hk : wkN n z = some k) : ∀ {ws : List Str} {o : List Int}, rdW n ws = some o → rdW n (ws ++ [z]) = some (o ++ [k])
  | [], o, h => by
    obtain rfl := Option.some.inj h
    show (match wkN n z, rdW n [] with | some k, some o => some (k :: o) | _, _ => none) = _
    rw [hk]; rfl
  | w :: r, o, h => by
    unfold rdW at h
    cases h1 : wkN n w with
    | none => rw [h1] at h; cases h
    | some j =>
      cases h2 : rdW n r with
      | none => rw [h1, h2] at h; cases h
      | some o' =>
        rw [h1, h2] at h
        obtain rfl := Option.some.inj h
        show (match wkN n w, rdW n (r ++ [z]) with | some k, some o => some (k :: o) | _, _ => none) = _
        rw [h1, rdW_snoc hk h2]; rfl
theorem split_len {z y : Str} : (Txt.split z y).length ≤ z.length + 2 := by
  unfold Txt.split
  split
  · show 1 ≤ _; omega
  · split
    · show 1 ≤ _; omega
    · rw [length_partsBetween]
      have := StrLaws.occ_length_le z y 0 z.length (z.length + 1)
      omega
theorem take_snocS {α : Type} {l : List α} {i : Nat} {x : α} (h : l[i]? = some x) : l.take (i + 1) = l.take i ++ [x] := by rw [List.take_add_one, h]; rfl
section
variable {P : Program} {w : World} {K : PySem.W.Frag} {mg : Str → Option Value} {base : Heap}
def isStrD : PyData → Bool
  | .str _ => true
  | _ => false
def sp_ct (T : Txt K mg) : Sp := fun vs H Q E => ∃ (v : V) (d : PyData), vs = [v] ∧ Rep H v d ∧ (isStrD d = true → Q .non H) ∧ (isStrD d = false → E (.ref T.e_NoText.C) none H)
theorem ok_check_text (T : Txt K mg) : FnOk P w K mg base (CXr P w) 1 T.check_text.a T.check_text.d ["text"] (sp_ct T) := by
  refine T.check_text.F.okR sc_check_text (fun vs H Q E h => ?_) (fun cdv A outer s H vs Q E hr h => ?_)
  · obtain ⟨v, d, rfl, _⟩ := h; rfl
  obtain ⟨v, d, rfl, hd, q, qE⟩ := h
  refine ⟨_, (pss_one (ps_if (pt_not (pt_val (pe_callB (call_isi kit_str) rfl T.n_isinstance bt_isinstance (pa_cons (pv 0) (pa_cons (pe_bltn (v := .ty "str") rfl T.n_str bt_str rfl) pa_nil))))) (pss_one (ps_raise T.e_NoText.m T.e_NoText.q PySem.F.excBase_ValueError hr.hd pe_str rfl)) pss_nil)), ?_⟩
  refine ⟨_, rfl, v, d, rfl, hd, _, rfl, ?_⟩
  cases hd with
  | str x => exact iteF (q rfl)
  | non => exact iteT ⟨by show 1 ≤ sizeLine; decide, qE rfl⟩
  | bl b => exact iteT ⟨by show 1 ≤ sizeLine; decide, qE rfl⟩
  | int i => exact iteT ⟨by show 1 ≤ sizeLine; decide, qE rfl⟩
  | lst e r => exact iteT ⟨by show 1 ≤ sizeLine; decide, qE rfl⟩
  | tup e r => exact iteT ⟨by show 1 ≤ sizeLine; decide, qE rfl⟩
def sp_rn (T : Txt K mg) : Sp := fun vs H Q E => ∃ (z : Str) (lo hi : Int), vs = [.str z, .int lo, .int hi] ∧ 0 ≤ lo ∧ lo ≤ hi + 1 ∧ hi ≤ 99 ∧ (∀ k, lo ≤ k → k ≤ hi → z = nT k → Q (.int k) H) ∧ ((∀ k, lo ≤ k → k ≤ hi → z ≠ nT k) → E (.ref T.e_NoText.C) none H)
theorem ok_read_number (T : Txt K mg) : FnOk P w K mg base (CXr P w) 1 T.read_number.a T.read_number.d ["text", "least", "most"] (sp_rn T) := by
  refine T.read_number.F.okR sc_read_number (fun vs H Q E h => ?_) (fun cdv A outer s H vs Q E hr h => ?_)
  · obtain ⟨z, lo, hi, rfl, _⟩ := h; rfl
  obtain ⟨z, lo, hi, rfl, l0, lh, h9, q, qE⟩ := h
  refine ⟨_, (pss_cons (ps_for PassesOwn.leaving rfl (pi_range2 rfl T.n_range (pa_cons (pv 1) (pa_cons (pe_op op_add (pv 2) pe_int) pa_nil))) (pg_name (i := 3) sc_read_number.nd rfl (by first | exact Or.inl rfl | exact Or.inr rfl)) (pss_one (ps_if (pt_cmpR op_eq (pv 0) (pe_callTy call_str_int rfl T.n_str bt_str (pa_cons (pv 3) pa_nil)) (nomark _)) (pss_one (ps_ret (pv 3))) pss_nil))) (pss_one (ps_raise T.e_NoText.m T.e_NoText.q PySem.F.excBase_ValueError hr.hd pe_str rfl))), ?_⟩
  refine ⟨_, rfl, _, rfl, _, _, rfl, rfl, lo, hi + 1, rfl, ⟨by omega, by omega, by omega, by omega⟩, for_range (lo := lo) (n := (hi + 1 - lo).toNat) (fun i σ H1 => ∃ y : Option V, σ = [some (.str z), some (.int lo), some (.int hi), y] ∧ H1 = H ∧ ∀ k, lo ≤ k → k < lo + (i : Int) → z ≠ nT k) ⟨none, rfl, rfl, fun k h1 h2 => absurd h2 (by omega)⟩ ?_ ?_⟩
  · rintro i σ H1 hi' ⟨y, rfl, rfl, hk⟩
    refine ⟨_, rfl, _, rfl, _, rfl, log_small (by omega) (by omega), rfl, _, rfl, ?_⟩
    by_cases c : z = nT (lo + (i : Int))
    · exact if_t (decide_eq_true (by rw [c]; rfl)) ⟨_, rfl, q _ (by omega) (by omega) c⟩
    · refine if_f (decide_eq_false fun e => c (V.str.inj e)) ⟨_, rfl, rfl, fun k h1 h2 => ?_⟩
      by_cases d : k = lo + (i : Int)
      · rw [d]; exact c
      · exact hk k h1 (by omega)
  · rintro σ H1 ⟨y, rfl, rfl, hk⟩
    exact ⟨by show 1 ≤ sizeLine; decide, qE fun k h1 h2 => hk k h1 (by omega)⟩
def sp_rw (T : Txt K mg) : Sp := fun vs H Q E => ∃ (v : V) (W : Wd) (z : Str), vs = [v, .str z] ∧ Rep H v (encW W) ∧ W.Ok ∧ z.length ≤ 900 ∧ (∀ o, rdT W.bs.length z = some o → ∀ (a : Addr) (H' : Hp), Same H H' → H' a = some (.tup (o.map V.int)) → Q (.ref a) H') ∧ (rdT W.bs.length z = none → ∀ H', Same H H' → E (.ref T.e_NoText.C) none H')
set_option maxHeartbeats 1000000 in
theorem ok_read_works (T : Txt K mg) : FnOk P w K mg base (CXr P w) 2 T.read_works.a T.read_works.d ["world", "text"] (sp_rw T) := by
  refine T.read_works.F.okR sc_read_works (fun vs H Q E h => ?_) (fun cdv A outer s H vs Q E hr h => ?_)
  · obtain ⟨v, W, z, rfl, _⟩ := h; rfl
  obtain ⟨v, W, z, rfl, hW, hok, hz, q, qE⟩ := h
  refine ⟨_, (pss_cons (ps_if (pt_cmpR op_eq (pv 1) pe_str (nomark _)) (pss_one (ps_ret (pe_tup pa_nil))) pss_nil) (pss_one (ps_ret (pe_callTy call_tuple_of rfl T.n_tuple bt_tuple (pa_cons (pe_compX (NB := ["part", "world"]) (js := [none, some 0]) leavesB rfl (blkOk_of rfl (by decide +kernel) rfl (by decide +kernel) (by decide +kernel) (by with_unfolding_all rfl) (by with_unfolding_all rfl) (by with_unfolding_all rfl) (by with_unfolding_all rfl)) (pi_list (pe_bm PySem.F.plainAttrs_str PySem.F.slot_str_split PySem.F.type_str_split mt_split (pv 1) (pa_cons pe_str pa_nil))) (fun _ _ _ _ => (pg_name (i := 0) (show (["part", "world"] : List Str).Nodup by decide +kernel) rfl (by first | exact Or.inl rfl | exact Or.inr rfl))) (fun _ _ _ _ => pf_nil) (fun _ _ _ _ => (pe_call (ok_read_number T) (hr.mono (by decide)) rfl T.read_number.m T.read_number.F.kp T.read_number.b .nil (passB rfl rfl) (pa_cons (pv 0) (pa_cons pe_int (pa_cons (pe_op op_sub (pe_call (ok_how_many_works T) (hr.mono (by decide)) rfl T.how_many_works.m T.how_many_works.F.kp T.how_many_works.b .nil passN (pa_cons (pv 1) pa_nil)) pe_int) pa_nil)))))) pa_nil))))), ?_⟩
  have sl : 100000 ≤ sizeLine := by decide
  have l1 := hok.l1
  have l10 := hok.l10
  refine ⟨_, rfl, rfl, _, rfl, ?_⟩
  by_cases c : z = ""
  · refine if_t (decide_eq_true (by rw [c])) ⟨by show 0 ≤ sizeLine; omega, fun p hp => ?_⟩
    exact q [] (if_pos c) p _ (same_new hp _) upd_same
  refine if_f (decide_eq_false fun e => c (V.str.inj e)) ?_
  have rt : rdT W.bs.length z = rdW W.bs.length (Txt.split z " ") := if_neg c
  rw [rt] at q qE
  have sp1 : (" " : Str).length = 1 := by rw [sp_cps]; rfl
  have wl := split_len (z := z) (y := " ")
  refine ⟨_, rfl, rfl, z, " ", rfl, rfl, by rw [sp1]; rfl, by omega, fun l hl _ => ?_⟩
  generalize Txt.split z " " = ws at *
  have k1 := same_new hl (.lst (ws.map V.str))
  have e1 : upd H l (.lst (ws.map V.str)) l = some (.lst (ws.map V.str)) := upd_same
  generalize upd H l (.lst (ws.map V.str)) = H1 at *
  refine ⟨l, rfl, ⟨_, SqL.of e1⟩, fun D hD => ?_⟩
  refine comp_listR (K := K) (a := l) (xs := ws.map V.str) (fun i ys H2 => Same H1 H2 ∧ H2 D = some (.lst ys) ∧ ∃ o, rdW W.bs.length (ws.take i) = some o ∧ ys = o.map V.int) ⟨same_new hD _, upd_same, [], rfl, rfl⟩ (fun i ys H2 _ hP => SqL.of (hP.1 _ _ e1)) (fun i ys y H2 hy hP => ?_) (fun ys H2 hP => ?_)
  · obtain ⟨g, hD2, o, ho, rfl⟩ := hP
    rw [List.getElem?_map] at hy
    cases hw : ws[i]? with
    | none => rw [hw] at hy; cases hy
    | some w0 =>
    rw [hw] at hy
    obtain rfl := Option.some.inj hy
    have hi := (List.getElem?_eq_some_iff.mp hw).1
    have ol := rdW_len ho
    rw [List.length_take] at ol
    refine ⟨agree0, iteT ⟨_, rfl, _, rfl, v, W, rfl, (hW.mono k1).mono g, _, _, rfl, rfl, w0, 0, (W.bs.length : Int) - 1, rfl, by omega, by omega, by omega, fun k h0 h1 e => ?_, fun hn => ?_⟩⟩
    · cases hk : wkN W.bs.length w0 with
      | none => exact absurd e (wkN_none hk k h0 h1)
      | some k' =>
        have b := wkN_some hk
        have ek : k = k' := nT_inj (by omega) (by omega) (e.symm.trans b.2.2)
        subst ek
        refine ⟨hD2, ?_, g.write hD _, upd_same, o ++ [k], ?_, by rw [List.map_append]; rfl⟩
        · rw [List.length_map]; omega
        · rw [take_snocS hw]; exact rdW_snoc hk ho
    · cases hk : wkN W.bs.length w0 with
      | some k' =>
        have b := wkN_some hk
        exact absurd b.2.2 (hn k' (by omega) (by omega))
      | none => exact qE (rdW_bad hw hk) H2 (k1.trans g)
  obtain ⟨g, hD2, o, ho, rfl⟩ := hP
  rw [List.length_map, List.take_length] at ho
  refine ⟨D, _, rfl, .inl ⟨SqL.of hD2, fun p hp => ?_⟩⟩
  exact q o ho p _ (k1.trans (g.trans (same_new hp _))) upd_same
def ordT (W : Wd) (z : Str) : Option (List Int) := match rdT W.bs.length z with
  | some o => if ordD W (.tuple (o.map .int)) = true then some o else none
  | none => none
def sp_ro (T : Txt K mg) : Sp := fun vs H Q E => ∃ (v t : V) (dw dt : PyData), vs = [v, t] ∧ Rep H v dw ∧ Rep H t dt ∧ ((isWD dw = false ∧ ∀ H', Same H H' → E (.ref T.e_NoWorld.C) none H') ∨ ∃ W : Wd, W.Ok ∧ dw = encW W ∧ ((isStrD dt = false ∧ ∀ H', Same H H' → E (.ref T.e_NoText.C) none H') ∨
  ∃ z : Str, t = .str z ∧ z.length ≤ 900 ∧ (∀ o, ordT W z = some o → ∀ (a : Addr) (H' : Hp), Same H H' → H' a = some (.tup (o.map V.int)) → Q (.ref a) H') ∧ (ordT W z = none → ∀ H', Same H H' → E (.ref T.e_NoText.C) none H')))
theorem rdT_len {n : Nat} {z : Str} {o : List Int} (h : rdT n z = some o) : o.length ≤ z.length + 2 := by
  unfold rdT at h
  by_cases c : z = ""
  · rw [if_pos c] at h; obtain rfl := Option.some.inj h; exact Nat.zero_le _
  · rw [if_neg c] at h; rw [rdW_len h]; exact split_len
set_option maxHeartbeats 1000000 in
theorem ok_read_order (T : Txt K mg) : FnOk P w K mg base (CXr P w) 6 T.read_order.a T.read_order.d ["world", "text"] (sp_ro T) := by
  refine T.read_order.F.okR sc_read_order (fun vs H Q E h => ?_) (fun cdv A outer s H vs Q E hr h => ?_)
  · obtain ⟨v, t, dw, dt, rfl, _⟩ := h; rfl
  obtain ⟨v, t, dw, dt, rfl, hv, ht, h⟩ := h
  refine ⟨_, (pss_cons (ps_expr (pe_call (ok_check_world T) (hr.mono (by decide)) rfl T.check_world.m T.check_world.F.kp T.check_world.b .nil passR (pa_cons (pv 0) pa_nil))) (pss_cons (ps_expr (pe_call (ok_check_text T) (hr.mono (by decide)) rfl T.check_text.m T.check_text.F.kp T.check_text.b .nil passR (pa_cons (pv 1) pa_nil))) (pss_cons (ps_set (i := 2) sc_read_order.nd rfl (by first | exact Or.inl rfl | exact Or.inr rfl) (pe_call (ok_read_works T) (hr.mono (by decide)) rfl T.read_works.m T.read_works.F.kp T.read_works.b .nil passR (pa_cons (pv 0) (pa_cons (pv 1) pa_nil)))) (pss_cons (ps_if (pt_not (pt_val (pe_call (ok_is_order T) (hr.mono (by decide)) rfl T.is_order.m T.is_order.F.kp T.is_order.b .nil passN (pa_cons (pv 0) (pa_cons (pv 2) pa_nil))))) (pss_one (ps_raise T.e_NoText.m T.e_NoText.q PySem.F.excBase_ValueError hr.hd pe_str rfl)) pss_nil) (pss_one (ps_ret (pv 2))))))), ?_⟩
  refine ⟨_, rfl, v, dw, rfl, hv, fun hT H1 g1 => ?_, fun hF H1 g1 => ?_⟩
  · rcases h with ⟨hf, _⟩ | ⟨W, hok, rfl, h⟩
    · rw [hT] at hf; cases hf
    refine ⟨_, rfl, t, dt, rfl, ht.mono g1, fun hs => ?_, fun hs => ?_⟩
    · rcases h with ⟨hf, _⟩ | ⟨z, rfl, hz, q, qE⟩
      · rw [hs] at hf; cases hf
      refine ⟨_, rfl, _, rfl, v, W, z, rfl, hv.mono g1, hok, hz, fun o ho a H2 g2 ha => ?_, fun hn H2 g2 => qE (by unfold ordT; rw [hn]) H2 (g1.trans g2)⟩
      have ol := rdT_len ho
      refine ⟨_, rfl, _, rfl, v, .ref a, W, .tuple (o.map .int), rfl, (hv.mono g1).mono g2, hok, .tup ha Reps.ints, (fun ds e => by cases e; rw [List.length_map]; omega), fun H3 g3 => ⟨_, rfl, ?_⟩⟩
      have g13 := g1.trans (g2.trans g3)
      cases hd : ordD W (.tuple (o.map .int)) with
      | true => exact iteF ⟨_, rfl, q o (by unfold ordT; rw [ho]; exact if_pos hd) a H3 g13 (g3 _ _ ha)⟩
      | false => exact iteT ⟨by show 1 ≤ sizeLine; decide, qE (by unfold ordT; rw [ho]; exact if_neg (by rw [hd]; exact Bool.false_ne_true)) H3 g13⟩
    · rcases h with ⟨_, q⟩ | ⟨z, rfl, _⟩
      · exact q H1 g1
      · cases ht; cases hs
  · rcases h with ⟨_, q⟩ | ⟨W, hok, rfl, _⟩
    · exact q H1 g1
    · rw [isW_enc hok] at hF; cases hF
end
end Be
set_option Elab.async false
set_option linter.all false
/-! int of True and False -/
namespace L2
open PySem PySem.Spec PyProof.Rows
section
variable {X : Cx}
end
end L2
set_option Elab.async false
set_option linter.all false
set_option maxRecDepth 100000
/-! int of a number's text -/
namespace L2
open PySem PySem.Spec PyProof.Rows BE
section
variable {X : Cx}
def rIntS : List V → Hp → VK → Prop := fun xs H Q => ∃ k : Int, xs = [.str (nT k)] ∧ 0 ≤ k ∧ k < 100 ∧ Q (.int k) H
theorem call_intS : CallR X (.type "int") rIntS := by
  intro pins s σ H xs us Q I r h
  obtain ⟨k, rfl, h0, h1, q⟩ := h
  obtain ⟨u, rfl, ⟨t, rfl⟩⟩ := vals1 r
  have l := (nT_ok h0 h1).l
  exact PySem.W.KIN.call_text (PySem.W.KIN.num_reads h0 (by omega)) (show (nT k).length ≤ 640 by omega) ⟨.int _, H, I.tok _, ⟨_, rfl⟩, q⟩
end
end L2
set_option Elab.async false
set_option linter.all false
set_option maxRecDepth 100000
/-! What the sort's tree of questions comes to, where the answers are by a number for each place: a rearrangement, rising. -/
namespace BE
open PySem PySem.W PyProof.Rows
def ev {α : Type} (lt : Nat → Nat → Bool) : KasT α → α
  | .ret a => a
  | .ask i j k => ev lt (k (lt i j))
theorem ev_bind {α β : Type} (lt : Nat → Nat → Bool) (f : α → KasT β) : ∀ t : KasT α, ev lt (t.bind f) = ev lt (f (ev lt t))
  | .ret _ => rfl
  | .ask i j k => ev_bind lt f (k (lt i j))
section
variable (key : Nat → Int)
def kl (i j : Nat) : Bool := decide (key i < key j)
def ky (p : Array Nat) (i : Nat) : Int := key (p.getD i 0)
def Up (p : Array Nat) (m : Nat) : Prop := ∀ i j, i ≤ j → j < m → ky key p i ≤ ky key p j
def Dn (p : Array Nat) (m : Nat) : Prop := ∀ i j, i ≤ j → j < m → ky key p j ≤ ky key p i
variable {key}
theorem ky_congr {p q : Array Nat} {i j : Nat} (h : p[i]? = q[j]?) : ky key p i = ky key q j := by
  unfold ky
  rw [Array.getD_eq_getD_getElem?, Array.getD_eq_getD_getElem?, h]
theorem kl_true {p : Array Nat} {i j : Nat} (h : kl key (p.getD i 0) (p.getD j 0) = true) : ky key p i < ky key p j := of_decide_eq_true h
theorem kl_false {p : Array Nat} {i j : Nat} (h : kl key (p.getD i 0) (p.getD j 0) = false) : ky key p j ≤ ky key p i := by
  have := of_decide_eq_false h
  unfold ky
  omega
theorem Up.snoc {p : Array Nat} {n : Nat} (h : Up key p n) (h1 : 1 ≤ n) (hl : ky key p (n - 1) ≤ ky key p n) : Up key p (n + 1) := fun i j hij hj => by
  by_cases c : j < n
  · exact h i j hij c
  · have e : j = n := by omega
    subst e
    by_cases d : i = j
    · subst d; exact Int.le_refl _
    · have := h i (j - 1) (by omega) (by omega)
      omega
theorem Dn.snoc {p : Array Nat} {n : Nat} (h : Dn key p n) (h1 : 1 ≤ n) (hl : ky key p n ≤ ky key p (n - 1)) : Dn key p (n + 1) := fun i j hij hj => by
  by_cases c : j < n
  · exact h i j hij c
  · have e : j = n := by omega
    subst e
    by_cases d : i = j
    · subst d; exact Int.le_refl _
    · have := h i (j - 1) (by omega) (by omega)
      omega
theorem ev_asc {p : Array Nat} : ∀ (f n : Nat), 1 ≤ n → Up key p n → ∃ m, ev (kl key) (kas_asc p f n) = m ∧ n ≤ m ∧ m ≤ n + f ∧ Up key p m ∧ (m < n + f → ky key p m < ky key p (m - 1))
  | 0, n, h1, hu => ⟨n, rfl, Nat.le_refl _, Nat.le_refl _, hu, fun h => by omega⟩
  | f + 1, n, h1, hu => by
    show ∃ m, ev (kl key) (if kl key (p.getD n 0) (p.getD (n - 1) 0) = true then .ret n else kas_asc p f (n + 1)) = m ∧ _
    cases c : kl key (p.getD n 0) (p.getD (n - 1) 0) with
    | true => exact ⟨n, rfl, Nat.le_refl _, by omega, hu, fun _ => kl_true c⟩
    | false =>
      obtain ⟨m, e, a, b, u, l⟩ := ev_asc f (n + 1) (by omega) (hu.snoc h1 (kl_false c))
      exact ⟨m, e, by omega, by omega, u, fun h => l (by omega)⟩
theorem rev_ky {p : Array Nat} {i j : Nat} (hj : j ≤ p.size) (k : Nat) : ky key (kas_rev p i j) k = if i ≤ k ∧ k < j then ky key p (i + j - 1 - k) else ky key p k := by
  have h := getElem?_mirror_all (xs := p) (i := i) hj k
  split at h
  · rename_i c
    rw [if_pos c]
    exact ky_congr h
  · rename_i c
    rw [if_neg c]
    exact ky_congr h
theorem rev_size (p : Array Nat) (i j : Nat) : (kas_rev p i j).size = p.size := mirror_size _ _ _ _
theorem rev_perm (p : Array Nat) (i j : Nat) : (kas_rev p i j).Perm p := mirror_perm _ _ _ _
/-- turned round where all are alike: as it was -/
theorem rev_eq {p : Array Nat} {i j : Nat} (hj : j ≤ p.size) (h : ∀ a b, i ≤ a → a < j → i ≤ b → b < j → ky key p a = ky key p b) (k : Nat) : ky key (kas_rev p i j) k = ky key p k := by
  rw [rev_ky hj]
  split
  · exact h _ _ (by omega) (by omega) (by omega) (by omega)
  · rfl
theorem Dn.rev {p : Array Nat} {n : Nat} (hn : n ≤ p.size) (h : Dn key p n) : Up key (kas_rev p 0 n) n := fun i j hij hj => by
  rw [rev_ky hn, rev_ky hn, if_pos (by omega), if_pos (by omega)]
  exact h _ _ (by omega) (by omega)
theorem Dn.congr {p q : Array Nat} {n : Nat} (h : Dn key p n) (e : ∀ k, ky key q k = ky key p k) : Dn key q n := fun i j hij hj => by rw [e, e]; exact h i j hij hj
/-- the last so many are alike -/
def Eqs (key : Nat → Int) (p : Array Nat) (n q : Nat) : Prop := q + 1 ≤ n ∧ ∀ a b, n - (q + 1) ≤ a → a < n → n - (q + 1) ≤ b → b < n → ky key p a = ky key p b
theorem ev_desc : ∀ (f : Nat) (p : Array Nat) (n q : Nat), 1 ≤ n → n + f ≤ p.size → Dn key p n → Eqs key p n q → ∃ p' m r, ev (kl key) (kas_desc f p n q) = (p', m, r) ∧ p'.Perm p ∧ n ≤ m ∧ m ≤ n + f ∧ Dn key p' m ∧ Eqs key p' m r
  | 0, p, n, q, h1, hz, hd, he => ⟨p, n, q, rfl, Array.Perm.refl _, Nat.le_refl _, Nat.le_refl _, hd, he⟩
  | f + 1, p, n, q, h1, hz, hd, he => by
    show ∃ p' m r, ev (kl key) (if kl key (p.getD n 0) (p.getD (n - 1) 0) = true then (if q > 0 then kas_desc f (kas_rev p (n - (q + 1)) n) (n + 1) 0 else kas_desc f p (n + 1) 0)
      else .ask (p.getD (n - 1) 0) (p.getD n 0) fun d => if d = true then .ret (p, n, q) else kas_desc f p (n + 1) (q + 1)) = _ ∧ _
    have one : ∀ (x : Array Nat), Eqs key x (n + 1) 0 := fun x => ⟨by omega, fun a b a1 a2 b1 b2 => by
      have : a = b := by omega
      rw [this]⟩
    cases c : kl key (p.getD n 0) (p.getD (n - 1) 0) with
    | true =>
      rw [if_pos rfl]
      have hl := kl_true c
      by_cases hq : q > 0
      · rw [if_pos hq]
        have re := rev_eq (p := p) (i := n - (q + 1)) (j := n) (by omega) he.2
        have hd' : Dn key (kas_rev p (n - (q + 1)) n) (n + 1) := (hd.snoc h1 (by omega)).congr re
        obtain ⟨p', m, r, e, pm, a, b, d, q'⟩ := ev_desc f (kas_rev p (n - (q + 1)) n) (n + 1) 0 (by omega) (by rw [rev_size]; omega) hd' (one _)
        exact ⟨p', m, r, e, pm.trans (rev_perm _ _ _), by omega, by omega, d, q'⟩
      · rw [if_neg hq]
        obtain ⟨p', m, r, e, pm, a, b, d, q'⟩ := ev_desc f p (n + 1) 0 (by omega) (by omega) (hd.snoc h1 (by omega)) (one _)
        exact ⟨p', m, r, e, pm, by omega, by omega, d, q'⟩
    | false =>
      rw [if_neg (by simp)]
      show ∃ p' m r, ev (kl key) (if kl key (p.getD (n - 1) 0) (p.getD n 0) = true then .ret (p, n, q) else kas_desc f p (n + 1) (q + 1)) = _ ∧ _
      have l1 := kl_false c
      cases c2 : kl key (p.getD (n - 1) 0) (p.getD n 0) with
      | true => exact ⟨p, n, q, rfl, Array.Perm.refl _, Nat.le_refl _, by omega, hd, he⟩
      | false =>
        have l2 := kl_false c2
        have heq : Eqs key p (n + 1) (q + 1) := ⟨by have := he.1; omega, fun a b a1 a2 b1 b2 => by
          have h0 := he.1
          have last : ∀ x, n + 1 - (q + 1 + 1) ≤ x → x < n + 1 → ky key p x = ky key p (n - 1) := fun x x1 x2 => by
            by_cases z : x < n
            · exact he.2 _ _ (by omega) z (by omega) (by omega)
            · have : x = n := by omega
              subst this
              omega
          rw [last a a1 a2, last b b1 b2]⟩
        obtain ⟨p', m, r, e, pm, a, b, d, q'⟩ := ev_desc f p (n + 1) (q + 1) (by omega) (by omega) (hd.snoc h1 (by omega)) heq
        exact ⟨p', m, r, e, pm, by omega, by omega, d, q'⟩
theorem ev_tail3 {p : Array Nat} {n nrem : Nat} (h1 : 1 ≤ n) (hn : n ≤ nrem) (hz : nrem ≤ p.size) (hd : Dn key p n) : ∃ m q, ev (kl key) (kas_tail3 n nrem p) = (m, q) ∧ q.Perm p ∧ 1 ≤ m ∧ m ≤ nrem ∧ Up key q m := by
  unfold kas_tail3
  rw [ev_bind]
  obtain ⟨m, e, a, b, u, _⟩ := ev_asc (p := kas_rev p 0 n) (nrem - n) n h1 (hd.rev (by omega))
  rw [e]
  exact ⟨m, _, rfl, rev_perm _ _ _, by omega, by omega, u⟩
theorem ev_descPart {p : Array Nat} {n nrem : Nat} (h1 : 1 ≤ n) (hn : n + 1 ≤ nrem) (hz : nrem ≤ p.size) (hd : Dn key p (n + 1)) : ∃ m q, ev (kl key) (kas_descPart n nrem p) = (m, q) ∧ q.Perm p ∧ 1 ≤ m ∧ m ≤ nrem ∧ Up key q m := by
  unfold kas_descPart
  rw [ev_bind]
  obtain ⟨p', m, r, e, pm, a, b, d, q'⟩ := ev_desc (nrem - (n + 1)) p (n + 1) 0 (by omega) (by omega) hd ⟨by omega, fun a b a1 a2 b1 b2 => by
    have : a = b := by omega
    rw [this]⟩
  rw [e]
  have sz : p'.size = p.size := pm.size_eq
  dsimp only
  split
  · have re := rev_eq (p := p') (i := m - (r + 1)) (j := m) (by omega) q'.2
    obtain ⟨m2, q2, e2, pm2, x1, x2, u⟩ := ev_tail3 (p := kas_rev p' (m - (r + 1)) m) (n := m) (nrem := nrem) (by omega) (by omega) (by rw [rev_size]; omega) (d.congr re)
    exact ⟨m2, q2, e2, (pm2.trans (rev_perm _ _ _)).trans pm, x1, x2, u⟩
  · obtain ⟨m2, q2, e2, pm2, x1, x2, u⟩ := ev_tail3 (p := p') (n := m) (nrem := nrem) (by omega) (by omega) (by omega) d
    exact ⟨m2, q2, e2, pm2.trans pm, x1, x2, u⟩
theorem ev_count {p : Array Nat} {n : Nat} (h2 : 2 ≤ n) (hz : n ≤ p.size) : ∃ m q, ev (kl key) (kas_count n p) = (m, q) ∧ q.Perm p ∧ 1 ≤ m ∧ m ≤ n ∧ Up key q m := by
  unfold kas_count
  rw [ev_bind]
  obtain ⟨m, e, a, b, u, l⟩ := ev_asc (p := p) (key := key) (n - 1) 1 (Nat.le_refl _) (fun i j hij hj => by
    have : i = j := by omega
    rw [this]; exact Int.le_refl _)
  rw [e]
  by_cases c : (m == n) = true
  · rw [if_pos c]
    exact ⟨m, p, rfl, Array.Perm.refl _, a, by omega, u⟩
  · rw [if_neg c]
    have hmn : m < n := by
      have : m ≠ n := by simpa using c
      omega
    have hl := l (by omega)
    by_cases c1 : m > 1
    · rw [if_pos c1]
      show ∃ m' q, ev (kl key) (if kl key (p.getD 0 0) (p.getD (m - 1) 0) = true then .ret (m, p) else kas_descPart m n (kas_rev p 0 m)) = _ ∧ _
      cases c2 : kl key (p.getD 0 0) (p.getD (m - 1) 0) with
      | true => exact ⟨m, p, rfl, Array.Perm.refl _, a, by omega, u⟩
      | false =>
        have l2 := kl_false c2
        have eqs : ∀ x y, 0 ≤ x → x < m → 0 ≤ y → y < m → ky key p x = ky key p y := fun x y _ hx _ hy => by
          have a1 := u 0 x (by omega) hx
          have a2 := u x (m - 1) (by omega) (by omega)
          have a3 := u 0 y (by omega) hy
          have a4 := u y (m - 1) (by omega) (by omega)
          omega
        have re := rev_eq (p := p) (i := 0) (j := m) (by omega) eqs
        have hd : Dn key p (m + 1) := Dn.snoc (fun i j hij hj => by rw [eqs i j (by omega) (by omega) (by omega) hj]; exact Int.le_refl _) (by omega) (by omega)
        obtain ⟨m2, q2, e2, pm2, x1, x2, u2⟩ := ev_descPart (p := kas_rev p 0 m) (n := m) (nrem := n) (by omega) (by omega) (by rw [rev_size]; omega) (hd.congr re)
        exact ⟨m2, q2, e2, pm2.trans (rev_perm _ _ _), x1, x2, u2⟩
    · rw [if_neg c1]
      have em : m = 1 := by omega
      subst em
      have hd : Dn key p (1 + 1) := Dn.snoc (fun i j hij hj => by
        have : i = j := by omega
        rw [this]; exact Int.le_refl _) (by omega) (by omega)
      exact ev_descPart (p := p) (n := 1) (nrem := n) (by omega) (by omega) hz hd
theorem ev_place {p : Array Nat} {k : Nat} (hu : Up key p k) : ∀ (f l r : Nat), l ≤ r → r ≤ k → r - l ≤ f → (∀ i, i < l → ky key p i ≤ ky key p k) → (∀ i, r ≤ i → i < k → ky key p k < ky key p i) →
    ∃ x, ev (kl key) (kas_place p k f l r) = x ∧ x ≤ k ∧ (∀ i, i < x → ky key p i ≤ ky key p k) ∧ ∀ i, x ≤ i → i < k → ky key p k < ky key p i
  | 0, l, r, hlr, hr, hf, h1, h2 => ⟨l, rfl, by omega, h1, fun i a b => h2 i (by omega) b⟩
  | f + 1, l, r, hlr, hr, hf, h1, h2 => by
    unfold kas_place
    by_cases c : l ≥ r
    · rw [if_pos c]
      exact ⟨l, rfl, by omega, h1, fun i a b => h2 i (by omega) b⟩
    · rw [if_neg c]
      show ∃ x, ev (kl key) (if kl key (p.getD k 0) (p.getD ((l + r) / 2) 0) = true then kas_place p k f l ((l + r) / 2) else kas_place p k f ((l + r) / 2 + 1) r) = x ∧ _
      cases c2 : kl key (p.getD k 0) (p.getD ((l + r) / 2) 0) with
      | true =>
        have hl := kl_true c2
        exact ev_place hu f l ((l + r) / 2) (by omega) (by omega) (by omega) h1 fun i a b => by
          have := hu ((l + r) / 2) i a b
          omega
      | false =>
        have hl := kl_false c2
        exact ev_place hu f ((l + r) / 2 + 1) r (by omega) (by omega) (by omega) (fun i a => by
          have := hu i ((l + r) / 2) (by omega) (by omega)
          omega) h2
theorem ev_bin : ∀ (f : Nat) (p : Array Nat) (k : Nat), k + f ≤ p.size → Up key p k → ∃ q, ev (kl key) (kas_bin f p k) = q ∧ q.Perm p ∧ Up key q (k + f)
  | 0, p, k, _, hu => ⟨p, rfl, Array.Perm.refl _, hu⟩
  | f + 1, p, k, hz, hu => by
    unfold kas_bin
    rw [ev_bind]
    obtain ⟨l, e, hl, h1, h2⟩ := ev_place hu k 0 k (by omega) (Nat.le_refl _) (by omega) (fun i hi => by omega) fun i a b => by omega
    rw [e]
    have gb : ∀ i, ky key (bubble p k (k - l)) i = if i = l then ky key p k else if l < i ∧ i ≤ k then ky key p (i - 1) else ky key p i := fun i => by
      have h := getElem?_bubble (xs := p) (src := k) (by omega) (k - l) (by omega) i
      rw [show k - (k - l) = l by omega] at h
      split at h
      · rename_i c; rw [if_pos c]; exact ky_congr h
      · rename_i c
        rw [if_neg c]
        split at h
        · rename_i c2; rw [if_pos c2]; exact ky_congr h
        · rename_i c2; rw [if_neg c2]; exact ky_congr h
    have hu' : Up key (bubble p k (k - l)) (k + 1) := fun i j hij hj => by
      rw [gb, gb]
      by_cases ci : i = l
      · rw [if_pos ci]
        by_cases cj : j = l
        · rw [if_pos cj]; exact Int.le_refl _
        · rw [if_neg cj, if_pos (by omega)]
          have := h2 (j - 1) (by omega) (by omega)
          omega
      · rw [if_neg ci]
        by_cases cj : j = l
        · rw [if_pos cj, if_neg (by omega)]
          exact h1 i (by omega)
        · rw [if_neg cj]
          by_cases di : l < i ∧ i ≤ k
          · rw [if_pos di, if_pos (by omega)]
            exact hu _ _ (by omega) (by omega)
          · rw [if_neg di]
            by_cases dj : l < j ∧ j ≤ k
            · rw [if_pos dj]
              exact hu _ _ (by omega) (by omega)
            · rw [if_neg dj]
              exact hu _ _ hij (by omega)
    obtain ⟨q, e2, pm, u⟩ := ev_bin f (bubble p k (k - l)) (k + 1) (by rw [bubble_size]; omega) hu'
    exact ⟨q, e2, pm.trans (bubble_perm _ _ _), by rw [show k + (f + 1) = k + 1 + f by omega]; exact u⟩
theorem ev_sort {n : Nat} (h2 : 2 ≤ n) : ∃ q, ev (kl key) (kas_sort n) = q ∧ q.Perm (List.toArray (List.range n)) ∧ Up key q n := by
  unfold kas_sort
  rw [ev_bind]
  obtain ⟨m, q, e, pm, m1, m2, u⟩ := ev_count (key := key) (p := List.toArray (List.range n)) h2 (by simp)
  have sz : q.size = n := by rw [pm.size_eq]; simp
  rw [e]
  dsimp only
  by_cases c : m < n
  · rw [if_pos c, Nat.max_eq_left m1]
    obtain ⟨q2, e2, pm2, u2⟩ := ev_bin (n - m) q m (by omega) u
    exact ⟨q2, e2, pm2.trans pm, by rw [show m + (n - m) = n by omega] at u2; exact u2⟩
  · rw [if_neg c]
    have : m = n := by omega
    subst this
    exact ⟨q, rfl, pm, u⟩
end
/-- all that is asked lies below n, all that is given back is as told -/
def AllP {α : Type} (n : Nat) (P : α → Prop) : KasT α → Prop
  | .ret a => P a
  | .ask i j k => i < n ∧ j < n ∧ ∀ b, AllP n P (k b)
theorem AllP.bind {α β : Type} {n : Nat} {P : α → Prop} {R : β → Prop} {f : α → KasT β} (hf : ∀ a, P a → AllP n R (f a)) : ∀ {t : KasT α}, AllP n P t → AllP n R (t.bind f)
  | .ret a, h => hf a h
  | .ask i j k, h => ⟨h.1, h.2.1, fun b => AllP.bind hf (h.2.2 b)⟩
theorem AllP.wp {α : Type} {n : Nat} {lt : Nat → Nat → Bool} {cmp : Nat → Nat → (Bool → Shared → Prop) → Shared → Prop} {P : α → Prop} {Q : α → Shared → Prop} {s : Shared} (hc : ∀ i j (C : Bool → Shared → Prop), i < n → j < n → C (lt i j) s → cmp i j C s) : ∀ t : KasT α, AllP n P t → Q (ev lt t) s → t.kasWp cmp Q s
  | .ret _, _, h => h
  | .ask i j k, a, h => hc i j _ a.1 a.2.1 (AllP.wp hc (k (lt i j)) (a.2.2 _) h)
def InN (n : Nat) (p : Array Nat) : Prop := ∀ x ∈ p.toList, x < n
theorem InN.at {n : Nat} {p : Array Nat} (h : InN n p) (h0 : 0 < n) (i : Nat) : p.getD i 0 < n := by
  rw [Array.getD_eq_getD_getElem?]
  cases e : p[i]? with
  | none => exact h0
  | some x => exact h x (Array.mem_toList_iff.mpr (Array.mem_of_getElem? e))
theorem InN.perm {n : Nat} {p q : Array Nat} (h : InN n p) (e : q.Perm p) : InN n q := fun x hx => h x ((Array.perm_iff_toList_perm.mp e).mem_iff.mp hx)
theorem ok_asc {n : Nat} {p : Array Nat} (h : InN n p) (h0 : 0 < n) : ∀ f m, AllP n (fun _ => True) (kas_asc p f m)
  | 0, _ => trivial
  | f + 1, m => ⟨h.at h0 _, h.at h0 _, fun b => by
    cases b with
    | true => exact trivial
    | false => exact ok_asc h h0 f (m + 1)⟩
theorem ok_desc {n : Nat} (h0 : 0 < n) : ∀ f (p : Array Nat) m q, InN n p → AllP n (fun r => InN n r.1) (kas_desc f p m q)
  | 0, p, m, q, h => h
  | f + 1, p, m, q, h => ⟨h.at h0 _, h.at h0 _, fun b => by
    cases b with
    | true =>
      dsimp only
      rw [if_pos rfl]
      split
      · exact ok_desc h0 f _ _ _ (h.perm (rev_perm _ _ _))
      · exact ok_desc h0 f _ _ _ h
    | false =>
      dsimp only
      rw [if_neg Bool.false_ne_true]
      refine ⟨h.at h0 _, h.at h0 _, fun b => ?_⟩
      cases b with
      | true => exact h
      | false => exact ok_desc h0 f _ _ _ h⟩
theorem ok_tail3 {n : Nat} (h0 : 0 < n) {m r : Nat} {p : Array Nat} (h : InN n p) : AllP n (fun (r : Nat × Array Nat) => InN n r.2) (kas_tail3 m r p) :=
  AllP.bind (P := fun _ => True) (R := fun (r : Nat × Array Nat) => InN n r.2) (fun a _ => show AllP n (fun r : Nat × Array Nat => InN n r.2) (.ret (a, kas_rev p 0 m)) from h.perm (rev_perm _ _ _)) (ok_asc (h.perm (rev_perm _ _ _)) h0 _ _)
theorem ok_descPart {n : Nat} (h0 : 0 < n) {m r : Nat} {p : Array Nat} (h : InN n p) : AllP n (fun r => InN n r.2) (kas_descPart m r p) :=
  AllP.bind (fun a ha => by
    split
    · exact ok_tail3 h0 (InN.perm ha (rev_perm _ _ _))
    · exact ok_tail3 h0 ha) (ok_desc h0 _ _ _ _ h)
theorem ok_count {n : Nat} (h0 : 0 < n) {r : Nat} {p : Array Nat} (h : InN n p) : AllP n (fun r => InN n r.2) (kas_count r p) :=
  AllP.bind (fun a _ => by
    split
    · exact h
    · split
      · refine ⟨h.at h0 _, h.at h0 _, fun b => ?_⟩
        cases b with
        | true => exact h
        | false => exact ok_descPart h0 (h.perm (rev_perm _ _ _))
      · exact ok_descPart h0 h) (ok_asc h h0 _ _)
theorem ok_place {n : Nat} (h0 : 0 < n) {p : Array Nat} (h : InN n p) (k : Nat) : ∀ f l r, AllP n (fun _ => True) (kas_place p k f l r)
  | 0, _, _ => trivial
  | f + 1, l, r => by
    unfold kas_place
    split
    · exact trivial
    · refine ⟨h.at h0 _, h.at h0 _, fun b => ?_⟩
      cases b with
      | true => exact ok_place h0 h k f _ _
      | false => exact ok_place h0 h k f _ _
theorem ok_bin {n : Nat} (h0 : 0 < n) : ∀ f (p : Array Nat) k, InN n p → AllP n (fun q => InN n q) (kas_bin f p k)
  | 0, p, _, h => h
  | f + 1, p, k, h => by
    unfold kas_bin
    exact AllP.bind (fun _ _ => ok_bin h0 f _ _ (h.perm (bubble_perm _ _ _))) (ok_place h0 h k _ _ _)
theorem ok_sort {n : Nat} (h0 : 0 < n) : AllP n (fun q => InN n q) (kas_sort n) :=
  AllP.bind (fun a ha => by
    split
    · exact ok_bin h0 _ _ _ ha
    · exact ha) (ok_count h0 fun x hx => by simpa using hx)
end BE
set_option Elab.async false
set_option linter.all false
set_option maxRecDepth 100000
/-! sorted of a list of pairs of ints. -/
namespace BE
open PySem PySem.W PySem.Spec PyProof.Rows
def kP (p : Int × Int) : Int := p.1 * 100000 + p.2
def RgP (p : Int × Int) : Prop := 0 ≤ p.2 ∧ p.2 < 100000
/-- pairs stand there -/
def PT (h : Heap) (vs : List Value) (ps : List (Int × Int)) : Prop := vs.length = ps.length ∧ ∀ (i : Nat) (p : Int × Int), ps[i]? = some p → ∃ q o t u n, vs[i]? = some (.ref q) ∧ h.get? q = some o ∧ o.cls = .type "tuple" ∧ o.data = .seq #[.int p.1 t, .int p.2 u] n
def keyAt (ps : List (Int × Int)) (i : Nat) : Int := kP (ps.getD i (0, 0))
theorem PT.mv {h h' : Heap} {vs : List Value} {ps : List (Int × Int)} (x : PT h vs ps) (e : ∀ q o, h.get? q = some o → o.cls = .type "tuple" → h'.get? q = some o) : PT h' vs ps := ⟨x.1, fun i p hp => by
  obtain ⟨q, o, t, u, n, h1, h2, h3, h4⟩ := x.2 i p hp
  exact ⟨q, o, t, u, n, h1, e q o h2 h3, h3, h4⟩⟩
theorem pt_firsts {h : Heap} : ∀ {vs : List Value} {ps : List (Int × Int)}, PT h vs ps → ∃ fs : List Value, KatTups h vs fs ∧ fs.length = vs.length ∧ ∀ f ∈ fs, ∃ x t, f = .int x t
  | [], ps, x => ⟨[], trivial, rfl, fun f hf => by cases hf⟩
  | v :: vs, [], x => by have := x.1; simp at this
  | v :: vs, p :: ps, x => by
    obtain ⟨q, o, t, u, n, h1, h2, h3, h4⟩ := x.2 0 p rfl
    have ev : v = .ref q := by simpa using h1
    subst ev
    obtain ⟨fs, k, l, a⟩ := pt_firsts (h := h) (vs := vs) (ps := ps) ⟨by have := x.1; simpa using this, fun i p' hp => by
      obtain ⟨q, o, t, u, n, h1, r⟩ := x.2 (i + 1) p' (by simpa using hp)
      exact ⟨q, o, t, u, n, by simpa using h1, r⟩⟩
    refine ⟨.int p.1 t :: fs, KatTups.cons h2 h3 h4 rfl k, by rw [List.length_cons, List.length_cons, l], fun f hf => ?_⟩
    rcases List.mem_cons.mp hf with rfl | hf
    · exact ⟨_, _, rfl⟩
    · exact a f hf
section
variable {prog : Program} {w : World} {A : Around} {E : Value → Shared → Prop} {s : Shared}
theorem pair_lt {vs : List Value} {ps : List (Int × Int)} {i j : Nat} {C : Bool → Shared → Prop} (x : PT s.heap vs ps) (hr : ∀ p ∈ ps, RgP p) (hi : i < vs.length) (hj : j < vs.length) (hC : C (kl (keyAt ps) i j) s) :
    kas_ask prog w A (tuples' true) vs i j C s := by
  have hi' : i < ps.length := by rw [← x.1]; exact hi
  have hj' : j < ps.length := by rw [← x.1]; exact hj
  obtain ⟨q1, o1, t1, u1, n1, a1, b1, _, d1⟩ := x.2 i _ (List.getElem?_eq_getElem hi')
  obtain ⟨q2, o2, t2, u2, n2, a2, b2, _, d2⟩ := x.2 j _ (List.getElem?_eq_getElem hj')
  have r1 := hr _ (List.getElem_mem hi')
  have r2 := hr _ (List.getElem_mem hj')
  have k1 : keyAt ps i = ps[i].1 * 100000 + ps[i].2 := by unfold keyAt kP; rw [List.getD_eq_getElem?_getD, List.getElem?_eq_getElem hi']; rfl
  have k2 : keyAt ps j = ps[j].1 * 100000 + ps[j].2 := by unfold keyAt kP; rw [List.getD_eq_getElem?_getD, List.getElem?_eq_getElem hj']; rfl
  have e1 : vs.getD i Value.none = .ref q1 := by rw [List.getD_eq_getElem?_getD, a1]; rfl
  have e2 : vs.getD j Value.none = .ref q2 := by rw [List.getD_eq_getElem?_getD, a2]; rfl
  unfold kas_ask
  rw [e1, e2]
  unfold kl at hC
  rw [k1, k2] at hC
  generalize ps[i] = p1 at *
  generalize ps[j] = p2 at *
  unfold RgP at r1 r2
  refine kat_lt b1 d1 b2 d2 (kat_cons (wpAny_eqBool_int (kat_go (fun c => kat_yes (kat_cons (wpAny_eqBool_int (kat_go (fun c2 => kat_yes (kat_nil ?_)) (fun c2 => kat_no (kat_one _ _ (lt_int ?_))))))) (fun c => kat_no (oneLt_int ?_)))))
  · have h1 : p1.1 = p2.1 := beq_iff_eq.mp c
    have h2 : p1.2 = p2.2 := beq_iff_eq.mp c2
    rw [h1, h2] at hC
    rw [decide_eq_false (by omega)] at hC
    exact hC
  · have h1 : p1.1 = p2.1 := beq_iff_eq.mp c
    have h2 : p1.2 ≠ p2.2 := fun z => by rw [z, beq_self_eq_true] at c2; cases c2
    have e : decide (p1.2 < p2.2) = decide (p1.1 * 100000 + p1.2 < p2.1 * 100000 + p2.2) := by
      rw [h1]
      exact decide_eq_decide.mpr ⟨fun h => by omega, fun h => by omega⟩
    rw [e]; exact hC
  · have h1 : p1.1 ≠ p2.1 := fun z => by rw [z, beq_self_eq_true] at c; cases c
    have e : decide (p1.1 < p2.1) = decide (p1.1 * 100000 + p1.2 < p2.1 * 100000 + p2.2) := decide_eq_decide.mpr ⟨fun h => by omega, fun h => by omega⟩
    rw [e]; exact hC
theorem few_out : ∀ {vs : List Value}, vs.length < 2 → (vs.toArray.zip vs.toArray).map (·.2) = List.toArray ((List.range vs.length).map fun i => vs.getD i Value.none)
  | [], _ => by simp
  | [v], _ => by simp
  | _ :: _ :: _, h => absurd h (by simp only [List.length_cons]; omega)
theorem few_pw {n : Nat} {R : Nat → Nat → Prop} (h : n < 2) : (List.range n).Pairwise R := by
  match n, h with
  | 0, _ => exact .nil
  | 1, _ => exact List.pairwise_singleton _ _
/-- list.sort of pairs -/
theorem sortP_tree {a : Addr} {vs : List Value} {ps : List (Int × Int)} {n : Nat} {P : PySem.Fin → Shared → Prop} (ho : s.heap.get? a = some (seqObj "list" vs.toArray n)) (x : PT s.heap vs ps) (hr : ∀ p ∈ ps, RgP p) (h64 : vs.length < 64)
    (q : ∀ ix : List Nat, ix.Perm (List.range vs.length) → ix.Pairwise (fun i j => keyAt ps i ≤ keyAt ps j) → P (.done (.ret .none)) { s with heap := sortedHeap s.heap a vs (List.toArray (ix.map fun i => vs.getD i Value.none)) }) :
    wpAny (model prog w) A (Builtin.«list.sort» ⟨[.ref a], []⟩) P E s := by
  rw [list_sort_plain]; have alt : a < s.heap.objs.size := Heap.lt_size ho
  refine wpAny_bind (listItems_at ho rfl (wpAny_bind (listUpdate_at ho rfl ?_)))
  obtain ⟨e1, b1⟩ : ∃ e1, (s.heap.update a (Obj.mapSeq fun _ => #[])).get? a = some (seqObj "list" #[] e1) := ⟨_, get?_update_seq ho (fun _ => #[])⟩
  refine wpAny_bind (seqEpoch_at b1 rfl (wpAny_bind (wpAny_newTuple (wpAny_bind (wpAny_newList (wpAny_holding ?_))))))
  have b6 : (((s.heap.update a (Obj.mapSeq fun _ => #[])).push (seqObj "tuple" vs.toArray 0)).push (seqObj "list" #[] 0)).get? a = some (seqObj "list" #[] e1) := Heap.get?_push_of_some _ (Heap.get?_push_of_some _ b1)
  have x6 : PT (((s.heap.update a (Obj.mapSeq fun _ => #[])).push (seqObj "tuple" vs.toArray 0)).push (seqObj "list" #[] 0)) vs ps := x.mv fun b o e hc => by
    have ne : b ≠ a := fun z => by
      rw [z, ho] at e
      cases e
      exact absurd (Value.type.inj hc) (by decide)
    exact Heap.get?_push_of_some _ (Heap.get?_push_of_some _ (by rw [Heap.get?_update_ne _ _ _ _ ne]; exact e))
  show wpAny (model prog w) A _ P E { s with heap := ((s.heap.update a (Obj.mapSeq fun _ => #[])).push (seqObj "tuple" vs.toArray 0)).push (seqObj "list" #[] 0) }
  dsimp only
  have hsz : vs.toArray.size = vs.length := by simp
  by_cases h2 : vs.toArray.size < 2
  · rw [if_pos h2, if_pos h2]
    refine wpAny_bind (wpAny_pure ?_); rw [StateT.run_pure]; refine wpAny_bind (wpAny_pure ?_)
    dsimp only
    refine wpAny_bind (seqEpoch_at b6 rfl (wpAny_bind (listUpdate_at b6 rfl ?_ (hsz2 := by rw [Array.size_map]; show (pairsOf vs).size ≤ _; rw [pairsOf_size, sizeLine_eq]; omega))))
    simp only [bne_self_eq_false, Bool.false_eq_true, if_false]
    have eo : (arrOf (SortSt.mk' general' (vs.toArray.zip vs.toArray) #[] 7 none)).map (·.2) = List.toArray ((List.range vs.length).map fun i => vs.getD i Value.none) := by
      have ea : arrOf (SortSt.mk' general' (vs.toArray.zip vs.toArray) #[] 7 none) = vs.toArray.zip vs.toArray := rfl
      rw [ea]
      exact few_out (by omega)
    have fin := q (List.range vs.length) (List.Perm.refl _) (few_pw (by omega))
    rw [← eo] at fin
    exact wpAny_pure fin
  · rw [if_neg h2, if_neg h2]
    have h2' : 2 ≤ vs.length := by omega
    obtain ⟨fs, kt, fl, fi⟩ := pt_firsts x6
    refine wpAny_bind (kat_kind (T := .type "int") kt (by omega) (fun v hv => ?_) rfl ?_)
    · obtain ⟨y, t, rfl⟩ := fi v hv
      exact Looks.of_pure rfl
    show wpAny _ _ _ _ _ _
    have kx : (Value.type "int" != Value.type "tuple") = true := by rfl
    rw [kx]
    generalize hS : ({ s with heap := ((s.heap.update a (Obj.mapSeq fun _ => #[])).push (seqObj "tuple" vs.toArray 0)).push (seqObj "list" #[] 0) } : Shared) = S at *
    have xS : PT S.heap vs ps := by rw [← hS]; exact x6
    refine wpAny_bind (wpAny_mono (kat_run (κ := tuples' true) (ks := vs) (vs := vs) (Q := fun st' s' => s' = S ∧ failedOf st' = none ∧ ∃ p : Array Nat, arrOf st' = p.map (kas_item (vs.toArray.zip vs.toArray)) ∧ p = ev (kl (keyAt ps)) (kas_sort vs.length))
      (G := fun p s' => s' = S ∧ p = ev (kl (keyAt ps)) (kas_sort vs.length)) rfl h2' h64 (fun p st' s' _ e f g => ⟨g.1, f, p, e, g.2⟩)
      (AllP.wp (fun i j C hi hj hC => pair_lt xS hr hi hj hC) _ (ok_sort (by omega)) ⟨rfl, rfl⟩)) (fun r s' hq => ?_) fun _ _ e => e)
    obtain ⟨⟨⟩, st'⟩ := r
    obtain ⟨rfl, hf, p, hp, ep⟩ := hq
    obtain ⟨p2, e2, pm, up⟩ := ev_sort (key := keyAt ps) h2'
    have epp : p = p2 := ep.trans e2
    subst epp
    have pml : p.toList.Perm (List.range vs.length) := by
      have := Array.perm_iff_toList_perm.mp pm
      simpa using this
    have psz : p.size = vs.length := by rw [pm.size_eq]; simp
    have sn := kat_snds (ks := vs) (vs := vs) rfl hp
    subst hS
    dsimp only
    refine wpAny_bind (seqEpoch_at b6 rfl (wpAny_bind (listUpdate_at b6 rfl ?_ (hsz2 := by show ((arrOf st').map (·.2)).size ≤ _; rw [sn, List.size_toArray, List.length_map, pml.length_eq, List.length_range, sizeLine_eq]; omega))))
    rw [show failedOf (st' : SortSt) = none from hf]
    simp only [bne_self_eq_false, Bool.false_eq_true, if_false]
    have pw : p.toList.Pairwise (fun i j => keyAt ps i ≤ keyAt ps j) := by
      rw [List.pairwise_iff_getElem]
      intro i j hi hj hij
      have := up i j (by omega) (by rw [Array.length_toList] at hj; omega)
      unfold ky at this
      rw [Array.length_toList] at hi hj
      rw [Array.getD_eq_getD_getElem?, Array.getD_eq_getD_getElem?, Array.getElem?_eq_getElem hi, Array.getElem?_eq_getElem hj] at this
      exact this
    have fin := q p.toList pml pw
    rw [← sn] at fin
    exact wpAny_pure fin
/-- sorted of a list of pairs -/
theorem sortedP {l : Addr} {vs : List Value} {ps : List (Int × Int)} {Q : Value → Shared → Prop} (hl : s.heap.IsList l vs.toArray) (x : PT s.heap vs ps) (hr : ∀ p ∈ ps, RgP p) (h64 : vs.length < 64)
    (q : ∀ (h1 : Heap) (ix : List Nat), (∀ b u, s.heap.get? b = some u → h1.get? b = some u) → ix.Perm (List.range vs.length) → ix.Pairwise (fun i j => keyAt ps i ≤ keyAt ps j) →
      Q (.ref h1.objs.size) { s with heap := sortedHeap (h1.push (seqObj "list" vs.toArray 0)) h1.objs.size vs (List.toArray (ix.map fun i => vs.getD i Value.none)) }) :
    wpAny (model prog w) A (call (.builtin "sorted") [.ref l]) Q E s := by
  obtain ⟨ob, ho, hc, n, hd⟩ := hl
  refine Calls.call_function_entry kind_sorted plain_sorted entry_sorted (args_sorted1 _) ?_
  unfold Builtin.«sorted»; refine wpAny_bind (m := checkCount "sorted" 1 1 _) (wpAny_pure ?_)
  refine wpAny_bind (wpAny_collect_seq l (.inl rfl) ho hc hd (fun h1 hk => wpAny_bind (wpAny_newList ?_)) (by rw [sizeLine_eq, List.size_toArray]; omega))
  have hL : (h1.push (seqObj "list" vs.toArray 0)).get? h1.objs.size = some (seqObj "list" vs.toArray 0) := Heap.get?_push_size _ rfl
  have x1 : PT (h1.push (seqObj "list" vs.toArray 0)) vs ps := x.mv fun b o e _ => Heap.get?_push_of_some _ (hk b o e)
  refine wpAny_bind (wpAny_holding (wpAny_call_entry slot_list_sort ⟨_, hL, rfl⟩ entry_list_sort (sortP_tree hL x1 hr h64 fun ix a1 a2 => ⟨_, rfl, ?_⟩) (args_list_sort _)))
  exact wpAny_pure ⟨_, rfl, q h1 ix hk a1 a2⟩
end
end BE
namespace L2
open PySem PySem.SeqAt PySem.Spec PyProof.Rows
/-- pairs of ints stand there -/
def PairsIn (H : Hp) (ws : List V) (ps : List (Int × Int)) : Prop := ws.length = ps.length ∧ ∀ (i : Nat) (p : Int × Int), ps[i]? = some p → ∃ q, ws[i]? = some (.ref q) ∧ H q = some (.tup [.int p.1, .int p.2])
def leP (p q : Int × Int) : Prop := BE.kP p ≤ BE.kP q
section
variable {X : Cx}
def rSortP : List V → Hp → VK → Prop := fun xs H Q => ∃ (a : Addr) (ws : List V) (ps : List (Int × Int)), xs = [.ref a] ∧ H a = some (.lst ws) ∧ PairsIn H ws ps ∧ (∀ p ∈ ps, BE.RgP p) ∧ ps.length < 64 ∧
  ∀ (l : Addr) (ws' : List V) (ps' : List (Int × Int)), H l = none → ps'.Perm ps → ps'.Pairwise leP → PairsIn H ws' ps' → Q (.ref l) (upd H l (.lst ws'))
theorem vals_pick {ws : List V} {us : List Value} (r : Vals ws us) : ∀ (ix : List Nat), (∀ i ∈ ix, i < ws.length) → Vals (ix.map fun i => ws.getD i .non) (ix.map fun i => us.getD i Value.none)
  | [], _ => .nil
  | i :: ix, h => by
    have hi := h i (by simp)
    obtain ⟨u, hu, ru⟩ := r.get (List.getElem?_eq_getElem hi)
    refine .cons ?_ (vals_pick r ix fun j hj => h j (by simp [hj]))
    show RelV (ws.getD i .non) (us.getD i Value.none)
    rw [List.getD_eq_getElem?_getD, List.getElem?_eq_getElem hi, List.getD_eq_getElem?_getD, hu]
    exact ru
theorem call_sortP : CallR X (.builtin "sorted") rSortP := by
  intro pins s σ H xs us Q I r h
  obtain ⟨a, ws, ps, rfl, ha, hp, hr, h64, q⟩ := h
  obtain ⟨u, rfl, rfl⟩ := vals1 r
  obtain ⟨z, its, n, rv, hl, e⟩ := I.lstM ha
  have x : BE.PT s.heap its ps := ⟨by rw [← hl]; exact hp.1, fun i p hi => by
    obtain ⟨q, hq, hQ⟩ := hp.2 i p hi
    obtain ⟨u, hu, ru⟩ := rv.get hq
    cases ru
    obtain ⟨ts, rt, ⟨o, ho, hc, m, hd⟩, _⟩ := I.tuple (SqT.of hQ)
    cases rt with
    | cons r1 rt =>
      cases rt with
      | cons r2 rt =>
        cases rt
        obtain ⟨t1, rfl⟩ := r1
        obtain ⟨t2, rfl⟩ := r2
        exact ⟨q, o, t1, t2, m, hu, ho, hc, hd⟩⟩
  refine BE.sortedP (⟨_, e, rfl, n, rfl⟩ : s.heap.IsList a its.toArray) x hr (by rw [← hl, hp.1]; exact h64) fun h1 ix hk a1 a2 => ?_
  rw [← hl] at a1
  have lt : ∀ i ∈ ix, i < ws.length := fun i hi => by
    have := a1.mem_iff.mp hi
    simpa using this
  obtain ⟨c, hc⟩ := sortedHeap_at (h := h1.push (seqObj "list" its.toArray 0)) (a := h1.objs.size) (vs := its) (n := 0) (out := List.toArray (ix.map fun i => its.getD i Value.none)) (Heap.get?_push_size _ rfl)
  have I1 : Inv X pins σ H { s with heap := h1 } := I.kept (t' := s.toks) hk
  have lx : ix.length = ws.length := by rw [a1.length_eq, List.length_range]
  have pp : (ix.map fun i => ps.getD i (0, 0)).Perm ps := by
    have h1 := a1.map fun i => ps.getD i (0, 0)
    rw [hp.1] at h1
    have h2 : (List.range ps.length).map (fun i => ps.getD i (0, 0)) = ps := by
      apply List.ext_getElem
      · simp
      · intro i k1 k2
        simp [List.getD_eq_getElem?_getD, k2]
    rw [h2] at h1
    exact h1
  refine ⟨.ref h1.objs.size, _, I1.laid (o := .lst (ix.map fun i => ws.getD i .non)) (t' := s.toks) (BE.sortedS_kept fun _ _ e => e) (Nat.le_refl _) ?_, rfl,
    q _ (ix.map fun i => ws.getD i .non) (ix.map fun i => ps.getD i (0, 0)) (I1.hok.fresh (Nat.le_refl _)) pp (List.pairwise_map.mpr a2) ⟨by rw [List.length_map, List.length_map], fun i p hi => ?_⟩⟩
  · refine ⟨by rw [List.length_map, lx]; exact z, _, c, vals_pick rv ix lt, hc⟩
  · rw [List.getElem?_map] at hi
    cases ei : ix[i]? with
    | none => rw [ei] at hi; cases hi
    | some k =>
      rw [ei] at hi
      have hk' : k < ws.length := lt k (List.mem_of_getElem? ei)
      have hkp : k < ps.length := by rw [← hp.1]; exact hk'
      obtain ⟨q', hq', hQ'⟩ := hp.2 k _ (List.getElem?_eq_getElem hkp)
      have ep : ps[k] = p := by
        have : (ps.getD k (0, 0)) = p := Option.some.inj hi
        rw [List.getD_eq_getElem?_getD, List.getElem?_eq_getElem hkp] at this
        exact this
      refine ⟨q', ?_, by rw [← ep]; exact hQ'⟩
      rw [List.getElem?_map, ei]
      show some (ws.getD k .non) = _
      rw [List.getD_eq_getElem?_getD, hq']; rfl
end
end L2
set_option Elab.async false
set_option linter.all false
set_option maxRecDepth 100000
/-! what has a size of its own, walked into a list -/
namespace BE
open PySem PySem.Spec PyProof.Rows
section
variable {prog : Program} {w : World} {A : Around} {E : Value → Shared → Prop} {s : Shared}
end
end BE
set_option Elab.async false
set_option linter.all false
set_option maxRecDepth 100000
/-! a dict of ints and texts, walked; its values in a list -/
namespace BE
open PySem PySem.Spec PyProof.Rows
section
variable {prog : Program} {w : World} {A : Around} {E : Value → Shared → Prop} {s : Shared} {κ : Type} [DecidableEq κ] {knd : KeyKind prog w κ}
end
end BE
namespace L2
open PySem PySem.Spec PyProof.Rows
section
variable {X : Cx} {tg : Expr}
end
end L2
set_option Elab.async false
set_option linter.all false
set_option maxRecDepth 100000
namespace BE
open PySem PySem.Spec PyProof.Rows
section
variable {prog : Program} {w : World} {A : Around} {E : Value → Shared → Prop} {s : Shared}
end
end BE
set_option Elab.async false
set_option linter.all false
set_option maxRecDepth 100000
/-! sorted of int tuples of one length; of a dict with such keys -/
namespace BE
open PySem PySem.W PySem.Spec PyProof.Rows
section
variable {prog : Program} {w : World} {A : Around} {E : Value → Shared → Prop} {s : Shared}
end
end BE
namespace L2
open PySem PySem.SeqAt PySem.Spec PyProof.Rows
section
variable {X : Cx}
end
end L2
set_option Elab.async false
set_option linter.all false
set_option maxRecDepth 100000
/-! tables of small sets: eight slots, at most four taken, by brute force -/
namespace BE
open PySem
def lOf (m : Nat) : List Nat := (List.range 8).filter fun j => m.testBit j
def Tb (l : Bool) (m : Nat) : SetTable := ⟨7, (lOf m).toArray, #[], 0, l, 0, true⟩
end BE
set_option Elab.async false
set_option linter.all false
set_option maxRecDepth 100000
namespace BE
open PySem
end BE
set_option Elab.async false
set_option linter.all false
set_option maxRecDepth 100000
/-! a set of few small ints: what is put into it -/
namespace BE
open PySem PySem.Spec PyProof.Rows
def byText (w : World) : Bool := w.params.followText "set-order"
section
variable {prog : Program} {w : World} {A : Around} {E : Value → Shared → Prop} {s : Shared}
theorem met_step (σ : List Int) (v : Int) : step_dedup σ v = if v ∈ σ then σ else σ ++ [v] := by
  unfold step_dedup
  by_cases h : v ∈ σ
  · rw [if_pos h, if_pos (show (σ.any fun x => x == v) = true from List.any_eq_true.mpr ⟨v, h, beq_self_eq_true v⟩)]
  · rw [if_neg h, if_neg (fun e : (σ.any fun x => x == v) = true => h (by obtain ⟨x, hx, e⟩ := List.any_eq_true.mp e; rw [← beq_iff_eq.mp e]; exact hx))]
variable {R : Result → Shared → Prop} {I : Addr} {fp wr : List Addr} {G : Array GenState → Array GenState → Prop} {n : Nat} {P : Nat → Value → Prop} {St : Nat → Shared → Prop}
end
end BE
set_option Elab.async false
set_option linter.all false
set_option maxRecDepth 100000
/-! set(a list of small ints, few of them distinct) -/
namespace BE
open PySem PySem.Spec PyProof.Rows
def freshO (w : World) : Obj := { cls := .type "set", dict := none, data := .set #[] 0 (Tb (!byText w) 0) }
section
variable {prog : Program} {w : World} {A : Around} {E : Value → Shared → Prop} {s : Shared}
theorem made (a : Value) {Q : Value → Shared → Prop} (q : Q (.ref s.heap.objs.size) { s with heap := s.heap.push (freshO w) }) :
    codeAny (model prog w) A (.call (.builtin "set.__new__") ⟨[.type "set", a], []⟩) (wants Q E) s := by
  refine codeAny_of_tree ?_
  show wpAny _ A.in1 (checkBuiltinCall "set.__new__" ⟨[.type "set", a], []⟩ >>= fun _ => again (.builtin "set.__new__" ⟨[.type "set", a], []⟩)) _ _ s
  refine wpAny_bind (wpAny_of_eq (F.newCall_set_1 a) (wpAny_pure ⟨plainId_quiet F.plain_set_new _, codeAny_builtin F.entry_set_new ?_⟩))
  rw [Around.under_plainId F.plain_set_new _]
  unfold Builtin.«set.__new__» Builtin.Frozenset.newClass
  have sub := sub_set_self
  obtain ⟨hp, g, d, tk, os⟩ := s
  dsimp only
  wp_walk
  refine wpAny_askSetting (wpAny_pure ?_)
  dsimp only
  simp only [newObj]
  exact wpAny_bind (wpAny_alloc (wpAny_pure (wpAny_pure q)))
end
end BE
set_option Elab.async false
set_option linter.all false
set_option maxRecDepth 100000
/-! a set of few small ints, walked -/
namespace BE
open PySem PySem.Spec PyProof.Rows
section
variable {prog : Program} {w : World} {A : Around} {E : Value → Shared → Prop} {s : Shared}
end
end BE
set_option Elab.async false
set_option linter.all false
set_option maxRecDepth 100000
/-! sorted(set(a list of small ints, few of them distinct)) -/
namespace BE
open PySem PyProof.Rows
theorem met_mem (val : Nat → Int) {x : Int} : ∀ n : Nat, x ∈ firstMet val n ↔ ∃ i < n, val i = x
  | 0 => by rw [firstMet_zero]; simp
  | n + 1 => by
    rw [firstMet_succ, met_step]
    have ih := met_mem val (x := x) n
    constructor
    · intro h
      split at h
      · obtain ⟨i, hi, e⟩ := ih.mp h
        exact ⟨i, by omega, e⟩
      · rcases List.mem_append.mp h with h | h
        · obtain ⟨i, hi, e⟩ := ih.mp h
          exact ⟨i, by omega, e⟩
        · exact ⟨n, by omega, (List.mem_singleton.mp h).symm⟩
    · rintro ⟨i, hi, e⟩
      by_cases c : i = n
      · subst c
        split
        · rename_i h; rw [e] at h; exact h
        · exact List.mem_append_right _ (by rw [e]; simp)
      · have := ih.mpr ⟨i, by omega, e⟩
        split
        · exact this
        · exact List.mem_append_left _ this
theorem met_nodup (val : Nat → Int) : ∀ n : Nat, (firstMet val n).Nodup
  | 0 => by rw [firstMet_zero]; exact .nil
  | n + 1 => by
    rw [firstMet_succ, met_step]
    have ih := met_nodup val n
    split
    · exact ih
    · rename_i h
      refine List.nodup_append.mpr ⟨ih, by simp, fun x hx y hy => ?_⟩
      rw [List.mem_singleton.mp hy]
      exact fun e => h (e ▸ hx)
theorem met_list {ns : List Int} {x : Int} : x ∈ firstMet (fun i => ns.getD i 0) ns.length ↔ x ∈ ns := by
  rw [met_mem]
  constructor
  · rintro ⟨i, hi, e⟩
    rw [List.getD_eq_getElem?_getD, List.getElem?_eq_getElem hi] at e
    rw [← e]
    exact List.getElem_mem hi
  · intro h
    obtain ⟨i, hi, e⟩ := List.mem_iff_getElem.mp h
    exact ⟨i, hi, by rw [List.getD_eq_getElem?_getD, List.getElem?_eq_getElem hi]; exact e⟩
theorem nodup_le : ∀ {l ks : List Int}, l.Nodup → (∀ x ∈ l, x ∈ ks) → l.length ≤ ks.length
  | [], ks, _, _ => Nat.zero_le _
  | x :: l, ks, nd, h => by
    have hx := h x List.mem_cons_self
    have nd' := List.nodup_cons.mp nd
    have := nodup_le (l := l) (ks := ks.erase x) nd'.2 fun y hy => (List.mem_erase_of_ne (fun e : y = x => nd'.1 (by rw [← e]; exact hy))).mpr (h y (List.mem_cons_of_mem _ hy))
    rw [List.length_erase_of_mem hx] at this
    have pos := List.length_pos_of_mem hx
    rw [List.length_cons]
    omega
theorem bt_set : bootBuiltins "set" = some (.type "set") := by decide +kernel
end BE
namespace L2
open PySem PySem.Spec PyProof.Rows BE
section
variable {X : Cx}
end
end L2
set_option Elab.async false
set_option linter.all false
set_option maxRecDepth 100000
/-! len(set(a tuple of ints)) -/
namespace BE
open PySem PySem.Spec PyProof.Rows
section
variable {prog : Program} {w : World} {A : Around} {E : Value → Shared → Prop} {s : Shared}
set_option maxHeartbeats 3200000 in
theorem set_tup {l : Addr} {its : Array Value} {ns : List Int} {Q : Value → Shared → Prop} (hh : A.handled = none) (hl : s.heap.IsTuple l its) (hi : IntsAre its.toList ns) (hf : its.size + 1 < scanBound)
    (q : ∀ (h' : Heap) (tk : Nat), h'.SetOf (intKind prog w) s.heap.objs.size (fun k' => (firstMet (fun i => ns.getD i 0) its.size).any (· == k')) (firstMet (fun i => ns.getD i 0) its.size).length → (∀ b o, s.heap.get? b = some o → h'.get? b = some o) → Q (.ref s.heap.objs.size) { s with heap := h', toks := tk }) :
    wpAny (model prog w) A (call (.type "set") [.ref l]) Q E s := by
  obtain ⟨c, tl, mro⟩ := F.called_set.mro
  have m1 := F.called_set.made
  have m2 := F.called_set.sub
  refine wpAny_call (codeAny_of_tree ?_)
  show wpAny _ _ (callAny (.type "set") _) _ _ _
  refine wpAny_pure ⟨Code.quiet_builtin _ (by decide +kernel), codeAny_builtin F.entry_type_call ?_⟩
  rw [Around.under_plain (weight_type_call_type "set" [.ref l] []) rfl]
  have m3 := F.called_set.notType
  have m4 := F.called_set.canCreate
  have m5 := F.typeCall_set_1 (.ref l)
  (repeat (any_goals (first | assumption | wp_step)))
  refine codeAny_mono (made (.ref l) (E := E) (Q := fun v s1 => v = .ref s.heap.objs.size ∧ s1 = { s with heap := s.heap.push (freshO w) }) ⟨rfl, rfl⟩) fun r s1 hr => ?_
  cases r with
  | error e => exact hr
  | ok fl =>
    cases fl with
    | ret obj =>
      obtain ⟨rfl, rfl⟩ := hr
      have g1 : (s.heap.push (freshO w)).get? s.heap.objs.size = some (freshO w) := Heap.get?_push_size _ rfl
      have ty : Shared.TypeIs { s with heap := s.heap.push (freshO w) } (.ref s.heap.objs.size) "set" := ⟨_, g1, rfl⟩
      have m6 := F.called_set.init.lookup
      have m7 := F.called_set.init.bind (.ref s.heap.objs.size)
      (repeat (any_goals (first | assumption | wp_step)))
      refine codeAny_mono (codeAny_call_builtin (R := wants (fun r s2 => r = .none ∧ ∃ h' tk, s2 = { s with heap := h', toks := tk } ∧ h'.SetOf (intKind prog w) s.heap.objs.size (fun k' => (firstMet (fun i => ns.getD i 0) its.size).any (· == k')) (firstMet (fun i => ns.getD i 0) its.size).length ∧ (∀ b o, s.heap.get? b = some o → h'.get? b = some o)) E)
        F.called_set.init.plain F.entry_set_init (check_set_init_1 ty ?_)) fun r2 s2 hr2 => ?_
      · obtain ⟨ol, hol, hcl, nl, hdl⟩ := hl
        obtain ⟨ocls, odict, odata, oslots⟩ := ol
        simp only at hcl hdl
        subst hcl hdl
        have g2 : (s.heap.push (freshO w)).get? l = some { cls := .type "tuple", dict := odict, data := .seq its nl, slots := oslots } := Heap.get?_push_of_some _ hol
        have m8 := F.sub_tuple_set
        have m9 := F.sub_tuple_frozenset
        have m10 : (Value.type "tuple" == Value.type "dict") = false := by decide
        have l1 : (s.heap.push (freshO w)).IsTuple l its := ⟨_, g2, rfl, nl, rfl⟩
        unfold Builtin.«set.__init__» noKeywords Builtin.Frozenset.updateFrom
        generalize hPI : pyIter = PI
        wp_walk
        subst hPI
        refine wpAny_pyIter_tuple l1 (wpAny_bind (wpAny_runValue ?_))
        have ltl : l < s.heap.objs.size := Heap.lt_size hol
        have hh3 : A.in1.in1.in1.handled = none := by simp [hh]
        have ne1 : l ≠ (s.heap.push (freshO w)).objs.size := by rw [Heap.size_push]; exact Nat.ne_of_lt (Nat.lt_succ_of_lt ltl)
        have nf : s.heap.objs.size ∉ [(s.heap.push (freshO w)).objs.size, l] := by
          rw [Heap.size_push]
          simp only [List.mem_cons, List.not_mem_nil, or_false, not_or]
          exact ⟨Nat.ne_of_lt (Nat.lt_succ_self _), Nat.ne_of_gt ltl⟩
        refine codeAny_set_update_loopS ((Walks.tuple hh3 _ l ne1 its).toS) s.heap.objs.size nf (fun i => ns.getD i 0) (fun i v hv => IntsAre.int_at hi i v (by rw [Array.getElem?_toList]; exact hv)) hf (its.size - 0) 0 _ (by omega) (Nat.zero_le _)
          ⟨⟨_, Heap.get?_push_size _ rfl, rfl, rfl⟩, l1.push _⟩ (SetOf_congr ((setObjOf_fresh (knd := intKind prog w) (!byText w)).setOf (Heap.get?_push_of_some _ g1) (by unfold scanBound; omega)) (fun _ => rfl) rfl) fun s3 mv hS => ?_
        obtain ⟨h', g', d', tk', os'⟩ := s3
        have eg : g' = s.gens := mv.gens
        have ed : d' = s.drawn := mv.drawn
        have eo : os' = s.os := mv.os
        subst eg ed eo
        refine wpAny_pure ?_
        refine wpAny_pure ⟨rfl, h', tk', rfl, hS, fun b o e => ?_⟩
        have hb := Heap.lt_size e
        refine mv.heap b o ?_ (Heap.get?_push_of_some _ (Heap.get?_push_of_some _ e))
        rw [Heap.size_push]
        simp only [List.mem_cons, List.not_mem_nil, or_false, not_or]
        exact ⟨Nat.ne_of_lt hb, Nat.ne_of_lt (Nat.lt_succ_of_lt hb)⟩
      · cases r2 with
        | error e => exact hr2
        | ok fl2 =>
          cases fl2 with
          | ret r =>
            obtain ⟨rfl, h', tk, rfl, hS, hk⟩ := hr2
            (repeat (any_goals (first | assumption | wp_step)))
            exact q _ _ hS hk
          | _ => exact hr2.elim
    | _ => exact hr.elim
end
end BE
namespace L2
open PySem PySem.Spec PyProof.Rows BE
section
variable {X : Cx}
def rLenSet : List V → Hp → VK → Prop := fun xs H Q => ∃ (a : Addr) (ns : List Int), xs = [.ref a] ∧ H a = some (.tup (ns.map V.int)) ∧ ns.length ≤ 1000 ∧ ∀ n : Nat, (n = ns.length ↔ ns.Nodup) → Q (.int n) H
theorem few_of : ∀ {ns : List Int}, ¬ ns.Nodup → ∃ ks : List Int, ks.length < ns.length ∧ ∀ x ∈ ns, x ∈ ks
  | [], h => absurd .nil h
  | y :: r, h => by
    by_cases c : y ∈ r
    · refine ⟨r, Nat.lt_succ_self _, fun x hx => ?_⟩
      rcases List.mem_cons.mp hx with rfl | hx
      · exact c
      · exact hx
    · obtain ⟨ks, hl, hk⟩ := few_of (ns := r) fun z => h (List.nodup_cons.mpr ⟨c, z⟩)
      refine ⟨y :: ks, Nat.succ_lt_succ hl, fun x hx => ?_⟩
      rcases List.mem_cons.mp hx with rfl | hx
      · exact List.mem_cons_self
      · exact List.mem_cons_of_mem _ (hk x hx)
theorem met_len {ns : List Int} : (firstMet (fun i => ns.getD i 0) ns.length).length = ns.length ↔ ns.Nodup := by
  have nd := met_nodup (fun i => ns.getD i 0) ns.length
  constructor
  · intro h
    apply Classical.byContradiction
    intro c
    obtain ⟨ks, hl, hk⟩ := few_of c
    have := nodup_le nd (fun x hx => hk x (met_list.mp hx))
    omega
  · intro h
    have a := nodup_le nd (fun x hx => met_list.mp hx)
    have b := nodup_le h (fun x hx => (met_list (ns := ns)).mpr hx)
    omega
theorem pe_lenset {e : Expr} {te : TE} {p1 p2 c1 c2 : Pos} (hc : X.calm = true) (hg1 : Gl X "len") (hm1 : X.mg "len" = none) (hg2 : Gl X "set") (hm2 : X.mg "set" = none) (ha : PE X e te)
    (hs : starEach [e] X.env = [(false, eval e X.env)] := by rfl) (hs1 : starEach [.Call (.Name "set" p2) [e] [] c2] X.env = [(false, eval (.Call (.Name "set" p2) [e] [] c2) X.env)] := by rfl) :
    PE X (.Call (.Name "len" p1) [.Call (.Name "set" p2) [e] [] c2] [] c1) (tCB rLenSet (tCons te tNil)) := by
  intro pins s σ H Q I h
  refine wpAny_Call_Name_kw (ld_blt I hg1 hm1 (by decide +kernel : bootBuiltins "len" = some (.builtin "len")) ?_)
  refine PyProof.Rows.callWith_builtin1 ?_ hs1 rfl
  rw [hs1]
  refine Calls.spliced_cons ?_
  refine wpAny_Call_Name_kw (ld_blt I hg2 hm2 bt_set ?_)
  refine PyProof.Rows.callWith_type1 (thn (pa_cons ha pa_nil hs c2 pins s σ H _ I h) fun us s1 ⟨vs, H1, I1, r1, q1⟩ => ?_) hs rfl
  obtain ⟨a, ns, rfl, hH, hf, q⟩ := q1
  obtain ⟨u, rfl, rfl⟩ := vals1 r1
  obtain ⟨its, rv, p, hz⟩ := I1.tuple (SqT.of hH)
  have hi := ints_are rv
  have hl : its.length = ns.length := IntsAre.length hi
  have hz : its.toArray.size = ns.length := by rw [List.size_toArray, hl]
  refine BE.set_tup (ns := ns) (I1.ok.hd hc) p (by simpa using hi) (by rw [hz]; unfold scanBound; omega) fun h' tk hS hk => ?_
  rw [hz] at hS
  refine Calls.spliced_nil ?_
  obtain ⟨o, es, ep, t, ho, hex, hd, _, _, hsb, hfi, hn⟩ := hS
  refine call_len_set (s := { s1 with heap := h', toks := tk }) ho hex hd hfi (by have : es.size < 4096 := hsb; omega) ?_
  have I2 : Inv X pins σ H1 { s1 with heap := h', toks := tk + 1 + 1 } := I1.kept hk
  refine ⟨.int _, H1, I2, ⟨_, rfl⟩, q _ ?_⟩
  rw [hn]
  exact met_len
end
end L2
set_option Elab.async false
set_option linter.all false
set_option maxRecDepth 100000
/-! enumerate(a list) -/
namespace L2
open PySem PySem.Spec PyProof.Rows
theorem turn_enumL {P : Program} {w : World} {K : PySem.W.Frag} {es : List Expr} {ek : Nat} {pos : Pos} (a it e : Addr) (hei : e ≠ it) : Turn P w K (.Tuple es ek pos) (ItL K a) [it, e] e (fun i h => (∃ old, IsEnum h e it i old) ∧ h.IsListIter it a i) where
  mem := by simp
  obj := fun i h st b hb => by
    obtain ⟨⟨old, he⟩, o, ho, hc, hd⟩ := st
    have hb' : b = it ∨ b = e := by simpa using hb
    rcases hb' with rfl | rfl
    · exact ⟨o, ho, fun v z => by rw [hd] at z; cases z⟩
    · exact ⟨_, he, fun v z => by
        have z' : Data.fields _ = Data.cell v := z
        cases z'⟩
  keep := fun i h h' st k => by
    obtain ⟨⟨old, he⟩, st⟩ := st
    exact ⟨⟨old, k e (by simp) _ he⟩, st.at fun o q => k it (by simp) o q⟩
  item := by
    intro X hP hw hK hc i pins s σ H E I hf st hg
    subst hP hw hK
    obtain ⟨⟨old, he⟩, st⟩ := st
    obtain ⟨xs, x, hq, hx⟩ := hg
    obtain ⟨its, rv, p, hz⟩ := I.list hq
    obtain ⟨u, hu, ru⟩ := rv.get hx
    have f1 := hf it (by simp)
    have f2 := hf e (by simp)
    have p' : s.heap.IsList a its.toArray := p.isList
    have ha : a ≠ it := fun z => by
      obtain ⟨o, ho, hcl, _⟩ := st
      obtain ⟨o', ho', hcl', _⟩ := p'
      rw [z, ho] at ho'; cases ho'; rw [hcl] at hcl'; exact absurd (Value.type.inj hcl') (by decide)
    have hae : e ∉ [it, a] := fun z => by
      have z' : e = it ∨ e = a := by simpa using z
      rcases z' with z' | z'
      · exact hei z'
      · obtain ⟨o', ho', hcl', _⟩ := p'
        rw [← z', he] at ho'; cases ho'; exact absurd (Value.type.inj hcl') (by decide)
    have hlt : i < its.toArray.size := by
      have := (List.getElem?_eq_some_iff.mp hu).1
      simpa using this
    refine wpAny_pyNext_enum_itemD (Draws.list (A := X.A.in1) (I.ok.hd hc) it a ha its.toArray) he ⟨st, p'⟩ hlt hei hae fun y h1 tk hy ho st1 hT hsz hk => ?_
    have ey : y = u := by
      have hy' : its.toArray[i]? = some y := hy
      rw [List.getElem?_toArray] at hy'
      rw [hu] at hy'; cases hy'; rfl
    subst ey
    refine ⟨_, rfl, wpAny_letOwnedTupleGo_enum ho fun h2 he2 sb2 => ?_⟩
    have neT : s.heap.objs.size ≠ e := Nat.ne_of_gt (Heap.lt_size he)
    have hT2 : h2.get? s.heap.objs.size = some { cls := .type "tuple", data := .seq #[.int i tk, y] } := (sb2.2 _ neT).trans hT
    have fr : H s.heap.objs.size = none := I.hok.fresh (Nat.le_refl _)
    have I2 : Inv X pins σ (upd H s.heap.objs.size (.tup [.int i, x])) { s with heap := h2, toks := tk + 1 } :=
      I.turned2 (it := it) (e := e) (fun b q h1' h2' r => (sb2.2 b h2').trans (hk b q h2' h1' r)) f1 f2 (Nat.le_refl _) (tup2_ok hT2 ru)
    refine ⟨.ref s.heap.objs.size, _, I2, rfl, ⟨_, x, fr, rfl, rfl, fun ys hy => by rw [I.list_inj hy hq]; exact hx⟩, ⟨⟨y, ?_⟩, ?_⟩, fun b hb => ?_⟩
    · have := he2
      rw [show ((i + 1 : Nat) : Int) = (i : Int) + 1 from by omega]
      exact this
    · exact st1.1.at fun o q => (sb2.2 it (Ne.symm hei)).trans q
    · have hn := (hf b hb).1
      have hb' : b ≠ s.heap.objs.size := fun z => by
        have hlt' : b < s.heap.objs.size := by
          have hb2 : b = it ∨ b = e := by simpa using hb
          rcases hb2 with rfl | rfl
          · obtain ⟨o, ho, _⟩ := st; exact Heap.lt_size ho
          · exact Heap.lt_size he
        exact absurd z (Nat.ne_of_lt hlt')
      rw [upd_ne hb']
      exact hn
  done := by
    intro X hP hw hK hc i pins s σ H E I hf st hg
    subst hP hw hK
    obtain ⟨⟨old, he⟩, st⟩ := st
    obtain ⟨xs, hq, hx⟩ := hg
    obtain ⟨its, rv, p, hz⟩ := I.list hq
    have f1 := hf it (by simp)
    have p' : s.heap.IsList a its.toArray := p.isList
    have hT : s.TypeIs (.ref e) "enumerate" := ⟨_, he, rfl⟩
    unfold pyNext
    refine wpAny_bind (wpAny_attempt (wpAny_callSpecial?_slot (name := Str.ofString "__next__") hT F.slot_enumerate_next (wpAny_call_entry F.slot_enumerate_next hT F.entry_enumerate_next ?_ (F.args_enumerate_next_1 _))))
    show wpAny _ _ (field (.ref e) 2 >>= _) _ _ _
    refine wpAny_bind (wpAny_field he rfl (x := .ref it) rfl ?_)
    refine wpAny_bind (wpAny_nextOf_list_end (A := X.A.in1) (I.ok.hd hc) st p' (by simp; have := rv.length; omega) fun h1 ex hb hx' => ?_)
    obtain ⟨o, ho, hcl⟩ := hx'
    refine wpAny_bind (wpAny_isInstance (T := "StopIteration") (b := true) ⟨o, ho, hcl⟩ isSubtype_stop ?_)
    exact wpAny_pure ⟨rfl, I.turned (t' := s.toks) (fun b q hb' r => hb b q hb' r) f1.1 f1.2.1 f1.2.2.2.1 f1.2.2.2.2.1 f1.2.2.2.2.2⟩
  self := fun _ _ _ _ _ st h => let ⟨⟨_, he⟩, _⟩ := st; wpAny_pyIter_enum he h

section
variable {X : Cx} {es : List Expr} {ek : Nat} {tpos : Pos}
def iEnumL (K : PySem.W.Frag) (ta : TA) : TI := fun σ H R => ta σ H fun vs H1 => ∃ a xs, vs = [.ref a] ∧ SqL K H1 a xs ∧ R (ItL K a) H1
theorem pi_enumL {x : Expr} {ta : TA} {p pos : Pos} (hg : Gl X "enumerate") (hm : X.mg "enumerate" = none) (ha : PA X [x] ta) (hs : starEach [x] X.env = [(false, eval x X.env)] := by rfl) :
    PI X (.Tuple es ek tpos) (.Call (.Name "enumerate" p) [x] [] pos) (iEnumL X.K ta) := by
  intro pins s σ H R I h
  refine Call_ (ld_blt I hg hm boot_enumerate (PyProof.Rows.callWith_type1 (thn (ha pos pins s σ H _ I h) fun us s1 ⟨vs, H1, I1, r1, q1⟩ => ?_) hs rfl))
  obtain ⟨a, xs, e, hq, q⟩ := q1
  subst e
  cases r1 with
  | cons r rr =>
    cases rr
    cases r
    obtain ⟨its, rv, pt, hz⟩ := I1.list hq
    refine call_enumerate_list pt.isList fun h' he hit hsz hk => ?_
    refine wpAny_pyIter_enum he ?_
    have hne : s1.heap.objs.size + 1 ≠ s1.heap.objs.size := Nat.succ_ne_self _
    refine ⟨s1.heap.objs.size + 1, [s1.heap.objs.size, s1.heap.objs.size + 1], _, _, H1, rfl, I1.kept (t' := s1.toks) hk, turn_enumL a s1.heap.objs.size (s1.heap.objs.size + 1) hne, ⟨⟨_, he⟩, hit⟩, fun b hb => ?_, q⟩
    have hb' : b = s1.heap.objs.size ∨ b = s1.heap.objs.size + 1 := by simpa using hb
    rcases hb' with rfl | rfl
    · exact I1.fpOk (Nat.le_refl _) (I1.hok.fresh (Nat.le_refl _))
    · exact I1.fpOk (Nat.le_succ _) (I1.hok.fresh (Nat.le_succ _))
end
theorem for_enumL {K : PySem.W.Frag} {a : Addr} {xs : List V} {g : TG} {tb : TS} {D : Ends} {σ : St} {H : Hp} (Pv : Nat → St → Hp → Prop) (h0 : Pv 0 σ H) (hl : ∀ i σ H, i ≤ xs.length → Pv i σ H → SqL K H a xs)
    (hs : ∀ i v p σ H, xs[i]? = some v → H p = none → Pv i σ H → g (.ref p) σ (upd H p (.tup [.int i, v])) fun σ2 H2 => tb { D with nx := Pv (i + 1), ct := Pv (i + 1), bk := D.nx } σ2 H2) (hd : ∀ σ H, Pv xs.length σ H → D.nx σ H) :
    ∃ W : Nat → Nat → St → Hp → Prop, (∃ m, W 0 m σ H) ∧ ∀ i m σ H, W i m σ H →
      ((ItL K a).stop i H ∧ D.nx σ H) ∨ ((ItL K a).go i H ∧ ∃ N : St → Hp → Prop, (∀ σ' H', N σ' H' → ∃ m', m' < m ∧ W (i + 1) m' σ' H') ∧ ∀ x H', (ItL K a).yld i H x H' → g x σ H' fun σ2 H2 => tb { D with nx := N, ct := N, bk := D.nx } σ2 H2) := by
  refine ⟨fun i m σ H => m = xs.length - i ∧ i ≤ xs.length ∧ Pv i σ H, ⟨xs.length, by simp, Nat.zero_le _, h0⟩, ?_⟩
  rintro i m σ H ⟨rfl, hi, p⟩
  have q := hl i σ H hi p
  by_cases hlt : i < xs.length
  · refine .inr ⟨⟨xs, xs[i], q, by simp [hlt]⟩, Pv (i + 1), fun σ' H' p' => ⟨xs.length - (i + 1), by omega, rfl, hlt, p'⟩, fun x H' y => ?_⟩
    obtain ⟨b, v, hb, e1, e2, y⟩ := y
    subst e1 e2
    exact hs i v b σ _ (y xs q) hb p
  · have e : i = xs.length := by omega
    subst e
    exact .inl ⟨⟨xs, q, Nat.le_refl _⟩, hd σ H p⟩

/-- enumerate(a list) in a comprehension -/
theorem comp_enumLR {g : TG} {tt : TT} {te : TE} {τ : St} {D : Addr} {H1 : Hp} {R : Hp → Prop} {K : PySem.W.Frag} {a : Addr} {xs : List V} (Pv : Nat → List V → Hp → Prop) (h0 : Pv 0 [] (upd H1 D (.lst []))) (hl : ∀ i ys H, i ≤ xs.length → Pv i ys H → SqL K H a xs)
    (hs : ∀ i ys v p H, xs[i]? = some v → H p = none → Pv i ys H → turnC g tt te τ D ys (Pv (i + 1)) (.ref p) (upd H p (.tup [.int i, v]))) (hd : ∀ ys H, Pv xs.length ys H → R H) :
    ∃ W : Nat → Nat → List V → Hp → Prop, (∃ m, W 0 m [] (upd H1 D (.lst []))) ∧ ∀ i m ys H, W i m ys H → ((ItL K a).stop i H ∧ R H) ∨ ((ItL K a).go i H ∧ ∃ N : List V → Hp → Prop, (∀ ys' H', N ys' H' → ∃ m', m' < m ∧ W (i + 1) m' ys' H') ∧ ∀ x H', (ItL K a).yld i H x H' → turnC g tt te τ D ys N x H') := by
  refine ⟨fun i m ys H => m = xs.length - i ∧ i ≤ xs.length ∧ Pv i ys H, ⟨xs.length, by simp, Nat.zero_le _, h0⟩, ?_⟩
  rintro i m ys H ⟨rfl, hi, p⟩
  have q := hl i ys H hi p
  by_cases hlt : i < xs.length
  · refine .inr ⟨⟨xs, xs[i], q, by simp [hlt]⟩, Pv (i + 1), fun ys' H' p' => ⟨xs.length - (i + 1), by omega, rfl, hlt, p'⟩, fun x H' y => ?_⟩
    obtain ⟨b, v, hb, e1, e2, y⟩ := y
    subst e1 e2
    exact hs i ys v b _ (y xs q) hb p
  · have e : i = xs.length := by omega
    subst e
    exact .inl ⟨⟨xs, q, Nat.le_refl _⟩, hd ys H p⟩
end L2
set_option Elab.async false
set_option linter.all false
set_option maxRecDepth 100000
/-! isinstance of an error of the program's own. -/
namespace L2
open PySem PySem.Spec PySem.W PyProof.Rows Builtin Builtin.ObjectAttr Builtin.Getset_descriptor
/-- what is asked of an own error class -/
structure ExcK (K : PySem.W.Frag) (C : Addr) : Prop where
  ga : findIn K (.ref C) "__getattribute__" = some (some (.builtin "BaseException.__getattribute__"))
  gt : findIn K (.ref C) "__getattr__" = some none
  cl : findIn K (.ref C) "__class__" = some (some (.builtin "object.__class__"))
  mo : mroIn K C (.type "object") = some true
  mb : mroIn K C (.type "BaseException") = some true
  is : (clsIn K C).isSome = true
section
variable {prog : Program} {w : World} {A : Around} {E : Value → Shared → Prop} {h : Heap} {g : Array GenState} {d : Drawn} {t : Nat} {os : OsState} {K : PySem.W.Frag} {a C : Addr} {o : Obj} {vs : Array Value}
theorem xc_type {M : Model} (hx : h.get? a = some o) (hc : o.cls = .ref C) : Looks M h (typeOf (.ref a)) (.ref C) := hc ▸ (Looks.ld hx).andThen .now
theorem xc_get {R : Result → Shared → Prop} {tp : Value} (X : K.In h) (k : ExcK K C) (hx : h.get? a = some o) (hc : o.cls = .ref C) (hq : R (.ok (.ret (.ref C))) ⟨h, g, d, t, os⟩) :
    codeAny (model prog w) A (.call (.builtin "getset_descriptor.__get__") ⟨[.builtin "object.__class__", .ref a, tp], []⟩) R ⟨h, g, d, t, os⟩ := by
  have L0 := xc_type (M := model prog w) hx hc
  have L1 := looks_mroIn (M := model prog w) X k.mo
  refine codeAny_call_builtin KF.slot_gs.plain KF.entry_gs (KF.slot_gs.check _ _ _ _ _ _ _ _ KF.type_class (KF.args_gs _ _ _) ?_)
  unfold Builtin.«getset_descriptor.__get__» descrGet
  rw [dga_obj]
  refine wpAny_bind (wpAny_pure ?_)
  unfold descrGetter descrCheckInstance descrNameAndClass isInstance
  simp only [KF.owner_class]
  repeat lk
  refine ⟨Code.quiet_builtin _ (by decide +kernel), codeAny_builtin KF.entry_class ?_⟩
  unfold Builtin.«object.__class__» shownTypeOf
  repeat lk
  exact hq
theorem xc_entry {tk : Tok} {Q : Fin → Shared → Prop} (X : K.In h) (k : ExcK K C) (hx : h.get? a = some o) (hc : o.cls = .ref C) (hq : Q (.done (.ret (.ref C))) ⟨h, g, d, t, os⟩) :
    wpAny (model prog w) A (Builtin.«object.__getattribute__» ⟨[.ref a, .str "__class__" tk], []⟩) Q E ⟨h, g, d, t, os⟩ := by
  have hT5 : (⟨h, g, d, t, os⟩ : Shared).TypeIs (.builtin "object.__class__") "getset_descriptor" := F.typeOf_object_class
  have f5 := F.typeOf_object_class
  have f6 := F.slot_gs_get.lookup
  have f7 := F.slot_gs_set.lookup
  have L2 := looks_findIn (M := model prog w) X k.cl
  repeat (any_goals (first | assumption | (with_reducible refine wpAny_loadPart_at hx ?_; rw [hc]) | with_reducible refine Looks.at L2 ?_ | wp_step))
  refine xc_get X k hx hc ?_
  repeat (any_goals (first | assumption | wp_step))
theorem xc_check {M : Model} {nameV : Value} {Q : Unit → Shared → Prop} (X : K.In h) (k : ExcK K C) (hx : h.get? a = some o) (hc : o.cls = .ref C) (hq : Q () ⟨h, g, d, t, os⟩) : wpAny M A (checkBuiltinCall "BaseException.__getattribute__" ⟨[.ref a, nameV], []⟩) Q E ⟨h, g, d, t, os⟩ := by
  have e1 : builtinKind "BaseException.__getattribute__" = some .slot := by decide +kernel
  have e2 : splitId "BaseException.__getattribute__" = some ("BaseException", "__getattribute__") := by decide +kernel
  have L3 := looks_mroIn (M := M) X k.mb
  have ha := F.args_bexc_ga (.ref a) nameV
  simp only [checkBuiltinCall, e1, e2]
  refine wpAny_bind ?_
  unfold isInstance
  repeat (first | (with_reducible refine wpAny_loadPart_at hx ?_; rw [hc]) | with_reducible refine Looks.at L3 ?_ | wp_step)
  exact hq
theorem xc_call {tk : Tok} {R : Result → Shared → Prop} (X : K.In h) (k : ExcK K C) (hx : h.get? a = some o) (hc : o.cls = .ref C) (hq : R (.ok (.ret (.ref C))) ⟨h, g, d, t, os⟩) :
    codeAny (model prog w) A (.call (.builtin "BaseException.__getattribute__") ⟨[.ref a, .str "__class__" tk], []⟩) R ⟨h, g, d, t, os⟩ :=
  codeAny_call_builtin F.attr_ValueError.ga.plain F.entry_bexc_ga (xc_check X k hx hc (xc_entry X k hx hc hq))
theorem xc_by {tk : Tok} {fill expr : Bool} {Q : Value → Shared → Prop} (X : K.In h) (k : ExcK K C) (hx : h.get? a = some o) (hc : o.cls = .ref C) (hq : Q (.ref C) ⟨h, g, d, t, os⟩) :
    wpAny (model prog w) A (getAttrBy (.ref a) (.str "__class__" tk) fill expr) Q E ⟨h, g, d, t, os⟩ := by
  have f3 := F.attr_ValueError.ga.bind (.ref a)
  have hx0 : (expr && onTheHeap (Value.builtin "BaseException.__getattribute__")) = false := by cases expr <;> rfl
  have hx2 : (Value.builtin "BaseException.__getattribute__" == Value.builtin "object.__getattribute__") = false := by decide +kernel
  have hx1 : (onTheHeap (Value.ref C) && Value.builtin "BaseException.__getattribute__" == Value.builtin "object.__getattribute__") = false := by rw [hx2]; rfl
  have L4 := looks_findIn (M := model prog w) X k.ga
  have L5 := looks_findIn (M := model prog w) X k.gt
  repeat (any_goals (first | assumption | (with_reducible refine wpAny_loadPart_at hx ?_; rw [hc]) | with_reducible refine Looks.at L4 ?_ | with_reducible refine Looks.at L5 ?_ | wp_step))
  refine xc_call X k hx hc ?_
  repeat (any_goals (first | assumption | wp_step))
theorem xc_attr {Q : Option Value → Shared → Prop} (X : K.In h) (k : ExcK K C) (hx : h.get? a = some o) (hc : o.cls = .ref C) (hq : Q (some (.ref C)) ⟨h, g, d, t + 1, os⟩) :
    wpAny (model prog w) A (getAttr? (.ref a) "__class__") Q E ⟨h, g, d, t, os⟩ := by
  unfold getAttr? getAttrBy?
  refine wpAny_bind (wpAny_mkText (wpAny_bind (wpAny_attempt ?_)))
  exact xc_by X k hx hc (wpAny_pure hq)
end
/-- an error of the own class C stands at a -/
def XAt (a C : Addr) (h : Heap) : Prop := ∃ o, h.get? a = some o ∧ o.cls = .ref C
theorem kitx_exc {K : PySem.W.Frag} {a C : Addr} (k : ExcK K C) : KitX K (.ref a) (.ref C) (XAt a C) where
  ty := fun _ _ _ ⟨o, hx, hc⟩ => xc_type hx hc
  it := fun _ _ X _ => by
    obtain ⟨cd, e⟩ := Option.isSome_iff_exists.mp k.is
    unfold clsIn at e
    split at e
    · rename_i look
      intro A' Q' E' s' kk q
      unfold isType loadHead
      exact wpAny_bind (wpAny_loadPart (kk _ _ (X _ _ look)) (wpAny_pure q))
    · cases e
  ne := fun h tp dd its n sl X htp => by
    obtain ⟨cd, e⟩ := Option.isSome_iff_exists.mp k.is
    refine Bool.eq_false_iff.mpr fun q => ?_
    have e2 : C = tp := Value.ref.inj (beq_iff_eq.mp q)
    subst e2
    unfold clsIn at e
    split at e
    · rename_i look
      have z := (X _ _ look).symm.trans htp
      cases z
    · cases e
  ca := fun {prog w A E Q s} X ⟨o, hx, hc⟩ q => by
    obtain ⟨h, g, d, t, os⟩ := s
    exact xc_attr X k hx hc q
end L2
set_option Elab.async false
set_option linter.all false
set_option maxRecDepth 100000
/-! An own error caught: try .. except Base as e: return f(e). -/
namespace L2
open PySem PySem.Spec PyProof.Rows
/-! ### an error as a tracked thing -/
def excO (p C : Addr) : HO := .ext (XAt p C)
theorem excO_ok {P : Program} {w : World} {H : Hp} {h : Heap} {p C : Addr} (x : XAt p C h) : ObjOk P w H h p (excO p C) :=
  ⟨x, let ⟨o, e, _⟩ := x; ⟨o, e⟩, fun _ _ ⟨o, e, c⟩ k => ⟨o, k o e, c⟩⟩
theorem call_isx {X : Cx} : CallR X (.builtin "isinstance") (fun xs H Q => ∃ (p C : Addr) (c : V) (t : Value) (b : Bool), xs = [.ref p, c] ∧ H p = some (excO p C) ∧ ExcK X.K C ∧ (∀ u, RelV c u → u = t) ∧ PySem.W.kitOne X.K (.ref C) t = some b ∧ Q (.bl b) H) := by
  intro pins s σ H xs us Q I rs h
  obtain ⟨p, C, c, t, b, e, hp, k, ht, hk, q⟩ := h
  subst e
  obtain ⟨u, u2, rfl, ru, ru2⟩ := Vals.two rs
  cases (show u = Value.ref p from ru)
  cases ht u2 ru2
  have x : XAt p C s.heap := (I.hok p _ hp).1
  exact PySem.W.kia_one (kitx_exc k) I.kIn x hk (fun z => nomatch z) fun tk => ⟨.bl b, H, I.tok tk, rfl, q⟩
/-! ### an own class is caught by an own class above it -/
section
variable {M : Model} {A : Around} {E : Value → Shared → Prop} {h : Heap} {g : Array GenState} {d : Drawn} {t : Nat} {os : OsState}
variable {nm q nm2 q2 : Str} {C N D N2 : Addr} {bs bm bs2 bm2 : List Value} {hdct hdct2 : Bool} {sn sn2 : List Str} {sub sub2 : List Value} {ab ab2 : Bool} {col col2 : Option Bool} {dd dd2 : Option Addr} {k0 k1 k2 k3 k5 j0 j1 j2 j3 j5 : Option Value} {newId newId2 : String}
theorem excMatches_above {e : Addr} {oe : Obj} {Q : Bool → Shared → Prop} (hC : h.get? C = some (excClassObj nm q C N bs bm hdct sn sub ab col dd k0 k1 k2 k3 k5 newId)) (hD : h.get? D = some (excClassObj nm2 q2 D N2 bs2 bm2 hdct2 sn2 sub2 ab2 col2 dd2 j0 j1 j2 j3 j5 newId2))
    (he : h.get? e = some oe) (hcls : oe.cls = .ref C) (hb : (Value.ref D :: bm2).contains (.type "BaseException") = true) (hs : (Value.ref C :: bm).contains (.ref D) = true) (hq : Q true ⟨h, g, d, t, os⟩) : wpAny M A (excMatches (.ref e) (.ref D)) Q E ⟨h, g, d, t, os⟩ := by
  have f := tc_notTuple
  unfold excMatches
  repeat (first | (with_reducible refine wpAny_loadPart_at he ?_; rw [hcls]) | with_reducible refine wpAny_loadPart_at hD ?_ | (with_reducible refine wpAny_isSubtype_exc hD ?_; rw [hb]) | (with_reducible refine wpAny_isSubtype_exc hC ?_; rw [hs]) | wp_step)
  exact hq
theorem own_mro {K : PySem.W.Frag} {base : Value} {r : Bool} (X : K.In h) (hC : h.get? C = some (excClassObj nm q C N bs bm hdct sn sub ab col dd k0 k1 k2 k3 k5 newId)) (e : PySem.W.mroIn K C base = some r) : (Value.ref C :: bm).contains base = r := by
  obtain ⟨cd, a, b⟩ := Option.bind_eq_some_iff.mp e
  unfold PySem.W.clsIn at a
  split at a
  · rename_i look
    have z := X _ _ look
    rw [hC] at z
    cases a
    injection z with z
    injection z with _ _ z3 _
    injection z3 with z3
    subst z3
    split at b
    · cases b
    · exact Option.some.inj b
  · cases a
end
/-! ### a call while an error is handled -/
structure RoomH (k : Nat) (A : Around) : Prop where
  dp : A.depth + 3 * k + 5 < recursionLimit
  un : A.units + 16 * k + 200 < cLine
theorem Room.h {k : Nat} {A : Around} (r : Room k A) : RoomH k A := ⟨r.dp, r.un⟩
theorem RoomH.mono {j k : Nat} {A : Around} (r : RoomH k A) (h : j ≤ k) : RoomH j A := ⟨by have := r.dp; omega, by have := r.un; omega⟩
theorem RoomH.deeper {k : Nat} {A : Around} (r : RoomH (k + 1) A) (env : Env) : RoomH k (A.deeper env) := ⟨by have := r.dp; show A.depth + 1 + 3 * k + 5 < _; omega, by have := r.un; show A.units + 3 + 16 * k + 200 < _; omega⟩
theorem RoomH.depth {k : Nat} {A : Around} (r : RoomH k A) : A.depth < recursionLimit := by have := r.dp; omega
theorem RoomH.mark {k : Nat} {A : Around} (r : RoomH k A) (v : Option Value) : RoomH k (A.mark v) := ⟨r.dp, r.un⟩
structure FnOkH (P : Program) (w : World) (K : PySem.W.Frag) (mg : Str → Option Value) (base : Heap) (k : Nat) (f : Addr) (fd : FuncData) (ps : List Str) (sp : Sp) : Prop where
  len : ∀ vs H Q E, sp vs H Q E → vs.length = ps.length
  run : ∀ (A : Around) (outer : List Env) (s : Shared) (H : Hp) (args : Args) (us : List Value) (vs : List V) (Q : VK) (E : XK), RoomH k A → Env0 P w K mg base A outer s H → BindsTo s fd args (ps.zip us) → Vals vs us → sp vs H Q E →
    codeAny (model P w) A (.call (.ref f) args) (CR (CXr P w) outer P w H s Q E) s
section
variable {P : Program} {w : World} {K : PySem.W.Frag} {mg : Str → Option Value} {base : Heap}
def cxH (P : Program) (w : World) (K : PySem.W.Frag) (mg : Str → Option Value) (base : Heap) (N : List Str) (qual : Str) (scope : Scope) (f : Addr) (cd : Value) (A : Around) (outer : List Env) (s : Shared) (H : Hp) : Cx :=
  { cxOf (CXr P w) P w K mg base N qual scope f cd A outer s H E0 with calm := false, xe := fun _ _ => False }
theorem inv_startH {N ps : List Str} {qual : Str} {scope : Scope} {f : Addr} {cd : Value} {A : Around} {outer : List Env} {s s1 : Shared} {H : Hp} {us : List Value} {vs : List V} (S : FnScope N ps scope) (e0 : Env0 P w K mg base A outer s H) (hl : vs.length = ps.length) (r : Vals vs us)
    (x : InCallC s s.heap.objs.size (bindL (envOfC qual scope s.heap.objs.size f cd).kindOf (ps.zip us) fun _ => none) (cellsFrom (s.heap.objs.size + 1) scope.names []) (bindC (envOfC qual scope s.heap.objs.size f cd).kindOf (ps.zip us) fun _ => none) s1) :
    Inv (cxH P w K mg base N qual scope f cd A outer s H) [] (start N vs) H s1 := by
  have e1 : Env0 P w K mg base { A with handled := none } outer s H := ⟨e0.frames, e0.mod, e0.bs, e0.bsz, e0.funs, e0.frf, e0.hok, e0.bare⟩
  have I := inv_start (CX := CXr P w) (E := E0) (A := { A with handled := none }) S rfl e1 hl r x
  exact ⟨⟨I.ok.mod, I.ok.kind, I.ok.glob, I.ok.blt, I.ok.above, I.ok.inj, I.ok.has, I.ok.cab, fun z => (by cases z), I.ok.frames, I.ok.stk, I.ok.exf, I.ok.bs, I.ok.bsz, I.ok.noex, I.ok.exfs, I.ok.funs, I.ok.frf⟩, I.os, I.bare, I.base, I.loc, I.cell, I.free, I.freeC, I.pin, I.hok, I.len⟩
theorem Fun.okH {x qual : Str} {st : Stmt} {f : Addr} {fd : FuncData} {N ps : List Str} {k : Nat} {sp : Sp} (F : Fun K x qual st f fd) (S : FnScope N ps (defScope st)) (len : ∀ vs H Q E, sp vs H Q E → vs.length = ps.length)
    (hbody : ∀ (cdv : Value) (A : Around) (outer : List Env) (s : Shared) (H : Hp) (vs : List V) (Q : VK) (E : XK), RoomH k (A.deeper (envOfC qual (defScope st) s.heap.objs.size f cdv)) → sp vs H Q E →
      ∃ t, PSs (cxH P w K mg base N qual (defScope st) f cdv A outer s H) (defBody st) t ∧ t { nx := fun _ H' => Q .non H', rt := Q } (start N vs) H) : FnOkH P w K mg base (k + 1) f fd ps sp := by
  obtain ⟨oc, od, kV, doc, pm, an, cdv, ct, osl, rfl, lk, hcd⟩ := F.ex
  refine ⟨len, fun A outer s H args us vs Q E hr e0 hb r hsp => ?_⟩
  have hl := len _ _ _ _ hsp
  have KX : K.In s.heap := e0.mod.kin.keeps fun b o e => (e0.bs b o e).1
  have lim : s.heap.NoLimit := e0.mod.nolimit.keeps fun b o e => (e0.bs b o e).1
  have hkind : ∀ y ∈ ps.zip us, (defScope st).names.lookup y.1 = some .local ∨ ((defScope st).names.lookup y.1 = some .cell ∧ ((cellsFrom (s.heap.objs.size + 1) (defScope st).names []).lookup y.1).isSome = true) := fun ⟨n, v⟩ hy => by
    rcases S.par n (List.of_mem_zip hy).1 with q | q
    · exact .inl q
    · exact .inr ⟨q, PySem.W.cellsFrom_some _ _ _ (.inl q)⟩
  refine codeAny_call_function hr.depth (KX _ _ lk) rfl S.co S.gen rfl (PySem.W.codeRec_of KX hcd) (hb _ _ _ _ ?_)
  refine wpAny_newFunctionEnv_cells S.kind hkind fun env he s1 x => ?_
  subst he
  refine ⟨lim.keeps x.toInCall.keep, codeAny_func ?_⟩
  obtain ⟨t, ht, hq⟩ := hbody cdv A outer s H vs Q E (hr.deeper _) hsp
  have I : Inv (cxH P w K mg base N qual (defScope st) f cdv A outer s H) [] (start N vs) H s1 := inv_startH S e0 hl r x
  refine wpAny_mono (ht [] s1 (start N vs) H _ I hq) (fun fl s' hs => ?_) fun e s' z => z.elim
  have fin : ∀ {σ' : St} {H' : Hp} {v : V} {u : Value}, Inv (cxH P w K mg base N qual (defScope st) f cdv A outer s H) [] σ' H' s' → RelV v u → Q v H' → CE outer P w H s Q u s' :=
    fun {σ' H' v u} J rv q => ⟨v, H', J.os, J.bare, J.base, J.hok, rv, q⟩
  cases fl with
  | ret u => obtain ⟨v, σ', H', J, rv, q⟩ := hs; exact fin J rv q
  | next => obtain ⟨σ', H', J, q⟩ := hs; exact fin (v := V.non) (u := Value.none) J rfl q
  | brk => obtain ⟨_, _, _, q⟩ := hs; exact False.elim q
  | cont => obtain ⟨_, _, _, q⟩ := hs; exact False.elim q
end
section
variable {X : Cx} {k : Nat} {f : Addr} {fd : FuncData} {ps : List Str} {sp : Sp} {x : Str} {p pos : Pos} {e : Expr} {es : List Expr} {t : TA}
theorem pe_callH (F : FnOkH X.prog X.w X.K X.mg X.base k f fd ps sp) (hr : RoomH k X.A) (hg : Gl X x) (hm : X.mg x = some (.ref f)) (hk : PySem.W.keepIn X.K (.ref f) = true) (hb : Binds X.K fd ps []) (ha : PA X (e :: es) t)
    (hdb : (x == ("__debug__" : Str)) = false := by decide) (he : starEach (e :: es) X.env = (false, eval e X.env) :: starEach es X.env := by rfl) (hpl : (backTo pos (starEach es X.env)).any (·.1) = false := by rfl) :
    PE X (.Call (.Name x p) (e :: es) [] pos) (tCall sp [] E0 t) := by
  intro pins s σ H Q I h
  refine wpAny_Call_Name_kw (ld_glob I hg hm ?_ hdb)
  refine PySem.W.callWith_K (h₀ := X.base) I.ok.mod.kin hk (thn (ha pos pins s σ H _ I h) fun us s1 ⟨vs, H1, I1, r, q⟩ => ⟨I1.kIn, ?_⟩) he hpl
  have r2 : Vals (vs ++ []) (us ++ []) := r.append .nil
  have hl : (us ++ []).length = ps.length := by rw [← r2.length]; exact F.len _ _ _ _ q
  refine wpAny_call (codeAny_mono (F.run X.A X.stack s1 H1 ⟨us, []⟩ (us ++ []) (vs ++ []) Q E0 hr I1.env0 (hb s1 us I1.kIn hl) r2 q) fun r s' hq => ?_)
  cases r with
  | error e => obtain ⟨_, _, _, _, _, _, _, z⟩ := hq; exact False.elim z
  | ok fl =>
    cases fl with
    | ret u => exact I1.after hq
    | next => exact False.elim hq
    | brk => exact False.elim hq
    | cont => exact False.elim hq
end
/-! ### within the handler -/
abbrev Cx.inH (X : Cx) (e : Value) : Cx := { X with A := X.A.mark (some e), calm := false, xe := fun _ _ => False }
section
variable {X : Cx} {pins : List (Addr × Obj)} {σ : St} {H : Hp} {s : Shared}
theorem Inv.inH (I : Inv X pins σ H s) (e : Value) : Inv (X.inH e) pins σ H s :=
  ⟨⟨I.ok.mod, I.ok.kind, I.ok.glob, I.ok.blt, I.ok.above, I.ok.inj, I.ok.has, I.ok.cab, fun z => (by cases z), I.ok.frames, I.ok.stk, I.ok.exf, I.ok.bs, I.ok.bsz, I.ok.noex, I.ok.exfs, I.ok.funs, I.ok.frf⟩, I.os, I.bare, I.base, I.loc, I.cell, I.free, I.freeC, I.pin, I.hok, I.len⟩
theorem Inv.outH {e : Value} (ok : X.Ok) (I : Inv (X.inH e) pins σ H s) : Inv X pins σ H s := ⟨ok, I.os, I.bare, I.base, I.loc, I.cell, I.free, I.freeC, I.pin, I.hok, I.len⟩
/-- an untracked new thing is tracked -/
theorem Inv.track {a : Addr} {o : HO} (I : Inv X pins σ H s) (hn : H a = none) (h0 : ∀ ob, X.s₀.heap.get? a ≠ some ob) (hl : a ≠ X.env.locals) (hc : ∀ x c, X.env.cells.lookup x = some c → c ≠ a) (hp : ∀ p ∈ X.pn ++ pins, p.1 ≠ a)
    (new : ObjOk X.prog X.w (upd H a o) s.heap a o) : Inv X pins σ (upd H a o) s := by
  have up : ∀ b u, H b = some u → upd H a o b = some u := fun b u q => by rw [upd_ne (ne_of_none q hn)]; exact q
  refine ⟨I.ok, I.os, I.bare, ⟨I.base.keep, I.base.slot, fun b ob e n hx => ?_, I.base.there, fun b xs e => up b _ (I.base.tups b xs e), fun b u v e => up b _ (I.base.frzs b u v e), fun b ps e => ?_⟩, I.loc, I.cell, ?_, fun x c e => ?_, fun p hp' => ?_, fun b u e => ?_, I.len⟩
  · rw [upd_ne (fun z => h0 ob (by rw [← z]; exact e))]; exact I.base.free b ob e n hx
  · obtain ⟨more, q⟩ := I.base.tbls b ps e
    exact ⟨more, up b _ q⟩
  · rw [upd_ne (Ne.symm hl)]; exact I.free
  · rw [upd_ne (hc x c e)]; exact I.freeC x c e
  · obtain ⟨q1, q2, q3⟩ := I.pin p hp'
    exact ⟨q1, by rw [upd_ne (hp p hp')]; exact q2, q3⟩
  · by_cases z : b = a
    · subst z
      rw [upd_same] at e
      cases e
      exact new
    · rw [upd_ne z] at e
      exact (I.hok b u e).stay (fun _ _ _ q => q) (fun c q => up c _ q) fun c xs q => up c _ q
/-- the frame's names are forgotten -/
theorem Inv.forget {h' : Heap} {m : Str → Option Value} {t : Nat} (I : Inv X pins σ H s) (hm : h'.Ns X.env.locals m) (sb : Heap.SameBut X.env.locals s.heap h') : Inv X pins (List.replicate X.N.length none) H { s with heap := h', toks := t } := by
  refine ⟨I.ok, I.os, I.bare, I.base.but I.ok.above sb, ⟨m, hm, fun i x v e1 e2 e3 => ?_⟩, fun x c e => ?_, I.free, I.freeC, fun p hp => ?_, I.hok.but I.free sb, List.length_replicate⟩
  · rw [List.getElem?_replicate] at e2
    split at e2 <;> cases e2
  · obtain ⟨v, z⟩ := I.cell x c e
    exact ⟨v, z.sameBut sb (I.cne x c e)⟩
  · obtain ⟨q1, q2, q3, q4⟩ := I.pin p hp
    exact ⟨(sb.2 p.1 q3).trans q1, q2, q3, q4⟩
end
end L2
set_option Elab.async false
set_option linter.all false
set_option maxRecDepth 100000
namespace L2
open PySem PySem.Spec PyProof.Rows
section
variable {P : Program} {w : World} {K : PySem.W.Frag} {mg : Str → Option Value} {base : Heap} {N : List Str} {qual : Str} {scope : Scope} {f : Addr} {cd : Value} {A : Around} {outer : List Env} {s : Shared} {H : Hp} {E : XK}
/-- the statement: try: body; except Base as n: return which(n) -/
abbrev tryStmt (body : List Stmt) (xB xW n : Str) (np wp wp2 cpos rpos hpos pos : Pos) : Stmt :=
  .Try body [.ExceptHandler (some (.Name xB np)) (some n) [.Return (some (.Call (.Name xW wp) [.Name n wp2] [] cpos)) rpos] hpos] [] [] pos
theorem try_ok {body : List Stmt} {tb : XK → TS} {xB xW n pn : Str} {np wp wp2 cpos rpos hpos pos : Pos} {j kW : Nat} {Dc fW : Addr} {fdW : FuncData} {spW : Sp} {bmB : List Value} {newId : String}
    (hb : ∀ (E' : XK) (xe' : Value → Shared → Prop), Passes (CXr P w) ((cxOf (CXr P w) P w K mg base N qual scope f cd A outer s H E).wish xe') E' → PSs ((cxOf (CXr P w) P w K mg base N qual scope f cd A outer s H E).wish xe') body (tb E'))
    (hB : mg xB = some (.ref Dc)) (gB : Gl (cxOf (CXr P w) P w K mg base N qual scope f cd A outer s H E) xB) (qB : PySem.W.excIn K Dc bmB newId = true) (mB : PySem.W.mroIn K Dc (.type "BaseException") = some true)
    (FW : FnOkH P w K mg base kW fW fdW [pn] spW) (hrW : RoomH kW (A.deeper (envOfC qual scope s.heap.objs.size f cd))) (gW : Gl (cxOf (CXr P w) P w K mg base N qual scope f cd A outer s H E) xW) (mW : mg xW = some (.ref fW)) (kpW : PySem.W.keepIn K (.ref fW) = true) (bW : Binds K fdW [pn] [])
    (hN : N.Nodup) (hj : N[j]? = some n) (hn : scope.names.lookup n = some .local) (dB : (xB == ("__debug__" : Str)) = false) (dW : (xW == ("__debug__" : Str)) = false) (dn : (n == ("__debug__" : Str)) = false) (dn2 : (n == ("__classdict__" : Str)) = false)
    {s1 : Shared} {σ : St} {H1 : Hp} {D : Ends} (I : Inv (cxOf (CXr P w) P w K mg base N qual scope f cd A outer s H E) [] σ H1 s1)
    (hT : ∃ E' : XK, tb E' D σ H1 ∧ ∀ C H', E' (.ref C) none H' → (∃ bmC idC, PySem.W.excIn K C bmC idC = true ∧ PySem.W.mroIn K C (.ref Dc) = some true) ∧ ∀ p, H' p = none → spW [.ref p] (upd H' p (excO p C)) D.rt E0) :
    wpAny (model P w) (A.deeper (envOfC qual scope s.heap.objs.size f cd)) (exec (tryStmt body xB xW n np wp wp2 cpos rpos hpos pos) (envOfC qual scope s.heap.objs.size f cd)) (SP (cxOf (CXr P w) P w K mg base N qual scope f cd A outer s H E) [] D)
      (cxOf (CXr P w) P w K mg base N qual scope f cd A outer s H E).xe s1 := by
  obtain ⟨E', hbody, hcatch⟩ := hT
  generalize hX : cxOf (CXr P w) P w K mg base N qual scope f cd A outer s H E = X at *
  have eA : X.A = A.deeper (envOfC qual scope s.heap.objs.size f cd) := by rw [← hX]; rfl
  have eE : X.env = envOfC qual scope s.heap.objs.size f cd := by rw [← hX]; rfl
  have eK : X.K = K := by rw [← hX]; rfl
  have eM : X.mg = mg := by rw [← hX]; rfl
  have eN : X.N = N := by rw [← hX]; rfl
  have eP : X.prog = P := by rw [← hX]; rfl
  have ew : X.w = w := by rw [← hX]; rfl
  have eB : X.base = base := by rw [← hX]; rfl
  have eS : X.s₀ = s := by rw [← hX]; rfl
  have epn : X.pn = [] := by rw [← hX]; rfl
  have eX : X.ex = [] := by rw [← hX]; rfl
  have est : X.stack = X.env :: X.outer := by rw [← hX]; rfl
  have eF : X.env.frame = some X.env.locals := by rw [← hX]; rfl
  clear hX
  subst eK eM eN eP ew eB
  rw [← eA, ← eE]
  rw [← eA] at hrW
  refine wpAny_Try_except ?_
  have pass : Passes (CXr X.prog X.w) (X.wish fun e s' => wpAny (model X.prog X.w) X.A (noteFrame e X.env) (fun _ s₂ => wpAny (model X.prog X.w) X.A (setFlight e none) (fun _ s₃ =>
      wpAny (model X.prog X.w) X.A (handleBy e X.env [.ExceptHandler (some (.Name xB np)) (some n) [.Return (some (.Call (.Name xW wp) [.Name n wp2] [] cpos)) rpos] hpos]) (SP X [] D) X.xe s₃) X.xe s₂) X.xe s') E' := by
    intro pins σ1 H2 s2 e s' I2 hcx
    obtain ⟨a, C, t, H', B, rfl, F, hE⟩ := hcx
    have I2' : Inv X pins σ1 H2 s2 := I2.unwish
    obtain ⟨⟨bmC, idC, qC, mC⟩, hsp⟩ := hcatch C H' hE
    have at_ : ∀ h2 : Heap, B.StaysIn h2 → s'.heap.UpToSlots h2 → Inv X [] σ1 H' { s' with heap := h2 } := fun h2 b2 ups => by
      have frm : ∀ b ∈ frs X.stack, ∀ o, s'.heap.get? b = some o → ∃ sl, h2.get? b = some { o with slots := sl } := fun b hb' o q => by
        obtain ⟨_, o', r, nf⟩ := F.fly.2.2.1.mem hb'
        rw [q] at r
        cases r
        exact ups b o q nf
      obtain ⟨un2, hok2⟩ := fly_step F.un F.hok F.fly.1 b2 F.old F.trk frm
      have J : Inv X pins σ1 H' { s' with heap := h2 } := I2'.call' (s' := { s' with heap := h2 }) F.os un2 hok2 F.bare fun b hb' => nomatch hb'
      exact J.pins_of (pins' := []) fun p hp => nomatch hp
    have hfr : X.A.frames = some (X.env :: X.outer) := by rw [← est]; exact I2'.ok.frames
    have fly0 : Heap.FlyingW B (X.env :: X.outer) a (.ref C) (.ref t) s'.heap := by rw [← est]; exact F.fly
    refine wpAny_looks_onW (base := B) hfr eF fly0 fun h4 held4 sm4 => ?_
    refine wpAny_landsW held4 fun h5 fly5 sm5 => ?_
    have sm45 := sm4.trans sm5
    have I5 := at_ h5 fly5.1 sm45
    obtain ⟨ob, hob, hobc⟩ := fly5.there
    refine wpAny_handleBy_cons (codeAny_handlers_test (ld_glob (X := X.inH (.ref a)) (I5.inH _) gB hB ?_ dB)) (by intro q; cases q)
    obtain ⟨b1, N1, nm1, q1, bs1, hd1, sn1, sub1, ab1, col1, dd1, a0, a1, a2, a3, a5, mN1, hC, _, _, _⟩ := (own_at (mg := fun _ => some (.ref C)) (x := "") I5.kIn rfl qC).obj
    obtain ⟨b2, N2, nm2, q2, bs2, hd2, sn2, sub2, ab2, col2, dd2, c0, c1, c2, c3, c5, mN2, hD, _, _, _⟩ := (own_at (mg := fun _ => some (.ref Dc)) (x := "") I5.kIn rfl qB).obj
    refine excMatches_above hC hD hob hobc (own_mro I5.kIn hD mB) (own_mro I5.kIn hC mC) ?_
    refine codeAny_handlers_suite_as ?_
    refine lands_againW fly5 fun h6 fly6 sm6 => ?_
    have I6 := at_ h6 fly6.1 (sm45.trans sm6)
    obtain ⟨oe, ve, hoe, hoc, hod, _⟩ := fly6.first
    have nframe : a ∉ frs X.stack := fun z => by
      rw [est] at z
      obtain ⟨_, o', r, nf⟩ := fly6.2.2.1.mem z
      rw [hoe] at r
      cases r
      exact nf ve hod
    have nB : B.get? a = none := fly6.2.1
    have n2 : ∀ o, s2.heap.get? a ≠ some o := fun o z => by
      obtain ⟨ob', r⟩ := F.old a o z nframe
      rw [nB] at r
      cases r
    have n0 : ∀ o, X.s₀.heap.get? a ≠ some o := fun o z => by
      obtain ⟨o', r⟩ := I2'.base.there a o z (by rw [eX]; simp)
      exact n2 o' r
    have nH : H' a = none := by
      cases q : H' a with
      | none => rfl
      | some o => obtain ⟨ob', r⟩ := F.trk a o q; rw [nB] at r; cases r
    have I6t : Inv X [] σ1 (upd H' a (excO a C)) { s' with heap := h6 } := by
      refine I6.track nH n0 (fun q => nframe ?_) (fun x c hc q => ?_) (fun p hp => ?_) (excO_ok ⟨oe, hoe, hoc⟩)
      · rw [est]; exact List.mem_filterMap.mpr ⟨X.env, List.mem_cons_self, by rw [q]; exact eF⟩
      · obtain ⟨v, o, ho, hd⟩ := I6.cell x c hc
        have ho' : h6.get? c = some o := ho
        rw [q, hoe] at ho'
        cases ho'
        rw [hod] at hd
        cases hd
      · rw [epn] at hp
        exact absurd (show p ∈ ([] : List (Addr × Obj)) from hp) (by simp)
    have hn' : X.env.scope.names.lookup n = some .local := by rw [eE]; exact hn
    refine store_ok I6t hN hj (Or.inl hn') (v := .ref a) rfl (fun s7 I7 => ?_) (Or.inr hn')
    have I7h := I7.inH (.ref a)
    have suite := pss_one (X := X.inH (.ref a)) (ps_ret (pos := rpos) (pe_callH (p := wp) (pos := cpos) FW (hrW.mark _) gW mW kpW bW (pa_cons (pe_var (X := X.inH (.ref a)) (pos := wp2) hj (Or.inl hn') dn dn2) pa_nil) dW))
    have hjl : j < σ1.length := by rw [I6.len]; exact (List.getElem?_eq_some_iff.mp hj).1
    refine wpAny_mono (suite [] s7 _ _ { nx := fun _ _ => False, rt := D.rt } I7h ⟨.ref a, by rw [List.getElem?_set_self hjl], hsp a nH⟩) (fun fl s8 q8 => ?_) fun _ _ z => z.elim
    cases fl with
    | next => obtain ⟨_, _, _, z⟩ := q8; exact False.elim z
    | brk => obtain ⟨_, _, _, z⟩ := q8; exact False.elim z
    | cont => obtain ⟨_, _, _, z⟩ := q8; exact False.elim z
    | ret u =>
      obtain ⟨v, σ8, H8, I8, rv, qr⟩ := q8
      have I8' : Inv X [] σ8 H8 s8 := I8.outH I6.ok
      obtain ⟨m8, hm8, _⟩ := id I8'.loc
      have hcls : (X.env.scope.kind == .class || (X.env.scope.kind == .module && X.env.locals != X.env.globals)) = false := by rw [I8'.ok.kind]; rfl
      refine wpAny_nameGoes hn' hm8 hcls fun h9 m9 hm9 sb9 => ?_
      exact ⟨v, _, H8, I8'.forget hm9 sb9, rv, qr⟩
  refine wpAny_mono (hb E' _ pass [] s1 σ H1 D (I.wish _) hbody) (fun fl s2 q => ?_) fun e s2 q => q
  have q' := q.unwish
  cases fl with
  | next => exact wpAny_execs_nil q'
  | ret v => exact q'
  | brk => exact q'
  | cont => exact q'
end
end L2
set_option Elab.async false
set_option linter.all false
set_option maxRecDepth 100000
/-! A call of what an expression tells; a def whose body is walked from no pins on. -/
namespace L2
open PySem PySem.Spec PyProof.Rows
section
variable {X : Cx} {CX : CXT}
/-- a suite walked from no pins on -/
def PSs0 (X : Cx) (st : List Stmt) (t : TS) : Prop :=
  ∀ (s : Shared) (σ : St) (H : Hp) (D : Ends), Inv X [] σ H s → t D σ H → wpAny (model X.prog X.w) X.A (execs st X.env) (SP X [] D) X.xe s
theorem pss0_one {st : Stmt} {t : TS} (h1 : ∀ (s : Shared) (σ : St) (H : Hp) (D : Ends), Inv X [] σ H s → t D σ H → wpAny (model X.prog X.w) X.A (exec st X.env) (SP X [] D) X.xe s) : PSs0 X [st] t := by
  intro s σ H D I h
  refine wpAny_execs_cons (thn (h1 s σ H D I h) fun f s1 q => ?_)
  cases f with
  | next => exact wpAny_execs_nil q
  | ret v => exact q
  | brk => exact q
  | cont => exact q
end
section
variable {P : Program} {w : World} {K : PySem.W.Frag} {mg : Str → Option Value} {base : Heap}
theorem Fun.okT {x qual : Str} {st : Stmt} {f : Addr} {fd : FuncData} {N ps : List Str} {k : Nat} {sp : Sp} (F : Fun K x qual st f fd) (S : FnScope N ps (defScope st)) (len : ∀ vs H Q E, sp vs H Q E → vs.length = ps.length)
    (hbody : ∀ (cdv : Value) (A : Around) (outer : List Env) (s : Shared) (H : Hp) (vs : List V) (Q : VK) (E : XK), Room k (A.deeper (envOfC qual (defScope st) s.heap.objs.size f cdv)) → sp vs H Q E →
      ∃ t, PSs0 (cxOf (CXr P w) P w K mg base N qual (defScope st) f cdv A outer s H E) (defBody st) t ∧ t { nx := fun _ H' => Q .non H', rt := Q } (start N vs) H) : FnOk P w K mg base (CXr P w) (k + 1) f fd ps sp := by
  obtain ⟨oc, od, kV, doc, pm, an, cdv, ct, osl, rfl, lk, hcd⟩ := F.ex
  refine ⟨len, fun A outer s H args us vs Q E hr e0 hb r hsp => ?_⟩
  have hl := len _ _ _ _ hsp
  have KX : K.In s.heap := e0.mod.kin.keeps fun b o e => (e0.bs b o e).1
  have lim : s.heap.NoLimit := e0.mod.nolimit.keeps fun b o e => (e0.bs b o e).1
  have hkind : ∀ y ∈ ps.zip us, (defScope st).names.lookup y.1 = some .local ∨ ((defScope st).names.lookup y.1 = some .cell ∧ ((cellsFrom (s.heap.objs.size + 1) (defScope st).names []).lookup y.1).isSome = true) := fun ⟨n, v⟩ hy => by
    rcases S.par n (List.of_mem_zip hy).1 with q | q
    · exact .inl q
    · exact .inr ⟨q, PySem.W.cellsFrom_some _ _ _ (.inl q)⟩
  refine codeAny_call_function hr.depth (KX _ _ lk) rfl S.co S.gen rfl (PySem.W.codeRec_of KX hcd) (hb _ _ _ _ ?_)
  refine wpAny_newFunctionEnv_cells S.kind hkind fun env he s1 x => ?_
  subst he
  refine ⟨lim.keeps x.toInCall.keep, codeAny_func ?_⟩
  obtain ⟨t, ht, hq⟩ := hbody cdv A outer s H vs Q E (hr.deeper _) hsp
  have I : Inv (cxOf (CXr P w) P w K mg base N qual (defScope st) f cdv A outer s H E) [] (start N vs) H s1 := inv_start S hr.hd e0 hl r x
  refine wpAny_mono (ht s1 (start N vs) H _ I hq) (fun fl s' hs => ?_) fun e s' hs => hs
  have fin : ∀ {σ' : St} {H' : Hp} {v : V} {u : Value}, Inv (cxOf (CXr P w) P w K mg base N qual (defScope st) f cdv A outer s H E) [] σ' H' s' → RelV v u → Q v H' → CE outer P w H s Q u s' :=
    fun {σ' H' v u} J rv q => ⟨v, H', J.os, J.bare, J.base, J.hok, rv, q⟩
  cases fl with
  | ret u => obtain ⟨v, σ', H', J, rv, q⟩ := hs; exact fin J rv q
  | next => obtain ⟨σ', H', J, q⟩ := hs; exact fin (v := V.non) (u := Value.none) J rfl q
  | brk => obtain ⟨_, _, _, q⟩ := hs; exact False.elim q
  | cont => obtain ⟨_, _, _, q⟩ := hs; exact False.elim q
end
end L2
set_option Elab.async false
set_option linter.all false
set_option maxRecDepth 100000
namespace Be
open PySem L2 BE
theorem encW_inj {W W' : Wd} (e : encW W = encW W') : W = W' := by
  obtain ⟨b, bs⟩ := W
  obtain ⟨b', bs'⟩ := W'
  unfold encW at e
  injection e with e
  injection e with e1 e2
  injection e1 with e1
  injection e2 with e2 _
  injection e2 with e2
  have hm : ∀ (x y : List (Int × Int)), x.map encB = y.map encB → x = y := by
    intro x
    induction x with
    | nil => intro y h; cases y with | nil => rfl | cons a r => cases h
    | cons a r ih =>
      intro y h
      cases y with
      | nil => cases h
      | cons c t =>
        rw [List.map_cons, List.map_cons] at h
        injection h with h1 h2
        unfold encB at h1
        injection h1 with h1
        injection h1 with h3 h4
        injection h3 with h3
        injection h4 with h4 _
        injection h4 with h4
        rw [ih t h2, show a = c from Prod.ext h3 h4]
  exact congr (congrArg Wd.mk e1) (hm _ _ e2)
def oT (o : List Int) : Str := Txt.join " " (o.map nT)
theorem len_join (c : Nat) : ∀ ws : List Str, (Txt.join ⟨#[c]⟩ ws).length ≤ (ws.map (·.length)).sum + ws.length := by
  intro ws
  have ej : Txt.join ⟨#[c]⟩ ws = Str.join ⟨#[c]⟩ ws := StrLaws.glued_eq_join _ _
  rw [ej]
  clear ej
  induction ws with
  | nil => exact Nat.zero_le _
  | cons w r ih =>
    cases r with
    | nil => show w.length ≤ _; simp
    | cons v r =>
      show (w ++ ⟨#[c]⟩ ++ Str.join ⟨#[c]⟩ (v :: r)).length ≤ _
      rw [cat_len, cat_len]
      have : (⟨#[c]⟩ : Str).length = 1 := rfl
      simp only [List.map_cons, List.sum_cons, List.length_cons] at ih ⊢
      omega
theorem sum_len {B : Nat} : ∀ ws : List Str, (∀ w ∈ ws, w.length ≤ B) → (ws.map (·.length)).sum ≤ B * ws.length
  | [], _ => Nat.zero_le _
  | w :: r, h => by
    have := sum_len r fun x hx => h x (List.mem_cons_of_mem _ hx)
    have := h w List.mem_cons_self
    simp only [List.map_cons, List.sum_cons, List.length_cons]
    rw [Nat.mul_add]
    omega
def Sml (o : List Int) : Prop := ∀ x ∈ o, 0 ≤ x ∧ x < 100
theorem oT_split {o : List Int} (h : Sml o) (hne : o ≠ []) : Txt.split (oT o) " " = o.map nT := by
  unfold oT
  rw [sp_cps]
  refine split_join (fun z => hne (List.map_eq_nil_iff.mp z)) fun w hw => ?_
  obtain ⟨x, hx, rfl⟩ := List.mem_map.mp hw
  exact (nT_ok (h x hx).1 (h x hx).2).s
theorem oT_len {o : List Int} (h : Sml o) (hl : o.length ≤ 10) : (oT o).length ≤ 60 := by
  unfold oT
  rw [sp_cps]
  have a := len_join 32 (o.map nT)
  have b := sum_len (B := 2) (o.map nT) fun w hw => by
    obtain ⟨x, hx, rfl⟩ := List.mem_map.mp hw
    exact (nT_ok (h x hx).1 (h x hx).2).l
  rw [List.length_map] at a b
  omega
theorem oT_ne {o : List Int} (h : Sml o) (hne : o ≠ []) : oT o ≠ "" := fun z => by
  have e := oT_split h hne
  rw [z] at e
  have e2 : Txt.split ("" : Str) (" " : Str) = [("" : Str)] := by decide +kernel
  rw [e2] at e
  cases o with
  | nil => exact hne rfl
  | cons x r =>
    have e3 := (List.cons.inj e).1
    have := (nT_ok (h x List.mem_cons_self).1 (h x List.mem_cons_self).2).ne
    rw [← e3] at this
    exact this (by decide +kernel)
theorem VO.sml {W : Wd} {o : List Int} (hok : W.Ok) (vo : VO W o) : Sml o := fun x hx => by
  have := vo.lt hx
  have := hok.l10
  omega
theorem inV_words {w0 : Str} {n : Nat} : inV (.str w0) (((upto n).map nT).map V.str) = (wkN n w0).isSome := by
  unfold inV
  cases h : wkN n w0 with
  | none =>
    show _ = false
    rw [List.any_eq_false]
    intro y hy
    obtain ⟨z, hz, rfl⟩ := List.mem_map.mp hy
    obtain ⟨k, hk, rfl⟩ := List.mem_map.mp hz
    have b := mem_upto.mp hk
    have := wkN_none h k b.1 (by omega)
    show ¬ ((nT k == w0) = true)
    exact fun e => this (beq_iff_eq.mp e).symm
  | some k =>
    show _ = true
    have b := wkN_some h
    rw [List.any_eq_true]
    refine ⟨.str (nT k), List.mem_map.mpr ⟨nT k, List.mem_map.mpr ⟨k, mem_upto.mpr ⟨b.1, b.2.1⟩, rfl⟩, rfl⟩, ?_⟩
    show (nT k == w0) = true
    rw [b.2.2]; exact beq_self_eq_true _
theorem ordT_of {W : Wd} {z : Str} {o : List Int} (h : rdT W.bs.length z = some o) (v : VO W o) : ordT W z = some o := by
  unfold ordT; rw [h]; exact if_pos (ord_enc v)
theorem ordT_no {W : Wd} {z : Str} (h : ∀ o, rdT W.bs.length z = some o → ¬ VO W o) : ordT W z = none := by
  unfold ordT
  cases e : rdT W.bs.length z with
  | none => rfl
  | some o =>
    refine if_neg fun c => ?_
    obtain ⟨o', e', v⟩ := ord_of c
    have : o = o' := by
      have e2 : o.map PyData.int = o'.map PyData.int := PyData.tuple.inj e'
      have inj : ∀ (a b : List Int), a.map PyData.int = b.map PyData.int → a = b := by
        intro a
        induction a with
        | nil => intro b h; cases b with | nil => rfl | cons => cases h
        | cons x r ih => intro b h; cases b with
          | nil => cases h
          | cons y t =>
            obtain ⟨h1, h2⟩ := List.cons.inj h
            injection h1 with h1
            rw [h1, ih t h2]
      exact inj o o' e2
    subst this
    exact h o e v
theorem ordT_nil (W : Wd) : ordT W "" = some [] := ordT_of (by unfold rdT; exact if_pos rfl) (VO.nil W)
section
variable {P : Program} {w : World} {K : PySem.W.Frag} {mg : Str → Option Value} {base : Heap}
def sp_ot : Sp := fun vs H Q _ => ∃ (v t : V) (W : Wd) (o : List Int), vs = [v, t] ∧ Rep H v (encW W) ∧ W.Ok ∧ Rep H t (encO o) ∧ VO W o ∧ ∀ H', Same H H' → Q (.str (oT o)) H'
set_option maxHeartbeats 1000000 in
theorem ok_order_text (T : Txt K mg) : FnOk P w K mg base (CXr P w) 7 T.order_text.a T.order_text.d ["world", "order"] sp_ot := by
  refine T.order_text.F.okN sc_order_text (fun vs H Q E h => ?_) (fun cdv A outer s H vs Q E hr h => ?_)
  · obtain ⟨v, t, W, o, rfl, _⟩ := h; rfl
  obtain ⟨v, t, W, o, rfl, hW, hok, ho, vo, q⟩ := h
  refine ⟨_, (pss_cons (ps_expr (pe_call (ok_check_order T) (hr.mono (by decide)) rfl T.check_order.m T.check_order.F.kp T.check_order.b .nil passN (pa_cons (pv 0) (pa_cons (pv 1) pa_nil)))) (pss_one (ps_ret (pe_bm PySem.F.plainAttrs_str PySem.F.slot_str_join PySem.F.type_str_join mt_join pe_str (pa_cons (pe_comp (NB := ["work"]) (js := [none]) rfl (blkOk_of rfl (by decide +kernel) rfl (by decide +kernel) (by decide +kernel) (by with_unfolding_all rfl) (by with_unfolding_all rfl) (by with_unfolding_all rfl) (by with_unfolding_all rfl)) (pi_tup (pv 1)) (fun _ _ _ _ => (pg_name (i := 0) (show (["work"] : List Str).Nodup by decide +kernel) rfl (by first | exact Or.inl rfl | exact Or.inr rfl))) (fun _ _ _ _ => pf_nil) (fun _ _ _ _ => (pe_callTy call_str_int rfl T.n_str bt_str (pa_cons (pv 0) pa_nil)))) pa_nil))))), ?_⟩
  have l10 := hok.l10
  have vl := vo.len
  have sm := vo.sml hok
  obtain ⟨po, rfl, hpo⟩ := seqO (K := K) ho
  refine ⟨_, rfl, _, rfl, v, .ref po, encW W, encO o, rfl, hW, ho, fun ds e => ?_, (fun z => by rw [isW_enc hok] at z; cases z), fun W' hok' e => ?_⟩
  · obtain rfl := PyData.tuple.inj e
    rw [List.length_map]; omega
  obtain rfl := encW_inj e
  refine ⟨(fun z => by rw [ord_enc vo] at z; cases z), fun _ H1 g1 => ?_⟩
  have hpo1 := g1 _ _ hpo
  refine ⟨rfl, _, rfl, po, rfl, ⟨_, SqT.of hpo1⟩, fun D hD => ?_⟩
  refine comp_tupR (K := K) (a := po) (xs := o.map V.int) (fun i ys H2 => Same H1 H2 ∧ H2 D = some (.lst ys) ∧ ys = ((o.take i).map nT).map V.str) ⟨same_new hD _, upd_same, rfl⟩ (fun i ys H2 _ hP => SqT.of (hP.1 _ _ hpo1)) (fun i ys y H2 hy hP => ?_) (fun ys H2 hP => ?_)
  · obtain ⟨g, hD2, rfl⟩ := hP
    have hi : i < o.length := by have := (List.getElem?_eq_some_iff.mp hy).1; rw [List.length_map] at this; exact this
    rw [List.getElem?_map, List.getElem?_eq_getElem hi] at hy
    obtain rfl := Option.some.inj hy
    have bd := sm _ (List.getElem_mem hi)
    have et : o.take (i + 1) = o.take i ++ [o[i]] := by rw [List.take_add_one, List.getElem?_eq_getElem hi]; rfl
    rw [et]
    generalize o[i] = x at *
    refine ⟨agree0, iteT ⟨_, rfl, _, rfl, log_small bd.1 bd.2, hD2, ?_, g.write hD _, upd_same, ?_⟩⟩
    · rw [List.length_map, List.length_map, List.length_take]
      exact Nat.lt_of_lt_of_le (show _ < 100 by omega) (by decide)
    · rw [List.map_append, List.map_append]; rfl
  obtain ⟨g, hD2, rfl⟩ := hP
  rw [List.length_map, List.take_length] at hD2
  refine ⟨" ", D, o.map nT, rfl, rfl, hD2, ?_, q _ (g1.trans g)⟩
  have b := sum_len (B := 2) (o.map nT) fun w hw => by
    obtain ⟨x, hx, rfl⟩ := List.mem_map.mp hw
    exact (nT_ok (sm x hx).1 (sm x hx).2).l
  have l1 : (" " : Str).length = 1 := by rw [sp_cps]; rfl
  rw [l1]
  rw [List.length_map] at b ⊢
  omega
def sp_due : Sp := fun vs H Q _ => ∃ (v : V) (W : Wd) (z : Str), vs = [v, .str z] ∧ Rep H v (encW W) ∧ W.Ok ∧ z.length ≤ 900 ∧ (∀ o, ordT W z = some o → ∀ (a : Addr) (H' : Hp), Same H H' → H' a = some (.tup (o.map V.int)) → Q (.ref a) H') ∧ (ordT W z = none → ∀ H', Same H H' → Q .non H')
set_option maxHeartbeats 2000000 in
theorem ok_law_due (T : Txt K mg) : FnOk P w K mg base (CXr P w) 1 T.law_due.a T.law_due.d ["_law_world_here", "_law_text"] sp_due := by
  refine T.law_due.F.okN sc_law_due (fun vs H Q E h => ?_) (fun cdv A outer s H vs Q E hr h => ?_)
  · obtain ⟨v, W, z, rfl, _⟩ := h; rfl
  obtain ⟨v, W, z, rfl, hW, hok, hz, q, qN⟩ := h
  refine ⟨_, (pss_cons (ps_if (pt_cmpR op_eq (pv 1) pe_str (nomark _)) (pss_one (ps_ret (pe_tup pa_nil))) pss_nil) (pss_cons (ps_set (i := 2) sc_law_due.nd rfl (by first | exact Or.inl rfl | exact Or.inr rfl) (pe_tup pa_nil)) (pss_cons (ps_for PassesOwn.never rfl (pi_enumL rfl T.n_enumerate (pa_cons (pe_bm PySem.F.plainAttrs_str PySem.F.slot_str_split PySem.F.type_str_split mt_split (pv 1) (pa_cons pe_str pa_nil)) pa_nil)) (pg_tup rfl (pgs_cons (pg_name (i := 3) sc_law_due.nd rfl (by first | exact Or.inl rfl | exact Or.inr rfl)) (pgs_cons (pg_name (i := 4) sc_law_due.nd rfl (by first | exact Or.inl rfl | exact Or.inr rfl)) pgs_nil))) (pss_cons (ps_if (PW.pt (pw_or (pt_cmpR op_notIn_seq (pv 4) (pe_comp (NB := ["_law_work"]) (js := [none]) rfl (blkOk_of rfl (by decide +kernel) rfl (by decide +kernel) (by decide +kernel) (by with_unfolding_all rfl) (by with_unfolding_all rfl) (by with_unfolding_all rfl) (by with_unfolding_all rfl)) (pi_range1 rfl T.n_range (pa_cons (pe_callB call_len_seq rfl T.n_len bt_len (pa_cons (pe_ix ix_tup (pv 0) pe_int (fun _ _ => rfl)) pa_nil)) pa_nil)) (fun _ _ _ _ => (pg_name (i := 0) (show (["_law_work"] : List Str).Nodup by decide +kernel) rfl (by first | exact Or.inl rfl | exact Or.inr rfl))) (fun _ _ _ _ => pf_nil) (fun _ _ _ _ => (pe_callTy call_str_int rfl T.n_str bt_str (pa_cons (pv 0) pa_nil)))) (by with_unfolding_all rfl)) (pw_or1 (pt_cmpR op_ge (pe_callTy call_intS rfl T.n_int bt_int (pa_cons (pv 4) pa_nil)) (pe_op op_add (pv 3) (pe_ix ix_tup (pv 0) pe_int (fun _ _ => rfl))) (nomark _))))) (pss_one (ps_ret pe_non)) pss_nil) (pss_one (ps_set (i := 2) sc_law_due.nd rfl (by first | exact Or.inl rfl | exact Or.inr rfl) (pe_op op_catA (pv 2) (pe_tup (pa_cons (pe_callTy call_intS rfl T.n_int bt_int (pa_cons (pv 4) pa_nil)) pa_nil))))))) (pss_one (ps_ret (pe_ifExp (pt_cmpR op_eq (pe_lenset rfl rfl T.n_len rfl T.n_set (pv 2)) (pe_callB call_len_seq rfl T.n_len bt_len (pa_cons (pv 2) pa_nil)) (nomark _)) (pv 2) pe_non)))))), ?_⟩
  have sl : 100000 ≤ sizeLine := by decide
  have l1 := hok.l1
  have l10 := hok.l10
  have b1 := hok.b1
  refine ⟨_, rfl, rfl, _, rfl, ?_⟩
  by_cases c : z = ""
  · refine if_t (decide_eq_true (by rw [c])) ⟨by show 0 ≤ sizeLine; omega, fun p hp => ?_⟩
    exact q [] (by rw [c]; exact ordT_nil W) p _ (same_new hp _) upd_same
  refine if_f (decide_eq_false fun e => c (V.str.inj e)) ?_
  have rt : rdT W.bs.length z = rdW W.bs.length (Txt.split z " ") := if_neg c
  refine ⟨by show 0 ≤ sizeLine; omega, fun p0 hp0 => ?_⟩
  have k0 := same_new hp0 (.tup [])
  have e0 : upd H p0 (.tup []) p0 = some (.tup []) := upd_same
  generalize upd H p0 (.tup []) = H0 at *
  have sp1 : (" " : Str).length = 1 := by rw [sp_cps]; rfl
  have wl := split_len (z := z) (y := " ")
  refine ⟨_, rfl, rfl, z, " ", rfl, rfl, by rw [sp1]; rfl, by omega, fun l hl _ => ?_⟩
  generalize Txt.split z " " = ws at *
  have k1 := same_new hl (.lst (ws.map V.str))
  have e1 : upd H0 l (.lst (ws.map V.str)) l = some (.lst (ws.map V.str)) := upd_same
  generalize upd H0 l (.lst (ws.map V.str)) = H1 at *
  have k01 := k0.trans k1
  obtain ⟨ca, cp, cvs, AW⟩ := atW (hW.mono k01)
  obtain rfl := AW.v
  refine ⟨l, _, rfl, SqL.of e1, ?_⟩
  refine for_enumL (K := K) (a := l) (xs := ws.map V.str) (fun i σ H2 => ∃ (p : Addr) (o : List Int) (y3 y4 : Option V), σ = [some (.ref ca), some (.str z), some (.ref p), y3, y4] ∧ Same H1 H2 ∧ H2 p = some (.tup (o.map V.int)) ∧ rdW W.bs.length (ws.take i) = some o ∧ ∀ j x, o[j]? = some x → 0 ≤ x ∧ x < (began W j : Int)) ⟨p0, [], none, none, rfl, Same.refl _, k1 _ _ e0, rfl, fun j x h => by simp at h⟩ (fun i σ H2 _ hP => ?_) (fun i y q3 σ H2 hy hq3 hP => ?_) (fun σ H2 hP => ?_)
  · obtain ⟨p, o, y3, y4, rfl, g, _⟩ := hP
    exact SqL.of (g _ _ e1)
  · obtain ⟨p, o, y3, y4, rfl, g, hp, ho, hat⟩ := hP
    rw [List.getElem?_map] at hy
    cases hw : ws[i]? with
    | none => rw [hw] at hy; cases hy
    | some w0 =>
    rw [hw] at hy
    obtain rfl := Option.some.inj hy
    have hi := (List.getElem?_eq_some_iff.mp hw).1
    have ol := rdW_len ho
    rw [List.length_take] at ol
    have ol : o.length = i := by omega
    have g2 := same_new hq3 (.tup [.int (i : Int), .str w0])
    have e3 : upd H2 q3 (.tup [.int (i : Int), .str w0]) q3 = some (.tup [.int (i : Int), .str w0]) := upd_same
    generalize upd H2 q3 (.tup [.int (i : Int), .str w0]) = H3 at *
    have g13 := g.trans g2
    have hp3 := g2 _ _ hp
    have ha3 := g13 _ _ AW.a
    have hc3 := g13 _ _ AW.p
    refine ⟨q3, _, rfl, SqT.of e3, rfl, _, _, rfl, _, _, rfl, rfl, ?_⟩
    refine ⟨_, rfl, _, rfl, ca, _, _, _, rfl, rfl, SqT.of ha3, rfl, cp, _, rfl, .inr (SqT.of hc3), _, rfl, by omega, by have := AW.len; omega, fun D hD => ?_⟩
    refine comp_rangeR (fun j ys H4 => Same H3 H4 ∧ H4 D = some (.lst ys) ∧ ys = ((upto j).map nT).map V.str) ⟨same_new hD _, upd_same, rfl⟩ (fun j ys H4 hj hP => ?_) (fun ys H4 hP => ?_)
    · obtain ⟨g4, hD4, rfl⟩ := hP
      have := AW.len
      refine ⟨agree0, iteT ⟨_, rfl, _, rfl, log_small (by omega) (by omega), hD4, ?_, g4.write hD _, upd_same, ?_⟩⟩
      · rw [List.length_map, List.length_map, upto_len]; omega
      · rw [upto_succ, List.map_append, List.map_append, Int.zero_add]; rfl
    obtain ⟨g4, hD4, rfl⟩ := hP
    have hn : ((cvs.length : Int)).toNat = W.bs.length := by have := AW.len; omega
    rw [hn] at hD4
    have fl : (((upto W.bs.length).map nT).map V.str).all flatV = true := by
      rw [List.all_eq_true]
      intro y hy
      obtain ⟨z, _, rfl⟩ := List.mem_map.mp hy
      rfl
    have k04 := k01.trans (g13.trans g4)
    refine ⟨D, _, rfl, .inl (SqL.of hD4), rfl, fl, _, rfl, ?_⟩
    rw [inV_words]
    cases hk : wkN W.bs.length w0 with
    | none => exact iteT (iteT (qN (ordT_no fun o' ho' _ => by rw [rt, rdW_bad hw hk] at ho'; cases ho') _ k04))
    | some k =>
    have bk := wkN_some hk
    have ha4 := g4 _ _ ha3
    refine iteF ⟨_, rfl, ⟨k, by rw [bk.2.2], bk.1, by omega, ?_⟩⟩
    refine ⟨_, rfl, _, rfl, ca, _, _, _, rfl, rfl, SqT.of ha4, rfl, _, _, rfl, rfl, _, _, rfl, rfl, _, rfl, ?_⟩
    by_cases c2 : k ≥ (i : Int) + W.b
    · refine if_t (decide_eq_true c2) (qN (ordT_no fun o' ho' v => ?_) _ k04)
      rw [rt] at ho'
      obtain ⟨k', hk', he⟩ := rdW_take ho' i w0 hw
      rw [hk] at hk'
      obtain rfl := Option.some.inj hk'
      have := (v.at_ i k he).2
      unfold began at this
      omega
    · refine if_f (decide_eq_false c2) ?_
      refine ⟨_, rfl, _, rfl, k, by rw [bk.2.2], bk.1, by omega, by show 1 ≤ sizeLine; omega, fun q5 hq5 => ?_⟩
      have g5 := same_new hq5 (.tup [.int k])
      have e5 : upd H4 q5 (.tup [.int k]) q5 = some (.tup [.int k]) := upd_same
      generalize upd H4 q5 (.tup [.int k]) = H5 at *
      have g45 := g4.trans g5
      refine ⟨p, q5, _, _, rfl, rfl, g45 _ _ hp3, e5, ?_, fun p6 H6 g6 hp6 => ?_⟩
      · rw [List.length_map]; show o.length + 1 ≤ sizeLine; omega
      · refine ⟨p6, o ++ [k], _, _, rfl, g13.trans (g45.trans g6), by rw [hp6, List.map_append]; rfl, by rw [take_snocS hw]; exact rdW_snoc hk ho, fun j x hx => ?_⟩
        rcases Nat.lt_or_ge j o.length with hj | hj
        · rw [List.getElem?_append_left hj] at hx
          exact hat j x hx
        · rw [List.getElem?_append_right hj] at hx
          obtain ⟨hj2, rfl⟩ := List.getElem?_eq_some_iff.mp hx
          have ej : j = i := by simp at hj2; omega
          subst ej
          rw [List.getElem_singleton]
          refine ⟨bk.1, ?_⟩
          unfold began
          omega
  · obtain ⟨p, o, y3, y4, rfl, g, hp, ho, hat⟩ := hP
    rw [List.length_map, List.take_length] at ho
    have k2 := k01.trans g
    have ol := rdW_len ho
    refine ⟨_, rfl, p, o, rfl, hp, by omega, fun n hn => ?_⟩
    refine ⟨_, rfl, p, _, rfl, .inr (SqT.of hp), rfl, _, rfl, ?_⟩
    by_cases nd : o.Nodup
    · refine if_t (decide_eq_true (by rw [hn.mpr nd, List.length_map])) ⟨_, rfl, q o (ordT_of (rt.trans ho) ⟨nd, hat⟩) p H2 k2 hp⟩
    · refine if_f (decide_eq_false fun e => nd (hn.mp ?_)) (qN (ordT_no fun o' ho' v => ?_) H2 k2)
      · injection e with e
        rw [List.length_map] at e
        omega
      · rw [rt, ho] at ho'
        obtain rfl := Option.some.inj ho'
        exact nd v.nd
/-- which of the told errors an error is: its place -/
structure IsAt (K : PySem.W.Frag) (C : Addr) (cs : List Addr) (bs : List Bool) (j : Nat) : Prop where
  k : ExcK K C
  len : cs.length = bs.length
  is : ∀ (i : Nat) (c : Addr) (b : Bool), cs[i]? = some c → bs[i]? = some b → PySem.W.kitOne K (.ref C) (.ref c) = some b
  ve : PySem.W.kitOne K (.ref C) (.type "ValueError") = some true
  one : bs.count true = 1
  at_ : bs[j]? = some true
  no : ∀ m, m < j → bs[m]? ≠ some true
def errs (T : Txt K mg) : List Addr := [T.e_NoWorld.C, T.e_NoOrder.C, T.e_NoLengths.C, T.e_NoWork.C, T.e_NoSide.C, T.e_Never.C, T.e_TooMany.C, T.e_NoStep.C, T.e_NoNumber.C, T.e_NoRow.C, T.e_NoText.C]
def sp_which (K : PySem.W.Frag) (T : Txt K mg) : Sp := fun vs H Q _ => ∃ (p C : Addr) (b0 b1 b2 b3 b4 b5 b6 b7 b8 b9 b10 : Bool) (j : Nat), vs = [.ref p] ∧ H p = some (excO p C) ∧
  IsAt K C (errs T) [b0, b1, b2, b3, b4, b5, b6, b7, b8, b9, b10] j ∧
  ∀ (r : Addr) (H' : Hp), Same H H' → H r = none → H' r = some (.tup [.str "refused", .int j]) → Q (.ref r) H'
theorem ok_law_which (T : Txt K mg) : FnOkH P w K mg base 1 T.law_which.a T.law_which.d ["_law_e"] (sp_which K T) := by
  refine T.law_which.F.okH sc_law_which (fun vs H Q E h => ?_) (fun cdv A outer s H vs Q E hr h => ?_)
  · obtain ⟨p, C, b0, b1, b2, b3, b4, b5, b6, b7, b8, b9, b10, j, rfl, _⟩ := h; rfl
  obtain ⟨p, C, b0, b1, b2, b3, b4, b5, b6, b7, b8, b9, b10, j, rfl, hp, W, q⟩ := h
  refine ⟨_, (pss_cons (ps_set (i := 1) sc_law_which.nd rfl (by first | exact Or.inl rfl | exact Or.inr rfl) (pe_lst (pa_cons (pe_callB call_isx rfl T.n_isinstance bt_isinstance (pa_cons (pv 0) (pa_cons (pe_glob (v := .ref T.e_NoWorld.C) rfl T.e_NoWorld.m rfl) pa_nil))) (pa_cons (pe_callB call_isx rfl T.n_isinstance bt_isinstance (pa_cons (pv 0) (pa_cons (pe_glob (v := .ref T.e_NoOrder.C) rfl T.e_NoOrder.m rfl) pa_nil))) (pa_cons (pe_callB call_isx rfl T.n_isinstance bt_isinstance (pa_cons (pv 0) (pa_cons (pe_glob (v := .ref T.e_NoLengths.C) rfl T.e_NoLengths.m rfl) pa_nil))) (pa_cons (pe_callB call_isx rfl T.n_isinstance bt_isinstance (pa_cons (pv 0) (pa_cons (pe_glob (v := .ref T.e_NoWork.C) rfl T.e_NoWork.m rfl) pa_nil))) pa_nil)))))) (pss_cons (ps_expr (pe_bm PySem.F.plainAttrs_list PySem.F.slot_list_extend PySem.F.type_list_extend mt_extend (pv 1) (pa_cons (pe_lst (pa_cons (pe_callB call_isx rfl T.n_isinstance bt_isinstance (pa_cons (pv 0) (pa_cons (pe_glob (v := .ref T.e_NoSide.C) rfl T.e_NoSide.m rfl) pa_nil))) (pa_cons (pe_callB call_isx rfl T.n_isinstance bt_isinstance (pa_cons (pv 0) (pa_cons (pe_glob (v := .ref T.e_Never.C) rfl T.e_Never.m rfl) pa_nil))) (pa_cons (pe_callB call_isx rfl T.n_isinstance bt_isinstance (pa_cons (pv 0) (pa_cons (pe_glob (v := .ref T.e_TooMany.C) rfl T.e_TooMany.m rfl) pa_nil))) (pa_cons (pe_callB call_isx rfl T.n_isinstance bt_isinstance (pa_cons (pv 0) (pa_cons (pe_glob (v := .ref T.e_NoStep.C) rfl T.e_NoStep.m rfl) pa_nil))) pa_nil))))) pa_nil))) (pss_cons (ps_expr (pe_bm PySem.F.plainAttrs_list PySem.F.slot_list_extend PySem.F.type_list_extend mt_extend (pv 1) (pa_cons (pe_lst (pa_cons (pe_callB call_isx rfl T.n_isinstance bt_isinstance (pa_cons (pv 0) (pa_cons (pe_glob (v := .ref T.e_NoNumber.C) rfl T.e_NoNumber.m rfl) pa_nil))) (pa_cons (pe_callB call_isx rfl T.n_isinstance bt_isinstance (pa_cons (pv 0) (pa_cons (pe_glob (v := .ref T.e_NoRow.C) rfl T.e_NoRow.m rfl) pa_nil))) (pa_cons (pe_callB call_isx rfl T.n_isinstance bt_isinstance (pa_cons (pv 0) (pa_cons (pe_glob (v := .ref T.e_NoText.C) rfl T.e_NoText.m rfl) pa_nil))) pa_nil)))) pa_nil))) (pss_cons (ps_if (PW.pt (pw_or (pt_cmpR op_ne (pe_bm PySem.F.plainAttrs_list PySem.F.slot_list_count PySem.F.type_list_count mt_countB (pv 1) (pa_cons pe_bl pa_nil)) pe_int (nomark _)) (pw_or1 (pt_not (pt_val (pe_callB call_isx rfl T.n_isinstance bt_isinstance (pa_cons (pv 0) (pa_cons (pe_bltn (v := .ty "ValueError") rfl T.n_ValueError bt_ValueError rfl) pa_nil)))))))) (pss_one (ps_ret (pe_tup (pa_cons pe_str (pa_cons (pe_un un_neg pe_int) pa_nil))))) pss_nil) (pss_one (ps_ret (pe_tup (pa_cons pe_str (pa_cons (pe_bm PySem.F.plainAttrs_list PySem.F.slot_list_index PySem.F.type_list_index mt_indexB (pv 1) (pa_cons pe_bl pa_nil)) pa_nil))))))))), ?_⟩
  refine ⟨_, rfl, p, C, _, _, b0, rfl, hp, W.k, fun u r => r, W.is 0 _ _ rfl rfl, _, rfl, p, C, _, _, b1, rfl, hp, W.k, fun u r => r, W.is 1 _ _ rfl rfl, _, rfl, p, C, _, _, b2, rfl, hp, W.k, fun u r => r, W.is 2 _ _ rfl rfl, _, rfl, p, C, _, _, b3, rfl, hp, W.k, fun u r => r, W.is 3 _ _ rfl rfl, (by show 4 ≤ sizeLine; decide), fun l hl => ?_⟩
  have g1 := same_new hl (.lst [.bl b0, .bl b1, .bl b2, .bl b3])
  have hp1 := g1 _ _ hp
  have el : upd H l (.lst [.bl b0, .bl b1, .bl b2, .bl b3]) l = some (.lst [.bl b0, .bl b1, .bl b2, .bl b3]) := upd_same
  generalize upd H l (.lst [.bl b0, .bl b1, .bl b2, .bl b3]) = H1 at *
  refine ⟨_, rfl, .inl ⟨rfl, _, SqL.of el⟩, _, rfl, p, C, _, _, b4, rfl, hp1, W.k, fun u r => r, W.is 4 _ _ rfl rfl, _, rfl, p, C, _, _, b5, rfl, hp1, W.k, fun u r => r, W.is 5 _ _ rfl rfl, _, rfl, p, C, _, _, b6, rfl, hp1, W.k, fun u r => r, W.is 6 _ _ rfl rfl, _, rfl, p, C, _, _, b7, rfl, hp1, W.k, fun u r => r, W.is 7 _ _ rfl rfl, (by show 4 ≤ sizeLine; decide), fun r hr' => ?_⟩
  have g2 := same_new hr' (.lst [.bl b4, .bl b5, .bl b6, .bl b7])
  refine ⟨l, r, _, _, rfl, rfl, g2 _ _ el, upd_same, by show 8 ≤ sizeLine; decide, ?_⟩
  have gw := (g1.trans g2).write hl (.lst [.bl b0, .bl b1, .bl b2, .bl b3, .bl b4, .bl b5, .bl b6, .bl b7])
  have el2 : upd (upd H1 r (.lst [.bl b4, .bl b5, .bl b6, .bl b7])) l (.lst [.bl b0, .bl b1, .bl b2, .bl b3, .bl b4, .bl b5, .bl b6, .bl b7]) l = some (.lst [.bl b0, .bl b1, .bl b2, .bl b3, .bl b4, .bl b5, .bl b6, .bl b7]) := upd_same
  have gw' : Same H (upd (upd H1 r (.lst [.bl b4, .bl b5, .bl b6, .bl b7])) l (.lst ([.bl b0, .bl b1, .bl b2, .bl b3] ++ [.bl b4, .bl b5, .bl b6, .bl b7]))) := gw
  have hp2 := gw _ _ hp
  show tSeq _ _ _ _ (upd (upd H1 r (.lst [.bl b4, .bl b5, .bl b6, .bl b7])) l (.lst [.bl b0, .bl b1, .bl b2, .bl b3, .bl b4, .bl b5, .bl b6, .bl b7]))
  generalize upd (upd H1 r (.lst [.bl b4, .bl b5, .bl b6, .bl b7])) l (.lst [.bl b0, .bl b1, .bl b2, .bl b3, .bl b4, .bl b5, .bl b6, .bl b7]) = H2 at *
  refine ⟨_, rfl, .inl ⟨rfl, _, SqL.of el2⟩, _, rfl, p, C, _, _, b8, rfl, hp2, W.k, fun u r => r, W.is 8 _ _ rfl rfl, _, rfl, p, C, _, _, b9, rfl, hp2, W.k, fun u r => r, W.is 9 _ _ rfl rfl, _, rfl, p, C, _, _, b10, rfl, hp2, W.k, fun u r => r, W.is 10 _ _ rfl rfl, (by show 3 ≤ sizeLine; decide), fun r2 hr2 => ?_⟩
  have g3 := same_new hr2 (.lst [.bl b8, .bl b9, .bl b10])
  refine ⟨l, r2, _, _, rfl, rfl, g3 _ _ el2, upd_same, by show 11 ≤ sizeLine; decide, ?_⟩
  have gz := (gw.trans g3).write hl (.lst [.bl b0, .bl b1, .bl b2, .bl b3, .bl b4, .bl b5, .bl b6, .bl b7, .bl b8, .bl b9, .bl b10])
  have el3 : upd (upd H2 r2 (.lst [.bl b8, .bl b9, .bl b10])) l (.lst [.bl b0, .bl b1, .bl b2, .bl b3, .bl b4, .bl b5, .bl b6, .bl b7, .bl b8, .bl b9, .bl b10]) l = some (.lst [.bl b0, .bl b1, .bl b2, .bl b3, .bl b4, .bl b5, .bl b6, .bl b7, .bl b8, .bl b9, .bl b10]) := upd_same
  have hp3 := gz _ _ hp
  show tSeq _ _ _ _ (upd (upd H2 r2 (.lst [.bl b8, .bl b9, .bl b10])) l (.lst [.bl b0, .bl b1, .bl b2, .bl b3, .bl b4, .bl b5, .bl b6, .bl b7, .bl b8, .bl b9, .bl b10]))
  generalize upd (upd H2 r2 (.lst [.bl b8, .bl b9, .bl b10])) l (.lst [.bl b0, .bl b1, .bl b2, .bl b3, .bl b4, .bl b5, .bl b6, .bl b7, .bl b8, .bl b9, .bl b10]) = H3 at *
  refine ⟨_, rfl, .inl ⟨rfl, _, SqL.of el3⟩, l, [b0, b1, b2, b3, b4, b5, b6, b7, b8, b9, b10], true, rfl, rfl, el3, ?_⟩
  refine ⟨rfl, _, rfl, if_f ?_ ?_⟩
  · rw [W.one]; rfl
  refine ⟨_, rfl, p, C, _, _, true, rfl, hp3, W.k, fun u r => r, W.ve, true, rfl, iteF ?_⟩
  refine ⟨_, rfl, .inl ⟨rfl, _, SqL.of el3⟩, l, [b0, b1, b2, b3, b4, b5, b6, b7, b8, b9, b10], true, j, rfl, rfl, el3, W.at_, W.no, ?_⟩
  refine ⟨by show 2 ≤ sizeLine; decide, fun t ht => ?_⟩
  have g4 := same_new ht (.tup [.str "refused", .int j])
  exact q t _ (gz.trans g4) (gz.free ht) upd_same
end
end Be
set_option Elab.async false
set_option linter.all false
set_option maxRecDepth 100000
namespace Be
open PySem L2
def tryB (st : Stmt) : List Stmt := match defBody st with | [.Try b _ _ _ _] => b | _ => []
/-- what is asked of the errors -/
structure Errs {K : PySem.W.Frag} {mg : Str → Option Value} (T : Txt K mg) : Prop where
  n0 : IsAt K T.e_NoWorld.C (errs T) [true, false, false, false, false, false, false, false, false, false, false] 0
  n10 : IsAt K T.e_NoText.C (errs T) [false, false, false, false, false, false, false, false, false, false, true] 10
  u0 : PySem.W.mroIn K T.e_NoWorld.C (.ref T.e_BenchError.C) = some true
  u10 : PySem.W.mroIn K T.e_NoText.C (.ref T.e_BenchError.C) = some true
  ba : PySem.W.mroIn K T.e_BenchError.C (.type "BaseException") = some true
section
variable {P : Program} {w : World} {K : PySem.W.Frag} {mg : Str → Option Value} {base : Heap}
def At (T : Txt K mg) (C : Addr) (j : Nat) : Prop := (C = T.e_NoWorld.C ∧ j = 0) ∨ (C = T.e_NoText.C ∧ j = 10)
def BadT (T : Txt K mg) (dw dt : PyData) (m : V) (C : Addr) : Prop := (C = T.e_NoWorld.C ∧ isWD dw = false) ∨ (C = T.e_NoText.C ∧ ∃ W : Wd, W.Ok ∧ dw = encW W ∧ (isStrD dt = false ∨ ∃ z : Str, m = .str z ∧ z.length ≤ 900 ∧ ordT W z = none))
def askR (T : Txt K mg) (vs : List V) (H : Hp) (Q : VK) : Prop := ∃ (v m : V) (dw dt : PyData) (C : Addr) (j : Nat), vs = [v, m] ∧ At T C j ∧ Rep H v dw ∧ Rep H m dt ∧ BadT T dw dt m C ∧
  ∀ (r : Addr) (H' : Hp), Same H H' → H r = none → H' r = some (.tup [.str "refused", .int j]) → Q (.ref r) H'
def askP (vs : List V) (H : Hp) (Q : VK) : Prop := ∃ (v : V) (W : Wd) (z : Str) (o : List Int), vs = [v, .str z] ∧ W.Ok ∧ Rep H v (encW W) ∧ z.length ≤ 900 ∧ ordT W z = some o ∧ ∀ (p : Addr) (H' : Hp), Same H H' → H' p = some (.tup (o.map V.int)) → Q (.ref p) H'
def sp_ask (T : Txt K mg) : Sp := fun vs H Q _ => askR T vs H Q ∨ askP vs H Q
theorem ok_law_ask (T : Txt K mg) (Z : Errs T) : FnOk P w K mg base (CXr P w) 7 T.law_ask.a T.law_ask.d ["_law_world_here", "_law_thing"] (sp_ask T) := by
  refine T.law_ask.F.okT sc_law_ask (fun vs H Q E h => ?_) (fun cdv A outer s H vs Q E hr h => ?_)
  · rcases h with ⟨v, m, dw, dt, C, j, rfl, _⟩ | ⟨v, W, z, o, rfl, _⟩ <;> rfl
  refine ⟨_, pss0_one (fun s1 σ H1 D I hT => try_ok (P := P) (w := w) (K := K) (mg := mg) (base := base) (N := ["_law_world_here", "_law_thing", "_law_e"]) (qual := "_law_ask") (scope := defScope (top 46)) (f := T.law_ask.a) (cd := cdv) (A := A) (outer := outer) (s := s) (H := H) (E := E) (body := tryB (top 46)) (n := "_law_e") (xB := "BenchError") (xW := "_law_which") (j := 2) (fun E' xe' ps => (pss_one (ps_ret (pe_call (ok_read_order T) (hr.mono (by decide)) rfl T.read_order.m T.read_order.F.kp T.read_order.b .nil ps (pa_cons (pv 0) (pa_cons (pv 1) pa_nil)))))) T.e_BenchError.m rfl T.e_BenchError.q Z.ba (ok_law_which T) (hr.h.mono (by decide)) rfl T.law_which.m T.law_which.F.kp T.law_which.b sc_law_ask.nd rfl rfl (by decide) (by decide) (by decide) (by decide) I hT), ?_⟩
  rcases h with ⟨v, m, dw, dt, C, j, rfl, hA, hv, hm, hB, q⟩ | ⟨v, W, z, o, rfl, hok, hv, hz, ho, q⟩
  · refine ⟨fun x _ H' => x = .ref C ∧ Same H H', ?_, fun C' H' hE => ?_⟩
    · refine ⟨_, rfl, _, rfl, v, m, dw, dt, rfl, hv, hm, ?_⟩
      rcases hB with ⟨rfl, hf⟩ | ⟨rfl, W, hok, rfl, hf⟩
      · exact .inl ⟨hf, fun H' g => ⟨rfl, g⟩⟩
      · refine .inr ⟨W, hok, rfl, ?_⟩
        rcases hf with hf | ⟨z, rfl, hz, hn⟩
        · exact .inl ⟨hf, fun H' g => ⟨rfl, g⟩⟩
        · exact .inr ⟨z, rfl, hz, (fun o ho => by rw [hn] at ho; cases ho), fun _ H' g => ⟨rfl, g⟩⟩
    · obtain ⟨e, g⟩ := hE
      injection e with e
      subst e
      rcases hA with ⟨rfl, rfl⟩ | ⟨rfl, rfl⟩
      · refine ⟨⟨_, _, T.e_NoWorld.q, Z.u0⟩, fun p hp => ?_⟩
        have g2 := g.trans (same_new hp (excO p T.e_NoWorld.C))
        exact ⟨p, _, true, false, false, false, false, false, false, false, false, false, false, 0, rfl, upd_same, Z.n0, fun r H'' g3 hr3 hR => q r H'' (g2.trans g3) (g2.free hr3) hR⟩
      · refine ⟨⟨_, _, T.e_NoText.q, Z.u10⟩, fun p hp => ?_⟩
        have g2 := g.trans (same_new hp (excO p T.e_NoText.C))
        exact ⟨p, _, false, false, false, false, false, false, false, false, false, false, true, 10, rfl, upd_same, Z.n10, fun r H'' g3 hr3 hR => q r H'' (g2.trans g3) (g2.free hr3) hR⟩
  · refine ⟨fun _ _ _ => False, ?_, fun C' H' hE => hE.elim⟩
    refine ⟨_, rfl, _, rfl, v, .str z, encW W, .str z, rfl, hv, .str _, .inr ⟨W, hok, rfl, .inr ⟨z, rfl, hz, fun o' ho' p H' g hp => ?_, fun hn => by rw [ho] at hn; cases hn⟩⟩⟩
    rw [ho] at ho'
    obtain rfl := Option.some.inj ho'
    exact q p H' g hp
end
end Be
/-! expressions made of constants alone: the rules of the layer, kept in a structure, so that nothing looks into what they say -/
set_option Elab.async false
set_option linter.all false
namespace Be
open PySem L2
variable {X : Cx} {e a b : Expr} {es : List Expr} {te ta tb : TE} {t : TA} {pos : Pos}
structure CE (X : Cx) (e : Expr) (t : TE) : Prop where
  pr : PE X e t
structure CA (X : Cx) (es : List Expr) (t : TA) : Prop where
  pr : PA X es t
theorem ce_int {i j pos} : CE X (.Constant (.int i) j pos) (tC (.int i)) := ⟨pe_int⟩
theorem ce_bl {b j pos} : CE X (.Constant (.bool b) j pos) (tC (.bl b)) := ⟨pe_bl⟩
theorem ce_non {j pos} : CE X (.Constant .none j pos) (tC .non) := ⟨pe_non⟩
theorem ce_str {x j pos} : CE X (.Constant (.str x) j pos) (tC (.str x)) := ⟨pe_str⟩
theorem ca_nil : CA X [] tNil := ⟨pa_nil⟩
theorem ca_cons (ha : CE X e te) (hr : CA X es t) (hs : starEach (e :: es) X.env = (false, eval e X.env) :: starEach es X.env := by rfl) : CA X (e :: es) (tCons te t) := ⟨pa_cons ha.pr hr.pr hs⟩
theorem ce_tup {x1} (h : CA X es t) : CE X (.Tuple es x1 pos) (tTup t) := ⟨pe_tup h.pr⟩
theorem ce_lst (h : CA X es t) : CE X (.List es pos) (tLst t) := ⟨pe_lst h.pr⟩
theorem ce_op {op : Operator} {r : R2} (ho : OpR X (binaryOp op) r) (ha : CE X a ta) (hb : CE X b tb) : CE X (.BinOp a op b pos) (tOp r ta tb) := ⟨pe_op ho ha.pr hb.pr⟩
structure CS (X : Cx) (st : Stmt) (t : TS) : Prop where
  pr : PS X st t
structure CSs (X : Cx) (st : List Stmt) (t : TS) : Prop where
  pr : PSs X st t
theorem css_cons {st : Stmt} {rest : List Stmt} {t u : TS} (h1 : CS X st t) (h2 : CSs X rest u) : CSs X (st :: rest) (tSeq t u) := ⟨pss_cons h1.pr h2.pr⟩
theorem css_one {st : Stmt} {t : TS} (h1 : CS X st t) : CSs X [st] t := ⟨pss_one h1.pr⟩
theorem cs_ret (he : CE X e te) : CS X (.Return (some e) pos) (tRet te) := ⟨ps_ret he.pr⟩
theorem cs_set {i : Nat} {x : Str} {e : Expr} {te : TE} {pos' : Pos} (hN : X.N.Nodup) (hi : X.N[i]? = some x) (hx : Loc X.env.scope x) (he : CE X e te) (hs : swapsWith e (some (.Name x pos')) pos.line X.env = pure false := by rfl) (hf : X.fn x = true ∨ X.env.scope.names.lookup x = some .local := by first | exact .inl rfl | exact .inr rfl | assumption) :
    CS X (.Assign [.Name x pos'] e pos) (tAsg te (gName i)) := ⟨ps_set hN hi hx he.pr hs hf⟩
end Be
set_option Elab.async false
set_option linter.all false
set_option maxRecDepth 100000
namespace Be
open PySem L2
section
variable {P : Program} {w : World} {K : PySem.W.Frag} {mg : Str → Option Value} {base : Heap}
def sp_oddw (K : PySem.W.Frag) : Sp := fun vs H Q _ => ∃ (a t : Addr) (ns : List Int) (n : Nat), vs = [.ref a, .ref t] ∧ Scr K H a ns ∧ H t = some (.lst (zeros n)) ∧ n < 4000 ∧
  ∀ (v : V) (d : PyData) (H' : Hp), Rep H' v d → isWD d = false → SameX t H H' → H' t = some (.lst (zeros (n + 1))) → Q v H'
set_option maxHeartbeats 1000000 in
theorem ok_law_odd_world (T : Txt K mg) : FnOk P w K mg base (CXr P w) 5 T.law_odd_world.a T.law_odd_world.d ["_law_script", "_law_town"] (sp_oddw K) := by
  refine T.law_odd_world.F.okN sc_law_odd_world (fun vs H Q E h => ?_) (fun cdv A outer s H vs Q E hr h => ?_)
  · obtain ⟨a, t, ns, n, rfl, _⟩ := h; rfl
  obtain ⟨a, t, ns, n, rfl, hS, ht, hn, q⟩ := h
  suffices hh : ∃ t, CSs _ _ t ∧ t _ _ _ from hh.elim fun t h => ⟨t, h.1.pr, h.2⟩
  refine ⟨_, (css_cons (cs_set (i := 2) sc_law_odd_world.nd rfl (by first | exact Or.inl rfl | exact Or.inr rfl) (ce_lst (ca_cons ce_non (ca_cons ce_int (ca_cons (ce_tup ca_nil) (ca_cons (ce_tup (ca_cons ce_int (ca_cons (ce_tup (ca_cons (ce_tup (ca_cons ce_int (ca_cons ce_int ca_nil))) ca_nil)) ca_nil))) (ca_cons (ce_tup (ca_cons ce_int (ca_cons (ce_tup (ca_cons (ce_tup (ca_cons ce_int (ca_cons ce_int ca_nil))) ca_nil)) ca_nil))) (ca_cons (ce_tup (ca_cons ce_int (ca_cons (ce_tup ca_nil) ca_nil))) (ca_cons (ce_tup (ca_cons ce_int (ca_cons (ce_tup (ca_cons (ce_tup (ca_cons ce_int (ca_cons ce_int ca_nil))) ca_nil)) ca_nil))) (ca_cons (ce_tup (ca_cons ce_int (ca_cons (ce_tup (ca_cons (ce_tup (ca_cons ce_int (ca_cons ce_int ca_nil))) ca_nil)) ca_nil))) ca_nil)))))))))) (css_cons (cs_set (i := 2) sc_law_odd_world.nd rfl (by first | exact Or.inl rfl | exact Or.inr rfl) (ce_op op_cat (CE.mk (pv 2)) (ce_lst (ca_cons (ce_tup (ca_cons ce_int (ca_cons (ce_tup (ca_cons (ce_tup (ca_cons ce_int (ca_cons ce_int ca_nil))) ca_nil)) ca_nil))) (ca_cons (ce_tup (ca_cons ce_int (ca_cons (ce_tup (ca_cons (ce_tup (ca_cons ce_int ca_nil)) ca_nil)) ca_nil))) (ca_cons (ce_tup (ca_cons ce_int (ca_cons (ce_op op_repT (ce_tup (ca_cons (ce_tup (ca_cons ce_int (ca_cons ce_int ca_nil))) ca_nil)) ce_int) ca_nil))) (ca_cons (ce_lst (ca_cons ce_int (ca_cons (ce_tup (ca_cons (ce_tup (ca_cons ce_int (ca_cons ce_int ca_nil))) ca_nil)) ca_nil))) ca_nil))))))) (css_one (cs_ret (CE.mk (pe_call (ok_law_pick T) (hr.mono (by decide)) rfl T.law_pick.m T.law_pick.F.kp T.law_pick.b .nil passN (CA.pr (ca_cons (CE.mk (pv 0)) (ca_cons (CE.mk (pv 1)) (ca_cons (ce_op op_cat (CE.mk (pv 2)) (ce_lst (ca_cons (ce_tup (ca_cons ce_bl (ca_cons (ce_tup (ca_cons (ce_tup (ca_cons ce_int (ca_cons ce_int ca_nil))) ca_nil)) ca_nil))) (ca_cons ce_str ca_nil)))) ca_nil)))))))))), ?_⟩
  have e0 : ∃ HH0, HH0 = H := ⟨H, rfl⟩
  obtain ⟨HH0, hH0⟩ := e0
  rw [← hH0] at hS ht q ⊢
  clear hH0
  refine ⟨by show 0 ≤ sizeLine; decide, fun p1 hp1 => ?_⟩
  generalize hq1 : upd HH0 p1 (.tup []) = HH1
  have g1 : Same HH0 HH1 := hq1 ▸ same_new hp1 (.tup [])
  have e1 : HH1 p1 = some (.tup []) := by rw [← hq1]; exact upd_same
  clear hq1
  refine ⟨by show 2 ≤ sizeLine; decide, fun p2 hp2 => ?_⟩
  generalize hq2 : upd HH1 p2 (.tup [.int 1, .int 2]) = HH2
  have g2 : Same HH1 HH2 := hq2 ▸ same_new hp2 (.tup [.int 1, .int 2])
  have e2 : HH2 p2 = some (.tup [.int 1, .int 2]) := by rw [← hq2]; exact upd_same
  clear hq2
  refine ⟨by show 1 ≤ sizeLine; decide, fun p3 hp3 => ?_⟩
  generalize hq3 : upd HH2 p3 (.tup [.ref p2]) = HH3
  have g3 : Same HH2 HH3 := hq3 ▸ same_new hp3 (.tup [.ref p2])
  have e3 : HH3 p3 = some (.tup [.ref p2]) := by rw [← hq3]; exact upd_same
  clear hq3
  refine ⟨by show 2 ≤ sizeLine; decide, fun p4 hp4 => ?_⟩
  generalize hq4 : upd HH3 p4 (.tup [.int 0, .ref p3]) = HH4
  have g4 : Same HH3 HH4 := hq4 ▸ same_new hp4 (.tup [.int 0, .ref p3])
  have e4 : HH4 p4 = some (.tup [.int 0, .ref p3]) := by rw [← hq4]; exact upd_same
  clear hq4
  refine ⟨by show 2 ≤ sizeLine; decide, fun p5 hp5 => ?_⟩
  generalize hq5 : upd HH4 p5 (.tup [.int 1, .int 2]) = HH5
  have g5 : Same HH4 HH5 := hq5 ▸ same_new hp5 (.tup [.int 1, .int 2])
  have e5 : HH5 p5 = some (.tup [.int 1, .int 2]) := by rw [← hq5]; exact upd_same
  clear hq5
  refine ⟨by show 1 ≤ sizeLine; decide, fun p6 hp6 => ?_⟩
  generalize hq6 : upd HH5 p6 (.tup [.ref p5]) = HH6
  have g6 : Same HH5 HH6 := hq6 ▸ same_new hp6 (.tup [.ref p5])
  have e6 : HH6 p6 = some (.tup [.ref p5]) := by rw [← hq6]; exact upd_same
  clear hq6
  refine ⟨by show 2 ≤ sizeLine; decide, fun p7 hp7 => ?_⟩
  generalize hq7 : upd HH6 p7 (.tup [.int 5, .ref p6]) = HH7
  have g7 : Same HH6 HH7 := hq7 ▸ same_new hp7 (.tup [.int 5, .ref p6])
  have e7 : HH7 p7 = some (.tup [.int 5, .ref p6]) := by rw [← hq7]; exact upd_same
  clear hq7
  refine ⟨by show 0 ≤ sizeLine; decide, fun p8 hp8 => ?_⟩
  generalize hq8 : upd HH7 p8 (.tup []) = HH8
  have g8 : Same HH7 HH8 := hq8 ▸ same_new hp8 (.tup [])
  have e8 : HH8 p8 = some (.tup []) := by rw [← hq8]; exact upd_same
  clear hq8
  refine ⟨by show 2 ≤ sizeLine; decide, fun p9 hp9 => ?_⟩
  generalize hq9 : upd HH8 p9 (.tup [.int 1, .ref p8]) = HH9
  have g9 : Same HH8 HH9 := hq9 ▸ same_new hp9 (.tup [.int 1, .ref p8])
  have e9 : HH9 p9 = some (.tup [.int 1, .ref p8]) := by rw [← hq9]; exact upd_same
  clear hq9
  refine ⟨by show 2 ≤ sizeLine; decide, fun p10 hp10 => ?_⟩
  generalize hq10 : upd HH9 p10 (.tup [.int 2, .int 1]) = HH10
  have g10 : Same HH9 HH10 := hq10 ▸ same_new hp10 (.tup [.int 2, .int 1])
  have e10 : HH10 p10 = some (.tup [.int 2, .int 1]) := by rw [← hq10]; exact upd_same
  clear hq10
  refine ⟨by show 1 ≤ sizeLine; decide, fun p11 hp11 => ?_⟩
  generalize hq11 : upd HH10 p11 (.tup [.ref p10]) = HH11
  have g11 : Same HH10 HH11 := hq11 ▸ same_new hp11 (.tup [.ref p10])
  have e11 : HH11 p11 = some (.tup [.ref p10]) := by rw [← hq11]; exact upd_same
  clear hq11
  refine ⟨by show 2 ≤ sizeLine; decide, fun p12 hp12 => ?_⟩
  generalize hq12 : upd HH11 p12 (.tup [.int 1, .ref p11]) = HH12
  have g12 : Same HH11 HH12 := hq12 ▸ same_new hp12 (.tup [.int 1, .ref p11])
  have e12 : HH12 p12 = some (.tup [.int 1, .ref p11]) := by rw [← hq12]; exact upd_same
  clear hq12
  refine ⟨by show 2 ≤ sizeLine; decide, fun p13 hp13 => ?_⟩
  generalize hq13 : upd HH12 p13 (.tup [.int 0, .int 2]) = HH13
  have g13 : Same HH12 HH13 := hq13 ▸ same_new hp13 (.tup [.int 0, .int 2])
  have e13 : HH13 p13 = some (.tup [.int 0, .int 2]) := by rw [← hq13]; exact upd_same
  clear hq13
  refine ⟨by show 1 ≤ sizeLine; decide, fun p14 hp14 => ?_⟩
  generalize hq14 : upd HH13 p14 (.tup [.ref p13]) = HH14
  have g14 : Same HH13 HH14 := hq14 ▸ same_new hp14 (.tup [.ref p13])
  have e14 : HH14 p14 = some (.tup [.ref p13]) := by rw [← hq14]; exact upd_same
  clear hq14
  refine ⟨by show 2 ≤ sizeLine; decide, fun p15 hp15 => ?_⟩
  generalize hq15 : upd HH14 p15 (.tup [.int 1, .ref p14]) = HH15
  have g15 : Same HH14 HH15 := hq15 ▸ same_new hp15 (.tup [.int 1, .ref p14])
  have e15 : HH15 p15 = some (.tup [.int 1, .ref p14]) := by rw [← hq15]; exact upd_same
  clear hq15
  refine ⟨by show 8 ≤ sizeLine; decide, fun p16 hp16 => ?_⟩
  generalize hq16 : upd HH15 p16 (.lst [.non, .int 5, .ref p1, .ref p4, .ref p7, .ref p9, .ref p12, .ref p15]) = HH16
  have g16 : Same HH15 HH16 := hq16 ▸ same_new hp16 (.lst [.non, .int 5, .ref p1, .ref p4, .ref p7, .ref p9, .ref p12, .ref p15])
  have e16 : HH16 p16 = some (.lst [.non, .int 5, .ref p1, .ref p4, .ref p7, .ref p9, .ref p12, .ref p15]) := by rw [← hq16]; exact upd_same
  clear hq16
  refine ⟨_, rfl, ?_⟩
  refine ⟨by show 2 ≤ sizeLine; decide, fun p17 hp17 => ?_⟩
  generalize hq17 : upd HH16 p17 (.tup [.int 1, .int 100]) = HH17
  have g17 : Same HH16 HH17 := hq17 ▸ same_new hp17 (.tup [.int 1, .int 100])
  have e17 : HH17 p17 = some (.tup [.int 1, .int 100]) := by rw [← hq17]; exact upd_same
  clear hq17
  refine ⟨by show 1 ≤ sizeLine; decide, fun p18 hp18 => ?_⟩
  generalize hq18 : upd HH17 p18 (.tup [.ref p17]) = HH18
  have g18 : Same HH17 HH18 := hq18 ▸ same_new hp18 (.tup [.ref p17])
  have e18 : HH18 p18 = some (.tup [.ref p17]) := by rw [← hq18]; exact upd_same
  clear hq18
  refine ⟨by show 2 ≤ sizeLine; decide, fun p19 hp19 => ?_⟩
  generalize hq19 : upd HH18 p19 (.tup [.int 1, .ref p18]) = HH19
  have g19 : Same HH18 HH19 := hq19 ▸ same_new hp19 (.tup [.int 1, .ref p18])
  have e19 : HH19 p19 = some (.tup [.int 1, .ref p18]) := by rw [← hq19]; exact upd_same
  clear hq19
  refine ⟨by show 1 ≤ sizeLine; decide, fun p20 hp20 => ?_⟩
  generalize hq20 : upd HH19 p20 (.tup [.int 1]) = HH20
  have g20 : Same HH19 HH20 := hq20 ▸ same_new hp20 (.tup [.int 1])
  have e20 : HH20 p20 = some (.tup [.int 1]) := by rw [← hq20]; exact upd_same
  clear hq20
  refine ⟨by show 1 ≤ sizeLine; decide, fun p21 hp21 => ?_⟩
  generalize hq21 : upd HH20 p21 (.tup [.ref p20]) = HH21
  have g21 : Same HH20 HH21 := hq21 ▸ same_new hp21 (.tup [.ref p20])
  have e21 : HH21 p21 = some (.tup [.ref p20]) := by rw [← hq21]; exact upd_same
  clear hq21
  refine ⟨by show 2 ≤ sizeLine; decide, fun p22 hp22 => ?_⟩
  generalize hq22 : upd HH21 p22 (.tup [.int 1, .ref p21]) = HH22
  have g22 : Same HH21 HH22 := hq22 ▸ same_new hp22 (.tup [.int 1, .ref p21])
  have e22 : HH22 p22 = some (.tup [.int 1, .ref p21]) := by rw [← hq22]; exact upd_same
  clear hq22
  refine ⟨by show 2 ≤ sizeLine; decide, fun p23 hp23 => ?_⟩
  generalize hq23 : upd HH22 p23 (.tup [.int 1, .int 2]) = HH23
  have g23 : Same HH22 HH23 := hq23 ▸ same_new hp23 (.tup [.int 1, .int 2])
  have e23 : HH23 p23 = some (.tup [.int 1, .int 2]) := by rw [← hq23]; exact upd_same
  clear hq23
  refine ⟨by show 1 ≤ sizeLine; decide, fun p24 hp24 => ?_⟩
  generalize hq24 : upd HH23 p24 (.tup [.ref p23]) = HH24
  have g24 : Same HH23 HH24 := hq24 ▸ same_new hp24 (.tup [.ref p23])
  have e24 : HH24 p24 = some (.tup [.ref p23]) := by rw [← hq24]; exact upd_same
  clear hq24
  refine ⟨p24, 11, _, rfl, rfl, e24, by simp, by decide, by decide, (by show 1 * 11 ≤ sizeLine; decide), fun p25 hp25 => ?_⟩
  generalize hq25 : upd HH24 p25 (.tup (List.replicate (11 : Int).toNat [V.ref p23]).flatten) = HH25
  have g25 : Same HH24 HH25 := hq25 ▸ same_new hp25 (.tup (List.replicate (11 : Int).toNat [V.ref p23]).flatten)
  have e25 : HH25 p25 = some (.tup [.ref p23, .ref p23, .ref p23, .ref p23, .ref p23, .ref p23, .ref p23, .ref p23, .ref p23, .ref p23, .ref p23]) := by rw [← hq25]; exact upd_same
  clear hq25
  refine ⟨by show 2 ≤ sizeLine; decide, fun p26 hp26 => ?_⟩
  generalize hq26 : upd HH25 p26 (.tup [.int 1, .ref p25]) = HH26
  have g26 : Same HH25 HH26 := hq26 ▸ same_new hp26 (.tup [.int 1, .ref p25])
  have e26 : HH26 p26 = some (.tup [.int 1, .ref p25]) := by rw [← hq26]; exact upd_same
  clear hq26
  refine ⟨by show 2 ≤ sizeLine; decide, fun p27 hp27 => ?_⟩
  generalize hq27 : upd HH26 p27 (.tup [.int 1, .int 2]) = HH27
  have g27 : Same HH26 HH27 := hq27 ▸ same_new hp27 (.tup [.int 1, .int 2])
  have e27 : HH27 p27 = some (.tup [.int 1, .int 2]) := by rw [← hq27]; exact upd_same
  clear hq27
  refine ⟨by show 1 ≤ sizeLine; decide, fun p28 hp28 => ?_⟩
  generalize hq28 : upd HH27 p28 (.tup [.ref p27]) = HH28
  have g28 : Same HH27 HH28 := hq28 ▸ same_new hp28 (.tup [.ref p27])
  have e28 : HH28 p28 = some (.tup [.ref p27]) := by rw [← hq28]; exact upd_same
  clear hq28
  refine ⟨by show 2 ≤ sizeLine; decide, fun p29 hp29 => ?_⟩
  generalize hq29 : upd HH28 p29 (.lst [.int 1, .ref p28]) = HH29
  have g29 : Same HH28 HH29 := hq29 ▸ same_new hp29 (.lst [.int 1, .ref p28])
  have e29 : HH29 p29 = some (.lst [.int 1, .ref p28]) := by rw [← hq29]; exact upd_same
  clear hq29
  refine ⟨by show 4 ≤ sizeLine; decide, fun p30 hp30 => ?_⟩
  generalize hq30 : upd HH29 p30 (.lst [.ref p19, .ref p22, .ref p26, .ref p29]) = HH30
  have g30 : Same HH29 HH30 := hq30 ▸ same_new hp30 (.lst [.ref p19, .ref p22, .ref p26, .ref p29])
  have e30 : HH30 p30 = some (.lst [.ref p19, .ref p22, .ref p26, .ref p29]) := by rw [← hq30]; exact upd_same
  clear hq30
  have Q1 : Same HH16 HH30 := g17.trans (g18.trans (g19.trans (g20.trans (g21.trans (g22.trans (g23.trans (g24.trans (g25.trans (g26.trans (g27.trans (g28.trans (g29.trans (g30)))))))))))))
  refine ⟨p16, p30, _, _, rfl, rfl, Q1 _ _ e16, e30, by show 12 ≤ sizeLine; decide, fun p31 hp31 => ?_⟩
  generalize hq31 : upd HH30 p31 (.lst ([V.non, V.int 5, V.ref p1, V.ref p4, V.ref p7, V.ref p9, V.ref p12, V.ref p15] ++ [V.ref p19, V.ref p22, V.ref p26, V.ref p29])) = HH31
  have g31 : Same HH30 HH31 := hq31 ▸ same_new hp31 (.lst ([V.non, V.int 5, V.ref p1, V.ref p4, V.ref p7, V.ref p9, V.ref p12, V.ref p15] ++ [V.ref p19, V.ref p22, V.ref p26, V.ref p29]))
  have e31 : HH31 p31 = some (.lst [.non, .int 5, .ref p1, .ref p4, .ref p7, .ref p9, .ref p12, .ref p15, .ref p19, .ref p22, .ref p26, .ref p29]) := by rw [← hq31]; exact upd_same
  clear hq31
  refine ⟨_, rfl, _, rfl, _, rfl, ?_⟩
  refine ⟨by show 2 ≤ sizeLine; decide, fun p32 hp32 => ?_⟩
  generalize hq32 : upd HH31 p32 (.tup [.int 1, .int 2]) = HH32
  have g32 : Same HH31 HH32 := hq32 ▸ same_new hp32 (.tup [.int 1, .int 2])
  have e32 : HH32 p32 = some (.tup [.int 1, .int 2]) := by rw [← hq32]; exact upd_same
  clear hq32
  refine ⟨by show 1 ≤ sizeLine; decide, fun p33 hp33 => ?_⟩
  generalize hq33 : upd HH32 p33 (.tup [.ref p32]) = HH33
  have g33 : Same HH32 HH33 := hq33 ▸ same_new hp33 (.tup [.ref p32])
  have e33 : HH33 p33 = some (.tup [.ref p32]) := by rw [← hq33]; exact upd_same
  clear hq33
  refine ⟨by show 2 ≤ sizeLine; decide, fun p34 hp34 => ?_⟩
  generalize hq34 : upd HH33 p34 (.tup [.bl true, .ref p33]) = HH34
  have g34 : Same HH33 HH34 := hq34 ▸ same_new hp34 (.tup [.bl true, .ref p33])
  have e34 : HH34 p34 = some (.tup [.bl true, .ref p33]) := by rw [← hq34]; exact upd_same
  clear hq34
  refine ⟨by show 2 ≤ sizeLine; decide, fun p35 hp35 => ?_⟩
  generalize hq35 : upd HH34 p35 (.lst [.ref p34, .str "1: 2"]) = HH35
  have g35 : Same HH34 HH35 := hq35 ▸ same_new hp35 (.lst [.ref p34, .str "1: 2"])
  have e35 : HH35 p35 = some (.lst [.ref p34, .str "1: 2"]) := by rw [← hq35]; exact upd_same
  clear hq35
  have Q3 : Same HH31 HH35 := g32.trans (g33.trans (g34.trans (g35)))
  refine ⟨p31, p35, _, _, rfl, rfl, Q3 _ _ e31, e35, by show 14 ≤ sizeLine; decide, fun p36 hp36 => ?_⟩
  generalize hq36 : upd HH35 p36 (.lst ([V.non, V.int 5, V.ref p1, V.ref p4, V.ref p7, V.ref p9, V.ref p12, V.ref p15, V.ref p19, V.ref p22, V.ref p26, V.ref p29] ++ [V.ref p34, V.str "1: 2"])) = HH36
  have g36 : Same HH35 HH36 := hq36 ▸ same_new hp36 (.lst ([V.non, V.int 5, V.ref p1, V.ref p4, V.ref p7, V.ref p9, V.ref p12, V.ref p15, V.ref p19, V.ref p22, V.ref p26, V.ref p29] ++ [V.ref p34, V.str "1: 2"]))
  have e36 : HH36 p36 = some (.lst [.non, .int 5, .ref p1, .ref p4, .ref p7, .ref p9, .ref p12, .ref p15, .ref p19, .ref p22, .ref p26, .ref p29, .ref p34, .str "1: 2"]) := by rw [← hq36]; exact upd_same
  clear hq36
  have GG : Same HH0 HH36 := g1.trans (g2.trans (g3.trans (g4.trans (g5.trans (g6.trans (g7.trans (g8.trans (g9.trans (g10.trans (g11.trans (g12.trans (g13.trans (g14.trans (g15.trans (g16.trans (g17.trans (g18.trans (g19.trans (g20.trans (g21.trans (g22.trans (g23.trans (g24.trans (g25.trans (g26.trans (g27.trans (g28.trans (g29.trans (g30.trans (g31.trans (g32.trans (g33.trans (g34.trans (g35.trans (g36)))))))))))))))))))))))))))))))))))
  have pt : p36 ≠ t := fun z => by rw [z, (g1.trans (g2.trans (g3.trans (g4.trans (g5.trans (g6.trans (g7.trans (g8.trans (g9.trans (g10.trans (g11.trans (g12.trans (g13.trans (g14.trans (g15.trans (g16.trans (g17.trans (g18.trans (g19.trans (g20.trans (g21.trans (g22.trans (g23.trans (g24.trans (g25.trans (g26.trans (g27.trans (g28.trans (g29.trans (g30.trans (g31.trans (g32.trans (g33.trans (g34.trans (g35))))))))))))))))))))))))))))))))))) _ _ ht] at hp36; cases hp36
  refine ⟨a, t, p36, ns, n, _, rfl, hS.same GG, GG _ _ ht, by omega, e36, pt, by simp, fun v HZ hv gz tz => ?_⟩
  have S1 : Same HH1 HH36 := g2.trans (g3.trans (g4.trans (g5.trans (g6.trans (g7.trans (g8.trans (g9.trans (g10.trans (g11.trans (g12.trans (g13.trans (g14.trans (g15.trans (g16.trans (g17.trans (g18.trans (g19.trans (g20.trans (g21.trans (g22.trans (g23.trans (g24.trans (g25.trans (g26.trans (g27.trans (g28.trans (g29.trans (g30.trans (g31.trans (g32.trans (g33.trans (g34.trans (g35.trans (g36))))))))))))))))))))))))))))))))))
  have S2 : Same HH2 HH36 := g3.trans (g4.trans (g5.trans (g6.trans (g7.trans (g8.trans (g9.trans (g10.trans (g11.trans (g12.trans (g13.trans (g14.trans (g15.trans (g16.trans (g17.trans (g18.trans (g19.trans (g20.trans (g21.trans (g22.trans (g23.trans (g24.trans (g25.trans (g26.trans (g27.trans (g28.trans (g29.trans (g30.trans (g31.trans (g32.trans (g33.trans (g34.trans (g35.trans (g36)))))))))))))))))))))))))))))))))
  have S3 : Same HH3 HH36 := g4.trans (g5.trans (g6.trans (g7.trans (g8.trans (g9.trans (g10.trans (g11.trans (g12.trans (g13.trans (g14.trans (g15.trans (g16.trans (g17.trans (g18.trans (g19.trans (g20.trans (g21.trans (g22.trans (g23.trans (g24.trans (g25.trans (g26.trans (g27.trans (g28.trans (g29.trans (g30.trans (g31.trans (g32.trans (g33.trans (g34.trans (g35.trans (g36))))))))))))))))))))))))))))))))
  have S4 : Same HH4 HH36 := g5.trans (g6.trans (g7.trans (g8.trans (g9.trans (g10.trans (g11.trans (g12.trans (g13.trans (g14.trans (g15.trans (g16.trans (g17.trans (g18.trans (g19.trans (g20.trans (g21.trans (g22.trans (g23.trans (g24.trans (g25.trans (g26.trans (g27.trans (g28.trans (g29.trans (g30.trans (g31.trans (g32.trans (g33.trans (g34.trans (g35.trans (g36)))))))))))))))))))))))))))))))
  have S5 : Same HH5 HH36 := g6.trans (g7.trans (g8.trans (g9.trans (g10.trans (g11.trans (g12.trans (g13.trans (g14.trans (g15.trans (g16.trans (g17.trans (g18.trans (g19.trans (g20.trans (g21.trans (g22.trans (g23.trans (g24.trans (g25.trans (g26.trans (g27.trans (g28.trans (g29.trans (g30.trans (g31.trans (g32.trans (g33.trans (g34.trans (g35.trans (g36))))))))))))))))))))))))))))))
  have S6 : Same HH6 HH36 := g7.trans (g8.trans (g9.trans (g10.trans (g11.trans (g12.trans (g13.trans (g14.trans (g15.trans (g16.trans (g17.trans (g18.trans (g19.trans (g20.trans (g21.trans (g22.trans (g23.trans (g24.trans (g25.trans (g26.trans (g27.trans (g28.trans (g29.trans (g30.trans (g31.trans (g32.trans (g33.trans (g34.trans (g35.trans (g36)))))))))))))))))))))))))))))
  have S7 : Same HH7 HH36 := g8.trans (g9.trans (g10.trans (g11.trans (g12.trans (g13.trans (g14.trans (g15.trans (g16.trans (g17.trans (g18.trans (g19.trans (g20.trans (g21.trans (g22.trans (g23.trans (g24.trans (g25.trans (g26.trans (g27.trans (g28.trans (g29.trans (g30.trans (g31.trans (g32.trans (g33.trans (g34.trans (g35.trans (g36))))))))))))))))))))))))))))
  have S8 : Same HH8 HH36 := g9.trans (g10.trans (g11.trans (g12.trans (g13.trans (g14.trans (g15.trans (g16.trans (g17.trans (g18.trans (g19.trans (g20.trans (g21.trans (g22.trans (g23.trans (g24.trans (g25.trans (g26.trans (g27.trans (g28.trans (g29.trans (g30.trans (g31.trans (g32.trans (g33.trans (g34.trans (g35.trans (g36)))))))))))))))))))))))))))
  have S9 : Same HH9 HH36 := g10.trans (g11.trans (g12.trans (g13.trans (g14.trans (g15.trans (g16.trans (g17.trans (g18.trans (g19.trans (g20.trans (g21.trans (g22.trans (g23.trans (g24.trans (g25.trans (g26.trans (g27.trans (g28.trans (g29.trans (g30.trans (g31.trans (g32.trans (g33.trans (g34.trans (g35.trans (g36))))))))))))))))))))))))))
  have S10 : Same HH10 HH36 := g11.trans (g12.trans (g13.trans (g14.trans (g15.trans (g16.trans (g17.trans (g18.trans (g19.trans (g20.trans (g21.trans (g22.trans (g23.trans (g24.trans (g25.trans (g26.trans (g27.trans (g28.trans (g29.trans (g30.trans (g31.trans (g32.trans (g33.trans (g34.trans (g35.trans (g36)))))))))))))))))))))))))
  have S11 : Same HH11 HH36 := g12.trans (g13.trans (g14.trans (g15.trans (g16.trans (g17.trans (g18.trans (g19.trans (g20.trans (g21.trans (g22.trans (g23.trans (g24.trans (g25.trans (g26.trans (g27.trans (g28.trans (g29.trans (g30.trans (g31.trans (g32.trans (g33.trans (g34.trans (g35.trans (g36))))))))))))))))))))))))
  have S12 : Same HH12 HH36 := g13.trans (g14.trans (g15.trans (g16.trans (g17.trans (g18.trans (g19.trans (g20.trans (g21.trans (g22.trans (g23.trans (g24.trans (g25.trans (g26.trans (g27.trans (g28.trans (g29.trans (g30.trans (g31.trans (g32.trans (g33.trans (g34.trans (g35.trans (g36)))))))))))))))))))))))
  have S13 : Same HH13 HH36 := g14.trans (g15.trans (g16.trans (g17.trans (g18.trans (g19.trans (g20.trans (g21.trans (g22.trans (g23.trans (g24.trans (g25.trans (g26.trans (g27.trans (g28.trans (g29.trans (g30.trans (g31.trans (g32.trans (g33.trans (g34.trans (g35.trans (g36))))))))))))))))))))))
  have S14 : Same HH14 HH36 := g15.trans (g16.trans (g17.trans (g18.trans (g19.trans (g20.trans (g21.trans (g22.trans (g23.trans (g24.trans (g25.trans (g26.trans (g27.trans (g28.trans (g29.trans (g30.trans (g31.trans (g32.trans (g33.trans (g34.trans (g35.trans (g36)))))))))))))))))))))
  have S15 : Same HH15 HH36 := g16.trans (g17.trans (g18.trans (g19.trans (g20.trans (g21.trans (g22.trans (g23.trans (g24.trans (g25.trans (g26.trans (g27.trans (g28.trans (g29.trans (g30.trans (g31.trans (g32.trans (g33.trans (g34.trans (g35.trans (g36))))))))))))))))))))
  have S16 : Same HH16 HH36 := g17.trans (g18.trans (g19.trans (g20.trans (g21.trans (g22.trans (g23.trans (g24.trans (g25.trans (g26.trans (g27.trans (g28.trans (g29.trans (g30.trans (g31.trans (g32.trans (g33.trans (g34.trans (g35.trans (g36)))))))))))))))))))
  have S17 : Same HH17 HH36 := g18.trans (g19.trans (g20.trans (g21.trans (g22.trans (g23.trans (g24.trans (g25.trans (g26.trans (g27.trans (g28.trans (g29.trans (g30.trans (g31.trans (g32.trans (g33.trans (g34.trans (g35.trans (g36))))))))))))))))))
  have S18 : Same HH18 HH36 := g19.trans (g20.trans (g21.trans (g22.trans (g23.trans (g24.trans (g25.trans (g26.trans (g27.trans (g28.trans (g29.trans (g30.trans (g31.trans (g32.trans (g33.trans (g34.trans (g35.trans (g36)))))))))))))))))
  have S19 : Same HH19 HH36 := g20.trans (g21.trans (g22.trans (g23.trans (g24.trans (g25.trans (g26.trans (g27.trans (g28.trans (g29.trans (g30.trans (g31.trans (g32.trans (g33.trans (g34.trans (g35.trans (g36))))))))))))))))
  have S20 : Same HH20 HH36 := g21.trans (g22.trans (g23.trans (g24.trans (g25.trans (g26.trans (g27.trans (g28.trans (g29.trans (g30.trans (g31.trans (g32.trans (g33.trans (g34.trans (g35.trans (g36)))))))))))))))
  have S21 : Same HH21 HH36 := g22.trans (g23.trans (g24.trans (g25.trans (g26.trans (g27.trans (g28.trans (g29.trans (g30.trans (g31.trans (g32.trans (g33.trans (g34.trans (g35.trans (g36))))))))))))))
  have S22 : Same HH22 HH36 := g23.trans (g24.trans (g25.trans (g26.trans (g27.trans (g28.trans (g29.trans (g30.trans (g31.trans (g32.trans (g33.trans (g34.trans (g35.trans (g36)))))))))))))
  have S23 : Same HH23 HH36 := g24.trans (g25.trans (g26.trans (g27.trans (g28.trans (g29.trans (g30.trans (g31.trans (g32.trans (g33.trans (g34.trans (g35.trans (g36))))))))))))
  have S24 : Same HH24 HH36 := g25.trans (g26.trans (g27.trans (g28.trans (g29.trans (g30.trans (g31.trans (g32.trans (g33.trans (g34.trans (g35.trans (g36)))))))))))
  have S25 : Same HH25 HH36 := g26.trans (g27.trans (g28.trans (g29.trans (g30.trans (g31.trans (g32.trans (g33.trans (g34.trans (g35.trans (g36))))))))))
  have S26 : Same HH26 HH36 := g27.trans (g28.trans (g29.trans (g30.trans (g31.trans (g32.trans (g33.trans (g34.trans (g35.trans (g36)))))))))
  have S27 : Same HH27 HH36 := g28.trans (g29.trans (g30.trans (g31.trans (g32.trans (g33.trans (g34.trans (g35.trans (g36))))))))
  have S28 : Same HH28 HH36 := g29.trans (g30.trans (g31.trans (g32.trans (g33.trans (g34.trans (g35.trans (g36)))))))
  have S29 : Same HH29 HH36 := g30.trans (g31.trans (g32.trans (g33.trans (g34.trans (g35.trans (g36))))))
  have S30 : Same HH30 HH36 := g31.trans (g32.trans (g33.trans (g34.trans (g35.trans (g36)))))
  have S31 : Same HH31 HH36 := g32.trans (g33.trans (g34.trans (g35.trans (g36))))
  have S32 : Same HH32 HH36 := g33.trans (g34.trans (g35.trans (g36)))
  have S33 : Same HH33 HH36 := g34.trans (g35.trans (g36))
  have S34 : Same HH34 HH36 := g35.trans (g36)
  have S35 : Same HH35 HH36 := g36
  have S36 : Same HH36 HH36 := Same.refl _
  have W1 : ∀ b o, HH1 b = some o → b ≠ t → HZ b = some o := fun b o h z => gz b o z (S1 _ _ h)
  have T1 : p1 ≠ t := fun z => by rw [z, (Same.refl _) _ _ ht] at hp1; cases hp1
  have W2 : ∀ b o, HH2 b = some o → b ≠ t → HZ b = some o := fun b o h z => gz b o z (S2 _ _ h)
  have T2 : p2 ≠ t := fun z => by rw [z, (g1) _ _ ht] at hp2; cases hp2
  have W3 : ∀ b o, HH3 b = some o → b ≠ t → HZ b = some o := fun b o h z => gz b o z (S3 _ _ h)
  have T3 : p3 ≠ t := fun z => by rw [z, (g1.trans (g2)) _ _ ht] at hp3; cases hp3
  have W4 : ∀ b o, HH4 b = some o → b ≠ t → HZ b = some o := fun b o h z => gz b o z (S4 _ _ h)
  have T4 : p4 ≠ t := fun z => by rw [z, (g1.trans (g2.trans (g3))) _ _ ht] at hp4; cases hp4
  have W5 : ∀ b o, HH5 b = some o → b ≠ t → HZ b = some o := fun b o h z => gz b o z (S5 _ _ h)
  have T5 : p5 ≠ t := fun z => by rw [z, (g1.trans (g2.trans (g3.trans (g4)))) _ _ ht] at hp5; cases hp5
  have W6 : ∀ b o, HH6 b = some o → b ≠ t → HZ b = some o := fun b o h z => gz b o z (S6 _ _ h)
  have T6 : p6 ≠ t := fun z => by rw [z, (g1.trans (g2.trans (g3.trans (g4.trans (g5))))) _ _ ht] at hp6; cases hp6
  have W7 : ∀ b o, HH7 b = some o → b ≠ t → HZ b = some o := fun b o h z => gz b o z (S7 _ _ h)
  have T7 : p7 ≠ t := fun z => by rw [z, (g1.trans (g2.trans (g3.trans (g4.trans (g5.trans (g6)))))) _ _ ht] at hp7; cases hp7
  have W8 : ∀ b o, HH8 b = some o → b ≠ t → HZ b = some o := fun b o h z => gz b o z (S8 _ _ h)
  have T8 : p8 ≠ t := fun z => by rw [z, (g1.trans (g2.trans (g3.trans (g4.trans (g5.trans (g6.trans (g7))))))) _ _ ht] at hp8; cases hp8
  have W9 : ∀ b o, HH9 b = some o → b ≠ t → HZ b = some o := fun b o h z => gz b o z (S9 _ _ h)
  have T9 : p9 ≠ t := fun z => by rw [z, (g1.trans (g2.trans (g3.trans (g4.trans (g5.trans (g6.trans (g7.trans (g8)))))))) _ _ ht] at hp9; cases hp9
  have W10 : ∀ b o, HH10 b = some o → b ≠ t → HZ b = some o := fun b o h z => gz b o z (S10 _ _ h)
  have T10 : p10 ≠ t := fun z => by rw [z, (g1.trans (g2.trans (g3.trans (g4.trans (g5.trans (g6.trans (g7.trans (g8.trans (g9))))))))) _ _ ht] at hp10; cases hp10
  have W11 : ∀ b o, HH11 b = some o → b ≠ t → HZ b = some o := fun b o h z => gz b o z (S11 _ _ h)
  have T11 : p11 ≠ t := fun z => by rw [z, (g1.trans (g2.trans (g3.trans (g4.trans (g5.trans (g6.trans (g7.trans (g8.trans (g9.trans (g10)))))))))) _ _ ht] at hp11; cases hp11
  have W12 : ∀ b o, HH12 b = some o → b ≠ t → HZ b = some o := fun b o h z => gz b o z (S12 _ _ h)
  have T12 : p12 ≠ t := fun z => by rw [z, (g1.trans (g2.trans (g3.trans (g4.trans (g5.trans (g6.trans (g7.trans (g8.trans (g9.trans (g10.trans (g11))))))))))) _ _ ht] at hp12; cases hp12
  have W13 : ∀ b o, HH13 b = some o → b ≠ t → HZ b = some o := fun b o h z => gz b o z (S13 _ _ h)
  have T13 : p13 ≠ t := fun z => by rw [z, (g1.trans (g2.trans (g3.trans (g4.trans (g5.trans (g6.trans (g7.trans (g8.trans (g9.trans (g10.trans (g11.trans (g12)))))))))))) _ _ ht] at hp13; cases hp13
  have W14 : ∀ b o, HH14 b = some o → b ≠ t → HZ b = some o := fun b o h z => gz b o z (S14 _ _ h)
  have T14 : p14 ≠ t := fun z => by rw [z, (g1.trans (g2.trans (g3.trans (g4.trans (g5.trans (g6.trans (g7.trans (g8.trans (g9.trans (g10.trans (g11.trans (g12.trans (g13))))))))))))) _ _ ht] at hp14; cases hp14
  have W15 : ∀ b o, HH15 b = some o → b ≠ t → HZ b = some o := fun b o h z => gz b o z (S15 _ _ h)
  have T15 : p15 ≠ t := fun z => by rw [z, (g1.trans (g2.trans (g3.trans (g4.trans (g5.trans (g6.trans (g7.trans (g8.trans (g9.trans (g10.trans (g11.trans (g12.trans (g13.trans (g14)))))))))))))) _ _ ht] at hp15; cases hp15
  have W16 : ∀ b o, HH16 b = some o → b ≠ t → HZ b = some o := fun b o h z => gz b o z (S16 _ _ h)
  have T16 : p16 ≠ t := fun z => by rw [z, (g1.trans (g2.trans (g3.trans (g4.trans (g5.trans (g6.trans (g7.trans (g8.trans (g9.trans (g10.trans (g11.trans (g12.trans (g13.trans (g14.trans (g15))))))))))))))) _ _ ht] at hp16; cases hp16
  have W17 : ∀ b o, HH17 b = some o → b ≠ t → HZ b = some o := fun b o h z => gz b o z (S17 _ _ h)
  have T17 : p17 ≠ t := fun z => by rw [z, (g1.trans (g2.trans (g3.trans (g4.trans (g5.trans (g6.trans (g7.trans (g8.trans (g9.trans (g10.trans (g11.trans (g12.trans (g13.trans (g14.trans (g15.trans (g16)))))))))))))))) _ _ ht] at hp17; cases hp17
  have W18 : ∀ b o, HH18 b = some o → b ≠ t → HZ b = some o := fun b o h z => gz b o z (S18 _ _ h)
  have T18 : p18 ≠ t := fun z => by rw [z, (g1.trans (g2.trans (g3.trans (g4.trans (g5.trans (g6.trans (g7.trans (g8.trans (g9.trans (g10.trans (g11.trans (g12.trans (g13.trans (g14.trans (g15.trans (g16.trans (g17))))))))))))))))) _ _ ht] at hp18; cases hp18
  have W19 : ∀ b o, HH19 b = some o → b ≠ t → HZ b = some o := fun b o h z => gz b o z (S19 _ _ h)
  have T19 : p19 ≠ t := fun z => by rw [z, (g1.trans (g2.trans (g3.trans (g4.trans (g5.trans (g6.trans (g7.trans (g8.trans (g9.trans (g10.trans (g11.trans (g12.trans (g13.trans (g14.trans (g15.trans (g16.trans (g17.trans (g18)))))))))))))))))) _ _ ht] at hp19; cases hp19
  have W20 : ∀ b o, HH20 b = some o → b ≠ t → HZ b = some o := fun b o h z => gz b o z (S20 _ _ h)
  have T20 : p20 ≠ t := fun z => by rw [z, (g1.trans (g2.trans (g3.trans (g4.trans (g5.trans (g6.trans (g7.trans (g8.trans (g9.trans (g10.trans (g11.trans (g12.trans (g13.trans (g14.trans (g15.trans (g16.trans (g17.trans (g18.trans (g19))))))))))))))))))) _ _ ht] at hp20; cases hp20
  have W21 : ∀ b o, HH21 b = some o → b ≠ t → HZ b = some o := fun b o h z => gz b o z (S21 _ _ h)
  have T21 : p21 ≠ t := fun z => by rw [z, (g1.trans (g2.trans (g3.trans (g4.trans (g5.trans (g6.trans (g7.trans (g8.trans (g9.trans (g10.trans (g11.trans (g12.trans (g13.trans (g14.trans (g15.trans (g16.trans (g17.trans (g18.trans (g19.trans (g20)))))))))))))))))))) _ _ ht] at hp21; cases hp21
  have W22 : ∀ b o, HH22 b = some o → b ≠ t → HZ b = some o := fun b o h z => gz b o z (S22 _ _ h)
  have T22 : p22 ≠ t := fun z => by rw [z, (g1.trans (g2.trans (g3.trans (g4.trans (g5.trans (g6.trans (g7.trans (g8.trans (g9.trans (g10.trans (g11.trans (g12.trans (g13.trans (g14.trans (g15.trans (g16.trans (g17.trans (g18.trans (g19.trans (g20.trans (g21))))))))))))))))))))) _ _ ht] at hp22; cases hp22
  have W23 : ∀ b o, HH23 b = some o → b ≠ t → HZ b = some o := fun b o h z => gz b o z (S23 _ _ h)
  have T23 : p23 ≠ t := fun z => by rw [z, (g1.trans (g2.trans (g3.trans (g4.trans (g5.trans (g6.trans (g7.trans (g8.trans (g9.trans (g10.trans (g11.trans (g12.trans (g13.trans (g14.trans (g15.trans (g16.trans (g17.trans (g18.trans (g19.trans (g20.trans (g21.trans (g22)))))))))))))))))))))) _ _ ht] at hp23; cases hp23
  have W24 : ∀ b o, HH24 b = some o → b ≠ t → HZ b = some o := fun b o h z => gz b o z (S24 _ _ h)
  have T24 : p24 ≠ t := fun z => by rw [z, (g1.trans (g2.trans (g3.trans (g4.trans (g5.trans (g6.trans (g7.trans (g8.trans (g9.trans (g10.trans (g11.trans (g12.trans (g13.trans (g14.trans (g15.trans (g16.trans (g17.trans (g18.trans (g19.trans (g20.trans (g21.trans (g22.trans (g23))))))))))))))))))))))) _ _ ht] at hp24; cases hp24
  have W25 : ∀ b o, HH25 b = some o → b ≠ t → HZ b = some o := fun b o h z => gz b o z (S25 _ _ h)
  have T25 : p25 ≠ t := fun z => by rw [z, (g1.trans (g2.trans (g3.trans (g4.trans (g5.trans (g6.trans (g7.trans (g8.trans (g9.trans (g10.trans (g11.trans (g12.trans (g13.trans (g14.trans (g15.trans (g16.trans (g17.trans (g18.trans (g19.trans (g20.trans (g21.trans (g22.trans (g23.trans (g24)))))))))))))))))))))))) _ _ ht] at hp25; cases hp25
  have W26 : ∀ b o, HH26 b = some o → b ≠ t → HZ b = some o := fun b o h z => gz b o z (S26 _ _ h)
  have T26 : p26 ≠ t := fun z => by rw [z, (g1.trans (g2.trans (g3.trans (g4.trans (g5.trans (g6.trans (g7.trans (g8.trans (g9.trans (g10.trans (g11.trans (g12.trans (g13.trans (g14.trans (g15.trans (g16.trans (g17.trans (g18.trans (g19.trans (g20.trans (g21.trans (g22.trans (g23.trans (g24.trans (g25))))))))))))))))))))))))) _ _ ht] at hp26; cases hp26
  have W27 : ∀ b o, HH27 b = some o → b ≠ t → HZ b = some o := fun b o h z => gz b o z (S27 _ _ h)
  have T27 : p27 ≠ t := fun z => by rw [z, (g1.trans (g2.trans (g3.trans (g4.trans (g5.trans (g6.trans (g7.trans (g8.trans (g9.trans (g10.trans (g11.trans (g12.trans (g13.trans (g14.trans (g15.trans (g16.trans (g17.trans (g18.trans (g19.trans (g20.trans (g21.trans (g22.trans (g23.trans (g24.trans (g25.trans (g26)))))))))))))))))))))))))) _ _ ht] at hp27; cases hp27
  have W28 : ∀ b o, HH28 b = some o → b ≠ t → HZ b = some o := fun b o h z => gz b o z (S28 _ _ h)
  have T28 : p28 ≠ t := fun z => by rw [z, (g1.trans (g2.trans (g3.trans (g4.trans (g5.trans (g6.trans (g7.trans (g8.trans (g9.trans (g10.trans (g11.trans (g12.trans (g13.trans (g14.trans (g15.trans (g16.trans (g17.trans (g18.trans (g19.trans (g20.trans (g21.trans (g22.trans (g23.trans (g24.trans (g25.trans (g26.trans (g27))))))))))))))))))))))))))) _ _ ht] at hp28; cases hp28
  have W29 : ∀ b o, HH29 b = some o → b ≠ t → HZ b = some o := fun b o h z => gz b o z (S29 _ _ h)
  have T29 : p29 ≠ t := fun z => by rw [z, (g1.trans (g2.trans (g3.trans (g4.trans (g5.trans (g6.trans (g7.trans (g8.trans (g9.trans (g10.trans (g11.trans (g12.trans (g13.trans (g14.trans (g15.trans (g16.trans (g17.trans (g18.trans (g19.trans (g20.trans (g21.trans (g22.trans (g23.trans (g24.trans (g25.trans (g26.trans (g27.trans (g28)))))))))))))))))))))))))))) _ _ ht] at hp29; cases hp29
  have W30 : ∀ b o, HH30 b = some o → b ≠ t → HZ b = some o := fun b o h z => gz b o z (S30 _ _ h)
  have T30 : p30 ≠ t := fun z => by rw [z, (g1.trans (g2.trans (g3.trans (g4.trans (g5.trans (g6.trans (g7.trans (g8.trans (g9.trans (g10.trans (g11.trans (g12.trans (g13.trans (g14.trans (g15.trans (g16.trans (g17.trans (g18.trans (g19.trans (g20.trans (g21.trans (g22.trans (g23.trans (g24.trans (g25.trans (g26.trans (g27.trans (g28.trans (g29))))))))))))))))))))))))))))) _ _ ht] at hp30; cases hp30
  have W31 : ∀ b o, HH31 b = some o → b ≠ t → HZ b = some o := fun b o h z => gz b o z (S31 _ _ h)
  have T31 : p31 ≠ t := fun z => by rw [z, (g1.trans (g2.trans (g3.trans (g4.trans (g5.trans (g6.trans (g7.trans (g8.trans (g9.trans (g10.trans (g11.trans (g12.trans (g13.trans (g14.trans (g15.trans (g16.trans (g17.trans (g18.trans (g19.trans (g20.trans (g21.trans (g22.trans (g23.trans (g24.trans (g25.trans (g26.trans (g27.trans (g28.trans (g29.trans (g30)))))))))))))))))))))))))))))) _ _ ht] at hp31; cases hp31
  have W32 : ∀ b o, HH32 b = some o → b ≠ t → HZ b = some o := fun b o h z => gz b o z (S32 _ _ h)
  have T32 : p32 ≠ t := fun z => by rw [z, (g1.trans (g2.trans (g3.trans (g4.trans (g5.trans (g6.trans (g7.trans (g8.trans (g9.trans (g10.trans (g11.trans (g12.trans (g13.trans (g14.trans (g15.trans (g16.trans (g17.trans (g18.trans (g19.trans (g20.trans (g21.trans (g22.trans (g23.trans (g24.trans (g25.trans (g26.trans (g27.trans (g28.trans (g29.trans (g30.trans (g31))))))))))))))))))))))))))))))) _ _ ht] at hp32; cases hp32
  have W33 : ∀ b o, HH33 b = some o → b ≠ t → HZ b = some o := fun b o h z => gz b o z (S33 _ _ h)
  have T33 : p33 ≠ t := fun z => by rw [z, (g1.trans (g2.trans (g3.trans (g4.trans (g5.trans (g6.trans (g7.trans (g8.trans (g9.trans (g10.trans (g11.trans (g12.trans (g13.trans (g14.trans (g15.trans (g16.trans (g17.trans (g18.trans (g19.trans (g20.trans (g21.trans (g22.trans (g23.trans (g24.trans (g25.trans (g26.trans (g27.trans (g28.trans (g29.trans (g30.trans (g31.trans (g32)))))))))))))))))))))))))))))))) _ _ ht] at hp33; cases hp33
  have W34 : ∀ b o, HH34 b = some o → b ≠ t → HZ b = some o := fun b o h z => gz b o z (S34 _ _ h)
  have T34 : p34 ≠ t := fun z => by rw [z, (g1.trans (g2.trans (g3.trans (g4.trans (g5.trans (g6.trans (g7.trans (g8.trans (g9.trans (g10.trans (g11.trans (g12.trans (g13.trans (g14.trans (g15.trans (g16.trans (g17.trans (g18.trans (g19.trans (g20.trans (g21.trans (g22.trans (g23.trans (g24.trans (g25.trans (g26.trans (g27.trans (g28.trans (g29.trans (g30.trans (g31.trans (g32.trans (g33))))))))))))))))))))))))))))))))) _ _ ht] at hp34; cases hp34
  have W35 : ∀ b o, HH35 b = some o → b ≠ t → HZ b = some o := fun b o h z => gz b o z (S35 _ _ h)
  have T35 : p35 ≠ t := fun z => by rw [z, (g1.trans (g2.trans (g3.trans (g4.trans (g5.trans (g6.trans (g7.trans (g8.trans (g9.trans (g10.trans (g11.trans (g12.trans (g13.trans (g14.trans (g15.trans (g16.trans (g17.trans (g18.trans (g19.trans (g20.trans (g21.trans (g22.trans (g23.trans (g24.trans (g25.trans (g26.trans (g27.trans (g28.trans (g29.trans (g30.trans (g31.trans (g32.trans (g33.trans (g34)))))))))))))))))))))))))))))))))) _ _ ht] at hp35; cases hp35
  have W36 : ∀ b o, HH36 b = some o → b ≠ t → HZ b = some o := fun b o h z => gz b o z (S36 _ _ h)
  have T36 : p36 ≠ t := fun z => by rw [z, (g1.trans (g2.trans (g3.trans (g4.trans (g5.trans (g6.trans (g7.trans (g8.trans (g9.trans (g10.trans (g11.trans (g12.trans (g13.trans (g14.trans (g15.trans (g16.trans (g17.trans (g18.trans (g19.trans (g20.trans (g21.trans (g22.trans (g23.trans (g24.trans (g25.trans (g26.trans (g27.trans (g28.trans (g29.trans (g30.trans (g31.trans (g32.trans (g33.trans (g34.trans (g35))))))))))))))))))))))))))))))))))) _ _ ht] at hp36; cases hp36
  simp only [List.mem_cons, List.not_mem_nil, or_false] at hv
  rcases hv with rfl | rfl | rfl | rfl | rfl | rfl | rfl | rfl | rfl | rfl | rfl | rfl | rfl | rfl
  · exact q _ (.none) HZ (.non) rfl ((GG.x t).trans gz) tz
  · exact q _ (.int 5) HZ (.int _) rfl ((GG.x t).trans gz) tz
  · exact q _ (.tuple []) HZ (.tup (W1 _ _ e1 T1) .nil) rfl ((GG.x t).trans gz) tz
  · exact q _ (.tuple [.int 0, .tuple [.tuple [.int 1, .int 2]]]) HZ (.tup (W4 _ _ e4 T4) (.cons (.int _) (.cons (.tup (W3 _ _ e3 T3) (.cons (.tup (W2 _ _ e2 T2) (.cons (.int _) (.cons (.int _) .nil))) .nil)) .nil))) rfl ((GG.x t).trans gz) tz
  · exact q _ (.tuple [.int 5, .tuple [.tuple [.int 1, .int 2]]]) HZ (.tup (W7 _ _ e7 T7) (.cons (.int _) (.cons (.tup (W6 _ _ e6 T6) (.cons (.tup (W5 _ _ e5 T5) (.cons (.int _) (.cons (.int _) .nil))) .nil)) .nil))) rfl ((GG.x t).trans gz) tz
  · exact q _ (.tuple [.int 1, .tuple []]) HZ (.tup (W9 _ _ e9 T9) (.cons (.int _) (.cons (.tup (W8 _ _ e8 T8) .nil) .nil))) rfl ((GG.x t).trans gz) tz
  · exact q _ (.tuple [.int 1, .tuple [.tuple [.int 2, .int 1]]]) HZ (.tup (W12 _ _ e12 T12) (.cons (.int _) (.cons (.tup (W11 _ _ e11 T11) (.cons (.tup (W10 _ _ e10 T10) (.cons (.int _) (.cons (.int _) .nil))) .nil)) .nil))) rfl ((GG.x t).trans gz) tz
  · exact q _ (.tuple [.int 1, .tuple [.tuple [.int 0, .int 2]]]) HZ (.tup (W15 _ _ e15 T15) (.cons (.int _) (.cons (.tup (W14 _ _ e14 T14) (.cons (.tup (W13 _ _ e13 T13) (.cons (.int _) (.cons (.int _) .nil))) .nil)) .nil))) rfl ((GG.x t).trans gz) tz
  · exact q _ (.tuple [.int 1, .tuple [.tuple [.int 1, .int 100]]]) HZ (.tup (W19 _ _ e19 T19) (.cons (.int _) (.cons (.tup (W18 _ _ e18 T18) (.cons (.tup (W17 _ _ e17 T17) (.cons (.int _) (.cons (.int _) .nil))) .nil)) .nil))) rfl ((GG.x t).trans gz) tz
  · exact q _ (.tuple [.int 1, .tuple [.tuple [.int 1]]]) HZ (.tup (W22 _ _ e22 T22) (.cons (.int _) (.cons (.tup (W21 _ _ e21 T21) (.cons (.tup (W20 _ _ e20 T20) (.cons (.int _) .nil)) .nil)) .nil))) rfl ((GG.x t).trans gz) tz
  · exact q _ (.tuple [.int 1, .tuple [.tuple [.int 1, .int 2], .tuple [.int 1, .int 2], .tuple [.int 1, .int 2], .tuple [.int 1, .int 2], .tuple [.int 1, .int 2], .tuple [.int 1, .int 2], .tuple [.int 1, .int 2], .tuple [.int 1, .int 2], .tuple [.int 1, .int 2], .tuple [.int 1, .int 2], .tuple [.int 1, .int 2]]]) HZ (.tup (W26 _ _ e26 T26) (.cons (.int _) (.cons (.tup (W25 _ _ e25 T25) (.cons (.tup (W23 _ _ e23 T23) (.cons (.int _) (.cons (.int _) .nil))) (.cons (.tup (W23 _ _ e23 T23) (.cons (.int _) (.cons (.int _) .nil))) (.cons (.tup (W23 _ _ e23 T23) (.cons (.int _) (.cons (.int _) .nil))) (.cons (.tup (W23 _ _ e23 T23) (.cons (.int _) (.cons (.int _) .nil))) (.cons (.tup (W23 _ _ e23 T23) (.cons (.int _) (.cons (.int _) .nil))) (.cons (.tup (W23 _ _ e23 T23) (.cons (.int _) (.cons (.int _) .nil))) (.cons (.tup (W23 _ _ e23 T23) (.cons (.int _) (.cons (.int _) .nil))) (.cons (.tup (W23 _ _ e23 T23) (.cons (.int _) (.cons (.int _) .nil))) (.cons (.tup (W23 _ _ e23 T23) (.cons (.int _) (.cons (.int _) .nil))) (.cons (.tup (W23 _ _ e23 T23) (.cons (.int _) (.cons (.int _) .nil))) (.cons (.tup (W23 _ _ e23 T23) (.cons (.int _) (.cons (.int _) .nil))) .nil)))))))))))) .nil))) rfl ((GG.x t).trans gz) tz
  · exact q _ (.list [.int 1, .tuple [.tuple [.int 1, .int 2]]]) HZ (.lst (W29 _ _ e29 T29) (.cons (.int _) (.cons (.tup (W28 _ _ e28 T28) (.cons (.tup (W27 _ _ e27 T27) (.cons (.int _) (.cons (.int _) .nil))) .nil)) .nil))) rfl ((GG.x t).trans gz) tz
  · exact q _ (.tuple [.bool true, .tuple [.tuple [.int 1, .int 2]]]) HZ (.tup (W34 _ _ e34 T34) (.cons (.bl _) (.cons (.tup (W33 _ _ e33 T33) (.cons (.tup (W32 _ _ e32 T32) (.cons (.int _) (.cons (.int _) .nil))) .nil)) .nil))) rfl ((GG.x t).trans gz) tz
  · exact q _ (.str "1: 2") HZ (.str _) rfl ((GG.x t).trans gz) tz
end
end Be
set_option Elab.async false
set_option linter.all false
/-! Short ones first: of all rows it waits the least. Plain lists. -/
namespace Be
/-! ### what all wait, by how many come behind each on its bench -/
/-! ### weights by thresholds -/
/-! ### rising lengths: the benches are free in turn -/
theorem set_perm : ∀ {l : List Int} {i : Nat} {x v : Int}, l[i]? = some x → ∃ r, l.Perm (x :: r) ∧ (l.set i v).Perm (v :: r)
  | [], i, x, v, h => by simp at h
  | y :: l, 0, x, v, h => by
    have : y = x := by simpa using h
    subst this
    exact ⟨l, List.Perm.refl _, List.Perm.refl _⟩
  | y :: l, i + 1, x, v, h => by
    obtain ⟨r, p1, p2⟩ := set_perm (l := l) (i := i) (x := x) (v := v) (by simpa using h)
    refine ⟨y :: r, (p1.cons y).trans (List.Perm.swap x y r), ?_⟩
    rw [List.set_cons_succ]
    exact (p2.cons y).trans (List.Perm.swap v y r)
end Be
set_option Elab.async false
set_option linter.all false
set_option maxRecDepth 100000
namespace Be.G
open PySem L2
theorem lay_ints : ∀ xs : List Int, PyData.canLayAll0 (xs.map PyData.int) = true
  | [] => rfl
  | x :: xs => by rw [List.map_cons, PyData.canLayAll0, lay_ints xs]; rfl
theorem dep_ints : ∀ xs : List Int, PyData.depthAll (xs.map PyData.int) ≤ 10
  | [] => Nat.zero_le _
  | x :: xs => by
    have h2 := dep_ints xs
    rw [List.map_cons, PyData.depthAll]
    have h1 : (PyData.int x).depth ≤ 10 := by simp [PyData.depth]
    omega
theorem ixN_of {n : Nat} {k : Int} (h0 : 0 ≤ k) (h1 : k < (n : Int)) : ixN n k = some k.toNat := by
  unfold ixN
  rw [if_pos h0, if_pos h1]
section
variable {P : Program} {w : World} {K : PySem.W.Frag} {mg : Str → Option Value} {base : Heap}
theorem rep_zero (n : Nat) : (List.replicate n [V.int 0]).flatten = (zf n).map V.int := by
  rw [List.flatten_replicate_singleton]; unfold zf; rw [List.map_replicate]
theorem int_at {ls : List Int} {i : Nat} {x : V} (h : (ls.map V.int)[i]? = some x) : ∃ y : Int, ls[i]? = some y ∧ x = .int y := by
  rw [List.getElem?_map] at h
  cases e : ls[i]? with
  | none => rw [e] at h; cases h
  | some y => rw [e] at h; exact ⟨y, rfl, (Option.some.inj h).symm⟩
theorem take_snoc {α : Type} {l : List α} {i : Nat} {x : α} (h : l[i]? = some x) : l.take (i + 1) = l.take i ++ [x] := by
  rw [List.take_add_one, h]; rfl
theorem ix_pl {f : List Int} (h : f ≠ []) : ixN (f.map V.int).length (pl f : Int) = some (pl f) := by
  have := pl_lt h
  exact ixN_of (Int.natCast_nonneg _) (by rw [List.length_map]; omega)
theorem at_pl {f : List Int} (h : f ≠ []) : atI (f.map V.int) (pl f : Int) = some (.int (mn f)) := atI_nat (by rw [List.getElem?_map, pl_get h]; rfl)
theorem map_snocI {α : Type} {l : List α} {i : Nat} {x : α} (h : l[i]? = some x) (f : α → Int) : ((l.take i).map f).map V.int ++ [.int (f x)] = ((l.take (i + 1)).map f).map V.int := by
  rw [take_snoc h, List.map_append, List.map_append]; rfl
def sp_ends : Sp := fun vs H Q _ => ∃ (t : Addr) (b : Nat) (ls : List Int), vs = [.int b, .ref t] ∧ 0 < b ∧ b ≤ 4 ∧ H t = some (.tup (ls.map V.int)) ∧ ls.length ≤ 10 ∧ ∀ (l : Addr) (H' : Hp), Same H H' → H l = none → H' l = some (.lst ((ens b ls).map V.int)) → Q (.ref l) H'
set_option maxHeartbeats 1000000 in
theorem ok_law_ends (T : Txt K mg) : FnOk P w K mg base (CXr P w) 1 T.law_ends.a T.law_ends.d ["_law_many", "_law_some_here"] sp_ends := by
  refine T.law_ends.F.okN sc_law_ends (fun vs H Q E h => ?_) (fun cdv A outer s H vs Q E hr h => ?_)
  · obtain ⟨t, b, ls, rfl, _⟩ := h; rfl
  obtain ⟨t, b, ls, rfl, hb, hb4, ht, hl10, q⟩ := h
  refine ⟨_, (pss_cons (ps_par (i := 2) (j := 3) rfl sc_law_ends.nd rfl rfl (by decide) rfl rfl (pa_cons (pe_op op_rep (pe_lst (pa_cons pe_int pa_nil)) (pv 0)) (pa_cons (pe_lst pa_nil) pa_nil)) (by with_unfolding_all rfl)) (pss_cons (ps_for PassesOwn.never rfl (pi_tup (pv 1)) (pg_name (i := 4) sc_law_ends.nd rfl (by first | exact Or.inl rfl | exact Or.inr rfl)) (pss_cons (ps_set (i := 5) sc_law_ends.nd rfl (by first | exact Or.inl rfl | exact Or.inr rfl) (pe_bm PySem.F.plainAttrs_list PySem.F.slot_list_index PySem.F.type_list_index mt_indexI (pv 2) (pa_cons (pe_callB (call_minL rfl) rfl T.n_min bt_min (pa_cons (pv 2) pa_nil)) pa_nil))) (pss_cons (ps_asg (pe_op op_add (pe_ix ix_list (pv 2) (pv 5) (fun _ _ => rfl)) (pv 4)) (pg_sub (pv 2) (pv 5) set_list)) (pss_one (ps_expr (pe_bm PySem.F.plainAttrs_list PySem.F.slot_list_append PySem.F.type_list_append mt_append (pv 3) (pa_cons (pe_ix ix_list (pv 2) (pv 5) (fun _ _ => rfl)) pa_nil))))))) (pss_one (ps_ret (pv 3))))), ?_⟩
  have b1 : 0 < b := hb
  refine ⟨by show 1 ≤ sizeLine; decide, fun l0 hl0 => ?_⟩
  have g0 := same_new hl0 (.lst [.int 0])
  have eb : ((b : Nat) : Int).toNat = b := Int.toNat_natCast b
  refine ⟨_, rfl, l0, _, _, rfl, rfl, upd_same, by omega, by omega, Nat.le_trans (show 1 * ((b : Nat) : Int).toNat ≤ 100 by omega) (by decide), fun f hf => ?_⟩
  have g1 := g0.trans (same_new hf (.lst (List.replicate ((b : Nat) : Int).toNat [V.int 0]).flatten))
  have hf1 : upd (upd H l0 (.lst [.int 0])) f (.lst (List.replicate ((b : Nat) : Int).toNat [V.int 0]).flatten) f = some (.lst ((zf b).map V.int)) := by rw [upd_same, rep_zero, eb]
  have ff : H f = none := g0.free hf
  generalize upd (upd H l0 (.lst [.int 0])) f (.lst (List.replicate ((b : Nat) : Int).toNat [V.int 0]).flatten) = H1 at *
  refine ⟨Nat.zero_le _, fun d hd => ?_⟩
  have g2 := same_new hd (.lst [])
  have fd : H d = none := g1.free hd
  have hfd : f ≠ d := fun z => by rw [z, hd] at hf1; cases hf1
  refine ⟨_, _, rfl, _, rfl, t, rfl, ⟨_, SqT.of (g2 _ _ (g1 _ _ ht))⟩, for_tup (K := K) (a := t) (xs := ls.map V.int) (fun i σ H2 => ∃ (x4 x5 : Option V), σ = [some (.int b), some (.ref t), some (.ref f), some (.ref d), x4, x5] ∧ Same H H2 ∧ H2 f = some (.lst ((fr (zf b) (ls.take i)).map V.int)) ∧ H2 d = some (.lst (((tk (zf b) (ls.take i)).map fun t => t.2.2).map V.int))) ?_ ?_ ?_ ?_⟩
  · exact ⟨none, none, rfl, g1.trans g2, g2 _ _ hf1, upd_same⟩
  · rintro i σ H2 _ ⟨x4, x5, rfl, g, _⟩
    exact SqT.of (g _ _ ht)
  · rintro i u σ H2 hu ⟨x4, x5, rfl, g, hf2, hd2⟩
    obtain ⟨x, hx, rfl⟩ := int_at hu
    have hfne : fr (zf b) (ls.take i) ≠ [] := fr_ne (zf_ne (by omega))
    have ef : fr (zf b) (ls.take (i + 1)) = nxt (fr (zf b) (ls.take i)) x := by rw [take_snoc hx, fr_snoc]
    have et := tk_snoc (zf b) (ls.take i) x
    rw [← take_snoc hx] at et
    have hi : i < ls.length := (List.getElem?_eq_some_iff.mp hx).1
    have tl := tk_len (zf b) (ls.take i)
    rw [List.length_take] at tl
    generalize fr (zf b) (ls.take i) = F at *
    refine ⟨_, rfl, .inl ⟨rfl, _, SqL.of hf2⟩, _, rfl, f, F, rfl, hf2, hfne, fun M hM hMl => ?_⟩
    obtain rfl := mn_eq hM hMl
    refine ⟨f, F, _, pl F, rfl, rfl, hf2, pl_get hfne, pl_first, ?_⟩
    refine ⟨_, rfl, _, rfl, f, _, _, _, rfl, rfl, SqL.of hf2, at_pl hfne, _, rfl, _, _, rfl, rfl, _, rfl, _, rfl, f, _, _, _, rfl, rfl, hf2, ix_pl hfne, ?_⟩
    have hdn : d ≠ f := Ne.symm hfd
    have hd3 : upd H2 f (.lst ((F.map V.int).set (pl F) (.int (mn F + x)))) d = some (.lst (((tk (zf b) (ls.take i)).map fun t => t.2.2).map V.int)) := by rw [upd_ne hdn]; exact hd2
    have hf3 : upd H2 f (.lst ((F.map V.int).set (pl F) (.int (mn F + x)))) f = some (.lst ((nxt F x).map V.int)) := by rw [upd_same]; unfold nxt; rw [List.map_set]
    have gf : Same H (upd H2 f (.lst ((F.map V.int).set (pl F) (.int (mn F + x))))) := g.write ff _
    generalize upd H2 f (.lst ((F.map V.int).set (pl F) (.int (mn F + x)))) = H3 at *
    have at3 : atI ((nxt F x).map V.int) (pl F : Int) = some (.int (mn F + x)) := atI_nat (by rw [List.getElem?_map]; unfold nxt; rw [List.getElem?_set_self (pl_lt hfne)]; rfl)
    refine ⟨_, rfl, .inl ⟨rfl, _, SqL.of hd3⟩, _, rfl, _, rfl, f, _, _, _, rfl, rfl, SqL.of hf3, at3, d, _, _, rfl, rfl, hd3, ?_, ?_⟩
    · rw [List.length_map, List.length_map]
      exact Nat.lt_of_lt_of_le (show _ < 100 by omega) (by decide)
    refine ⟨_, _, rfl, gf.write fd _, ?_, ?_⟩
    · rw [upd_ne hfd, ef]; exact hf3
    · rw [upd_same, et, List.map_append, List.map_append]; rfl
  · rintro σ H2 ⟨x4, x5, rfl, g, hf2, hd2⟩
    rw [List.length_map, List.take_length] at hd2
    exact ⟨_, rfl, q d H2 g fd hd2⟩
def enp (ls : List Int) : List (Int × Int) := (List.range ls.length).map fun (k : Nat) => (ls.getD k 0, (k : Int))
theorem enp_len (ls : List Int) : (enp ls).length = ls.length := by unfold enp; rw [List.length_map, List.length_range]
theorem enp_at {ls : List Int} {i : Nat} {x : Int} (h : ls[i]? = some x) : (enp ls)[i]? = some (x, (i : Int)) := by
  have hi := (List.getElem?_eq_some_iff.mp h).1
  unfold enp
  rw [List.getElem?_map, List.getElem?_range hi]
  show some (ls.getD i 0, (i : Int)) = _
  rw [List.getD_eq_getElem?_getD, h]; rfl
theorem enp_mem {ls : List Int} {p : Int × Int} (h : p ∈ enp ls) : 0 ≤ p.2 ∧ p.2 < (ls.length : Int) ∧ p.1 = ls.getD p.2.toNat 0 := by
  obtain ⟨k, hk, rfl⟩ := List.mem_map.mp h
  have := List.mem_range.mp hk
  refine ⟨by show (0 : Int) ≤ (k : Int); omega, by show (k : Int) < _; omega, ?_⟩
  show ls.getD k 0 = ls.getD ((k : Int)).toNat 0
  rw [Int.toNat_natCast]
theorem enp_rg {ls : List Int} (h10 : ls.length ≤ 10) {ps : List (Int × Int)} (pm : ps.Perm (enp ls)) : ∀ p ∈ ps, BE.RgP p := fun p hp => by
  have := enp_mem (pm.mem_iff.mp hp)
  exact ⟨this.1, by omega⟩
theorem _root_.L2.PairsIn.ts {H H' : Hp} {ws : List V} {ps : List (Int × Int)} (x : PairsIn H ws ps) (g : TSame H H') : PairsIn H' ws ps := ⟨x.1, fun i p hp => by
  obtain ⟨q, h1, h2⟩ := x.2 i p hp
  exact ⟨q, h1, g _ _ h2⟩⟩
theorem _root_.L2.PairsIn.snoc {H : Hp} {ws : List V} {ps : List (Int × Int)} {q : Addr} {p : Int × Int} (x : PairsIn H ws ps) (h : H q = some (.tup [.int p.1, .int p.2])) : PairsIn H (ws ++ [.ref q]) (ps ++ [p]) := by
  refine ⟨by simp [x.1], fun i p' hp => ?_⟩
  by_cases c : i < ps.length
  · rw [List.getElem?_append_left c] at hp
    obtain ⟨q', h1, h2⟩ := x.2 i p' hp
    exact ⟨q', by rw [List.getElem?_append_left (by rw [x.1]; exact c)]; exact h1, h2⟩
  · have hl := (List.getElem?_eq_some_iff.mp hp).1
    rw [List.length_append] at hl
    simp only [List.length_cons, List.length_nil] at hl
    have e : i = ps.length := by omega
    subst e
    rw [List.getElem?_append_right (Nat.le_refl _), Nat.sub_self] at hp
    have : p = p' := by simpa using hp
    subst this
    exact ⟨q, by rw [List.getElem?_append_right (by rw [x.1]; exact Nat.le_refl _), x.1, Nat.sub_self]; rfl, h⟩
theorem _root_.L2.PairsIn.at {H : Hp} {ws : List V} {ps : List (Int × Int)} (x : PairsIn H ws ps) {i : Nat} {u : V} (h : ws[i]? = some u) : ∃ (p : Int × Int) (q : Addr), ps[i]? = some p ∧ u = .ref q ∧ H q = some (.tup [.int p.1, .int p.2]) := by
  have hi := (List.getElem?_eq_some_iff.mp h).1
  have hp : i < ps.length := by rw [← x.1]; exact hi
  obtain ⟨q, h1, h2⟩ := x.2 i _ (List.getElem?_eq_getElem hp)
  rw [h] at h1
  exact ⟨_, q, List.getElem?_eq_getElem hp, Option.some.inj h1, h2⟩
def sp_lord : Sp := fun vs H Q _ => ∃ (v : V) (t : Addr) (W : Wd) (l0 : List Int), vs = [v, .ref t] ∧ Rep H v (encW W) ∧ W.Ok ∧ H t = some (.tup (l0.map V.int)) ∧ InB W l0 ∧ ∀ (l : Addr) (ps : List (Int × Int)) (H' : Hp), Same H H' → ps.Perm (enp (ens W.b.toNat l0)) → ps.Pairwise leP → H' l = some (.tup ((ps.map fun p => p.2).map V.int)) → Q (.ref l) H'
theorem ok_law_order (T : Txt K mg) : FnOk P w K mg base (CXr P w) 2 T.law_order.a T.law_order.d ["_law_world_here", "_law_some_here"] sp_lord := by
  refine T.law_order.F.okN sc_law_order (fun vs H Q E h => ?_) (fun cdv A outer s H vs Q E hr h => ?_)
  · obtain ⟨v, t, W, l0, rfl, _⟩ := h; rfl
  obtain ⟨v, t, W, l0, rfl, hW, hok, ht, hin, q⟩ := h
  refine ⟨_, (pss_cons (ps_set (i := 2) sc_law_order.nd rfl (by first | exact Or.inl rfl | exact Or.inr rfl) (pe_callB call_sortP rfl T.n_sorted bt_sorted (pa_cons (pe_comp (NB := ["_law_work", "_law_end"]) (js := [none, none]) rfl (blkOk_of rfl (by decide +kernel) rfl (by decide +kernel) (by decide +kernel) (by with_unfolding_all rfl) (by with_unfolding_all rfl) (by with_unfolding_all rfl) (by with_unfolding_all rfl)) (pi_enumL rfl T.n_enumerate (pa_cons (pe_call (ok_law_ends T) (hr.mono (by decide)) rfl T.law_ends.m T.law_ends.F.kp T.law_ends.b .nil passN (pa_cons (pe_ix ix_tup (pv 0) pe_int (fun _ _ => rfl)) (pa_cons (pv 1) pa_nil))) pa_nil)) (fun _ _ _ _ => (b_pg_tup K (n := 2) rfl (pgs_cons (pg_name (i := 0) (show (["_law_work", "_law_end"] : List Str).Nodup by decide +kernel) rfl (by first | exact Or.inl rfl | exact Or.inr rfl)) (pgs_cons (pg_name (i := 1) (show (["_law_work", "_law_end"] : List Str).Nodup by decide +kernel) rfl (by first | exact Or.inl rfl | exact Or.inr rfl)) pgs_nil)))) (fun _ _ _ _ => pf_nil) (fun _ _ _ _ => (pe_tup (pa_cons (pv 1) (pa_cons (pv 0) pa_nil))))) pa_nil))) (pss_one (ps_ret (pe_callTy call_tuple_of rfl T.n_tuple bt_tuple (pa_cons (pe_comp (NB := ["_law_end", "_law_work"]) (js := [none, none]) rfl (blkOk_of rfl (by decide +kernel) rfl (by decide +kernel) (by decide +kernel) (by with_unfolding_all rfl) (by with_unfolding_all rfl) (by with_unfolding_all rfl) (by with_unfolding_all rfl)) (pi_list (pv 2)) (fun _ _ _ _ => (b_pg_tup K (n := 2) rfl (pgs_cons (pg_name (i := 0) (show (["_law_end", "_law_work"] : List Str).Nodup by decide +kernel) rfl (by first | exact Or.inl rfl | exact Or.inr rfl)) (pgs_cons (pg_name (i := 1) (show (["_law_end", "_law_work"] : List Str).Nodup by decide +kernel) rfl (by first | exact Or.inl rfl | exact Or.inr rfl)) pgs_nil)))) (fun _ _ _ _ => pf_nil) (fun _ _ _ _ => (pv 1))) pa_nil))))), ?_⟩
  have b1 := hok.b1
  have b4 := hok.b4
  have h010 := hin.l10 hok
  obtain ⟨ca, cp, cvs, AW⟩ := atW hW
  obtain rfl := AW.v
  refine ⟨_, rfl, ca, _, _, _, rfl, rfl, SqT.of AW.a, rfl, _, rfl, t, W.b.toNat, l0, by rw [Int.toNat_of_nonneg (by omega)]; rfl, by omega, by omega, ht, h010, fun le H1 g1 _ hle => ?_⟩
  have hl10 : (ens W.b.toNat l0).length ≤ 10 := by rw [ens_len]; exact h010
  generalize ens W.b.toNat l0 = ls at *
  refine ⟨le, _, rfl, SqL.of hle, fun D hD => ?_⟩
  refine comp_enumLR (K := K) (a := le) (xs := ls.map V.int) (fun i ys H2 => Same H1 H2 ∧ H2 D = some (.lst ys) ∧ PairsIn H2 ys ((enp ls).take i)) ⟨same_new hD _, upd_same, rfl, fun i p hp => by simp at hp⟩ (fun i ys H2 _ hP => SqL.of (hP.1 _ _ hle)) (fun i ys v p H2 hv hp hP => ?_) (fun ys H2 hP => ?_)
  · obtain ⟨g, hD2, pin⟩ := hP
    obtain ⟨x, hx, rfl⟩ := int_at hv
    have hi : i < ls.length := (List.getElem?_eq_some_iff.mp hx).1
    have gp := same_new hp (.tup [.int i, .int x])
    have wl := pin.1
    rw [List.length_take, enp_len] at wl
    refine ⟨p, _, rfl, SqT.of upd_same, rfl, _, _, rfl, _, _, rfl, rfl, agree2, iteT ⟨_, rfl, _, rfl, by show 2 ≤ sizeLine; decide, fun pe hpe => ?_⟩⟩
    have ge := same_new hpe (.tup [.int x, .int i])
    have g3 := g.trans (gp.trans ge)
    refine ⟨(gp.trans ge) _ _ hD2, Nat.lt_of_lt_of_le (show ys.length < 100 by omega) (by decide), g3.write hD _, upd_same, ?_⟩
    rw [take_snoc (enp_at hx)]
    have ts : TSame H2 (upd (upd (upd H2 p (.tup [.int i, .int x])) pe (.tup [.int x, .int i])) D (.lst (ys ++ [.ref pe]))) := (gp.trans ge).ts.trans (TSame.lst ((gp.trans ge) _ _ hD2) _)
    refine (pin.ts ts).snoc ?_
    rw [upd_ne (fun z => by rw [z, gp _ _ hD2] at hpe; cases hpe), upd_same]
  · obtain ⟨g, hD2, pin⟩ := hP
    rw [List.length_map, List.take_of_length_le (by rw [enp_len]; exact Nat.le_refl _)] at pin
    refine ⟨D, ys, enp ls, rfl, hD2, pin, enp_rg hl10 (List.Perm.refl _), by rw [enp_len]; omega, fun l ws' ps' hl pm pw pin' => ?_⟩
    have gl := same_new hl (.lst ws')
    have pin2 := pin'.ts gl.ts
    have hl2 : upd H2 l (.lst ws') l = some (.lst ws') := upd_same
    generalize upd H2 l (.lst ws') = H3 at *
    have plen : ps'.length = ls.length := by rw [pm.length_eq, enp_len]
    refine ⟨_, rfl, l, rfl, ⟨_, SqL.of hl2⟩, fun D2 hD2' => ?_⟩
    refine comp_listR (K := K) (a := l) (xs := ws') (fun i ys H4 => Same H3 H4 ∧ H4 D2 = some (.lst ys) ∧ ys = ((ps'.take i).map fun p => p.2).map V.int) ⟨same_new hD2' _, upd_same, rfl⟩ (fun i ys H4 _ hP => SqL.of (hP.1 _ _ hl2)) (fun i ys y H4 hy hP => ?_) (fun ys H4 hP => ?_)
    · obtain ⟨g4, hz, rfl⟩ := hP
      obtain ⟨pp, qq, hpp, rfl, hq⟩ := (pin2.ts g4.ts).at hy
      refine ⟨qq, _, rfl, SqT.of hq, rfl, _, _, rfl, _, _, rfl, rfl, agree2, iteT ⟨_, rfl, hz, ?_, g4.write hD2' _, upd_same, map_snocI hpp _⟩⟩
      rw [List.length_map, List.length_map]
      have := List.length_take_le' i ps'
      exact Nat.lt_of_lt_of_le (show _ < 100 by omega) (by decide)
    · obtain ⟨g4, hz, rfl⟩ := hP
      rw [pin'.1, List.take_length] at hz
      refine ⟨D2, _, rfl, .inl ⟨SqL.of hz, fun pt hpt => ?_⟩⟩
      exact q pt ps' _ (g1.trans (g.trans (gl.trans (g4.trans (same_new hpt _))))) pm pw upd_same
end
end Be.G
set_option Elab.async false
set_option linter.all false
/-! Earliest moments, by passes over the rules: plain Lean. -/
namespace Be
def fn (r : List Int) (i : Nat) : Int := r.getD i 0
/-! sums and counts -/
/-! the rules of an order -/
theorem bnd_mem {W : Wd} {x : Int} (h0 : 0 ≤ x) (h1 : x < (W.bs.length : Int)) : bnd W x ∈ W.bs := by
  unfold bnd
  rw [List.getD_eq_getElem?_getD, List.getElem?_eq_getElem (show x.toNat < W.bs.length by omega)]
  exact List.getElem_mem _
end Be
set_option Elab.async false
set_option linter.all false
/-! The program's walks, on lists; what may end next: plain Lean. -/
namespace Be
/-! all events are reached in the first round -/
/-! walks and passes -/
end Be
set_option Elab.async false
set_option linter.all false
namespace Be
theorem bnd_ok {W : Wd} (hok : W.Ok) {x : Int} (h0 : 0 ≤ x) (h1 : x < (W.bs.length : Int)) : 1 ≤ (bnd W x).1 ∧ (bnd W x).1 ≤ (bnd W x).2 ∧ (bnd W x).2 ≤ 99 := hok.bd _ (bnd_mem h0 h1)
theorem VO.take {W : Wd} {o : List Int} (vo : VO W o) (k : Nat) : VO W (o.take k) := ⟨vo.nd.sublist (List.take_sublist k o), fun i x e => by
  have hi : i < (o.take k).length := (List.getElem?_eq_some_iff.mp e).1
  rw [List.length_take] at hi
  rw [List.getElem?_take_of_lt (by omega)] at e
  exact vo.at_ i x e⟩
end Be
set_option Elab.async false
set_option linter.all false
/-! An order that is played is an order, and it can have been: by the moments of its ends. -/
namespace Be
theorem nxt_ge {f : List Int} {x : Int} (hx : 0 ≤ x) (hne : f ≠ []) : ∀ y ∈ nxt f x, mn f ≤ y := fun y hy => by
  unfold nxt at hy
  rcases List.mem_or_eq_of_mem_set hy with h | h
  · exact mn_le h
  · omega
theorem mn_nxt {f : List Int} {x : Int} (hx : 0 ≤ x) (hne : f ≠ []) : mn f ≤ mn (nxt f x) := nxt_ge hx hne _ (mn_mem (nxt_ne hne))
theorem fr_ge : ∀ {ls f : List Int}, (∀ x ∈ ls, 0 ≤ x) → f ≠ [] → ∀ y ∈ fr f ls, mn f ≤ y
  | [], f, _, _, y, hy => mn_le hy
  | x :: ls, f, h, hne, y, hy => by
    have a := fr_ge (ls := ls) (f := nxt f x) (fun z hz => h z (by simp [hz])) (nxt_ne hne) y hy
    have b := mn_nxt (h x (by simp)) hne
    omega
theorem bg_ge : ∀ {ls f : List Int}, (∀ x ∈ ls, 0 ≤ x) → f ≠ [] → ∀ y ∈ (tk f ls).map (fun t => t.2.1), mn f ≤ y
  | [], f, _, _, y, hy => by simp [tk] at hy
  | x :: ls, f, h, hne, y, hy => by
    rcases List.mem_cons.mp (show y ∈ mn f :: (tk (nxt f x) ls).map (fun t => t.2.1) from hy) with e | hy
    · omega
    have a := bg_ge (ls := ls) (f := nxt f x) (fun z hz => h z (by simp [hz])) (nxt_ne hne) y hy
    have b := mn_nxt (h x (by simp)) hne
    omega
/-- the begins rise, and none is later than what is free -/
theorem bg_rise : ∀ {ls f : List Int}, (∀ x ∈ ls, 0 ≤ x) → f ≠ [] → ((tk f ls).map (fun t => t.2.1)).Pairwise (· ≤ ·) ∧ ∀ a ∈ (tk f ls).map (fun t => t.2.1), ∀ y ∈ fr f ls, a ≤ y
  | [], f, _, _ => ⟨by simp [tk], by simp [tk]⟩
  | x :: ls, f, h, hne => by
    have h' : ∀ z ∈ ls, 0 ≤ z := fun z hz => h z (by simp [hz])
    obtain ⟨p, q⟩ := bg_rise (ls := ls) (f := nxt f x) h' (nxt_ne hne)
    have b := mn_nxt (h x (by simp)) hne
    refine ⟨?_, fun a ha y hy => ?_⟩
    · show (mn f :: (tk (nxt f x) ls).map (fun t => t.2.1)).Pairwise (· ≤ ·)
      rw [List.pairwise_cons]
      exact ⟨fun y hy => by have := bg_ge h' (nxt_ne hne) y hy; omega, p⟩
    · rcases List.mem_cons.mp (show a ∈ mn f :: (tk (nxt f x) ls).map (fun t => t.2.1) from ha) with e | ha
      · have := fr_ge h' (nxt_ne hne) y hy
        omega
      · exact q a ha y hy
/-- begins and what is free: the same as what was free, and the ends -/
theorem bg_perm : ∀ {ls f : List Int}, f ≠ [] → ((tk f ls).map (fun t => t.2.1) ++ fr f ls).Perm (f ++ (tk f ls).map (fun t => t.2.2))
  | [], f, _ => by show ([] ++ f).Perm (f ++ []); rw [List.append_nil]; exact List.Perm.refl _
  | x :: ls, f, hne => by
    have ih := bg_perm (ls := ls) (f := nxt f x) (nxt_ne hne)
    obtain ⟨r, p1, p2⟩ := set_perm (v := mn f + x) (pl_get hne)
    show (mn f :: ((tk (nxt f x) ls).map (fun t => t.2.1) ++ fr (nxt f x) ls)).Perm (f ++ (mn f + x) :: (tk (nxt f x) ls).map (fun t => t.2.2))
    refine (ih.cons (mn f)).trans ?_
    refine (((show (nxt f x).Perm ((mn f + x) :: r) from p2).append_right _).cons (mn f)).trans ?_
    refine List.Perm.trans ?_ (p1.symm.append_right _)
    show (mn f :: (mn f + x) :: (r ++ (tk (nxt f x) ls).map (fun t => t.2.2))).Perm (mn f :: (r ++ (mn f + x) :: (tk (nxt f x) ls).map (fun t => t.2.2)))
    exact (List.perm_middle.symm).cons _
theorem sorted_pre {A F C : List Int} (p : (A ++ F).Perm C) (hA : A.Pairwise (· ≤ ·)) (hC : C.Pairwise (· ≤ ·)) (h : ∀ a ∈ A, ∀ y ∈ F, a ≤ y) : C.take A.length = A := by
  have hs : (F.mergeSort fun a b => decide (a ≤ b)).Pairwise (· ≤ ·) := (List.pairwise_mergeSort (le := fun a b : Int => decide (a ≤ b)) (fun a b c h1 h2 => by simp at h1 h2 ⊢; omega) (fun a b => by simp; omega) F).imp fun h => by simpa using h
  have pm := List.mergeSort_perm F fun a b => decide (a ≤ b)
  have e : C = A ++ F.mergeSort fun a b => decide (a ≤ b) := by
    refine sorted_one (p.symm.trans ((pm.symm).append_left A)) hC ?_
    rw [List.pairwise_append]
    exact ⟨hA, hs, fun a ha y hy => h a ha y (pm.mem_iff.mp hy)⟩
  rw [e, List.take_left]
theorem bg_sorted {b : Nat} {ls S : List Int} (hb : 0 < b) (hl : ∀ x ∈ ls, 1 ≤ x) (pS : S.Perm (ens b ls)) (so : S.Pairwise (· ≤ ·)) : bgs b ls = (zf b ++ S).take ls.length := by
  have h0 : ∀ x ∈ ls, 0 ≤ x := fun x hx => by have := hl x hx; omega
  obtain ⟨r1, r2⟩ := bg_rise h0 (zf_ne hb)
  have S0 : ∀ y ∈ S, 0 ≤ y := fun y hy => by
    obtain ⟨t, ht, rfl⟩ := List.mem_map.mp (pS.mem_iff.mp hy)
    have := bg_perm (ls := ls) (zf_ne hb)
    have m : t.2.2 ∈ (tk (zf b) ls).map (fun t => t.2.1) ++ fr (zf b) ls := this.mem_iff.mpr (List.mem_append_right _ (List.mem_map_of_mem ht))
    have z0 : mn (zf b) = 0 := by have := (zf_bd b _ (mn_mem (zf_ne hb))); omega
    rcases List.mem_append.mp m with m | m
    · have := bg_ge h0 (zf_ne hb) _ m; omega
    · have := fr_ge h0 (zf_ne hb) _ m; omega
  have e := sorted_pre (A := (tk (zf b) ls).map (fun t => t.2.1)) (F := fr (zf b) ls) (C := zf b ++ S) ((bg_perm (zf_ne hb)).trans (pS.symm.append_left _)) r1 (by
    rw [List.pairwise_append]
    refine ⟨?_, so, fun a ha y hy => by have := zf_bd b a ha; have := S0 y hy; omega⟩
    exact List.pairwise_replicate.mpr (.inr (Int.le_refl _))) r2
  rw [List.length_map, tk_len] at e
  exact e.symm
theorem en_at : ∀ {ls f : List Int} {k : Nat}, k < ls.length → ((tk f ls).map (fun t => t.2.2)).getD k 0 = ((tk f ls).map (fun t => t.2.1)).getD k 0 + ls.getD k 0
  | x :: ls, f, 0, _ => rfl
  | x :: ls, f, k + 1, h => en_at (ls := ls) (f := nxt f x) (k := k) (by simp at h; omega)
/-- each work with its end -/
def pairsE (b : Nat) (ls : List Int) : List (Int × Int) := (List.range ls.length).map fun (k : Nat) => ((ens b ls).getD k 0, (k : Int))
structure Played (W : Wd) (ls : List Int) (ps : List (Int × Int)) : Prop where
  len : ls.length = W.bs.length
  bd : ∀ k, k < ls.length → (bnd W (k : Int)).1 ≤ ls.getD k 0 ∧ ls.getD k 0 ≤ (bnd W (k : Int)).2
  pm : ps.Perm (pairsE W.b.toNat ls)
  so : ps.Pairwise fun p q => p.1 ≤ q.1
section
variable {W : Wd} {ls : List Int} {ps : List (Int × Int)}
theorem pE_fst (b : Nat) (ls : List Int) : (pairsE b ls).map (fun p => p.1) = ens b ls := by
  unfold pairsE
  rw [List.map_map]
  apply List.ext_getElem?
  intro i
  rw [List.getElem?_map]
  by_cases h : i < ls.length
  · rw [List.getElem?_range h, List.getElem?_eq_getElem (by rw [ens_len]; exact h)]
    show some ((ens b ls).getD i 0) = _
    rw [List.getD_eq_getElem?_getD, List.getElem?_eq_getElem (by rw [ens_len]; exact h)]
    rfl
  · rw [List.getElem?_eq_none (by rw [List.length_range]; omega), List.getElem?_eq_none (by rw [ens_len]; omega)]
    rfl
theorem Played.plen (h : Played W ls ps) : ps.length = W.bs.length := by
  rw [h.pm.length_eq, ← h.len]; unfold pairsE; rw [List.length_map, List.length_range]
theorem Played.pos (h : Played W ls ps) (hok : W.Ok) : ∀ x ∈ ls, 1 ≤ x := fun x hx => by
  obtain ⟨k, hk, e⟩ := List.getElem_of_mem hx
  have a := h.bd k hk
  have b := bnd_ok hok (x := (k : Int)) (by omega) (by rw [← h.len]; omega)
  rw [List.getD_eq_getElem?_getD, List.getElem?_eq_getElem hk] at a
  have e2 : (some ls[k]).getD 0 = ls[k] := rfl
  rw [e2, e] at a
  omega
theorem Played.S (h : Played W ls ps) : (ps.map (fun p => p.1)).Perm (ens W.b.toNat ls) := by
  have := h.pm.map (fun p => p.1)
  rw [pE_fst] at this
  exact this
theorem Played.rise (h : Played W ls ps) : (ps.map (fun p => p.1)).Pairwise (· ≤ ·) := by rw [List.pairwise_map]; exact h.so
/-- what stands at a place: a work, and its end -/
theorem Played.at (h : Played W ls ps) {j : Nat} {p : Int × Int} (e : ps[j]? = some p) : 0 ≤ p.2 ∧ p.2 < (W.bs.length : Int) ∧ p.1 = (ens W.b.toNat ls).getD p.2.toNat 0 := by
  obtain ⟨k, hk, rfl⟩ := List.mem_map.mp (h.pm.mem_iff.mp (List.mem_of_getElem? e))
  have := List.mem_range.mp hk
  rw [h.len] at this
  exact ⟨Int.natCast_nonneg _, by omega, rfl⟩
/-- the moments of the events -/
def evs (ps : List (Int × Int)) : List Int := 0 :: ps.map (fun p => p.1)
/-- a work begins with its event -/
theorem Played.begin (h : Played W ls ps) (hok : W.Ok) {x : Nat} (hx : x < ls.length) : (bgs W.b.toNat ls).getD x 0 = fn (evs ps) (bg W (x : Int)).toNat := by
  have b1 := hok.b1
  rw [bg_sorted (by omega) (h.pos hok) h.S h.rise]
  unfold fn evs bg
  rw [List.getD_eq_getElem?_getD, List.getElem?_take_of_lt hx]
  by_cases c : (x : Int) < W.b
  · rw [if_pos c, List.getElem?_append_left (by rw [zf_len]; omega)]
    show ((List.replicate W.b.toNat (0 : Int))[x]?).getD 0 = 0
    rw [List.getElem?_replicate, if_pos (by omega)]; rfl
  · rw [if_neg c, List.getElem?_append_right (by rw [zf_len]; omega), zf_len]
    have e : ((x : Int) - W.b + 1).toNat = (x - W.b.toNat) + 1 := by omega
    rw [e, List.getD_cons_succ, List.getD_eq_getElem?_getD]
theorem Played.end_ (h : Played W ls ps) (hok : W.Ok) {j : Nat} {p : Int × Int} (e : ps[j]? = some p) : fn (evs ps) (j + 1) = fn (evs ps) (bg W p.2).toNat + ls.getD p.2.toNat 0 ∧ fn (evs ps) (j + 1) = p.1 := by
  obtain ⟨a, b, c⟩ := h.at e
  have hx : p.2.toNat < ls.length := by rw [h.len]; omega
  have d := h.begin hok hx
  have en := en_at (f := zf W.b.toNat) hx
  have e2 : ((p.2.toNat : Nat) : Int) = p.2 := by omega
  rw [e2] at d
  have f1 : fn (evs ps) (j + 1) = p.1 := by
    unfold fn evs
    rw [List.getD_cons_succ, List.getD_eq_getElem?_getD, List.getElem?_map, e]; rfl
  refine ⟨?_, f1⟩
  rw [f1, c, ← d]
  exact en
theorem Played.up (h : Played W ls ps) {i j : Nat} (hij : i ≤ j) (hj : j < ps.length) : fn (evs ps) (i + 1) ≤ fn (evs ps) (j + 1) := by
  unfold fn evs
  rw [List.getD_cons_succ, List.getD_cons_succ, List.getD_eq_getElem?_getD, List.getD_eq_getElem?_getD, List.getElem?_eq_getElem (by rw [List.length_map]; omega), List.getElem?_eq_getElem (by rw [List.length_map]; omega)]
  show (ps.map fun p => p.1)[i]'_ ≤ (ps.map fun p => p.1)[j]'_
  rcases Nat.lt_or_ge i j with c | c
  · exact List.pairwise_iff_getElem.mp h.rise i j _ _ c
  · have : i = j := by omega
    subst this
    exact Int.le_refl _
theorem at_snd {j : Nat} {x : Int} (e : (ps.map (fun p => p.2))[j]? = some x) : ∃ p, ps[j]? = some p ∧ p.2 = x := by
  rw [List.getElem?_map] at e
  cases h : ps[j]? with
  | none => rw [h] at e; cases e
  | some p => rw [h] at e; exact ⟨p, rfl, Option.some.inj e⟩
theorem Played.vo (h : Played W ls ps) (hok : W.Ok) : VO W (ps.map (fun p => p.2)) := by
  refine ⟨?_, fun i x e => ?_⟩
  · have p2 := h.pm.map (fun p => p.2)
    have e : (pairsE W.b.toNat ls).map (fun p => p.2) = upto ls.length := by unfold pairsE upto; rw [List.map_map]; rfl
    rw [e] at p2
    exact p2.nodup_iff.mpr (upto_nodup _)
  · obtain ⟨p, hp, rfl⟩ := at_snd e
    obtain ⟨a, b, c⟩ := h.at hp
    have hi : i < ps.length := (List.getElem?_eq_some_iff.mp hp).1
    refine ⟨a, ?_⟩
    have b1 := hok.b1
    have key : p.2 < (i : Int) + W.b := by
      rcases Int.lt_or_le p.2 ((i : Int) + W.b) with c | c
      · exact c
      exfalso
      have f := (h.end_ hok hp).1
      have hx : p.2.toNat < ls.length := by rw [h.len]; omega
      have l := h.bd p.2.toNat hx
      have bo := bnd_ok hok (x := p.2) a b
      have e2 : ((p.2.toNat : Nat) : Int) = p.2 := by omega
      rw [e2] at l
      have ebg : (bg W p.2).toNat = (p.2 - W.b).toNat + 1 := by unfold bg; rw [if_neg (by omega)]; omega
      rw [ebg] at f
      have u := h.up (i := i) (j := (p.2 - W.b).toNat) (by omega) (by rw [h.plen]; omega)
      omega
    unfold began
    omega
end
end Be
set_option Elab.async false
set_option linter.all false
set_option maxRecDepth 100000
namespace Be
open PySem L2 BE
open G (dep_ints lay_ints)
/-- an order as the law makes it is one that is played -/
theorem played_of {W : Wd} {ls : List Int} {ps : List (Int × Int)} (hin : InB W ls) (h10 : ls.length ≤ 10) (pm : ps.Perm (G.enp (ens W.b.toNat ls))) (pw : ps.Pairwise leP) : Played W ls ps := by
  have e : G.enp (ens W.b.toNat ls) = pairsE W.b.toNat ls := by unfold G.enp pairsE; rw [ens_len]
  have rg := G.enp_rg (by rw [ens_len]; exact h10) pm
  refine ⟨hin.1, fun k hk => ?_, e ▸ pm, List.Pairwise.imp_of_mem (fun {a b} ha hb h => ?_) pw⟩
  · have hk' : k < W.bs.length := by rw [← hin.1]; exact hk
    have c := hin.2 k _ _ (List.getElem?_eq_getElem hk') (List.getElem?_eq_getElem hk)
    unfold bnd
    rw [Int.toNat_natCast, List.getD_eq_getElem?_getD, List.getElem?_eq_getElem hk', List.getD_eq_getElem?_getD, List.getElem?_eq_getElem hk]
    exact c
  · have r1 := rg a ha
    have r2 := rg b hb
    unfold leP BE.kP at h
    unfold BE.RgP at r1 r2
    omega
theorem cut_any (xs : List V) (j : Int) (h : 0 ≤ j) : cutV xs none (some j) = xs.take j.toNat := by
  unfold cutV
  show (xs.drop 0).take ((if j < 0 then _ else min j.toNat xs.length) - 0) = _
  rw [if_neg (by omega), List.drop_zero, Nat.sub_zero]
  by_cases c : j.toNat ≤ xs.length
  · rw [Nat.min_eq_left c]
  · rw [Nat.min_eq_right (by omega), List.take_of_length_le (Nat.le_refl _), List.take_of_length_le (by omega)]
theorem sh_it (ms : List Int) : SeqAt.shaped (.tuple (ms.map .int)) = true := by
  have e1 := dep_ints ms
  unfold SeqAt.shaped
  rw [PyData.canLay0, lay_ints]
  have e : PyData.depth (.tuple (ms.map .int)) ≤ 20 := by rw [PyData.depth]; omega
  exact decide_eq_true (by omega)
def rfD (j : Int) : PyData := .tuple [.str "refused", .int j]
theorem rf_rep {H : Hp} {r : Addr} {j : Int} (h : H r = some (.tup [.str "refused", .int j])) : Rep H (.ref r) (rfD j) := .tup h (.cons (.str _) (.cons (.int _) .nil))
theorem seq_nx {r : TS} {D : Ends} {σ : St} {H : Hp} (h : r D σ H) : tSeq Ends.nx r D σ H := h
theorem len_take (z : Str) (k : Nat) : (⟨(z.cps.toList.take k).toArray⟩ : Str).length ≤ z.length := by
  show (z.cps.toList.take k).toArray.size ≤ z.cps.size
  rw [List.size_toArray, List.length_take, Array.length_toList]
  exact Nat.min_le_right ..
theorem len_cut (z : Str) (k j : Nat) (h : k ≤ j) : (⟨(z.cps.toList.take k).toArray⟩ : Str).length + (⟨(z.cps.toList.drop j).toArray⟩ : Str).length ≤ z.length := by
  show (z.cps.toList.take k).toArray.size + (z.cps.toList.drop j).toArray.size ≤ z.cps.size
  rw [List.size_toArray, List.size_toArray, List.length_take, List.length_drop, Array.length_toList]
  omega
theorem join2 {te : TE} {j : Nat} {u : TT} {s1 r : TS} {D : Ends} {σ : St} {H : Hp} (hK : ∀ (x : V) (H' : Hp), Same H H' → r D (σ.set j (some x)) H') (ht : ∀ C' : VK, (∀ (x : V) (H' : Hp), (∀ C2 : Bool → Hp → Prop, (∀ H'', Same H H'' → C2 false H'') → u (σ.set j (some x)) H' C2) → C' x H') → te σ H C') : tSeq (tAsg te (gName j)) (tSeq (tIfS u s1 tNext) r) D σ H :=
  ht _ fun x H' h => h _ fun H'' g => iteF (hK x H'' g)
theorem mem_more {y : V} (h : y ∈ ([.str "", .str "0", .str "1", .str "9", .str " ", .str "-", .str " 2", .str "a"] : List V)) : ∃ w : Str, y = .str w ∧ w.length ≤ 2 := by
  simp only [List.mem_cons, List.not_mem_nil, or_false] at h
  rcases h with rfl | rfl | rfl | rfl | rfl | rfl | rfl | rfl <;> exact ⟨_, rfl, by decide +kernel⟩
def noOrd (z : Str) : Bool := (List.range 11).all fun n => match rdT n z with
  | some o => !decide o.Nodup
  | none => true
theorem noOrd_no {W : Wd} {z : Str} (hok : W.Ok) (h : noOrd z = true) : ordT W z = none := ordT_no fun o ho v => by
  have l10 := hok.l10
  have := List.all_eq_true.mp h W.bs.length (List.mem_range.mpr (by omega))
  rw [ho] at this
  have nd := v.nd
  simp [nd] at this
theorem no_texts : ([" ", "00", "-1", "10", "0 0", "0,1", "a"] : List Str).all (fun z => noOrd z && decide (z.length ≤ 3)) = true := by decide +kernel
theorem odd_no {H : Hp} {q1 q2 : Addr} (h1 : H q1 = some (.tup [.str "0"])) (h2 : H q2 = some (.tup [.int 0])) {W : Wd} (hok : W.Ok) {y : V} (h : y ∈ ([.non, .int 5, .str " ", .str "00", .str "-1", .str "10", .str "0 0", .str "0,1", .str "a", .ref q1, .ref q2] : List V)) : ∃ d, Rep H y d ∧ (isStrD d = false ∨ ∃ z : Str, y = .str z ∧ z.length ≤ 900 ∧ ordT W z = none) := by
  have nt : ∀ z : Str, z ∈ ([" ", "00", "-1", "10", "0 0", "0,1", "a"] : List Str) → z.length ≤ 900 ∧ ordT W z = none := fun z hz => by
    have := List.all_eq_true.mp no_texts z hz
    rw [Bool.and_eq_true] at this
    have l := of_decide_eq_true this.2
    exact ⟨by omega, noOrd_no hok this.1⟩
  simp only [List.mem_cons, List.not_mem_nil, or_false] at h
  rcases h with rfl | rfl | rfl | rfl | rfl | rfl | rfl | rfl | rfl | rfl | rfl
  · exact ⟨.none, .non, .inl rfl⟩
  · exact ⟨.int 5, .int _, .inl rfl⟩
  · exact ⟨.str _, .str _, .inr ⟨_, rfl, nt _ (by simp)⟩⟩
  · exact ⟨.str _, .str _, .inr ⟨_, rfl, nt _ (by simp)⟩⟩
  · exact ⟨.str _, .str _, .inr ⟨_, rfl, nt _ (by simp)⟩⟩
  · exact ⟨.str _, .str _, .inr ⟨_, rfl, nt _ (by simp)⟩⟩
  · exact ⟨.str _, .str _, .inr ⟨_, rfl, nt _ (by simp)⟩⟩
  · exact ⟨.str _, .str _, .inr ⟨_, rfl, nt _ (by simp)⟩⟩
  · exact ⟨.str _, .str _, .inr ⟨_, rfl, nt _ (by simp)⟩⟩
  · exact ⟨.tuple [.str "0"], .tup h1 (.cons (.str _) .nil), .inl rfl⟩
  · exact ⟨.tuple [.int 0], .tup h2 (.cons (.int _) .nil), .inl rfl⟩
theorem z10 : PyData.eqv (rfD ((10 : Nat) : Int)) (rfD 10) = true := by decide +kernel
theorem z00 : PyData.eqv (rfD ((0 : Nat) : Int)) (rfD 0) = true := by decide +kernel
theorem rdW_map {n : Nat} (hn : n ≤ 100) : ∀ {o : List Int}, (∀ x ∈ o, 0 ≤ x ∧ x < (n : Int)) → rdW n (o.map nT) = some o
  | [], _ => rfl
  | x :: r, h => by
    have hx := h x List.mem_cons_self
    have ih := rdW_map hn (o := r) fun y hy => h y (List.mem_cons_of_mem _ hy)
    have e : wkN n (nT x) = some x := by
      cases e : wkN n (nT x) with
      | none => exact absurd rfl (wkN_none e x hx.1 (by omega))
      | some k =>
        have b := wkN_some e
        rw [nT_inj (i := x) (j := k) ⟨hx.1, by omega⟩ ⟨b.1, by omega⟩ b.2.2]
    show (match wkN n (nT x), rdW n (r.map nT) with | some k, some o => some (k :: o) | _, _ => none) = _
    rw [e, ih]
def sp_law (K : PySem.W.Frag) : Sp := fun vs H Q _ => ∃ (a : Addr) (ns : List Int), vs = [.ref a] ∧ Scr K H a ns ∧ ∀ H', Q (.bl true) H'
section
variable {P : Program} {w : World} {K : PySem.W.Frag} {mg : Str → Option Value} {base : Heap}
set_option maxHeartbeats 4000000 in
theorem ok_law (T : Txt K mg) (Z : Errs T) : FnOk P w K mg base (CXr P w) 8 T.law.a T.law.d ["_law_script"] (sp_law K) := by
  refine T.law.F.okN sc_law (fun vs H Q E h => ?_) (fun cdv A outer s H vs Q E hr h => ?_)
  · obtain ⟨a, ns, rfl, _⟩ := h; rfl
  obtain ⟨a, ns, rfl, hS, q⟩ := h
  have hu64 : (A.deeper (PyProof.Rows.envOfC "law" (defScope (top 48)) s.heap.objs.size T.law.a cdv)).units + 64 < cLine := by have := hr.un; omega
  suffices hh : ∃ t, CSs _ _ t ∧ t _ _ _ from hh.elim fun t h => ⟨t, h.1.pr, h.2⟩
  refine ⟨_, (css_cons (cs_set (i := 1) sc_law.nd rfl (by first | exact Or.inl rfl | exact Or.inr rfl) (ce_lst ca_nil)) (css_cons (CS.mk (ps_par (i := 2) (j := 3) rfl sc_law.nd rfl rfl (by decide) rfl rfl (pa_cons (pe_call (ok_law_draw T) (hr.mono (by decide)) rfl T.law_draw.m T.law_draw.F.kp T.law_draw.b .nil passN (pa_cons (pv 0) (pa_cons (pv 1) (pa_cons pe_int pa_nil)))) (pa_cons (pe_call (ok_law_draw T) (hr.mono (by decide)) rfl T.law_draw.m T.law_draw.F.kp T.law_draw.b .nil passN (pa_cons (pv 0) (pa_cons (pv 1) (pa_cons pe_int pa_nil)))) pa_nil)) (by with_unfolding_all rfl))) (css_cons (cs_set (i := 4) sc_law.nd rfl (by first | exact Or.inl rfl | exact Or.inr rfl) (CE.mk (pe_call (ok_law_world T) (hr.mono (by decide)) rfl T.law_world.m T.law_world.F.kp T.law_world.b .nil passN (CA.pr (ca_cons (CE.mk (pv 0)) (ca_cons (CE.mk (pv 1)) (ca_cons ce_int (ca_cons ce_int ca_nil)))))))) (css_cons (cs_set (i := 5) sc_law.nd rfl (by first | exact Or.inl rfl | exact Or.inr rfl) (CE.mk (pe_slice sl_tupA (pe_call (G.ok_law_order T) (hr.mono (by decide)) rfl T.law_order.m T.law_order.F.kp T.law_order.b .nil passN (pa_cons (pv 4) (pa_cons (pe_call (ok_law_some T) (hr.mono (by decide)) rfl T.law_some.m T.law_some.F.kp T.law_some.b .nil passN (pa_cons (pv 0) (pa_cons (pv 1) (pa_cons (pv 4) pa_nil)))) pa_nil))) po_none (po_some (pv 3))))) (css_cons (cs_set (i := 6) sc_law.nd rfl (by first | exact Or.inl rfl | exact Or.inr rfl) (CE.mk (pe_bm PySem.F.plainAttrs_str PySem.F.slot_str_join PySem.F.type_str_join mt_join pe_str (pa_cons (pe_comp (NB := ["_law_work"]) (js := [none]) rfl (blkOk_of rfl (by decide +kernel) rfl (by decide +kernel) (by decide +kernel) (by with_unfolding_all rfl) (by with_unfolding_all rfl) (by with_unfolding_all rfl) (by with_unfolding_all rfl)) (pi_tup (pv 5)) (fun _ _ _ _ => (pg_name (i := 0) (show (["_law_work"] : List Str).Nodup by decide +kernel) rfl (by first | exact Or.inl rfl | exact Or.inr rfl))) (fun _ _ _ _ => pf_nil) (fun _ _ _ _ => (pe_callTy call_str_int rfl T.n_str bt_str (pa_cons (pv 0) pa_nil)))) pa_nil)))) (css_cons (CS.mk (ps_if (PW.pt (pw_or (pt_cmpR op_ne (pe_call (ok_order_text T) (hr.mono (by decide)) rfl T.order_text.m T.order_text.F.kp T.order_text.b .nil passN (pa_cons (pv 4) (pa_cons (pv 5) pa_nil))) (pv 6) (nomark _)) (pw_or1 (pt_cmpR (op_neD hu64) (pe_call (ok_read_order T) (hr.mono (by decide)) rfl T.read_order.m T.read_order.F.kp T.read_order.b .nil passN (pa_cons (pv 4) (pa_cons (pv 6) pa_nil))) (pv 5) (nomark _))))) (pss_one (ps_ret pe_bl)) pss_nil)) (css_cons (CS.mk (ps_for PassesOwn.never rfl (pi_range1 rfl T.n_range (pa_cons (pv 2) pa_nil)) (pg_name (i := 7) sc_law.nd rfl (by first | exact Or.inl rfl | exact Or.inr rfl)) (pss_cons (ps_set (i := 8) sc_law.nd rfl (by first | exact Or.inl rfl | exact Or.inr rfl) (pe_call (ok_law_draw T) (hr.mono (by decide)) rfl T.law_draw.m T.law_draw.F.kp T.law_draw.b .nil passN (pa_cons (pv 0) (pa_cons (pv 1) (pa_cons (pe_op op_add (pe_callB call_len_str rfl T.n_len bt_len (pa_cons (pv 6) pa_nil)) pe_int) pa_nil))))) (pss_cons (ps_set (i := 9) sc_law.nd rfl (by first | exact Or.inl rfl | exact Or.inr rfl) (pe_call (ok_law_pick T) (hr.mono (by decide)) rfl T.law_pick.m T.law_pick.F.kp T.law_pick.b .nil passN (pa_cons (pv 0) (pa_cons (pv 1) (pa_cons (pe_lst (pa_cons pe_str (pa_cons pe_str (pa_cons pe_str (pa_cons pe_str (pa_cons pe_str (pa_cons pe_str (pa_cons pe_str (pa_cons pe_str pa_nil))))))))) pa_nil))))) (pss_one (ps_set (i := 6) sc_law.nd rfl (by first | exact Or.inl rfl | exact Or.inr rfl) (pe_op op_add_str (pe_op op_add_str (pe_slice sl_strA (pv 6) po_none (po_some (pv 8))) (pv 9)) (pe_slice sl_strA (pv 6) (po_some (pe_op op_add (pv 8) (pe_call (ok_law_draw T) (hr.mono (by decide)) rfl T.law_draw.m T.law_draw.F.kp T.law_draw.b .nil passN (pa_cons (pv 0) (pa_cons (pv 1) (pa_cons pe_int pa_nil)))))) po_none)))))))) (css_cons (cs_set (i := 10) sc_law.nd rfl (by first | exact Or.inl rfl | exact Or.inr rfl) (CE.mk (pe_call (ok_law_due T) (hr.mono (by decide)) rfl T.law_due.m T.law_due.F.kp T.law_due.b .nil passN (CA.pr (ca_cons (CE.mk (pv 4)) (ca_cons (CE.mk (pv 6)) ca_nil)))))) (css_cons (CS.mk (ps_if (pt_cmpR (op_neD hu64) (pe_call (ok_law_ask T Z) (hr.mono (by decide)) rfl T.law_ask.m T.law_ask.F.kp T.law_ask.b .nil passN (pa_cons (pv 4) (pa_cons (pv 6) pa_nil))) (pe_ifExp (pt_cmpR op_notN (pv 10) pe_non (nomark _)) (pv 10) (pe_tup (pa_cons pe_str (pa_cons pe_int pa_nil)))) (nomark _)) (pss_one (ps_ret pe_bl)) pss_nil)) (css_cons (cs_set (i := 11) sc_law.nd rfl (by first | exact Or.inl rfl | exact Or.inr rfl) (CE.mk (pe_call (ok_law_pick T) (hr.mono (by decide)) rfl T.law_pick.m T.law_pick.F.kp T.law_pick.b .nil passN (CA.pr (ca_cons (CE.mk (pv 0)) (ca_cons (CE.mk (pv 1)) (ca_cons (ce_lst (ca_cons ce_non (ca_cons ce_int (ca_cons ce_str (ca_cons ce_str (ca_cons ce_str (ca_cons ce_str (ca_cons ce_str (ca_cons ce_str (ca_cons ce_str (ca_cons (ce_tup (ca_cons ce_str ca_nil)) (ca_cons (ce_tup (ca_cons ce_int ca_nil)) ca_nil)))))))))))) ca_nil))))))) (css_one (cs_ret (CE.mk (pe_and (pe_cmpR (op_eqD hu64) (pe_call (ok_law_ask T Z) (hr.mono (by decide)) rfl T.law_ask.m T.law_ask.F.kp T.law_ask.b .nil passN (pa_cons (pv 4) (pa_cons (pv 11) pa_nil))) (pe_tup (pa_cons pe_str (pa_cons pe_int pa_nil))) (nomark _)) (pe_one (pe_cmpR (op_eqD hu64) (pe_call (ok_law_ask T Z) (hr.mono (by decide)) rfl T.law_ask.m T.law_ask.F.kp T.law_ask.b .nil passN (pa_cons (pe_call (ok_law_odd_world T) (hr.mono (by decide)) rfl T.law_odd_world.m T.law_odd_world.F.kp T.law_odd_world.b .nil passN (pa_cons (pv 0) (pa_cons (pv 1) pa_nil))) (pa_cons pe_str pa_nil))) (pe_tup (pa_cons pe_str (pa_cons pe_int pa_nil))) (nomark _))))))))))))))))), ?_⟩
  refine ⟨Nat.zero_le _, fun t ht => ?_⟩
  have g1 := same_new ht (.lst [])
  have hS1 := hS.same g1
  have t1 : upd H t (.lst []) t = some (.lst (zeros 0)) := upd_same
  generalize upd H t (.lst []) = HA at *
  have sl : 100000 ≤ sizeLine := by decide
  refine ⟨_, rfl, _, rfl, a, t, ns, 0, 3, rfl, hS1, t1, by omega, by omega, fun r0 HB r00 r03 g2 t2 => ?_⟩
  have hS2 := g2.scr t1 hS1
  refine ⟨_, rfl, _, rfl, a, t, ns, _, 11, rfl, hS2, t2, by omega, by omega, fun r1 HB' r10 r11 g2' t2' => ?_⟩
  have hS2' := g2'.scr t2 hS2
  refine ⟨_, _, rfl, _, rfl, _, rfl, a, t, ns, _, 10, 9, rfl, hS2', t2', by omega, by omega, by omega, by omega, by omega, fun W v n1 HC hok hwl hwd hW g3 t3 hn3 => ?_⟩
  have hS3 := g3.scr t2' hS2'
  have b1 := hok.b1
  have b4 := hok.b4
  have l10 := hok.l10
  refine ⟨_, rfl, _, rfl, _, rfl, _, rfl, a, t, v, ns, n1, W, rfl, hS3, t3, by omega, hW, hok, fun ls p n2 HD hin hp g4 t4 hn4 => ?_⟩
  have hS4 := g4.scr t3 hS3
  have hW4 : Rep HD v (encW W) := hW.tmono (g4.ts t3) (im_W W)
  have h10 := hin.l10 hok
  refine ⟨v, p, W, ls, rfl, hW4, hok, hp, hin, fun lo ps HE g5 pm pw hlo => ?_⟩
  have pl := played_of hin h10 pm pw
  have vo0 := pl.vo hok
  generalize (ps.map fun p => p.2) = o0 at *
  refine ⟨_, rfl, _, rfl, lo, _, rfl, hlo, fun po HF g6 hpo => ?_⟩
  rw [cut_any _ _ (by omega), ← List.map_take] at hpo
  have vo : VO W (o0.take r1.toNat) := vo0.take _
  generalize o0.take r1.toNat = o at *
  have g56 := g5.trans g6
  have hS5 := hS4.same g56
  have hW5 := hW4.mono g56
  have t5 := g56 _ _ t4
  clear hW4 hW hS4 hS3 hS2 hS2' hS1 hS g1 g2 g2' g3 g4 g5 g6 g56 t1 t2 t2' t3 t4 hp ht hlo pl pm pw
  have sm := vo.sml hok
  have vl := vo.len
  have olen := oT_len sm (by omega)
  -- its text
  refine ⟨rfl, _, rfl, po, rfl, ⟨_, SqT.of hpo⟩, fun D hD => ?_⟩
  refine comp_tupR (K := K) (a := po) (xs := o.map V.int) (fun i ys H2 => Same HF H2 ∧ H2 D = some (.lst ys) ∧ ys = ((o.take i).map nT).map V.str) ⟨same_new hD _, upd_same, rfl⟩ (fun i ys H2 _ hP => SqT.of (hP.1 _ _ hpo)) (fun i ys y H2 hy hP => ?_) (fun ys H2 hP => ?_)
  · obtain ⟨g, hD2, rfl⟩ := hP
    have hi : i < o.length := by have := (List.getElem?_eq_some_iff.mp hy).1; rw [List.length_map] at this; exact this
    rw [List.getElem?_map, List.getElem?_eq_getElem hi] at hy
    obtain rfl := Option.some.inj hy
    have bd := sm _ (List.getElem_mem hi)
    have et : o.take (i + 1) = o.take i ++ [o[i]] := by rw [List.take_add_one, List.getElem?_eq_getElem hi]; rfl
    rw [et]
    generalize o[i] = x at *
    refine ⟨agree0, iteT ⟨_, rfl, _, rfl, log_small bd.1 bd.2, hD2, ?_, g.write hD _, upd_same, ?_⟩⟩
    · rw [List.length_map, List.length_map, List.length_take]
      omega
    · rw [List.map_append, List.map_append]; rfl
  obtain ⟨g, hD2, rfl⟩ := hP
  rw [List.length_map, List.take_length] at hD2
  have tl : ((o.map nT).map (·.length)).sum + (o.map nT).length * (" " : Str).length ≤ 100 := by
    have b := sum_len (B := 2) (o.map nT) fun w hw => by
      obtain ⟨x, hx, rfl⟩ := List.mem_map.mp hw
      exact (nT_ok (sm x hx).1 (sm x hx).2).l
    have l1 : (" " : Str).length = 1 := by rw [sp_cps]; rfl
    rw [l1]
    rw [List.length_map] at b ⊢
    omega
  refine ⟨" ", D, o.map nT, rfl, rfl, hD2, by omega, ?_⟩
  have hS6 := hS5.same g
  have hW6 := hW5.mono g
  have t6 := g _ _ t5
  have hpo6 := g _ _ hpo
  clear hS5 hW5 t5 hD2 hD hpo
  have rdo : rdT W.bs.length (oT o) = some o := by
    by_cases c : o = []
    · subst c; exact if_pos (by decide +kernel)
    · unfold rdT
      rw [if_neg (oT_ne sm c), oT_split sm c]
      exact rdW_map (by omega) fun x hx => ⟨(vo.lt hx).1, (vo.lt hx).2⟩
  have oto := ordT_of rdo vo
  -- written and read
  refine ⟨_, rfl, _, rfl, v, .ref po, W, o, rfl, hW6, hok, .tup hpo6 Reps.ints, vo, fun H3 k3 => ?_⟩
  refine ⟨_, rfl, rfl, _, rfl, if_f (by simp [oT]) ?_⟩
  refine ⟨_, rfl, _, rfl, v, .str (oT o), encW W, .str (oT o), rfl, hW6.mono k3, .str _, .inr ⟨W, hok, rfl, .inr ⟨oT o, rfl, by omega, fun o' ho' p2 H4 k4 hp2 => ?_, fun hn => by rw [oto] at hn; cases hn⟩⟩⟩
  rw [oto] at ho'
  obtain rfl := Option.some.inj ho'
  have k34 := k3.trans k4
  refine ⟨_, rfl, _, _, .tup hp2 Reps.ints, .tup (k34 _ _ hpo6) Reps.ints, sh_it _, sh_it _, _, rfl, if_f (by rw [SeqAt.eqv_refl _ (SeqAt.canLay_of_shaped (sh_it _))]; rfl) ?_⟩
  have hS7 := hS6.same k34
  have hW7 := hW6.mono k34
  have t7 := k34 _ _ t6
  clear hS6 hW6 t6 hp2 hpo6 k3 k4 k34 tl
  refine ⟨_, rfl, r0, rfl, by omega, by omega, ?_⟩
  refine for_range (n := r0.toNat) (fun i σ H2 => ∃ (z : Str) (n3 : Nat) (x7 x8 x9 : Option V), σ = [some (.ref a), some (.ref t), some (.int r0), some (.int r1), some v, some (.ref po), some (.str z), x7, x8, x9, none, none] ∧ SameX t H4 H2 ∧ H2 t = some (.lst (zeros n3)) ∧ n3 ≤ n2 + 3 * i ∧ z.length ≤ 60 + 2 * i) ?_ ?_ ?_
  · exact ⟨_, n2, none, none, none, rfl, SameX.refl t H4, t7, by omega, olen⟩
  · rintro i σ H2 hi ⟨z, n3, x5, x6, x7, rfl, gx, t6, hn6, hz⟩
    have hS6 := gx.scr t7 hS7
    refine ⟨_, rfl, _, rfl, _, rfl, z, rfl, by omega, _, _, rfl, rfl, a, t, ns, n3, _, rfl, hS6, t6, by omega, by omega, fun at_ H3 a0 a1 g7 t7 => ?_⟩
    have hS7 := g7.scr t6 hS6
    refine ⟨_, rfl, _, rfl, by show 8 ≤ sizeLine; decide, fun lp hlp => ?_⟩
    have k8 := same_new hlp (.lst [.str "", .str "0", .str "1", .str "9", .str " ", .str "-", .str " 2", .str "a"])
    have e8 : upd H3 lp (.lst [.str "", .str "0", .str "1", .str "9", .str " ", .str "-", .str " 2", .str "a"]) lp = some (.lst [.str "", .str "0", .str "1", .str "9", .str " ", .str "-", .str " 2", .str "a"]) := upd_same
    have pt : lp ≠ t := fun z => by rw [z, t7] at hlp; cases hlp
    generalize upd H3 lp (.lst [.str "", .str "0", .str "1", .str "9", .str " ", .str "-", .str " 2", .str "a"]) = H4 at *
    refine ⟨a, t, lp, ns, n3 + 1, _, rfl, hS7.same k8, k8 _ _ t7, by omega, e8, pt, by simp, fun mv H5 hmv g9 t9 => ?_⟩
    have hS9 := g9.scr (k8 _ _ t7) (hS7.same k8)
    obtain ⟨w0, rfl, hw0⟩ := mem_more hmv
    have l1 := len_take z at_.toNat
    refine ⟨_, rfl, _, rfl, _, rfl, z, rfl, by omega, .inl ⟨at_, rfl, rfl, a0, _, rfl, _, _, rfl, rfl, by omega, ?_⟩⟩
    refine ⟨_, rfl, _, rfl, _, rfl, _, rfl, a, t, ns, n3 + 1 + 1, 2, rfl, hS9, t9, by omega, by omega, fun d H6 d0 d1 g10 t10 => ?_⟩
    have l2 := len_cut z at_.toNat (at_ + d).toNat (by omega)
    refine ⟨_, _, rfl, rfl, _, rfl, z, rfl, by omega, .inr ⟨at_ + d, rfl, rfl, by omega, _, _, rfl, rfl, ?_, ?_⟩⟩
    · rw [cat_len]; omega
    · refine ⟨_, _, _, _, _, rfl, ((gx.trans g7).trans (k8.x t)).trans (g9.trans g10), t10, by omega, ?_⟩
      rw [cat_len, cat_len]; omega
  rintro σ H2 ⟨z, n3, x5, x6, x7, rfl, gx, t6, hn6, hz⟩
  have hS6 := gx.scr t7 hS7
  have hW6 : Rep H2 v (encW W) := hW7.tmono (gx.ts t7) (im_W W)
  clear hS7 hW7 gx t7
  have hz : z.length ≤ 900 := by omega
  refine seq_nx ?_
  refine join2 ?_ (fun C hC => ?_)
  case refine_2 =>
    cases hot : ordT W z with
    | some o' =>
      refine ⟨_, rfl, _, rfl, v, W, z, rfl, hW6, hok, hz, fun o2 h2 d H5 g5 hd => hC _ _ fun C2 hC2 => ?_, fun hn => by rw [hot] at hn; cases hn⟩
      rw [hot] at h2
      obtain rfl := Option.some.inj h2
      refine ⟨_, rfl, _, rfl, .inr ⟨v, W, z, o', rfl, hok, hW6.mono g5, hz, hot, fun pa H7 g7 hpa => ?_⟩⟩
      refine ⟨_, rfl, rfl, _, rfl, if_t (by simp) ⟨_, rfl, _, _, .tup hpa Reps.ints, .tup (g7 _ _ hd) Reps.ints, sh_it _, sh_it _, _, rfl, ?_⟩⟩
      rw [SeqAt.eqv_refl _ (SeqAt.canLay_of_shaped (sh_it _))]
      exact hC2 _ (g5.trans g7)
    | none =>
      refine ⟨_, rfl, _, rfl, v, W, z, rfl, hW6, hok, hz, (fun o2 h2 => by rw [hot] at h2; cases h2), fun _ H5 g5 => hC _ _ fun C2 hC2 => ?_⟩
      refine ⟨_, rfl, _, rfl, .inl ⟨v, .str z, encW W, .str z, _, 10, rfl, .inr ⟨rfl, rfl⟩, hW6.mono g5, .str _, .inr ⟨rfl, W, hok, rfl, .inr ⟨z, rfl, hz, hot⟩⟩, fun r H7 g7 fr hr7 => ?_⟩⟩
      refine ⟨_, rfl, rfl, _, rfl, if_f (by simp) ⟨by show 2 ≤ sizeLine; decide, fun d hd => ?_⟩⟩
      have k8 := same_new hd (.tup [.str "refused", .int 10])
      refine ⟨_, _, rf_rep (k8 _ _ hr7), rf_rep (j := 10) upd_same, by decide +kernel, by decide +kernel, _, rfl, ?_⟩
      rw [z10]
      exact hC2 _ (g5.trans (g7.trans k8))
  intro x H7 g7
  have hS9 := hS6.same g7
  have hW9 := hW6.mono g7
  have t9 := g7 _ _ t6
  clear hS6 hW6 t6 g7
  -- odd ones
  refine ⟨_, rfl, _, rfl, by show 1 ≤ sizeLine; decide, fun q1 hq1 => ?_⟩
  have k1 := same_new hq1 (.tup [.str "0"])
  have f1 : upd H7 q1 (.tup [.str "0"]) q1 = some (.tup [.str "0"]) := upd_same
  generalize upd H7 q1 (.tup [.str "0"]) = H8 at *
  refine ⟨by show 1 ≤ sizeLine; decide, fun q2 hq2 => ?_⟩
  have k2 := same_new hq2 (.tup [.int 0])
  have f2 : upd H8 q2 (.tup [.int 0]) q2 = some (.tup [.int 0]) := upd_same
  generalize upd H8 q2 (.tup [.int 0]) = H9 at *
  refine ⟨by show 11 ≤ sizeLine; decide, fun q3 hq3 => ?_⟩
  generalize hQ3 : upd H9 q3 _ = H10
  have k3 : Same H9 H10 := hQ3 ▸ same_new hq3 _
  have f3 : H10 q3 = some (.lst [.non, .int 5, .str " ", .str "00", .str "-1", .str "10", .str "0 0", .str "0,1", .str "a", .ref q1, .ref q2]) := by rw [← hQ3]; exact upd_same
  clear hQ3
  have k12 := k1.trans k2
  have k13 := k12.trans k3
  have pt : q3 ≠ t := fun z => by rw [z, k12 _ _ t9] at hq3; cases hq3
  refine ⟨a, t, q3, ns, n3, _, rfl, hS9.same k13, k13 _ _ t9, by omega, f3, pt, by simp, fun y HZ hy gz tz => ?_⟩
  have hSz := gz.scr (k13 _ _ t9) (hS9.same k13)
  have tsz := gz.ts (k13 _ _ t9)
  have hWz : Rep HZ v (encW W) := (hW9.mono k13).tmono tsz (im_W W)
  obtain ⟨dd, hdd, hno⟩ := odd_no (tsz _ _ (k3 _ _ (k2 _ _ f1))) (tsz _ _ (k3 _ _ f2)) hok hy
  refine ⟨_, rfl, _, rfl, .inl ⟨v, y, encW W, dd, _, 10, rfl, .inr ⟨rfl, rfl⟩, hWz, hdd, .inr ⟨rfl, W, hok, rfl, hno⟩, fun r HY gy fr hry => ?_⟩⟩
  refine ⟨by show 2 ≤ sizeLine; decide, fun d hd => ?_⟩
  have k8 := same_new hd (.tup [.str "refused", .int 10])
  refine ⟨_, _, rf_rep (k8 _ _ hry), rf_rep (j := 10) upd_same, by decide +kernel, by decide +kernel, _, rfl, if_t z10 ?_⟩
  generalize upd HY d (.tup [.str "refused", .int 10]) = HX at *
  have gyx := gy.trans k8
  have hSx := hSz.same gyx
  have tx := gyx _ _ tz
  refine ⟨_, rfl, _, rfl, a, t, ns, n3 + 1, rfl, hSx, tx, by omega, fun bv bd HU hb2 hbd2 gu tu => ?_⟩
  refine .inl ⟨bv, .str "0", bd, .str "0", _, 0, rfl, .inl ⟨rfl, rfl⟩, hb2, .str _, .inl ⟨rfl, hbd2⟩, fun r HY gy fr hry => ?_⟩
  refine ⟨by show 2 ≤ sizeLine; decide, fun d hd => ?_⟩
  have k9 := same_new hd (.tup [.str "refused", .int 0])
  refine ⟨_, _, rf_rep (k9 _ _ hry), rf_rep (j := 0) upd_same, by decide +kernel, by decide +kernel, ?_⟩
  rw [z00]
  exact q _
end
end Be
set_option Elab.async false
set_option linter.all false
set_option maxRecDepth 100000
namespace Be
open PySem L2
theorem ar1 {F : List Value → Prop} (h : ∀ a, F [a]) : ∀ us, us.length = 1 → F us
  | [a], _ => h a
theorem ar2 {F : List Value → Prop} (h : ∀ a b, F [a, b]) : ∀ us, us.length = 2 → F us
  | [a, b], _ => h a b
theorem ar3 {F : List Value → Prop} (h : ∀ a b c, F [a, b, c]) : ∀ us, us.length = 3 → F us
  | [a, b, c], _ => h a b c
theorem ar4 {F : List Value → Prop} (h : ∀ a b c d, F [a, b, c, d]) : ∀ us, us.length = 4 → F us
  | [a, b, c, d], _ => h a b c d
theorem ar5 {F : List Value → Prop} (h : ∀ a b c d e, F [a, b, c, d, e]) : ∀ us, us.length = 5 → F us
  | [a, b, c, d, e], _ => h a b c d e
theorem ar6 {F : List Value → Prop} (h : ∀ a b c d e f, F [a, b, c, d, e, f]) : ∀ us, us.length = 6 → F us
  | [a, b, c, d, e, f], _ => h a b c d e f
def def_mk {K : PySem.W.Frag} {h : Heap} {mg : Str → Option Value} {x : Str} {st : Stmt} {ps : List Str} {f : Addr} {od an : Option Addr} {sl : Array (Option Value)} {oc kV dc pm cd ct : Value} (X : K.In h) (G : h.Ns mainGlobals mg) (a : PySem.W.nsIn K mainGlobals x = some (some (.ref f)))
    (l : K.lookup f = some ⟨oc, od, .func (PySem.W.fnOf x x (defArgs st) (defBody st) (defScope st) .none kV dc pm an cd ct), sl⟩) (c : PySem.W.codeIn K cd x = true) (k : PySem.W.keepIn K (.ref f) = true)
    (hb : ∀ (kV doc pm : Value) (an : Option Addr) (cdv ct : Value) (us : List Value), us.length = ps.length → bindArgs (PySem.W.fnOf x x (defArgs st) (defBody st) (defScope st) .none kV doc pm an cdv ct) ⟨us, []⟩ = pure (ps.zip us)) : DefAt K mg x st ps :=
  ⟨f, _, fun_mk l c k, (fun_mk l c k).binds hb, PySem.W.mg_of X G a⟩
inductive AllIs (K : PySem.W.Frag) (C : Addr) : List Addr → List Bool → Prop
  | nil : AllIs K C [] []
  | cons {c : Addr} {b : Bool} {cs : List Addr} {bs : List Bool} (h : PySem.W.kitOne K (.ref C) (.ref c) = some b) (r : AllIs K C cs bs) : AllIs K C (c :: cs) (b :: bs)
theorem AllIs.at {K : PySem.W.Frag} {C : Addr} {cs : List Addr} {bs : List Bool} (h : AllIs K C cs bs) : ∀ (i : Nat) (c : Addr) (b : Bool), cs[i]? = some c → bs[i]? = some b → PySem.W.kitOne K (.ref C) (.ref c) = some b := by
  induction h with
  | nil => intro i c b h1 _; cases i <;> cases h1
  | cons h r ih =>
    intro i c b h1 h2
    cases i with
    | zero => cases h1; cases h2; exact h
    | succ i => exact ih i c b h1 h2
theorem no_at {bs : List Bool} {j : Nat} (h : ((List.range j).all fun m => bs[m]? != some true) = true) : ∀ m, m < j → bs[m]? ≠ some true := fun m hm z => by
  have := List.all_eq_true.mp h m (List.mem_range.mpr hm)
  rw [z] at this
  exact absurd this (by decide)
set_option maxHeartbeats 4000000 in
theorem txt_mk {K : PySem.W.Frag} {h : Heap} {mg : Str → Option Value} (X : K.In h) (G : h.Ns mainGlobals mg)
    {f0 : Addr} {od0 an0 : Option Addr} {sl0 : Array (Option Value)} {oc0 kV0 dc0 pm0 cd0 ct0 : Value}
    {f1 : Addr} {od1 an1 : Option Addr} {sl1 : Array (Option Value)} {oc1 kV1 dc1 pm1 cd1 ct1 : Value}
    {f2 : Addr} {od2 an2 : Option Addr} {sl2 : Array (Option Value)} {oc2 kV2 dc2 pm2 cd2 ct2 : Value}
    {f3 : Addr} {od3 an3 : Option Addr} {sl3 : Array (Option Value)} {oc3 kV3 dc3 pm3 cd3 ct3 : Value}
    {f4 : Addr} {od4 an4 : Option Addr} {sl4 : Array (Option Value)} {oc4 kV4 dc4 pm4 cd4 ct4 : Value}
    {f5 : Addr} {od5 an5 : Option Addr} {sl5 : Array (Option Value)} {oc5 kV5 dc5 pm5 cd5 ct5 : Value}
    {f6 : Addr} {od6 an6 : Option Addr} {sl6 : Array (Option Value)} {oc6 kV6 dc6 pm6 cd6 ct6 : Value}
    {f7 : Addr} {od7 an7 : Option Addr} {sl7 : Array (Option Value)} {oc7 kV7 dc7 pm7 cd7 ct7 : Value}
    {f8 : Addr} {od8 an8 : Option Addr} {sl8 : Array (Option Value)} {oc8 kV8 dc8 pm8 cd8 ct8 : Value}
    {f9 : Addr} {od9 an9 : Option Addr} {sl9 : Array (Option Value)} {oc9 kV9 dc9 pm9 cd9 ct9 : Value}
    {f10 : Addr} {od10 an10 : Option Addr} {sl10 : Array (Option Value)} {oc10 kV10 dc10 pm10 cd10 ct10 : Value}
    {f11 : Addr} {od11 an11 : Option Addr} {sl11 : Array (Option Value)} {oc11 kV11 dc11 pm11 cd11 ct11 : Value}
    {f12 : Addr} {od12 an12 : Option Addr} {sl12 : Array (Option Value)} {oc12 kV12 dc12 pm12 cd12 ct12 : Value}
    {f13 : Addr} {od13 an13 : Option Addr} {sl13 : Array (Option Value)} {oc13 kV13 dc13 pm13 cd13 ct13 : Value}
    {f14 : Addr} {od14 an14 : Option Addr} {sl14 : Array (Option Value)} {oc14 kV14 dc14 pm14 cd14 ct14 : Value}
    {f15 : Addr} {od15 an15 : Option Addr} {sl15 : Array (Option Value)} {oc15 kV15 dc15 pm15 cd15 ct15 : Value}
    {f16 : Addr} {od16 an16 : Option Addr} {sl16 : Array (Option Value)} {oc16 kV16 dc16 pm16 cd16 ct16 : Value}
    {f17 : Addr} {od17 an17 : Option Addr} {sl17 : Array (Option Value)} {oc17 kV17 dc17 pm17 cd17 ct17 : Value}
    {f18 : Addr} {od18 an18 : Option Addr} {sl18 : Array (Option Value)} {oc18 kV18 dc18 pm18 cd18 ct18 : Value}
    {f19 : Addr} {od19 an19 : Option Addr} {sl19 : Array (Option Value)} {oc19 kV19 dc19 pm19 cd19 ct19 : Value}
    {f20 : Addr} {od20 an20 : Option Addr} {sl20 : Array (Option Value)} {oc20 kV20 dc20 pm20 cd20 ct20 : Value}
    {f21 : Addr} {od21 an21 : Option Addr} {sl21 : Array (Option Value)} {oc21 kV21 dc21 pm21 cd21 ct21 : Value}
    {f22 : Addr} {od22 an22 : Option Addr} {sl22 : Array (Option Value)} {oc22 kV22 dc22 pm22 cd22 ct22 : Value}
    {f23 : Addr} {od23 an23 : Option Addr} {sl23 : Array (Option Value)} {oc23 kV23 dc23 pm23 cd23 ct23 : Value}
    {f24 : Addr} {od24 an24 : Option Addr} {sl24 : Array (Option Value)} {oc24 kV24 dc24 pm24 cd24 ct24 : Value}
    {f25 : Addr} {od25 an25 : Option Addr} {sl25 : Array (Option Value)} {oc25 kV25 dc25 pm25 cd25 ct25 : Value}
    {f26 : Addr} {od26 an26 : Option Addr} {sl26 : Array (Option Value)} {oc26 kV26 dc26 pm26 cd26 ct26 : Value}
    {f27 : Addr} {od27 an27 : Option Addr} {sl27 : Array (Option Value)} {oc27 kV27 dc27 pm27 cd27 ct27 : Value}
    {f28 : Addr} {od28 an28 : Option Addr} {sl28 : Array (Option Value)} {oc28 kV28 dc28 pm28 cd28 ct28 : Value}
    {t_MOST_BENCHES : Tok}
    {t_MOST_WORKS : Tok}
    {t_MOST_LENGTH : Tok}
    {C_BenchError : Addr}
    {C_NoWorld : Addr}
    {C_NoOrder : Addr}
    {C_NoLengths : Addr}
    {C_NoWork : Addr}
    {C_NoSide : Addr}
    {C_Never : Addr}
    {C_TooMany : Addr}
    {C_NoStep : Addr}
    {C_NoNumber : Addr}
    {C_NoRow : Addr}
    {C_NoText : Addr}
    (a0 : PySem.W.nsIn K mainGlobals "is_whole_within" = some (some (.ref f0)))
    (l0 : K.lookup f0 = some ⟨oc0, od0, .func (PySem.W.fnOf "is_whole_within" "is_whole_within" (defArgs (top 17)) (defBody (top 17)) (defScope (top 17)) .none kV0 dc0 pm0 an0 cd0 ct0), sl0⟩)
    (c0 : PySem.W.codeIn K cd0 "is_whole_within" = true)
    (k0 : PySem.W.keepIn K (.ref f0) = true)
    (a1 : PySem.W.nsIn K mainGlobals "is_pair" = some (some (.ref f1)))
    (l1 : K.lookup f1 = some ⟨oc1, od1, .func (PySem.W.fnOf "is_pair" "is_pair" (defArgs (top 18)) (defBody (top 18)) (defScope (top 18)) .none kV1 dc1 pm1 an1 cd1 ct1), sl1⟩)
    (c1 : PySem.W.codeIn K cd1 "is_pair" = true)
    (k1 : PySem.W.keepIn K (.ref f1) = true)
    (a2 : PySem.W.nsIn K mainGlobals "are_bounds_of_work" = some (some (.ref f2)))
    (l2 : K.lookup f2 = some ⟨oc2, od2, .func (PySem.W.fnOf "are_bounds_of_work" "are_bounds_of_work" (defArgs (top 19)) (defBody (top 19)) (defScope (top 19)) .none kV2 dc2 pm2 an2 cd2 ct2), sl2⟩)
    (c2 : PySem.W.codeIn K cd2 "are_bounds_of_work" = true)
    (k2 : PySem.W.keepIn K (.ref f2) = true)
    (a3 : PySem.W.nsIn K mainGlobals "are_bounds" = some (some (.ref f3)))
    (l3 : K.lookup f3 = some ⟨oc3, od3, .func (PySem.W.fnOf "are_bounds" "are_bounds" (defArgs (top 20)) (defBody (top 20)) (defScope (top 20)) .none kV3 dc3 pm3 an3 cd3 ct3), sl3⟩)
    (c3 : PySem.W.codeIn K cd3 "are_bounds" = true)
    (k3 : PySem.W.keepIn K (.ref f3) = true)
    (a4 : PySem.W.nsIn K mainGlobals "is_world" = some (some (.ref f4)))
    (l4 : K.lookup f4 = some ⟨oc4, od4, .func (PySem.W.fnOf "is_world" "is_world" (defArgs (top 21)) (defBody (top 21)) (defScope (top 21)) .none kV4 dc4 pm4 an4 cd4 ct4), sl4⟩)
    (c4 : PySem.W.codeIn K cd4 "is_world" = true)
    (k4 : PySem.W.keepIn K (.ref f4) = true)
    (a5 : PySem.W.nsIn K mainGlobals "check_world" = some (some (.ref f5)))
    (l5 : K.lookup f5 = some ⟨oc5, od5, .func (PySem.W.fnOf "check_world" "check_world" (defArgs (top 22)) (defBody (top 22)) (defScope (top 22)) .none kV5 dc5 pm5 an5 cd5 ct5), sl5⟩)
    (c5 : PySem.W.codeIn K cd5 "check_world" = true)
    (k5 : PySem.W.keepIn K (.ref f5) = true)
    (a6 : PySem.W.nsIn K mainGlobals "is_order" = some (some (.ref f6)))
    (l6 : K.lookup f6 = some ⟨oc6, od6, .func (PySem.W.fnOf "is_order" "is_order" (defArgs (top 23)) (defBody (top 23)) (defScope (top 23)) .none kV6 dc6 pm6 an6 cd6 ct6), sl6⟩)
    (c6 : PySem.W.codeIn K cd6 "is_order" = true)
    (k6 : PySem.W.keepIn K (.ref f6) = true)
    (a7 : PySem.W.nsIn K mainGlobals "check_order" = some (some (.ref f7)))
    (l7 : K.lookup f7 = some ⟨oc7, od7, .func (PySem.W.fnOf "check_order" "check_order" (defArgs (top 24)) (defBody (top 24)) (defScope (top 24)) .none kV7 dc7 pm7 an7 cd7 ct7), sl7⟩)
    (c7 : PySem.W.codeIn K cd7 "check_order" = true)
    (k7 : PySem.W.keepIn K (.ref f7) = true)
    (a8 : PySem.W.nsIn K mainGlobals "how_many_benches" = some (some (.ref f8)))
    (l8 : K.lookup f8 = some ⟨oc8, od8, .func (PySem.W.fnOf "how_many_benches" "how_many_benches" (defArgs (top 25)) (defBody (top 25)) (defScope (top 25)) .none kV8 dc8 pm8 an8 cd8 ct8), sl8⟩)
    (c8 : PySem.W.codeIn K cd8 "how_many_benches" = true)
    (k8 : PySem.W.keepIn K (.ref f8) = true)
    (a9 : PySem.W.nsIn K mainGlobals "how_many_works" = some (some (.ref f9)))
    (l9 : K.lookup f9 = some ⟨oc9, od9, .func (PySem.W.fnOf "how_many_works" "how_many_works" (defArgs (top 26)) (defBody (top 26)) (defScope (top 26)) .none kV9 dc9 pm9 an9 cd9 ct9), sl9⟩)
    (c9 : PySem.W.codeIn K cd9 "how_many_works" = true)
    (k9 : PySem.W.keepIn K (.ref f9) = true)
    (a10 : PySem.W.nsIn K mainGlobals "how_many_began" = some (some (.ref f10)))
    (l10 : K.lookup f10 = some ⟨oc10, od10, .func (PySem.W.fnOf "how_many_began" "how_many_began" (defArgs (top 27)) (defBody (top 27)) (defScope (top 27)) .none kV10 dc10 pm10 an10 cd10 ct10), sl10⟩)
    (c10 : PySem.W.codeIn K cd10 "how_many_began" = true)
    (k10 : PySem.W.keepIn K (.ref f10) = true)
    (a11 : PySem.W.nsIn K mainGlobals "check_text" = some (some (.ref f11)))
    (l11 : K.lookup f11 = some ⟨oc11, od11, .func (PySem.W.fnOf "check_text" "check_text" (defArgs (top 29)) (defBody (top 29)) (defScope (top 29)) .none kV11 dc11 pm11 an11 cd11 ct11), sl11⟩)
    (c11 : PySem.W.codeIn K cd11 "check_text" = true)
    (k11 : PySem.W.keepIn K (.ref f11) = true)
    (a12 : PySem.W.nsIn K mainGlobals "read_number" = some (some (.ref f12)))
    (l12 : K.lookup f12 = some ⟨oc12, od12, .func (PySem.W.fnOf "read_number" "read_number" (defArgs (top 30)) (defBody (top 30)) (defScope (top 30)) .none kV12 dc12 pm12 an12 cd12 ct12), sl12⟩)
    (c12 : PySem.W.codeIn K cd12 "read_number" = true)
    (k12 : PySem.W.keepIn K (.ref f12) = true)
    (a13 : PySem.W.nsIn K mainGlobals "order_text" = some (some (.ref f13)))
    (l13 : K.lookup f13 = some ⟨oc13, od13, .func (PySem.W.fnOf "order_text" "order_text" (defArgs (top 31)) (defBody (top 31)) (defScope (top 31)) .none kV13 dc13 pm13 an13 cd13 ct13), sl13⟩)
    (c13 : PySem.W.codeIn K cd13 "order_text" = true)
    (k13 : PySem.W.keepIn K (.ref f13) = true)
    (a14 : PySem.W.nsIn K mainGlobals "read_works" = some (some (.ref f14)))
    (l14 : K.lookup f14 = some ⟨oc14, od14, .func (PySem.W.fnOf "read_works" "read_works" (defArgs (top 32)) (defBody (top 32)) (defScope (top 32)) .none kV14 dc14 pm14 an14 cd14 ct14), sl14⟩)
    (c14 : PySem.W.codeIn K cd14 "read_works" = true)
    (k14 : PySem.W.keepIn K (.ref f14) = true)
    (a15 : PySem.W.nsIn K mainGlobals "read_order" = some (some (.ref f15)))
    (l15 : K.lookup f15 = some ⟨oc15, od15, .func (PySem.W.fnOf "read_order" "read_order" (defArgs (top 33)) (defBody (top 33)) (defScope (top 33)) .none kV15 dc15 pm15 an15 cd15 ct15), sl15⟩)
    (c15 : PySem.W.codeIn K cd15 "read_order" = true)
    (k15 : PySem.W.keepIn K (.ref f15) = true)
    (a16 : PySem.W.nsIn K mainGlobals "_law_cell_at" = some (some (.ref f16)))
    (l16 : K.lookup f16 = some ⟨oc16, od16, .func (PySem.W.fnOf "_law_cell_at" "_law_cell_at" (defArgs (top 35)) (defBody (top 35)) (defScope (top 35)) .none kV16 dc16 pm16 an16 cd16 ct16), sl16⟩)
    (c16 : PySem.W.codeIn K cd16 "_law_cell_at" = true)
    (k16 : PySem.W.keepIn K (.ref f16) = true)
    (a17 : PySem.W.nsIn K mainGlobals "_law_mixed" = some (some (.ref f17)))
    (l17 : K.lookup f17 = some ⟨oc17, od17, .func (PySem.W.fnOf "_law_mixed" "_law_mixed" (defArgs (top 36)) (defBody (top 36)) (defScope (top 36)) .none kV17 dc17 pm17 an17 cd17 ct17), sl17⟩)
    (c17 : PySem.W.codeIn K cd17 "_law_mixed" = true)
    (k17 : PySem.W.keepIn K (.ref f17) = true)
    (a18 : PySem.W.nsIn K mainGlobals "_law_draw" = some (some (.ref f18)))
    (l18 : K.lookup f18 = some ⟨oc18, od18, .func (PySem.W.fnOf "_law_draw" "_law_draw" (defArgs (top 37)) (defBody (top 37)) (defScope (top 37)) .none kV18 dc18 pm18 an18 cd18 ct18), sl18⟩)
    (c18 : PySem.W.codeIn K cd18 "_law_draw" = true)
    (k18 : PySem.W.keepIn K (.ref f18) = true)
    (a19 : PySem.W.nsIn K mainGlobals "_law_pick" = some (some (.ref f19)))
    (l19 : K.lookup f19 = some ⟨oc19, od19, .func (PySem.W.fnOf "_law_pick" "_law_pick" (defArgs (top 38)) (defBody (top 38)) (defScope (top 38)) .none kV19 dc19 pm19 an19 cd19 ct19), sl19⟩)
    (c19 : PySem.W.codeIn K cd19 "_law_pick" = true)
    (k19 : PySem.W.keepIn K (.ref f19) = true)
    (a20 : PySem.W.nsIn K mainGlobals "_law_world" = some (some (.ref f20)))
    (l20 : K.lookup f20 = some ⟨oc20, od20, .func (PySem.W.fnOf "_law_world" "_law_world" (defArgs (top 39)) (defBody (top 39)) (defScope (top 39)) .none kV20 dc20 pm20 an20 cd20 ct20), sl20⟩)
    (c20 : PySem.W.codeIn K cd20 "_law_world" = true)
    (k20 : PySem.W.keepIn K (.ref f20) = true)
    (a21 : PySem.W.nsIn K mainGlobals "_law_some" = some (some (.ref f21)))
    (l21 : K.lookup f21 = some ⟨oc21, od21, .func (PySem.W.fnOf "_law_some" "_law_some" (defArgs (top 40)) (defBody (top 40)) (defScope (top 40)) .none kV21 dc21 pm21 an21 cd21 ct21), sl21⟩)
    (c21 : PySem.W.codeIn K cd21 "_law_some" = true)
    (k21 : PySem.W.keepIn K (.ref f21) = true)
    (a22 : PySem.W.nsIn K mainGlobals "_law_ends" = some (some (.ref f22)))
    (l22 : K.lookup f22 = some ⟨oc22, od22, .func (PySem.W.fnOf "_law_ends" "_law_ends" (defArgs (top 41)) (defBody (top 41)) (defScope (top 41)) .none kV22 dc22 pm22 an22 cd22 ct22), sl22⟩)
    (c22 : PySem.W.codeIn K cd22 "_law_ends" = true)
    (k22 : PySem.W.keepIn K (.ref f22) = true)
    (a23 : PySem.W.nsIn K mainGlobals "_law_order" = some (some (.ref f23)))
    (l23 : K.lookup f23 = some ⟨oc23, od23, .func (PySem.W.fnOf "_law_order" "_law_order" (defArgs (top 42)) (defBody (top 42)) (defScope (top 42)) .none kV23 dc23 pm23 an23 cd23 ct23), sl23⟩)
    (c23 : PySem.W.codeIn K cd23 "_law_order" = true)
    (k23 : PySem.W.keepIn K (.ref f23) = true)
    (a24 : PySem.W.nsIn K mainGlobals "_law_which" = some (some (.ref f24)))
    (l24 : K.lookup f24 = some ⟨oc24, od24, .func (PySem.W.fnOf "_law_which" "_law_which" (defArgs (top 43)) (defBody (top 43)) (defScope (top 43)) .none kV24 dc24 pm24 an24 cd24 ct24), sl24⟩)
    (c24 : PySem.W.codeIn K cd24 "_law_which" = true)
    (k24 : PySem.W.keepIn K (.ref f24) = true)
    (a25 : PySem.W.nsIn K mainGlobals "_law_odd_world" = some (some (.ref f25)))
    (l25 : K.lookup f25 = some ⟨oc25, od25, .func (PySem.W.fnOf "_law_odd_world" "_law_odd_world" (defArgs (top 44)) (defBody (top 44)) (defScope (top 44)) .none kV25 dc25 pm25 an25 cd25 ct25), sl25⟩)
    (c25 : PySem.W.codeIn K cd25 "_law_odd_world" = true)
    (k25 : PySem.W.keepIn K (.ref f25) = true)
    (a26 : PySem.W.nsIn K mainGlobals "_law_ask" = some (some (.ref f26)))
    (l26 : K.lookup f26 = some ⟨oc26, od26, .func (PySem.W.fnOf "_law_ask" "_law_ask" (defArgs (top 46)) (defBody (top 46)) (defScope (top 46)) .none kV26 dc26 pm26 an26 cd26 ct26), sl26⟩)
    (c26 : PySem.W.codeIn K cd26 "_law_ask" = true)
    (k26 : PySem.W.keepIn K (.ref f26) = true)
    (a27 : PySem.W.nsIn K mainGlobals "_law_due" = some (some (.ref f27)))
    (l27 : K.lookup f27 = some ⟨oc27, od27, .func (PySem.W.fnOf "_law_due" "_law_due" (defArgs (top 47)) (defBody (top 47)) (defScope (top 47)) .none kV27 dc27 pm27 an27 cd27 ct27), sl27⟩)
    (c27 : PySem.W.codeIn K cd27 "_law_due" = true)
    (k27 : PySem.W.keepIn K (.ref f27) = true)
    (a28 : PySem.W.nsIn K mainGlobals "law" = some (some (.ref f28)))
    (l28 : K.lookup f28 = some ⟨oc28, od28, .func (PySem.W.fnOf "law" "law" (defArgs (top 48)) (defBody (top 48)) (defScope (top 48)) .none kV28 dc28 pm28 an28 cd28 ct28), sl28⟩)
    (c28 : PySem.W.codeIn K cd28 "law" = true)
    (k28 : PySem.W.keepIn K (.ref f28) = true)
    (z_ValueError : PySem.W.nsIn K mainGlobals "ValueError" = some none)
    (z_all : PySem.W.nsIn K mainGlobals "all" = some none)
    (z_bool : PySem.W.nsIn K mainGlobals "bool" = some none)
    (z_enumerate : PySem.W.nsIn K mainGlobals "enumerate" = some none)
    (z_int : PySem.W.nsIn K mainGlobals "int" = some none)
    (z_isinstance : PySem.W.nsIn K mainGlobals "isinstance" = some none)
    (z_len : PySem.W.nsIn K mainGlobals "len" = some none)
    (z_min : PySem.W.nsIn K mainGlobals "min" = some none)
    (z_range : PySem.W.nsIn K mainGlobals "range" = some none)
    (z_set : PySem.W.nsIn K mainGlobals "set" = some none)
    (z_sorted : PySem.W.nsIn K mainGlobals "sorted" = some none)
    (z_str : PySem.W.nsIn K mainGlobals "str" = some none)
    (z_tuple : PySem.W.nsIn K mainGlobals "tuple" = some none)
    (x_MOST_BENCHES : PySem.W.nsIn K mainGlobals "MOST_BENCHES" = some (some (.int 4 t_MOST_BENCHES)))
    (x_MOST_WORKS : PySem.W.nsIn K mainGlobals "MOST_WORKS" = some (some (.int 10 t_MOST_WORKS)))
    (x_MOST_LENGTH : PySem.W.nsIn K mainGlobals "MOST_LENGTH" = some (some (.int 99 t_MOST_LENGTH)))
    (x_BenchError : PySem.W.nsIn K mainGlobals "BenchError" = some (some (.ref C_BenchError)))
    (q_BenchError : PySem.W.excIn K C_BenchError [.type "ValueError", .type "Exception", .type "BaseException", .type "object"] "ValueError.__new__" = true)
    (x_NoWorld : PySem.W.nsIn K mainGlobals "NoWorld" = some (some (.ref C_NoWorld)))
    (q_NoWorld : PySem.W.excIn K C_NoWorld [.type "ValueError", .type "Exception", .type "BaseException", .type "object"] "ValueError.__new__" = true)
    (x_NoOrder : PySem.W.nsIn K mainGlobals "NoOrder" = some (some (.ref C_NoOrder)))
    (q_NoOrder : PySem.W.excIn K C_NoOrder [.type "ValueError", .type "Exception", .type "BaseException", .type "object"] "ValueError.__new__" = true)
    (x_NoLengths : PySem.W.nsIn K mainGlobals "NoLengths" = some (some (.ref C_NoLengths)))
    (q_NoLengths : PySem.W.excIn K C_NoLengths [.type "ValueError", .type "Exception", .type "BaseException", .type "object"] "ValueError.__new__" = true)
    (x_NoWork : PySem.W.nsIn K mainGlobals "NoWork" = some (some (.ref C_NoWork)))
    (q_NoWork : PySem.W.excIn K C_NoWork [.type "ValueError", .type "Exception", .type "BaseException", .type "object"] "ValueError.__new__" = true)
    (x_NoSide : PySem.W.nsIn K mainGlobals "NoSide" = some (some (.ref C_NoSide)))
    (q_NoSide : PySem.W.excIn K C_NoSide [.type "ValueError", .type "Exception", .type "BaseException", .type "object"] "ValueError.__new__" = true)
    (x_Never : PySem.W.nsIn K mainGlobals "Never" = some (some (.ref C_Never)))
    (q_Never : PySem.W.excIn K C_Never [.type "ValueError", .type "Exception", .type "BaseException", .type "object"] "ValueError.__new__" = true)
    (x_TooMany : PySem.W.nsIn K mainGlobals "TooMany" = some (some (.ref C_TooMany)))
    (q_TooMany : PySem.W.excIn K C_TooMany [.type "ValueError", .type "Exception", .type "BaseException", .type "object"] "ValueError.__new__" = true)
    (x_NoStep : PySem.W.nsIn K mainGlobals "NoStep" = some (some (.ref C_NoStep)))
    (q_NoStep : PySem.W.excIn K C_NoStep [.type "ValueError", .type "Exception", .type "BaseException", .type "object"] "ValueError.__new__" = true)
    (x_NoNumber : PySem.W.nsIn K mainGlobals "NoNumber" = some (some (.ref C_NoNumber)))
    (q_NoNumber : PySem.W.excIn K C_NoNumber [.type "ValueError", .type "Exception", .type "BaseException", .type "object"] "ValueError.__new__" = true)
    (x_NoRow : PySem.W.nsIn K mainGlobals "NoRow" = some (some (.ref C_NoRow)))
    (q_NoRow : PySem.W.excIn K C_NoRow [.type "ValueError", .type "Exception", .type "BaseException", .type "object"] "ValueError.__new__" = true)
    (x_NoText : PySem.W.nsIn K mainGlobals "NoText" = some (some (.ref C_NoText)))
    (q_NoText : PySem.W.excIn K C_NoText [.type "ValueError", .type "Exception", .type "BaseException", .type "object"] "ValueError.__new__" = true)
    {cd_NoWorld cd_NoText : ClassData}
    (v0_ga : PySem.W.findIn K (.ref C_NoWorld) "__getattribute__" = some (some (.builtin "BaseException.__getattribute__")))
    (v0_gt : PySem.W.findIn K (.ref C_NoWorld) "__getattr__" = some none)
    (v0_cl : PySem.W.findIn K (.ref C_NoWorld) "__class__" = some (some (.builtin "object.__class__")))
    (v0_mo : PySem.W.mroIn K C_NoWorld (.type "object") = some true)
    (v0_mb : PySem.W.mroIn K C_NoWorld (.type "BaseException") = some true)
    (v0_is : PySem.W.clsIn K C_NoWorld = some cd_NoWorld)
    (v0_0 : PySem.W.kitOne K (.ref C_NoWorld) (.ref C_NoWorld) = some true)
    (v0_1 : PySem.W.kitOne K (.ref C_NoWorld) (.ref C_NoOrder) = some false)
    (v0_2 : PySem.W.kitOne K (.ref C_NoWorld) (.ref C_NoLengths) = some false)
    (v0_3 : PySem.W.kitOne K (.ref C_NoWorld) (.ref C_NoWork) = some false)
    (v0_4 : PySem.W.kitOne K (.ref C_NoWorld) (.ref C_NoSide) = some false)
    (v0_5 : PySem.W.kitOne K (.ref C_NoWorld) (.ref C_Never) = some false)
    (v0_6 : PySem.W.kitOne K (.ref C_NoWorld) (.ref C_TooMany) = some false)
    (v0_7 : PySem.W.kitOne K (.ref C_NoWorld) (.ref C_NoStep) = some false)
    (v0_8 : PySem.W.kitOne K (.ref C_NoWorld) (.ref C_NoNumber) = some false)
    (v0_9 : PySem.W.kitOne K (.ref C_NoWorld) (.ref C_NoRow) = some false)
    (v0_10 : PySem.W.kitOne K (.ref C_NoWorld) (.ref C_NoText) = some false)
    (v0_ve : PySem.W.kitOne K (.ref C_NoWorld) (.type "ValueError") = some true)
    (v0_up : PySem.W.mroIn K C_NoWorld (.ref C_BenchError) = some true)
    (v10_ga : PySem.W.findIn K (.ref C_NoText) "__getattribute__" = some (some (.builtin "BaseException.__getattribute__")))
    (v10_gt : PySem.W.findIn K (.ref C_NoText) "__getattr__" = some none)
    (v10_cl : PySem.W.findIn K (.ref C_NoText) "__class__" = some (some (.builtin "object.__class__")))
    (v10_mo : PySem.W.mroIn K C_NoText (.type "object") = some true)
    (v10_mb : PySem.W.mroIn K C_NoText (.type "BaseException") = some true)
    (v10_is : PySem.W.clsIn K C_NoText = some cd_NoText)
    (v10_0 : PySem.W.kitOne K (.ref C_NoText) (.ref C_NoWorld) = some false)
    (v10_1 : PySem.W.kitOne K (.ref C_NoText) (.ref C_NoOrder) = some false)
    (v10_2 : PySem.W.kitOne K (.ref C_NoText) (.ref C_NoLengths) = some false)
    (v10_3 : PySem.W.kitOne K (.ref C_NoText) (.ref C_NoWork) = some false)
    (v10_4 : PySem.W.kitOne K (.ref C_NoText) (.ref C_NoSide) = some false)
    (v10_5 : PySem.W.kitOne K (.ref C_NoText) (.ref C_Never) = some false)
    (v10_6 : PySem.W.kitOne K (.ref C_NoText) (.ref C_TooMany) = some false)
    (v10_7 : PySem.W.kitOne K (.ref C_NoText) (.ref C_NoStep) = some false)
    (v10_8 : PySem.W.kitOne K (.ref C_NoText) (.ref C_NoNumber) = some false)
    (v10_9 : PySem.W.kitOne K (.ref C_NoText) (.ref C_NoRow) = some false)
    (v10_10 : PySem.W.kitOne K (.ref C_NoText) (.ref C_NoText) = some true)
    (v10_ve : PySem.W.kitOne K (.ref C_NoText) (.type "ValueError") = some true)
    (v10_up : PySem.W.mroIn K C_NoText (.ref C_BenchError) = some true)
    (v_ba : PySem.W.mroIn K C_BenchError (.type "BaseException") = some true) : ∃ T : Txt K mg, Errs T :=
  ⟨{ is_whole_within := def_mk X G a0 l0 c0 k0 (fun _ _ _ _ _ _ => ar3 fun _ _ _ => rfl),
     is_pair := def_mk X G a1 l1 c1 k1 (fun _ _ _ _ _ _ => ar1 fun _ => rfl),
     are_bounds_of_work := def_mk X G a2 l2 c2 k2 (fun _ _ _ _ _ _ => ar1 fun _ => rfl),
     are_bounds := def_mk X G a3 l3 c3 k3 (fun _ _ _ _ _ _ => ar1 fun _ => rfl),
     is_world := def_mk X G a4 l4 c4 k4 (fun _ _ _ _ _ _ => ar1 fun _ => rfl),
     check_world := def_mk X G a5 l5 c5 k5 (fun _ _ _ _ _ _ => ar1 fun _ => rfl),
     is_order := def_mk X G a6 l6 c6 k6 (fun _ _ _ _ _ _ => ar2 fun _ _ => rfl),
     check_order := def_mk X G a7 l7 c7 k7 (fun _ _ _ _ _ _ => ar2 fun _ _ => rfl),
     how_many_benches := def_mk X G a8 l8 c8 k8 (fun _ _ _ _ _ _ => ar1 fun _ => rfl),
     how_many_works := def_mk X G a9 l9 c9 k9 (fun _ _ _ _ _ _ => ar1 fun _ => rfl),
     how_many_began := def_mk X G a10 l10 c10 k10 (fun _ _ _ _ _ _ => ar2 fun _ _ => rfl),
     check_text := def_mk X G a11 l11 c11 k11 (fun _ _ _ _ _ _ => ar1 fun _ => rfl),
     read_number := def_mk X G a12 l12 c12 k12 (fun _ _ _ _ _ _ => ar3 fun _ _ _ => rfl),
     order_text := def_mk X G a13 l13 c13 k13 (fun _ _ _ _ _ _ => ar2 fun _ _ => rfl),
     read_works := def_mk X G a14 l14 c14 k14 (fun _ _ _ _ _ _ => ar2 fun _ _ => rfl),
     read_order := def_mk X G a15 l15 c15 k15 (fun _ _ _ _ _ _ => ar2 fun _ _ => rfl),
     law_cell_at := def_mk X G a16 l16 c16 k16 (fun _ _ _ _ _ _ => ar2 fun _ _ => rfl),
     law_mixed := def_mk X G a17 l17 c17 k17 (fun _ _ _ _ _ _ => ar3 fun _ _ _ => rfl),
     law_draw := def_mk X G a18 l18 c18 k18 (fun _ _ _ _ _ _ => ar3 fun _ _ _ => rfl),
     law_pick := def_mk X G a19 l19 c19 k19 (fun _ _ _ _ _ _ => ar3 fun _ _ _ => rfl),
     law_world := def_mk X G a20 l20 c20 k20 (fun _ _ _ _ _ _ => ar4 fun _ _ _ _ => rfl),
     law_some := def_mk X G a21 l21 c21 k21 (fun _ _ _ _ _ _ => ar3 fun _ _ _ => rfl),
     law_ends := def_mk X G a22 l22 c22 k22 (fun _ _ _ _ _ _ => ar2 fun _ _ => rfl),
     law_order := def_mk X G a23 l23 c23 k23 (fun _ _ _ _ _ _ => ar2 fun _ _ => rfl),
     law_which := def_mk X G a24 l24 c24 k24 (fun _ _ _ _ _ _ => ar1 fun _ => rfl),
     law_odd_world := def_mk X G a25 l25 c25 k25 (fun _ _ _ _ _ _ => ar2 fun _ _ => rfl),
     law_ask := def_mk X G a26 l26 c26 k26 (fun _ _ _ _ _ _ => ar2 fun _ _ => rfl),
     law_due := def_mk X G a27 l27 c27 k27 (fun _ _ _ _ _ _ => ar2 fun _ _ => rfl),
     law := def_mk X G a28 l28 c28 k28 (fun _ _ _ _ _ _ => ar1 fun _ => rfl),
     n_ValueError := PySem.W.mg_none_of X G z_ValueError,
     n_all := PySem.W.mg_none_of X G z_all,
     n_bool := PySem.W.mg_none_of X G z_bool,
     n_enumerate := PySem.W.mg_none_of X G z_enumerate,
     n_int := PySem.W.mg_none_of X G z_int,
     n_isinstance := PySem.W.mg_none_of X G z_isinstance,
     n_len := PySem.W.mg_none_of X G z_len,
     n_min := PySem.W.mg_none_of X G z_min,
     n_range := PySem.W.mg_none_of X G z_range,
     n_set := PySem.W.mg_none_of X G z_set,
     n_sorted := PySem.W.mg_none_of X G z_sorted,
     n_str := PySem.W.mg_none_of X G z_str,
     n_tuple := PySem.W.mg_none_of X G z_tuple,
     c_MOST_BENCHES := ⟨_, PySem.W.mg_of X G x_MOST_BENCHES⟩,
     c_MOST_WORKS := ⟨_, PySem.W.mg_of X G x_MOST_WORKS⟩,
     c_MOST_LENGTH := ⟨_, PySem.W.mg_of X G x_MOST_LENGTH⟩,
     e_BenchError := ⟨C_BenchError, PySem.W.mg_of X G x_BenchError, q_BenchError⟩,
     e_NoWorld := ⟨C_NoWorld, PySem.W.mg_of X G x_NoWorld, q_NoWorld⟩,
     e_NoOrder := ⟨C_NoOrder, PySem.W.mg_of X G x_NoOrder, q_NoOrder⟩,
     e_NoLengths := ⟨C_NoLengths, PySem.W.mg_of X G x_NoLengths, q_NoLengths⟩,
     e_NoWork := ⟨C_NoWork, PySem.W.mg_of X G x_NoWork, q_NoWork⟩,
     e_NoSide := ⟨C_NoSide, PySem.W.mg_of X G x_NoSide, q_NoSide⟩,
     e_Never := ⟨C_Never, PySem.W.mg_of X G x_Never, q_Never⟩,
     e_TooMany := ⟨C_TooMany, PySem.W.mg_of X G x_TooMany, q_TooMany⟩,
     e_NoStep := ⟨C_NoStep, PySem.W.mg_of X G x_NoStep, q_NoStep⟩,
     e_NoNumber := ⟨C_NoNumber, PySem.W.mg_of X G x_NoNumber, q_NoNumber⟩,
     e_NoRow := ⟨C_NoRow, PySem.W.mg_of X G x_NoRow, q_NoRow⟩,
     e_NoText := ⟨C_NoText, PySem.W.mg_of X G x_NoText, q_NoText⟩ },
   ⟨⟨⟨v0_ga, v0_gt, v0_cl, v0_mo, v0_mb, (by rw [v0_is]; rfl)⟩, rfl, AllIs.at (.cons v0_0 (.cons v0_1 (.cons v0_2 (.cons v0_3 (.cons v0_4 (.cons v0_5 (.cons v0_6 (.cons v0_7 (.cons v0_8 (.cons v0_9 (.cons v0_10 (.nil)))))))))))), v0_ve, rfl, rfl, no_at (by decide)⟩,
    ⟨⟨v10_ga, v10_gt, v10_cl, v10_mo, v10_mb, (by rw [v10_is]; rfl)⟩, rfl, AllIs.at (.cons v10_0 (.cons v10_1 (.cons v10_2 (.cons v10_3 (.cons v10_4 (.cons v10_5 (.cons v10_6 (.cons v10_7 (.cons v10_8 (.cons v10_9 (.cons v10_10 (.nil)))))))))))), v10_ve, rfl, rfl, no_at (by decide)⟩,
    v0_up,
    v10_up,
    v_ba⟩⟩

theorem walk {l : PySem.W.OpenLaw} {q : Program} {loose : List Str} {XP : (Str → Option Value) → Heap → Prop} {YP : World → Heap → Prop} {d : DefRec} {K : Params → PySem.W.Frag} (hn : l.most = some 63) (hdf : d.params.defaults = [])
    (hY : ∀ (w : World) (h : Heap), YP w h → (K w.params).In h) (hd : d.name = "law")
    (F : ∀ (w : World) (mg : Str → Option Value) (h : Heap), (K w.params).In h → h.Ns mainGlobals mg → ∃ T : Txt (K w.params) mg, Errs T) :
    PySem.W.WalkO q loose XP YP l.row.toRowW d [] (fun f vs => PySem.call f vs) := by
  refine walk_of (l := l) (n := 63) (k := 8) (x := "_law_script") (K := K) (CX := fun w => CXr l.prog w) (sp := fun w => sp_law (K w.params)) hn (by decide) hdf ⟨rfl, by decide, by decide⟩ hY ?_ ?_ ?_
  · intro w mg fa h KX G hmg
    obtain ⟨T, Z⟩ := F w mg h KX G
    rw [hd] at hmg
    have e : T.law.a = fa := by
      have z := T.law.m.symm.trans hmg
      injection z with z
      injection z
    subst e
    obtain ⟨oc, od, kV, doc, pm, an, cdv, ct, osl, ed, lk, hcd⟩ := T.law.F.ex
    refine ⟨T.law.d, fun s u => ?_, fun base _ _ => ok_law T Z⟩
    rw [ed]
    exact .of_eq rfl
  · intro w H a ns hl hO hS
    exact ⟨a, ns, rfl, Scr.of hS hO, fun _ => rfl⟩
  · intro w H s e s' h
    obtain ⟨_, _, _, _, _, _, _, z⟩ := h
    exact z
end Be
def PySem.W.Fast.tw8593114843730158076 : Unit := ()
def PySem.W.Fast.tw13865821182801817002 : Unit := ()
def PySem.W.Fast.tw4893563889188395833 : Unit := ()
def PySem.W.Fast.tw2481830003418725746 : Unit := ()
def PySem.W.Fast.tw7251728535677222035 : Unit := ()
def PySem.W.Fast.tw11302874851461592563 : Unit := ()
def PySem.W.Fast.tw5275901079883525876 : Unit := ()
def PySem.W.Fast.tw11155435383345443577 : Unit := ()
def PySem.W.Fast.tw5963831607608571386 : Unit := ()
def PySem.W.Fast.tw673288086047518029 : Unit := ()
def PySem.W.Fast.tw17843618878630463763 : Unit := ()
def PySem.W.Fast.tw12166869852318981383 : Unit := ()
def PySem.W.Fast.tw2632947425902176524 : Unit := ()
def PySem.W.Fast.tw12229136372949771613 : Unit := ()
def PySem.W.Fast.tw10169191763198624594 : Unit := ()
def PySem.W.Fast.tw10819349616446364735 : Unit := ()
def PySem.W.Fast.tw10131127256292210637 : Unit := ()
def PySem.W.Fast.tw10553264826284425727 : Unit := ()
def PySem.W.Fast.tw11830929710477107600 : Unit := ()
def PySem.W.Fast.tw15194410579245287638 : Unit := ()
def PySem.W.Fast.tw14885117605539742086 : Unit := ()
def PySem.W.Fast.tw4463243725211008639 : Unit := ()
def PySem.W.Fast.tw4104888746513781903 : Unit := ()
def PySem.W.Fast.tw12835724274497933190 : Unit := ()
def PySem.W.Fast.tw1338942334890377353 : Unit := ()
def PySem.W.Fast.tw765894570467731093 : Unit := ()
def PySem.W.Fast.tw1299117129398084502 : Unit := ()
def PySem.W.Fast.tw1908195321741215011 : Unit := ()
def PySem.W.Fast.tw4234024474560180116 : Unit := ()
def PySem.W.Fast.tw15345869159355067244 : Unit := ()
def PySem.W.Fast.tw4895635983716798329 : Unit := ()
def PySem.W.Fast.tw14140169400461488670 : Unit := ()
def PySem.W.Fast.tw4716988929687269125 : Unit := ()
def PySem.W.Fast.tw17308856788060607836 : Unit := ()
def PySem.W.Fast.tw9925477776250184654 : Unit := ()
def PySem.W.Fast.tw9321369468312963999 : Unit := ()
def PySem.W.Fast.tw8779133126827906372 : Unit := ()
def PySem.W.Fast.tw16014452283929211889 : Unit := ()
def PySem.W.Fast.tw4832958015841723608 : Unit := ()
def PySem.W.Fast.tw10898234701037795724 : Unit := ()
def PySem.W.Fast.tw15359593668141373633 : Unit := ()
def PySem.W.Fast.tw11555457832382052281 : Unit := ()
def PySem.W.Fast.tw11251348034875193497 : Unit := ()
def PySem.W.Fast.tw3993663288879106873 : Unit := ()
def PySem.W.Fast.tw16690266475401023551 : Unit := ()
def PySem.W.Fast.tw178845868068690471 : Unit := ()
def PySem.W.Fast.tw9519057803023219180 : Unit := ()
def PySem.W.Fast.tw12434176244744819426 : Unit := ()
def PySem.W.Fast.tw11432329825287864754 : Unit := ()
def PySem.W.Fast.tw1565635239478660936 : Unit := ()
def PySem.W.Fast.tw14581098102550455507 : Unit := ()
def PySem.W.Fast.tw2340444704789502841 : Unit := ()
def PySem.W.Fast.tw14673739086572302967 : Unit := ()
def PySem.W.Fast.tw13308330300829832896 : Unit := ()
def PySem.W.Fast.tw7829652819336699029 : Unit := ()
def PySem.W.Fast.tw9955751696579528790 : Unit := ()
def PySem.W.Fast.tw7916044616292153241 : Unit := ()
def PySem.W.Fast.tw8575280188172512944 : Unit := ()
def PySem.W.Fast.tw8311144379524411945 : Unit := ()
def PySem.W.Fast.tw4170157185103317836 : Unit := ()
def PySem.W.Fast.tw12557183321262427400 : Unit := ()
def PySem.W.Fast.tw6642642931807432943 : Unit := ()
def PySem.W.Fast.tw394316546398942191 : Unit := ()
def PySem.W.Fast.tw9809425548664210167 : Unit := ()
def PySem.W.Fast.tw2905613436516227530 : Unit := ()
def PySem.W.Fast.tw14604765018541195176 : Unit := ()
def PySem.W.Fast.tw7684740805414203577 : Unit := ()
def PySem.W.Fast.tw11708753864342194282 : Unit := ()
open PySem PySem.W PyProof.Rows
set_option maxRecDepth 100000 in
set_option maxHeartbeats 0 in
theorem PySem.Challenge.cw_benchends_k23_whole_order_texts_holds : PySem.Challenge.rw_benchends_k23_whole_order_texts.Holds := by
  w_on; o_law; k_head; (case hw => w_witness2)
  k_fill
  refine Be.walk (l := PySem.Challenge.rw_benchends_k23_whole_order_texts) rfl rfl (fun w h Y => PySem.W.kIn_of Y) rfl ?F
  case F =>
    intro w mg h KX G
    refine' Be.txt_mk KX G ?a0 ?l0 ?c0 ?k0 ?a1 ?l1 ?c1 ?k1 ?a2 ?l2 ?c2 ?k2 ?a3 ?l3 ?c3 ?k3 ?a4 ?l4 ?c4 ?k4 ?a5 ?l5 ?c5 ?k5 ?a6 ?l6 ?c6 ?k6 ?a7 ?l7 ?c7 ?k7 ?a8 ?l8 ?c8 ?k8 ?a9 ?l9 ?c9 ?k9 ?a10 ?l10 ?c10 ?k10 ?a11 ?l11 ?c11 ?k11 ?a12 ?l12 ?c12 ?k12 ?a13 ?l13 ?c13 ?k13 ?a14 ?l14 ?c14 ?k14 ?a15 ?l15 ?c15 ?k15 ?a16 ?l16 ?c16 ?k16 ?a17 ?l17 ?c17 ?k17 ?a18 ?l18 ?c18 ?k18 ?a19 ?l19 ?c19 ?k19 ?a20 ?l20 ?c20 ?k20 ?a21 ?l21 ?c21 ?k21 ?a22 ?l22 ?c22 ?k22 ?a23 ?l23 ?c23 ?k23 ?a24 ?l24 ?c24 ?k24 ?a25 ?l25 ?c25 ?k25 ?a26 ?l26 ?c26 ?k26 ?a27 ?l27 ?c27 ?k27 ?a28 ?l28 ?c28 ?k28 ?z_ValueError ?z_all ?z_bool ?z_enumerate ?z_int ?z_isinstance ?z_len ?z_min ?z_range ?z_set ?z_sorted ?z_str ?z_tuple ?x_MOST_BENCHES ?x_MOST_WORKS ?x_MOST_LENGTH ?x_BenchError ?q_BenchError ?x_NoWorld ?q_NoWorld ?x_NoOrder ?q_NoOrder ?x_NoLengths ?q_NoLengths ?x_NoWork ?q_NoWork ?x_NoSide ?q_NoSide ?x_Never ?q_Never ?x_TooMany ?q_TooMany ?x_NoStep ?q_NoStep ?x_NoNumber ?q_NoNumber ?x_NoRow ?q_NoRow ?x_NoText ?q_NoText ?v0_ga ?v0_gt ?v0_cl ?v0_mo ?v0_mb ?v0_is ?v0_0 ?v0_1 ?v0_2 ?v0_3 ?v0_4 ?v0_5 ?v0_6 ?v0_7 ?v0_8 ?v0_9 ?v0_10 ?v0_ve ?v0_up ?v10_ga ?v10_gt ?v10_cl ?v10_mo ?v10_mb ?v10_is ?v10_0 ?v10_1 ?v10_2 ?v10_3 ?v10_4 ?v10_5 ?v10_6 ?v10_7 ?v10_8 ?v10_9 ?v10_10 ?v10_ve ?v10_up ?v_ba
    (case a0 => k_is)
    (case l0 => k_is)
    (case c0 => k_is)
    (case k0 => k_is)
    (case a1 => k_is)
    (case l1 => k_is)
    (case c1 => k_is)
    (case k1 => k_is)
    (case a2 => k_is)
    (case l2 => k_is)
    (case c2 => k_is)
    (case k2 => k_is)
    (case a3 => k_is)
    (case l3 => k_is)
    (case c3 => k_is)
    (case k3 => k_is)
    (case a4 => k_is)
    (case l4 => k_is)
    (case c4 => k_is)
    (case k4 => k_is)
    (case a5 => k_is)
    (case l5 => k_is)
    (case c5 => k_is)
    (case k5 => k_is)
    (case a6 => k_is)
    (case l6 => k_is)
    (case c6 => k_is)
    (case k6 => k_is)
    (case a7 => k_is)
    (case l7 => k_is)
    (case c7 => k_is)
    (case k7 => k_is)
    (case a8 => k_is)
    (case l8 => k_is)
    (case c8 => k_is)
    (case k8 => k_is)
    (case a9 => k_is)
    (case l9 => k_is)
    (case c9 => k_is)
    (case k9 => k_is)
    (case a10 => k_is)
    (case l10 => k_is)
    (case c10 => k_is)
    (case k10 => k_is)
    (case a11 => k_is)
    (case l11 => k_is)
    (case c11 => k_is)
    (case k11 => k_is)
    (case a12 => k_is)
    (case l12 => k_is)
    (case c12 => k_is)
    (case k12 => k_is)
    (case a13 => k_is)
    (case l13 => k_is)
    (case c13 => k_is)
    (case k13 => k_is)
    (case a14 => k_is)
    (case l14 => k_is)
    (case c14 => k_is)
    (case k14 => k_is)
    (case a15 => k_is)
    (case l15 => k_is)
    (case c15 => k_is)
    (case k15 => k_is)
    (case a16 => k_is)
    (case l16 => k_is)
    (case c16 => k_is)
    (case k16 => k_is)
    (case a17 => k_is)
    (case l17 => k_is)
    (case c17 => k_is)
    (case k17 => k_is)
    (case a18 => k_is)
    (case l18 => k_is)
    (case c18 => k_is)
    (case k18 => k_is)
    (case a19 => k_is)
    (case l19 => k_is)
    (case c19 => k_is)
    (case k19 => k_is)
    (case a20 => k_is)
    (case l20 => k_is)
    (case c20 => k_is)
    (case k20 => k_is)
    (case a21 => k_is)
    (case l21 => k_is)
    (case c21 => k_is)
    (case k21 => k_is)
    (case a22 => k_is)
    (case l22 => k_is)
    (case c22 => k_is)
    (case k22 => k_is)
    (case a23 => k_is)
    (case l23 => k_is)
    (case c23 => k_is)
    (case k23 => k_is)
    (case a24 => k_is)
    (case l24 => k_is)
    (case c24 => k_is)
    (case k24 => k_is)
    (case a25 => k_is)
    (case l25 => k_is)
    (case c25 => k_is)
    (case k25 => k_is)
    (case a26 => k_is)
    (case l26 => k_is)
    (case c26 => k_is)
    (case k26 => k_is)
    (case a27 => k_is)
    (case l27 => k_is)
    (case c27 => k_is)
    (case k27 => k_is)
    (case a28 => k_is)
    (case l28 => k_is)
    (case c28 => k_is)
    (case k28 => k_is)
    (case z_ValueError => k_is)
    (case z_all => k_is)
    (case z_bool => k_is)
    (case z_enumerate => k_is)
    (case z_int => k_is)
    (case z_isinstance => k_is)
    (case z_len => k_is)
    (case z_min => k_is)
    (case z_range => k_is)
    (case z_set => k_is)
    (case z_sorted => k_is)
    (case z_str => k_is)
    (case z_tuple => k_is)
    (case x_MOST_BENCHES => k_is)
    (case x_MOST_WORKS => k_is)
    (case x_MOST_LENGTH => k_is)
    (case x_BenchError => k_is)
    (case q_BenchError => k_exc)
    (case x_NoWorld => k_is)
    (case q_NoWorld => k_exc)
    (case x_NoOrder => k_is)
    (case q_NoOrder => k_exc)
    (case x_NoLengths => k_is)
    (case q_NoLengths => k_exc)
    (case x_NoWork => k_is)
    (case q_NoWork => k_exc)
    (case x_NoSide => k_is)
    (case q_NoSide => k_exc)
    (case x_Never => k_is)
    (case q_Never => k_exc)
    (case x_TooMany => k_is)
    (case q_TooMany => k_exc)
    (case x_NoStep => k_is)
    (case q_NoStep => k_exc)
    (case x_NoNumber => k_is)
    (case q_NoNumber => k_exc)
    (case x_NoRow => k_is)
    (case q_NoRow => k_exc)
    (case x_NoText => k_is)
    (case q_NoText => k_exc)
    (case v0_ga => k_is)
    (case v0_gt => k_is)
    (case v0_cl => k_is)
    (case v0_mo => k_is)
    (case v0_mb => k_is)
    (case v0_is => k_is)
    (case v0_0 => kit_is)
    (case v0_1 => kit_is)
    (case v0_2 => kit_is)
    (case v0_3 => kit_is)
    (case v0_4 => kit_is)
    (case v0_5 => kit_is)
    (case v0_6 => kit_is)
    (case v0_7 => kit_is)
    (case v0_8 => kit_is)
    (case v0_9 => kit_is)
    (case v0_10 => kit_is)
    (case v0_ve => kit_is)
    (case v0_up => k_is)
    (case v10_ga => k_is)
    (case v10_gt => k_is)
    (case v10_cl => k_is)
    (case v10_mo => k_is)
    (case v10_mb => k_is)
    (case v10_is => k_is)
    (case v10_0 => kit_is)
    (case v10_1 => kit_is)
    (case v10_2 => kit_is)
    (case v10_3 => kit_is)
    (case v10_4 => kit_is)
    (case v10_5 => kit_is)
    (case v10_6 => kit_is)
    (case v10_7 => kit_is)
    (case v10_8 => kit_is)
    (case v10_9 => kit_is)
    (case v10_10 => kit_is)
    (case v10_ve => kit_is)
    (case v10_up => k_is)
    (case v_ba => k_is)
