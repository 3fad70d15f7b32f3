import PyProof.Rows.All
import Wide.All
import OpenK.AllK
import Wide.FinOn
import Lean
import PyProof.EqAt
import PyProof.EqKinds
import PyProof.TupleCall
import PyProof.Rows.EqDataRows
import PyProof.ConsumeWalk
import PyProof.ZipIter
import KE.RegKIsAll
import PyProof.Rows.MinMaxN
import PyProof.SumWalk
import KE.KTupSum
import PyProof.Rows.SortWalk
import PyProof.CompUse
import PyProof.ListMulRoad
import PyProof.FactsAll.tuple
import PyProof.CallStr
import PyProof.StrLawsTight
import PyProof.StrLawsFirst
import PyProof.StrLaws
import PyProof.Rows.StrItems
import PyProof.Rows.StrNews2
import PyProof.Rows.StrJoin2
import PyProof.FString
import PyProof.SliceStr2
import PyProof.SetScanFacts
import PyProof.StrWalks
import PyProof.StrBlock2
import PyProof.StrCalls
import PyProof.Rows.StrPadFill
import KE.KRevSl
import PyProof.Rows.StrStep
import PyProof.Rows.StrFirst
import PyProof.StationsW
import KE.KDictOf
import PyProof.AttrMissHeap
import PyProof.WalksS
import PySem.Challenge.RW_benchends_k22_whole_world_texts
set_option genSizeOf false
set_option Elab.async false
set_option linter.all false
set_option maxRecDepth 100000
/-! THE HAND LAYER, for ints, bools, texts, own classes, LISTS and tuples (index, slices, in, append, pop ..), calls, loops. Paste it whole ahead of your own text; what your proof does not reach may be deleted. -/
namespace L2
open PySem PySem.Spec PyProof.Rows

/-- a key: an int or a str -/
abbrev Key := Sum Int Str
def keyIs : Key → Value → Bool
  | .inl k, v => Value.isInt k v
  | .inr x, v => Value.isStrOf x v
def keyH (w : World) : Key → Int
  | .inl k => hashInt k
  | .inr x => hashStr w x
theorem keyIs_shape : ∀ {k : Key} {v : Value}, keyIs k v = true → (∃ i t, k = Sum.inl i ∧ v = Value.int i t) ∨ (∃ x t, k = Sum.inr x ∧ v = Value.str x t)
  | .inl i, v, h => by
    obtain ⟨t, e⟩ := Value.isInt_shape (k := i) (v := v) h
    exact .inl ⟨i, t, rfl, e⟩
  | .inr x, v, h => by
    obtain ⟨t, e⟩ := Value.isStrOf_shape (x := x) (v := v) h
    exact .inr ⟨x, t, rfl, e⟩
theorem keyIs_int (i : Int) (t : Tok) : keyIs (.inl i) (.int i t) = true := by simp [keyIs, Value.isInt]
theorem keyIs_str (x : Str) (t : Tok) : keyIs (.inr x) (.str x t) = true := by simp [keyIs, Value.isStrOf]
theorem key_ll (a b : Int) : decide ((Sum.inl a : Key) = Sum.inl b) = (a == b) := by
  by_cases e : a = b
  · subst e; simp
  · have h : ¬ (Sum.inl a : Key) = Sum.inl b := fun q => e (Sum.inl.inj q)
    rw [decide_eq_false h]
    exact (beq_eq_false_iff_ne.mpr e).symm
theorem key_rr (a b : Str) : decide ((Sum.inr a : Key) = Sum.inr b) = decide (a = b) := by
  by_cases e : a = b
  · subst e; simp
  · have h : ¬ (Sum.inr a : Key) = Sum.inr b := fun q => e (Sum.inr.inj q)
    rw [decide_eq_false h, decide_eq_false e]
theorem key_lr (a : Int) (b : Str) : decide ((Sum.inl a : Key) = Sum.inr b) = false := decide_eq_false (fun q => nomatch q)
theorem key_rl (a : Str) (b : Int) : decide ((Sum.inr a : Key) = Sum.inl b) = false := decide_eq_false (fun q => nomatch q)

def mixKind (prog : Program) (w : World) : PySem.KeyKind prog w Key where
  is := keyIs
  hash := keyH w
  inj := fun v a b ha hb => by
    rcases keyIs_shape ha with ⟨i, t, rfl, rfl⟩ | ⟨x, t, rfl, rfl⟩
    · rcases keyIs_shape hb with ⟨j, u, rfl, e⟩ | ⟨y, u, rfl, e⟩
      · injection e with e1 _; rw [e1]
      · exact nomatch e
    · rcases keyIs_shape hb with ⟨j, u, rfl, e⟩ | ⟨y, u, rfl, e⟩
      · exact nomatch e
      · injection e with e1 _; rw [e1]
  byValue := fun k v h => by
    rcases keyIs_shape h with ⟨i, t, rfl, rfl⟩ | ⟨x, t, rfl, rfl⟩ <;> rfl
  pyHash := fun hv h => by
    rcases keyIs_shape hv with ⟨i, t, rfl, rfl⟩ | ⟨x, t, rfl, rfl⟩
    · exact wpAny_pyHash_int h
    · exact wpAny_pyHash_str h
  eqBool := fun hu hv h => by
    rcases keyIs_shape hu with ⟨i, t, rfl, rfl⟩ | ⟨x, t, rfl, rfl⟩
    · rcases keyIs_shape hv with ⟨j, u, rfl, rfl⟩ | ⟨y, u, rfl, rfl⟩
      · rw [key_ll] at h; exact wpAny_eqBool_int h
      · rw [key_lr] at h; exact SeqAt.EqAt.int_str i t y u _ _ _ _ h
    · rcases keyIs_shape hv with ⟨j, u, rfl, rfl⟩ | ⟨y, u, rfl, rfl⟩
      · rw [key_rl] at h; exact SeqAt.EqAt.str_int x t j u _ _ _ _ h
      · rw [key_rr] at h; exact wpAny_eqBool_str h
  «strs» := fun k x t v h => by
    rcases keyIs_shape h with ⟨i, u, rfl, e⟩ | ⟨y, u, rfl, e⟩
    · exact nomatch e
    · injection e with e1 _
      subst e1
      cases v <;> rfl

theorem mixKind_int (prog : Program) (w : World) (i : Int) (t : Tok) : (mixKind prog w).is (.inl i) (.int i t) = true := keyIs_int i t
theorem mixKind_str (prog : Program) (w : World) (x : Str) (t : Tok) : (mixKind prog w).is (.inr x) (.str x t) = true := keyIs_str x t
end L2

namespace L2
open PySem PySem.Spec PyProof.Rows

/-- a value, without the heap -/
inductive V where
  | non | bl (b : Bool) | int (i : Int) | str (x : Str) | byt (b : Array UInt8) | flt (b : UInt64) | ref (a : Addr) | ty (n : String)
  deriving DecidableEq

def RelV : V → Value → Prop
  | .non, u => u = Value.none
  | .bl b, u => u = Value.bool b
  | .int i, u => ∃ t, u = Value.int i t
  | .str x, u => ∃ t, u = Value.str x t
  | .byt b, u => ∃ t, u = Value.bytes b t
  | .flt b, u => ∃ t, u = Value.float b t
  | .ref a, u => u = Value.ref a
  | .ty n, u => u = Value.type n

abbrev Vals : List V → List Value → Prop := Paired RelV
theorem Vals.length {xs : List V} {us : List Value} (r : Vals xs us) : xs.length = us.length := Paired.length r
theorem Vals.get : ∀ {xs : List V} {us : List Value} {i : Nat} {x : V}, Vals xs us → xs[i]? = some x → ∃ u, us[i]? = some u ∧ RelV x u
  | _, _, _, _, .nil, e => by simp at e
  | _, _, 0, _, .cons r _, e => by simp at e; subst e; exact ⟨_, rfl, r⟩
  | _, _, i + 1, x, .cons _ t, e => by
    obtain ⟨u, h1, h2⟩ := Vals.get (i := i) (x := x) t (by simpa using e)
    exact ⟨u, by simpa using h1, h2⟩
theorem Vals.append : ∀ {xs ys : List V} {us ws : List Value}, Vals xs us → Vals ys ws → Vals (xs ++ ys) (us ++ ws)
  | _, _, _, _, .nil, s => s
  | _, _, _, _, .cons r t, s => .cons r (Vals.append t s)
theorem Vals.take : ∀ {xs : List V} {us : List Value} (n : Nat), Vals xs us → Vals (xs.take n) (us.take n)
  | _, _, 0, _ => .nil
  | _, _, _ + 1, .nil => .nil
  | _, _, n + 1, .cons r t => .cons r (Vals.take n t)
theorem Vals.drop : ∀ {xs : List V} {us : List Value} (n : Nat), Vals xs us → Vals (xs.drop n) (us.drop n)
  | _, _, 0, r => r
  | _, _, _ + 1, .nil => .nil
  | _, _, n + 1, .cons _ t => Vals.drop n t
def RelO : Option V → Option Value → Prop
  | some v, some u => RelV v u
  | none, none => True
  | _, _ => False
def KV {κ : Type} : List (κ × V) → List (κ × Value) → Prop := Paired fun (p : κ × V) (q : κ × Value) => p.1 = q.1 ∧ RelV p.2 q.2

/-- a key of a dict (00_mix): an int or a text -/
def kV : Key → V
  | .inl i => .int i
  | .inr x => .str x

/-- what stands at a tracked address -/
inductive HO where
  /-- a list -/
  | lst (xs : List V)
  /-- a tuple (never changes) -/
  | tup (xs : List V)
  /-- a dict whose keys are ints and texts; one whose keys are tuples of ints and texts (the empty one is both) -/
  | dK (kvs : List (Key × V)) | dT (kvs : List (List Key × V))
  /-- a set of ints: its members, its size -/
  | set (S : Int → Bool) (n : Nat)
  /-- an instance of the class at C, its dict at dx, its attributes -/
  | ins (C dx : Addr) (fs : List (Str × V))
  /-- the dict of the instance at x -/
  | own (x : Addr)
  /-- the dict of an exception -/
  | xd (fs : List (Str × V))
  /-- a bound method, f of x -/
  | met (f x : Addr)
  /-- a range object lo, lo + 1, .. below hi -/
  | rng (lo hi : Int)
  /-- a thing that is known to the object (the script; a dict while a loop walks it): read, never written while it is so -/
  | frz (o : Obj) (u : HO)
  /-- a code object's table -/
  | tbl (ps : Array Value)
  /-- any other thing, by what is true of its one object (a def of one's own: SetO a S n := HO.ext fun h => ..) -/
  | ext (φ : Heap → Prop)

abbrev Hp := Addr → Option HO
def upd (H : Hp) (a : Addr) (o : HO) : Hp := fun b => if b = a then some o else H b
theorem upd_same {H : Hp} {a : Addr} {o : HO} : upd H a o a = some o := by unfold upd; rw [if_pos rfl]
theorem upd_ne {H : Hp} {a b : Addr} {o : HO} (h : b ≠ a) : upd H a o b = H b := by unfold upd; rw [if_neg h]
/-- two objects of different content stand apart -/
theorem ne_of {H : Hp} {a b : Addr} {o u : HO} (h : H a = some o) (h' : H b = some u) (d : o ≠ u) : a ≠ b := by
  intro e; subst e; rw [h] at h'; exact d (Option.some.inj h')
theorem ne_of_none {H : Hp} {a b : Addr} {o : HO} (h : H a = some o) (h' : H b = none) : a ≠ b := by
  intro e; subst e; rw [h] at h'; cases h'

section
variable (P : Program) (w : World)
def TupP (h : Heap) (a : Addr) (items : Array Value) : Prop := ∃ o, h.get? a = some o ∧ o.cls = .type "tuple" ∧ o.dict = none ∧ ∃ n, o.data = .seq items n
theorem TupP.t {h : Heap} {a : Addr} {items : Array Value} (p : TupP h a items) : IsTup h a items := let ⟨o, e, c, _, n, d⟩ := p; ⟨o, e, c, n, d⟩
theorem TupP.new (h : Heap) (items : Array Value) : TupP (h.push { cls := .type "tuple", data := .seq items }) h.objs.size items := ⟨_, Heap.get?_push_size _ rfl, rfl, rfl, 0, rfl⟩
def ObjOk (H : Hp) (h : Heap) (a : Addr) : HO → Prop
  | .lst xs => xs.length ≤ sizeLine ∧ ∃ (its : List Value) (n : Nat), Vals xs its ∧ h.get? a = some { cls := .type "list", data := .seq its.toArray n }
  | .tup xs => xs.length ≤ sizeLine ∧ ∃ its : List Value, Vals xs its ∧ TupP h a its.toArray
  | .dK kvs => kvs.length ≤ sizeLine ∧ (a == sysModules) = false ∧ ∃ vs, KV kvs vs ∧ h.DictOf (mixKind P w) a vs
  | .dT kvs => kvs.length ≤ sizeLine ∧ (a == sysModules) = false ∧ ∃ xs : List (List Key × Addr × Value),
      Paired (fun (p : List Key × V) (q : List Key × Addr × Value) => p.1 = q.1 ∧ H q.2.1 = some (.tup (p.1.map kV)) ∧ RelV p.2 q.2.2) kvs xs ∧
      ∃ o es ep, h.get? a = some o ∧ o.ExactDict ∧ o.data = .dict es ep ∧ es.toList = xs.map (entryOfKey (tupleKind (mixKind P w))) ∧ (xs.map (·.1)).Nodup
  | .set S n => h.SetOf (intKind P w) a S n
  | .ins C dx fs => H dx = some (.own a) ∧ fs.length ≤ 1000 ∧ dx ≠ a ∧ h.get? a = some (PySem.W.instObj C dx) ∧
      ∃ mA, h.Ns1 dx mA ∧ (∀ f, RelO (fs.lookup f) (mA f)) ∧ PySem.Within mA (fs.map (·.1))
  | .own _ => ∃ o, h.get? a = some o
  | .xd fs => ∃ mA, h.Ns1 a mA ∧ ∀ f, RelO (fs.lookup f) (mA f)
  | .rng lo hi => ∃ t u v, h.get? a = some { cls := .type "range", data := .fields #[.int lo t, .int hi u, .int 1 v] }
  | .frz o u => h.get? a = some o ∧ ObjOk H h a u
  | .tbl ps => h.get? a = some { cls := .none, data := .fields ps }
  | .met f x => h.get? a = some (PySem.W.methodObj (.ref f) (.ref x))
  | .ext φ => φ h ∧ (∃ o, h.get? a = some o) ∧ ∀ h1 h2 : Heap, φ h1 → (∀ o, h1.get? a = some o → h2.get? a = some o) → φ h2
/-- the abstract heap is held -/
def HOk (H : Hp) (h : Heap) : Prop := ∀ a o, H a = some o → ObjOk P w H h a o
end

section
variable {P : Program} {w : World} {H H' : Hp} {h h' : Heap} {a : Addr} {o : HO}
theorem ObjOk.lt (x : ObjOk P w H h a o) : a < h.objs.size := by
  cases o with
  | lst xs => obtain ⟨_, _, _, _, e⟩ := x; exact Heap.lt_size e
  | tup xs => obtain ⟨_, _, _, p⟩ := x; exact p.t.lt
  | dK kvs => obtain ⟨_, _, _, _, o, _, _, e, _⟩ := x; exact Heap.lt_size e
  | dT kvs => obtain ⟨_, _, _, _, o, _, _, e, _⟩ := x; exact Heap.lt_size e
  | set S n => obtain ⟨o, _, _, _, e, _⟩ := x; exact Heap.lt_size e
  | ins C dx fs => obtain ⟨_, _, _, e, _⟩ := x; exact Heap.lt_size e
  | own y => obtain ⟨_, e⟩ := x; exact Heap.lt_size e
  | xd fs => obtain ⟨_, ⟨_, _, _, e, _⟩, _⟩ := x; exact Heap.lt_size e
  | rng lo hi => obtain ⟨_, _, _, e⟩ := x; exact Heap.lt_size e
  | frz ob u => obtain ⟨e, _⟩ := x; exact Heap.lt_size e
  | tbl ps => exact Heap.lt_size (show h.get? a = some _ from x)
  | met f y => exact Heap.lt_size (show h.get? a = some _ from x)
  | ext φ => obtain ⟨_, ⟨_, e⟩, _⟩ := x; exact Heap.lt_size e
theorem Paired.mapP {α β : Type} {F G : α → β → Prop} : ∀ {l₁ : List α} {l₂ : List β}, Paired F l₁ l₂ → (∀ a b, F a b → G a b) → Paired G l₁ l₂
  | _, _, .nil, _ => .nil
  | _, _, .cons r t, f => .cons (f _ _ r) (Paired.mapP t f)
/-- what an object's description leans on: its own object, its own dict, the tuples -/
theorem ObjOk.stay (x : ObjOk P w H h a o) (k : ∀ b u, (b = a ∨ H b = some (.own a)) → h.get? b = some u → h'.get? b = some u)
    (ho : ∀ b, H b = some (.own a) → H' b = some (.own a)) (ht : ∀ b xs, H b = some (.tup xs) → H' b = some (.tup xs)) : ObjOk P w H' h' a o := by
  induction o with
  | lst xs => obtain ⟨z, its, n, r, e⟩ := x; exact ⟨z, its, n, r, k _ _ (.inl rfl) e⟩
  | tup xs => obtain ⟨z, its, r, ob, e, c⟩ := x; exact ⟨z, its, r, ob, k _ _ (.inl rfl) e, c⟩
  | dK kvs => obtain ⟨z, y, vs, r, ob, es, ep, e, c⟩ := x; exact ⟨z, y, vs, r, ob, es, ep, k _ _ (.inl rfl) e, c⟩
  | dT kvs =>
    obtain ⟨z, y, xs, r, ob, es, ep, e, c⟩ := x
    exact ⟨z, y, xs, Paired.mapP r fun p q z => ⟨z.1, ht _ _ z.2.1, z.2.2⟩, ob, es, ep, k _ _ (.inl rfl) e, c⟩
  | set S n => obtain ⟨ob, es, ep, t, e, c⟩ := x; exact ⟨ob, es, ep, t, k _ _ (.inl rfl) e, c⟩
  | ins C dx fs =>
    obtain ⟨d, z, ne, e, mA, ⟨od, es, ep, e2, c⟩, r⟩ := x
    exact ⟨ho _ d, z, ne, k _ _ (.inl rfl) e, mA, ⟨od, es, ep, k _ _ (.inr d) e2, c⟩, r⟩
  | own y => obtain ⟨ob, e⟩ := x; exact ⟨ob, k _ _ (.inl rfl) e⟩
  | xd fs => obtain ⟨mA, ⟨od, es, ep, e, c⟩, r⟩ := x; exact ⟨mA, ⟨od, es, ep, k _ _ (.inl rfl) e, c⟩, r⟩
  | rng lo hi => obtain ⟨t, u, v, e⟩ := x; exact ⟨t, u, v, k _ _ (.inl rfl) e⟩
  | frz ob u ih => obtain ⟨e, q⟩ := x; exact ⟨k _ _ (.inl rfl) e, ih q⟩
  | tbl ps =>
    have e : h.get? a = some { cls := .none, data := .fields ps } := x
    show h'.get? a = some { cls := .none, data := .fields ps }
    exact k a _ (.inl rfl) e
  | met f y =>
    have e : h.get? a = some (PySem.W.methodObj (.ref f) (.ref y)) := x
    show h'.get? a = some (PySem.W.methodObj (.ref f) (.ref y))
    exact k a _ (.inl rfl) e
  | ext φ => obtain ⟨p, ⟨o, e⟩, st⟩ := x; exact ⟨st _ _ p fun o q => k _ _ (.inl rfl) q, ⟨o, k _ _ (.inl rfl) e⟩, st⟩
theorem HOk.lt (x : HOk P w H h) (e : H a = some o) : a < h.objs.size := (x a o e).lt
theorem HOk.fresh (x : HOk P w H h) (e : h.objs.size ≤ a) : H a = none := by
  cases q : H a with
  | none => rfl
  | some u => exact absurd (Nat.lt_of_lt_of_le (x.lt q) e) (Nat.lt_irrefl _)
/-- every object of the heap is kept -/
theorem HOk.kept (x : HOk P w H h) (k : ∀ b u, h.get? b = some u → h'.get? b = some u) : HOk P w H h' := fun a o e =>
  (x a o e).stay (fun b u _ q => k b u q) (fun _ q => q) fun _ _ q => q
/-- a new object is laid and tracked -/
theorem HOk.laid (x : HOk P w H h) (k : ∀ b u, h.get? b = some u → h'.get? b = some u) (hp : h.objs.size ≤ a) (new : ObjOk P w (upd H a o) h' a o) : HOk P w (upd H a o) h' := fun b u e => by
  have hn := x.fresh hp
  by_cases hb : b = a
  · subst hb; rw [upd_same] at e; cases e; exact new
  · rw [upd_ne hb] at e
    exact (x b u e).stay (fun c v _ q => k c v q) (fun c q => by rw [upd_ne (ne_of_none q hn)]; exact q) fun c xs q => by rw [upd_ne (ne_of_none q hn)]; exact q
end

/-- what may be read as u: it is u, or a known u -/
def Rd (H : Hp) (a : Addr) (u : HO) : Prop := H a = some u ∨ ∃ o, H a = some (.frz o u)
theorem Rd.ok {P : Program} {w : World} {H : Hp} {h : Heap} {a : Addr} {u : HO} (r : Rd H a u) (x : HOk P w H h) : ObjOk P w H h a u := by
  rcases r with r | ⟨o, r⟩
  · exact x a u r
  · obtain ⟨_, q⟩ := x a _ r
    exact q
/-- what may be written -/
def Mut : Option HO → Prop
  | some (.lst _) => True
  | some (.dK _) => True
  | some (.dT _) => True
  | some (.set _ _) => True
  | some (.ins _ _ _) => True
  | some (.ext _) => True
  | _ => False
section
variable {P : Program} {w : World} {H : Hp} {h h' : Heap} {x e : Addr} {o' : HO}
/-- the object at e is changed: x itself, or the dict of the instance x -/
theorem HOk.write (ok : HOk P w H h) (mu : Mut (H x)) (he : e = x ∨ H e = some (.own x)) (k : ∀ b u, b ≠ e → h.get? b = some u → h'.get? b = some u) (heo : ∃ u, h'.get? e = some u)
    (new : ObjOk P w (upd H x o') h' x o') : HOk P w (upd H x o') h' := fun b u q => by
  have nown : ∀ c y, H c = some (.own y) → c ≠ x := fun c y r z => by subst z; rw [r] at mu; exact mu
  have ntup : ∀ c xs, H c = some (.tup xs) → c ≠ x := fun c xs r z => by subst z; rw [r] at mu; exact mu
  by_cases hb : b = x
  · subst hb; rw [upd_same] at q; cases q; exact new
  · rw [upd_ne hb] at q
    by_cases hbe : b = e
    · have q' : H b = some (.own x) := by
        rcases he with z | z
        · exact absurd (hbe.trans z) hb
        · rw [hbe]; exact z
      rw [q] at q'; cases q'
      obtain ⟨v, hv⟩ := heo
      exact ⟨v, by rw [hbe]; exact hv⟩
    · refine (ok b u q).stay (fun c v hc r => k c v ?_ r) (fun c r => by rw [upd_ne (nown c b r)]; exact r) fun c xs r => by rw [upd_ne (ntup c xs r)]; exact r
      rcases hc with rfl | hc
      · exact hbe
      · rintro rfl
        rcases he with z | z
        · exact nown c b hc z
        · rw [hc] at z; cases z; exact hb rfl
end

/-! ### kept unless tracked; of the frames at fs (the callers') the slots may change (an exception that passes writes there); of the records at ex (iterators) nothing is said -/
structure Un (fs ex : List Addr) (H H' : Hp) (h h' : Heap) : Prop where
  keep : ∀ b o, h.get? b = some o → H b = none → b ∉ fs → b ∉ ex → h'.get? b = some o
  slot : ∀ b o, h.get? b = some o → H b = none → b ∈ fs → b ∉ ex → ∃ sl, h'.get? b = some { o with slots := sl }
  free : ∀ b o, h.get? b = some o → H b = none → b ∉ ex → H' b = none
  there : ∀ b o, h.get? b = some o → b ∉ ex → ∃ o', h'.get? b = some o'
  tups : ∀ b xs, H b = some (.tup xs) → H' b = some (.tup xs)
  frzs : ∀ b o u, H b = some (.frz o u) → H' b = some (.frz o u)
  tbls : ∀ b ps, H b = some (.tbl ps) → ∃ more, H' b = some (.tbl (ps ++ more))
section
variable {fs fs' ex ex' : List Addr} {H H1 H2 : Hp} {h h1 h2 h' : Heap} {a x e : Addr} {o : HO}
theorem Un.any (u : Un fs ex H H1 h h1) {b : Addr} {ob : Obj} (q : h.get? b = some ob) (n : H b = none) (hx : b ∉ ex) : ∃ sl, h1.get? b = some { ob with slots := sl } := by
  by_cases hb : b ∈ fs
  · exact u.slot b ob q n hb hx
  · exact ⟨ob.slots, u.keep b ob q n hb hx⟩
theorem Un.kept (k : ∀ b u, h.get? b = some u → h'.get? b = some u) : Un fs ex H H h h' :=
  ⟨fun b ob q _ _ _ => k b ob q, fun b ob q _ _ _ => ⟨ob.slots, k b ob q⟩, fun _ _ _ n _ => n, fun b ob q _ => ⟨ob, k b ob q⟩, fun _ _ q => q, fun _ _ _ q => q, fun _ ps q => ⟨#[], by rw [q]; simp⟩⟩
theorem Un.refl : Un fs ex H H h h := Un.kept fun _ _ q => q
theorem Un.laid (k : ∀ b u, h.get? b = some u → h'.get? b = some u) (hp : h.objs.size ≤ a) (hn : H a = none) : Un fs ex H (upd H a o) h h' where
  keep := fun b u q _ _ _ => k b u q
  slot := fun b u q _ _ _ => ⟨u.slots, k b u q⟩
  free := fun b u q n _ => by rw [upd_ne (Nat.ne_of_lt (Nat.lt_of_lt_of_le (Heap.lt_size q) hp))]; exact n
  there := fun b u q _ => ⟨u, k b u q⟩
  tups := fun b xs q => by rw [upd_ne (ne_of_none q hn)]; exact q
  frzs := fun b u xs q => by rw [upd_ne (ne_of_none q hn)]; exact q
  tbls := fun b ps q => ⟨#[], by rw [upd_ne (ne_of_none q hn), q]; simp⟩
theorem Un.write (mu : Mut (H x)) (he : e = x ∨ H e = some (.own x)) (k : ∀ b u, b ≠ e → h.get? b = some u → h'.get? b = some u) (heo : ∃ u, h'.get? e = some u) : Un fs ex H (upd H x o) h h' := by
  have hx : ∀ b, H b = none → b ≠ x := fun b n z => by subst z; rw [n] at mu; exact mu
  have hb : ∀ b, H b = none → b ≠ e := fun b n z => by
    subst z
    rcases he with r | r
    · exact hx b n r
    · rw [n] at r; cases r
  have hm : ∀ b u, H b = some u → ¬ Mut (some u) → b ≠ x := fun b u q nm z => by subst z; rw [q] at mu; exact nm mu
  refine ⟨fun b u q n _ _ => k b u (hb b n) q, fun b u q n _ _ => ⟨u.slots, k b u (hb b n) q⟩, fun b u q n _ => by rw [upd_ne (hx b n)]; exact n, fun b u q _ => ?_,
    fun b xs q => by rw [upd_ne (hm b _ q fun z => z)]; exact q, fun b u xs q => by rw [upd_ne (hm b _ q fun z => z)]; exact q, fun b ps q => ⟨#[], by rw [upd_ne (hm b _ q fun z => z), q]; simp⟩⟩
  by_cases hbe : b = e
  · subst hbe; exact heo
  · exact ⟨u, k b u hbe q⟩
end

/-! ### the heap without what is tracked -/
def trk (h : Heap) (H : Hp) : List Addr := (List.range h.objs.size).filter fun a => (H a).isSome
def hidT (h : Heap) (H : Hp) : Heap := PySem.W.hideAll h (trk h H)
theorem hidT_size (h : Heap) (H : Hp) : (hidT h H).objs.size = h.objs.size := PySem.W.hideAll_size _ _
theorem hidT_get {h : Heap} {H : Hp} {b : Addr} {o : Obj} (e : h.get? b = some o) (n : H b = none) : (hidT h H).get? b = some o :=
  PySem.W.hideAll_get _ e fun hm => by
    have q : (H b).isSome = true := (List.mem_filter.mp hm).2
    rw [n] at q; simp at q
theorem of_hidT {h : Heap} {H : Hp} {b : Addr} {o : Obj} (e : (hidT h H).get? b = some o) : h.get? b = some o ∧ H b = none := by
  have e' : h.get? b = some o := PySem.W.of_hideAll (trk h H) e
  refine ⟨e', ?_⟩
  cases q : H b with
  | none => rfl
  | some x =>
    have hm : b ∈ trk h H := List.mem_filter.mpr ⟨List.mem_range.mpr (Heap.lt_size e'), by simp [q]⟩
    have z : (hidT h H).get? b = none := PySem.W.hideAll_none (trk h H) hm
    rw [z] at e; cases e

/-! ### OpenK's ledger, filled with every new object but one -/
end L2

namespace L2
open PySem PySem.Spec PyProof.Rows

/-- the module's facts, over the base: the heap at the law's entry without what is tracked there -/
structure Mod (K : PySem.W.Frag) (mg : Str → Option Value) (base : Heap) : Prop where
  kin : K.In base
  glob : base.Ns mainGlobals mg
  blt : ∃ mb, base.Ns builtinsNs mb ∧ ∀ x : Str, x ≠ "__name__" → mb x = bootBuiltins x
  nolimit : base.NoLimit

/-- the context: a def's body (or a comprehension's block) running. base: fixed through the whole law; s₀, H₀: the entry; outer: the frames whose slots others may change (a def's callers); stack: all frames that run;
   ex: iterators that were made ahead of the entry and are walked here (a comprehension's); fn: the names whose cells were made at the entry (a def: all; a comprehension's block: its own); calm: not within an except suite; pn: pins that every state bears; xe: what is wanted of an exception that leaves the code -/
structure Cx where
  prog : Program
  w : World
  K : PySem.W.Frag
  mg : Str → Option Value
  base : Heap
  A : Around
  N : List Str
  s₀ : Shared
  H₀ : Hp
  env : Env
  outer : List Env
  stack : List Env
  ex : List Addr
  fn : Str → Bool
  calm : Bool
  pn : List (Addr × Obj)
  xe : Value → Shared → Prop
/-- the callers' frames -/
def frs (l : List Env) : List Addr := l.filterMap (·.frame)
abbrev Cx.fs (X : Cx) : List Addr := frs X.outer

def Vis (sc : Scope) (x : Str) : Prop := sc.names.lookup x = some .local ∨ sc.names.lookup x = some .cell ∨ sc.names.lookup x = some .free
def Loc (sc : Scope) (x : Str) : Prop := sc.names.lookup x = some .local ∨ sc.names.lookup x = some .cell
def Look (env : Env) (h : Heap) (m : Str → Option Value) (x : Str) (u : Value) : Prop :=
  (env.kindOf x = some .local ∧ m x = some u) ∨ ((env.kindOf x = some .cell ∨ env.kindOf x = some .free) ∧ ∃ c, env.cells.lookup x = some c ∧ h.IsCell c (some u))

structure Cx.Ok (X : Cx) : Prop where
  mod : Mod X.K X.mg X.base
  kind : X.env.scope.kind = .function
  glob : X.env.globals = mainGlobals
  blt : X.env.builtins = builtinsNs
  above : X.s₀.heap.objs.size ≤ X.env.locals
  inj : ∀ x y c, X.env.cells.lookup x = some c → X.env.cells.lookup y = some c → x = y
  has : ∀ x, (X.env.kindOf x = some .cell ∨ X.env.kindOf x = some .free) → ∃ c, X.env.cells.lookup x = some c
  cab : ∀ x c, X.fn x = true → X.env.cells.lookup x = some c → X.s₀.heap.objs.size ≤ c
  hd : X.calm = true → X.A.handled = none
  frames : X.A.frames = some X.stack
  stk : X.stack = X.outer ∨ (X.stack = X.env :: X.outer ∧ X.env.frame = some X.env.locals)
  exf : ∀ b ∈ X.ex, b ≠ X.env.locals ∧ ∀ x c, X.env.cells.lookup x = some c → c ≠ b
  bs : ∀ b o, X.base.get? b = some o → X.s₀.heap.get? b = some o ∧ X.H₀ b = none
  bsz : X.base.objs.size ≤ X.s₀.heap.objs.size
  noex : ∀ b o, X.base.get? b = some o → b ∉ X.ex
  exfs : ∀ b ∈ X.ex, b ∉ X.fs
  funs : X.s₀.heap.FunFrames X.base X.outer
  frf : ∀ b ∈ X.fs, X.H₀ b = none

structure Inv (X : Cx) (pins : List (Addr × Obj)) (σ : List (Option V)) (H : Hp) (s : Shared) : Prop where
  ok : X.Ok
  os : s.os = X.s₀.os
  bare : AllBare s.gens
  base : Un X.fs X.ex X.H₀ H X.s₀.heap s.heap
  loc : ∃ m, s.heap.Ns X.env.locals m ∧ ∀ (i : Nat) (x : Str) (v : V), X.N[i]? = some x → σ[i]? = some (some v) → Vis X.env.scope x → ∃ u, RelV v u ∧ Look X.env s.heap m x u
  cell : ∀ x c, X.env.cells.lookup x = some c → ∃ v, s.heap.IsCell c v
  free : H X.env.locals = none
  freeC : ∀ x c, X.env.cells.lookup x = some c → H c = none
  pin : ∀ p ∈ X.pn ++ pins, s.heap.get? p.1 = some p.2 ∧ H p.1 = none ∧ p.1 ≠ X.env.locals ∧ p.1 ∉ X.fs ∧ ∀ v, p.2.data ≠ .cell v
  hok : HOk X.prog X.w H s.heap
  len : σ.length = X.N.length

section
variable {X : Cx} {pins : List (Addr × Obj)} {σ : List (Option V)} {H H' : Hp} {s : Shared} {h' : Heap}

theorem Cx.Ok.nofr (ok : X.Ok) {b : Addr} {o : Obj} (e : X.base.get? b = some o) : b ∉ X.fs := fun hb => by
  have := (ok.funs.mem hb).1
  rw [e] at this; cases this
theorem Inv.bs (I : Inv X pins σ H s) : ∀ b o, X.base.get? b = some o → s.heap.get? b = some o ∧ H b = none := fun b o e =>
  ⟨I.base.keep b o (I.ok.bs b o e).1 (I.ok.bs b o e).2 (I.ok.nofr e) (I.ok.noex b o e), I.base.free b o (I.ok.bs b o e).1 (I.ok.bs b o e).2 (I.ok.noex b o e)⟩
theorem Inv.bk (I : Inv X pins σ H s) : ∀ b o, X.base.get? b = some o → s.heap.get? b = some o := fun b o e => (I.bs b o e).1
theorem Inv.mod (I : Inv X pins σ H s) : Mod X.K X.mg X.base := I.ok.mod
theorem Inv.kIn (I : Inv X pins σ H s) : X.K.In s.heap := I.ok.mod.kin.keeps I.bk
/-- the frame over the base: for OpenK's rules (K.In X.base is I.mod.kin) -/
theorem Inv.fr (I : Inv X pins σ H s) : ∃ m, Fr X.base X.env.locals s.heap m :=
  let ⟨m, hn, _⟩ := I.loc
  ⟨m, hn, I.bk, Nat.le_trans I.ok.bsz I.ok.above⟩
theorem Inv.lt (I : Inv X pins σ H s) : X.env.locals < s.heap.objs.size := let ⟨_, hn, _⟩ := I.loc; hn.lt
theorem Inv.sz (I : Inv X pins σ H s) : X.s₀.heap.objs.size ≤ s.heap.objs.size := Nat.le_trans I.ok.above (Nat.le_of_lt I.lt)
theorem Inv.nofs (I : Inv X pins σ H s) {a : Addr} (h : s.heap.objs.size ≤ a) : a ∉ X.fs := fun hb => by
  obtain ⟨_, o, ho, _⟩ := I.ok.funs.mem hb
  exact absurd (Nat.lt_of_lt_of_le (Heap.lt_size ho) (Nat.le_trans I.sz h)) (Nat.lt_irrefl _)
theorem Inv.cne (I : Inv X pins σ H s) : ∀ x c, X.env.cells.lookup x = some c → c ≠ X.env.locals := fun x c e z => by
  obtain ⟨v, o, ho, hd⟩ := I.cell x c e
  obtain ⟨m, ⟨o', es, ep, ho', hd', _⟩, _⟩ := I.loc
  rw [z, ho'] at ho; cases ho; rw [hd'] at hd; cases hd
theorem Inv.funs (I : Inv X pins σ H s) : s.heap.FunFrames X.base X.outer := by
  have all : ∀ (l : List Env), (∀ b ∈ frs l, b ∈ X.fs) → X.s₀.heap.FunFrames X.base l → s.heap.FunFrames X.base l := by
    intro l
    induction l with
    | nil => intro _ _; trivial
    | cons env r ih =>
      intro hs hl
      obtain ⟨hk, ⟨L, o, hf, hn, ho, hd⟩, hr⟩ := hl
      have hL : L ∈ X.fs := hs L (by unfold frs; rw [List.filterMap_cons, hf]; exact List.mem_cons_self)
      obtain ⟨sl, e⟩ := I.base.slot L o ho (I.ok.frf L hL) hL fun z => I.ok.exfs L z hL
      exact ⟨hk, ⟨L, _, hf, hn, e, hd⟩, ih (fun b hb => hs b (by unfold frs; rw [List.filterMap_cons, hf]; exact List.mem_cons_of_mem _ hb)) hr⟩
  exact all X.outer (fun _ hb => hb) I.ok.funs

/-- the frames that run, for a call -/
theorem Inv.stack (I : Inv X pins σ H s) : s.heap.FunFrames X.base X.stack := by
  rcases I.ok.stk with e | ⟨e, hf⟩
  · rw [e]; exact I.funs
  · rw [e]
    obtain ⟨m, hn, _⟩ := I.loc
    refine .cons (by rw [I.ok.kind]; decide) hf hn ?_ I.funs
    exact Heap.get?_none_of_le (Nat.le_trans I.ok.bsz I.ok.above)
theorem Inv.stkSub (I : Inv X pins σ H s) : ∀ b ∈ frs X.stack, b ∈ X.env.locals :: X.fs := fun b hb => by
  rcases I.ok.stk with e | ⟨e, hf⟩
  · rw [e] at hb; exact List.mem_cons_of_mem _ hb
  · rw [e] at hb
    unfold frs at hb
    rw [List.filterMap_cons, hf] at hb
    exact hb
theorem Inv.stkFree (I : Inv X pins σ H s) : ∀ b ∈ frs X.stack, H b = none := fun b hb => by
  rcases List.mem_cons.mp (I.stkSub b hb) with e | hb
  · rw [e]; exact I.free
  · obtain ⟨_, o, ho, _⟩ := I.ok.funs.mem hb
    exact I.base.free b o ho (I.ok.frf b hb) fun z => I.ok.exfs b z hb

/-- THE STEP: the untracked objects but the frame and the records at ch are kept (the callers' frames up to slots), the frame's map is kept, the new abstract heap is held -/
theorem Inv.step {g' : Array GenState} {t' : Nat} {d' : Drawn} {ch : List Addr} (I : Inv X pins σ H s)
    (hch : ∀ b ∈ ch, (b ∈ X.ex ∨ X.s₀.heap.objs.size ≤ b) ∧ b ≠ X.env.locals ∧ (∀ x c, X.env.cells.lookup x = some c → c ≠ b) ∧ ∀ p ∈ X.pn ++ pins, p.1 ≠ b)
    (keep : ∀ b o, b ≠ X.env.locals → b ∉ X.fs → b ∉ ch → s.heap.get? b = some o → H b = none → h'.get? b = some o)
    (slot : ∀ b o, b ≠ X.env.locals → b ∈ X.fs → b ∉ ch → s.heap.get? b = some o → H b = none → ∃ sl, h'.get? b = some { o with slots := sl }) (free : ∀ b o, b ∉ ch → s.heap.get? b = some o → H b = none → H' b = none)
    (there : ∀ b o, b ∉ ch → s.heap.get? b = some o → ∃ o', h'.get? b = some o')
    (tups : ∀ b xs, H b = some (.tup xs) → H' b = some (.tup xs)) (frzs : ∀ b o u, H b = some (.frz o u) → H' b = some (.frz o u)) (tbls : ∀ b ps, H b = some (.tbl ps) → ∃ more, H' b = some (.tbl (ps ++ more)))
    (ns : ∀ m, s.heap.Ns X.env.locals m → h'.Ns X.env.locals m) (hok : HOk X.prog X.w H' h') (hg : AllBare g') :
    Inv X pins σ H' { s with heap := h', gens := g', drawn := d', toks := t' } := by
  have neL : ∀ b o, X.s₀.heap.get? b = some o → b ≠ X.env.locals := fun b o e => Nat.ne_of_lt (Nat.lt_of_lt_of_le (Heap.lt_size e) I.ok.above)
  have neC : ∀ b o, X.s₀.heap.get? b = some o → b ∉ X.ex → b ∉ ch := fun b o e hx hb => by
    rcases (hch b hb).1 with z | z
    · exact hx z
    · exact absurd (Nat.lt_of_lt_of_le (Heap.lt_size e) z) (Nat.lt_irrefl _)
  have cellK : ∀ x c, X.env.cells.lookup x = some c → ∀ v, s.heap.IsCell c v → h'.IsCell c v := fun x c e v ⟨o, ho, hd⟩ => by
    have nch : c ∉ ch := fun z => (hch c z).2.2.1 x c e rfl
    by_cases hc : c ∈ X.fs
    · obtain ⟨sl, q⟩ := slot c o (I.cne x c e) hc nch ho (I.freeC x c e)
      exact ⟨_, q, hd⟩
    · exact ⟨o, keep c o (I.cne x c e) hc nch ho (I.freeC x c e), hd⟩
  refine ⟨I.ok, I.os, hg, ⟨fun b o e n hb hx => ?_, fun b o e n hb hx => ?_, fun b o e n hx => ?_, fun b o e hx => ?_, fun b xs e => tups b xs (I.base.tups b xs e), fun b o xs e => frzs b o xs (I.base.frzs b o xs e), fun b ps e => ?_⟩, ?_, fun x c e => ?_, ?_, fun x c e => ?_, fun p hp => ?_, hok, I.len⟩
  · exact keep b o (neL b o e) hb (neC b o e hx) (I.base.keep b o e n hb hx) (I.base.free b o e n hx)
  · obtain ⟨sl, e1⟩ := I.base.slot b o e n hb hx
    obtain ⟨sl', e2⟩ := slot b _ (neL b o e) hb (neC b o e hx) e1 (I.base.free b o e n hx)
    exact ⟨sl', e2⟩
  · obtain ⟨o', e1⟩ := I.base.there b o e hx
    exact free b o' (neC b o e hx) e1 (I.base.free b o e n hx)
  · obtain ⟨o', e1⟩ := I.base.there b o e hx
    exact there b o' (neC b o e hx) e1
  · obtain ⟨m1, e1⟩ := I.base.tbls b ps e
    obtain ⟨m2, e2⟩ := tbls b _ e1
    exact ⟨m1 ++ m2, by rw [e2, Array.append_assoc]⟩
  · obtain ⟨m, hn, hl⟩ := I.loc
    refine ⟨m, ns m hn, fun i x v e1 e2 e3 => ?_⟩
    obtain ⟨u, r, l⟩ := hl i x v e1 e2 e3
    refine ⟨u, r, ?_⟩
    rcases l with l | ⟨k, c, e, z⟩
    · exact .inl l
    · exact .inr ⟨k, c, e, cellK x c e _ z⟩
  · obtain ⟨v, z⟩ := I.cell x c e
    exact ⟨v, cellK x c e v z⟩
  · obtain ⟨m, ⟨o, _, _, ho, _⟩, _⟩ := I.loc
    exact free _ o (fun z => (hch _ z).2.1 rfl) ho I.free
  · obtain ⟨v, o, ho, hd⟩ := I.cell x c e
    exact free c o (fun z => (hch c z).2.2.1 x c e rfl) ho (I.freeC x c e)
  · obtain ⟨e, n, ne, nf, d⟩ := I.pin p hp
    have nch : p.1 ∉ ch := fun z => (hch p.1 z).2.2.2 p hp rfl
    exact ⟨keep p.1 p.2 ne nf nch e n, free p.1 p.2 nch e n, ne, nf, d⟩
/-- .. where the frame's own object is kept too -/
theorem Inv.un {t' : Nat} (I : Inv X pins σ H s) (u : Un X.fs [] H H' s.heap h') (hok : HOk X.prog X.w H' h') : Inv X pins σ H' { s with heap := h', toks := t' } := by
  obtain ⟨m, ⟨o, es, ep, ho, r⟩, _⟩ := id I.loc
  obtain ⟨sl, hL⟩ := u.any ho I.free (by simp)
  exact I.step (g' := s.gens) (d' := s.drawn) (ch := []) (fun _ z => nomatch z) (fun b o _ hb _ e n => u.keep b o e n hb (by simp)) (fun b o _ hb _ e n => u.slot b o e n hb (by simp)) (fun b o _ e n => u.free b o e n (by simp)) (fun b o _ e => u.there b o e (by simp)) u.tups u.frzs u.tbls (fun m' hm => by
    obtain ⟨o', es', ep', ho', r'⟩ := hm
    rw [ho] at ho'; cases ho'
    exact ⟨_, es', ep', hL, r'⟩) hok I.bare
/-- behind a call (or a comprehension's block): the slots of this frame may have changed too, the records at ch may have turned -/
theorem Inv.call {g' : Array GenState} {t' : Nat} {d' : Drawn} {ch : List Addr} (I : Inv X pins σ H s) (u : Un (frs X.stack) ch H H' s.heap h') (hok : HOk X.prog X.w H' h') (hg : AllBare g')
    (hch : ∀ b ∈ ch, (b ∈ X.ex ∨ X.s₀.heap.objs.size ≤ b) ∧ b ≠ X.env.locals ∧ (∀ x c, X.env.cells.lookup x = some c → c ≠ b) ∧ ∀ p ∈ X.pn ++ pins, p.1 ≠ b) :
    Inv X pins σ H' { s with heap := h', gens := g', drawn := d', toks := t' } := by
  obtain ⟨m, ⟨o, es, ep, ho, r⟩, _⟩ := id I.loc
  obtain ⟨sl, hL⟩ := u.any ho I.free fun z => (hch _ z).2.1 rfl
  exact I.step (ch := ch) hch (fun b o hL hb hc e n => u.keep b o e n (fun z => (List.mem_cons.mp (I.stkSub b z)).elim hL hb) hc) (fun b o _ _ hc e n => u.any e n hc) (fun b o hc e n => u.free b o e n hc) (fun b o hc e => u.there b o e hc) u.tups u.frzs u.tbls (fun m' hm => by
    obtain ⟨o', es', ep', ho', r'⟩ := hm
    rw [ho] at ho'; cases ho'
    exact ⟨_, es', ep', hL, r'⟩) hok hg
/-- an untracked record of ours (an iterator) has turned -/
theorem Inv.turned {t' : Nat} {it : Addr} (I : Inv X pins σ H s) (k : ∀ b o, b ≠ it → s.heap.get? b = some o → h'.get? b = some o) (hn : H it = none) (hL : it ≠ X.env.locals)
    (h1 : it ∈ X.ex ∨ X.s₀.heap.objs.size ≤ it) (h2 : ∀ x c, X.env.cells.lookup x = some c → c ≠ it) (h3 : ∀ p ∈ X.pn ++ pins, p.1 ≠ it) : Inv X pins σ H { s with heap := h', toks := t' } := by
  have nit : ∀ b u, H b = some u → b ≠ it := fun b u e z => by rw [z, hn] at e; cases e
  refine I.step (g' := s.gens) (d' := s.drawn) (ch := [it]) (fun b hb => ?_) (fun b o _ _ hc e _ => k b o (fun z => hc (by simp [z])) e) (fun b o _ _ hc e _ => ⟨o.slots, k b o (fun z => hc (by simp [z])) e⟩) (fun _ _ _ _ n => n)
    (fun b o hc e => ⟨o, k b o (fun z => hc (by simp [z])) e⟩) (fun _ _ e => e) (fun _ _ _ e => e) (fun b ps e => ⟨#[], by rw [e]; simp⟩) (fun m hm => ?_) (fun b u e => ?_) I.bare
  · have e : b = it := by simpa using hb
    subst e
    exact ⟨h1, hL, h2, h3⟩
  · obtain ⟨o, es, ep, ho, r⟩ := hm
    exact ⟨o, es, ep, k _ o (Ne.symm hL) ho, r⟩
  · refine (I.hok b u e).stay (fun c v hc q => k c v ?_ q) (fun _ q => q) fun _ _ q => q
    rcases hc with z | z
    · rw [z]; exact nit b u e
    · exact nit c _ z
theorem Inv.tok (I : Inv X pins σ H s) (t : Nat) : Inv X pins σ H { s with toks := t } := I.un (h' := s.heap) (t' := t) Un.refl I.hok
/-- all objects kept -/
theorem Inv.kept {t' : Nat} (I : Inv X pins σ H s) (k : ∀ b u, s.heap.get? b = some u → h'.get? b = some u) : Inv X pins σ H { s with heap := h', toks := t' } := I.un (Un.kept k) (I.hok.kept k)
/-- a new object laid and tracked -/
theorem Inv.laid {a : Addr} {o : HO} {t' : Nat} (I : Inv X pins σ H s) (k : ∀ b u, s.heap.get? b = some u → h'.get? b = some u) (hp : s.heap.objs.size ≤ a) (new : ObjOk X.prog X.w (upd H a o) h' a o) :
    Inv X pins σ (upd H a o) { s with heap := h', toks := t' } := I.un (Un.laid k hp (I.hok.fresh hp)) (I.hok.laid k hp new)
/-- an object written -/
theorem Inv.write {x e : Addr} {o : HO} {t' : Nat} (I : Inv X pins σ H s) (mu : Mut (H x)) (he : e = x ∨ H e = some (.own x)) (k : ∀ b u, b ≠ e → s.heap.get? b = some u → h'.get? b = some u) (heo : ∃ u, h'.get? e = some u)
    (new : ObjOk X.prog X.w (upd H x o) h' x o) : Inv X pins σ (upd H x o) { s with heap := h', toks := t' } := I.un (Un.write mu he k heo) (I.hok.write mu he k heo new)
/-- forgetting slots, pins -/
theorem Inv.weak {σ' : List (Option V)} (I : Inv X pins σ H s) (hl : σ'.length = σ.length) (w : ∀ (i : Nat) v, σ'[i]? = some (some v) → σ[i]? = some (some v)) : Inv X pins σ' H s :=
  ⟨I.ok, I.os, I.bare, I.base, let ⟨m, hn, hl'⟩ := I.loc; ⟨m, hn, fun i x v e1 e2 e3 => hl' i x v e1 (w i v e2) e3⟩, I.cell, I.free, I.freeC, I.pin, I.hok, hl.trans I.len⟩
theorem Inv.pins_of {pins' : List (Addr × Obj)} (I : Inv X pins σ H s) (h : ∀ p ∈ pins', s.heap.get? p.1 = some p.2 ∧ H p.1 = none ∧ p.1 ≠ X.env.locals ∧ p.1 ∉ X.fs ∧ ∀ v, p.2.data ≠ .cell v) : Inv X pins' σ H s :=
  ⟨I.ok, I.os, I.bare, I.base, I.loc, I.cell, I.free, I.freeC, fun p hp => (List.mem_append.mp hp).elim (fun z => I.pin p (List.mem_append_left _ z)) (h p), I.hok, I.len⟩

theorem nodup_ix {N : List Str} (hN : N.Nodup) {i j : Nat} {x : Str} (a : N[i]? = some x) (b : N[j]? = some x) : i = j := by
  obtain ⟨h1, e1⟩ := List.getElem?_eq_some_iff.mp a
  obtain ⟨h2, e2⟩ := List.getElem?_eq_some_iff.mp b
  exact (List.getElem_inj hN).mp (e1.trans e2.symm)

/-- a name is stored; what changed -/
theorem store_ok2 {M : Model} {A : Around} {E : Value → Shared → Prop} {i : Nat} {x : Str} {v : V} {u : Value} {Q : Unit → Shared → Prop} (I : Inv X pins σ H s) (hN : X.N.Nodup) (hi : X.N[i]? = some x) (hx : Loc X.env.scope x) (r : RelV v u)
    (h : ∀ s', Inv X pins (σ.set i (some v)) H s' → (∃ a, Heap.SameBut a s.heap s'.heap ∧ (a = X.env.locals ∨ X.env.cells.lookup x = some a)) → Q () s') (hf : X.fn x = true ∨ X.env.scope.names.lookup x = some .local := by first | exact .inl rfl | exact .inr rfl | assumption) : wpAny M A (storeName X.env x u) Q E s := by
  obtain ⟨m, hn, hl⟩ := id I.loc
  have hcls : (X.env.scope.kind == .class || (X.env.scope.kind == .module && X.env.locals != X.env.globals)) = false := by rw [I.ok.kind]; rfl
  have hiσ : i < σ.length := by rw [I.len]; exact (List.getElem?_eq_some_iff.mp hi).1
  have cne := I.cne
  have tracked : ∀ {a : Addr} {h' : Heap}, (∃ o, s.heap.get? a = some o ∧ H a = none) → Heap.SameBut a s.heap h' → HOk X.prog X.w H h' := fun {a h'} ha hs b ob e => by
    obtain ⟨_, _, hfree⟩ := ha
    refine (I.hok b ob e).stay (fun c w' hc q => (hs.2 c ?_).trans q) (fun _ q => q) fun _ _ q => q
    rintro rfl
    rcases hc with rfl | hc
    · rw [hfree] at e; cases e
    · rw [hfree] at hc; cases hc
  rcases hx with hk | hk
  · refine wpAny_storeName_local hk hn (fun h' hn' hs => ?_) hcls
    obtain ⟨oL, _, _, hoL, _⟩ := id hn
    refine h _ ⟨I.ok, I.os, I.bare, ⟨fun b o e n hb hx => ?_, fun b o e n hb hx => ?_, I.base.free, fun b o e hx => ?_, I.base.tups, I.base.frzs, I.base.tbls⟩, ⟨_, hn', fun j y v' e1 e2 e3 => ?_⟩, fun y c e => ?_, I.free, I.freeC, fun p hp => ?_, tracked ⟨oL, hoL, I.free⟩ hs, by simpa using I.len⟩ ⟨_, hs, .inl rfl⟩
    · exact (hs.2 b (Nat.ne_of_lt (Nat.lt_of_lt_of_le (Heap.lt_size e) I.ok.above))).trans (I.base.keep b o e n hb hx)
    · obtain ⟨sl, e1⟩ := I.base.slot b o e n hb hx
      exact ⟨sl, (hs.2 b (Nat.ne_of_lt (Nat.lt_of_lt_of_le (Heap.lt_size e) I.ok.above))).trans e1⟩
    · obtain ⟨o', e1⟩ := I.base.there b o e hx
      exact ⟨o', (hs.2 b (Nat.ne_of_lt (Nat.lt_of_lt_of_le (Heap.lt_size e) I.ok.above))).trans e1⟩
    · by_cases hj : j = i
      · subst hj
        rw [hi] at e1; cases e1
        rw [List.getElem?_set_self hiσ] at e2
        cases e2
        exact ⟨u, r, .inl ⟨hk, by simp⟩⟩
      · rw [List.getElem?_set_ne (Ne.symm hj)] at e2
        obtain ⟨u', r', q⟩ := hl j y v' e1 e2 e3
        refine ⟨u', r', ?_⟩
        rcases q with ⟨k, e⟩ | ⟨k, c, e, z⟩
        · refine .inl ⟨k, ?_⟩
          have : y ≠ x := fun e => hj (nodup_ix hN e1 (e ▸ hi))
          simp [this, e]
        · exact .inr ⟨k, c, e, z.sameBut hs (cne y c e)⟩
    · obtain ⟨w', z⟩ := I.cell y c e
      exact ⟨w', z.sameBut hs (cne y c e)⟩
    · obtain ⟨e, n, ne, nf, d⟩ := I.pin p hp
      exact ⟨(hs.2 p.1 ne).trans e, n, ne, nf, d⟩
  · have hfn : X.fn x = true := by
      rcases hf with z | z
      · exact z
      · rw [z] at hk; cases hk
    obtain ⟨c, hc⟩ := I.ok.has x (.inl hk)
    obtain ⟨w', z⟩ := I.cell x c hc
    refine wpAny_storeName_cell I.ok.kind hk hc z (fun h' hc' hs => ?_)
    obtain ⟨oc, hoc, hocd⟩ := id z
    refine h { s with heap := h' } ⟨I.ok, I.os, I.bare, ⟨fun b o e n hb hx => ?_, fun b o e n hb hx => ?_, I.base.free, fun b o e hx => ?_, I.base.tups, I.base.frzs, I.base.tbls⟩, ⟨m, hn.sameBut hs (Ne.symm (cne x c hc)), fun j y v' e1 e2 e3 => ?_⟩, fun y c' e => ?_, I.free, I.freeC, fun p hp => ?_, tracked ⟨oc, hoc, I.freeC x c hc⟩ hs, by simpa using I.len⟩ ⟨c, hs, .inr hc⟩
    · exact (hs.2 b (Nat.ne_of_lt (Nat.lt_of_lt_of_le (Heap.lt_size e) (I.ok.cab x c hfn hc)))).trans (I.base.keep b o e n hb hx)
    · obtain ⟨sl, e1⟩ := I.base.slot b o e n hb hx
      exact ⟨sl, (hs.2 b (Nat.ne_of_lt (Nat.lt_of_lt_of_le (Heap.lt_size e) (I.ok.cab x c hfn hc)))).trans e1⟩
    · obtain ⟨o', e1⟩ := I.base.there b o e hx
      exact ⟨o', (hs.2 b (Nat.ne_of_lt (Nat.lt_of_lt_of_le (Heap.lt_size e) (I.ok.cab x c hfn hc)))).trans e1⟩
    · by_cases hj : j = i
      · subst hj
        rw [hi] at e1; cases e1
        rw [List.getElem?_set_self hiσ] at e2
        cases e2
        exact ⟨u, r, .inr ⟨.inl hk, c, hc, hc'⟩⟩
      · rw [List.getElem?_set_ne (Ne.symm hj)] at e2
        obtain ⟨u', r', q⟩ := hl j y v' e1 e2 e3
        refine ⟨u', r', ?_⟩
        rcases q with q | ⟨k, c', e, z'⟩
        · exact .inl q
        · refine .inr ⟨k, c', e, z'.sameBut hs ?_⟩
          rintro rfl
          exact hj (nodup_ix hN e1 (I.ok.inj _ _ _ e hc ▸ hi))
    · by_cases hcc : c' = c
      · subst hcc; exact ⟨_, hc'⟩
      · obtain ⟨w2, z2⟩ := I.cell y c' e
        exact ⟨w2, z2.sameBut hs hcc⟩
    · obtain ⟨e, n, ne, nf, d⟩ := I.pin p hp
      refine ⟨(hs.2 p.1 ?_).trans e, n, ne, nf, d⟩
      intro q
      rw [q, hoc] at e
      have q' : oc = p.2 := Option.some.inj e
      exact d w' (by rw [← q']; exact hocd)
theorem store_ok {M : Model} {A : Around} {E : Value → Shared → Prop} {i : Nat} {x : Str} {v : V} {u : Value} {Q : Unit → Shared → Prop} (I : Inv X pins σ H s) (hN : X.N.Nodup) (hi : X.N[i]? = some x) (hx : Loc X.env.scope x) (r : RelV v u)
    (h : ∀ s', Inv X pins (σ.set i (some v)) H s' → Q () s') (hf : X.fn x = true ∨ X.env.scope.names.lookup x = some .local := by first | exact .inl rfl | exact .inr rfl | assumption) : wpAny M A (storeName X.env x u) Q E s :=
  store_ok2 I hN hi hx r (fun s' I' _ => h s' I') hf
/-- behind a call or a block, the state as it is -/
theorem Inv.call' {s' : Shared} {ch : List Addr} (I : Inv X pins σ H s) (ho : s'.os = s.os) (u : Un (frs X.stack) ch H H' s.heap s'.heap) (hok : HOk X.prog X.w H' s'.heap) (hg : AllBare s'.gens)
    (hch : ∀ b ∈ ch, (b ∈ X.ex ∨ X.s₀.heap.objs.size ≤ b) ∧ b ≠ X.env.locals ∧ (∀ x c, X.env.cells.lookup x = some c → c ≠ b) ∧ ∀ p ∈ X.pn ++ pins, p.1 ≠ b) : Inv X pins σ H' s' := by
  obtain ⟨h', g', d', t', o'⟩ := s'
  have e : o' = s.os := ho
  subst e
  exact I.call (g' := g') (t' := t') (d' := d') u hok hg hch
end

/-! ### the judgements -/
/-- an exception: its class, its own dict's address (where it has one), the abstract heap behind it -/
abbrev XK := Value → Option Addr → Hp → Prop
abbrev St := List (Option V)
abbrev VK := V → Hp → Prop
/-- an expression's reading; a test's; an argument list's -/
abbrev TE := St → Hp → VK → Prop
abbrev TT := St → Hp → (Bool → Hp → Prop) → Prop
abbrev TA := St → Hp → (List V → Hp → Prop) → Prop
/-- what is wanted behind a statement -/
structure Ends where
  nx : St → Hp → Prop
  rt : VK
  bk : St → Hp → Prop := fun _ _ => False
  ct : St → Hp → Prop := fun _ _ => False
abbrev TS := Ends → St → Hp → Prop

def EP (X : Cx) (pins : List (Addr × Obj)) (σ : St) (Q : VK) (u : Value) (s' : Shared) : Prop := ∃ v H', Inv X pins σ H' s' ∧ RelV v u ∧ Q v H'
def TP (X : Cx) (pins : List (Addr × Obj)) (σ : St) (Q : Bool → Hp → Prop) (b : Bool) (s' : Shared) : Prop := ∃ H', Inv X pins σ H' s' ∧ Q b H'
def AP (X : Cx) (pins : List (Addr × Obj)) (σ : St) (Q : List V → Hp → Prop) (us : List Value) (s' : Shared) : Prop := ∃ vs H', Inv X pins σ H' s' ∧ Vals vs us ∧ Q vs H'
def SP (X : Cx) (pins : List (Addr × Obj)) (D : Ends) (f : Flow) (s' : Shared) : Prop :=
  match f with
  | .next => ∃ σ' H', Inv X pins σ' H' s' ∧ D.nx σ' H'
  | .brk => ∃ σ' H', Inv X pins σ' H' s' ∧ D.bk σ' H'
  | .cont => ∃ σ' H', Inv X pins σ' H' s' ∧ D.ct σ' H'
  | .ret u => ∃ v σ' H', Inv X pins σ' H' s' ∧ RelV v u ∧ D.rt v H'

def PE (X : Cx) (e : Expr) (t : TE) : Prop :=
  ∀ (pins : List (Addr × Obj)) (s : Shared) (σ : St) (H : Hp) (Q : VK), Inv X pins σ H s → t σ H Q → wpAny (model X.prog X.w) X.A (eval e X.env) (EP X pins σ Q) X.xe s
def PT (X : Cx) (e : Expr) (t : TT) : Prop :=
  ∀ (pins : List (Addr × Obj)) (s : Shared) (σ : St) (H : Hp) (Q : Bool → Hp → Prop), Inv X pins σ H s → t σ H Q → wpAny (model X.prog X.w) X.A (isTrue e X.env (eval e X.env)) (TP X pins σ Q) X.xe s
/-- a test whatever its 'whole' is (and, or) -/
def PW (X : Cx) (e : Expr) (t : TT) : Prop :=
  ∀ (whole : Sem Value) (pins : List (Addr × Obj)) (s : Shared) (σ : St) (H : Hp) (Q : Bool → Hp → Prop), Inv X pins σ H s → t σ H Q → wpAny (model X.prog X.w) X.A (isTrue e X.env whole) (TP X pins σ Q) X.xe s
theorem PW.pt {X : Cx} {e : Expr} {t : TT} (h : PW X e t) : PT X e t := h _
/-- an argument list (no star), from the left -/
def PA (X : Cx) (es : List Expr) (t : TA) : Prop :=
  ∀ (pos : Pos) (pins : List (Addr × Obj)) (s : Shared) (σ : St) (H : Hp) (Q : List V → Hp → Prop), Inv X pins σ H s → t σ H Q → wpAny (model X.prog X.w) X.A (spliced (backTo pos (starEach es X.env))) (AP X pins σ Q) X.xe s
def PS (X : Cx) (st : Stmt) (t : TS) : Prop :=
  ∀ (pins : List (Addr × Obj)) (s : Shared) (σ : St) (H : Hp) (D : Ends), Inv X pins σ H s → t D σ H → wpAny (model X.prog X.w) X.A (exec st X.env) (SP X pins D) X.xe s
def PSs (X : Cx) (st : List Stmt) (t : TS) : Prop :=
  ∀ (pins : List (Addr × Obj)) (s : Shared) (σ : St) (H : Hp) (D : Ends), Inv X pins σ H s → t D σ H → wpAny (model X.prog X.w) X.A (execs st X.env) (SP X pins D) X.xe s
/-- weaken the end -/
theorem thn {α : Type} {t : Sem α} {Q Q' : α → Shared → Prop} {M : Model} {A : Around} {E : Value → Shared → Prop} {s : Shared} (h : wpAny M A t Q E s) (hQ : ∀ a s, Q a s → Q' a s) : wpAny M A t Q' E s := wpAny_mono h hQ fun _ _ x => x
end L2

namespace L2
open PySem PySem.Spec PyProof.Rows
section
variable {X : Cx}

/-- two expressions in a row -/
theorem bin {a b : Expr} {ta tb : TE} (ha : PE X a ta) (hb : PE X b tb) {pins : List (Addr × Obj)} {s : Shared} {σ : St} {H : Hp} {R : V → V → Hp → Prop} (I : Inv X pins σ H s) (h : ta σ H fun x H1 => tb σ H1 fun y H2 => R x y H2)
    {α : Type} {Q : α → Shared → Prop} {f : Value → Value → Sem α}
    (hf : ∀ v u s2 x y H2, Inv X pins σ H2 s2 → RelV x v → RelV y u → R x y H2 → wpAny (model X.prog X.w) X.A (f v u) Q X.xe s2) :
    wpAny (model X.prog X.w) X.A (eval a X.env) (fun v s₁ => wpAny (model X.prog X.w) X.A (eval b X.env) (fun u s₂ => wpAny (model X.prog X.w) X.A (f v u) Q X.xe s₂) X.xe s₁) X.xe s := by
  refine thn (ha pins s σ H _ I h) fun v s1 ⟨x, H1, I1, r1, q1⟩ => ?_
  refine thn (hb pins s1 σ H1 _ I1 q1) fun u s2 ⟨y, H2, I2, r2, q2⟩ => ?_
  exact hf v u s2 x y H2 I2 r1 r2 q2

/-! ### names and constants -/
def tVar (i : Nat) : TE := fun σ H Q => ∃ v, σ[i]? = some (some v) ∧ Q v H
def tC (v : V) : TE := fun _ H Q => Q v H
theorem pe_var {i : Nat} {x : Str} {pos : Pos} (hN : X.N[i]? = some x) (hv : Vis X.env.scope x) (hd : (x == ("__debug__" : Str)) = false := by decide) (hcd : (x == ("__classdict__" : Str)) = false := by decide) : PE X (.Name x pos) (tVar i) := by
  intro pins s σ H Q I h
  obtain ⟨v, e, h⟩ := h
  obtain ⟨m, hn, hl⟩ := I.loc
  obtain ⟨u, r, l⟩ := hl i x v hN e hv
  have fin : EP X pins σ Q u s := ⟨v, H, I, r, h⟩
  rcases l with ⟨hk, hm⟩ | ⟨hk, c, hc, hcell⟩
  · exact wpAny_Name (wpAny_loadName_local I.ok.kind hk hn hm fin) hd
  · rcases hk with hk | hk
    · exact wpAny_Name (wpAny_loadName_cell I.ok.kind hk hc hcell fin) hd
    · exact wpAny_Name (wpAny_loadName_free I.ok.kind hk hc hcell fin hcd) hd
theorem pe_int {i j pos} : PE X (.Constant (.int i) j pos) (tC (.int i)) := fun _ _ _ H _ I h => wpAny_Constant_int ⟨.int i, H, I.tok _, ⟨_, rfl⟩, h⟩
theorem pe_bl {b j pos} : PE X (.Constant (.bool b) j pos) (tC (.bl b)) := fun _ _ _ H _ I h => Constant_bool ⟨.bl b, H, I, rfl, h⟩
theorem pe_non {j pos} : PE X (.Constant .none j pos) (tC .non) := fun _ _ _ H _ I h => Constant_none ⟨.non, H, I, rfl, h⟩
theorem pe_str {x j pos} : PE X (.Constant (.str x) j pos) (tC (.str x)) := fun _ _ _ H _ I h => Calls.Constant_str ⟨.str x, H, I.tok _, ⟨_, rfl⟩, h⟩

/-- a global name of the def -/
def Gl (X : Cx) (x : Str) : Prop := X.env.kindOf x = some .globalImplicit
theorem ld_glob {E : Value → Shared → Prop} {pins : List (Addr × Obj)} {s : Shared} {σ : St} {H : Hp} {x : Str} {u : Value} {pos : Pos} {Q : Value → Shared → Prop} (I : Inv X pins σ H s) (hg : Gl X x) (hm : X.mg x = some u) (h : Q u s)
    (hd : (x == ("__debug__" : Str)) = false := by decide) : wpAny (model X.prog X.w) X.A (eval (.Name x pos) X.env) Q E s :=
  Calls.Name_function_global I.ok.kind hg (Calls.loadGlobal_global (by rw [I.ok.glob]; exact I.mod.glob.keeps I.bk) hm h) hd
theorem ld_blt {E : Value → Shared → Prop} {pins : List (Addr × Obj)} {s : Shared} {σ : St} {H : Hp} {x : Str} {u : Value} {pos : Pos} {Q : Value → Shared → Prop} (I : Inv X pins σ H s) (hg : Gl X x) (hm : X.mg x = none) (hv : bootBuiltins x = some u) (h : Q u s)
    (hn : x ≠ "__name__" := by decide) (hd : (x == ("__debug__" : Str)) = false := by decide) : wpAny (model X.prog X.w) X.A (eval (.Name x pos) X.env) Q E s := by
  obtain ⟨mb, h1, h2⟩ := I.mod.blt
  exact Calls.Name_function_global I.ok.kind hg (Calls.loadGlobal_builtin (by rw [I.ok.glob]; exact I.mod.glob.keeps I.bk) hm (by rw [I.ok.blt]; exact h1.keeps I.bk) ((h2 x hn).trans hv) h) hd
/-- a module's constant, a class, a function, as a value -/
theorem pe_glob {x : Str} {v : V} {u : Value} {pos : Pos} (hg : Gl X x) (hm : X.mg x = some u) (r : RelV v u) (hd : (x == ("__debug__" : Str)) = false := by decide) : PE X (.Name x pos) (tC v) :=
  fun _ _ _ H _ I h => ld_glob I hg hm ⟨v, H, I, r, h⟩ hd
theorem pe_bltn {x : Str} {v : V} {u : Value} {pos : Pos} (hg : Gl X x) (hm : X.mg x = none) (hv : bootBuiltins x = some u) (r : RelV v u) (hn : x ≠ "__name__" := by decide) (hd : (x == ("__debug__" : Str)) = false := by decide) : PE X (.Name x pos) (tC v) :=
  fun _ _ _ H _ I h => ld_blt I hg hm hv ⟨v, H, I, r, h⟩ hn hd

/-! ### arithmetic -/
/-- two ints -/
def t2I (ta tb : TE) (k : Int → Int → Hp → Prop) : St → Hp → Prop := fun σ H => ta σ H fun x H1 => tb σ H1 fun y H2 => ∃ i j, x = .int i ∧ y = .int j ∧ k i j H2
variable {a b : Expr} {ta tb : TE} {pos : Pos}
/-! ### comparisons -/
def PC (X : Cx) (op : CmpOp) (a b : Expr) (t : TE) : Prop :=
  ∀ (pins : List (Addr × Obj)) (s : Shared) (σ : St) (H : Hp) (Q : VK), Inv X pins σ H s → t σ H Q →
    wpAny (model X.prog X.w) X.A (eval a X.env) (fun v s₁ => wpAny (model X.prog X.w) X.A (eval b X.env) (fun u s₂ => wpAny (model X.prog X.w) X.A (compareOp op v u) (EP X pins σ Q) X.xe s₂) X.xe s₁) X.xe s
def tCmp (p : Int → Int → Bool) (ta tb : TE) : TE := fun σ H Q => t2I ta tb (fun i j H2 => Q (.bl (p i j)) H2) σ H
/-- a comparison as a value, as a test -/
def tB (t : TE) : TT := fun σ H Q => t σ H fun x H1 => ∃ c, x = .bl c ∧ Q c H1
theorem pt_cmp {op : CmpOp} {t : TE} (h : PC X op a b t) (h1 : behindInMarks op b = false := by first | exact nobehind _ (by decide) (by decide) | rfl) : PT X (.Compare a [op] [b] pos) (tB t) := by
  intro pins s σ H Q I hw
  refine wpAny_isTrue_Compare1 (thn (h pins s σ H _ I hw) fun v s1 h1 => thn h1 fun u s2 h2 => thn h2 fun c s3 ⟨x, H1, I1, r1, q1⟩ => ?_) h1
  obtain ⟨d, rfl, q⟩ := q1
  cases r1
  exact wpAny_truthy_bool ⟨H1, I1, q⟩
/-- an expression whose value is a bool, as a test -/
theorem pt_val {e : Expr} {t : TE} (h : PE X e t) (he : ∀ whole, isTrue e X.env whole = (do let v ← whole; standAt e.pos; holding [v] (truthy v)) := by intro _; rfl) : PT X e (tB t) := by
  intro pins s σ H Q I hw
  refine isTrue_plain (thn (h pins s σ H _ I hw) fun v s1 ⟨x, H1, I1, r1, q1⟩ => ?_) (he _)
  obtain ⟨d, rfl, q⟩ := q1
  cases r1
  exact wpAny_truthy_bool ⟨H1, I1, q⟩

/-! ### and, or, not -/
variable {tA tB' : TT} {rest : List Expr}
def tOr (t u : TT) : TT := fun σ H Q => t σ H fun c H1 => if c = true then Q true H1 else u σ H1 Q
def tNot (t : TT) : TT := fun σ H Q => t σ H fun c H1 => Q (!c) H1
theorem pw_or1 (ha : PT X a tA) : PW X (.BoolOp .Or [a] pos) tA := by
  intro wh pins s σ H Q I h
  refine isTrue_or (thn (ha pins s σ H Q I h) fun c s1 e => ?_)
  cases c with
  | false => exact isTrue_or_nil e
  | true => exact e
theorem pw_or (ha : PT X a tA) (hb : PW X (.BoolOp .Or (b :: rest) pos) tB') : PW X (.BoolOp .Or (a :: b :: rest) pos) (tOr tA tB') := by
  intro wh pins s σ H Q I h
  refine isTrue_or (thn (ha pins s σ H _ I h) fun c s1 ⟨H1, I1, q1⟩ => ?_)
  cases c with
  | true => exact ⟨H1, I1, q1⟩
  | false => exact hb wh pins s1 σ H1 Q I1 q1
theorem pt_not (ha : PT X a tA) : PT X (.UnaryOp .Not a pos) (tNot tA) := by
  intro pins s σ H Q I h
  exact isTrue_not (ha pins s σ H (fun c H1 => Q (!c) H1) I h)
/-- .. as values (bools) -/
def tAndV (ta tb : TE) : TE := fun σ H Q => ta σ H fun x H1 => ∃ c, x = .bl c ∧ if c = true then tb σ H1 Q else Q (.bl false) H1
theorem pe_one {op} {t : TE} (h : PE X a t) : PE X (.BoolOp op [a] pos) t := fun pins s σ H Q I hw => BoolOp_one (h pins s σ H Q I hw)
theorem pe_and (ha : PE X a ta) (hb : PE X (.BoolOp .And (b :: rest) pos) tb) : PE X (.BoolOp .And (a :: b :: rest) pos) (tAndV ta tb) := by
  intro pins s σ H Q I h
  refine BoolOp_and (thn (ha pins s σ H _ I h) fun v s1 ⟨x, H1, I1, r1, q1⟩ => ?_)
  obtain ⟨c, rfl, q1⟩ := q1
  cases r1
  refine wpAny_truthy_bool ?_
  cases c with
  | true => exact hb pins s1 σ H1 Q I1 q1
  | false => exact ⟨.bl false, H1, I1, rfl, q1⟩
/-- a if t else b -/
def tIf (t : TT) (ta tb : TE) : TE := fun σ H Q => t σ H fun c H1 => if c = true then ta σ H1 Q else tb σ H1 Q
theorem pe_ifExp {c : Expr} (hc : PT X c tA) (ha : PE X a ta) (hb : PE X b tb) : PE X (.IfExp c a b pos) (tIf tA ta tb) := by
  intro pins s σ H Q I h
  refine wpAny_IfExp (thn (hc pins s σ H _ I h) fun d s1 ⟨H1, I1, q1⟩ => ?_)
  cases d with
  | true => exact ha pins s1 σ H1 Q I1 q1
  | false => exact hb pins s1 σ H1 Q I1 q1
end
end L2

namespace L2
open PySem PySem.Spec PyProof.Rows

/-! ### a list, a tuple that is read: tracked, frozen, or an object of the module -/
def SqL (K : PySem.W.Frag) (H : Hp) (a : Addr) (xs : List V) : Prop :=
  Rd H a (.lst xs) ∨
    ∃ (o : Obj) (its : Array Value) (n : Nat), K.lookup a = some o ∧ o.cls = .type "list" ∧ o.dict = none ∧ o.data = .seq its n ∧ its.size ≤ sizeLine ∧ Vals xs its.toList
def SqT (K : PySem.W.Frag) (H : Hp) (a : Addr) (xs : List V) : Prop :=
  Rd H a (.tup xs) ∨
    ∃ (o : Obj) (its : Array Value) (n : Nat), K.lookup a = some o ∧ o.cls = .type "tuple" ∧ o.data = .seq its n ∧ its.size ≤ sizeLine ∧ Vals xs its.toList
def absV : Value → Option V
  | .none => some .non
  | .bool b => some (.bl b)
  | .int i _ => some (.int i)
  | .str x _ => some (.str x)
  | .bytes b _ => some (.byt b)
  | .float b _ => some (.flt b)
  | .ref a => some (.ref a)
  | .type n => some (.ty n)
  | _ => none
theorem RelV.abs {x : V} {u : Value} (r : RelV x u) : absV u = some x := by
  cases x with
  | non => cases r; rfl
  | bl _ => cases r; rfl
  | int _ => obtain ⟨t, rfl⟩ := r; rfl
  | str _ => obtain ⟨t, rfl⟩ := r; rfl
  | byt _ => obtain ⟨t, rfl⟩ := r; rfl
  | flt _ => obtain ⟨t, rfl⟩ := r; rfl
  | ref _ => cases r; rfl
  | ty _ => cases r; rfl
theorem RelV.inj {x y : V} {u : Value} (r : RelV x u) (q : RelV y u) : x = y := Option.some.inj (r.abs.symm.trans q.abs)
theorem Vals.inj : ∀ {xs ys : List V} {us : List Value}, Vals xs us → Vals ys us → xs = ys
  | _, _, _, .nil, .nil => rfl
  | _, _, _, .cons r t, .cons r' t' => by rw [r.inj r', Vals.inj t t']
section
variable {X : Cx} {pins : List (Addr × Obj)} {σ : St} {H : Hp} {s : Shared} {a : Addr} {xs ys : List V}
theorem SqL.of {K : PySem.W.Frag} (h : H a = some (.lst xs)) : SqL K H a xs := .inl (.inl h)
theorem SqT.of {K : PySem.W.Frag} (h : H a = some (.tup xs)) : SqT K H a xs := .inl (.inl h)
theorem Inv.list (I : Inv X pins σ H s) (h : SqL X.K H a xs) : ∃ its : List Value, Vals xs its ∧ PlainL s.heap a its.toArray ∧ xs.length ≤ sizeLine := by
  rcases h with h | ⟨o, its, n, hk, hc, hd, hs, hz, r⟩
  · obtain ⟨z, its, n, r, e⟩ := h.ok I.hok
    exact ⟨its, r, ⟨_, n, e, rfl, rfl, rfl⟩, z⟩
  · refine ⟨its.toList, r, ⟨o, n, I.kIn a o hk, hc, hd, by simpa using hs⟩, ?_⟩
    have e := r.length
    simp only [Array.length_toList] at e
    omega
theorem Inv.tuple (I : Inv X pins σ H s) (h : SqT X.K H a xs) : ∃ its : List Value, Vals xs its ∧ IsTup s.heap a its.toArray ∧ xs.length ≤ sizeLine := by
  rcases h with h | ⟨o, its, n, hk, hc, hs, hz, r⟩
  · obtain ⟨z, its, r, p⟩ := h.ok I.hok
    exact ⟨its, r, p.t, z⟩
  · refine ⟨its.toList, r, ⟨o, I.kIn a o hk, hc, n, by simpa using hs⟩, ?_⟩
    have e := r.length
    simp only [Array.length_toList] at e
    omega
theorem Inv.list_inj (I : Inv X pins σ H s) (h : SqL X.K H a xs) (h' : SqL X.K H a ys) : xs = ys := by
  obtain ⟨its, r, ⟨o, n, e, _, _, d⟩, _⟩ := I.list h
  obtain ⟨its', r', ⟨o', n', e', _, _, d'⟩, _⟩ := I.list h'
  rw [e] at e'; cases e'
  rw [d] at d'
  injection d' with d1 _
  have : its = its' := by simpa using congrArg Array.toList d1
  subst this
  exact r.inj r'
theorem Inv.tuple_inj (I : Inv X pins σ H s) (h : SqT X.K H a xs) (h' : SqT X.K H a ys) : xs = ys := by
  obtain ⟨its, r, ⟨o, e, _, n, d⟩, _⟩ := I.tuple h
  obtain ⟨its', r', ⟨o', e', _, n', d'⟩, _⟩ := I.tuple h'
  rw [e] at e'; cases e'
  rw [d] at d'
  injection d' with d1 _
  have : its = its' := by simpa using congrArg Array.toList d1
  subst this
  exact r.inj r'
end

/-! ### another wish about exceptions -/
abbrev Cx.wish (X : Cx) (E : Value → Shared → Prop) : Cx := { X with xe := E }
/-- no exception leaves -/
abbrev Cx.nox (X : Cx) : Cx := X.wish fun _ _ => False
theorem Cx.Ok.wish {X : Cx} (ok : X.Ok) (E : Value → Shared → Prop) : (X.wish E).Ok :=
  ⟨ok.mod, ok.kind, ok.glob, ok.blt, ok.above, ok.inj, ok.has, ok.cab, ok.hd, ok.frames, ok.stk, ok.exf, ok.bs, ok.bsz, ok.noex, ok.exfs, ok.funs, ok.frf⟩
theorem Cx.Ok.unwish {X : Cx} {E : Value → Shared → Prop} (ok : (X.wish E).Ok) : X.Ok :=
  ⟨ok.mod, ok.kind, ok.glob, ok.blt, ok.above, ok.inj, ok.has, ok.cab, ok.hd, ok.frames, ok.stk, ok.exf, ok.bs, ok.bsz, ok.noex, ok.exfs, ok.funs, ok.frf⟩
section
variable {X : Cx} {pins : List (Addr × Obj)} {σ : St} {H : Hp} {s : Shared} {E : Value → Shared → Prop}
theorem Inv.wish (I : Inv X pins σ H s) (E : Value → Shared → Prop) : Inv (X.wish E) pins σ H s := ⟨I.ok.wish E, I.os, I.bare, I.base, I.loc, I.cell, I.free, I.freeC, I.pin, I.hok, I.len⟩
theorem Inv.unwish (I : Inv (X.wish E) pins σ H s) : Inv X pins σ H s := ⟨I.ok.unwish, I.os, I.bare, I.base, I.loc, I.cell, I.free, I.freeC, I.pin, I.hok, I.len⟩
theorem SP.unwish {D : Ends} {f : Flow} {s' : Shared} (h : SP (X.wish E) pins D f s') : SP X pins D f s' := by
  cases f with
  | next => obtain ⟨σ', H', I, q⟩ := h; exact ⟨σ', H', I.unwish, q⟩
  | brk => obtain ⟨σ', H', I, q⟩ := h; exact ⟨σ', H', I.unwish, q⟩
  | cont => obtain ⟨σ', H', I, q⟩ := h; exact ⟨σ', H', I.unwish, q⟩
  | ret u => obtain ⟨v, σ', H', I, r, q⟩ := h; exact ⟨v, σ', H', I.unwish, r, q⟩
theorem PSs.nox {st : List Stmt} {t : TS} (h : PSs X.nox st t) : PSs X st t := fun pins s σ H D I hw =>
  wpAny_mono (h pins s σ H D (I.wish _) hw) (fun _ _ q => q.unwish) fun _ _ z => False.elim z
end

/-! ### blocks and small statements -/
section
variable {X : Cx} {st : Stmt} {rest : List Stmt} {t u : TS} {e : Expr} {te : TE} {pos : Pos}
def tNext : TS := fun D σ H => D.nx σ H
def tSeq (t u : TS) : TS := fun D σ H => t { D with nx := u D } σ H
theorem pss_nil : PSs X [] tNext := fun _ _ σ H _ I h => wpAny_execs_nil ⟨σ, H, I, h⟩
theorem pss_cons (h1 : PS X st t) (h2 : PSs X rest u) : PSs X (st :: rest) (tSeq t u) := by
  intro pins s σ H D I h
  refine wpAny_execs_cons (thn (h1 pins s σ H { D with nx := u D } I h) fun f s1 q => ?_)
  cases f with
  | next =>
    obtain ⟨σ', H', I', q⟩ := q
    exact h2 pins s1 σ' H' D I' q
  | ret v => exact q
  | brk => exact q
  | cont => exact q
theorem pss_one (h1 : PS X st t) : PSs X [st] t := by
  intro pins s σ H D I h
  refine wpAny_execs_cons (thn (h1 pins s σ H D I h) fun f s1 q => ?_)
  cases f with
  | next => exact wpAny_execs_nil q
  | ret v => exact q
  | brk => exact q
  | cont => exact q
/-- in a def's body nothing is shown -/
theorem Inv.quiet {pins : List (Addr × Obj)} {σ : St} {H : Hp} {s : Shared} (I : Inv X pins σ H s) : interactive X.env = false := by simp [interactive, I.ok.kind]
/-- an expression whose value is dropped -/
def tDrop (te : TE) : TS := fun D σ H => te σ H fun _ H1 => D.nx σ H1
theorem ps_expr (he : PE X e te) (hs : swapsWith e none pos.line X.env = pure false := by rfl) : PS X (.Expr e pos) (tDrop te) := by
  intro pins s σ H D I h
  exact wpAny_Expr_any (thn (he pins s σ H _ I h) fun v s1 ⟨x, H1, I1, r1, q1⟩ => ⟨σ, H1, I1, q1⟩) I.quiet hs
def tRet (te : TE) : TS := fun D σ H => te σ H D.rt
theorem ps_ret (he : PE X e te) : PS X (.Return (some e) pos) (tRet te) := by
  intro pins s σ H D I h
  exact wpAny_Return_some (thn (he pins s σ H _ I h) fun v s1 ⟨x, H1, I1, r1, q1⟩ => ⟨x, σ, H1, I1, r1, q1⟩)
def tIfS (c : TT) (t u : TS) : TS := fun D σ H => c σ H fun b H1 => if b = true then t D σ H1 else u D σ H1
theorem ps_if {c : Expr} {a b : List Stmt} {tc : TT} (hc : PT X c tc) (ha : PSs X a t) (hb : PSs X b u) : PS X (.If c a b pos) (tIfS tc t u) := by
  intro pins s σ H D I h
  refine wpAny_If (thn (hc pins s σ H _ I h) fun d s1 ⟨H1, I1, q1⟩ => ?_)
  cases d with
  | true => exact ha pins s1 σ H1 D I1 q1
  | false => exact hb pins s1 σ H1 D I1 q1
end

/-! ### targets -/
abbrev TG := V → St → Hp → (St → Hp → Prop) → Prop
abbrev TGs := List V → St → Hp → (St → Hp → Prop) → Prop
def PG (X : Cx) (target : Expr) (t : TG) : Prop :=
  ∀ (pins : List (Addr × Obj)) (s : Shared) (σ : St) (H : Hp) (v : V) (u : Value) (Q : St → Hp → Prop), Inv X pins σ H s → RelV v u → t v σ H Q →
    wpAny (model X.prog X.w) X.A (assign target X.env u) (fun _ s' => ∃ σ' H', Inv X pins σ' H' s' ∧ Q σ' H') X.xe s
/-- several targets, one after another -/
def PGs (X : Cx) (ts : List Expr) (t : TGs) : Prop :=
  ∀ (pins : List (Addr × Obj)) (s : Shared) (σ : St) (H : Hp) (vs : List V) (us : List Value) (Q : St → Hp → Prop), Inv X pins σ H s → Vals vs us → t vs σ H Q →
    wpAny (model X.prog X.w) X.A (assignInOrder ((assignEach ts X.env).map (·.2)) us) (fun _ s' => ∃ σ' H', Inv X pins σ' H' s' ∧ Q σ' H') X.xe s
section
variable {X : Cx} {pos : Pos}
def gName (i : Nat) : TG := fun v σ H Q => Q (σ.set i (some v)) H
theorem pg_name {i : Nat} {x : Str} (hN : X.N.Nodup) (hi : X.N[i]? = some x) (hx : Loc X.env.scope x) (hf : X.fn x = true ∨ X.env.scope.names.lookup x = some .local := by first | exact .inl rfl | exact .inr rfl | assumption) : PG X (.Name x pos) (gName i) := by
  intro pins s σ H v u Q I r h
  exact wpAny_assign_Name (store_ok I hN hi hx r (fun s' I' => ⟨_, H, I', h⟩) hf)
def gNil : TGs := fun vs σ H Q => vs = [] ∧ Q σ H
def gCons (t : TG) (u : TGs) : TGs := fun vs σ H Q => ∃ v r, vs = v :: r ∧ t v σ H fun σ' H' => u r σ' H' Q
theorem pgs_nil : PGs X [] gNil := by
  intro pins s σ H vs us Q I r h
  obtain ⟨e, h⟩ := h
  subst e
  cases r
  exact assignInOrder_nil ⟨σ, H, I, h⟩
theorem pgs_cons {e : Expr} {es : List Expr} {t : TG} {u : TGs} (h1 : PG X e t) (h2 : PGs X es u)
    (hs : (assignEach (e :: es) X.env).map (·.2) = assign e X.env :: (assignEach es X.env).map (·.2) := by rfl) : PGs X (e :: es) (gCons t u) := by
  intro pins s σ H vs us Q I r h
  obtain ⟨v, vr, e1, h⟩ := h
  subst e1
  cases r with
  | cons r rr =>
    rw [hs]
    refine assignInOrder_cons (thn (h1 pins s σ H _ _ _ I r h) fun _ s1 ⟨σ1, H1, I1, q1⟩ => ?_)
    exact h2 pins s1 σ1 H1 _ _ Q I1 rr q1
/-- (a, b, ..) = a tuple of that length -/
def gTup (K : PySem.W.Frag) (n : Nat) (t : TGs) : TG := fun v σ H Q => ∃ a xs, v = .ref a ∧ SqT K H a xs ∧ xs.length = n ∧ t xs σ H Q
theorem pg_tup {es : List Expr} {k : Nat} {t : TGs} {n : Nat} (hc : X.calm = true) (h : PGs X es t)
    (hn : (assignEach es X.env).length = n := by rfl) (hst : (assignEach es X.env).findIdx? (·.1) = none := by rfl) : PG X (.Tuple es k pos) (gTup X.K n t) := by
  intro pins s σ H v u Q I r hw
  obtain ⟨a, xs, e1, hq, hl, hw⟩ := hw
  subst e1
  cases r
  obtain ⟨its, rv, ht, hz⟩ := I.tuple hq
  refine assign_Tuple_tuple (I.ok.hd hc) ht (by simp [hn, ← hl, rv.length]) hst fun h' hx => ?_
  have I1 : Inv X pins σ H { s with heap := h' } := I.kept (t' := s.toks) fun b o e => hx b o (Nat.ne_of_lt (Heap.lt_size e)) e
  exact h pins _ σ H xs _ Q I1 (by simpa using rv) hw
/-- target = value -/
def tAsg (te : TE) (g : TG) : TS := fun D σ H => te σ H fun x H1 => g x σ H1 D.nx
/-- name = value -/
theorem ps_set {i : Nat} {x : Str} {e : Expr} {te : TE} {pos' : Pos} (hN : X.N.Nodup) (hi : X.N[i]? = some x) (hx : Loc X.env.scope x) (he : PE X e te) (hs : swapsWith e (some (.Name x pos')) pos.line X.env = pure false := by rfl) (hf : X.fn x = true ∨ X.env.scope.names.lookup x = some .local := by first | exact .inl rfl | exact .inr rfl | assumption) :
    PS X (.Assign [.Name x pos'] e pos) (tAsg te (gName i)) := by
  intro pins s σ H D I h
  refine wpAny_Assign_Name (thn (he pins s σ H _ I h) fun v s1 ⟨y, H1, I1, r1, q1⟩ => ?_) hs
  exact store_ok I1 hN hi hx r1 (fun s2 I2 => ⟨_, H1, I2, q1⟩) hf
end

/-! ### while -/
section
variable {X : Cx} {pos : Pos}
end

/-! ### what a loop or a comprehension walks -/
/-- at turn i: it yields x (the heap may grow), or it stops -/
structure It where
  go : Nat → Hp → Prop
  yld : Nat → Hp → V → Hp → Prop
  stop : Nat → Hp → Prop
/-- the iterator's own objects may turn: they are not the frame's, not pinned, younger than the entry (or a comprehension's own) -/
def FpOk (X : Cx) (pins : List (Addr × Obj)) (H : Hp) (b : Addr) : Prop :=
  H b = none ∧ b ≠ X.env.locals ∧ b ∉ X.fs ∧ (b ∈ X.ex ∨ X.s₀.heap.objs.size ≤ b) ∧ (∀ x c, X.env.cells.lookup x = some c → c ≠ b) ∧ ∀ p ∈ X.pn ++ pins, p.1 ≠ b
theorem Inv.fpOk {X : Cx} {pins : List (Addr × Obj)} {σ : St} {H H' : Hp} {s : Shared} {b : Addr} (I : Inv X pins σ H s) (hb : s.heap.objs.size ≤ b) (hn : H' b = none) : FpOk X pins H' b := by
  refine ⟨hn, Nat.ne_of_gt (Nat.lt_of_lt_of_le I.lt hb), I.nofs hb, .inr (Nat.le_trans I.sz hb), fun x c e z => ?_, fun p hp z => ?_⟩
  · obtain ⟨v, q⟩ := I.cell x c e
    exact absurd (Nat.lt_of_lt_of_le q.lt (by rw [z]; exact hb)) (Nat.lt_irrefl _)
  · exact absurd (Nat.lt_of_lt_of_le (Heap.lt_size (I.pin p hp).1) (by rw [z]; exact hb)) (Nat.lt_irrefl _)
structure Turn (P : Program) (w : World) (K : PySem.W.Frag) (tg : Expr) (J : It) (fp : List Addr) (it : Addr) (tn : Nat → Heap → Prop) : Prop where
  mem : it ∈ fp
  obj : ∀ i h, tn i h → ∀ b ∈ fp, ∃ o, h.get? b = some o ∧ ∀ v, o.data ≠ .cell v
  keep : ∀ i h h', tn i h → (∀ b ∈ fp, ∀ o, h.get? b = some o → h'.get? b = some o) → tn i h'
  item : ∀ (X : Cx), X.prog = P → X.w = w → X.K = K → X.calm = true → ∀ (i : Nat) (pins : List (Addr × Obj)) (s : Shared) (σ : St) (H : Hp) (E : Value → Shared → Prop), Inv X pins σ H s → (∀ b ∈ fp, FpOk X pins H b) → tn i s.heap → J.go i H →
    wpAny (model P w) X.A (pyNext (.ref it)) (fun r s1 => ∃ u, r = some u ∧
      wpAny (model P w) X.A (letOwnedTupleGo tg (.ref it) u) (fun _ s2 => ∃ x H', Inv X pins σ H' s2 ∧ RelV x u ∧ J.yld i H x H' ∧ tn (i + 1) s2.heap ∧ ∀ b ∈ fp, H' b = none) E s1) E s
  done : ∀ (X : Cx), X.prog = P → X.w = w → X.K = K → X.calm = true → ∀ (i : Nat) (pins : List (Addr × Obj)) (s : Shared) (σ : St) (H : Hp) (E : Value → Shared → Prop), Inv X pins σ H s → (∀ b ∈ fp, FpOk X pins H b) → tn i s.heap → J.stop i H →
    wpAny (model P w) X.A (pyNext (.ref it)) (fun r s1 => r = none ∧ Inv X pins σ H s1) E s
  self : ∀ (A : Around) (i : Nat) (s : Shared) (Q : Value → Shared → Prop) (E : Value → Shared → Prop), tn i s.heap → Q (.ref it) s → wpAny (model P w) A (pyIter (.ref it)) Q E s
abbrev TI := St → Hp → (It → Hp → Prop) → Prop
/-- an iterator has come -/
def PIE (X : Cx) (pins : List (Addr × Obj)) (σ : St) (tg : Expr) (R : It → Hp → Prop) (itv : Value) (s2 : Shared) : Prop :=
  ∃ (it : Addr) (fp : List Addr) (tn : Nat → Heap → Prop) (J : It) (H' : Hp), itv = .ref it ∧ Inv X pins σ H' s2 ∧ Turn X.prog X.w X.K tg J fp it tn ∧ tn 0 s2.heap ∧ (∀ b ∈ fp, FpOk X pins H' b) ∧ R J H'
def PI (X : Cx) (tg iter : Expr) (wi : TI) : Prop :=
  ∀ (pins : List (Addr × Obj)) (s : Shared) (σ : St) (H : Hp) (R : It → Hp → Prop), Inv X pins σ H s → wi σ H R →
    wpAny (model X.prog X.w) X.A (eval iter X.env) (fun v s1 => wpAny (model X.prog X.w) X.A (pyIter v) (PIE X pins σ tg R) X.xe s1) X.xe s

/-- the step ahead of the store is nothing for an iterator that keeps no tuple -/
theorem go_of {M : Model} {A : Around} {E : Value → Shared → Prop} {s : Shared} {tg : Expr} {it : Addr} {u : Value} {o : Obj} {n : String} {vs : Array Value} {Q : Unit → Shared → Prop} (ho : s.heap.get? it = some o) (hc : o.cls = .type n) (hd : o.data = .fields vs)
    (hn : ["enumerate", "zip", "dict_itemiterator", "dict_reverseitemiterator", "odict_iterator", "itertools.zip_longest", "itertools.pairwise"].contains n = false) (hQ : Q () s) : wpAny M A (letOwnedTupleGo tg (.ref it) u) Q E s := by
  unfold letOwnedTupleGo
  cases tg <;> first
    | exact wpAny_pure hQ
    | (cases u <;> first
        | exact wpAny_pure hQ
        | (refine wpAny_bind (wpAny_load ho ?_)
           rw [hc, hd]
           show wpAny M A (if (["enumerate", "zip", "dict_itemiterator", "dict_reverseitemiterator", "odict_iterator", "itertools.zip_longest", "itertools.pairwise"].contains n && vs[0]? == some (rawInt _)) = true then _ else _) Q E s
           rw [if_neg (by intro h; rw [hn, Bool.false_and] at h; cases h)]
           exact wpAny_pure hQ))

/-- the list at a, as it stands at each turn (a loop may append to it) -/
def Itl (K : PySem.W.Frag) (a : Addr) : It :=
  ⟨fun i H => ∃ xs x, SqL K H a xs ∧ xs[i]? = some x, fun i H x H' => H' = H ∧ ∀ xs, SqL K H a xs → xs[i]? = some x, fun i H => ∃ xs, SqL K H a xs ∧ xs.length ≤ i⟩
def Itt (K : PySem.W.Frag) (a : Addr) : It :=
  ⟨fun i H => ∃ xs x, SqT K H a xs ∧ xs[i]? = some x, fun i H x H' => H' = H ∧ ∀ xs, SqT K H a xs → xs[i]? = some x, fun i H => ∃ xs, SqT K H a xs ∧ xs.length ≤ i⟩
/-- lo, lo + 1, .. (n of them) -/
def Itr (lo : Int) (n : Nat) : It := ⟨fun i _ => i < n, fun i H x H' => H' = H ∧ x = .int (lo + i), fun i _ => n ≤ i⟩
theorem turn_list {P : Program} {w : World} {K : PySem.W.Frag} {tg : Expr} (a it : Addr) : Turn P w K tg (Itl K a) [it] it (fun i h => h.IsListIter it a i) where
  mem := by simp
  obj := fun i h st b hb => by
    have e : b = it := by simpa using hb
    subst e
    obtain ⟨o, e, c, d⟩ := st
    exact ⟨o, e, fun v z => by rw [d] at z; cases z⟩
  keep := fun i h h' st k => st.at fun o e => k it (by simp) o e
  item := by
    intro X hP hw hK hc i pins s σ H E I hf st hg
    subst hP hw hK
    obtain ⟨xs, x, hq, hx⟩ := hg
    obtain ⟨its, rv, p, hz⟩ := I.list hq
    obtain ⟨u, hu, ru⟩ := rv.get hx
    obtain ⟨f0, f1, f2, f3, f4, f5⟩ := hf it (by simp)
    refine wpAny_pyNext_list_item st p.isList (x := u) (by simpa using hu) fun h' st' sb => ?_
    have I1 : Inv X pins σ H { s with heap := h' } := I.turned (t' := s.toks) (fun b o hb e => (sb.2 b hb).trans e) f0 f1 f3 f4 f5
    obtain ⟨o, e, c, d⟩ := id st'
    exact ⟨u, rfl, go_of (s := { s with heap := h' }) e c d (by decide) ⟨x, H, I1, ru, ⟨rfl, fun ys hy => by rw [I.list_inj hy hq]; exact hx⟩, st', fun b hb => (hf b hb).1⟩⟩
  done := by
    intro X hP hw hK hc i pins s σ H E I hf st hg
    subst hP hw hK
    obtain ⟨xs, hq, hx⟩ := hg
    obtain ⟨its, rv, p, hz⟩ := I.list hq
    obtain ⟨f0, f1, f2, f3, f4, f5⟩ := hf it (by simp)
    have hl := rv.length
    exact wpAny_pyNext_list_end (I.ok.hd hc) st p.isList (by simp; omega) fun h' eb => ⟨rfl, I.turned (t' := s.toks) (fun b o hb e => eb b o hb e) f0 f1 f3 f4 f5⟩
  self := fun _ _ _ _ _ st h => wpAny_pyIter_listiter st h
theorem turn_tuple {P : Program} {w : World} {K : PySem.W.Frag} {tg : Expr} (a it : Addr) : Turn P w K tg (Itt K a) [it] it (fun i h => h.IsTupleIter it a i) where
  mem := by simp
  obj := fun i h st b hb => by
    have e : b = it := by simpa using hb
    subst e
    obtain ⟨o, e, c, d⟩ := st
    exact ⟨o, e, fun v z => by rw [d] at z; cases z⟩
  keep := fun i h h' st k => st.at fun o e => k it (by simp) o e
  item := by
    intro X hP hw hK hc i pins s σ H E I hf st hg
    subst hP hw hK
    obtain ⟨xs, x, hq, hx⟩ := hg
    obtain ⟨its, rv, p, hz⟩ := I.tuple hq
    obtain ⟨u, hu, ru⟩ := rv.get hx
    obtain ⟨f0, f1, f2, f3, f4, f5⟩ := hf it (by simp)
    refine wpAny_pyNext_tuple_item st (show s.heap.IsTuple a its.toArray from p) (x := u) (by simpa using hu) fun h' st' sb => ?_
    have I1 : Inv X pins σ H { s with heap := h' } := I.turned (t' := s.toks) (fun b o hb e => (sb.2 b hb).trans e) f0 f1 f3 f4 f5
    obtain ⟨o, e, c, d⟩ := id st'
    exact ⟨u, rfl, go_of (s := { s with heap := h' }) e c d (by decide) ⟨x, H, I1, ru, ⟨rfl, fun ys hy => by rw [I.tuple_inj hy hq]; exact hx⟩, st', fun b hb => (hf b hb).1⟩⟩
  done := by
    intro X hP hw hK hc i pins s σ H E I hf st hg
    subst hP hw hK
    obtain ⟨xs, hq, hx⟩ := hg
    obtain ⟨its, rv, p, hz⟩ := I.tuple hq
    obtain ⟨f0, f1, f2, f3, f4, f5⟩ := hf it (by simp)
    have hl := rv.length
    exact wpAny_pyNext_tuple_end (I.ok.hd hc) st (show s.heap.IsTuple a its.toArray from p) (by simp; omega) fun h' eb => ⟨rfl, I.turned (t' := s.toks) (fun b o hb e => eb b o hb e) f0 f1 f3 f4 f5⟩
  self := fun _ _ _ _ _ st h => wpAny_pyIter_tupleiter st h
theorem turn_range {P : Program} {w : World} {K : PySem.W.Frag} {tg : Expr} (it : Addr) (lo : Int) (n : Nat) : Turn P w K tg (Itr lo n) [it] it (fun i h => IsRangeIter h it (lo + (i : Nat) * 1) ((n : Int) - (i : Nat)) 1) where
  mem := by simp
  obj := fun i h st b hb => by
    have e : b = it := by simpa using hb
    subst e
    exact ⟨_, st, fun v z => by
      have z' : Data.fields _ = Data.cell v := z
      cases z'⟩
  keep := fun i h h' st k => k it (by simp) _ st
  item := by
    intro X hP hw hK hc i pins s σ H E I hf st hg
    subst hP hw hK
    obtain ⟨f0, f1, f2, f3, f4, f5⟩ := hf it (by simp)
    have W := Walks.range (prog := X.prog) (w := X.w) (I.ok.hd hc) it lo 1 n
    refine W.item i s _ _ hg st fun v h' tk hv st' kk => ?_
    obtain ⟨t, rfl⟩ := hv
    have I1 : Inv X pins σ H { s with heap := h', toks := tk } := I.turned (fun b o hb e => kk b o (by simpa using hb) e) f0 f1 f3 f4 f5
    refine ⟨_, rfl, go_of (s := { s with heap := h', toks := tk }) (n := "range_iterator") st' rfl rfl (by decide) ⟨.int (lo + i), H, I1, ⟨t, ?_⟩, ⟨rfl, rfl⟩, st', fun b hb => (hf b hb).1⟩⟩
    rw [Int.mul_one]
  done := by
    intro X hP hw hK hc i pins s σ H E I hf st hg
    subst hP hw hK
    obtain ⟨f0, f1, f2, f3, f4, f5⟩ := hf it (by simp)
    exact wpAny_pyNext_range_end (I.ok.hd hc) st (by have : n ≤ i := hg; omega) fun h' eb => ⟨rfl, I.turned (t' := s.toks) (fun b o hb e => eb b o hb e) f0 f1 f3 f4 f5⟩
  self := fun _ _ _ _ _ st h => wpAny_pyIter_rangeiter st h
end L2

namespace L2
open PySem PySem.Spec PyProof.Rows
section
variable {X : Cx} {tg : Expr}
def iList (K : PySem.W.Frag) (tl : TE) : TI := fun σ H R => tl σ H fun x H1 => ∃ a, x = .ref a ∧ (∃ xs, SqL K H1 a xs) ∧ R (Itl K a) H1
def iTup (K : PySem.W.Frag) (tl : TE) : TI := fun σ H R => tl σ H fun x H1 => ∃ a, x = .ref a ∧ (∃ xs, SqT K H1 a xs) ∧ R (Itt K a) H1
theorem pi_list {l : Expr} {tl : TE} (hl : PE X l tl) : PI X tg l (iList X.K tl) := by
  intro pins s σ H R I h
  refine thn (hl pins s σ H _ I h) fun v s1 ⟨x, H1, I1, r1, q1⟩ => ?_
  obtain ⟨a, e, ⟨xs, hq⟩, q⟩ := q1
  subst e
  cases r1
  obtain ⟨its, rv, p, hz⟩ := I1.list hq
  refine wpAny_pyIter_list p.isList ?_
  refine ⟨s1.heap.objs.size, [s1.heap.objs.size], _, _, H1, rfl, I1.kept (t' := s1.toks) fun b o e => Heap.get?_push_of_some _ e, turn_list a _, ⟨_, Heap.get?_push_size _ rfl, rfl, rfl⟩, fun b hb => ?_, q⟩
  have e : b = s1.heap.objs.size := by simpa using hb
  subst e
  exact I1.fpOk (Nat.le_refl _) (I1.hok.fresh (Nat.le_refl _))
theorem pi_tup {l : Expr} {tl : TE} (hl : PE X l tl) : PI X tg l (iTup X.K tl) := by
  intro pins s σ H R I h
  refine thn (hl pins s σ H _ I h) fun v s1 ⟨x, H1, I1, r1, q1⟩ => ?_
  obtain ⟨a, e, ⟨xs, hq⟩, q⟩ := q1
  subst e
  cases r1
  obtain ⟨its, rv, p, hz⟩ := I1.tuple hq
  refine wpAny_pyIter_tuple (show s1.heap.IsTuple a its.toArray from p) ?_
  refine ⟨s1.heap.objs.size, [s1.heap.objs.size], _, _, H1, rfl, I1.kept (t' := s1.toks) fun b o e => Heap.get?_push_of_some _ e, turn_tuple a _, ⟨_, Heap.get?_push_size _ rfl, rfl, rfl⟩, fun b hb => ?_, q⟩
  have e : b = s1.heap.objs.size := by simpa using hb
  subst e
  exact I1.fpOk (Nat.le_refl _) (I1.hok.fresh (Nat.le_refl _))
/-- a range object just made, walked -/
theorem range_it {pins : List (Addr × Obj)} {σ : St} {H : Hp} {s : Shared} {R : It → Hp → Prop} {E : Value → Shared → Prop} {lo hi : Int} {t u v : Tok} {tk : Nat} (I : Inv X pins σ H s) (h1 : -(2 ^ 62) ≤ lo) (h2 : lo < 2 ^ 62) (h3 : -(2 ^ 62) ≤ hi) (h4 : hi < 2 ^ 62)
    (q : R (Itr lo (hi - lo).toNat) H) : wpAny (model X.prog X.w) X.A (pyIter (.ref s.heap.objs.size)) (PIE X pins σ tg R) E { s with heap := s.heap.push { cls := .type "range", data := .fields #[.int lo t, .int hi u, .int 1 v] }, toks := tk } := by
  refine wpAny_pyIter_range (IsRange.new ..) (small_one h1 h2 h3 h4) ?_
  have I1 : Inv X pins σ H { s with heap := s.heap.push { cls := .type "range", data := .fields #[.int lo t, .int hi u, .int 1 v] }, toks := tk } := I.kept fun b o e => Heap.get?_push_of_some _ e
  refine ⟨(s.heap.push { cls := .type "range", data := .fields #[.int lo t, .int hi u, .int 1 v] }).objs.size, [(s.heap.push { cls := .type "range", data := .fields #[.int lo t, .int hi u, .int 1 v] }).objs.size], _, _, H, rfl,
    I1.kept (t' := tk) fun b o e => Heap.get?_push_of_some _ e, turn_range _ lo (hi - lo).toNat, ?_, fun b hb => ?_, q⟩
  · have e1 : lo + ((0 : Nat) : Int) * 1 = lo := by simp
    have e2 : (((hi - lo).toNat : Nat) : Int) - ((0 : Nat) : Int) = Builtin.Range.rangeSize lo hi 1 := by rw [rangeSize_one]; split <;> omega
    show IsRangeIter _ _ (lo + ((0 : Nat) : Int) * 1) ((((hi - lo).toNat : Nat) : Int) - ((0 : Nat) : Int)) 1
    rw [e1, e2]
    exact Heap.get?_push_size _ rfl
  · have e : b = (s.heap.push { cls := .type "range", data := .fields #[.int lo t, .int hi u, .int 1 v] }).objs.size := by simpa using hb
    subst e
    exact I1.fpOk (Nat.le_refl _) (I1.hok.fresh (Nat.le_refl _))
def iRng1 (ta : TA) : TI := fun σ H R => ta σ H fun vs H1 => ∃ j : Int, vs = [.int j] ∧ -(2 ^ 62) ≤ j ∧ j < 2 ^ 62 ∧ R (Itr 0 j.toNat) H1
def iRng2 (ta : TA) : TI := fun σ H R => ta σ H fun vs H1 => ∃ i j : Int, vs = [.int i, .int j] ∧ (-(2 ^ 62) ≤ i ∧ i < 2 ^ 62 ∧ -(2 ^ 62) ≤ j ∧ j < 2 ^ 62) ∧ R (Itr i (j - i).toNat) H1
theorem pi_range1 {a : Expr} {ta : TA} {p pos : Pos} (hg : Gl X "range") (hm : X.mg "range" = none) (ha : PA X [a] ta) (hs : starEach [a] X.env = [(false, eval a X.env)] := by rfl) : PI X tg (.Call (.Name "range" p) [a] [] pos) (iRng1 ta) := by
  intro pins s σ H R I h
  refine Call_ (ld_blt I hg hm boot_range (PyProof.Rows.callWith_type1 (thn (ha pos pins s σ H _ I h) fun us s1 ⟨vs, H1, I1, r1, q1⟩ => ?_) hs rfl))
  obtain ⟨j, e, q1, q2, q⟩ := q1
  subst e
  cases r1 with
  | cons r rr =>
    cases rr
    obtain ⟨t, rfl⟩ := r
    exact call_range_1 (range_it I1 (by omega) (by omega) q1 q2 (by simpa using q))
theorem pi_range2 {a b : Expr} {ta : TA} {p pos : Pos} (hg : Gl X "range") (hm : X.mg "range" = none) (ha : PA X [a, b] ta) (hs : starEach [a, b] X.env = [(false, eval a X.env), (false, eval b X.env)] := by rfl) (hs2 : starEach [b] X.env = [(false, eval b X.env)] := by rfl) :
    PI X tg (.Call (.Name "range" p) [a, b] [] pos) (iRng2 ta) := by
  intro pins s σ H R I h
  refine Call_ (ld_blt I hg hm boot_range (PyProof.Rows.callWith_type1 (thn (ha pos pins s σ H _ I h) fun us s1 ⟨vs, H1, I1, r1, q1⟩ => ?_) (by rw [hs, hs2]) (by rw [hs2]; rfl)))
  obtain ⟨i, j, e, ⟨q1, q2, q3, q4⟩, q⟩ := q1
  subst e
  cases r1 with
  | cons r rr =>
    cases rr with
    | cons r' rr =>
      cases rr
      obtain ⟨t, rfl⟩ := r
      obtain ⟨t', rfl⟩ := r'
      exact call_range_2 (range_it I1 q1 q2 q3 q4 q)

/-! ### for -/
/-- W: the invariant by the turn and a measure; N: what the body is to reach -/
def tFor (wi : TI) (g : TG) (tb : TS) : TS := fun D σ H => wi σ H fun J H1 => ∃ W : Nat → Nat → St → Hp → Prop, (∃ m, W 0 m σ H1) ∧ ∀ i m σ H, W i m σ H →
  (J.stop i H ∧ D.nx σ H) ∨ (J.go i H ∧ ∃ N : St → Hp → Prop, (∀ σ' H', N σ' H' → ∃ m', m' < m ∧ W (i + 1) m' σ' H') ∧ ∀ x H', J.yld i H x H' → g x σ H' fun σ2 H2 => tb { D with nx := N, ct := N, bk := D.nx } σ2 H2)
/-- the records at fp as they stand -/
def pinsAt (fp : List Addr) (h : Heap) : List (Addr × Obj) := fp.filterMap fun b => (h.get? b).map fun o => (b, o)
theorem mem_pinsAt {fp : List Addr} {h : Heap} {b : Addr} {o : Obj} (hb : b ∈ fp) (e : h.get? b = some o) : (b, o) ∈ pinsAt fp h := List.mem_filterMap.mpr ⟨b, hb, by rw [e]; rfl⟩
theorem of_pinsAt {fp : List Addr} {h : Heap} {p : Addr × Obj} (hp : p ∈ pinsAt fp h) : p.1 ∈ fp ∧ h.get? p.1 = some p.2 := by
  obtain ⟨b, hb, e⟩ := List.mem_filterMap.mp hp
  cases q : h.get? b with
  | none => rw [q] at e; cases e
  | some o =>
    rw [q] at e
    have e' : (b, o) = p := Option.some.inj e
    subst e'
    exact ⟨hb, q⟩
theorem Inv.pinned {pins : List (Addr × Obj)} {σ : St} {H : Hp} {s : Shared} {fp : List Addr} (I : Inv X pins σ H s) (hf : ∀ b ∈ fp, FpOk X pins H b) (ho : ∀ b ∈ fp, ∃ o, s.heap.get? b = some o ∧ ∀ v, o.data ≠ .cell v) : Inv X (pins ++ pinsAt fp s.heap) σ H s :=
  I.pins_of fun p hp => (List.mem_append.mp hp).elim (fun z => I.pin p (List.mem_append_right _ z)) fun z => by
    obtain ⟨hb, e⟩ := of_pinsAt z
    obtain ⟨f0, f1, f2, _⟩ := hf p.1 hb
    obtain ⟨o, e', d⟩ := ho p.1 hb
    rw [e] at e'; cases e'
    exact ⟨e, f0, f1, f2, d⟩
theorem Inv.unpinned {pins pl : List (Addr × Obj)} {σ : St} {H : Hp} {s : Shared} (I : Inv X (pins ++ pl) σ H s) : Inv X pins σ H s := I.pins_of fun p hp => I.pin p (List.mem_append_right _ (List.mem_append_left _ hp))
theorem ps_for {iter : Expr} {body : List Stmt} {wi : TI} {g : TG} {tb : TS} {pos : Pos} (hp : PassesOwn (model X.prog X.w) X.A X.env X.xe) (hc : X.calm = true) (hi : PI X tg iter wi) (hg : PG X tg g) (hb : PSs X body tb)
    (hs : ∀ x, foldedSetIterable iter X.env x = pure x := by intro _; rfl) : PS X (.For tg iter body [] pos) (tFor wi g tb) := by
  intro pins s σ H D I h
  refine wpAny_For (thn (hi pins s σ H _ I h) fun v s1 h1 => thn h1 fun itv s2 h2 => ?_) hs
  obtain ⟨it, fp, tn, J, H2, e, I2, T, st2, f2, W, ⟨m0, w0⟩, turn⟩ := h2
  subst e
  -- what stays true of the iterator's objects through the loop
  have stat : ∀ {H' : Hp}, (∀ b ∈ fp, H' b = none) → ∀ b ∈ fp, FpOk X pins H' b := fun hn b hb => ⟨hn b hb, (f2 b hb).2⟩
  refine codeAny_forLoop_any (fun n s' => ∃ i σ' H', Inv X pins σ' H' s' ∧ tn i s'.heap ∧ (∀ b ∈ fp, H' b = none) ∧ W i n σ' H') ?_ m0 ⟨0, σ, H2, I2, st2, fun b hb => (f2 b hb).1, w0⟩
  rintro n s3 ⟨i, σ3, H3, I3, st3, fr3, w3⟩
  rcases turn i n σ3 H3 w3 with ⟨stop, qn⟩ | ⟨go, N, hN, step⟩
  · refine wpAny_passesOwn hp (thn (T.done X rfl rfl rfl hc i pins s3 σ3 H3 X.xe I3 (stat fr3) st3 stop) fun r s4 ⟨hr, I4⟩ => ?_)
    subst hr
    exact wpAny_execs_nil ⟨σ3, H3, I4, qn⟩
  · refine wpAny_passesOwn hp (thn (T.item X rfl rfl rfl hc i pins s3 σ3 H3 X.xe I3 (stat fr3) st3 go) fun r s4 ⟨u, hr, h4⟩ => ?_)
    subst hr
    refine wpAny_passesOwn hp (thn h4 fun _ s5 ⟨x, H5, I5, r5, y5, st5, fr5⟩ => ?_)
    have I5' := I5.pinned (stat fr5) (T.obj _ _ st5)
    refine wpAny_passesOwn hp (thn (hg _ s5 σ3 H5 x u _ I5' r5 (step x H5 y5)) fun _ s6 ⟨σ6, H6, I6, q6⟩ => ?_)
    refine wpAny_passesOwn hp (thn (hb _ s6 σ6 H6 _ I6 q6) fun f s7 q7 => ?_)
    have again : ∀ {σ7 : St} {H7 : Hp}, Inv X (pins ++ pinsAt fp s5.heap) σ7 H7 s7 → N σ7 H7 → ∃ m, m < n ∧ ∃ i σ' H', Inv X pins σ' H' s7 ∧ tn i s7.heap ∧ (∀ b ∈ fp, H' b = none) ∧ W i m σ' H' := fun {σ7 H7} I7 n7 => by
      obtain ⟨m', hm, w7⟩ := hN σ7 H7 n7
      refine ⟨m', hm, i + 1, σ7, H7, I7.unpinned, T.keep _ _ _ st5 fun b hb o e => (I7.pin (b, o) (List.mem_append_right _ (List.mem_append_right _ (mem_pinsAt hb e)))).1, fun b hb => ?_, w7⟩
      obtain ⟨o, e, d⟩ := T.obj _ _ st5 b hb
      exact (I7.pin (b, o) (List.mem_append_right _ (List.mem_append_right _ (mem_pinsAt hb e)))).2.1
    cases f with
    | next => obtain ⟨σ7, H7, I7, n7⟩ := q7; exact again I7 n7
    | cont => obtain ⟨σ7, H7, I7, n7⟩ := q7; exact again I7 n7
    | brk => obtain ⟨σ7, H7, I7, q7⟩ := q7; exact ⟨σ7, H7, I7.unpinned, q7⟩
    | ret v => obtain ⟨x7, σ7, H7, I7, r7, q7⟩ := q7; exact ⟨x7, σ7, H7, I7.unpinned, r7, q7⟩
end

/-! ### the forms one uses -/
/-- over a list that the body leaves as it is -/
theorem for_list {K : PySem.W.Frag} {a : Addr} {xs : List V} {g : TG} {tb : TS} {D : Ends} {σ : St} {H : Hp} (Pv : Nat → St → Hp → Prop) (h0 : Pv 0 σ H) (hl : ∀ i σ H, i ≤ xs.length → Pv i σ H → SqL K H a xs)
    (hs : ∀ i x σ H, xs[i]? = some x → Pv i σ H → g x σ H fun σ2 H2 => tb { D with nx := Pv (i + 1), ct := Pv (i + 1), bk := D.nx } σ2 H2) (hd : ∀ σ H, Pv xs.length σ H → D.nx σ H) :
    ∃ W : Nat → Nat → St → Hp → Prop, (∃ m, W 0 m σ H) ∧ ∀ i m σ H, W i m σ H →
      ((Itl K a).stop i H ∧ D.nx σ H) ∨ ((Itl K a).go i H ∧ ∃ N : St → Hp → Prop, (∀ σ' H', N σ' H' → ∃ m', m' < m ∧ W (i + 1) m' σ' H') ∧ ∀ x H', (Itl K a).yld i H x H' → g x σ H' fun σ2 H2 => tb { D with nx := N, ct := N, bk := D.nx } σ2 H2) := by
  refine ⟨fun i m σ H => m = xs.length - i ∧ i ≤ xs.length ∧ Pv i σ H, ⟨xs.length, by simp, Nat.zero_le _, h0⟩, ?_⟩
  rintro i m σ H ⟨rfl, hi, p⟩
  have q := hl i σ H hi p
  by_cases hlt : i < xs.length
  · refine .inr ⟨⟨xs, xs[i], q, by simp [hlt]⟩, Pv (i + 1), fun σ' H' p' => ⟨xs.length - (i + 1), by omega, rfl, hlt, p'⟩, fun x H' y => ?_⟩
    obtain ⟨e, y⟩ := y
    subst e
    exact hs i x σ _ (y xs q) p
  · have e : i = xs.length := by omega
    subst e
    exact .inl ⟨⟨xs, q, Nat.le_refl _⟩, hd σ H p⟩
theorem for_range {lo : Int} {n : Nat} {g : TG} {tb : TS} {D : Ends} {σ : St} {H : Hp} (Pv : Nat → St → Hp → Prop) (h0 : Pv 0 σ H)
    (hs : ∀ i σ H, i < n → Pv i σ H → g (.int (lo + i)) σ H fun σ2 H2 => tb { D with nx := Pv (i + 1), ct := Pv (i + 1), bk := D.nx } σ2 H2) (hd : ∀ σ H, Pv n σ H → D.nx σ H) :
    ∃ W : Nat → Nat → St → Hp → Prop, (∃ m, W 0 m σ H) ∧ ∀ i m σ H, W i m σ H →
      ((Itr lo n).stop i H ∧ D.nx σ H) ∨ ((Itr lo n).go i H ∧ ∃ N : St → Hp → Prop, (∀ σ' H', N σ' H' → ∃ m', m' < m ∧ W (i + 1) m' σ' H') ∧ ∀ x H', (Itr lo n).yld i H x H' → g x σ H' fun σ2 H2 => tb { D with nx := N, ct := N, bk := D.nx } σ2 H2) := by
  refine ⟨fun i m σ H => m = n - i ∧ i ≤ n ∧ Pv i σ H, ⟨n, by simp, Nat.zero_le _, h0⟩, ?_⟩
  rintro i m σ H ⟨rfl, hi, p⟩
  by_cases hlt : i < n
  · refine .inr ⟨hlt, Pv (i + 1), fun σ' H' p' => ⟨n - (i + 1), by omega, rfl, hlt, p'⟩, fun x H' y => ?_⟩
    obtain ⟨e, y⟩ := y
    subst e y
    exact hs i σ _ hlt p
  · have e : i = n := by omega
    subst e
    exact .inl ⟨Nat.le_refl _, hd σ H p⟩
end L2

namespace L2
open PySem PySem.Spec PyProof.Rows

abbrev R2 := V → V → Hp → VK → Prop
/-- a two-place operation on values: f is binaryOp op, inplaceOp op or compareOp op -/
def OpR (X : Cx) (f : Value → Value → Sem Value) (r : R2) : Prop :=
  ∀ (pins : List (Addr × Obj)) (s : Shared) (σ : St) (H : Hp) (x y : V) (v u : Value) (Q : VK), Inv X pins σ H s → RelV x v → RelV y u → r x y H Q →
    wpAny (model X.prog X.w) X.A (f v u) (EP X pins σ Q) X.xe s
/-- a one-place operation -/
def UnR (X : Cx) (f : Value → Sem Value) (r : V → Hp → VK → Prop) : Prop :=
  ∀ (pins : List (Addr × Obj)) (s : Shared) (σ : St) (H : Hp) (x : V) (v : Value) (Q : VK), Inv X pins σ H s → RelV x v → r x H Q →
    wpAny (model X.prog X.w) X.A (f v) (EP X pins σ Q) X.xe s
/-- a call of a value that is known (a builtin, a type) with values -/
def CallR (X : Cx) (f : Value) (r : List V → Hp → VK → Prop) : Prop :=
  ∀ (pins : List (Addr × Obj)) (s : Shared) (σ : St) (H : Hp) (xs : List V) (us : List Value) (Q : VK), Inv X pins σ H s → Vals xs us → r xs H Q →
    wpAny (model X.prog X.w) X.A (call f us) (EP X pins σ Q) X.xe s
def tOp (r : R2) (ta tb : TE) : TE := fun σ H Q => ta σ H fun x H1 => tb σ H1 fun y H2 => r x y H2 Q
def tUn (r : V → Hp → VK → Prop) (ta : TE) : TE := fun σ H Q => ta σ H fun x H1 => r x H1 Q
/-- ints in, under C, and a value out -/
def rI (C : Int → Int → Prop) (g : Int → Int → V) : R2 := fun x y H Q => ∃ i j, x = .int i ∧ y = .int j ∧ C i j ∧ Q (g i j) H
def rI0 (g : Int → Int → V) : R2 := fun x y H Q => ∃ i j, x = .int i ∧ y = .int j ∧ Q (g i j) H
def rU (g : Int → V) : V → Hp → VK → Prop := fun x H Q => ∃ i, x = .int i ∧ Q (g i) H

section
variable {X : Cx} {a b c : Expr} {ta tb tc : TE} {pos : Pos}

theorem binT (ha : PE X a ta) (hb : PE X b tb) {pins : List (Addr × Obj)} {s : Shared} {σ : St} {H : Hp} {R : V → V → Hp → Prop} (I : Inv X pins σ H s)
    (h : ta σ H fun x H1 => tb σ H1 fun y H2 => R x y H2) {Q : Value → Shared → Prop} {f : Value → Value → Sem Value}
    (hf : ∀ v u s2 x y H2, Inv X pins σ H2 s2 → RelV x v → RelV y u → R x y H2 → wpAny (model X.prog X.w) X.A (f v u) Q X.xe s2) :
    wpAny (model X.prog X.w) X.A (eval a X.env) (fun v s₁ => wpAny (model X.prog X.w) X.A (eval b X.env) (fun u s₂ => wpAny (model X.prog X.w) X.A (f v u) Q X.xe s₂) X.xe s₁) X.xe s := by
  refine thn (ha pins s σ H _ I h) fun v s1 ⟨x, H1, I1, r1, q1⟩ => ?_
  refine thn (hb pins s1 σ H1 _ I1 q1) fun u s2 ⟨y, H2, I2, r2, q2⟩ => ?_
  exact hf v u s2 x y H2 I2 r1 r2 q2

theorem pe_op {op : Operator} {r : R2} (ho : OpR X (binaryOp op) r) (ha : PE X a ta) (hb : PE X b tb) : PE X (.BinOp a op b pos) (tOp r ta tb) := by
  intro pins s σ H Q I h
  exact wpAny_BinOp (binT ha hb I h fun v u s2 x y H2 I2 rx ry q => ho pins s2 σ H2 x y v u Q I2 rx ry q)
theorem pe_un {op : UnaryOp} {r : V → Hp → VK → Prop} (ho : UnR X (unaryOp op) r) (ha : PE X a ta) : PE X (.UnaryOp op a pos) (tUn r ta) := by
  intro pins s σ H Q I h
  exact UnaryOp_ (thn (ha pins s σ H _ I h) fun v s1 ⟨x, H1, I1, r1, q1⟩ => ho pins s1 σ H1 x v Q I1 r1 q1)
/-! ### ints -/
theorem opI {f : Value → Value → Sem Value} {C : Int → Int → Prop} {g : Int → Int → Int}
    (rule : ∀ (i j : Int) (t u : Tok) (s : Shared) (Q : Value → Shared → Prop) (E : Value → Shared → Prop), C i j → Q (.int (g i j) s.toks) { s with toks := s.toks + 1 } → wpAny (model X.prog X.w) X.A (f (.int i t) (.int j u)) Q E s) :
    OpR X f (rI C fun i j => .int (g i j)) := by
  intro pins s σ H x y v u Q I rx ry h
  obtain ⟨i, j, rfl, rfl, hc, q⟩ := h
  obtain ⟨t, rfl⟩ := rx
  obtain ⟨t', rfl⟩ := ry
  exact rule i j t t' s _ _ hc ⟨.int (g i j), H, I.tok _, ⟨_, rfl⟩, q⟩
theorem opI0 {f : Value → Value → Sem Value} {g : Int → Int → Int}
    (rule : ∀ (i j : Int) (t u : Tok) (s : Shared) (Q : Value → Shared → Prop) (E : Value → Shared → Prop), Q (.int (g i j) s.toks) { s with toks := s.toks + 1 } → wpAny (model X.prog X.w) X.A (f (.int i t) (.int j u)) Q E s) :
    OpR X f (rI0 fun i j => .int (g i j)) := by
  intro pins s σ H x y v u Q I rx ry h
  obtain ⟨i, j, rfl, rfl, q⟩ := h
  obtain ⟨t, rfl⟩ := rx
  obtain ⟨t', rfl⟩ := ry
  exact rule i j t t' s _ _ ⟨.int (g i j), H, I.tok _, ⟨_, rfl⟩, q⟩
theorem opB0 {f : Value → Value → Sem Value} {g : Int → Int → Bool}
    (rule : ∀ (i j : Int) (t u : Tok) (s : Shared) (Q : Value → Shared → Prop) (E : Value → Shared → Prop), Q (.bool (g i j)) s → wpAny (model X.prog X.w) X.A (f (.int i t) (.int j u)) Q E s) :
    OpR X f (rI0 fun i j => .bl (g i j)) := by
  intro pins s σ H x y v u Q I rx ry h
  obtain ⟨i, j, rfl, rfl, q⟩ := h
  obtain ⟨t, rfl⟩ := rx
  obtain ⟨t', rfl⟩ := ry
  exact rule i j t t' s _ _ ⟨.bl (g i j), H, I, rfl, q⟩

def CPow (i j : Int) : Prop := 0 ≤ j ∧ j ≤ 1000000 ∧ i.natAbs < 2 ^ 64
def CMul (i j : Int) : Prop := (-(2 ^ 64) < i ∧ i < 2 ^ 64) ∨ (-(2 ^ 64) < j ∧ j < 2 ^ 64)
theorem CMul.ok {i j : Int} (h : CMul i j) : IntMulOk i j := by
  rcases h with ⟨h1, h2⟩ | ⟨h1, h2⟩
  · exact .of_left (intBits_le_64 h1 h2)
  · exact .of_right (intBits_le_64 h1 h2)
theorem op_add : OpR X (binaryOp .Add) (rI0 fun i j => .int (i + j)) := opI0 fun _ _ _ _ _ _ _ q => add_int q
theorem op_mul : OpR X (binaryOp .Mult) (rI CMul fun i j => .int (i * j)) := opI fun _ _ _ _ _ _ _ hc q => mul_int q hc.ok
/-- % by a positive divisor of any size -/
theorem op_mod : OpR X (binaryOp .Mod) (rI (fun _ j => 0 < j) fun i j => .int (i % j)) := opI fun i j _ _ _ _ _ hc q => by
  have h1 : (0 : Int) < j := hc
  exact mod_int' (by omega) (by rw [Int.fmod_eq_emod_of_nonneg i (by omega)]; exact q)
theorem op_pow : OpR X (binaryOp .Pow) (rI CPow fun i j => .int (i ^ j.toNat)) := opI fun _ _ _ _ _ _ _ hc q => pow_int_small hc.1 hc.2.1 hc.2.2 q
theorem unI {f : Value → Sem Value} {g : Int → Int}
    (rule : ∀ (i : Int) (t : Tok) (s : Shared) (Q : Value → Shared → Prop) (E : Value → Shared → Prop), Q (.int (g i) s.toks) { s with toks := s.toks + 1 } → wpAny (model X.prog X.w) X.A (f (.int i t)) Q E s) :
    UnR X f (rU fun i => .int (g i)) := by
  intro pins s σ H x v Q I rx h
  obtain ⟨i, rfl, q⟩ := h
  obtain ⟨t, rfl⟩ := rx
  exact rule i t s _ _ ⟨.int (g i), H, I.tok _, ⟨_, rfl⟩, q⟩
theorem un_neg : UnR X (unaryOp .USub) (rU fun i => .int (-i)) := unI fun _ _ _ _ _ q => neg_int q
/-! ### bools among ints: n += (a < b) -/
end

/-! ### comparisons -/
/-- the scalars that == tells apart as data does -/
def scal : V → V → Bool
  | .non, .non => true | .non, .int _ => true | .int _, .non => true | .non, .bl _ => true | .bl _, .non => true | .non, .str _ => true | .str _, .non => true
  | .int _, .int _ => true | .bl _, .bl _ => true | .str _, .str _ => true | .byt _, .byt _ => true
  | .int _, .str _ => true | .str _, .int _ => true | .bl _, .str _ => true | .str _, .bl _ => true
  | _, _ => false
def rEq : R2 := fun x y H Q => scal x y = true ∧ Q (.bl (decide (x = y))) H
def rNe : R2 := fun x y H Q => scal x y = true ∧ Q (.bl (!decide (x = y))) H

theorem dec_int {i j : Int} : decide (V.int i = V.int j) = (i == j) := by
  rw [Bool.eq_iff_iff]
  simp
theorem dec_bl {i j : Bool} : decide (V.bl i = V.bl j) = (i == j) := by
  rw [Bool.eq_iff_iff]
  simp
theorem dec_str {i j : Str} : decide (V.str i = V.str j) = (i == j) := by
  rw [Bool.eq_iff_iff]
  simp
theorem dec_byt {i j : Array UInt8} : decide (V.byt i = V.byt j) = (i.toList == j.toList) := by
  rw [Bool.eq_iff_iff]
  cases i
  cases j
  simp

section
variable {X : Cx} {a b c : Expr} {ta tb tc : TE} {pos : Pos}
theorem fin_bl {pins : List (Addr × Obj)} {σ : St} {H : Hp} {s : Shared} {Q : VK} {k k' : Bool} (I : Inv X pins σ H s) (q : Q (.bl k) H) (e : k = k') : EP X pins σ Q (.bool k') s := by
  subst e
  exact ⟨.bl k, H, I, rfl, q⟩
theorem op_eq : OpR X (compareOp .Eq) rEq := by
  intro pins s σ H x y v u Q I rx ry h
  obtain ⟨hs, q⟩ := h
  cases x with
  | non =>
    cases rx
    cases y with
    | non => cases ry; exact PySem.EqNone.eq_none_none (fin_bl I q (by simp))
    | bl j => cases ry; exact PySem.EqNone.eq_none_bool (fin_bl I q (by simp))
    | int j => obtain ⟨t', rfl⟩ := ry; exact PySem.EqNone.eq_none_int (fin_bl I q (by simp))
    | str j => obtain ⟨t', rfl⟩ := ry; exact PySem.EqNone.eq_none_str (fin_bl I q (by simp))
    | _ => exact absurd (show false = true from hs) Bool.false_ne_true
  | bl i =>
    cases rx
    cases y with
    | non => cases ry; exact PySem.EqNone.eq_bool_none (fin_bl I q (by simp))
    | bl j => cases ry; exact eq_bool (fin_bl I q dec_bl)
    | str j => obtain ⟨t', rfl⟩ := ry; exact PySem.EqMixed.eq_bool_str (fin_bl I q (by simp))
    | _ => exact absurd (show false = true from hs) Bool.false_ne_true
  | int i =>
    obtain ⟨t, rfl⟩ := rx
    cases y with
    | non => cases ry; exact PySem.EqNone.eq_int_none (fin_bl I q (by simp))
    | int j => obtain ⟨t', rfl⟩ := ry; exact eq_int (fin_bl I q dec_int)
    | str j => obtain ⟨t', rfl⟩ := ry; exact PySem.EqMixed.eq_int_str (fin_bl I q (by simp))
    | _ => exact absurd (show false = true from hs) Bool.false_ne_true
  | str i =>
    obtain ⟨t, rfl⟩ := rx
    cases y with
    | non => cases ry; exact PySem.EqNone.eq_str_none (fin_bl I q (by simp))
    | bl j => cases ry; exact PySem.EqMixed.eq_str_bool (fin_bl I q (by simp))
    | int j => obtain ⟨t', rfl⟩ := ry; exact PySem.EqMixed.eq_str_int (fin_bl I q (by simp))
    | str j => obtain ⟨t', rfl⟩ := ry; exact eq_str (fin_bl I q dec_str)
    | _ => exact absurd (show false = true from hs) Bool.false_ne_true
  | byt i =>
    obtain ⟨t, rfl⟩ := rx
    cases y with
    | byt j => obtain ⟨t', rfl⟩ := ry; exact PySem.W.eq_bytes (fin_bl I q dec_byt)
    | _ => exact absurd (show false = true from hs) Bool.false_ne_true
  | _ => cases y <;> exact absurd (show false = true from hs) Bool.false_ne_true
theorem op_ne : OpR X (compareOp .NotEq) rNe := by
  intro pins s σ H x y v u Q I rx ry h
  obtain ⟨hs, q⟩ := h
  cases x with
  | non =>
    cases rx
    cases y with
    | non => cases ry; exact PySem.EqNone.ne_none_none (fin_bl I q (by simp))
    | bl j => cases ry; exact PySem.EqNone.ne_none_bool (fin_bl I q (by simp))
    | int j => obtain ⟨t', rfl⟩ := ry; exact PySem.EqNone.ne_none_int (fin_bl I q (by simp))
    | str j => obtain ⟨t', rfl⟩ := ry; exact PySem.EqNone.ne_none_str (fin_bl I q (by simp))
    | _ => exact absurd (show false = true from hs) Bool.false_ne_true
  | bl i =>
    cases rx
    cases y with
    | non => cases ry; exact PySem.EqNone.ne_bool_none (fin_bl I q (by simp))
    | bl j => cases ry; exact ne_bool (fin_bl I q (congrArg not dec_bl))
    | str j => obtain ⟨t', rfl⟩ := ry; exact PySem.EqMixed.ne_bool_str (fin_bl I q (by simp))
    | _ => exact absurd (show false = true from hs) Bool.false_ne_true
  | int i =>
    obtain ⟨t, rfl⟩ := rx
    cases y with
    | non => cases ry; exact PySem.EqNone.ne_int_none (fin_bl I q (by simp))
    | int j => obtain ⟨t', rfl⟩ := ry; exact ne_int (fin_bl I q (congrArg not dec_int))
    | str j => obtain ⟨t', rfl⟩ := ry; exact PySem.EqMixed.ne_int_str (fin_bl I q (by simp))
    | _ => exact absurd (show false = true from hs) Bool.false_ne_true
  | str i =>
    obtain ⟨t, rfl⟩ := rx
    cases y with
    | non => cases ry; exact PySem.EqNone.ne_str_none (fin_bl I q (by simp))
    | bl j => cases ry; exact PySem.EqMixed.ne_str_bool (fin_bl I q (by simp))
    | int j => obtain ⟨t', rfl⟩ := ry; exact PySem.EqMixed.ne_str_int (fin_bl I q (by simp))
    | str j => obtain ⟨t', rfl⟩ := ry; exact ne_str (fin_bl I q (congrArg not dec_str))
    | _ => exact absurd (show false = true from hs) Bool.false_ne_true
  | byt i =>
    obtain ⟨t, rfl⟩ := rx
    cases y with
    | byt j => obtain ⟨t', rfl⟩ := ry; exact PySem.W.ne_bytes (fin_bl I q (congrArg not dec_byt))
    | _ => exact absurd (show false = true from hs) Bool.false_ne_true
  | _ => cases y <;> exact absurd (show false = true from hs) Bool.false_ne_true

theorem op_lt : OpR X (compareOp .Lt) (rI0 fun i j => .bl (decide (i < j))) := opB0 fun _ _ _ _ _ _ _ q => lt_int q
theorem op_le : OpR X (compareOp .LtE) (rI0 fun i j => .bl (decide (i ≤ j))) := opB0 fun _ _ _ _ _ _ _ q => le_int q
theorem op_gt : OpR X (compareOp .Gt) (rI0 fun i j => .bl (decide (j < i))) := opB0 fun _ _ _ _ _ _ _ q => gt_int q
theorem op_notN : OpR X (compareOp .IsNot) (fun x y H Q => y = .non ∧ Q (.bl (!decide (x = .non))) H) := by
  intro pins s σ H x y v u Q I rx ry h
  obtain ⟨rfl, q⟩ := h
  cases ry
  refine isnot_none_gen (fin_bl I q ?_)
  cases x <;> first
    | (cases rx; rfl)
    | (obtain ⟨t, rfl⟩ := rx; rfl)

theorem nomark (b : Expr) {op : CmpOp} (h : op ≠ .In := by decide) (h2 : op ≠ .NotIn := by decide) : behindInMarks op b = false := by
  have e1 : (op == CmpOp.In) = false := by cases op <;> first | rfl | exact absurd rfl h
  have e2 : (op == CmpOp.NotIn) = false := by cases op <;> first | rfl | exact absurd rfl h2
  cases b <;> simp [behindInMarks, e1, e2]
/-- a comparison as a value; hm: nomark b, or (for in, not in) by with_unfolding_all rfl -/
theorem pe_cmpR {op : CmpOp} {r : R2} (ho : OpR X (compareOp op) r) (ha : PE X a ta) (hb : PE X b tb) (hm : behindInMarks op b = false) : PE X (.Compare a [op] [b] pos) (tOp r ta tb) := by
  intro pins s σ H Q I h
  exact wpAny_Compare1 (binT ha hb I h fun v u s2 x y H2 I2 rx ry q => ho pins s2 σ H2 x y v u Q I2 rx ry q) hm
/-- a reading of a value as a test -/
def tTest (t : TE) : TT := fun σ H Q => t σ H fun x H' => ∃ k, x = .bl k ∧ Q k H'
theorem pt_cmpR {op : CmpOp} {r : R2} (ho : OpR X (compareOp op) r) (ha : PE X a ta) (hb : PE X b tb) (hm : behindInMarks op b = false) : PT X (.Compare a [op] [b] pos) (tTest (tOp r ta tb)) := by
  intro pins s σ H Q I h
  refine wpAny_isTrue_Compare1 (thn (ha pins s σ H _ I h) fun v s1 ⟨x, H1, I1, r1, q1⟩ => thn (hb pins s1 σ H1 _ I1 q1) fun u s2 ⟨y, H2, I2, r2, q2⟩ =>
    thn (ho pins s2 σ H2 x y v u _ I2 r1 r2 q2) fun c s3 ⟨z, H3, I3, r3, k, e, q3⟩ => ?_) hm
  subst e
  cases r3
  exact wpAny_truthy_bool ⟨H3, I3, q3⟩
/-- a op1 b op2 c -/
def tChain (r r' : R2) (ta tb tc : TE) : TE := fun σ H Q => ta σ H fun x H1 => tb σ H1 fun y H2 => r x y H2 fun z H3 => ∃ k, z = .bl k ∧
  (if k = true then tc σ H3 fun w' H4 => r' y w' H4 Q else Q (.bl false) H3)
theorem pe_chain {op op' : CmpOp} {r r' : R2} (ho : OpR X (compareOp op) r) (ho' : OpR X (compareOp op') r') (ha : PE X a ta) (hb : PE X b tb) (hc : PE X c tc)
    (hm : lastMarks [op, op'] [b, c] = false := by with_unfolding_all rfl) : PE X (.Compare a [op, op'] [b, c] pos) (tChain r r' ta tb tc) := by
  intro pins s σ H Q I h
  refine Compare_chain (thn (ha pins s σ H _ I h) fun v s1 ⟨x, H1, I1, r1, q1⟩ => chain_link (thn (hb pins s1 σ H1 _ I1 q1) fun u s2 ⟨y, H2, I2, r2, q2⟩ =>
    thn (ho pins s2 σ H2 x y v u _ I2 r1 r2 q2) fun d s3 ⟨z, H3, I3, r3, k, e, q3⟩ => ?_)) hm
  subst e
  cases r3
  refine wpAny_truthy_bool ?_
  cases k with
  | false => exact ite_ff ⟨.bl false, H3, I3, rfl, q3⟩
  | true => exact ite_tt (chain_last (thn (hc pins s3 σ H3 _ I3 q3) fun w' s4 ⟨z', H4, I4, r4, q4⟩ => ho' pins s4 σ H4 y z' u w' Q I4 r2 r4 q4))
theorem pt_chain {op op' : CmpOp} {r r' : R2} (ho : OpR X (compareOp op) r) (ho' : OpR X (compareOp op') r') (ha : PE X a ta) (hb : PE X b tb) (hc : PE X c tc)
    (hm : lastMarks [op, op'] [b, c] = false := by with_unfolding_all rfl) : PT X (.Compare a [op, op'] [b, c] pos) (tTest (tChain r r' ta tb tc)) := by
  intro pins s σ H Q I h
  refine isTrue_chain (thn (ha pins s σ H _ I h) fun v s1 ⟨x, H1, I1, r1, q1⟩ => test_link (thn (hb pins s1 σ H1 _ I1 q1) fun u s2 ⟨y, H2, I2, r2, q2⟩ =>
    thn (ho pins s2 σ H2 x y v u _ I2 r1 r2 q2) fun d s3 ⟨z, H3, I3, r3, k, e, q3⟩ => ?_)) hm
  subst e
  cases r3
  refine wpAny_truthy_bool ?_
  cases k with
  | false =>
    obtain ⟨k', e', q'⟩ := q3
    cases e'
    exact ite_ff ⟨H3, I3, q'⟩
  | true =>
    refine ite_tt (test_last (thn (hc pins s3 σ H3 _ I3 q3) fun w' s4 ⟨z', H4, I4, r4, q4⟩ => thn (ho' pins s4 σ H4 y z' u w' _ I4 r2 r4 q4) fun d' s5 ⟨z2, H5, I5, r5, k2, e2, q5⟩ => ?_))
    subst e2
    cases r5
    exact wpAny_truthy_bool ⟨H5, I5, q5⟩

/-! ### truth -/
theorem line63 : (sizeLine : Nat) < 2 ^ 63 := by rw [sizeLine_eq]; decide
/-! ### strs and bytes -/
theorem op_add_str : OpR X (binaryOp .Add) (fun x y H Q => ∃ i j, x = .str i ∧ y = .str j ∧ i.length + j.length ≤ sizeLine ∧ Q (.str (i ++ j)) H) := by
  intro pins s σ H x y v u Q I rx ry h
  obtain ⟨i, j, rfl, rfl, hz, q⟩ := h
  obtain ⟨t, rfl⟩ := rx
  obtain ⟨t', rfl⟩ := ry
  exact add_str (fun t' tk => ⟨.str (i ++ j), H, I.tok _, ⟨_, rfl⟩, q⟩) hz
/-! ### scalar builtins, by CallR -/
theorem vals1 {x : V} {us : List Value} (r : Vals [x] us) : ∃ u, us = [u] ∧ RelV x u := by
  cases r with
  | cons r1 r2 => cases r2; exact ⟨_, rfl, r1⟩
theorem vals2 {x y : V} {us : List Value} (r : Vals [x, y] us) : ∃ u w', us = [u, w'] ∧ RelV x u ∧ RelV y w' := by
  cases r with
  | cons r1 r2 =>
    cases r2 with
    | cons r3 r4 => cases r4; exact ⟨_, _, rfl, r1, r3⟩
theorem call_min2 (hc : X.calm = true) : CallR X (.builtin "min") (fun xs H Q => ∃ i j, xs = [.int i, .int j] ∧ Q (.int (if j < i then j else i)) H) := by
  intro pins s σ H xs us Q I r h
  obtain ⟨i, j, rfl, q⟩ := h
  obtain ⟨u, w', rfl, ⟨t, rfl⟩, ⟨t', rfl⟩⟩ := vals2 r
  refine min_two_ints (I.ok.hd hc) fun h' tk k => ⟨_, H, I.kept k, ?_, q⟩
  by_cases hj : j < i
  · rw [if_pos hj, if_pos hj]; exact ⟨_, rfl⟩
  · rw [if_neg hj, if_neg hj]; exact ⟨_, rfl⟩
theorem call_str_int : CallR X (.type "str") (fun xs H Q => ∃ i, xs = [.int i] ∧ i.natAbs.log2 < 1920 ∧ Q (.str (toString i)) H) := by
  intro pins s σ H xs us Q I r h
  obtain ⟨i, rfl, hz, q⟩ := h
  obtain ⟨u, rfl, t, rfl⟩ := vals1 r
  exact PySem.P.str_of_int hz ⟨.str _, H, I.tok _, ⟨_, rfl⟩, q⟩
end
end L2

namespace L2
open PySem PySem.Spec PyProof.Rows

/-! ### an instance, its attributes a map -/
structure ObjM (h : Heap) (x dx C : Addr) (mA : Str → Option Value) : Prop where
  obj : h.get? x = some (PySem.W.instObj C dx)
  ns : h.Ns1 dx mA
  ne : dx ≠ x

theorem lookIn_ns {h : Heap} {dx : Addr} {mA : Str → Option Value} (n : h.Ns1 dx mA) : ∃ od, h.get? dx = some od ∧ ∀ name, PySem.W.lookIn name od = some (mA name) := by
  obtain ⟨o, es, ep, ho, hd, hk, _, hm⟩ := n
  refine ⟨o, ho, fun name => ?_⟩
  have e := hm name
  unfold nsFind findBy at e
  rw [← Array.find?_toList] at e
  unfold PySem.W.lookIn
  rw [hd]
  dsimp only
  split
  · rename_i y q
    rw [q] at e
    exact congrArg some e
  · rename_i q
    rw [q] at e
    have a : es.toList.any (·.refKey) = false := by
      rw [List.any_eq_false]
      intro y hy
      obtain ⟨z, t, hkey⟩ := hk y (Array.mem_toList_iff.mp hy)
      simp [DictEntry.refKey, hkey]
    have a' : ¬ es.toList.any (·.refKey) = true := by rw [a]; exact Bool.false_ne_true
    rw [if_neg a']
    exact congrArg some e

theorem ObjM.look {h : Heap} {x dx C : Addr} {mA : Str → Option Value} (I : ObjM h x dx C mA) : ∃ od, PySem.W.InstAt h x (PySem.W.instObj C dx) C (some od) ∧ ∀ name, PySem.W.lookIn name od = some (mA name) :=
  let ⟨od, ho, hl⟩ := lookIn_ns I.ns
  ⟨od, ⟨I.obj, rfl, rfl, ho⟩, hl⟩

section
variable {prog : Program} {w : World} {A : Around} {E : Value → Shared → Prop} {s : Shared} {K : PySem.W.Frag} {x dx C f : Addr} {mA : Str → Option Value} {name : Str} {v : Value}

end

/-! ### the attributes as a list of pairs -/
theorem RelO.some_of {v : V} {o : Option Value} (r : RelO (some v) o) : ∃ u, o = some u ∧ RelV v u := by
  cases o with
  | none => exact (show False from r).elim
  | some u => exact ⟨u, rfl, r⟩
section
variable {P : Program} {w : World} {H H' : Hp} {h h' : Heap} {a C dx : Addr} {fs fs' : List (Str × V)}
theorem ins_get (hok : HOk P w H h) (e : H a = some (.ins C dx fs)) : ∃ mA, ObjM h a dx C mA ∧ (∀ f, RelO (fs.lookup f) (mA f)) ∧ PySem.Within mA (fs.map (·.1)) ∧ fs.length ≤ 1000 ∧ H dx = some (.own a) := by
  obtain ⟨d, z, ne, ob, mA, n, r, q⟩ := (show ObjOk P w H h a (.ins C dx fs) from hok a _ e)
  exact ⟨mA, ⟨ob, n, ne⟩, r, q, z, d⟩
end

/-! ### what of the text a class must have -/
structure Cls (K : PySem.W.Frag) (C : Addr) : Prop where
  pg : PySem.W.plainGet K C Str.empty = true
  hd : PySem.W.hasDictIn K C = true
  po : PySem.W.plainOver K C = true
  sa : PySem.W.findIn K (.ref C) "__setattr__" = some (some (.builtin "object.__setattr__"))
theorem Cls.get {K : PySem.W.Frag} {C : Addr} (c : Cls K C) (f : Str) : PySem.W.plainGet K C f = true := c.pg
section
variable {X : Cx} {pins : List (Addr × Obj)} {σ : St} {H : Hp} {s : Shared} {a C dx : Addr} {fs : List (Str × V)} {f : Str} {v : V} {A : Around} {E : Value → Shared → Prop}

end

/-! ### readings and rules -/
section
variable {X : Cx} {o e value : Expr} {f : Str} {pos pos' tpos : Pos} {ta tv : TE}
end

/-! ### isinstance -/
section
variable {X : Cx} {pins : List (Addr × Obj)} {σ : St} {H : Hp} {s : Shared} {A : Around} {E : Value → Shared → Prop} {Q : Value → Shared → Prop} {c : Value} {b : Bool}
/-- the type of a value, as the fragment's deciders take it; for an instance its class -/
inductive TyOf (K : PySem.W.Frag) (H : Hp) : V → Value → Prop where
  | non : TyOf K H .non (.type "NoneType")
  | bl (x : Bool) : TyOf K H (.bl x) (.type "bool")
  | int (i : Int) : TyOf K H (.int i) (.type "int")
  | str (x : Str) : TyOf K H (.str x) (.type "str")
  | flt (x : UInt64) : TyOf K H (.flt x) (.type "float")
  | lst {a : Addr} {xs : List V} (e : H a = some (.lst xs)) : TyOf K H (.ref a) (.type "list")
  | frz {a : Addr} {o : Obj} {xs : List V} (e : H a = some (.frz o (.lst xs))) : TyOf K H (.ref a) (.type "list")
  | tup {a : Addr} {xs : List V} (e : H a = some (.tup xs)) : TyOf K H (.ref a) (.type "tuple")
  | dK {a : Addr} {kvs : List (Key × V)} (e : H a = some (.dK kvs)) : TyOf K H (.ref a) (.type "dict")
  | dT {a : Addr} {kvs : List (List Key × V)} (e : H a = some (.dT kvs)) : TyOf K H (.ref a) (.type "dict")
  | ins {a C dx : Addr} {fs : List (Str × V)} (e : H a = some (.ins C dx fs)) (cl : Cls K C) (ha : PySem.W.findIn K (.ref C) "__class__" = some (some (.builtin "object.__class__")))
      (hn : PySem.W.specialIn K (.builtin "object.__class__") "__get__" = some (some (.builtin "getset_descriptor.__get__"))) (htk : PySem.W.takesIn K (.builtin "object.__class__") = some true)
      (hm : PySem.W.mroIn K C (.type "object") = some true) : TyOf K H (.ref a) (.ref C)
/-- isinstance(x, c) for one class c, a built-in or an own one: kitOne's answer -/
theorem isinst_ok {x : V} {u t : Value} (I : Inv X pins σ H s) (rx : RelV x u) (ty : TyOf X.K H x t) (e : PySem.W.kitOne X.K t c = some b) (h : ∀ tk, Q (.bool b) { s with toks := tk }) :
    wpAny (model X.prog X.w) A (call (.builtin "isinstance") [u, c]) Q E s := by
  cases ty with
  | non => cases (show u = Value.none from rx); exact PySem.W.kia_one PySem.W.kitx_none I.kIn True.intro e (fun z => nomatch z) h
  | bl y => cases (show u = Value.bool y from rx); exact PySem.W.kia_one PySem.W.kitx_bool I.kIn True.intro e (fun z => nomatch z) h
  | int i => obtain ⟨t, q⟩ := (show ∃ t, u = Value.int i t from rx); cases q; exact PySem.W.kia_one PySem.W.kitx_int I.kIn True.intro e (fun z => nomatch z) h
  | str y => obtain ⟨t, q⟩ := (show ∃ t, u = Value.str y t from rx); cases q; exact PySem.W.kia_one PySem.W.kitx_str I.kIn True.intro e (fun z => nomatch z) h
  | flt y => obtain ⟨t, q⟩ := (show ∃ t, u = Value.float y t from rx); cases q; exact PySem.W.kia_one PySem.W.kitx_float I.kIn True.intro e (fun z => nomatch z) h
  | @lst a xs ea =>
    cases (show u = Value.ref a from rx)
    obtain ⟨_, _, n, _, h1⟩ := (show ObjOk X.prog X.w H s.heap a (.lst xs) from I.hok a _ ea)
    exact PySem.W.kia_one PySem.W.kitx_list I.kIn ⟨_, h1, rfl⟩ e (fun z => nomatch z) h
  | @frz a ob xs ea =>
    cases (show u = Value.ref a from rx)
    obtain ⟨_, _, _, n, _, h1⟩ := (show ObjOk X.prog X.w H s.heap a (.frz ob (.lst xs)) from I.hok a _ ea)
    exact PySem.W.kia_one PySem.W.kitx_list I.kIn ⟨_, h1, rfl⟩ e (fun z => nomatch z) h
  | @tup a xs ea =>
    cases (show u = Value.ref a from rx)
    obtain ⟨_, _, _, p⟩ := (show ObjOk X.prog X.w H s.heap a (.tup xs) from I.hok a _ ea)
    obtain ⟨o, h1, h2, _⟩ := p
    exact PySem.W.kia_one PySem.W.kitx_tuple I.kIn ⟨o, h1, h2⟩ e (fun z => nomatch z) h
  | @dK a kvs ea =>
    cases (show u = Value.ref a from rx)
    obtain ⟨_, _, vs, _, p⟩ := (show ObjOk X.prog X.w H s.heap a (.dK kvs) from I.hok a _ ea)
    obtain ⟨o, es, ep, h1, h2, _⟩ := p
    exact PySem.W.kia_one PySem.W.kitx_dict I.kIn ⟨o, h1, h2.1⟩ e (fun z => nomatch z) h
  | @dT a kvs ea =>
    cases (show u = Value.ref a from rx)
    obtain ⟨_, _, xs, _, o, es, ep, h1, h2, _⟩ := (show ObjOk X.prog X.w H s.heap a (.dT kvs) from I.hok a _ ea)
    exact PySem.W.kia_one PySem.W.kitx_dict I.kIn ⟨o, h1, h2.1⟩ e (fun z => nomatch z) h
  | @ins a C dx fs ea cl ha hn htk hm =>
    cases (show u = Value.ref a from rx)
    obtain ⟨mA, O, _⟩ := ins_get I.hok ea
    obtain ⟨od, J, _⟩ := O.look
    exact PySem.W.kia_one (PySem.W.kitx_own (cl.get _) cl.hd ha hn htk hm) I.kIn J e (fun z => nomatch z) h
end
end L2

namespace L2
open PySem PySem.Spec PyProof.Rows

/-! ### room -/
structure Room (k : Nat) (A : Around) : Prop where
  hd : A.handled = none
  dp : A.depth + 3 * k + 5 < recursionLimit
  un : A.units + 16 * k + 200 < cLine
theorem Room.mono {j k : Nat} {A : Around} (r : Room k A) (h : j ≤ k) : Room j A := ⟨r.hd, by have := r.dp; omega, by have := r.un; omega⟩
theorem Room.deeper {k : Nat} {A : Around} (r : Room (k + 1) A) (env : Env) : Room k (A.deeper env) :=
  ⟨r.hd, by have := r.dp; show A.depth + 1 + 3 * k + 5 < _; omega, by have := r.un; show A.units + 3 + 16 * k + 200 < _; omega⟩
theorem Room.depth {k : Nat} {A : Around} (r : Room k A) : A.depth < recursionLimit := by have := r.dp; omega
theorem Room.units {k : Nat} {A : Around} (r : Room k A) : A.units + 64 < cLine := by have := r.un; omega
theorem Room.units0 {k : Nat} {A : Around} (r : Room k A) : A.units < cLine := by have := r.un; omega

/-! ### argument lists and displays -/
def tNil : TA := fun _ H Q => Q [] H
def tCons (ta : TE) (tr : TA) : TA := fun σ H Q => ta σ H fun x H1 => tr σ H1 fun xs H2 => Q (x :: xs) H2
section
variable {X : Cx} {e : Expr} {es : List Expr} {te : TE} {t : TA} {pos : Pos}
theorem pa_nil : PA X [] tNil := fun _ _ _ _ H Q I h => Calls.spliced_nil ⟨[], H, I, .nil, h⟩
theorem pa_cons (ha : PE X e te) (hr : PA X es t) (hs : starEach (e :: es) X.env = (false, eval e X.env) :: starEach es X.env := by rfl) : PA X (e :: es) (tCons te t) := by
  intro pos pins s σ H Q I h
  rw [hs]
  show wpAny _ _ (spliced ((false, eval e X.env) :: backTo pos (starEach es X.env))) _ _ s
  refine Calls.spliced_cons (thn (ha pins s σ H _ I h) fun u s1 ⟨x, H1, I1, r1, q1⟩ => ?_)
  exact thn (hr pos pins s1 σ H1 _ I1 q1) fun us s2 ⟨xs, H2, I2, r2, q2⟩ => ⟨x :: xs, H2, I2, .cons r1 r2, q2⟩

/-- a tuple, a list of written items -/
def tTup (t : TA) : TE := fun σ H Q => t σ H fun xs H1 => xs.length ≤ sizeLine ∧ ∀ p, H1 p = none → Q (.ref p) (upd H1 p (.tup xs))
def tLst (t : TA) : TE := fun σ H Q => t σ H fun xs H1 => xs.length ≤ sizeLine ∧ ∀ p, H1 p = none → Q (.ref p) (upd H1 p (.lst xs))
theorem pe_tup {x1} (h : PA X es t) : PE X (.Tuple es x1 pos) (tTup t) := by
  intro pins s σ H Q I hq
  refine wpAny_Tuple_spliced (thn (h pos pins s σ H _ I hq) fun us s1 ⟨xs, H1, I1, r, z, q⟩ => ⟨by rw [← r.length]; exact z, ?_⟩)
  have hf : H1 s1.heap.objs.size = none := I1.hok.fresh (Nat.le_refl _)
  refine ⟨.ref s1.heap.objs.size, upd H1 s1.heap.objs.size (.tup xs), I1.laid (t' := s1.toks) (fun b u e => Heap.get?_push_of_some _ e) (Nat.le_refl _) ?_, rfl, q _ hf⟩
  exact ⟨z, us, r, ⟨_, Heap.get?_push_size _ rfl, rfl, rfl, _, rfl⟩⟩
theorem pe_lst (h : PA X es t) : PE X (.List es pos) (tLst t) := by
  intro pins s σ H Q I hq
  refine wpAny_List_spliced (thn (h pos pins s σ H _ I hq) fun us s1 ⟨xs, H1, I1, r, z, q⟩ => ⟨by rw [← r.length]; exact z, ?_⟩)
  have hf : H1 s1.heap.objs.size = none := I1.hok.fresh (Nat.le_refl _)
  refine ⟨.ref s1.heap.objs.size, upd H1 s1.heap.objs.size (.lst xs), I1.laid (t' := s1.toks) (fun b u e => Heap.get?_push_of_some _ e) (Nat.le_refl _) ?_, rfl, q _ hf⟩
  exact ⟨z, us, 0, r, Heap.get?_push_size _ rfl⟩
end

/-! ### what a def promises -/
/-- a def's promise: the bound arguments in the parameters' order, the heap, the wanted end, the wanted exception -/
abbrev Sp := List V → Hp → VK → XK → Prop
/-- how an exception lies behind a call (file 08 gives it): the callers' frames, abstract heap and state ahead of the call, the wish, the exception, the state -/
abbrev CXT := List Env → Hp → Shared → XK → Value → Shared → Prop

/-- the state at a call -/
structure Env0 (P : Program) (w : World) (K : PySem.W.Frag) (mg : Str → Option Value) (base : Heap) (A : Around) (outer : List Env) (s : Shared) (H : Hp) : Prop where
  frames : A.frames = some outer
  mod : Mod K mg base
  bs : ∀ b o, base.get? b = some o → s.heap.get? b = some o ∧ H b = none
  bsz : base.objs.size ≤ s.heap.objs.size
  funs : s.heap.FunFrames base outer
  frf : ∀ b ∈ frs outer, H b = none
  hok : HOk P w H s.heap
  bare : AllBare s.gens
/-- a call's end -/
def CE (outer : List Env) (P : Program) (w : World) (H : Hp) (s : Shared) (Q : VK) (u : Value) (s' : Shared) : Prop :=
  ∃ v H', s'.os = s.os ∧ AllBare s'.gens ∧ Un (frs outer) [] H H' s.heap s'.heap ∧ HOk P w H' s'.heap ∧ RelV v u ∧ Q v H'
def CR (CX : CXT) (outer : List Env) (P : Program) (w : World) (H : Hp) (s : Shared) (Q : VK) (E : XK) (r : Result) (s' : Shared) : Prop :=
  match r with
  | .ok (.ret u) => CE outer P w H s Q u s'
  | .ok _ => False
  | .error e => CX outer H s E e s'
structure FnOk (P : Program) (w : World) (K : PySem.W.Frag) (mg : Str → Option Value) (base : Heap) (CX : CXT) (k : Nat) (f : Addr) (fd : FuncData) (ps : List Str) (sp : Sp) : Prop where
  len : ∀ vs H Q E, sp vs H Q E → vs.length = ps.length
  run : ∀ (A : Around) (outer : List Env) (s : Shared) (H : Hp) (args : Args) (us : List Value) (vs : List V) (Q : VK) (E : XK), Room k A → Env0 P w K mg base A outer s H → BindsTo s fd args (ps.zip us) → Vals vs us → sp vs H Q E →
    codeAny (model P w) A (.call (.ref f) args) (CR CX outer P w H s Q E) s
section
variable {X : Cx} {pins : List (Addr × Obj)} {σ : St} {H : Hp} {s s' : Shared}
/-- from a body: what a callee wants -/
theorem Inv.env0 (I : Inv X pins σ H s) : Env0 X.prog X.w X.K X.mg X.base X.A X.stack s H :=
  ⟨I.ok.frames, I.ok.mod, I.bs, Nat.le_trans I.ok.bsz I.sz, I.stack, I.stkFree, I.hok, I.bare⟩
/-- behind a call -/
theorem Inv.after {Q : VK} {u : Value} (I : Inv X pins σ H s) (h : CE X.stack X.prog X.w H s Q u s') : EP X pins σ Q u s' := by
  obtain ⟨v, H', os, bare, un, hok, r, q⟩ := h
  obtain ⟨hh, g, d, t, os'⟩ := s'
  obtain rfl : os' = s.os := os
  exact ⟨v, H', I.call (h' := hh) (g' := g) (d' := d) (t' := t) (ch := []) un hok bare (fun b z => absurd z (by simp)), r, q⟩
end

/-! ### calls -/
/-- f(..): the written arguments, then the defaults dvs; E: what is wanted of an exception -/
def tCall (sp : Sp) (dvs : List V) (E : XK) (t : TA) : TE := fun σ H Q => t σ H fun vs H1 => sp (vs ++ dvs) H1 Q E
/-- how the parameters are bound: us the positional arguments, kw the keywords' values by name, ds the defaults that fill up -/
def Binds (K : PySem.W.Frag) (fd : FuncData) (ps : List Str) (ds : List Value) : Prop :=
  ∀ (s : Shared) (us : List Value), K.In s.heap → (us ++ ds).length = ps.length → BindsTo s fd ⟨us, []⟩ (ps.zip (us ++ ds))
/-- every parameter is given -/
theorem Binds.all {K : PySem.W.Frag} {fd : FuncData} {ps : List Str} (h : ∀ us : List Value, us.length = ps.length → bindArgs fd ⟨us, []⟩ = pure (ps.zip us)) : Binds K fd ps [] := fun s us _ hl => by
  rw [List.append_nil] at hl ⊢
  exact .of_eq (h us hl)

/-- an exception of a callee reaches what this body wants of exceptions -/
def Passes (CX : CXT) (X : Cx) (E : XK) : Prop := ∀ (pins : List (Addr × Obj)) (σ : St) (H : Hp) (s : Shared) (e : Value) (s' : Shared), Inv X pins σ H s → CX X.stack H s E e s' → X.xe e s'

section
variable {X : Cx} {CX : CXT} {k : Nat} {f C : Addr} {fd : FuncData} {ps : List Str} {sp : Sp} {dvs : List V} {ds : List Value} {E : XK} {x m : Str} {p pos apos : Pos} {e o : Expr} {es : List Expr} {ta : TE} {t : TA}

/-- the callee runs -/
theorem run_fn {pins : List (Addr × Obj)} {σ : St} {H : Hp} {s : Shared} {Q : VK} {us : List Value} {vs : List V} (F : FnOk X.prog X.w X.K X.mg X.base CX k f fd ps sp) (hr : Room k X.A) (hb : Binds X.K fd ps ds) (hd : Vals dvs ds) (hx : Passes CX X E)
    (I : Inv X pins σ H s) (r : Vals vs us) (h : sp (vs ++ dvs) H Q E) : wpAny (model X.prog X.w) X.A (call (.ref f) us) (EP X pins σ Q) X.xe s := by
  have r2 : Vals (vs ++ dvs) (us ++ ds) := r.append hd
  have hl : (us ++ ds).length = ps.length := by rw [← r2.length]; exact F.len _ _ _ _ h
  refine wpAny_call (codeAny_mono (F.run X.A X.stack s H ⟨us, []⟩ (us ++ ds) (vs ++ dvs) Q E hr I.env0 (hb s us I.kIn hl) r2 h) fun r s' hq => ?_)
  cases r with
  | error e => exact hx pins σ H s e s' I hq
  | ok fl =>
    cases fl with
    | ret u => exact I.after hq
    | next => exact False.elim hq
    | brk => exact False.elim hq
    | cont => exact False.elim hq

theorem pe_call (F : FnOk X.prog X.w X.K X.mg X.base CX k f fd ps sp) (hr : Room k X.A) (hg : Gl X x) (hm : X.mg x = some (.ref f)) (hk : PySem.W.keepIn X.K (.ref f) = true) (hb : Binds X.K fd ps ds) (hd : Vals dvs ds) (hx : Passes CX X E)
    (ha : PA X (e :: es) t) (hdb : (x == ("__debug__" : Str)) = false := by decide) (he : starEach (e :: es) X.env = (false, eval e X.env) :: starEach es X.env := by rfl) (hpl : (backTo pos (starEach es X.env)).any (·.1) = false := by rfl) :
    PE X (.Call (.Name x p) (e :: es) [] pos) (tCall sp dvs E t) := by
  intro pins s σ H Q I h
  refine wpAny_Call_Name_kw (ld_glob I hg hm ?_ hdb)
  refine PySem.W.callWith_K (h₀ := X.base) I.ok.mod.kin hk (thn (ha pos pins s σ H _ I h) fun us s1 ⟨vs, H1, I1, r, q⟩ => ⟨I1.kIn, ?_⟩) he hpl
  exact run_fn F hr hb hd hx I1 r q
end

/-! ### keywords -/
section
variable {X : Cx} {CX : CXT} {k : Nat} {f C : Addr} {fd : FuncData} {ps ks : List Str} {sp : Sp} {E : XK} {x m : Str} {p pos apos kpos : Pos} {e o : Expr} {es : List Expr} {kws : List Keyword} {te ta : TE} {t tk : TA} {nm : Option Str}
variable {g : List Value → List Value → List Value} {gV : List V → List V → List V}
end

/-! ### a def's body keeps its promise -/
/-- names: the parameters first -/
structure FnScope (N P : List Str) (sc : Scope) : Prop where
  kind : sc.kind = .function
  co : sc.isCoroutine = false
  gen : sc.isGenerator = false
  nd : N.Nodup
  pre : N.take P.length = P
  par : ∀ x ∈ P, sc.names.lookup x = some .local ∨ sc.names.lookup x = some .cell
  nofree : ∀ y ∈ sc.names, y.2 ≠ .free

theorem bindL_out {kindOf : Str → Option NameKind} {x : Str} : ∀ {binds : List (Str × Value)} {m : Str → Option Value}, (∀ v, (x, v) ∉ binds) → bindL kindOf binds m x = m x
  | [], _, _ => rfl
  | (n, v) :: r, m, h => by
    unfold bindL
    rw [bindL_out fun w hw => h w (List.mem_cons_of_mem _ hw)]
    split
    · have : x ≠ n := by rintro rfl; exact h v List.mem_cons_self
      simp [this]
    · rfl
theorem bindC_out {kindOf : Str → Option NameKind} {x : Str} : ∀ {binds : List (Str × Value)} {m : Str → Option Value}, (∀ v, (x, v) ∉ binds) → bindC kindOf binds m x = m x
  | [], _, _ => rfl
  | (n, v) :: r, m, h => by
    unfold bindC
    rw [bindC_out fun w hw => h w (List.mem_cons_of_mem _ hw)]
    split
    · rfl
    · have : x ≠ n := by rintro rfl; exact h v List.mem_cons_self
      simp [this]
theorem bindL_get {kindOf : Str → Option NameKind} {x : Str} {v : Value} : ∀ {P : List Str} {vs : List Value} {i : Nat} {m : Str → Option Value}, P.Nodup → P[i]? = some x → vs[i]? = some v → kindOf x = some .local →
    bindL kindOf (P.zip vs) m x = some v
  | [], _, _, _, _, h, _, _ => by simp at h
  | _ :: _, [], _, _, _, _, h, _ => by simp at h
  | p :: P, w :: vs, 0, m, nd, h1, h2, hk => by
    simp at h1 h2; subst h1; subst h2
    show bindL kindOf ((p, w) :: P.zip vs) m p = _
    unfold bindL
    rw [bindL_out fun v hv => (List.nodup_cons.mp nd).1 (List.of_mem_zip hv).1, if_pos hk]
    simp
  | p :: P, w :: vs, i + 1, m, nd, h1, h2, hk => by
    show bindL kindOf ((p, w) :: P.zip vs) m x = _
    unfold bindL
    exact bindL_get (i := i) (List.nodup_cons.mp nd).2 (by simpa using h1) (by simpa using h2) hk
theorem bindC_get {kindOf : Str → Option NameKind} {x : Str} {v : Value} : ∀ {P : List Str} {vs : List Value} {i : Nat} {m : Str → Option Value}, P.Nodup → P[i]? = some x → vs[i]? = some v → kindOf x ≠ some .local →
    bindC kindOf (P.zip vs) m x = some v
  | [], _, _, _, _, h, _, _ => by simp at h
  | _ :: _, [], _, _, _, _, h, _ => by simp at h
  | p :: P, w :: vs, 0, m, nd, h1, h2, hk => by
    simp at h1 h2; subst h1; subst h2
    show bindC kindOf ((p, w) :: P.zip vs) m p = _
    unfold bindC
    rw [bindC_out fun v hv => (List.nodup_cons.mp nd).1 (List.of_mem_zip hv).1, if_neg hk]
    simp
  | p :: P, w :: vs, i + 1, m, nd, h1, h2, hk => by
    show bindC kindOf ((p, w) :: P.zip vs) m x = _
    unfold bindC
    exact bindC_get (i := i) (List.nodup_cons.mp nd).2 (by simpa using h1) (by simpa using h2) hk

/-- the names' values at the entry -/
def start (N : List Str) (vs : List V) : St := vs.map some ++ List.replicate (N.length - vs.length) none

/-- the context of a def's body, at its entry; an exception leaves the frame, then lies as CX says -/
def cxOf (CX : CXT) (P : Program) (w : World) (K : PySem.W.Frag) (mg : Str → Option Value) (base : Heap) (N : List Str) (qual : Str) (scope : Scope) (f : Addr) (cd : Value) (A : Around) (outer : List Env) (s : Shared) (H : Hp) (E : XK) : Cx where
  prog := P
  w := w
  K := K
  mg := mg
  base := base
  A := A.deeper (envOfC qual scope s.heap.objs.size f cd)
  N := N
  s₀ := s
  H₀ := H
  env := envOfC qual scope s.heap.objs.size f cd
  outer := outer
  stack := envOfC qual scope s.heap.objs.size f cd :: outer
  ex := []
  calm := true
  fn := fun _ => true
  pn := []
  xe := fun e s' => wpAny (model P w) (A.deeper (envOfC qual scope s.heap.objs.size f cd)) (leaving (envOfC qual scope s.heap.objs.size f cd) e) (fun _ s'' => CX outer H s E e s'') (fun e' s'' => CX outer H s E e' s'') s'

theorem cell_has {sc : Scope} {n : Nat} {x : Str} (h : sc.names.lookup x = some .cell) : ∃ c, (cellsFrom n sc.names []).lookup x = some c := by
  have q := PySem.W.cellsFrom_some sc.names n [] (.inl h)
  exact Option.isSome_iff_exists.mp q

theorem inv_start {CX : CXT} {P : Program} {w : World} {K : PySem.W.Frag} {mg : Str → Option Value} {base : Heap} {N ps : List Str} {qual : Str} {scope : Scope} {f : Addr} {cd : Value} {A : Around} {outer : List Env} {s s1 : Shared} {H : Hp} {E : XK} {us : List Value} {vs : List V}
    (S : FnScope N ps scope) (hd : A.handled = none) (e0 : Env0 P w K mg base A outer s H) (hl : vs.length = ps.length) (r : Vals vs us)
    (x : InCallC s s.heap.objs.size (bindL (envOfC qual scope s.heap.objs.size f cd).kindOf (ps.zip us) fun _ => none) (cellsFrom (s.heap.objs.size + 1) scope.names []) (bindC (envOfC qual scope s.heap.objs.size f cd).kindOf (ps.zip us) fun _ => none) s1) :
    Inv (cxOf CX P w K mg base N qual scope f cd A outer s H E) [] (start N vs) H s1 := by
  have hpl : ps.length ≤ N.length := by have := congrArg List.length S.pre; rw [List.length_take] at this; omega
  obtain ⟨h1, tk, rfl, hk⟩ := x.done
  have noA : ∀ b : Addr, b ∉ (cxOf CX P w K mg base N qual scope f cd A outer s H E).ex := fun b z => absurd (show b ∈ ([] : List Addr) from z) (by simp)
  refine ⟨⟨e0.mod, S.kind, rfl, rfl, Nat.le_refl _, fun y z c h1 h2 => ?_, fun y hy => ?_, fun y c _ h => ?_, fun _ => hd, Around.frames_deeper e0.frames, .inr ⟨rfl, rfl⟩, fun b z => absurd z (noA b), e0.bs, e0.bsz, fun b _ _ => noA b, fun b z => absurd z (noA b), e0.funs, e0.frf⟩,
    rfl, e0.bare, Un.kept hk, ⟨_, x.toInCall.ns, fun i y v h1 h2 h3 => ?_⟩, fun y c h => ⟨_, x.cell y c h⟩, e0.hok.fresh (Nat.le_refl _), fun y c h => ?_, fun p hp => absurd (show p ∈ ([] : List (Addr × Obj)) from hp) (by simp), e0.hok.kept hk, ?_⟩
  · exact name_of_addr x.apart (PySem.mem_of_lookup h1) (PySem.mem_of_lookup h2)
  · have hy : scope.names.lookup y = some .cell ∨ scope.names.lookup y = some .free := hy
    rcases hy with hy | hy
    · exact cell_has hy
    · exact absurd rfl (S.nofree _ (PySem.mem_of_lookup hy))
  · exact Nat.le_of_lt (x.above y c (PySem.mem_of_lookup h))
  · have hi : i < vs.length := by
      unfold start at h2
      by_cases hi : i < vs.length
      · exact hi
      · rw [List.getElem?_append_right (by simpa using hi)] at h2
        rw [List.getElem?_replicate] at h2
        split at h2 <;> cases h2
    have ha : vs[i]? = some v := by
      unfold start at h2
      rw [List.getElem?_append_left (by simpa using hi), List.getElem?_map] at h2
      cases e : vs[i]? with
      | none => rw [e] at h2; cases h2
      | some a => rw [e] at h2; cases h2; rfl
    obtain ⟨u, hu, rv⟩ := r.get ha
    have hp : ps[i]? = some y := by
      rw [← S.pre, List.getElem?_take_of_lt (by omega)]; exact h1
    have ndP : ps.Nodup := by rw [← S.pre]; exact S.nd.sublist (List.take_sublist _ _)
    refine ⟨u, rv, ?_⟩
    rcases S.par y (List.mem_of_getElem? hp) with k | k
    · exact .inl ⟨k, bindL_get ndP hp hu k⟩
    · obtain ⟨c, e⟩ := cell_has (n := s.heap.objs.size + 1) k
      refine .inr ⟨.inl k, c, e, ?_⟩
      have q := x.cell y c e
      rw [bindC_get ndP hp hu (by show scope.names.lookup y ≠ _; rw [k]; decide)] at q
      exact q
  · exact e0.hok.fresh (Nat.le_of_lt (x.above y c (PySem.mem_of_lookup h)))
  · unfold start
    show _ = N.length
    rw [List.length_append, List.length_map, List.length_replicate]
    omega

/-- THE RULE: a def (or a method) of the text, by its body. The body's reading t is chosen for each entry; it is run at the parameters' values -/
theorem fn_of {CX : CXT} {P : Program} {w : World} {K : PySem.W.Frag} {mg : Str → Option Value} {base : Heap} {k : Nat} {f : Addr} {name qual : Str} {params : Arguments} {body : List Stmt} {scope : Scope} {dV kV doc pm cdv ct oc : Value} {an od : Option Addr}
    {osl : Array (Option Value)} {N ps : List Str} {sp : Sp} (lk : K.lookup f = some ⟨oc, od, .func (PySem.W.fnOf name qual params body scope dV kV doc pm an cdv ct), osl⟩) (hcd : PySem.W.codeIn K cdv qual = true) (S : FnScope N ps scope)
    (len : ∀ vs H Q E, sp vs H Q E → vs.length = ps.length)
    (hbody : ∀ (A : Around) (outer : List Env) (s : Shared) (H : Hp) (vs : List V) (Q : VK) (E : XK), Room k (A.deeper (envOfC qual scope s.heap.objs.size f cdv)) → sp vs H Q E →
      ∃ t, PSs (cxOf CX P w K mg base N qual scope f cdv A outer s H E) body t ∧ t { nx := fun _ H' => Q .non H', rt := Q } (start N vs) H) :
    FnOk P w K mg base CX (k + 1) f (PySem.W.fnOf name qual params body scope dV kV doc pm an cdv ct) ps sp := by
  refine ⟨len, fun A outer s H args us vs Q E hr e0 hb r hsp => ?_⟩
  have hl := len _ _ _ _ hsp
  have KX : K.In s.heap := e0.mod.kin.keeps fun b o e => (e0.bs b o e).1
  have lim : s.heap.NoLimit := e0.mod.nolimit.keeps fun b o e => (e0.bs b o e).1
  have hkind : ∀ y ∈ ps.zip us, scope.names.lookup y.1 = some .local ∨ (scope.names.lookup y.1 = some .cell ∧ ((cellsFrom (s.heap.objs.size + 1) scope.names []).lookup y.1).isSome = true) := fun ⟨n, v⟩ hy => by
    rcases S.par n (List.of_mem_zip hy).1 with q | q
    · exact .inl q
    · exact .inr ⟨q, PySem.W.cellsFrom_some _ _ _ (.inl q)⟩
  refine codeAny_call_function hr.depth (KX _ _ lk) rfl S.co S.gen rfl (PySem.W.codeRec_of KX hcd) (hb _ _ _ _ ?_)
  refine wpAny_newFunctionEnv_cells S.kind hkind fun env he s1 x => ?_
  subst he
  refine ⟨lim.keeps x.toInCall.keep, codeAny_func ?_⟩
  obtain ⟨t, ht, hq⟩ := hbody A outer s H vs Q E (hr.deeper _) hsp
  have I : Inv (cxOf CX P w K mg base N qual scope f cdv A outer s H E) [] (start N vs) H s1 := inv_start S hr.hd e0 hl r x
  refine wpAny_mono (ht [] s1 (start N vs) H _ I hq) (fun fl s' hs => ?_) fun e s' hs => hs
  have fin : ∀ {σ' : St} {H' : Hp} {v : V} {u : Value}, Inv (cxOf CX P w K mg base N qual scope f cdv A outer s H E) [] σ' H' s' → RelV v u → Q v H' → CE outer P w H s Q u s' :=
    fun {σ' H' v u} J rv q => ⟨v, H', J.os, J.bare, J.base, J.hok, rv, q⟩
  cases fl with
  | ret u =>
    obtain ⟨v, σ', H', J, rv, q⟩ := hs
    exact fin J rv q
  | next =>
    obtain ⟨σ', H', J, q⟩ := hs
    exact fin (v := V.non) (u := Value.none) J rfl q
  | brk =>
    obtain ⟨_, _, _, q⟩ := hs
    exact False.elim q
  | cont =>
    obtain ⟨_, _, _, q⟩ := hs
    exact False.elim q
end L2

namespace L2
open PySem PySem.Spec PyProof.Rows
section
variable {X : Cx} {x : Str} {p pos : Pos} {e : Expr} {es : List Expr} {t : TA} {id T : String} {r : List V → Hp → VK → Prop}

def tCB (r : List V → Hp → VK → Prop) (t : TA) : TE := fun σ H Q => t σ H fun vs H1 => r vs H1 Q
/-- f(e, ..), f a built-in function -/
theorem pe_callB (hc : CallR X (.builtin id) r) (hg : Gl X x) (hm : X.mg x = none) (hv : bootBuiltins x = some (.builtin id)) (ha : PA X (e :: es) t) (hn : x ≠ "__name__" := by decide) (hdb : (x == ("__debug__" : Str)) = false := by decide)
    (he : starEach (e :: es) X.env = (false, eval e X.env) :: starEach es X.env := by rfl) (hpl : (backTo pos (starEach es X.env)).any (·.1) = false := by rfl) : PE X (.Call (.Name x p) (e :: es) [] pos) (tCB r t) := by
  intro pins s σ H Q I h
  refine wpAny_Call_Name_kw (ld_blt I hg hm hv ?_ hn hdb)
  exact PyProof.Rows.callWith_builtin1 (thn (ha pos pins s σ H _ I h) fun us s1 ⟨vs, H1, I1, r1, q1⟩ => hc pins s1 σ H1 vs us Q I1 r1 q1) he hpl
/-- T(e, ..), T a built-in type -/
theorem pe_callTy (hc : CallR X (.type T) r) (hg : Gl X x) (hm : X.mg x = none) (hv : bootBuiltins x = some (.type T)) (ha : PA X (e :: es) t) (hn : x ≠ "__name__" := by decide) (hdb : (x == ("__debug__" : Str)) = false := by decide)
    (he : starEach (e :: es) X.env = (false, eval e X.env) :: starEach es X.env := by rfl) (hpl : (backTo pos (starEach es X.env)).any (·.1) = false := by rfl) : PE X (.Call (.Name x p) (e :: es) [] pos) (tCB r t) := by
  intro pins s σ H Q I h
  refine wpAny_Call_Name_kw (ld_blt I hg hm hv ?_ hn hdb)
  exact PyProof.Rows.callWith_type1 (thn (ha pos pins s σ H _ I h) fun us s1 ⟨vs, H1, I1, r1, q1⟩ => hc pins s1 σ H1 vs us Q I1 r1 q1) he hpl
end
end L2

namespace HT
open PySem PyProof.Rows

section
open PySem.SeqAt
open PySem.AutoSeq1 (wpAny_loadPart')
open PySem.MeetsSeq PySem.MeetsSeq2 PySem.MeetsSeq3

end

section
variable {prog : Program} {w : World} {A : Around} {E : Value → Shared → Prop} {s : Shared}

/-- t + u, t not empty -/
theorem cat_tup {t b : Addr} {vs ws : List Value} {Q : Value → Shared → Prop} (ht : IsTup s.heap t vs.toArray) (hb : IsTup s.heap b ws.toArray) (hv : vs ≠ [])
    (h1 : ws = [] → Q (.ref t) s) (h2 : ws ≠ [] → Q (.ref s.heap.objs.size) { s with heap := s.heap.push { cls := .type "tuple", data := .seq (vs ++ ws).toArray } })
    (hsz : vs.length + ws.length ≤ sizeLine) : wpAny (model prog w) A (binaryOp .Add (.ref t) (.ref b)) Q E s := by
  obtain ⟨⟨cls, dd, data, sl⟩, ho, hc, n, hd⟩ := id ht
  obtain ⟨⟨cls2, dd2, data2, sl2⟩, ho2, hc2, n2, hd2⟩ := id hb
  simp only at hc hd hc2 hd2
  subst hc hd hc2 hd2
  have e : vs.toArray ++ ws.toArray = (vs ++ ws).toArray := by simp
  by_cases hw : ws = []
  · exact concat_meets ⟨_, ho, rfl⟩ ⟨_, ho2, rfl⟩ noFill_tuple_add seq_tuple_add PySem.F.slot_tuple_add PySem.F.entry_tuple_add (PySem.F.args_tuple_add_2 _ _)
      (tuple_addW1 t b vs.toArray ws.toArray n n2 dd dd2 sl sl2 (by simpa using hv) (by simp [hw])) ⟨ho, ho2, h1 hw⟩
  · refine concat_meets ⟨_, ho, rfl⟩ ⟨_, ho2, rfl⟩ noFill_tuple_add seq_tuple_add PySem.F.slot_tuple_add PySem.F.entry_tuple_add (PySem.F.args_tuple_add_2 _ _)
      (tuple_addW2 t b vs.toArray ws.toArray n n2 dd dd2 sl sl2 (by simpa using hv) (by simpa using hw) (by rw [List.size_toArray, List.size_toArray]; exact hsz)) ⟨ho, ho2, ?_⟩
    rw [e]
    exact h2 hw

/-! ### t[a:b], not the whole -/
/-- a slice's bound as a place among n (d where it is left out) -/
def sIx (n d : Nat) : Option Int → Nat
  | none => d
  | some v => if v < 0 then (v + (n : Int)).toNat else min v.toNat n
end
end HT

namespace L2
open PySem PySem.Spec PyProof.Rows

/-! ### the parts of a slice -/
abbrev TO := St → Hp → (Option Int → Hp → Prop) → Prop
/-- a slice's part (left out, or an int) -/
def PO (X : Cx) (e : Option Expr) (t : TO) : Prop :=
  ∀ (pins : List (Addr × Obj)) (s : Shared) (σ : St) (H : Hp) (Q : Option Int → Hp → Prop), Inv X pins σ H s → t σ H Q →
    wpAny (model X.prog X.w) X.A (evalPart e X.env) (fun u s' => ∃ o H', Inv X pins σ H' s' ∧ IsPart u o ∧ Q o H') X.xe s
def tNoPart : TO := fun _ H Q => Q none H
def tPart (t : TE) : TO := fun σ H Q => t σ H fun x H1 => ∃ i, x = .int i ∧ Q (some i) H1

section
variable {X : Cx} {e : Expr} {te : TE} {lo hi : Option Expr} {tl th : TO} {pos p2 : Pos}

theorem po_none : PO X none tNoPart := by
  intro pins s σ H Q I h
  rw [evalPart_none]
  exact wpAny_pure ⟨none, H, I, .none, h⟩
theorem po_some (h : PE X e te) : PO X (some e) (tPart te) := by
  intro pins s σ H Q I hw
  rw [evalPart_some]
  refine thn (h pins s σ H _ I hw) fun u s1 ⟨x, H1, I1, r1, q1⟩ => ?_
  obtain ⟨i, rfl, q⟩ := q1
  obtain ⟨t, rfl⟩ := r1
  exact ⟨some i, H1, I1, .int i t, q⟩

/-- what a slice of a value is, by values: the slice object stands at sl -/
def SlR (X : Cx) (r : V → Option Int → Option Int → Hp → VK → Prop) : Prop :=
  ∀ (pins : List (Addr × Obj)) (s : Shared) (σ : St) (H : Hp) (x : V) (v vl vu : Value) (lo hi : Option Int) (sl : Addr) (Q : VK), Inv X pins σ H s → RelV x v → s.heap.IsSliceOf sl vl vu .none → IsPart vl lo → IsPart vu hi → r x lo hi H Q →
    ∃ T id, typeLookup (.type T) "__getitem__" = pure (some (.builtin id)) ∧ s.TypeIs v T ∧ wpAny (model X.prog X.w) X.A (getItem v (.ref sl)) (EP X pins σ Q) X.xe s
def tSl (r : V → Option Int → Option Int → Hp → VK → Prop) (te : TE) (tl th : TO) : TE := fun σ H Q => te σ H fun x H1 => tl σ H1 fun l H2 => th σ H2 fun u H3 => r x l u H3 Q
/-- a[lo:hi], any a -/
theorem pe_slice {r : V → Option Int → Option Int → Hp → VK → Prop} (hr : SlR X r) (he : PE X e te) (hl : PO X lo tl) (hu : PO X hi th) : PE X (.Subscript e (.Slice lo hi none p2) pos) (tSl r te tl th) := by
  intro pins s σ H Q I h
  refine Subscript_ (thn (he pins s σ H _ I h) fun v s1 ⟨x, H1, I1, r1, q1⟩ => ?_)
  refine wpAny_Slice (thn (hl pins s1 σ H1 _ I1 q1) fun vl s2 ⟨l, H2, I2, pl, q2⟩ => thn (hu pins s2 σ H2 _ I2 q2) fun vu s3 ⟨u, H3, I3, pu, q3⟩ => ?_)
  rw [evalPart_none]
  refine wpAny_pure ?_
  have I4 : Inv X pins σ H3 { s3 with heap := s3.heap.push { cls := .type "slice", data := .fields #[vl, vu, .none] } } := I3.kept (t' := s3.toks) fun b ob q => Heap.get?_push_of_some _ q
  obtain ⟨T, id, hT, ht, hg⟩ := hr pins { s3 with heap := s3.heap.push { cls := .type "slice", data := .fields #[vl, vu, .none] } } σ H3 x v vl vu l u s3.heap.objs.size Q I4 r1 (Heap.IsSliceOf.new ..) pl pu q3
  show wpAny (model X.prog X.w) X.A (subscriptTail e (.Slice lo hi none p2) v (.ref s3.heap.objs.size)) (EP X pins σ Q) X.xe { s3 with heap := s3.heap.push { cls := .type "slice", data := .fields #[vl, vu, .none] } }
  exact tail_any (ops := [.ref s3.heap.objs.size, v]) ht hT hg (by with_unfolding_all rfl)

/-- the items of xs[lo:hi] -/
def cutV (xs : List V) (lo hi : Option Int) : List V := (xs.drop (HT.sIx xs.length 0 lo)).take (HT.sIx xs.length xs.length hi - HT.sIx xs.length 0 lo)
theorem cutV_length (xs : List V) (lo hi : Option Int) : (cutV xs lo hi).length ≤ xs.length := by
  unfold cutV
  rw [List.length_take, List.length_drop]
  omega
/-! ### t < u, t + u -/
theorem Vals.nil_iff {xs : List V} {us : List Value} (r : Vals xs us) : us = [] ↔ xs = [] := by
  cases r with
  | nil => simp
  | cons _ _ => simp
end
end L2

namespace L2
open PySem PySem.Spec PyProof.Rows

/-! ### places -/
/-- the place that an index of any sign means -/
def ixN (n : Nat) (i : Int) : Option Nat := if 0 ≤ i then (if i < n then some i.toNat else none) else if -(n : Int) ≤ i then some (i + n).toNat else none
def atI {α : Type} (xs : List α) (i : Int) : Option α := (ixN xs.length i).bind fun j => xs[j]?
theorem ixN_seq {n : Nat} {i : Int} {j : Nat} (h : ixN n i = some j) : seqIndex? i n = some j ∧ j < n ∧ -(n : Int) ≤ i ∧ i < n := by
  unfold ixN at h
  by_cases h0 : 0 ≤ i
  · rw [if_pos h0] at h
    by_cases h1 : i < n
    · rw [if_pos h1] at h
      have e : i.toNat = j := Option.some.inj h
      exact ⟨by rw [seqIndex_of h0 h1, e], by omega, by omega, h1⟩
    · rw [if_neg h1] at h; cases h
  · rw [if_neg h0] at h
    by_cases h1 : -(n : Int) ≤ i
    · rw [if_pos h1] at h
      have e : (i + n).toNat = j := Option.some.inj h
      exact ⟨by rw [seqIndex_neg (by omega) h1, e], by omega, h1, by omega⟩
    · rw [if_neg h1] at h; cases h
theorem atI_get {α : Type} {xs : List α} {i : Int} {v : α} (h : atI xs i = some v) : ∃ j, seqIndex? i xs.length = some j ∧ xs[j]? = some v ∧ j < xs.length ∧ -(xs.length : Int) ≤ i ∧ i < xs.length := by
  unfold atI at h
  cases e : ixN xs.length i with
  | none => rw [e] at h; cases h
  | some j =>
    rw [e] at h
    obtain ⟨h1, h2, h3, h4⟩ := ixN_seq e
    exact ⟨j, h1, h, h2, h3, h4⟩
theorem atI_nat {α : Type} {xs : List α} {j : Nat} {v : α} (h : xs[j]? = some v) : atI xs (j : Int) = some v := by
  have hj : j < xs.length := (List.getElem?_eq_some_iff.mp h).1
  have e : ixN xs.length (j : Int) = some j := by
    unfold ixN
    rw [if_pos (by omega), if_pos (by omega)]; simp
  unfold atI; rw [e]; exact h
/-! ### what may be subscripted -/
/-- what stands as an index of a plain subscript -/
def PlainIx (b : Expr) : Prop := ∀ o i, subscripted b false o i = operate [o, i] (getItem o i)
/-- a subscript by values -/
def IxR (X : Cx) (r : R2) : Prop :=
  ∀ (value slice : Expr) (pins : List (Addr × Obj)) (s : Shared) (σ : St) (H : Hp) (x y : V) (v u : Value) (Q : VK), Inv X pins σ H s → RelV x v → RelV y u → r x y H Q →
    subscripted slice false v u = operate [v, u] (getItem v u) → wpAny (model X.prog X.w) X.A (subscriptTail value slice v u) (EP X pins σ Q) X.xe s
/-- a call of a builtin's method by values: the receiver, the arguments -/
def MtR (X : Cx) (id : String) (r : V → List V → Hp → VK → Prop) : Prop :=
  ∀ (pins : List (Addr × Obj)) (s : Shared) (σ : St) (H : Hp) (x : V) (xs : List V) (v : Value) (us : List Value) (Q : VK), Inv X pins σ H s → RelV x v → Vals xs us → r x xs H Q →
    wpAny (model X.prog X.w) X.A (call (.builtin id) (v :: us)) (EP X pins σ Q) X.xe s
section
variable {X : Cx} {a b : Expr} {ta tb : TE} {pos : Pos}
/-- a[b] -/
theorem pe_ix {r : R2} (hr : IxR X r) (ha : PE X a ta) (hb : PE X b tb) (hs : PlainIx b) : PE X (.Subscript a b pos) (tOp r ta tb) := by
  intro pins s σ H Q I h
  exact Subscript_ (binT ha hb I h fun v u s2 x y H2 I2 rx ry q => hr a b pins s2 σ H2 x y v u Q I2 rx ry q (hs _ _))

def rIxL (K : PySem.W.Frag) : R2 := fun x y H Q => ∃ p xs i v, x = .ref p ∧ y = .int i ∧ SqL K H p xs ∧ atI xs i = some v ∧ Q v H
def rIxT (K : PySem.W.Frag) : R2 := fun x y H Q => ∃ p xs i v, x = .ref p ∧ y = .int i ∧ SqT K H p xs ∧ atI xs i = some v ∧ Q v H
theorem ix_list : IxR X (rIxL X.K) := by
  intro value slice pins s σ H x y v u Q I rx ry h hs
  obtain ⟨p, xs, i, z, rfl, rfl, hq, he, q⟩ := h
  cases rx
  obtain ⟨t, rfl⟩ := ry
  obtain ⟨its, r, pl, hz⟩ := I.list hq
  obtain ⟨j, h1, h2, h3, h4, h5⟩ := atI_get he
  obtain ⟨w, ew, rw'⟩ := r.get h2
  have hl := r.length
  have hn := line63
  have fin : EP X pins σ Q w s := ⟨z, H, I, rw', q⟩
  by_cases h0 : 0 ≤ i
  · have hj : i.toNat = j := by
      rw [seqIndex_of h0 h5] at h1
      exact Option.some.inj h1
    exact item_listR pl.isList h0 (by omega) (by rw [hj]; simpa using ew) fin hs
  · have hj : (i + (its.toArray.size : Int)).toNat = j := by
      rw [seqIndex_neg (by omega) h4] at h1
      rw [List.size_toArray, ← hl]
      exact Option.some.inj h1
    exact subscriptTail_builtinR (x := w) pl.isList.typeIs slot_list_getitem.lookup
      (wpAny_getItem_list_neg (Q := fun r s' => r = w ∧ EP X pins σ Q r s') pl.isList (by omega) (by rw [List.size_toArray] <;> omega) (by omega) (by rw [hj]; simpa using ew) ⟨rfl, fin⟩) hs
theorem ix_tup : IxR X (rIxT X.K) := by
  intro value slice pins s σ H x y v u Q I rx ry h hs
  obtain ⟨p, xs, i, z, rfl, rfl, hq, he, q⟩ := h
  cases rx
  obtain ⟨t, rfl⟩ := ry
  obtain ⟨its, r, pl, hz⟩ := I.tuple hq
  obtain ⟨j, h1, h2, h3, h4, h5⟩ := atI_get he
  obtain ⟨w, ew, rw'⟩ := r.get h2
  have hl := r.length
  have hn := line63
  have fin : EP X pins σ Q w s := ⟨z, H, I, rw', q⟩
  exact subscriptTail_builtinR (x := w) pl.typeIs slot_tuple_getitem.lookup
    (getItem_tuple (j := j) (Q := fun r s' => r = w ∧ EP X pins σ Q r s') pl (by omega) (by omega) (by rw [List.size_toArray, ← hl]; exact h1) (by simpa using ew) ⟨rfl, fin⟩) hs
/-! ### xs[i] = v, any sign -/
/-! ### slices -/
theorem slice_bounds (lo hi : Option Int) (n : Nat) : (sliceBounds lo hi none n).1 = ((HT.sIx n 0 lo : Nat) : Int) ∧ (sliceBounds lo hi none n).2.1 = ((HT.sIx n n hi : Nat) : Int) ∧ (sliceBounds lo hi none n).2.2 = 1 := by
  refine ⟨?_, ?_, rfl⟩
  · cases lo with
    | none => simp [sliceBounds, HT.sIx]
    | some i =>
      simp only [sliceBounds, HT.sIx, Option.getD_none, show (1 : Int) > 0 by decide, if_true]
      by_cases h : i < 0
      · simp only [h, if_true] <;> omega
      · simp only [h, if_false] <;> omega
  · cases hi with
    | none => simp [sliceBounds, HT.sIx]
    | some i =>
      simp only [sliceBounds, HT.sIx, Option.getD_none, show (1 : Int) > 0 by decide, if_true]
      by_cases h : i < 0
      · simp only [h, if_true] <;> omega
      · simp only [h, if_false] <;> omega
theorem slicePick_cut (its : List Value) (lo hi : Option Int) : slicePick its.toArray lo hi none = ((its.drop (HT.sIx its.length 0 lo)).take (HT.sIx its.length its.length hi - HT.sIx its.length 0 lo)).toArray := by
  obtain ⟨h1, h2, h3⟩ := slice_bounds lo hi its.toArray.size
  unfold slicePick
  rw [h1, h2, h3]
  simp only [sliceRange_one, pick_run, List.size_toArray] <;> rfl
/-- xs[lo:hi] of a list: a new list -/
def rSlL (K : PySem.W.Frag) : V → Option Int → Option Int → Hp → VK → Prop := fun x lo hi H Q => ∃ a xs, x = .ref a ∧ SqL K H a xs ∧ ∀ p, H p = none → Q (.ref p) (upd H p (.lst (cutV xs lo hi)))
theorem sl_list : SlR X (rSlL X.K) := by
  intro pins s σ H x v vl vu lo hi sl Q I rx hs pl pu h
  obtain ⟨a, xs, rfl, hx, q⟩ := h
  cases rx
  obtain ⟨its, r, ht, hz⟩ := I.list hx
  have hlen := r.length
  refine ⟨"list", _, slot_list_getitem.lookup, ht.isList.typeIs, ?_⟩
  refine wpAny_getItem_list_slice ht.isList hs pl pu .none (by simp) ?_ (by rw [List.size_toArray] <;> omega)
  rw [slicePick_cut, ← hlen]
  refine ⟨.ref s.heap.objs.size, _, I.laid (t' := s.toks) (o := .lst (cutV xs lo hi)) (fun b ob q => Heap.get?_push_of_some _ q) (Nat.le_refl _) ?_, rfl, q _ (I.hok.fresh (Nat.le_refl _))⟩
  exact ⟨Nat.le_trans (cutV_length xs lo hi) hz, _, 0, (r.drop (HT.sIx xs.length 0 lo)).take (HT.sIx xs.length xs.length hi - HT.sIx xs.length 0 lo), Heap.get?_push_size _ rfl⟩

/-! ### in, not in: flat items -/
def flatV : V → Bool
  | .non => true
  | .bl _ => true
  | .int _ => true
  | .str _ => true
  | _ => false
/-- == of flat values -/
def eqV : V → V → Bool
  | .non, .non => true
  | .bl a, .bl b => a == b
  | .bl a, .int b => (if a then 1 else 0) == b
  | .int a, .bl b => a == (if b then 1 else 0)
  | .int a, .int b => a == b
  | .str a, .str b => a == b
  | _, _ => false
theorem eqAt_V {A : Around} {s : Shared} {y x : V} {u v : Value} (ry : RelV y u) (rx : RelV x v) (fy : flatV y = true) (fx : flatV x = true) : SeqAt.EqAt A s u v (eqV y x) := by
  cases y with
  | non =>
    cases ry
    cases x with
    | non => cases rx; exact SeqAt.EqAt.same _
    | bl b => cases rx; exact SeqAt.EqAt.none_bool b
    | int b => obtain ⟨t, rfl⟩ := rx; exact SeqAt.EqAt.none_int b t
    | str b => obtain ⟨t, rfl⟩ := rx; exact SeqAt.EqAt.none_str b t
    | _ => exact absurd (show false = true from fx) Bool.false_ne_true
  | bl a =>
    cases ry
    cases x with
    | non => cases rx; exact SeqAt.EqAt.bool_none a
    | bl b => cases rx; exact SeqAt.EqAt.bool_bool a b
    | int b => obtain ⟨t, rfl⟩ := rx; exact SeqAt.EqAt.bool_int a b t
    | str b => obtain ⟨t, rfl⟩ := rx; exact SeqAt.EqAt.bool_str a b t
    | _ => exact absurd (show false = true from fx) Bool.false_ne_true
  | int a =>
    obtain ⟨t', rfl⟩ := ry
    cases x with
    | non => cases rx; exact SeqAt.EqAt.int_none a t'
    | bl b => cases rx; exact SeqAt.EqAt.int_bool a t' b
    | int b => obtain ⟨t, rfl⟩ := rx; exact SeqAt.EqAt.int_int a t' b t
    | str b => obtain ⟨t, rfl⟩ := rx; exact SeqAt.EqAt.int_str a t' b t
    | _ => exact absurd (show false = true from fx) Bool.false_ne_true
  | str a =>
    obtain ⟨t', rfl⟩ := ry
    cases x with
    | non => cases rx; exact SeqAt.EqAt.str_none a t'
    | bl b => cases rx; exact SeqAt.EqAt.str_bool a t' b
    | int b => obtain ⟨t, rfl⟩ := rx; exact SeqAt.EqAt.str_int a t' b t
    | str b => obtain ⟨t, rfl⟩ := rx; exact SeqAt.EqAt.str_str a t' b t
    | _ => exact absurd (show false = true from fx) Bool.false_ne_true
  | _ => exact absurd (show false = true from fy) Bool.false_ne_true
/-- the items' answers, read off the values (a value's own answer does not lean on its token) -/
def eqU (x : V) (u : Value) : Bool := match u with
  | .none => eqV .non x
  | .bool b => eqV (.bl b) x
  | .int i _ => eqV (.int i) x
  | .str z _ => eqV (.str z) x
  | _ => false
theorem eqU_of {x y : V} {u : Value} (r : RelV y u) (f : flatV y = true) : eqU x u = eqV y x := by
  cases y with
  | non => cases r; rfl
  | bl b => cases r; rfl
  | int i => obtain ⟨t, rfl⟩ := r; rfl
  | str z => obtain ⟨t, rfl⟩ := r; rfl
  | _ => exact absurd (show false = true from f) Bool.false_ne_true
theorem any_eqU {x : V} : ∀ {xs : List V} {us : List Value}, Vals xs us → xs.all flatV = true → us.any (eqU x) = xs.any fun y => eqV y x
  | _, _, .nil, _ => rfl
  | y :: xs, u :: us, .cons r t, f => by
    rw [List.all_cons, Bool.and_eq_true] at f
    rw [List.any_cons, List.any_cons, eqU_of r f.1, any_eqU t f.2]
theorem mem_eqAt {A : Around} {s : Shared} {x : V} {v : Value} (rx : RelV x v) (fx : flatV x = true) : ∀ {xs : List V} {us : List Value}, Vals xs us → xs.all flatV = true → ∀ u ∈ us, SeqAt.EqAt A s u v (eqU x u)
  | _, _, .nil, _ => fun u hu => by cases hu
  | y :: xs, u :: us, .cons r t, f => fun u' hu => by
    rw [List.all_cons, Bool.and_eq_true] at f
    rcases List.mem_cons.mp hu with rfl | hu
    · rw [eqU_of r f.1]; exact eqAt_V r rx f.1 fx
    · exact mem_eqAt rx fx t f.2 u' hu
def inV (x : V) (xs : List V) : Bool := xs.any fun y => eqV y x
/-- x in a list or tuple of flat items -/
def rIn (K : PySem.W.Frag) (neg : Bool) : R2 := fun x y H Q => ∃ p xs, y = .ref p ∧ (SqL K H p xs ∨ SqT K H p xs) ∧ flatV x = true ∧ xs.all flatV = true ∧ Q (.bl (if neg then !inV x xs else inV x xs)) H
theorem op_in_seq : OpR X (compareOp .In) (rIn X.K false) := by
  intro pins s σ H x y v u Q I rx ry h
  obtain ⟨p, xs, rfl, hq, fx, fs, q⟩ := h
  cases ry
  rcases hq with hq | hq
  · obtain ⟨its, r, pl, hz⟩ := I.list hq
    refine SeqAt.in_listAt (eqU x) pl.isList (fun w hw => mem_eqAt rx fx r fs w (by simpa using hw)) ⟨.bl _, H, I, rfl, ?_⟩
    rw [show its.toArray.any (eqU x) = its.any (eqU x) by simp, any_eqU r fs]
    exact q
  · obtain ⟨its, r, pl, hz⟩ := I.tuple hq
    refine SeqAt.in_tupleAt (eqU x) pl (fun w hw => mem_eqAt rx fx r fs w (by simpa using hw)) ⟨.bl _, H, I, rfl, ?_⟩
    rw [show its.toArray.any (eqU x) = its.any (eqU x) by simp, any_eqU r fs]
    exact q
theorem op_notIn_seq : OpR X (compareOp .NotIn) (rIn X.K true) := by
  intro pins s σ H x y v u Q I rx ry h
  obtain ⟨p, xs, rfl, hq, fx, fs, q⟩ := h
  cases ry
  rcases hq with hq | hq
  · obtain ⟨its, r, pl, hz⟩ := I.list hq
    refine SeqAt.notIn_listAt (eqU x) pl.isList (fun w hw => mem_eqAt rx fx r fs w (by simpa using hw)) ⟨.bl _, H, I, rfl, ?_⟩
    rw [show its.toArray.any (eqU x) = its.any (eqU x) by simp, any_eqU r fs]
    exact q
  · obtain ⟨its, r, pl, hz⟩ := I.tuple hq
    refine SeqAt.notIn_tupleAt (eqU x) pl (fun w hw => mem_eqAt rx fx r fs w (by simpa using hw)) ⟨.bl _, H, I, rfl, ?_⟩
    rw [show its.toArray.any (eqU x) = its.any (eqU x) by simp, any_eqU r fs]
    exact q
/-! ### len, list(x), tuple(x) of any list or tuple that is read -/
theorem call_len_seq : CallR X (.builtin "len") (fun xs H Q => ∃ p ys, xs = [.ref p] ∧ (SqL X.K H p ys ∨ SqT X.K H p ys) ∧ Q (.int ys.length) H) := by
  intro pins s σ H xs us Q I r h
  obtain ⟨p, ys, rfl, hq, q⟩ := h
  obtain ⟨u, rfl, rx⟩ := vals1 r
  cases rx
  have hn := line63
  rcases hq with hq | hq
  · obtain ⟨its, r', pl, hz⟩ := I.list hq
    have hlen := r'.length
    exact Calls.call_len_list pl.isList (by simp only [List.size_toArray] <;> omega) ⟨.int ys.length, H, I.tok _, ⟨s.toks + 1, by rw [List.size_toArray, hlen]⟩, q⟩
  · obtain ⟨its, r', pl, hz⟩ := I.tuple hq
    have hlen := r'.length
    exact len_tuple pl (by simp only [List.size_toArray] <;> omega) ⟨.int ys.length, H, I.tok _, ⟨s.toks + 1, by rw [List.size_toArray, hlen]⟩, q⟩
theorem call_len_str : CallR X (.builtin "len") (fun xs H Q => ∃ z, xs = [.str z] ∧ z.length ≤ sizeLine ∧ Q (.int z.length) H) := by
  intro pins s σ H xs us Q I r h
  obtain ⟨z, rfl, hz, q⟩ := h
  obtain ⟨u, rfl, t, rfl⟩ := vals1 r
  have hn := line63
  exact len_str (by omega) ⟨.int z.length, H, I.tok _, ⟨_, rfl⟩, q⟩
theorem call_tuple_of : CallR X (.type "tuple") (fun xs H Q => ∃ p ys, xs = [.ref p] ∧ ((SqL X.K H p ys ∧ ∀ l, H l = none → Q (.ref l) (upd H l (.tup ys))) ∨ (SqT X.K H p ys ∧ Q (.ref p) H))) := by
  intro pins s σ H xs us Q I r h
  obtain ⟨p, ys, rfl, h⟩ := h
  obtain ⟨u, rfl, rx⟩ := vals1 r
  cases rx
  rcases h with ⟨hq, q⟩ | ⟨hq, q⟩
  · obtain ⟨its, r', pl, hz⟩ := I.list hq
    have hlen := r'.length
    refine call_tuple_list pl.isList (fun h' kp => ?_) (by simp only [List.size_toArray] <;> omega)
    have I1 : Inv X pins σ H { s with heap := h' } := I.kept (t' := s.toks) kp
    have I2 : Inv X pins σ (upd H h'.objs.size (.tup ys)) { s with heap := h'.push { cls := .type "tuple", data := .seq its.toArray } } :=
      I1.laid (t' := s.toks) (fun b o e => Heap.get?_push_of_some _ e) (Nat.le_refl _) (show ObjOk X.prog X.w _ _ _ (.tup ys) from ⟨hz, its, r', TupP.new _ _⟩)
    exact ⟨.ref h'.objs.size, _, I2, rfl, q _ (I1.hok.fresh (Nat.le_refl _))⟩
  · obtain ⟨its, r', pl, hz⟩ := I.tuple hq
    exact call_tuple_same pl ⟨.ref p, H, I, rfl, q⟩

/-! ### the call of a builtin's method: o.m(..) -/
/-- the value is of that builtin type -/
def tyV (K : PySem.W.Frag) (T : String) (x : V) (H : Hp) : Prop := match x with
  | .str _ => T = "str"
  | .int _ => T = "int"
  | .ref p => (T = "list" ∧ ∃ xs, SqL K H p xs) ∨ (T = "tuple" ∧ ∃ o, K.lookup p = some o ∧ o.cls = .type "tuple" ∧ o.dict = none) ∨
      (T = "dict" ∧ ((∃ kvs, H p = some (.dK kvs)) ∨ ∃ kvs, H p = some (.dT kvs))) ∨ (T = "set" ∧ ∃ S n, H p = some (.set S n))
  | _ => False
theorem tyV_is {pins : List (Addr × Obj)} {σ : St} {H : Hp} {s : Shared} {T : String} {x : V} {v : Value} (I : Inv X pins σ H s) (r : RelV x v) (ty : tyV X.K T x H) :
    s.TypeIs v T ∧ ∀ a, v = .ref a → ∃ ob, s.heap.get? a = some ob ∧ ob.dict = none := by
  cases x with
  | str z =>
    obtain ⟨t, rfl⟩ := r
    cases (show T = "str" from ty)
    exact ⟨typeIs_str s z t, fun _ e => nomatch e⟩
  | int i =>
    obtain ⟨t, rfl⟩ := r
    cases (show T = "int" from ty)
    exact ⟨typeIs_int s i t, fun _ e => nomatch e⟩
  | ref p =>
    cases r
    rcases ty with ⟨rfl, xs, hq⟩ | ⟨rfl, o, hk, hc, hd⟩ | ⟨rfl, hk⟩ | ⟨rfl, S, n, hk⟩
    · obtain ⟨its, _, pl, _⟩ := I.list hq
      refine ⟨pl.isList.typeIs, fun a e => ?_⟩
      cases e
      obtain ⟨o, n, e, c, hd, _⟩ := pl
      exact ⟨o, e, hd⟩
    · refine ⟨⟨o, I.kIn p o hk, hc⟩, fun a e => ?_⟩
      cases e
      exact ⟨o, I.kIn _ o hk, hd⟩
    · have z : ∃ o, s.heap.get? p = some o ∧ o.ExactDict := by
        rcases hk with ⟨kvs, hk⟩ | ⟨kvs, hk⟩
        · obtain ⟨_, _, _, _, o, _, _, e, ex, _⟩ := I.hok p _ hk
          exact ⟨o, e, ex⟩
        · obtain ⟨_, _, _, _, o, _, _, e, ex, _⟩ := I.hok p _ hk
          exact ⟨o, e, ex⟩
      obtain ⟨o, e, ex⟩ := z
      refine ⟨⟨o, e, ex.1⟩, fun a e2 => ?_⟩
      cases e2
      exact ⟨o, e, ex.2.1⟩
    · obtain ⟨o, _, _, _, e, ex, _⟩ := I.hok p _ hk
      refine ⟨⟨o, e, ex.1⟩, fun a e2 => ?_⟩
      cases e2
      exact ⟨o, e, ex.2.1⟩
  | _ => exact False.elim ty
def tBM (K : PySem.W.Frag) (T : String) (r : V → List V → Hp → VK → Prop) (to : TE) (t : TA) : TE := fun σ H Q => to σ H fun x H1 => tyV K T x H1 ∧ t σ H1 fun xs H2 => r x xs H2 Q
variable {o e : Expr} {es : List Expr} {to : TE} {t : TA} {name : Str} {apos cpos : Pos} {T id : String} {r : V → List V → Hp → VK → Prop}
theorem pe_bm (pa : PlainAttrs T) (slot : Slot T name id) (hty : typeOf (.builtin id) = pure (.type "method_descriptor")) (hm : MtR X id r) (ho : PE X o to) (ha : PA X (e :: es) t)
    (hbase : attributeBase o name X.env (eval o X.env) = eval o X.env := by rfl)
    (hfew : ((backTo cpos (starEach (e :: es) X.env)).all (fun x => !x.1) && (backToKw cpos (keywordEach [] X.env)).all (fun x => x.1.isSome)
      && decide ((e :: es).length + ([] : List Keyword).length + (if ([] : List Keyword).isEmpty then 0 else 1) < 30)) = true := by rfl)
    (hline : (apos.endLine == cpos.line) = true := by rfl) (hs : starEach (e :: es) X.env = (false, eval e X.env) :: starEach es X.env := by rfl) (hplain : (backTo cpos (starEach es X.env)).any (·.1) = false := by rfl) :
    PE X (.Call (.Attribute o name apos) (e :: es) [] cpos) (tBM X.K T r to t) := by
  intro pins s σ H Q I h
  refine wpAny_Call_method_late hbase hfew hline rfl (thn (ho pins s σ H _ I h) fun v s1 ⟨x, H1, I1, r1, ty, q1⟩ => ?_)
  obtain ⟨h1, h2⟩ := tyV_is I1 r1 ty
  refine ⟨T, id, pa, slot, hty, h1, h2, ?_⟩
  have hA := ha cpos pins s1 σ H1 _ I1 q1
  rw [hs] at hA ⊢
  refine Calls.callWith_builtin (by show (false || (backTo cpos (starEach es X.env)).any (·.1)) = false; rw [hplain] <;> rfl) (Calls.evalArgs_plain ?_)
  exact thn hA fun us s2 ⟨vs, H2, I2, r2, q2⟩ => hm pins s2 σ H2 x vs v us Q I2 r1 r2 q2
/- xs.append(e), list.index on a module's tuple .. are MtR facts of 06m -/
end
end L2

namespace L2
open PySem PySem.Spec PyProof.Rows

def MtM (X : Cx) (id : String) (r : V → List V → Hp → VK → Prop) : Prop :=
  ∀ (pins : List (Addr × Obj)) (s : Shared) (σ : St) (H : Hp) (x : V) (xs : List V) (v : Value) (us : List Value) (Q : VK), Inv X pins σ H s → RelV x v → Vals xs us → r x xs H Q →
    wpAny (model X.prog X.w) X.A (call (.builtin id) (v :: us)) (EP X pins σ Q) X.xe s

/-! ### lists of values -/
theorem Vals.one : ∀ {x : V} {us : List Value}, Vals [x] us → ∃ u, us = [u] ∧ RelV x u
  | _, _, .cons r .nil => ⟨_, rfl, r⟩
theorem Vals.two : ∀ {x y : V} {us : List Value}, Vals [x, y] us → ∃ u v, us = [u, v] ∧ RelV x u ∧ RelV y v
  | _, _, _, .cons r (.cons q .nil) => ⟨_, _, rfl, r, q⟩
section
variable {X : Cx} {pins : List (Addr × Obj)} {σ : St} {H : Hp} {s : Shared} {l b : Addr} {xs ys zs : List V}

/-! ### the two steps: a tracked list is rewritten, a new list is laid -/
theorem Inv.lset {its its' : List Value} {n : Nat} {f : Array Value → Array Value} {t' : Nat} (I : Inv X pins σ H s) (hH : H l = some (.lst xs))
    (e : s.heap.get? l = some { cls := .type "list", data := .seq its.toArray n }) (hf : f its.toArray = its'.toArray) (hv : Vals ys its') (hz : ys.length ≤ sizeLine) :
    Inv X pins σ (upd H l (.lst ys)) { s with heap := s.heap.update l (Obj.mapSeq f), toks := t' } := by
  have q := PySem.IsL.update e f
  rw [hf] at q
  refine I.write (x := l) (e := l) (by rw [hH]; exact trivial) (.inl rfl) (fun b' u hb hu => (Heap.get?_update_other s.heap (Obj.mapSeq f) (Ne.symm hb)).trans hu) ⟨_, q⟩ ?_
  exact ⟨hz, its', _, hv, q⟩
theorem Inv.lnew {its : List Value} {t' : Nat} (I : Inv X pins σ H s) (hv : Vals ys its) (hz : ys.length ≤ sizeLine) :
    Inv X pins σ (upd H s.heap.objs.size (.lst ys)) { s with heap := s.heap.push { cls := .type "list", data := .seq its.toArray }, toks := t' } :=
  I.laid (fun _ _ q => Heap.get?_push_of_some _ q) (Nat.le_refl _) ⟨hz, its, 0, hv, Heap.get?_push_size _ rfl⟩
theorem Inv.fresh (I : Inv X pins σ H s) : H s.heap.objs.size = none := I.hok.fresh (Nat.le_refl _)
theorem Inv.lstM (I : Inv X pins σ H s) (hH : H l = some (.lst xs)) : xs.length ≤ sizeLine ∧ ∃ (its : List Value) (n : Nat), Vals xs its ∧ xs.length = its.length ∧ s.heap.get? l = some { cls := .type "list", data := .seq its.toArray n } := by
  obtain ⟨z, its, n, r, e⟩ := I.hok l _ hH
  exact ⟨z, its, n, r, r.length, e⟩

theorem notLongL {n : Nat} (h : n ≤ sizeLine) : Builtin.List.listTooLong n = false := by
  unfold Builtin.List.listTooLong
  exact decide_eq_false (by omega)
end

section
variable {X : Cx}

/-! ### methods -/
def rAppend : V → List V → Hp → VK → Prop := fun x vs H Q => ∃ l xs y, x = .ref l ∧ vs = [y] ∧ H l = some (.lst xs) ∧ xs.length < sizeLine ∧ Q .non (upd H l (.lst (xs ++ [y])))
theorem mt_append : MtM X "list.append" rAppend := by
  intro pins s σ H x vs v us Q I rx rv h
  obtain ⟨l, xs, y, rfl, rfl, hH, hz, q⟩ := h
  cases rx
  obtain ⟨u, rfl, ru⟩ := rv.one
  obtain ⟨z, its, n, r, hl, e⟩ := I.lstM hH
  refine call_meets F.slot_list_append ⟨_, e, rfl⟩ F.entry_list_append (F.args_list_append_2 _ _) (PySem.list_append l its.toArray n u (by rw [List.size_toArray]; omega)) ⟨e, ?_⟩
  refine ⟨.non, _, I.lset (its' := its ++ [u]) hH e (by simp) (r.append (.cons ru .nil)) ?_, rfl, q⟩
  rw [List.length_append, List.length_singleton]
  omega

def rExtend : V → List V → Hp → VK → Prop := fun x vs H Q => ∃ l b xs zs, x = .ref l ∧ vs = [.ref b] ∧ H l = some (.lst xs) ∧ H b = some (.lst zs) ∧ xs.length + zs.length ≤ sizeLine ∧ Q .non (upd H l (.lst (xs ++ zs)))
theorem mt_extend : MtM X "list.extend" rExtend := by
  intro pins s σ H x vs v us Q I rx rv h
  obtain ⟨l, b, xs, zs, rfl, rfl, hH, hB, hz, q⟩ := h
  cases rx
  obtain ⟨u, rfl, ru⟩ := rv.one
  cases ru
  obtain ⟨z, its, n, r, hl, e⟩ := I.lstM hH
  obtain ⟨z2, its2, n2, r2, hl2, e2⟩ := I.lstM hB
  have hsz : its.toArray.size + its2.toArray.size ≤ sizeLine := by rw [List.size_toArray, List.size_toArray]; omega
  have hlong : ¬ (!its.toArray.isEmpty && Builtin.List.listTooLong (its.toArray.size + its2.toArray.size)) = true := by
    rw [notLongL hsz, Bool.and_false]
    exact Bool.false_ne_true
  refine call_meets F.slot_list_extend ⟨_, e, rfl⟩ F.entry_list_extend (F.args_list_extend_2 _ _)
    (AutoSeq1.list_extend_list_list_0 l its.toArray n b its2.toArray n2 hlong (by rw [List.size_toArray]; omega) (by omega)) ⟨e, e2, ?_⟩
  refine ⟨.non, _, I.lset (its' := its ++ its2) hH e (by simp) (r.append r2) ?_, rfl, q⟩
  rw [List.length_append]
  omega

/-! ### list + list, list += list, list * int -/
def rCat : R2 := fun x y H Q => ∃ l b xs zs, x = .ref l ∧ y = .ref b ∧ H l = some (.lst xs) ∧ H b = some (.lst zs) ∧ xs.length + zs.length ≤ sizeLine ∧ ∀ p, H p = none → Q (.ref p) (upd H p (.lst (xs ++ zs)))
theorem op_cat : OpR X (binaryOp .Add) rCat := by
  intro pins s σ H x y v u Q I rx ry h
  obtain ⟨l, b, xs, zs, rfl, rfl, hH, hB, hz, q⟩ := h
  cases rx
  cases ry
  obtain ⟨z, its, n, r, hl, e⟩ := I.lstM hH
  obtain ⟨z2, its2, n2, r2, hl2, e2⟩ := I.lstM hB
  refine PySem.P.add_list e e2 ?_ (by rw [List.size_toArray, List.size_toArray]; omega)
  have ea : its.toArray ++ its2.toArray = (its ++ its2).toArray := by simp
  rw [ea]
  exact ⟨.ref _, _, I.lnew (t' := s.toks) (r.append r2) (by rw [List.length_append]; omega), rfl, q _ I.fresh⟩
/-! ### del xs[i] -/
end

/-! ### xs[a:b] = ys -/
section
variable {prog : Program} {w : World} {A : Around} {E : Value → Shared → Prop} {s : Shared}
end

section
variable {X : Cx}
end
end L2

namespace Att
open PySem PySem.W PySem.Calls PyProof.Rows

/-! ### the script -/
theorem ints_of_wellAll {P : Params} {h : Heap} : ∀ (ns : List Int) (vs : List Value), WellAll P h vs (ns.map WData.int) → IntsAre vs ns := by
  intro ns
  induction ns with
  | nil =>
    intro vs w
    rw [List.map_nil] at w
    cases w
    exact .nil
  | cons n ns ih =>
    intro vs w
    rw [List.map_cons] at w
    cases w with
    | cons a b =>
      cases a
      exact .cons _ _ (ih _ b)

theorem script_of {l : OpenLaw} {n : Nat} (hn : l.most = some n) {P : Params} {h : Heap} {args : List WData} {vals : List Value}
    (hpre : l.row.toRowW.claim.pre args = true) (hwl : WellAll P h vals args) :
    ∃ a vs ns, vals = [Value.ref a] ∧ args = [WData.list (ns.map WData.int)] ∧ h.get? a = some { cls := .type "list", data := .seq vs.toArray } ∧ IntsAre vs ns ∧ ns.length ≤ n := by
  have hsh : WShape.hasAll [] args [.list .int] = true := (pre_splitW hpre).1
  have hc : l.pre.holds [] { args := args } = true := (pre_splitW hpre).2
  obtain ⟨d, r, rfl, h1, h2⟩ := hasAllW_cons hsh
  obtain rfl := hasAllW_nil h2
  obtain ⟨xs, rfl, h3⟩ := hasW_list h1
  obtain ⟨ns, rfl⟩ := items_int h3
  have hlen : ns.length ≤ n := by
    unfold OpenLaw.pre at hc
    have h4 : (WTm.not (.lt (.lit (.int (n : Int))) (.len (.arg 0)))).holds [] { args := [.list (ns.map .int)] } = true := by
      have h4 := (holds_andW hc).1
      rw [hn] at h4
      exact h4
    have h5 := condW_of h4 (w_not (w_lt w_lit (w_len_list (w_arg rfl))))
    rw [List.length_map] at h5
    refine Nat.le_of_not_lt fun q => ?_
    have q' : (n : Int) < ((ns.length : Nat) : Int) := by omega
    first
      | (rw [decide_eq_true q'] at h5; exact absurd h5 (by decide))
      | (simp at h5; omega)
  cases hwl with
  | cons w1 w2 =>
    cases w2
    cases w1 with
    | list ho hall => exact ⟨_, _, ns, rfl, rfl, ho, ints_of_wellAll ns _ hall, hlen⟩

theorem post_true (l : OpenLaw) (args : List WData) : l.row.toRowW.claim.post args (.bool true) args = true :=
  postW_of (r := l.row.toRowW) (X := (true == true))
    (show WShape.has [] (.bool true) .bool = true by first | rfl | decide | simp [WShape.has, WShape.arms, WShape.armsAll])
    (show (WTm.eq .res (.lit (.bool true))).value [] { args := args, res := some (.bool true), after := args } = some (.bool (true == true)) from w_eq_bool (w_res rfl) w_lit) rfl

/-! ### the attachment: holds_open's last premise (the goal 'hc' behind k_head) from a wpAny of the law's body -/
/-- the same from a codeAny of the CALL (for a layer whose function contracts speak of calls) -/
theorem attach_call {l : OpenLaw} {n : Nat} {q : Program} {loose : List Str} {XP : (Str → Option Value) → Heap → Prop} {YP : World → Heap → Prop} {d : DefRec}
    (hn : l.most = some n) (hdf : d.params.defaults = [])
    (call : ∀ (w : World) (s₀ s₁ : Shared) (mg mb : Str → Option Value) (fa : Addr) (o : Obj) (pm cd doc : Value) (a : Addr) (vs : List Value) (ns : List Int),
      Ground q loose [] XP w s₀ mg mb s₁.heap → YP w s₁.heap →
      s₁.heap.get? fa = some o → o.data = .func (docDef d.name d.params d.body d.scope pm cd doc) → s₁.heap.CodeRec cd d.name → mg d.name = some (.ref fa) →
      s₁.heap.get? a = some { cls := .type "list", data := .seq vs.toArray } → IntsAre vs ns → ns.length ≤ n → s₁.gens = #[] →
      codeAny (model l.prog w) callerA (.call (.ref fa) ⟨[.ref a], []⟩) (fun r s' => r = .ok (.ret (.bool true)) ∧ OldK s₁.heap s'.heap ∧ s'.os = s₁.os ∧ AllBare s'.gens) s₁) :
    WalkO q loose XP YP l.row.toRowW d [] (fun f vs => PySem.call f vs) := by
  intro w s₀ s₁ mg mb G Y fa o pm cd doc dV kV ho hd hcd hD hmg hg args vals as hpre hlay hrd hwl hlo
  obtain rfl : dV = .none := Dflts.none hD hdf
  obtain rfl : kV = .none := Dflts.noKw hD
  obtain ⟨a, vs, ns, rfl, rfl, hobj, hints, hlen⟩ := script_of hn hpre hwl
  refine enter_call (codeAny_mono (call w s₀ s₁ mg mb fa o pm cd doc a vs ns G Y ho (fd_plain hd) hcd hmg hobj hints hlen hg) fun r s' hq => ?_)
  obtain ⟨rfl, h2, h3, h4⟩ := hq
  exact ⟨.inl ⟨.bool true, .bool true, [], rfl, fun _ => rfl, .bool true, post_true l _, fun _ => ⟨List.Pairwise.nil, fun _ hm => (nomatch hm)⟩⟩, h2, h3, h4⟩

/-! ### rules over ANY heap (no ledger) from facts about the written part K: the library's own take a ledger (News) for what they write -/
section
variable {prog : Program} {w : World} {A : Around} {E : Value → Shared → Prop} {s : Shared} {K : Frag}

/-! the whole heap as the ledger: makes every rule that writes through a ledger a rule over any heap -/
end
end Att

namespace L2
open PySem PySem.Spec PyProof.Rows

theorem vals_ints : ∀ {vs : List Value} {ns : List Int}, IntsAre vs ns → Vals (ns.map V.int) vs
  | _, _, .nil => .nil
  | _, _, .cons n t h => .cons ⟨t, rfl⟩ (vals_ints h)

/-- nothing is tracked but the script, known to the object (or it is an object of the module) -/
def Only (H : Hp) : Prop := ∀ b, H b = none ∨ ∃ o xs, H b = some (.frz o (.lst xs))

/-- THE HEAD: the law's promise, at the heap behind the top. F, the promise of the law's def, may use that base is part of the heap (so K.In base, base.Ns mainGlobals mg stand in Mod) -/
theorem law_call {P : Program} {w : World} {K : PySem.W.Frag} {mg mb : Str → Option Value} {CX : CXT} {k : Nat} {fa a : Addr} {fd : FuncData} {x : Str} {sp : Sp} {s₁ : Shared} {vs : List Value} {ns : List Int}
    (KX : K.In s₁.heap) (hns : s₁.heap.Ns mainGlobals mg) (hb : s₁.heap.Ns builtinsNs mb) (hbb : ∀ x : Str, x ≠ "__name__" → mb x = bootBuiltins x) (hlim : s₁.heap.NoLimit) (hg : s₁.gens = #[])
    (ha : s₁.heap.get? a = some { cls := .type "list", data := .seq vs.toArray }) (hi : IntsAre vs ns) (hl : ns.length ≤ sizeLine) (hr : Room k callerA)
    (F : ∀ base : Heap, K.In base → base.Ns mainGlobals mg → FnOk P w K mg base CX k fa fd [x] sp) (hbind : ∀ (s : Shared) (u : Value), BindsTo s fd ⟨[u], []⟩ [(x, u)])
    (hsp : ∀ H : Hp, Only H → SqL K H a (ns.map V.int) → sp [.ref a] H (fun v _ => v = .bl true) fun _ _ _ => False)
    (hCX : ∀ H e s', CX [] H s₁ (fun _ _ _ => False) e s' → False) :
    codeAny (model P w) callerA (.call (.ref fa) ⟨[.ref a], []⟩) (fun r s' => r = .ok (.ret (.bool true)) ∧ OldK s₁.heap s'.heap ∧ s'.os = s₁.os ∧ AllBare s'.gens) s₁ := by
  have rv := vals_ints hi
  have lenV := hi.length
  -- from an abstract heap in which nothing but the script may be tracked
  have core : ∀ H : Hp, Only H → SqL K H a (ns.map V.int) → HOk P w H s₁.heap → (∀ b, H b ≠ none → b = a) → (H a ≠ none → K.lookup a = none) →
      codeAny (model P w) callerA (.call (.ref fa) ⟨[.ref a], []⟩) (fun r s' => r = .ok (.ret (.bool true)) ∧ OldK s₁.heap s'.heap ∧ s'.os = s₁.os ∧ AllBare s'.gens) s₁ := by
    intro H hO hS hok hA hK
    have base_of : ∀ {b : Addr} {o : Obj}, s₁.heap.get? b = some o → H b = none → (hidT s₁.heap H).get? b = some o := fun e n => hidT_get e n
    have noA : ∀ {b : Addr} {o : Obj} {es : Array DictEntry} {ep : Nat}, s₁.heap.get? b = some o → o.data = .dict es ep → H b = none := fun {b o es ep} e d => by
      cases q : H b with
      | none => rfl
      | some u =>
        have e' : b = a := hA b (by rw [q]; simp)
        subst e'
        rw [ha] at e; cases e
        have d' : Data.seq vs.toArray _ = Data.dict es ep := d
        cases d'
    have nsK : ∀ {b : Addr} {m : Str → Option Value}, s₁.heap.Ns b m → (hidT s₁.heap H).Ns b m := fun {b m} ⟨o, es, ep, e, d, r⟩ => ⟨o, es, ep, base_of e (noA e d), d, r⟩
    have hKb : K.In (hidT s₁.heap H) := fun b o e => base_of (KX b o e) (by
      cases q : H b with
      | none => rfl
      | some u =>
        have e' : b = a := hA b (by rw [q]; simp)
        subst e'
        rw [hK (by rw [q]; simp)] at e; cases e)
    have hM : Mod K mg (hidT s₁.heap H) := ⟨hKb, nsK hns, ⟨mb, nsK hb, hbb⟩, let ⟨mc, h1, h2⟩ := hlim; ⟨mc, nsK h1, h2⟩⟩
    have e0 : Env0 P w K mg (hidT s₁.heap H) callerA [] s₁ H := ⟨rfl, hM, fun b o e => of_hidT e, Nat.le_of_eq (hidT_size _ _), trivial, fun b hb => absurd (show b ∈ ([] : List Addr) from hb) (by simp), hok, .of_eq hg⟩
    refine codeAny_mono ((F _ hKb (nsK hns)).run callerA [] s₁ H ⟨[.ref a], []⟩ [.ref a] [.ref a] _ _ hr e0 (hbind s₁ (.ref a)) (.cons rfl .nil) (hsp H hO hS)) fun r s' h => ?_
    cases r with
    | error e => exact (hCX H e s' h).elim
    | ok fl =>
      cases fl with
      | next => exact False.elim h
      | brk => exact False.elim h
      | cont => exact False.elim h
      | ret u =>
        obtain ⟨v, H', os, bare, un, hok', r', q⟩ := h
        have q' : v = .bl true := q
        subst q'
        obtain rfl : u = Value.bool true := r'
        refine ⟨rfl, OldK.of_keep fun b o e => ?_, os, bare⟩
        cases q : H b with
        | none => exact un.keep b o e q (by intro z; exact absurd (show b ∈ ([] : List Addr) from z) (by simp)) (by simp)
        | some u =>
          rcases hO b with z | ⟨ob, xs, z⟩
          · rw [q] at z; cases z
          · have z2 := un.frzs b ob _ z
            obtain ⟨e1, _⟩ := hok b _ z
            obtain ⟨e2, _⟩ := hok' b _ z2
            rw [e] at e1; cases e1
            exact e2
  cases hk : K.lookup a with
  | some o =>
    -- the script is one of the module's own objects
    have e := KX a o hk
    rw [ha] at e
    cases e
    refine core (fun _ => none) (fun _ => .inl rfl) (.inr ⟨_, vs.toArray, _, hk, rfl, rfl, rfl, by rw [List.size_toArray, lenV]; exact hl, by simpa using rv⟩) (fun b u z => by have z' : (none : Option HO) = some u := z; cases z') (fun b z => absurd rfl z) fun z => absurd rfl z
  | none =>
    refine core (fun b => if b = a then some (.frz { cls := .type "list", data := .seq vs.toArray } (.lst (ns.map V.int))) else none) (fun b => ?_) (.inl (.inr ⟨{ cls := .type "list", data := .seq vs.toArray }, if_pos rfl⟩)) (fun b u z => ?_) (fun b z => ?_) fun _ => hk
    · by_cases hb : b = a
      · exact .inr ⟨_, _, if_pos hb⟩
      · exact .inl (if_neg hb)
    · by_cases hb : b = a
      · have z' := (if_pos hb).symm.trans z
        cases z'
        subst hb
        exact ⟨ha, by rw [List.length_map]; exact hl, vs, _, rv, ha⟩
      · have z' := (if_neg hb).symm.trans z
        cases z'
    · by_cases hb : b = a
      · exact hb
      · exact absurd (if_neg hb) z
end L2

namespace L2
open PySem PySem.Spec PyProof.Rows

/-- the goal that k_head leaves (case hc), from the law's promise. F gives the function object fd (K's own) once, then the promise over every base -/
theorem walk_of {l : PySem.W.OpenLaw} {n k : Nat} {q : Program} {loose : List Str} {XP : (Str → Option Value) → Heap → Prop} {YP : World → Heap → Prop} {d : DefRec} {K : Params → PySem.W.Frag} {CX : World → CXT} {sp : World → Sp} {x : Str}
    (hn : l.most = some n) (hn2 : n ≤ sizeLine) (hdf : d.params.defaults = []) (hr : Room k callerA)
    (hY : ∀ (w : World) (h : Heap), YP w h → (K w.params).In h)
    (F : ∀ (w : World) (mg : Str → Option Value) (fa : Addr) (h : Heap), (K w.params).In h → h.Ns mainGlobals mg → mg d.name = some (.ref fa) →
      ∃ fd : FuncData, (∀ (s : Shared) (u : Value), BindsTo s fd ⟨[u], []⟩ [(x, u)]) ∧
        ∀ base : Heap, (K w.params).In base → base.Ns mainGlobals mg → FnOk l.prog w (K w.params) mg base (CX w) k fa fd [x] (sp w))
    (hsp : ∀ (w : World) (H : Hp) (a : Addr) (ns : List Int), ns.length ≤ n → Only H → SqL (K w.params) H a (ns.map V.int) → sp w [.ref a] H (fun v _ => v = .bl true) fun _ _ _ => False)
    (hCX : ∀ (w : World) (H : Hp) (s : Shared) (e : Value) (s' : Shared), CX w [] H s (fun _ _ _ => False) e s' → False) :
    PySem.W.WalkO q loose XP YP l.row.toRowW d [] (fun f vs => PySem.call f vs) := by
  refine Att.attach_call hn hdf fun w s₀ s₁ mg mb fa o pm cd doc a vs ns G Y ho hd hcd hmg hobj hints hlen hg => ?_
  have KX := hY w _ Y
  obtain ⟨fd, hb, hF⟩ := F w mg fa _ KX G.T.g hmg
  exact law_call KX G.T.g G.T.b G.T.builtins G.T.nolimit hg hobj hints (Nat.le_trans hlen hn2) hr hF hb (fun H hO hS => hsp w H a ns hlen hO hS) fun H e s' => hCX w H s₁ e s'
end L2

/- THE LAST THEOREM (shape; LID, My.* are yours):
   My.Adr: a structure of the addresses that your layer names (classes, functions); My.Txt K t: a structure (Prop) of the equations over K;
   My.txt_mk : {K} {implicit addresses ..} (e1 : nsIn K mainGlobals "law" = some (some (.ref f))) (e2 : K.lookup f = some ⟨oc, od, .func (fnOf "law" "law" params body scope dV kV doc pm an cdv ct), sl⟩) (e3 : codeIn K cdv "law" = true) .. : ∃ t, My.Txt K t

set_option maxRecDepth 100000 in
set_option maxHeartbeats 0 in
theorem PySem.Challenge.cw_LID_holds : PySem.Challenge.rw_LID.Holds := by
  w_on; o_law; k_head; (case hw => w_witness2)
  k_fill
  refine L2.walk_of (l := PySem.Challenge.rw_LID) (n := 63) (k := 40) (x := "script") (CX := fun w => ..) (sp := fun _ => My.sp_law) rfl (by decide) rfl ⟨rfl, by decide, by decide⟩ (fun w h Y => PySem.W.kIn_of Y) ?F ?S ?C
  case F =>
    intro w mg fa h KX G hmg
    have T : ∃ t, My.Txt (L2.KOf KX) t := by
      dsimp only [L2.KOf]                          -- K must stand as «<heap const> w.params» for k_is
      refine' My.txt_mk ?e1 ?e2 ?e3 ..
      (case e1 => PySem.W.k_is)                    -- in the order: a name -> its address -> its object -> its parts
      (case e2 => PySem.W.k_is)
      ..
    obtain ⟨t, T⟩ := T
    have e0 := hmg.symm.trans (PySem.W.mg_of KX G T.law)
    cases e0                                       -- fa is the law's own address
    exact ⟨_, fun s u => .of_eq rfl, fun base kb nb => My.law_fn T kb nb⟩     -- if «.of_eq rfl» comes too early: refine' ⟨_, ?b, fun base kb nb => My.law_fn T kb nb⟩; exact fun s u => .of_eq rfl
  case S => exact fun w H a ns hl hO hS => ..
  case C => exact ..
(the tactic k_is has no namespace: write k_is) -/

/-! SHORT WORDS over the layer: a def of the text, its body, what a loop and a test want. -/
namespace L2
open PySem PySem.Spec PyProof.Rows

/-! ### the text by places -/
def defArgs (s : Stmt) : Arguments := match s with
  | .FunctionDef _ a _ _ _ _ _ _ _ _ => a
  | _ => { posonlyargs := [], args := [], vararg := none, kwonlyargs := [], kw_defaults := [], kwarg := none, defaults := [] }
def defBody (s : Stmt) : List Stmt := match s with
  | .FunctionDef _ _ b _ _ _ _ _ _ _ => b
  | _ => []
def defScope (s : Stmt) : Scope := match s with
  | .FunctionDef _ _ _ _ _ _ sc _ _ _ => sc
  | _ => { kind := .function, names := [], isGenerator := false, isCoroutine := false }

/-! ### no exception leaves a def -/
abbrev E0 : XK := fun _ _ _ => False
/-! ### a def (or method) of the text as it stands behind the top -/
structure Fun (K : PySem.W.Frag) (x qual : Str) (st : Stmt) (f : Addr) (fd : FuncData) : Prop where
  ex : ∃ (oc : Value) (od : Option Addr) (kV doc pm : Value) (an : Option Addr) (cdv ct : Value) (osl : Array (Option Value)),
    fd = PySem.W.fnOf x qual (defArgs st) (defBody st) (defScope st) .none kV doc pm an cdv ct ∧ K.lookup f = some ⟨oc, od, .func fd, osl⟩ ∧ PySem.W.codeIn K cdv qual = true
  kp : PySem.W.keepIn K (.ref f) = true
section
variable {P : Program} {w : World} {K : PySem.W.Frag} {mg : Str → Option Value} {base : Heap}
/-- how its arguments bind (no defaults): h is «fun _ _ _ _ _ _ us hl => match us, hl with | [_, _], _ => rfl», one _ a parameter -/
theorem Fun.binds {x qual : Str} {st : Stmt} {f : Addr} {fd : FuncData} {ps : List Str} (F : Fun K x qual st f fd)
    (h : ∀ (kV doc pm : Value) (an : Option Addr) (cdv ct : Value) (us : List Value), us.length = ps.length → bindArgs (PySem.W.fnOf x qual (defArgs st) (defBody st) (defScope st) .none kV doc pm an cdv ct) ⟨us, []⟩ = pure (ps.zip us)) : Binds K fd ps [] := by
  obtain ⟨oc, od, kV, doc, pm, an, cdv, ct, osl, rfl, lk, hcd⟩ := F.ex
  exact .all (h kV doc pm an cdv ct)
theorem fun_mk {x qual : Str} {st : Stmt} {f : Addr} {oc : Value} {od an : Option Addr} {osl : Array (Option Value)} {kV doc pm cdv ct : Value} (l : K.lookup f = some ⟨oc, od, .func (PySem.W.fnOf x qual (defArgs st) (defBody st) (defScope st) .none kV doc pm an cdv ct), osl⟩)
    (c : PySem.W.codeIn K cdv qual = true) (k : PySem.W.keepIn K (.ref f) = true) : Fun K x qual st f (PySem.W.fnOf x qual (defArgs st) (defBody st) (defScope st) .none kV doc pm an cdv ct) := ⟨⟨oc, od, kV, doc, pm, an, cdv, ct, osl, rfl, l, c⟩, k⟩
end
theorem hu_of {A : Around} {k : Nat} (hr : Room k A) : A.units + 1 < cLine := Nat.lt_of_le_of_lt (Nat.add_le_add_left (by decide : 1 ≤ 64) _) hr.units
/-! ### expressions in short: the name that stands in the i-th slot -/
section
variable {X : Cx}
theorem pv (i : Nat) {x : Str} {pos : Pos} (hN : X.N[i]? = some x := by rfl) (hv : Vis X.env.scope x := by first | exact Or.inl rfl | exact Or.inr (Or.inl rfl) | exact Or.inr (Or.inr rfl)) (hd : (x == ("__debug__" : Str)) = false := by decide)
    (hcd : (x == ("__classdict__" : Str)) = false := by decide) : PE X (.Name x pos) (tVar i) := pe_var hN hv hd hcd
end

/-! ### tests -/
theorem iteF {A B : Prop} (h : B) : if false = true then A else B := by
  rw [if_neg Bool.false_ne_true]
  exact h
theorem iteT {A B : Prop} (h : A) : if true = true then A else B := by
  rw [if_pos rfl]
  exact h
theorem ite2 {c A B : Prop} [Decidable c] (h1 : c → A) (h2 : ¬ c → B) : if c then A else B := by
  by_cases h : c
  · rw [if_pos h]
    exact h1 h
  · rw [if_neg h]
    exact h2 h
/-! ### heaps -/
/-- all that was tracked is as it was -/
def Same (H H' : Hp) : Prop := ∀ b o, H b = some o → H' b = some o
theorem Same.refl (H : Hp) : Same H H := fun _ _ h => h
theorem Same.trans {H H1 H2 : Hp} (a : Same H H1) (b : Same H1 H2) : Same H H2 := fun c o h => b c o (a c o h)
theorem Same.free {H H' : Hp} (e : Same H H') {l : Addr} (h : H' l = Option.none) : H l = Option.none := by
  cases q : H l with
  | none => rfl
  | some o =>
    rw [e l o q] at h
    cases h
end L2
set_option Elab.async false
set_option linter.all false
set_option maxRecDepth 100000
/-! Plain data over the hand layer: what a value stands for (a tree of ints, texts, None, bools, lists, tuples), == of such, isinstance of such. -/
namespace L2
open PySem PySem.Spec PyProof.Rows

mutual
/-- the value v stands for the data d -/
inductive Rep (H : Hp) : V → PyData → Prop
  | non : Rep H .non .none
  | bl (b : Bool) : Rep H (.bl b) (.bool b)
  | int (i : Int) : Rep H (.int i) (.int i)
  | str (x : Str) : Rep H (.str x) (.str x)
  | lst {a : Addr} {vs : List V} {ds : List PyData} : H a = some (.lst vs) → Reps H vs ds → Rep H (.ref a) (.list ds)
  | tup {a : Addr} {vs : List V} {ds : List PyData} : H a = some (.tup vs) → Reps H vs ds → Rep H (.ref a) (.tuple ds)
inductive Reps (H : Hp) : List V → List PyData → Prop
  | nil : Reps H [] []
  | cons {v : V} {vs : List V} {d : PyData} {ds : List PyData} : Rep H v d → Reps H vs ds → Reps H (v :: vs) (d :: ds)
end

mutual
theorem Rep.mono {H H' : Hp} (e : Same H H') : ∀ {v : V} {d : PyData}, Rep H v d → Rep H' v d
  | _, _, .non => .non
  | _, _, .bl b => .bl b
  | _, _, .int i => .int i
  | _, _, .str x => .str x
  | _, _, .lst h r => .lst (e _ _ h) (Reps.mono e r)
  | _, _, .tup h r => .tup (e _ _ h) (Reps.mono e r)
theorem Reps.mono {H H' : Hp} (e : Same H H') : ∀ {vs : List V} {ds : List PyData}, Reps H vs ds → Reps H' vs ds
  | _, _, .nil => .nil
  | _, _, .cons r rs => .cons (Rep.mono e r) (Reps.mono e rs)
end

/-- no list within -/
def immut : PyData → Bool
  | .none => true
  | .bool _ => true
  | .int _ => true
  | .str _ => true
  | .list _ => false
  | .tuple ds => all ds
  | .dict _ => false
where all : List PyData → Bool
  | [] => true
  | d :: ds => immut d && all ds

/-- the tuples stand -/
def TSame (H H' : Hp) : Prop := ∀ b xs, H b = some (.tup xs) → H' b = some (.tup xs)
theorem Same.ts {H H' : Hp} (e : Same H H') : TSame H H' := fun b xs h => e b _ h
theorem TSame.trans {H H1 H2 : Hp} (a : TSame H H1) (b : TSame H1 H2) : TSame H H2 := fun c xs h => b c xs (a c xs h)
theorem TSame.lst {H : Hp} {p : Addr} {xs : List V} (h : H p = some (.lst xs)) (o : HO) : TSame H (upd H p o) := fun b ys q => by rw [upd_ne (ne_of q h (by intro z; cases z))]; exact q
theorem same_new {H : Hp} {p : Addr} (h : H p = none) (o : HO) : Same H (upd H p o) := fun b u q => by rw [upd_ne (ne_of_none q h)]; exact q
/-- what is new may be written -/
theorem Same.write {H H' : Hp} (e : Same H H') {p : Addr} (h : H p = none) (o : HO) : Same H (upd H' p o) := fun b u q => by rw [upd_ne (ne_of_none q h)]; exact e b u q

mutual
theorem Rep.tmono {H H' : Hp} (e : TSame H H') : ∀ {v : V} {d : PyData}, immut d = true → Rep H v d → Rep H' v d
  | _, _, _, .non => .non
  | _, _, _, .bl b => .bl b
  | _, _, _, .int i => .int i
  | _, _, _, .str x => .str x
  | _, _, h, .lst _ _ => by simp [immut] at h
  | _, _, h, .tup q r => .tup (e _ _ q) (Reps.tmono e (by simpa [immut] using h) r)
theorem Reps.tmono {H H' : Hp} (e : TSame H H') : ∀ {vs : List V} {ds : List PyData}, immut.all ds = true → Reps H vs ds → Reps H' vs ds
  | _, _, _, .nil => .nil
  | _, d :: ds, h, .cons r rs => by
    have h' : immut d = true ∧ immut.all ds = true := by simpa [immut.all] using h
    exact .cons (Rep.tmono e h'.1 r) (Reps.tmono e h'.2 rs)
end

section
variable {H : Hp}
theorem Rep.int_inv {v : V} {i : Int} (r : Rep H v (.int i)) : v = .int i := by cases r; rfl
theorem Rep.tup_inv {v : V} {ds : List PyData} (r : Rep H v (.tuple ds)) : ∃ a vs, v = .ref a ∧ H a = some (.tup vs) ∧ Reps H vs ds := by
  cases r with | tup h q => exact ⟨_, _, rfl, h, q⟩
theorem Reps.length : ∀ {vs : List V} {ds : List PyData}, Reps H vs ds → vs.length = ds.length
  | _, _, .nil => rfl
  | _, _, .cons _ r => congrArg (· + 1) (Reps.length r)
theorem Reps.get : ∀ {vs : List V} {ds : List PyData} {i : Nat} {d : PyData}, Reps H vs ds → ds[i]? = some d → ∃ v, vs[i]? = some v ∧ Rep H v d
  | _, _, _, _, .nil, e => by simp at e
  | _, _, 0, _, .cons r _, e => by
    have e' := Option.some.inj (show some _ = some _ from e)
    subst e'
    exact ⟨_, rfl, r⟩
  | _, _, i + 1, d, .cons _ t, e => by
    obtain ⟨v, h1, h2⟩ := Reps.get (i := i) (d := d) t (by simpa using e)
    exact ⟨v, by simpa using h1, h2⟩
theorem Reps.get' : ∀ {vs : List V} {ds : List PyData} {i : Nat} {v : V}, Reps H vs ds → vs[i]? = some v → ∃ d, ds[i]? = some d ∧ Rep H v d
  | _, _, _, _, .nil, e => by simp at e
  | _, _, 0, _, .cons r _, e => by
    have e' := Option.some.inj (show some _ = some _ from e)
    subst e'
    exact ⟨_, rfl, r⟩
  | _, _, i + 1, v, .cons _ t, e => by
    obtain ⟨d, h1, h2⟩ := Reps.get' (i := i) (v := v) t (by simpa using e)
    exact ⟨d, by simpa using h1, h2⟩
theorem Reps.append : ∀ {vs us : List V} {ds es : List PyData}, Reps H vs ds → Reps H us es → Reps H (vs ++ us) (ds ++ es)
  | _, _, _, _, .nil, q => q
  | _, _, _, _, .cons r rs, q => .cons r (Reps.append rs q)
theorem Reps.one {v : V} {d : PyData} (r : Rep H v d) : Reps H [v] [d] := .cons r .nil
theorem Reps.ints : ∀ {ns : List Int}, Reps H (ns.map V.int) (ns.map PyData.int)
  | [] => .nil
  | n :: r => .cons (.int n) (Reps.ints (ns := r))
theorem Reps.ints_inv : ∀ {vs : List V} {ns : List Int}, Reps H vs (ns.map PyData.int) → vs = ns.map V.int
  | _, [], r => by cases r; rfl
  | _, n :: ns, r => by
    cases r with
    | cons q t => rw [Rep.int_inv q, Reps.ints_inv (ns := ns) t]; rfl
end

mutual
theorem Rep.reads {P : Program} {w : World} {H : Hp} {h : Heap} (ok : HOk P w H h) : ∀ {v : V} {d : PyData} {u : Value}, Rep H v d → RelV v u → ∃ as, Reads h u d as
  | _, _, _, .non, q => by cases (show _ = Value.none from q); exact ⟨_, .none⟩
  | _, _, _, .bl b, q => by cases (show _ = Value.bool b from q); exact ⟨_, .bool b⟩
  | _, _, _, .int i, q => by obtain ⟨t, e⟩ := q; cases e; exact ⟨_, .int i t⟩
  | _, _, _, .str x, q => by obtain ⟨t, e⟩ := q; cases e; exact ⟨_, .str x t⟩
  | _, _, _, .lst (a := a) (vs := vs) e r, q => by
    cases (show _ = Value.ref a from q)
    obtain ⟨_, its, n, rv, ho⟩ := (show ObjOk P w H h a (.lst vs) from ok a _ e)
    obtain ⟨as, z⟩ := Reps.reads ok r rv
    exact ⟨_, .list ho rfl rfl (by simpa using z)⟩
  | _, _, _, .tup (a := a) (vs := vs) e r, q => by
    cases (show _ = Value.ref a from q)
    obtain ⟨_, its, rv, o, ho, hc, _, n, hd⟩ := (show ObjOk P w H h a (.tup vs) from ok a _ e)
    obtain ⟨as, z⟩ := Reps.reads ok r rv
    exact ⟨_, .tuple ho hc hd (by simpa using z)⟩
theorem Reps.reads {P : Program} {w : World} {H : Hp} {h : Heap} (ok : HOk P w H h) : ∀ {vs : List V} {ds : List PyData} {us : List Value}, Reps H vs ds → Vals vs us → ∃ as, ReadsAll h us ds as
  | _, _, _, .nil, q => by cases q; exact ⟨_, .nil⟩
  | _, _, _, .cons r rs, q => by
    cases q with
    | cons q qs =>
      obtain ⟨as, z⟩ := Rep.reads ok r q
      obtain ⟨bs, zs⟩ := Reps.reads ok rs qs
      exact ⟨_, .cons z zs⟩
end

/-! ### == and != of data -/
def rEqD : R2 := fun x y H Q => ∃ d e, Rep H x d ∧ Rep H y e ∧ SeqAt.shaped d = true ∧ SeqAt.shaped e = true ∧ Q (.bl (PyData.eqv d e)) H
def rNeD : R2 := fun x y H Q => ∃ d e, Rep H x d ∧ Rep H y e ∧ SeqAt.shaped d = true ∧ SeqAt.shaped e = true ∧ Q (.bl (!PyData.eqv d e)) H
section
variable {X : Cx}
theorem op_eqD (hu : X.A.units + 64 < cLine) : OpR X (compareOp .Eq) rEqD := by
  intro pins s σ H x y v u Q I rx ry h
  obtain ⟨d, e, hd, he, sd, se, q⟩ := h
  obtain ⟨as, za⟩ := hd.reads I.hok rx
  obtain ⟨bs, zb⟩ := he.reads I.hok ry
  exact eq_dataH za zb sd se hu ⟨.bl (PyData.eqv d e), H, I, rfl, q⟩
theorem op_neD (hu : X.A.units + 64 < cLine) : OpR X (compareOp .NotEq) rNeD := by
  intro pins s σ H x y v u Q I rx ry h
  obtain ⟨d, e, hd, he, sd, se, q⟩ := h
  obtain ⟨as, za⟩ := hd.reads I.hok rx
  obtain ⟨bs, zb⟩ := he.reads I.hok ry
  exact ne_dataH za zb sd se hu ⟨.bl (!PyData.eqv d e), H, I, rfl, q⟩

/-! ### isinstance(x, a built-in type) -/
/-- the type's name of a data -/
def tyD : PyData → String
  | .none => "NoneType"
  | .bool _ => "bool"
  | .int _ => "int"
  | .str _ => "str"
  | .list _ => "list"
  | .tuple _ => "tuple"
  | .dict _ => "dict"
theorem Rep.ty {K : PySem.W.Frag} {H : Hp} {v : V} {d : PyData} (r : Rep H v d) : TyOf K H v (.type (tyD d)) := by
  cases r with
  | non => exact .non
  | bl b => exact .bl b
  | int i => exact .int i
  | str x => exact .str x
  | lst h _ => exact .lst h
  | tup h _ => exact .tup h
/-- is a data of that type (for int: bools are) -/
def isIntD : PyData → Bool
  | .int _ => true
  | .bool _ => true
  | _ => false
def isBoolD : PyData → Bool
  | .bool _ => true
  | _ => false
def isStrD : PyData → Bool
  | .str _ => true
  | _ => false
def isTupD : PyData → Bool
  | .tuple _ => true
  | _ => false
theorem kit_int (K : PySem.W.Frag) (d : PyData) (hd : ∀ kvs, d ≠ .dict kvs) : PySem.W.kitOne K (.type (tyD d)) (.type "int") = some (isIntD d) := by
  cases d <;> first | exact absurd rfl (hd _) | (with_unfolding_all rfl)
theorem kit_bool (K : PySem.W.Frag) (d : PyData) (hd : ∀ kvs, d ≠ .dict kvs) : PySem.W.kitOne K (.type (tyD d)) (.type "bool") = some (isBoolD d) := by
  cases d <;> first | exact absurd rfl (hd _) | (with_unfolding_all rfl)
theorem kit_str (K : PySem.W.Frag) (d : PyData) (hd : ∀ kvs, d ≠ .dict kvs) : PySem.W.kitOne K (.type (tyD d)) (.type "str") = some (isStrD d) := by
  cases d <;> first | exact absurd rfl (hd _) | (with_unfolding_all rfl)
theorem kit_tuple (K : PySem.W.Frag) (d : PyData) (hd : ∀ kvs, d ≠ .dict kvs) : PySem.W.kitOne K (.type (tyD d)) (.type "tuple") = some (isTupD d) := by
  cases d <;> first | exact absurd rfl (hd _) | (with_unfolding_all rfl)
theorem Rep.nodict {H : Hp} {v : V} {d : PyData} (r : Rep H v d) : ∀ kvs, d ≠ .dict kvs := fun kvs z => by subst z; cases r
def rIsi (c : String) (f : PyData → Bool) : List V → Hp → VK → Prop := fun xs H Q => ∃ x d, xs = [x, .ty c] ∧ Rep H x d ∧ Q (.bl (f d)) H
theorem call_isi {c : String} {f : PyData → Bool} (kit : ∀ (K : PySem.W.Frag) (d : PyData), (∀ kvs, d ≠ .dict kvs) → PySem.W.kitOne K (.type (tyD d)) (.type c) = some (f d)) : CallR X (.builtin "isinstance") (rIsi c f) := by
  intro pins s σ H xs us Q I rs h
  obtain ⟨x, d, e, hd, q⟩ := h
  subst e
  obtain ⟨u, w', rfl, ru, rw'⟩ := Vals.two rs
  cases (show w' = Value.type c from rw')
  exact isinst_ok I ru hd.ty (kit X.K d hd.nodict) fun tk => ⟨.bl (f d), H, I.tok tk, rfl, q⟩
end
end L2
set_option Elab.async false
set_option linter.all false
set_option maxRecDepth 100000
/-! A list comprehension with one `for` and at most one `if`, over the hand layer. -/
namespace L2
open PySem PySem.Spec PyProof.Rows

/-! ### the tests of a clause -/
def PF (X : Cx) (ifs : List Expr) (t : TT) : Prop :=
  ∀ (pins : List (Addr × Obj)) (s : Shared) (σ : St) (H : Hp) (Q : Bool → Hp → Prop), Inv X pins σ H s → t σ H Q →
    wpAny (model X.prog X.w) X.A (forIn ifs true fun c r => if r = true then do let ok ← isTrue c X.env (eval c X.env); pure (ForInStep.yield ok) else pure (ForInStep.yield r)) (TP X pins σ Q) X.xe s
theorem pf_nil {X : Cx} : PF X [] (fun _ H Q => Q true H) := fun pins s σ H Q I h => wpAny_tests_nil ⟨H, I, h⟩
/-! ### the loop of a comprehension, any target -/
section
variable {prog : Program} {w : World} {A : Around} {R : Result → Shared → Prop} {s : Shared}
theorem compLoop_any {elt target iter : Expr} {ifs : List Expr} {scope : Scope} {pos : Pos} {it acc : Value} {env : Env} (I : Nat → Shared → Prop)
    (turn : ∀ n s, I n s → wpAny (model prog w) A (pyNext it) (fun r s₁ => match r with
      | none => R (.ok .next) s₁
      | some v => wpAny (model prog w) A (letOwnedTupleGo target it v) (fun _ s₀ => wpAny (model prog w) A (assign target env v) (fun _ s₂ =>
          wpAny (model prog w) A (forIn ifs true fun c r => if r = true then do let ok ← isTrue c env (eval c env); pure (ForInStep.yield ok) else pure (ForInStep.yield r)) (fun ok s₃ =>
            if ok = true then wpAny (model prog w) A (eval elt env) (fun x s₄ =>
              wpAny (model prog w) A (call (.builtin "list.append") [acc, x]) (fun _ s₅ => ∃ m, m < n ∧ I m s₅) (fun _ _ => False) s₄) (fun _ _ => False) s₃
            else ∃ m, m < n ∧ I m s₃) (fun _ _ => False) s₂) (fun _ _ => False) s₀) (fun _ _ => False) s₁) (fun _ _ => False) s)
    (n : Nat) (h : I n s) :
    codeAny (model prog w) A (.compLoop (.ListComp elt [⟨target, iter, ifs, 0⟩] scope pos) 0 it acc env) R s := by
  refine codeAny_loop rfl I (fun n s hI => ?_) n h
  show wpAny _ A ((compTurn (.ListComp elt [⟨target, iter, ifs, 0⟩] scope pos) 0 it acc env).onRaise (fun x => do noteFrame x env; theTreesLotGoes x)) _ _ s
  refine wpAny_noted ?_
  rw [compTurn_list]
  refine wpAny_bind (wpAny_standAt (wpAny_bind (wpAny_mono (turn n s hI) (fun r s₁ h₁ => ?_) fun _ _ f => f.elim)))
  cases r with
  | none => exact wpAny_pure h₁
  | some v =>
    refine wpAny_bind (wpAny_mono h₁ (fun _ s₀ h₀ => ?_) fun _ _ f => f.elim)
    refine wpAny_bind (wpAny_mono h₀ (fun _ s₂ h₂ => wpAny_bind (wpAny_mono h₂ (fun ok s₃ h₃ => ?_) fun _ _ f => f.elim)) fun _ _ f => f.elim)
    cases ok with
    | false => exact wpAny_pure ⟨rfl, h₃⟩
    | true =>
      exact wpAny_bind (wpAny_bind (wpAny_mono h₃ (fun x s₄ h₄ => wpAny_bind (wpAny_mono h₄ (fun _ s₅ h₅ => wpAny_pure (wpAny_pure ⟨rfl, h₅⟩)) fun _ _ f => f.elim)) fun _ _ f => f.elim))
end

/-! ### the block's context -/
/-- the closure of a block: its free names with the cells of the frame around it -/
def closOf (scope : Scope) (env : Env) : List (Str × Addr) :=
  ((scope.names.filter fun x => x.2 == .free).reverse).map fun x => (x.1, (env.cells.lookup x.1).getD 0)

/-- the context of a comprehension's block: entered at s₂, H₂, its frame at C, its iterator's records fp -/
def blk (X : Cx) (scope : Scope) (NB : List Str) (C : Addr) (s₂ : Shared) (H₂ : Hp) (fp : List Addr) : Cx where
  prog := X.prog
  w := X.w
  K := X.K
  mg := X.mg
  base := X.base
  A := X.A
  N := NB
  s₀ := s₂
  H₀ := H₂
  env := compEnvC scope (closOf scope X.env) C X.env
  outer := X.stack
  stack := X.stack
  ex := fp
  fn := fun _ => false
  calm := X.calm
  pn := []
  xe := fun _ _ => False

/-- the block's slots at its entry: some j: the outer slot j (a free name), none: its own -/
def tau (js : List (Option Nat)) (σ : St) : St := js.map fun o => match o with
  | some j => (match σ[j]? with | some v => v | none => none)
  | none => none

/-- what is asked of the names: NB the block's own names and its free ones, js where the free ones stand outside -/
structure BlkOk (X : Cx) (scope : Scope) (NB : List Str) (js : List (Option Nat)) : Prop where
  kind : scope.kind = .function
  nd : NB.Nodup
  len : js.length = NB.length
  nocell : ∀ y ∈ scope.names, y.2 ≠ .cell
  locs : ∀ y ∈ scope.names, y.2 = .local → scope.names.lookup y.1 = some .local
  clos : closureFor scope X.env = pure (closOf scope X.env)
  there : ∀ y ∈ scope.names, y.2 = .free → ∃ c, X.env.cells.lookup y.1 = some c
  outer : ∀ (i j : Nat), js[i]? = some (some j) → ∃ x, NB[i]? = some x ∧ X.N[j]? = some x ∧ (x, NameKind.free) ∈ scope.names ∧ Vis X.env.scope x ∧ X.env.scope.names.lookup x ≠ some .local
  inner : ∀ (i : Nat) (x : Str), NB[i]? = some x → (x, NameKind.free) ∈ scope.names → Vis (relabel scope X.env) x → (relabel scope X.env).names.lookup x ≠ some .local

/-- the same by looks at the text -/
def outerOk (X : Cx) (scope : Scope) (NB : List Str) (js : List (Option Nat)) : Bool := (js.zip NB).all fun p => match p.1 with
  | none => true
  | some j => X.N[j]? == some p.2 && scope.names.any (fun y => y.1 == p.2 && y.2 == .free) && (X.env.scope.names.lookup p.2 == some .cell || X.env.scope.names.lookup p.2 == some .free)
def innerOk (X : Cx) (scope : Scope) (NB : List Str) : Bool := NB.all fun x => !(scope.names.any fun y => y.1 == x && y.2 == .free) || ((relabel scope X.env).names.lookup x != some .local)
theorem any_free {l : List (Str × NameKind)} {x : Str} : (l.any fun y => y.1 == x && y.2 == NameKind.free) = true ↔ (x, NameKind.free) ∈ l := by
  rw [List.any_eq_true]
  constructor
  · rintro ⟨⟨n, k⟩, hy, e⟩
    simp only [Bool.and_eq_true, beq_iff_eq] at e
    obtain ⟨rfl, rfl⟩ := e
    exact hy
  · intro h
    exact ⟨_, h, by simp⟩
theorem blkOk_of {X : Cx} {scope : Scope} {NB : List Str} {js : List (Option Nat)} (kind : scope.kind = .function) (nd : NB.Nodup) (len : js.length = NB.length) (nocell : ∀ y ∈ scope.names, y.2 ≠ .cell) (locs : ∀ y ∈ scope.names, y.2 = .local → scope.names.lookup y.1 = some .local)
    (clos : closureFor scope X.env = pure (closOf scope X.env)) (there : (scope.names.all fun y => y.2 != .free || (X.env.cells.lookup y.1).isSome) = true) (outer : outerOk X scope NB js = true) (inner : innerOk X scope NB = true) : BlkOk X scope NB js := by
  refine ⟨kind, nd, len, nocell, locs, clos, fun y hy hf => ?_, fun i j e => ?_, fun i x e hm _ => ?_⟩
  · have := List.all_eq_true.mp there y hy
    rw [hf] at this
    exact Option.isSome_iff_exists.mp (by simpa using this)
  · have hi : i < js.length := (List.getElem?_eq_some_iff.mp e).1
    have hx : NB[i]? = some (NB[i]'(by omega)) := List.getElem?_eq_getElem (by omega)
    have hz : (js.zip NB)[i]? = some (some j, NB[i]'(by omega)) := by rw [List.getElem?_zip_eq_some]; exact ⟨e, hx⟩
    have := List.all_eq_true.mp outer _ (List.mem_of_getElem? hz)
    dsimp only at this
    simp only [Bool.and_eq_true, Bool.or_eq_true, beq_iff_eq] at this
    obtain ⟨⟨h1, h2⟩, h3⟩ := this
    refine ⟨_, hx, h1, any_free.mp h2, ?_, ?_⟩
    · rcases h3 with h3 | h3
      · exact .inr (.inl h3)
      · exact .inr (.inr h3)
    · rcases h3 with h3 | h3 <;> rw [h3] <;> decide
  · have := List.all_eq_true.mp inner x (List.mem_of_getElem? e)
    rw [any_free.mpr hm] at this
    simpa using this

theorem mem_closOf {scope : Scope} {env : Env} {x : Str} {c : Addr} (ht : ∀ y ∈ scope.names, y.2 = .free → ∃ c, env.cells.lookup y.1 = some c) (h : (closOf scope env).lookup x = some c) : env.cells.lookup x = some c ∧ (x, NameKind.free) ∈ scope.names := by
  have m := PySem.mem_of_lookup h
  unfold closOf at m
  obtain ⟨y, hy, e⟩ := List.mem_map.mp m
  have hy' := List.mem_filter.mp (List.mem_reverse.mp hy)
  obtain ⟨n, k⟩ := y
  have hk : k = .free := by simpa using hy'.2
  subst hk
  obtain ⟨c', ec⟩ := ht _ hy'.1 rfl
  have e1 : n = x := congrArg Prod.fst e
  have e2 : (env.cells.lookup n).getD 0 = c := congrArg Prod.snd e
  subst e1
  have ec' : env.cells.lookup n = some c' := ec
  rw [ec'] at e2
  have e3 : c' = c := e2
  subst e3
  exact ⟨ec', hy'.1⟩
theorem lookup_of_mem {β : Type} {x : Str} : ∀ {l : List (Str × β)} {b : β}, (x, b) ∈ l → ∃ c, l.lookup x = some c
  | (n, b') :: r, b, h => by
    rw [List.lookup_cons]
    cases e : x == n with
    | true => exact ⟨b', rfl⟩
    | false =>
      rcases List.mem_cons.mp h with q | q
      · have : x = n := congrArg Prod.fst q
        subst this
        simp at e
      · exact lookup_of_mem q
theorem closOf_has {scope : Scope} {env : Env} {x : Str} (h : (x, NameKind.free) ∈ scope.names) : ∃ c, (closOf scope env).lookup x = some c := by
  refine lookup_of_mem (b := (env.cells.lookup x).getD 0) ?_
  unfold closOf
  exact List.mem_map.mpr ⟨(x, NameKind.free), List.mem_reverse.mpr (List.mem_filter.mpr ⟨h, by simp⟩), rfl⟩
theorem relabel_free {scope : Scope} {env : Env} {x : Str} (hc : ∀ y ∈ scope.names, y.2 ≠ .cell) (h : (relabel scope env).names.lookup x = some .cell ∨ (relabel scope env).names.lookup x = some .free) : (x, NameKind.free) ∈ scope.names := by
  have key : ∀ k, (relabel scope env).names.lookup x = some k → k = .cell ∨ k = .free → (x, NameKind.free) ∈ scope.names := by
    intro k e hk
    have m := PySem.mem_of_lookup e
    unfold relabel at m
    obtain ⟨⟨n, k'⟩, hy, q⟩ := List.mem_map.mp m
    dsimp only at q
    split at q
    · rename_i hcond
      have e1 : n = x := congrArg Prod.fst q
      subst e1
      simp only [Bool.and_eq_true, beq_iff_eq] at hcond
      rw [hcond.1.1] at hy
      exact hy
    · have e1 : n = x := congrArg Prod.fst q
      have e2 : k' = k := congrArg Prod.snd q
      subst e1 e2
      rcases hk with hk | hk
      · subst hk
        exact absurd rfl (hc _ hy)
      · subst hk
        exact hy
  rcases h with h | h
  · exact key _ h (.inl rfl)
  · exact key _ h (.inr rfl)

/-- the world but one object -/
theorem Un.but {fs ex : List Addr} {H H' : Hp} {h h1 h2 : Heap} {C : Addr} (u : Un fs ex H H' h h1) (hC : h.objs.size ≤ C) (sb : Heap.SameBut C h1 h2) : Un fs ex H H' h h2 := by
  have ne : ∀ b o, h.get? b = some o → b ≠ C := fun b o e => Nat.ne_of_lt (Nat.lt_of_lt_of_le (Heap.lt_size e) hC)
  refine ⟨fun b o e n hb hx => (sb.2 b (ne b o e)).trans (u.keep b o e n hb hx), fun b o e n hb hx => ?_, u.free, fun b o e hx => ?_, u.tups, u.frzs, u.tbls⟩
  · obtain ⟨sl, q⟩ := u.slot b o e n hb hx
    exact ⟨sl, (sb.2 b (ne b o e)).trans q⟩
  · obtain ⟨o', q⟩ := u.there b o e hx
    exact ⟨o', (sb.2 b (ne b o e)).trans q⟩
theorem HOk.but {P : Program} {w : World} {H : Hp} {h1 h2 : Heap} {C : Addr} (ok : HOk P w H h1) (hC : H C = none) (sb : Heap.SameBut C h1 h2) : HOk P w H h2 := fun b ob e => by
  refine (ok b ob e).stay (fun c w' hc q => (sb.2 c ?_).trans q) (fun _ q => q) fun _ _ q => q
  rintro rfl
  rcases hc with rfl | hc
  · rw [hC] at e; cases e
  · rw [hC] at hc; cases hc

section
variable {X : Cx} {pins : List (Addr × Obj)} {σ : St} {H : Hp} {s : Shared}
theorem blk_ok {scope : Scope} {NB : List Str} {js : List (Option Nat)} {C : Addr} {fp : List Addr} (B : BlkOk X scope NB js) (I : Inv X pins σ H s) (hf : ∀ b ∈ fp, FpOk X pins H b) (hlt : ∀ b ∈ fp, b ≠ C) (hC : s.heap.objs.size ≤ C) :
    (blk X scope NB C s H fp).Ok := by
  refine ⟨I.mod, B.kind, I.ok.glob, I.ok.blt, hC, fun x y c hx hy => ?_, fun x hx => ?_, fun x c h _ => (nomatch h), I.ok.hd, I.ok.frames, .inl rfl, fun b hb => ⟨hlt b hb, fun x c hx => ?_⟩, I.bs, Nat.le_trans I.ok.bsz I.sz, fun b o e hb => ?_, fun b hb hb2 => ?_, I.stack, I.stkFree⟩
  · exact I.ok.inj x y c (mem_closOf B.there hx).1 (mem_closOf B.there hy).1
  · exact closOf_has (relabel_free B.nocell hx)
  · exact (hf b hb).2.2.2.2.1 x c (mem_closOf B.there hx).1
  · rcases (hf b hb).2.2.2.1 with z | z
    · exact I.ok.noex b o e z
    · exact absurd (Nat.lt_of_lt_of_le (Heap.lt_size e) (Nat.le_trans I.ok.bsz z)) (Nat.lt_irrefl _)
  · rcases List.mem_cons.mp (I.stkSub b hb2) with z | z
    · exact (hf b hb).2.1 z
    · exact (hf b hb).2.2.1 z

theorem tau_get {js : List (Option Nat)} {σ : St} {i : Nat} {v : V} (h : (tau js σ)[i]? = some (some v)) : ∃ j, js[i]? = some (some j) ∧ σ[j]? = some (some v) := by
  unfold tau at h
  rw [List.getElem?_map] at h
  cases e : js[i]? with
  | none => rw [e] at h; cases h
  | some o =>
    rw [e] at h
    cases o with
    | none => cases h
    | some j =>
      refine ⟨j, rfl, ?_⟩
      have h' : (match σ[j]? with | some v => v | none => none) = some v := Option.some.inj h
      cases q : σ[j]? with
      | none => rw [q] at h'; cases h'
      | some u => rw [q] at h'; rw [show u = some v from h']
end

/-! ### the reading -/
/-- what a turn of a comprehension's block is to reach -/
def turnC (g : TG) (tt : TT) (te : TE) (τ : St) (D : Addr) (ys : List V) (N : List V → Hp → Prop) (x : V) (H' : Hp) : Prop :=
  g x τ H' fun σ2 H2 => (∀ (k : Nat) (v : V), τ[k]? = some (some v) → σ2[k]? = some (some v)) ∧ tt σ2 H2 fun ok H3 =>
    if ok = true then te σ2 H3 fun v H4 => H4 D = some (.lst ys) ∧ ys.length < sizeLine ∧ N (ys ++ [v]) (upd H4 D (.lst (ys ++ [v]))) else N ys H3
/-- W: the invariant by the turn, a measure, the items so far; the new list stands at D -/
def tComp (js : List (Option Nat)) (wi : TI) (g : TG) (tt : TT) (te : TE) : TE := fun σ H Q => wi σ H fun J H1 => ∀ D, H1 D = none → ∃ W : Nat → Nat → List V → Hp → Prop, (∃ m, W 0 m [] (upd H1 D (.lst []))) ∧
  ∀ i m ys H, W i m ys H → (J.stop i H ∧ Q (.ref D) H) ∨ (J.go i H ∧ ∃ N : List V → Hp → Prop, (∀ ys' H', N ys' H' → ∃ m', m' < m ∧ W (i + 1) m' ys' H') ∧ ∀ x H', J.yld i H x H' → turnC g tt te (tau js σ) D ys N x H')

theorem pe_comp {X : Cx} {elt tg iter : Expr} {ifs : List Expr} {scope : Scope} {pos : Pos} {wi : TI} {g : TG} {tt : TT} {te : TE} {NB : List Str} {js : List (Option Nat)} (hc : X.calm = true) (B : BlkOk X scope NB js) (hi : PI X tg iter wi)
    (hg : ∀ C s₂ H₂ fp, PG (blk X scope NB C s₂ H₂ fp) tg g) (ht : ∀ C s₂ H₂ fp, PF (blk X scope NB C s₂ H₂ fp) ifs tt) (he : ∀ C s₂ H₂ fp, PE (blk X scope NB C s₂ H₂ fp) elt te)
    (hs : ∀ x, foldedSetIterable iter X.env x = pure x := by intro _; rfl) : PE X (.ListComp elt [⟨tg, iter, ifs, 0⟩] scope pos) (tComp js wi g tt te) := by
  intro pins s σ H Q I h
  rw [eval_ListComp]
  refine wpAny_comprehension_free (use := none) rfl hs B.clos B.kind B.locs (thn (hi pins s σ H _ I h) fun v s1 h1 => thn h1 fun itv s2 h2 => ?_)
  obtain ⟨it, fp, tn, J, H2, e, I2, T, st2, f2, hW⟩ := h2
  subst e
  have fresh2 : H2 s2.heap.objs.size = none := I2.hok.fresh (Nat.le_refl _)
  obtain ⟨W, ⟨m0, w0⟩, turn⟩ := hW s2.heap.objs.size fresh2
  refine wpAny_newObj_type (wpAny_newFunctionEnv B.nocell (by intro y hy; simp at hy) (fun h₁ hns₁ hsb₁ => ?_) B.kind)
  dsimp only at hns₁ hsb₁ ⊢
  generalize hH2 : s2.heap.push { cls := .type "list", dict := none, data := .seq ([] : List Value).toArray } = HP at hns₁ hsb₁ ⊢
  have hC : HP.objs.size = s2.heap.objs.size + 1 := by rw [← hH2, Heap.size_push]
  have hCle : s2.heap.objs.size ≤ HP.objs.size := by rw [hC]; exact Nat.le_succ _
  have hDC : s2.heap.objs.size ≠ HP.objs.size := by rw [hC]; exact Nat.ne_of_lt (Nat.lt_succ_self _)
  have below : ∀ b, b < s2.heap.objs.size → b ≠ HP.objs.size := fun b hb => Nat.ne_of_lt (Nat.lt_of_lt_of_le hb hCle)
  have old : ∀ b o, s2.heap.get? b = some o → h₁.get? b = some o := fun b o e => hsb₁.extBut b o (below b (Heap.lt_size e)) (Heap.get?_push_of_some _ (hH2 ▸ Heap.get?_push_of_some _ e))
  have hacc : h₁.get? s2.heap.objs.size = some { cls := .type "list", dict := none, data := .seq ([] : List Value).toArray } := hsb₁.extBut _ _ hDC (Heap.get?_push_of_some _ (hH2 ▸ Heap.get?_push_size _ rfl))
  have fplt : ∀ b ∈ fp, b < s2.heap.objs.size := fun b hb => by
    obtain ⟨o, ho, _⟩ := T.obj 0 _ st2 b hb
    exact Heap.lt_size ho
  have okY : (blk X scope NB HP.objs.size s2 H2 fp).Ok := blk_ok B I2 f2 (fun b hb => below b (fplt b hb)) hCle
  have lenτ : (tau js σ).length = NB.length := by unfold tau; rw [List.length_map]; exact B.len
  have IY : Inv (blk X scope NB HP.objs.size s2 H2 fp) [] (tau js σ) (upd H2 s2.heap.objs.size (.lst [])) { s2 with heap := h₁, toks := s2.toks + ([] : List (Str × Value)).length } := by
    refine ⟨okY, rfl, I2.bare, Un.laid old (Nat.le_refl _) fresh2, ⟨_, hns₁, fun i x v e1 e2 e3 => ?_⟩, fun x c e => ?_, ?_, fun x c e => ?_, fun p hp => absurd (show p ∈ ([] : List (Addr × Obj)) from hp) (by simp), I2.hok.laid old (Nat.le_refl _) ?_, lenτ⟩
    · obtain ⟨j, ej, ev⟩ := tau_get e2
      obtain ⟨x', n1, n2, n3, n4, n5⟩ := B.outer i j ej
      have ex : x' = x := Option.some.inj (n1.symm.trans e1)
      subst ex
      obtain ⟨m, _, hl⟩ := I2.loc
      obtain ⟨u, ru, l⟩ := hl j x' v n2 ev n4
      refine ⟨u, ru, .inr ?_⟩
      have e3' : Vis (relabel scope X.env) x' := e3
      have nl := B.inner i x' e1 n3 e3'
      have kk : (relabel scope X.env).names.lookup x' = some .cell ∨ (relabel scope X.env).names.lookup x' = some .free := by
        rcases e3' with z | z | z
        · exact absurd z nl
        · exact .inl z
        · exact .inr z
      refine ⟨kk, ?_⟩
      rcases l with ⟨z, _⟩ | ⟨_, c, ec, cell⟩
      · exact absurd z n5
      · obtain ⟨c', ec'⟩ := closOf_has (env := X.env) n3
        have q := (mem_closOf B.there ec').1
        rw [ec] at q
        cases q
        exact ⟨c, ec', cell.keeps old⟩
    · obtain ⟨v, z⟩ := I2.cell x c (mem_closOf B.there e).1
      exact ⟨v, z.keeps old⟩
    · show upd H2 s2.heap.objs.size (.lst []) HP.objs.size = none
      rw [upd_ne (Ne.symm hDC)]
      exact I2.hok.fresh hCle
    · have ec := (mem_closOf B.there e).1
      obtain ⟨v, o, ho, _⟩ := I2.cell x c ec
      rw [upd_ne (Nat.ne_of_lt (Heap.lt_size ho))]
      exact I2.freeC x c ec
    · exact ⟨by show 0 ≤ sizeLine; exact Nat.zero_le _, [], 0, .nil, hacc⟩
  have st1 : tn 0 h₁ := T.keep 0 _ _ st2 fun b _ o e => old b o e
  have statY : ∀ {H' : Hp}, (∀ b ∈ fp, H' b = none) → ∀ b ∈ fp, FpOk (blk X scope NB HP.objs.size s2 H2 fp) [] H' b := fun {H'} hn b hb =>
    ⟨hn b hb, below b (fplt b hb), okY.exfs b hb, .inl hb, (okY.exf b hb).2, fun p hp => absurd (show p ∈ ([] : List (Addr × Obj)) from hp) (by simp)⟩
  have frN : ∀ b ∈ fp, upd H2 s2.heap.objs.size (.lst []) b = none := fun b hb => by
    rw [upd_ne (Nat.ne_of_lt (fplt b hb))]
    exact (f2 b hb).1
  have loop : ∀ s₃ : Shared, s₃ = { s2 with heap := h₁, toks := s2.toks + ([] : List (Str × Value)).length } →
      codeAny (model X.prog X.w) X.A (.compLoop (.ListComp elt [⟨tg, iter, ifs, 0⟩] scope pos) 0 (.ref it) (.ref s2.heap.objs.size) (compEnvC scope (closOf scope X.env) HP.objs.size X.env))
        (compPost (model X.prog X.w) X.A X.xe none (EP X pins σ Q) (.ref s2.heap.objs.size) HP.objs.size) s₃ := by
    rintro s₃ rfl
    refine compLoop_any (fun n s' => ∃ i ys H', Inv (blk X scope NB HP.objs.size s2 H2 fp) [] (tau js σ) H' s' ∧ tn i s'.heap ∧ (∀ b ∈ fp, H' b = none) ∧ W i n ys H') ?_ m0 ⟨0, [], _, IY, st1, frN, w0⟩
    rintro n s3 ⟨i, ys, H3, I3, st3, fr3, w3⟩
    rcases turn i n ys H3 w3 with ⟨stop, qq⟩ | ⟨go, NN, hNN, step⟩
    · refine thn (T.done (blk X scope NB HP.objs.size s2 H2 fp) rfl rfl rfl hc i [] s3 (tau js σ) H3 (fun _ _ => False) I3 (statY fr3) st3 stop) fun r s4 ⟨hr, I4⟩ => ?_
      subst hr
      obtain ⟨m4, hn4, _⟩ := id I4.loc
      refine ⟨m4, hn4, fun h' sb => ⟨.ref s2.heap.objs.size, H3, ?_, rfl, qq⟩⟩
      have u4 : Un (frs X.stack) fp H2 H3 s2.heap s4.heap := I4.base
      exact I2.call' (s' := { s4 with heap := h' }) I4.os (u4.but hCle sb) (I4.hok.but I4.free sb) I4.bare fun b hb => ⟨(f2 b hb).2.2.2.1, (f2 b hb).2.1, (f2 b hb).2.2.2.2.1, (f2 b hb).2.2.2.2.2⟩
    · refine thn (T.item (blk X scope NB HP.objs.size s2 H2 fp) rfl rfl rfl hc i [] s3 (tau js σ) H3 (fun _ _ => False) I3 (statY fr3) st3 go) fun r s4 ⟨u, hr, h4⟩ => ?_
      subst hr
      refine thn h4 fun _ s5 ⟨x, H5, I5, r5, y5, st5, fr5⟩ => ?_
      have I5' := I5.pinned (statY fr5) (T.obj _ _ st5)
      refine thn (hg _ _ _ _ _ s5 (tau js σ) H5 x u _ I5' r5 (step x H5 y5)) fun _ s6 ⟨σ6, H6, I6, ag, q6⟩ => ?_
      have back : ∀ {s7 : Shared} {H7 : Hp}, Inv (blk X scope NB HP.objs.size s2 H2 fp) ([] ++ pinsAt fp s5.heap) σ6 H7 s7 → Inv (blk X scope NB HP.objs.size s2 H2 fp) [] (tau js σ) H7 s7 ∧ tn (i + 1) s7.heap ∧ ∀ b ∈ fp, H7 b = none := fun {s7 H7} I7 => by
        refine ⟨I7.unpinned.weak (lenτ.trans I7.len.symm) ag, T.keep _ _ _ st5 fun b hb o e => (I7.pin (b, o) (List.mem_append_right _ (List.mem_append_right _ (mem_pinsAt hb e)))).1, fun b hb => ?_⟩
        obtain ⟨o, e, d⟩ := T.obj _ _ st5 b hb
        exact (I7.pin (b, o) (List.mem_append_right _ (List.mem_append_right _ (mem_pinsAt hb e)))).2.1
      refine thn (ht _ _ _ _ _ s6 σ6 H6 _ I6 q6) fun ok s7 ⟨H7, I7, q7⟩ => ?_
      cases ok with
      | false =>
        obtain ⟨m', hm, w7⟩ := hNN _ _ q7
        obtain ⟨J1, J2, J3⟩ := back I7
        exact ⟨m', hm, i + 1, ys, H7, J1, J2, J3, w7⟩
      | true =>
        refine thn (he _ _ _ _ _ s7 σ6 H7 _ I7 q7) fun v s8 ⟨y, H8, I8, r8, hD8, hz, n8⟩ => ?_
        obtain ⟨m', hm, w8⟩ := hNN _ _ n8
        refine thn (mt_append _ s8 σ6 H8 (.ref s2.heap.objs.size) [y] (.ref s2.heap.objs.size) [v] (fun z H' => z = .non ∧ H' = upd H8 s2.heap.objs.size (.lst (ys ++ [y]))) I8 rfl (.cons r8 .nil) ⟨_, ys, y, rfl, rfl, hD8, hz, ⟨rfl, rfl⟩⟩) fun _ s9 ⟨z, H9, I9, r9, q9⟩ => ?_
        obtain ⟨ez, e9⟩ : z = .non ∧ H9 = upd H8 s2.heap.objs.size (.lst (ys ++ [y])) := q9
        subst e9
        obtain ⟨J1, J2, J3⟩ := back I9
        exact ⟨m', hm, i + 1, ys ++ [y], _, J1, J2, J3, w8⟩
  exact codeAny_compStart_list (loop _ rfl) (T.self _ _ _ _ _ st1 (loop _ rfl))

/-! ### the forms one uses -/
section
variable {g : TG} {tt : TT} {te : TE} {τ : St} {Q : VK} {H1 : Hp} {D : Addr}
theorem comp_range {lo : Int} {n : Nat} (Pv : Nat → List V → Hp → Prop) (h0 : Pv 0 [] (upd H1 D (.lst []))) (hs : ∀ i ys H, i < n → Pv i ys H → turnC g tt te τ D ys (Pv (i + 1)) (.int (lo + i)) H) (hd : ∀ ys H, Pv n ys H → Q (.ref D) H) :
    ∃ W : Nat → Nat → List V → Hp → Prop, (∃ m, W 0 m [] (upd H1 D (.lst []))) ∧ ∀ i m ys H, W i m ys H → ((Itr lo n).stop i H ∧ Q (.ref D) H) ∨ ((Itr lo n).go i H ∧ ∃ N : List V → Hp → Prop, (∀ ys' H', N ys' H' → ∃ m', m' < m ∧ W (i + 1) m' ys' H') ∧ ∀ x H', (Itr lo n).yld i H x H' → turnC g tt te τ D ys N x H') := by
  refine ⟨fun i m ys H => m = n - i ∧ i ≤ n ∧ Pv i ys H, ⟨n, by simp, Nat.zero_le _, h0⟩, ?_⟩
  rintro i m ys H ⟨rfl, hi, p⟩
  by_cases hlt : i < n
  · refine .inr ⟨hlt, Pv (i + 1), fun ys' H' p' => ⟨n - (i + 1), by omega, rfl, hlt, p'⟩, fun x H' y => ?_⟩
    obtain ⟨e, y⟩ := y
    subst e y
    exact hs i ys _ hlt p
  · have e : i = n := by omega
    subst e
    exact .inl ⟨Nat.le_refl _, hd ys H p⟩
theorem comp_list {K : PySem.W.Frag} {a : Addr} {xs : List V} (Pv : Nat → List V → Hp → Prop) (h0 : Pv 0 [] (upd H1 D (.lst []))) (hl : ∀ i ys H, i ≤ xs.length → Pv i ys H → SqL K H a xs)
    (hs : ∀ i ys x H, xs[i]? = some x → Pv i ys H → turnC g tt te τ D ys (Pv (i + 1)) x H) (hd : ∀ ys H, Pv xs.length ys H → Q (.ref D) H) :
    ∃ W : Nat → Nat → List V → Hp → Prop, (∃ m, W 0 m [] (upd H1 D (.lst []))) ∧ ∀ i m ys H, W i m ys H → ((Itl K a).stop i H ∧ Q (.ref D) H) ∨ ((Itl K a).go i H ∧ ∃ N : List V → Hp → Prop, (∀ ys' H', N ys' H' → ∃ m', m' < m ∧ W (i + 1) m' ys' H') ∧ ∀ x H', (Itl K a).yld i H x H' → turnC g tt te τ D ys N x H') := by
  refine ⟨fun i m ys H => m = xs.length - i ∧ i ≤ xs.length ∧ Pv i ys H, ⟨xs.length, by simp, Nat.zero_le _, h0⟩, ?_⟩
  rintro i m ys H ⟨rfl, hi, p⟩
  have q := hl i ys H hi p
  by_cases hlt : i < xs.length
  · refine .inr ⟨⟨xs, xs[i], q, by simp [hlt]⟩, Pv (i + 1), fun ys' H' p' => ⟨xs.length - (i + 1), by omega, rfl, hlt, p'⟩, fun x H' y => ?_⟩
    obtain ⟨e, y⟩ := y
    subst e
    exact hs i ys x _ (y xs q) p
  · have e : i = xs.length := by omega
    subst e
    exact .inl ⟨⟨xs, q, Nat.le_refl _⟩, hd ys H p⟩
theorem comp_tup {K : PySem.W.Frag} {a : Addr} {xs : List V} (Pv : Nat → List V → Hp → Prop) (h0 : Pv 0 [] (upd H1 D (.lst []))) (hl : ∀ i ys H, i ≤ xs.length → Pv i ys H → SqT K H a xs)
    (hs : ∀ i ys x H, xs[i]? = some x → Pv i ys H → turnC g tt te τ D ys (Pv (i + 1)) x H) (hd : ∀ ys H, Pv xs.length ys H → Q (.ref D) H) :
    ∃ W : Nat → Nat → List V → Hp → Prop, (∃ m, W 0 m [] (upd H1 D (.lst []))) ∧ ∀ i m ys H, W i m ys H → ((Itt K a).stop i H ∧ Q (.ref D) H) ∨ ((Itt K a).go i H ∧ ∃ N : List V → Hp → Prop, (∀ ys' H', N ys' H' → ∃ m', m' < m ∧ W (i + 1) m' ys' H') ∧ ∀ x H', (Itt K a).yld i H x H' → turnC g tt te τ D ys N x H') := by
  refine ⟨fun i m ys H => m = xs.length - i ∧ i ≤ xs.length ∧ Pv i ys H, ⟨xs.length, by simp, Nat.zero_le _, h0⟩, ?_⟩
  rintro i m ys H ⟨rfl, hi, p⟩
  have q := hl i ys H hi p
  by_cases hlt : i < xs.length
  · refine .inr ⟨⟨xs, xs[i], q, by simp [hlt]⟩, Pv (i + 1), fun ys' H' p' => ⟨xs.length - (i + 1), by omega, rfl, hlt, p'⟩, fun x H' y => ?_⟩
    obtain ⟨e, y⟩ := y
    subst e
    exact hs i ys x _ (y xs q) p
  · have e : i = xs.length := by omega
    subst e
    exact .inl ⟨⟨xs, q, Nat.le_refl _⟩, hd ys H p⟩
end
end L2
set_option Elab.async false
set_option linter.all false
set_option maxRecDepth 100000
/-! enumerate(a tuple), enumerate(a list): walked by a pair of names, over the hand layer. -/
namespace BE
open PySem PySem.Spec PyProof.Rows
open AutoSeq1 (wpAny_loadPart')
section
variable {prog : Program} {w : World} {A : Around} {E : Value → Shared → Prop} {s : Shared}
end
section
variable {prog : Program} {w : World} {A : Around} {E : Value → Shared → Prop} {s : Shared}
end
end BE

namespace L2
open PySem PySem.Spec PyProof.Rows
section
variable {X : Cx} {pins : List (Addr × Obj)} {σ : St} {H : Hp} {s : Shared} {h' : Heap}
end
section
variable {X : Cx} {es : List Expr} {ek : Nat} {tpos : Pos}
end
end L2
set_option Elab.async false
set_option linter.all false
set_option maxRecDepth 100000
/-! More rules over the hand layer: t + u and t[a:b] of any tuples, all(list), any(list). -/
namespace L2
open PySem PySem.Spec PyProof.Rows
section
variable {prog : Program} {w : World} {A : Around} {E : Value → Shared → Prop} {s : Shared}
/-- t + u: one of them, or a new one -/
theorem catAny {t b : Addr} {vs ws : List Value} {Q : Value → Shared → Prop} (ht : IsTup s.heap t vs.toArray) (hb : IsTup s.heap b ws.toArray) (h0 : vs = [] → Q (.ref b) s) (h1 : ws = [] → Q (.ref t) s)
    (h2 : Q (.ref s.heap.objs.size) { s with heap := s.heap.push { cls := .type "tuple", data := .seq (vs ++ ws).toArray } }) (hsz : vs.length + ws.length ≤ sizeLine) : wpAny (model prog w) A (binaryOp .Add (.ref t) (.ref b)) Q E s := by
  by_cases hv : vs = []
  · obtain ⟨⟨c1, d1, a1, l1⟩, o1, k1, n1, q1⟩ := id ht
    obtain ⟨⟨c2, d2, a2, l2⟩, o2, k2, n2, q2⟩ := id hb
    simp only at k1 q1 k2 q2
    subst k1 q1 k2 q2
    exact concat_meets ⟨_, o1, rfl⟩ ⟨_, o2, rfl⟩ noFill_tuple_add seq_tuple_add PySem.F.slot_tuple_add PySem.F.entry_tuple_add (PySem.F.args_tuple_add_2 _ _) (tuple_addW0 t b vs.toArray ws.toArray n1 n2 d1 d2 l1 l2 (by simp [hv])) ⟨o1, o2, h0 hv⟩
  · exact HT.cat_tup ht hb hv h1 (fun _ => h2) hsz
end
/-- t + u of tuples: a tuple with both's items, all else as it was -/
def rCatA : R2 := fun x y H Q => ∃ a b xs ys, x = .ref a ∧ y = .ref b ∧ H a = some (.tup xs) ∧ H b = some (.tup ys) ∧ xs.length + ys.length ≤ sizeLine ∧ ∀ p H', Same H H' → H' p = some (.tup (xs ++ ys)) → Q (.ref p) H'
section
variable {X : Cx}
theorem op_catA : OpR X (binaryOp .Add) rCatA := by
  intro pins s σ H x y v u Q I rx ry h
  obtain ⟨a, b, xs, ys, rfl, rfl, ha, hb, hz, q⟩ := h
  cases rx
  cases ry
  obtain ⟨i1, r1, p1, _⟩ := I.tuple (SqT.of ha)
  obtain ⟨i2, r2, p2, _⟩ := I.tuple (SqT.of hb)
  refine catAny p1 p2 (fun z => ⟨.ref b, H, I, rfl, q b H (Same.refl H) ?_⟩) (fun z => ⟨.ref a, H, I, rfl, q a H (Same.refl H) ?_⟩) ?_ (by rw [← r1.length, ← r2.length]; exact hz)
  · rw [r1.nil_iff.mp z]; exact hb
  · rw [r2.nil_iff.mp z, List.append_nil]; exact ha
  · have fr : H s.heap.objs.size = none := I.hok.fresh (Nat.le_refl _)
    refine ⟨.ref s.heap.objs.size, _, I.laid (t' := s.toks) (o := .tup (xs ++ ys)) (fun b ob q => Heap.get?_push_of_some _ q) (Nat.le_refl _) ?_, rfl, q _ _ (same_new fr _) upd_same⟩
    exact ⟨by rw [List.length_append]; exact hz, _, r1.append r2, TupP.new _ _⟩
/-! ### all(xs), any(xs) of a list of bools -/
def rAll : List V → Hp → VK → Prop := fun vs H Q => ∃ (a : Addr) (bs : List Bool), vs = [.ref a] ∧ H a = some (.lst (bs.map V.bl)) ∧ Q (.bl (bs.all id)) H
theorem bools_of : ∀ {bs : List Bool} {us : List Value}, Vals (bs.map V.bl) us → us = bs.map Value.bool
  | [], _, .nil => rfl
  | b :: r, _, .cons q t => by rw [show _ = Value.bool b from q, bools_of t]; rfl
theorem range_all (bs : List Bool) : (List.range bs.length).all (fun i => bs.getD i false) = bs.all id := by
  rw [Bool.eq_iff_iff, List.all_eq_true, List.all_eq_true]
  constructor
  · intro h b hb
    obtain ⟨i, hi, e⟩ := List.getElem_of_mem hb
    have := h i (List.mem_range.mpr hi)
    rw [List.getD_eq_getElem?_getD, List.getElem?_eq_getElem hi] at this
    rw [← e]; exact this
  · intro h i hi
    have hi' := List.mem_range.mp hi
    rw [List.getD_eq_getElem?_getD, List.getElem?_eq_getElem hi']
    exact h _ (List.getElem_mem hi')
theorem truth_bools {A : Around} (bs : List Bool) : TruthOf X.prog X.w A (fun i v => (bs.map Value.bool).toArray[i]? = some v) (fun i => bs.getD i false) := fun i v s Q E hP hQ => by
  have h2 : (bs.map Value.bool)[i]? = some v := by simpa using hP
  rw [List.getElem?_map] at h2
  cases e : bs[i]? with
  | none => rw [e] at h2; cases h2
  | some b =>
    rw [e] at h2
    cases h2
    refine wpAny_truthy_bool ?_
    have z : bs.getD i false = b := by rw [List.getD_eq_getElem?_getD, e]; rfl
    have hQ' : Q (bs.getD i false) s := hQ
    rw [z] at hQ'
    exact hQ'
theorem call_allL (hc : X.calm = true) : CallR X (.builtin "all") rAll := by
  intro pins s σ H xs us Q I rs h
  obtain ⟨a, bs, rfl, hl, q⟩ := h
  obtain ⟨u, rfl, ru⟩ := vals1 rs
  cases ru
  obtain ⟨its, rv, p, hz⟩ := I.list (SqL.of hl)
  have e := bools_of rv
  subst e
  obtain ⟨oa, hoa, _⟩ := id p.isList
  have hne : a ≠ s.heap.objs.size := Nat.ne_of_lt (Heap.lt_size hoa)
  refine call_all_walk (wpAny_pyIter_list p.isList ?_)
  refine ⟨s.heap.objs.size, _, _, _, _, _, fun i => bs.getD i false, rfl, Walks.list (A := X.A.in1) (I.ok.hd hc) _ a hne (bs.map Value.bool).toArray, ⟨⟨_, Heap.get?_push_size _ rfl, rfl, rfl⟩, p.isList.at fun o r => Heap.get?_push_of_some _ r⟩, truth_bools bs, fun h' tk hk => ?_⟩
  have en : (List.range (bs.map Value.bool).toArray.size).all (fun i => bs.getD i false) = bs.all id := by
    rw [List.size_toArray, List.length_map]; exact range_all bs
  refine ⟨.bl (bs.all id), H, I.kept (t' := tk) fun b o r => hk b o (fun z => ?_) (Heap.get?_push_of_some _ r), (by rw [en]; exact rfl), q⟩
  have z' : b = s.heap.objs.size := by simpa using z
  exact absurd z' (Nat.ne_of_lt (Heap.lt_size r))
end
end L2
set_option Elab.async false
set_option linter.all false
set_option maxRecDepth 100000
/-! Errors of the program's own over the hand layer: raised, passed on by callers. -/
namespace L2
open PySem PySem.Spec PyProof.Rows
theorem ObjOk.get {P : Program} {w : World} {H : Hp} {h : Heap} {a : Addr} {o : HO} (x : ObjOk P w H h a o) : ∃ ob, h.get? a = some ob := by
  cases o with
  | lst xs => obtain ⟨_, _, _, _, e⟩ := x; exact ⟨_, e⟩
  | tup xs => obtain ⟨_, _, _, o, e, _⟩ := x; exact ⟨_, e⟩
  | dK kvs => obtain ⟨_, _, _, _, o, _, _, e, _⟩ := x; exact ⟨_, e⟩
  | dT kvs => obtain ⟨_, _, _, _, o, _, _, e, _⟩ := x; exact ⟨_, e⟩
  | set S n => obtain ⟨o, _, _, _, e, _⟩ := x; exact ⟨_, e⟩
  | ins C dx fs => obtain ⟨_, _, _, e, _⟩ := x; exact ⟨_, e⟩
  | own y => exact x
  | xd fs => obtain ⟨_, ⟨_, _, _, e, _⟩, _⟩ := x; exact ⟨_, e⟩
  | rng lo hi => obtain ⟨_, _, _, e⟩ := x; exact ⟨_, e⟩
  | frz ob u => obtain ⟨e, _⟩ := x; exact ⟨_, e⟩
  | tbl ps => exact ⟨_, (show h.get? a = some _ from x)⟩
  | met f y => exact ⟨_, (show h.get? a = some _ from x)⟩
  | ext φ => exact x.2.1

/-- an error of the own class C lies behind a call: the object at a flies over the callers' frames; B: all else that stands -/
structure FlyX (P : Program) (w : World) (outer : List Env) (H : Hp) (s : Shared) (a C t : Addr) (H' : Hp) (B : Heap) (s' : Shared) : Prop where
  os : s'.os = s.os
  bare : AllBare s'.gens
  un : Un (frs outer) [] H H' s.heap s'.heap
  hok : HOk P w H' s'.heap
  fly : Heap.FlyingW B outer a (.ref C) (.ref t) s'.heap
  old : ∀ b o, s.heap.get? b = some o → b ∉ frs outer → ∃ ob, B.get? b = some ob
  trk : ∀ b o, H' b = some o → ∃ ob, B.get? b = some ob
def CXr (P : Program) (w : World) : CXT := fun outer H s E e s' => ∃ (a C t : Addr) (H' : Hp) (B : Heap), e = .ref a ∧ FlyX P w outer H s a C t H' B s' ∧ E (.ref C) none H'
/-- where no error is wished none comes -/
theorem passN {P : Program} {w : World} {X : Cx} : Passes (CXr P w) X E0 := fun _ _ _ _ _ _ _ h => let ⟨_, _, _, _, _, _, _, z⟩ := h; False.elim z

/-- from one heap to the next: B stands, the frames change their slots alone -/
theorem fly_step {P : Program} {w : World} {outer : List Env} {H H' : Hp} {h0 h1 h2 B : Heap} (un : Un (frs outer) [] H H' h0 h1) (hok : HOk P w H' h1) (b1 : B.StaysIn h1) (b2 : B.StaysIn h2)
    (old : ∀ b o, h0.get? b = some o → b ∉ frs outer → ∃ ob, B.get? b = some ob) (trk : ∀ b o, H' b = some o → ∃ ob, B.get? b = some ob) (frm : ∀ b ∈ frs outer, ∀ o, h1.get? b = some o → ∃ sl, h2.get? b = some { o with slots := sl }) :
    Un (frs outer) [] H H' h0 h2 ∧ HOk P w H' h2 := by
  have on : ∀ b ob o, B.get? b = some ob → h1.get? b = some o → h2.get? b = some o := fun b ob o q r => by
    have z := b1 b ob q
    rw [r] at z
    cases z
    exact b2 b _ q
  refine ⟨⟨fun b o e n hb hx => ?_, fun b o e n hb hx => ?_, un.free, fun b o e hx => ?_, un.tups, un.frzs, un.tbls⟩, fun b u e => ?_⟩
  · obtain ⟨ob, q⟩ := old b o e hb
    exact on b ob o q (un.keep b o e n hb hx)
  · obtain ⟨sl, q⟩ := un.slot b o e n hb hx
    obtain ⟨sl', r⟩ := frm b hb _ q
    exact ⟨sl', r⟩
  · by_cases hb : b ∈ frs outer
    · obtain ⟨o', q⟩ := un.there b o e hx
      obtain ⟨sl, r⟩ := frm b hb _ q
      exact ⟨_, r⟩
    · obtain ⟨ob, q⟩ := old b o e hb
      exact ⟨_, b2 b ob q⟩
  · refine (hok b u e).stay (fun c v hc q => ?_) (fun _ q => q) fun _ _ q => q
    rcases hc with hc | hc
    · subst hc
      obtain ⟨ob, r⟩ := trk c u e
      exact on c ob v r q
    · obtain ⟨ob, r⟩ := trk c _ hc
      exact on c ob v r q

section
variable {P : Program} {w : World} {K : PySem.W.Frag} {mg : Str → Option Value} {base : Heap} {N : List Str} {qual : Str} {scope : Scope} {f : Addr} {cd : Value} {A : Around} {outer : List Env} {s : Shared} {H : Hp} {E : XK}
/-- an error is made here, and leaves the def -/
theorem leave_made {pins : List (Addr × Obj)} {σ : St} {H1 : Hp} {s1 : Shared} {h' : Heap} {a C : Addr} {vs : List Value} (I : Inv (cxOf (CXr P w) P w K mg base N qual scope f cd A outer s H E) pins σ H1 s1) (hx : Heap.MadeExcOf s1.heap h' a (.ref C) vs)
    (hE : E (.ref C) none H1) : (cxOf (CXr P w) P w K mg base N qual scope f cd A outer s H E).xe (.ref a) { s1 with heap := h' } := by
  have fr : ∀ env ∈ (envOfC qual scope s.heap.objs.size f cd :: outer), ∀ b, env.frame = some b → b ∈ frs (envOfC qual scope s.heap.objs.size f cd :: outer) := fun env he b hb => List.mem_filterMap.mpr ⟨env, he, hb⟩
  have hst : s1.heap.FunFrames base (envOfC qual scope s.heap.objs.size f cd :: outer) := I.stack
  have hout : ∀ b, b ∉ frs outer → b ≠ s.heap.objs.size → b ∉ frs (envOfC qual scope s.heap.objs.size f cd :: outer) := fun b h1 h2 z => by
    rcases List.mem_cons.mp (I.stkSub b z) with q | q
    · exact h2 q
    · exact h1 q
  have B1 : (PySem.W.hideAll s1.heap (frs (envOfC qual scope s.heap.objs.size f cd :: outer))).StaysIn s1.heap := fun b o q => PySem.W.of_hideAll _ q
  have bin : ∀ b o, b ∉ frs (envOfC qual scope s.heap.objs.size f cd :: outer) → s1.heap.get? b = some o → (PySem.W.hideAll s1.heap (frs (envOfC qual scope s.heap.objs.size f cd :: outer))).get? b = some o := fun b o n q => PySem.W.hideAll_get _ q n
  have old : ∀ b o, s.heap.get? b = some o → b ∉ frs outer → ∃ ob, (PySem.W.hideAll s1.heap (frs (envOfC qual scope s.heap.objs.size f cd :: outer))).get? b = some ob := fun b o q n => by
    obtain ⟨o', r⟩ := I.base.there b o q (fun z => nomatch (show b ∈ ([] : List Addr) from z))
    exact ⟨o', bin b o' (hout b n (Nat.ne_of_lt (Heap.lt_size q))) r⟩
  have trk : ∀ b o, H1 b = some o → ∃ ob, (PySem.W.hideAll s1.heap (frs (envOfC qual scope s.heap.objs.size f cd :: outer))).get? b = some ob := fun b o q => by
    obtain ⟨ob, r⟩ := (I.hok b o q).get
    refine ⟨ob, bin b ob (fun z => ?_) r⟩
    rw [I.stkFree b z] at q
    cases q
  refine wpAny_leaves_madeW (base := PySem.W.hideAll s1.heap (frs (envOfC qual scope s.heap.objs.size f cd :: outer))) (L := s.heap.objs.size) I.ok.frames rfl B1 (PySem.W.funFrames_hide hst fr) hx fun h2 t fl tup tn ups => ?_
  have un1 : Un (frs outer) [] H H1 s.heap s1.heap := I.base
  have frm : ∀ b ∈ frs outer, ∀ o, s1.heap.get? b = some o → ∃ sl, h2.get? b = some { o with slots := sl } := fun b hb o q => by
    obtain ⟨_, o', r, nf⟩ := I.funs.mem hb
    rw [q] at r
    cases r
    exact ups b o (hx.keeps b o q) nf
  obtain ⟨un2, hok2⟩ := fly_step un1 I.hok B1 fl.1 old trk frm
  exact ⟨a, C, t, H1, _, rfl, ⟨I.os, I.bare, un2, hok2, fl, old, trk⟩, hE⟩
/-- an error of a callee leaves this def too -/
theorem passR : Passes (CXr P w) (cxOf (CXr P w) P w K mg base N qual scope f cd A outer s H E) E := by
  intro pins σ H1 s1 e s' I h
  obtain ⟨a, C, t, H', B, rfl, F, hE⟩ := h
  have I' : Inv (cxOf (CXr P w) P w K mg base N qual scope f cd A outer s H E) pins σ H' s' := I.call' F.os F.un F.hok F.bare fun b hb => nomatch hb
  have hout : ∀ b, b ∉ frs outer → b ≠ s.heap.objs.size → b ∉ frs (envOfC qual scope s.heap.objs.size f cd :: outer) := fun b h1 h2 z => by
    rcases List.mem_cons.mp (I.stkSub b z) with q | q
    · exact h2 q
    · exact h1 q
  have old : ∀ b o, s.heap.get? b = some o → b ∉ frs outer → ∃ ob, B.get? b = some ob := fun b o q n => by
    obtain ⟨o', r⟩ := I.base.there b o q (fun z => nomatch (show b ∈ ([] : List Addr) from z))
    exact F.old b o' r (hout b n (Nat.ne_of_lt (Heap.lt_size q)))
  refine wpAny_leaves_onW (base := B) (L := s.heap.objs.size) I.ok.frames rfl F.fly fun h2 fl ups => ?_
  have un1 : Un (frs outer) [] H H' s.heap s'.heap := I'.base
  have frm : ∀ b ∈ frs outer, ∀ o, s'.heap.get? b = some o → ∃ sl, h2.get? b = some { o with slots := sl } := fun b hb o q => by
    obtain ⟨_, o', r, nf⟩ := I'.funs.mem hb
    rw [q] at r
    cases r
    exact ups b o q nf
  obtain ⟨un2, hok2⟩ := fly_step un1 I'.hok F.fly.1 fl.1 old F.trk frm
  exact ⟨a, C, t, H', B, rfl, ⟨I'.os, I'.bare, un2, hok2, fl, old, F.trk⟩, hE⟩

/-- an own error class by the looks at the written part -/
theorem own_at {K : PySem.W.Frag} {h : Heap} {mg : Str → Option Value} {x : Str} {C : Addr} {bm : List Value} {newId : String} (X : K.In h) (m : mg x = some (.ref C)) (q : PySem.W.excIn K C bm newId = true) : OwnCls x C bm newId mg h := by
  refine ⟨m, ?_⟩
  unfold PySem.W.excIn at q
  split at q
  · rename_i d1 c1 s1 look
    split at q
    · rename_i C1 b1 e0 e1 e2 e3 n1 e5 mro slots
      simp only [Bool.and_eq_true, beq_iff_eq, Bool.not_eq_true'] at q
      obtain ⟨⟨⟨⟨⟨rfl, rfl⟩, nodel⟩, tail⟩, good⟩, noinit⟩ := q
      obtain ⟨a1, a2, a3, a4, a5, a6, a7, a8, a9, a10, a11⟩ := c1
      dsimp only at mro nodel good noinit
      subst mro nodel
      have es : s1 = #[e0, e1, e2, e3, some (.builtin n1), e5] := by
        obtain ⟨l1⟩ := s1
        simp only at slots
        rw [slots]
      subst es
      exact ⟨b1, a4, a1, a5, a2, a6, a7, a8, a9, a10, d1, e0, e1, e2, e3, e5, _, X _ _ look, .of_isNs (PySem.W.isNs_of_in X good), PySem.W.nsMap_none_of_in X good noinit, PySem.W.tail_of_in X tail⟩
    · cases q
  · cases q
/-- raise C(e), C an own error class -/
theorem ps_raise {x : Str} {C : Addr} {e0 : Expr} {te : TE} {np cpos pos : Pos} {bm : List Value} {Bn newId initId : String} (hm : mg x = some (.ref C)) (hq : PySem.W.excIn K C bm newId = true) (FB : ExcBaseFacts Bn newId initId bm) (hd : (A.deeper (envOfC qual scope s.heap.objs.size f cd)).handled = none)
    (he : PE (cxOf (CXr P w) P w K mg base N qual scope f cd A outer s H E) e0 te) (hg : Gl (cxOf (CXr P w) P w K mg base N qual scope f cd A outer s H E) x) (hdb : (x == ("__debug__" : Str)) = false := by decide)
    (hs : starEach [e0] (envOfC qual scope s.heap.objs.size f cd) = (false, eval e0 (envOfC qual scope s.heap.objs.size f cd)) :: [] := by rfl) :
    PS (cxOf (CXr P w) P w K mg base N qual scope f cd A outer s H E) (.Raise (some (.Call (.Name x np) [e0] [] cpos)) none pos) (fun _ σ H0 => tCons te tNil σ H0 fun xs H1 => xs.length ≤ sizeLine ∧ E (.ref C) none H1) := by
  intro pins s1 σ H1 D I h
  have O : OwnCls x C bm newId mg base := own_at I.mod.kin hm hq
  obtain ⟨tl, Nn, nm, q, bs, hdct, sn, sub, ab, col, dd, k0, k1, k2, k3, k5, mN, hC, hN, hni, T⟩ := O.obj
  refine wpAny_Raise_call_subT (C := C) (nm := nm) (q := q) (N := Nn) (bs := bs) (bm := tl) (hdct := hdct) (sn := sn) (sub := sub) (ab := ab) (col := col) (dd := dd) (k0 := k0) (k1 := k1) (k2 := k2) (k3 := k3) (k5 := k5)
    FB (mN := mN) (T.hasType FB.hasBase) hd (by show (backTo cpos (starEach [e0] (envOfC qual scope s.heap.objs.size f cd))).any (·.1) = false; rw [hs]; rfl) hni (ld_glob I hg O.bound ⟨rfl, ?_⟩ hdb)
  have pa : PA (cxOf (CXr P w) P w K mg base N qual scope f cd A outer s H E) [e0] (tCons te tNil) := pa_cons he pa_nil hs
  have z := pa cpos pins s1 σ H1 (fun xs H2 => xs.length ≤ sizeLine ∧ E (.ref C) none H2) I h
  show wpAny _ _ (evalArgs (.ref C) true (backTo cpos (starEach [e0] (envOfC qual scope s.heap.objs.size f cd))) []) _ _ _
  rw [hs]
  rw [show (cxOf (CXr P w) P w K mg base N qual scope f cd A outer s H E).env = envOfC qual scope s.heap.objs.size f cd from rfl, hs] at z
  refine Calls.evalArgs_plain (wpAny_mono z (fun vs s2 h2 => ?_) fun _ _ y => y)
  obtain ⟨xs, H2, I2, rv, ql, qE⟩ := h2
  have hlen : vs.length ≤ sizeLine := by rw [← rv.length]; exact ql
  exact ⟨rfl, hlen, I2.bk _ _ hC, hN.keeps I2.bk, T.keeps I2.bk, fun h' e hm => leave_made I2 hm qE⟩
end

/-! ### a def whose errors pass on, by its body -/
section
variable {P : Program} {w : World} {K : PySem.W.Frag} {mg : Str → Option Value} {base : Heap}
theorem Fun.okR {x qual : Str} {st : Stmt} {f : Addr} {fd : FuncData} {N ps : List Str} {k : Nat} {sp : Sp} (F : Fun K x qual st f fd) (S : FnScope N ps (defScope st)) (len : ∀ vs H Q E, sp vs H Q E → vs.length = ps.length)
    (hbody : ∀ (cdv : Value) (A : Around) (outer : List Env) (s : Shared) (H : Hp) (vs : List V) (Q : VK) (E : XK), Room k (A.deeper (envOfC qual (defScope st) s.heap.objs.size f cdv)) → sp vs H Q E →
      ∃ t, PSs (cxOf (CXr P w) P w K mg base N qual (defScope st) f cdv A outer s H E) (defBody st) t ∧ t { nx := fun _ H' => Q .non H', rt := Q } (start N vs) H) : FnOk P w K mg base (CXr P w) (k + 1) f fd ps sp := by
  obtain ⟨oc, od, kV, doc, pm, an, cdv, ct, osl, rfl, lk, hcd⟩ := F.ex
  refine fn_of lk hcd S len fun A outer s H vs Q E hr hsp => ?_
  obtain ⟨t, h, q⟩ := hbody cdv A outer s H vs Q E hr hsp
  exact ⟨t, h, q⟩
/-- .. for a def that no error leaves -/
theorem Fun.okN {x qual : Str} {st : Stmt} {f : Addr} {fd : FuncData} {N ps : List Str} {k : Nat} {sp : Sp} (F : Fun K x qual st f fd) (S : FnScope N ps (defScope st)) (len : ∀ vs H Q E, sp vs H Q E → vs.length = ps.length)
    (hbody : ∀ (cdv : Value) (A : Around) (outer : List Env) (s : Shared) (H : Hp) (vs : List V) (Q : VK) (E : XK), Room k (A.deeper (envOfC qual (defScope st) s.heap.objs.size f cdv)) → sp vs H Q E →
      ∃ t, PSs (cxOf (CXr P w) P w K mg base N qual (defScope st) f cdv A outer s H E).nox (defBody st) t ∧ t { nx := fun _ H' => Q .non H', rt := Q } (start N vs) H) : FnOk P w K mg base (CXr P w) (k + 1) f fd ps sp :=
  F.okR S len fun cdv A outer s H vs Q E hr h => let ⟨t, ht, q⟩ := hbody cdv A outer s H vs Q E hr h; ⟨t, ht.nox, q⟩
end
end L2
set_option Elab.async false
set_option linter.all false
set_option maxRecDepth 100000
namespace L2
open PySem PySem.Spec PyProof.Rows
/-! ### Python's own names -/
theorem bt_len : bootBuiltins "len" = some (.builtin "len") := by decide +kernel
theorem bt_isinstance : bootBuiltins "isinstance" = some (.builtin "isinstance") := by decide +kernel
theorem bt_min : bootBuiltins "min" = some (.builtin "min") := by decide +kernel
theorem bt_all : bootBuiltins "all" = some (.builtin "all") := by decide +kernel
theorem bt_int : bootBuiltins "int" = some (.type "int") := by decide +kernel
theorem bt_bool : bootBuiltins "bool" = some (.type "bool") := by decide +kernel
theorem bt_str : bootBuiltins "str" = some (.type "str") := by decide +kernel
theorem bt_tuple : bootBuiltins "tuple" = some (.type "tuple") := by decide +kernel
/-! ### rules within a block: the written part said once -/
section
variable {X : Cx} (K : PySem.W.Frag)
theorem b_pg_tup {es : List Expr} {k : Nat} {t : TGs} {n : Nat} {pos : Pos} (hc : X.calm = true) (hp : PGs X es t) (hn : (assignEach es X.env).length = n := by rfl) (hst : (assignEach es X.env).findIdx? (·.1) = none := by rfl) (h : X.K = K := by rfl) : PG X (.Tuple es k pos) (gTup K n t) := h ▸ pg_tup hc hp hn hst
end
/-! ### a def of the text -/
structure DefAt (K : PySem.W.Frag) (mg : Str → Option Value) (x : Str) (st : Stmt) (ps : List Str) where
  a : Addr
  d : FuncData
  F : Fun K x x st a d
  b : Binds K d ps []
  m : mg x = some (.ref a)
structure ErrAt (K : PySem.W.Frag) (mg : Str → Option Value) (x : Str) where
  C : Addr
  m : mg x = some (.ref C)
  q : PySem.W.excIn K C [.type "ValueError", .type "Exception", .type "BaseException", .type "object"] "ValueError.__new__" = true
/-! ### the script, the town: a list that grows by 0 with each draw -/
def Scr (K : PySem.W.Frag) (H : Hp) (a : Addr) (ns : List Int) : Prop :=
  (∃ o, H a = some (.frz o (.lst (ns.map V.int)))) ∨
    ∃ (o : Obj) (its : Array Value) (n : Nat), K.lookup a = some o ∧ o.cls = .type "list" ∧ o.dict = none ∧ o.data = .seq its n ∧ its.size ≤ sizeLine ∧ Vals (ns.map V.int) its.toList
theorem Scr.sq {K : PySem.W.Frag} {H : Hp} {a : Addr} {ns : List Int} (h : Scr K H a ns) : SqL K H a (ns.map V.int) := h.elim (fun ⟨o, e⟩ => .inl (.inr ⟨o, e⟩)) .inr
theorem Scr.same {K : PySem.W.Frag} {H H' : Hp} {a : Addr} {ns : List Int} (h : Scr K H a ns) (e : Same H H') : Scr K H' a ns := h.elim (fun ⟨o, q⟩ => .inl ⟨o, e _ _ q⟩) .inr
theorem Scr.of {K : PySem.W.Frag} {H : Hp} {a : Addr} {ns : List Int} (h : SqL K H a (ns.map V.int)) (o : Only H) : Scr K H a ns := by
  rcases h with (h | ⟨ob, h⟩) | h
  · rcases o a with z | ⟨_, _, z⟩
    · rw [z] at h; cases h
    · rw [z] at h; cases h
  · exact .inl ⟨ob, h⟩
  · exact .inr h
def zeros (n : Nat) : List V := List.replicate n (.int 0)
theorem zeros_succ (n : Nat) : zeros n ++ [.int 0] = zeros (n + 1) := by unfold zeros; rw [List.replicate_succ']
theorem zeros_len (n : Nat) : (zeros n).length = n := List.length_replicate
/-- all but t is as it was -/
def SameX (t : Addr) (H H' : Hp) : Prop := ∀ b o, b ≠ t → H b = some o → H' b = some o
theorem SameX.refl (t : Addr) (H : Hp) : SameX t H H := fun _ _ _ h => h
theorem SameX.trans {t : Addr} {H H1 H2 : Hp} (a : SameX t H H1) (b : SameX t H1 H2) : SameX t H H2 := fun c o n h => b c o n (a c o n h)
theorem Same.x {H H' : Hp} (e : Same H H') (t : Addr) : SameX t H H' := fun b o _ h => e b o h
theorem SameX.write {t : Addr} {H H' : Hp} (e : SameX t H H') (o : HO) : SameX t H (upd H' t o) := fun b u n h => by rw [upd_ne n]; exact e b u n h
theorem SameX.new {t p : Addr} {H H' : Hp} (e : SameX t H H') (hp : H' p = none) (o : HO) : SameX t H (upd H' p o) := fun b u n h => by
  have q := e b u n h
  rw [upd_ne (ne_of_none q hp)]; exact q
theorem SameX.ts {t : Addr} {H H' : Hp} (e : SameX t H H') {xs : List V} (h : H t = some (.lst xs)) : TSame H H' := fun b ys q => e b _ (ne_of q h (by intro z; cases z)) q
theorem SameX.scr {K : PySem.W.Frag} {t a : Addr} {H H' : Hp} {ns : List Int} (e : SameX t H H') {xs : List V} (h : H t = some (.lst xs)) (s : Scr K H a ns) : Scr K H' a ns := s.elim (fun ⟨o, q⟩ => .inl ⟨o, e _ _ (ne_of q h (by intro z; cases z)) q⟩) .inr
/-! ### a list of ints == [] -/
def rEqNil (K : PySem.W.Frag) : R2 := fun x y H Q => ∃ a b xs, x = .ref a ∧ y = .ref b ∧ SqL K H a xs ∧ SqL K H b [] ∧ Q (.bl (decide (xs = []))) H
theorem op_eqNil {X : Cx} (hu : X.A.units < cLine) : OpR X (compareOp .Eq) (rEqNil X.K) := by
  intro pins s σ H x y v u Q I rx ry h
  obtain ⟨a, b, xs, rfl, rfl, ha, hb, q⟩ := h
  cases rx
  cases ry
  obtain ⟨i1, r1, p1, _⟩ := I.list ha
  obtain ⟨i2, r2, p2, _⟩ := I.list hb
  have e2 : i2 = [] := by cases r2; rfl
  subst e2
  by_cases hx : xs = []
  · subst hx
    have e1 : i1 = [] := by cases r1; rfl
    subst e1
    refine SeqAt.eq_listAt (e := fun _ => true) p1.isList p2.isList rfl hu (fun j h1 _ => absurd h1 (by simp)) ⟨.bl true, H, I, rfl, ?_⟩
    exact q
  · refine SeqAt.eq_list_lengthsAt p1.isList p2.isList ?_ hu ⟨.bl false, H, I, rfl, ?_⟩
    · have := r1.length
      have hx' : xs.length ≠ 0 := fun z => hx (List.length_eq_zero_iff.mp z)
      have h1 : i1 ≠ [] := fun z => hx' (by rw [this, z]; rfl)
      simpa using h1
    · rw [decide_eq_false hx] at q
      exact q
end L2
set_option Elab.async false
set_option linter.all false
set_option maxRecDepth 100000
namespace L2
open PySem
theorem bt_ValueError : bootBuiltins "ValueError" = some (.type "ValueError") := by decide +kernel
end L2
namespace Be
open PySem L2
def top (i : Nat) : Stmt := PySem.Challenge.pw_benchends_k22_whole_world_texts.main.body.getD i (.Pass ⟨0, 0, 0, 0⟩)
set_option genInjectivity false in
structure Txt (K : PySem.W.Frag) (mg : Str → Option Value) where
  is_whole_within : DefAt K mg "is_whole_within" (top 17) ["thing", "least", "most"]
  is_pair : DefAt K mg "is_pair" (top 18) ["thing"]
  are_bounds_of_work : DefAt K mg "are_bounds_of_work" (top 19) ["thing"]
  are_bounds : DefAt K mg "are_bounds" (top 20) ["thing"]
  is_world : DefAt K mg "is_world" (top 21) ["thing"]
  check_world : DefAt K mg "check_world" (top 22) ["world"]
  how_many_benches : DefAt K mg "how_many_benches" (top 23) ["world"]
  check_text : DefAt K mg "check_text" (top 25) ["text"]
  read_number : DefAt K mg "read_number" (top 26) ["text", "least", "most"]
  bounds_text : DefAt K mg "bounds_text" (top 27) ["least", "greatest"]
  read_bounds : DefAt K mg "read_bounds" (top 28) ["text"]
  world_text : DefAt K mg "world_text" (top 29) ["world"]
  read_world : DefAt K mg "read_world" (top 30) ["text"]
  law_cell_at : DefAt K mg "_law_cell_at" (top 32) ["_law_script", "_law_k"]
  law_mixed : DefAt K mg "_law_mixed" (top 33) ["_law_script", "_law_k", "_law_many"]
  law_draw : DefAt K mg "_law_draw" (top 34) ["_law_script", "_law_town", "_law_many"]
  law_pick : DefAt K mg "_law_pick" (top 35) ["_law_script", "_law_town", "_law_some_here"]
  law_world : DefAt K mg "_law_world" (top 36) ["_law_script", "_law_town", "_law_most", "_law_wide"]
  law_which : DefAt K mg "_law_which" (top 40) ["_law_e"]
  law_ask : DefAt K mg "_law_ask" (top 41) ["_law_thing"]
  law_said : DefAt K mg "_law_said" (top 42) ["_law_world_here"]
  law_due : DefAt K mg "_law_due" (top 43) ["_law_text"]
  law : DefAt K mg "law" (top 44) ["_law_script"]
  n_ValueError : mg "ValueError" = none
  n_all : mg "all" = none
  n_bool : mg "bool" = none
  n_dict : mg "dict" = none
  n_int : mg "int" = none
  n_isinstance : mg "isinstance" = none
  n_len : mg "len" = none
  n_min : mg "min" = none
  n_range : mg "range" = none
  n_str : mg "str" = none
  n_tuple : mg "tuple" = none
  c_MOST_BENCHES : ∃ t, mg "MOST_BENCHES" = some (.int 4 t)
  c_MOST_WORKS : ∃ t, mg "MOST_WORKS" = some (.int 10 t)
  c_MOST_LENGTH : ∃ t, mg "MOST_LENGTH" = some (.int 99 t)
  e_BenchError : ErrAt K mg "BenchError"
  e_NoWorld : ErrAt K mg "NoWorld"
  e_NoOrder : ErrAt K mg "NoOrder"
  e_NoLengths : ErrAt K mg "NoLengths"
  e_NoWork : ErrAt K mg "NoWork"
  e_NoSide : ErrAt K mg "NoSide"
  e_Never : ErrAt K mg "Never"
  e_TooMany : ErrAt K mg "TooMany"
  e_NoStep : ErrAt K mg "NoStep"
  e_NoNumber : ErrAt K mg "NoNumber"
  e_NoRow : ErrAt K mg "NoRow"
  e_NoText : ErrAt K mg "NoText"
theorem sc_is_whole_within : FnScope ["thing", "least", "most"] ["thing", "least", "most"] (defScope (top 17)) := ⟨rfl, rfl, rfl, by decide +kernel, rfl, by decide +kernel, by decide +kernel⟩
theorem sc_is_pair : FnScope ["thing"] ["thing"] (defScope (top 18)) := ⟨rfl, rfl, rfl, by decide +kernel, rfl, by decide +kernel, by decide +kernel⟩
theorem sc_are_bounds_of_work : FnScope ["thing"] ["thing"] (defScope (top 19)) := ⟨rfl, rfl, rfl, by decide +kernel, rfl, by decide +kernel, by decide +kernel⟩
theorem sc_are_bounds : FnScope ["thing"] ["thing"] (defScope (top 20)) := ⟨rfl, rfl, rfl, by decide +kernel, rfl, by decide +kernel, by decide +kernel⟩
theorem sc_is_world : FnScope ["thing"] ["thing"] (defScope (top 21)) := ⟨rfl, rfl, rfl, by decide +kernel, rfl, by decide +kernel, by decide +kernel⟩
theorem sc_check_world : FnScope ["world"] ["world"] (defScope (top 22)) := ⟨rfl, rfl, rfl, by decide +kernel, rfl, by decide +kernel, by decide +kernel⟩
theorem sc_how_many_benches : FnScope ["world"] ["world"] (defScope (top 23)) := ⟨rfl, rfl, rfl, by decide +kernel, rfl, by decide +kernel, by decide +kernel⟩
theorem sc_check_text : FnScope ["text"] ["text"] (defScope (top 25)) := ⟨rfl, rfl, rfl, by decide +kernel, rfl, by decide +kernel, by decide +kernel⟩
theorem sc_read_number : FnScope ["text", "least", "most", "number"] ["text", "least", "most"] (defScope (top 26)) := ⟨rfl, rfl, rfl, by decide +kernel, rfl, by decide +kernel, by decide +kernel⟩
theorem sc_bounds_text : FnScope ["least", "greatest"] ["least", "greatest"] (defScope (top 27)) := ⟨rfl, rfl, rfl, by decide +kernel, rfl, by decide +kernel, by decide +kernel⟩
theorem sc_read_bounds : FnScope ["text", "parts", "least"] ["text"] (defScope (top 28)) := ⟨rfl, rfl, rfl, by decide +kernel, rfl, by decide +kernel, by decide +kernel⟩
theorem sc_world_text : FnScope ["world", "benches", "works"] ["world"] (defScope (top 29)) := ⟨rfl, rfl, rfl, by decide +kernel, rfl, by decide +kernel, by decide +kernel⟩
theorem sc_read_world : FnScope ["text", "parts", "benches", "works"] ["text"] (defScope (top 30)) := ⟨rfl, rfl, rfl, by decide +kernel, rfl, by decide +kernel, by decide +kernel⟩
theorem sc_law_cell_at : FnScope ["_law_script", "_law_k"] ["_law_script", "_law_k"] (defScope (top 32)) := ⟨rfl, rfl, rfl, by decide +kernel, rfl, by decide +kernel, by decide +kernel⟩
theorem sc_law_mixed : FnScope ["_law_script", "_law_k", "_law_many", "_law_drawn"] ["_law_script", "_law_k", "_law_many"] (defScope (top 33)) := ⟨rfl, rfl, rfl, by decide +kernel, rfl, by decide +kernel, by decide +kernel⟩
theorem sc_law_draw : FnScope ["_law_script", "_law_town", "_law_many"] ["_law_script", "_law_town", "_law_many"] (defScope (top 34)) := ⟨rfl, rfl, rfl, by decide +kernel, rfl, by decide +kernel, by decide +kernel⟩
theorem sc_law_pick : FnScope ["_law_script", "_law_town", "_law_some_here"] ["_law_script", "_law_town", "_law_some_here"] (defScope (top 35)) := ⟨rfl, rfl, rfl, by decide +kernel, rfl, by decide +kernel, by decide +kernel⟩
theorem sc_law_world : FnScope ["_law_script", "_law_town", "_law_most", "_law_wide", "_law_made", "_law_top", "_law_k", "_law_low"] ["_law_script", "_law_town", "_law_most", "_law_wide"] (defScope (top 36)) := ⟨rfl, rfl, rfl, by decide +kernel, rfl, by decide +kernel, by decide +kernel⟩
theorem sc_law_which : FnScope ["_law_e", "_law_own"] ["_law_e"] (defScope (top 40)) := ⟨rfl, rfl, rfl, by decide +kernel, rfl, by decide +kernel, by decide +kernel⟩
theorem sc_law_ask : FnScope ["_law_thing", "_law_e"] ["_law_thing"] (defScope (top 41)) := ⟨rfl, rfl, rfl, by decide +kernel, rfl, by decide +kernel, by decide +kernel⟩
theorem sc_law_said : FnScope ["_law_world_here", "_law_words"] ["_law_world_here"] (defScope (top 42)) := ⟨rfl, rfl, rfl, by decide +kernel, rfl, by decide +kernel, by decide +kernel⟩
theorem sc_law_due : FnScope ["_law_text", "_law_numbers", "_law_words", "_law_made", "_law_word", "_law_some_here", "_law_world_here"] ["_law_text"] (defScope (top 43)) := ⟨rfl, rfl, rfl, by decide +kernel, rfl, by decide +kernel, by decide +kernel⟩
theorem sc_law : FnScope ["_law_script", "_law_town", "_law_often", "_law_world_here", "_law_text", "_law_k", "_law_at", "_law_more", "_law_due_here", "_law_odd"] ["_law_script"] (defScope (top 44)) := ⟨rfl, rfl, rfl, by decide +kernel, rfl, by decide +kernel, by decide +kernel⟩

end Be
set_option Elab.async false
set_option linter.all false
/-! The mathematics of worlds, orders, rules: plain Lean. -/
namespace Be
structure Wd where
  b : Int
  bs : List (Int × Int)
structure Wd.Ok (W : Wd) : Prop where
  b1 : 1 ≤ W.b
  b4 : W.b ≤ 4
  l1 : 1 ≤ W.bs.length
  l10 : W.bs.length ≤ 10
  bd : ∀ p ∈ W.bs, 1 ≤ p.1 ∧ p.1 ≤ p.2 ∧ p.2 ≤ 99
/-- how many works have begun behind n ends -/
def began (W : Wd) (n : Nat) : Nat := (min (W.bs.length : Int) (n + W.b)).toNat
end Be
set_option Elab.async false
set_option linter.all false
set_option maxRecDepth 100000
/-! zip(a list, a list): walked by a pair of names, over the hand layer. -/
namespace L2
open PySem PySem.Spec PyProof.Rows
section
variable {X : Cx} {pins : List (Addr × Obj)} {σ : St} {H : Hp} {s : Shared} {h' : Heap}
end
section
variable {X : Cx} {es : List Expr} {ek : Nat} {tpos : Pos}
theorem comp_listR {g : TG} {tt : TT} {te : TE} {τ : St} {D : Addr} {H1 : Hp} {R : Hp → Prop} {K : PySem.W.Frag} {a : Addr} {xs : List V} (Pv : Nat → List V → Hp → Prop) (h0 : Pv 0 [] (upd H1 D (.lst []))) (hl : ∀ i ys H, i ≤ xs.length → Pv i ys H → SqL K H a xs)
    (hs : ∀ i ys x H, xs[i]? = some x → Pv i ys H → turnC g tt te τ D ys (Pv (i + 1)) x H) (hd : ∀ ys H, Pv xs.length ys H → R H) :
    ∃ W : Nat → Nat → List V → Hp → Prop, (∃ m, W 0 m [] (upd H1 D (.lst []))) ∧ ∀ i m ys H, W i m ys H → ((Itl K a).stop i H ∧ R H) ∨ ((Itl K a).go i H ∧ ∃ N : List V → Hp → Prop, (∀ ys' H', N ys' H' → ∃ m', m' < m ∧ W (i + 1) m' ys' H') ∧ ∀ x H', (Itl K a).yld i H x H' → turnC g tt te τ D ys N x H') :=
  comp_list (Q := fun _ H => R H) Pv h0 hl hs hd
end
end L2
set_option Elab.async false
set_option linter.all false
set_option maxRecDepth 100000
/-! zip of two things each of which is a list or a tuple. The kind: true for a tuple. -/
namespace BE
open PySem PySem.Spec PyProof.Rows
section
variable {prog : Program} {w : World} {A : Around} {E : Value → Shared → Prop} {s : Shared}
end
section
variable {prog : Program} {w : World} {A : Around} {E : Value → Shared → Prop} {s : Shared}
end
end BE
namespace L2
open PySem PySem.Spec PyProof.Rows
section
variable {X : Cx} {pins : List (Addr × Obj)} {σ : St} {H : Hp} {s : Shared}
end
section
variable {X : Cx} {es : List Expr} {ek : Nat} {tpos : Pos}
end
end L2
set_option Elab.async false
set_option linter.all false
set_option maxRecDepth 100000
/-! min(a list of ints) -/
namespace L2
open PySem PySem.Spec PyProof.Rows
section
variable {X : Cx}
end
end L2
set_option Elab.async false
set_option linter.all false
set_option maxRecDepth 100000
/-! index of an int in a tuple of ints -/
namespace BE
open PySem PySem.Spec PyProof.Rows SeqAt
open AutoSeq1 (wpAny_loadPart')
end BE
namespace L2
open PySem PySem.SeqAt PySem.Spec PyProof.Rows
section
variable {X : Cx}
end
end L2
set_option Elab.async false
set_option linter.all false
set_option maxRecDepth 100000
/-! count and index of a list of bools over the hand layer; a def whose body starts at no pins. -/
namespace L2
open PySem PySem.SeqAt PySem.Spec PyProof.Rows
section
variable {X : Cx}
def rCountB : V → List V → Hp → VK → Prop := fun x vs H Q => ∃ (l : Addr) (bs : List Bool) (k : Bool), x = .ref l ∧ vs = [.bl k] ∧ H l = some (.lst (bs.map V.bl)) ∧ Q (.int (bs.count k : Nat)) H
theorem cntB (k : Bool) : ∀ bs : List Bool, (bs.map Value.bool).countP (isBoolOf k) = bs.count k
  | [] => rfl
  | b :: bs => by
    have ih := cntB k bs
    show List.countP (isBoolOf k) (Value.bool b :: bs.map Value.bool) = _
    rw [List.countP_cons, List.count_cons, ih]
    rfl
theorem mt_countB : MtM X "list.count" rCountB := by
  intro pins s σ H x vs v us Q I rx rv h
  obtain ⟨l, bs, k, rfl, rfl, hH, q⟩ := h
  cases rx
  obtain ⟨u, rfl, ru⟩ := rv.one
  cases ru
  obtain ⟨z, its, n, r, hl, e⟩ := I.lstM hH
  have eb := bools_of r
  subst eb
  refine call_meets F.slot_list_count ⟨_, e, rfl⟩ F.entry_list_count (F.args_list_count_2 _ _) (list_countAt l (bs.map Value.bool).toArray n none #[] (.bool k) (isBoolOf k)) ⟨e, fun y hy => ?_, ?_⟩
  · have hy' : y ∈ bs.map Value.bool := by simpa using hy
    obtain ⟨b, _, rfl⟩ := List.mem_map.mp hy'
    exact EqAt.bool_bool b k
  · refine ⟨.int (bs.count k : Nat), H, I.tok _, ⟨s.toks, ?_⟩, q⟩
    rw [show (bs.map Value.bool).toArray.toList = bs.map Value.bool from rfl, cntB]
def rIndexB : V → List V → Hp → VK → Prop := fun x vs H Q => ∃ (l : Addr) (bs : List Bool) (k : Bool) (j : Nat), x = .ref l ∧ vs = [.bl k] ∧ H l = some (.lst (bs.map V.bl)) ∧ bs[j]? = some k ∧ (∀ m, m < j → bs[m]? ≠ some k) ∧ Q (.int j) H
theorem mt_indexB : MtM X "list.index" rIndexB := by
  intro pins s σ H x vs v us Q I rx rv h
  obtain ⟨l, bs, k, j, rfl, rfl, hH, hj, hn, q⟩ := h
  cases rx
  obtain ⟨u, rfl, ru⟩ := rv.one
  cases ru
  obtain ⟨z, its, n, r, hl, e⟩ := I.lstM hH
  have eb := bools_of r
  subst eb
  have hlt : j < bs.length := (List.getElem?_eq_some_iff.mp hj).1
  have hbj : bs[j] = k := (List.getElem?_eq_some_iff.mp hj).2
  have hz : bs.length ≤ sizeLine := by rw [List.length_map] at z; exact z
  have h63 := line63
  refine call_meets F.slot_list_index ⟨_, e, rfl⟩ F.entry_list_index (F.args_list_index_2 _ _)
    (list_indexAt l (bs.map Value.bool).toArray n none #[] (.bool k) (isBoolOf k) j (by rw [List.size_toArray, List.length_map]; exact hlt) (by omega) ?_ ?_) ⟨e, fun y hy => ?_, ?_⟩
  · rw [List.getElem_toArray, List.getElem_map, hbj]
    show (k == k) = true
    exact beq_self_eq_true k
  · intro m hm hmj
    have hm' : m < bs.length := by rw [List.size_toArray, List.length_map] at hm; exact hm
    rw [List.getElem_toArray, List.getElem_map]
    show (bs[m] == k) = false
    refine beq_eq_false_iff_ne.mpr fun c => hn m hmj ?_
    rw [List.getElem?_eq_getElem hm', c]
  · have hy' : y ∈ bs.map Value.bool := by simpa using hy
    obtain ⟨b, _, rfl⟩ := List.mem_map.mp hy'
    exact EqAt.bool_bool b k
  · exact ⟨.int j, H, I.tok _, ⟨_, rfl⟩, q⟩
end
end L2
set_option Elab.async false
set_option linter.all false
set_option maxRecDepth 100000
/-! range as a value, list of a range. -/
namespace L2
open PySem PySem.Spec PyProof.Rows
section
variable {X : Cx}
end
end L2
set_option Elab.async false
set_option linter.all false
set_option maxRecDepth 100000
/-! max of a list of ints, index in one, sum of a tuple of ints, sorted of a tuple or a list of ints. -/
namespace BE
open PySem PySem.Spec PyProof.Rows
section
variable {prog : Program} {w : World} {A : Around} {E : Value → Shared → Prop} {s : Shared}
end
section
variable {prog : Program} {w : World} {A : Around} {E : Value → Shared → Prop} {s : Shared}
end
end BE
namespace L2
open PySem PySem.SeqAt PySem.Spec PyProof.Rows
section
variable {X : Cx}
end
end L2
set_option Elab.async false
set_option linter.all false
set_option maxRecDepth 100000
namespace L2
open PySem PySem.Spec PyProof.Rows
/-- y = [..]: the block's value is stored before its names are let go -/
theorem ps_compset {X : Cx} {elt tg iter : Expr} {ifs : List Expr} {scope : Scope} {pos spos py : Pos} {y : Str} {i : Nat} {wi : TI} {g : TG} {tt : TT} {te : TE} {NB : List Str} {js : List (Option Nat)} (hN : X.N.Nodup) (hiN : X.N[i]? = some y) (hyL : Loc X.env.scope y) (hc : X.calm = true) (B : BlkOk X scope NB js) (hi : PI X tg iter wi)
    (hg : ∀ C s₂ H₂ fp, PG (blk X scope NB C s₂ H₂ fp) tg g) (ht : ∀ C s₂ H₂ fp, PF (blk X scope NB C s₂ H₂ fp) ifs tt) (he : ∀ C s₂ H₂ fp, PE (blk X scope NB C s₂ H₂ fp) elt te)
    (hs : ∀ x, foldedSetIterable iter X.env x = pure x := by intro _; rfl) (hsw : swapsWith (.ListComp elt [⟨tg, iter, ifs, 0⟩] scope pos) (some (.Name y py)) spos.line X.env = pure true := by first | rfl | with_unfolding_all rfl)
    (hf : X.fn y = true ∨ X.env.scope.names.lookup y = some .local := by first | exact .inl rfl | exact .inr rfl | assumption) :
    PS X (.Assign [.Name y py] (.ListComp elt [⟨tg, iter, ifs, 0⟩] scope pos) spos) (tAsg (tComp js wi g tt te) (gName i)) := by
  intro pins s σ H D I h
  rw [exec_Assign_Name_used _ _ _ _ hsw]
  refine wpAny_bind (wpAny_standAt (wpAny_bind ?_))
  show wpAny _ X.A (do let _ ← comprehension (.ListComp elt [⟨tg, iter, ifs, 0⟩] scope pos) scope X.env _ (newList []) false (eval iter X.env) (some (assign (.Name y py) X.env))) _ _ s
  refine wpAny_bind (wpAny_mono (wpAny_comprehension_free (use := some (assign (.Name y py) X.env)) (Q := fun _ s' => SP X pins D .next s') rfl hs B.clos B.kind B.locs (thn (hi pins s σ H _ I h) fun v s1 h1 => thn h1 fun itv s2 h2 => ?_)) (fun _ s' hq => wpAny_pure (wpAny_pure hq)) fun _ _ e => e)
  obtain ⟨it, fp, tn, J, H2, e, I2, T, st2, f2, hW⟩ := h2
  subst e
  have fresh2 : H2 s2.heap.objs.size = none := I2.hok.fresh (Nat.le_refl _)
  obtain ⟨W, ⟨m0, w0⟩, turn⟩ := hW s2.heap.objs.size fresh2
  refine wpAny_newObj_type (wpAny_newFunctionEnv B.nocell (by intro y hy; simp at hy) (fun h₁ hns₁ hsb₁ => ?_) B.kind)
  dsimp only at hns₁ hsb₁ ⊢
  generalize hH2 : s2.heap.push { cls := .type "list", dict := none, data := .seq ([] : List Value).toArray } = HP at hns₁ hsb₁ ⊢
  have hC : HP.objs.size = s2.heap.objs.size + 1 := by rw [← hH2, Heap.size_push]
  have hCle : s2.heap.objs.size ≤ HP.objs.size := by rw [hC]; exact Nat.le_succ _
  have hDC : s2.heap.objs.size ≠ HP.objs.size := by rw [hC]; exact Nat.ne_of_lt (Nat.lt_succ_self _)
  have below : ∀ b, b < s2.heap.objs.size → b ≠ HP.objs.size := fun b hb => Nat.ne_of_lt (Nat.lt_of_lt_of_le hb hCle)
  have old : ∀ b o, s2.heap.get? b = some o → h₁.get? b = some o := fun b o e => hsb₁.extBut b o (below b (Heap.lt_size e)) (Heap.get?_push_of_some _ (hH2 ▸ Heap.get?_push_of_some _ e))
  have hacc : h₁.get? s2.heap.objs.size = some { cls := .type "list", dict := none, data := .seq ([] : List Value).toArray } := hsb₁.extBut _ _ hDC (Heap.get?_push_of_some _ (hH2 ▸ Heap.get?_push_size _ rfl))
  have fplt : ∀ b ∈ fp, b < s2.heap.objs.size := fun b hb => by
    obtain ⟨o, ho, _⟩ := T.obj 0 _ st2 b hb
    exact Heap.lt_size ho
  have okY : (blk X scope NB HP.objs.size s2 H2 fp).Ok := blk_ok B I2 f2 (fun b hb => below b (fplt b hb)) hCle
  have lenτ : (tau js σ).length = NB.length := by unfold tau; rw [List.length_map]; exact B.len
  have IY : Inv (blk X scope NB HP.objs.size s2 H2 fp) [] (tau js σ) (upd H2 s2.heap.objs.size (.lst [])) { s2 with heap := h₁, toks := s2.toks + ([] : List (Str × Value)).length } := by
    refine ⟨okY, rfl, I2.bare, Un.laid old (Nat.le_refl _) fresh2, ⟨_, hns₁, fun i x v e1 e2 e3 => ?_⟩, fun x c e => ?_, ?_, fun x c e => ?_, fun p hp => absurd (show p ∈ ([] : List (Addr × Obj)) from hp) (by simp), I2.hok.laid old (Nat.le_refl _) ?_, lenτ⟩
    · obtain ⟨j, ej, ev⟩ := tau_get e2
      obtain ⟨x', n1, n2, n3, n4, n5⟩ := B.outer i j ej
      have ex : x' = x := Option.some.inj (n1.symm.trans e1)
      subst ex
      obtain ⟨m, _, hl⟩ := I2.loc
      obtain ⟨u, ru, l⟩ := hl j x' v n2 ev n4
      refine ⟨u, ru, .inr ?_⟩
      have e3' : Vis (relabel scope X.env) x' := e3
      have nl := B.inner i x' e1 n3 e3'
      have kk : (relabel scope X.env).names.lookup x' = some .cell ∨ (relabel scope X.env).names.lookup x' = some .free := by
        rcases e3' with z | z | z
        · exact absurd z nl
        · exact .inl z
        · exact .inr z
      refine ⟨kk, ?_⟩
      rcases l with ⟨z, _⟩ | ⟨_, c, ec, cell⟩
      · exact absurd z n5
      · obtain ⟨c', ec'⟩ := closOf_has (env := X.env) n3
        have q := (mem_closOf B.there ec').1
        rw [ec] at q
        cases q
        exact ⟨c, ec', cell.keeps old⟩
    · obtain ⟨v, z⟩ := I2.cell x c (mem_closOf B.there e).1
      exact ⟨v, z.keeps old⟩
    · show upd H2 s2.heap.objs.size (.lst []) HP.objs.size = none
      rw [upd_ne (Ne.symm hDC)]
      exact I2.hok.fresh hCle
    · have ec := (mem_closOf B.there e).1
      obtain ⟨v, o, ho, _⟩ := I2.cell x c ec
      rw [upd_ne (Nat.ne_of_lt (Heap.lt_size ho))]
      exact I2.freeC x c ec
    · exact ⟨by show 0 ≤ sizeLine; exact Nat.zero_le _, [], 0, .nil, hacc⟩
  have st1 : tn 0 h₁ := T.keep 0 _ _ st2 fun b _ o e => old b o e
  have statY : ∀ {H' : Hp}, (∀ b ∈ fp, H' b = none) → ∀ b ∈ fp, FpOk (blk X scope NB HP.objs.size s2 H2 fp) [] H' b := fun {H'} hn b hb =>
    ⟨hn b hb, below b (fplt b hb), okY.exfs b hb, .inl hb, (okY.exf b hb).2, fun p hp => absurd (show p ∈ ([] : List (Addr × Obj)) from hp) (by simp)⟩
  have frN : ∀ b ∈ fp, upd H2 s2.heap.objs.size (.lst []) b = none := fun b hb => by
    rw [upd_ne (Nat.ne_of_lt (fplt b hb))]
    exact (f2 b hb).1
  have loop : ∀ s₃ : Shared, s₃ = { s2 with heap := h₁, toks := s2.toks + ([] : List (Str × Value)).length } →
      codeAny (model X.prog X.w) X.A (.compLoop (.ListComp elt [⟨tg, iter, ifs, 0⟩] scope pos) 0 (.ref it) (.ref s2.heap.objs.size) (compEnvC scope (closOf scope X.env) HP.objs.size X.env))
        (compPost (model X.prog X.w) X.A X.xe (some (assign (.Name y py) X.env)) (fun _ s' => SP X pins D .next s') (.ref s2.heap.objs.size) HP.objs.size) s₃ := by
    rintro s₃ rfl
    refine compLoop_any (fun n s' => ∃ i ys H', Inv (blk X scope NB HP.objs.size s2 H2 fp) [] (tau js σ) H' s' ∧ tn i s'.heap ∧ (∀ b ∈ fp, H' b = none) ∧ W i n ys H') ?_ m0 ⟨0, [], _, IY, st1, frN, w0⟩
    rintro n s3 ⟨i, ys, H3, I3, st3, fr3, w3⟩
    rcases turn i n ys H3 w3 with ⟨stop, qq⟩ | ⟨go, NN, hNN, step⟩
    · refine thn (T.done (blk X scope NB HP.objs.size s2 H2 fp) rfl rfl rfl hc i [] s3 (tau js σ) H3 (fun _ _ => False) I3 (statY fr3) st3 stop) fun r s4 ⟨hr, I4⟩ => ?_
      subst hr
      obtain ⟨m4, hn4, _⟩ := id I4.loc
      have u4 : Un (frs X.stack) fp H2 H3 s2.heap s4.heap := I4.base
      have J4 : Inv X pins σ H3 s4 := I2.call' (s' := s4) I4.os u4 I4.hok I4.bare fun b hb => ⟨(f2 b hb).2.2.2.1, (f2 b hb).2.1, (f2 b hb).2.2.2.2.1, (f2 b hb).2.2.2.2.2⟩
      have hC3 : H3 HP.objs.size = none := I4.free
      have fC : FpOk X pins H3 HP.objs.size := I2.fpOk hCle hC3
      obtain ⟨oC, es, ep, hoC, hdC, hrC⟩ := id hn4
      have hoC' : s4.heap.get? HP.objs.size = some oC := hoC
      have P4 := J4.pinned (fp := [HP.objs.size]) (fun b hb => by rw [List.mem_singleton.mp hb]; exact fC) (fun b hb => by rw [List.mem_singleton.mp hb]; exact ⟨oC, hoC', fun v z => by rw [hdC] at z; cases z⟩)
      show wpAny _ X.A (assign (.Name y py) X.env (.ref s2.heap.objs.size)) _ X.xe s4
      refine wpAny_assign_Name (store_ok (v := .ref s2.heap.objs.size) P4 hN hiN hyL rfl (fun s5 I5 => ?_) hf)
      have h5 := (I5.pin (HP.objs.size, oC) (List.mem_append_right _ (List.mem_append_right _ (mem_pinsAt (by simp) hoC')))).1
      refine ⟨m4, ⟨oC, es, ep, h5, hdC, hrC⟩, fun h' sb => ⟨_, H3, ?_, qq⟩⟩
      exact I5.unpinned.turned (t' := s5.toks) (it := HP.objs.size) (fun b o hb e => sb.extBut b o hb e) fC.1 fC.2.1 fC.2.2.2.1 fC.2.2.2.2.1 fC.2.2.2.2.2
    · refine thn (T.item (blk X scope NB HP.objs.size s2 H2 fp) rfl rfl rfl hc i [] s3 (tau js σ) H3 (fun _ _ => False) I3 (statY fr3) st3 go) fun r s4 ⟨u, hr, h4⟩ => ?_
      subst hr
      refine thn h4 fun _ s5 ⟨x, H5, I5, r5, y5, st5, fr5⟩ => ?_
      have I5' := I5.pinned (statY fr5) (T.obj _ _ st5)
      refine thn (hg _ _ _ _ _ s5 (tau js σ) H5 x u _ I5' r5 (step x H5 y5)) fun _ s6 ⟨σ6, H6, I6, ag, q6⟩ => ?_
      have back : ∀ {s7 : Shared} {H7 : Hp}, Inv (blk X scope NB HP.objs.size s2 H2 fp) ([] ++ pinsAt fp s5.heap) σ6 H7 s7 → Inv (blk X scope NB HP.objs.size s2 H2 fp) [] (tau js σ) H7 s7 ∧ tn (i + 1) s7.heap ∧ ∀ b ∈ fp, H7 b = none := fun {s7 H7} I7 => by
        refine ⟨I7.unpinned.weak (lenτ.trans I7.len.symm) ag, T.keep _ _ _ st5 fun b hb o e => (I7.pin (b, o) (List.mem_append_right _ (List.mem_append_right _ (mem_pinsAt hb e)))).1, fun b hb => ?_⟩
        obtain ⟨o, e, d⟩ := T.obj _ _ st5 b hb
        exact (I7.pin (b, o) (List.mem_append_right _ (List.mem_append_right _ (mem_pinsAt hb e)))).2.1
      refine thn (ht _ _ _ _ _ s6 σ6 H6 _ I6 q6) fun ok s7 ⟨H7, I7, q7⟩ => ?_
      cases ok with
      | false =>
        obtain ⟨m', hm, w7⟩ := hNN _ _ q7
        obtain ⟨J1, J2, J3⟩ := back I7
        exact ⟨m', hm, i + 1, ys, H7, J1, J2, J3, w7⟩
      | true =>
        refine thn (he _ _ _ _ _ s7 σ6 H7 _ I7 q7) fun v s8 ⟨y8, H8, I8, r8, hD8, hz, n8⟩ => ?_
        obtain ⟨m', hm, w8⟩ := hNN _ _ n8
        refine thn (mt_append _ s8 σ6 H8 (.ref s2.heap.objs.size) [y8] (.ref s2.heap.objs.size) [v] (fun z H' => z = .non ∧ H' = upd H8 s2.heap.objs.size (.lst (ys ++ [y8]))) I8 rfl (.cons r8 .nil) ⟨_, ys, y8, rfl, rfl, hD8, hz, ⟨rfl, rfl⟩⟩) fun _ s9 ⟨z, H9, I9, r9, q9⟩ => ?_
        obtain ⟨ez, e9⟩ : z = .non ∧ H9 = upd H8 s2.heap.objs.size (.lst (ys ++ [y8])) := q9
        subst e9
        obtain ⟨J1, J2, J3⟩ := back I9
        exact ⟨m', hm, i + 1, ys ++ [y8], _, J1, J2, J3, w8⟩
  exact codeAny_compStart_list (loop _ rfl) (T.self _ _ _ _ _ st1 (loop _ rfl))


end L2
set_option Elab.async false
set_option linter.all false
/-! Works taken up one by one by the bench that is free first: plain lists. -/
namespace Be
/-! ### more benches never end later -/
end Be
set_option Elab.async false
set_option linter.all false
set_option maxRecDepth 100000
namespace L2
open PySem PySem.Spec PyProof.Rows
theorem comp_tupR {g : TG} {tt : TT} {te : TE} {τ : St} {D : Addr} {H1 : Hp} {R : Hp → Prop} {K : PySem.W.Frag} {a : Addr} {xs : List V} (Pv : Nat → List V → Hp → Prop) (h0 : Pv 0 [] (upd H1 D (.lst []))) (hl : ∀ i ys H, i ≤ xs.length → Pv i ys H → SqT K H a xs)
    (hs : ∀ i ys x H, xs[i]? = some x → Pv i ys H → turnC g tt te τ D ys (Pv (i + 1)) x H) (hd : ∀ ys H, Pv xs.length ys H → R H) :
    ∃ W : Nat → Nat → List V → Hp → Prop, (∃ m, W 0 m [] (upd H1 D (.lst []))) ∧ ∀ i m ys H, W i m ys H → ((Itt K a).stop i H ∧ R H) ∨ ((Itt K a).go i H ∧ ∃ N : List V → Hp → Prop, (∀ ys' H', N ys' H' → ∃ m', m' < m ∧ W (i + 1) m' ys' H') ∧ ∀ x H', (Itt K a).yld i H x H' → turnC g tt te τ D ys N x H') :=
  comp_tup (Q := fun _ H => R H) Pv h0 hl hs hd
theorem comp_rangeR {g : TG} {tt : TT} {te : TE} {τ : St} {D : Addr} {H1 : Hp} {R : Hp → Prop} {lo : Int} {n : Nat} (Pv : Nat → List V → Hp → Prop) (h0 : Pv 0 [] (upd H1 D (.lst []))) (hs : ∀ i ys H, i < n → Pv i ys H → turnC g tt te τ D ys (Pv (i + 1)) (.int (lo + i)) H) (hd : ∀ ys H, Pv n ys H → R H) :
    ∃ W : Nat → Nat → List V → Hp → Prop, (∃ m, W 0 m [] (upd H1 D (.lst []))) ∧ ∀ i m ys H, W i m ys H → ((Itr lo n).stop i H ∧ R H) ∨ ((Itr lo n).go i H ∧ ∃ N : List V → Hp → Prop, (∀ ys' H', N ys' H' → ∃ m', m' < m ∧ W (i + 1) m' ys' H') ∧ ∀ x H', (Itr lo n).yld i H x H' → turnC g tt te τ D ys N x H') :=
  comp_range (Q := fun _ H => R H) Pv h0 hs hd
end L2
namespace Be
open PySem L2
/-! ### worlds as data -/
def encB (p : Int × Int) : PyData := .tuple [.int p.1, .int p.2]
def encW (W : Wd) : PyData := .tuple [.int W.b, .tuple (W.bs.map encB)]
theorem all_encB (bs : List (Int × Int)) : immut.all (bs.map encB) = true := by
  induction bs with
  | nil => rfl
  | cons p r ih =>
    rw [List.map_cons]
    show (immut (encB p) && immut.all (r.map encB)) = true
    rw [ih]; rfl
/-- what stands in the heap of a world -/
structure AtW (H : Hp) (v : V) (W : Wd) (a p : Addr) (vs : List V) : Prop where
  v : v = .ref a
  a : H a = some (.tup [.int W.b, .ref p])
  p : H p = some (.tup vs)
  it : ∀ (i : Nat) (x : Int × Int), W.bs[i]? = some x → ∃ q, vs[i]? = some (.ref q) ∧ H q = some (.tup [.int x.1, .int x.2])
  len : vs.length = W.bs.length
theorem pair_inv {H : Hp} {v : V} {x : Int × Int} (r : Rep H v (encB x)) : ∃ q, v = .ref q ∧ H q = some (.tup [.int x.1, .int x.2]) := by
  obtain ⟨q, vs, rfl, hq, rs⟩ := r.tup_inv
  have e : vs = [.int x.1, .int x.2] := Reps.ints_inv (ns := [x.1, x.2]) rs
  subst e
  exact ⟨q, rfl, hq⟩
theorem atW {H : Hp} {v : V} {W : Wd} (r : Rep H v (encW W)) : ∃ a p vs, AtW H v W a p vs := by
  obtain ⟨a, us, rfl, ha, rs⟩ := r.tup_inv
  cases rs with
  | cons r1 rs =>
    cases rs with
    | cons r2 rs =>
      cases rs
      cases r1.int_inv
      obtain ⟨p, vs, rfl, hp, rv⟩ := r2.tup_inv
      refine ⟨a, p, vs, rfl, ha, hp, fun i x e => ?_, by rw [rv.length, List.length_map]⟩
      obtain ⟨u, hu, ru⟩ := rv.get (i := i) (d := encB x) (by rw [List.getElem?_map, e]; rfl)
      obtain ⟨q, rfl, hq⟩ := pair_inv ru
      exact ⟨q, hu, hq⟩
theorem agree0 {x : V} {r : St} : ∀ (k : Nat) (v : V), (none :: r : St)[k]? = some (some v) → ((none :: r : St).set 0 (some x))[k]? = some (some v)
  | 0, v, h => by cases h
  | k + 1, v, h => h
theorem if_f {c : Bool} {A B : Prop} (h : c = false) (b : B) : if c = true then A else B := by subst h; exact b
theorem if_t {c : Bool} {A B : Prop} (h : c = true) (a : A) : if c = true then A else B := by subst h; exact a
section
variable {P : Program} {w : World} {K : PySem.W.Frag} {mg : Str → Option Value} {base : Heap}
theorem atI_ints {ns : List Int} {k : Int} (h0 : 0 ≤ k) (h1 : k < (ns.length : Int)) : ∃ v : Int, atI (ns.map V.int) k = some (.int v) := by
  have hk : k.toNat < ns.length := by omega
  have ek : k = ((k.toNat : Nat) : Int) := by omega
  have q : atI (ns.map V.int) ((k.toNat : Nat) : Int) = some (.int ns[k.toNat]) := atI_nat (by rw [List.getElem?_map, List.getElem?_eq_getElem hk] <;> rfl)
  rw [← ek] at q
  exact ⟨_, q⟩
theorem atI_int {xs : List V} {v : V} {k : Int} (h0 : 0 ≤ k) (h : xs[k.toNat]? = some v) : atI xs k = some v := by
  have q := atI_nat h
  rw [show ((k.toNat : Nat) : Int) = k by omega] at q
  exact q
def sp_cell (K : PySem.W.Frag) : Sp := fun vs H Q _ => ∃ (a : Addr) (ns : List Int) (k : Int), vs = [.ref a, .int k] ∧ Scr K H a ns ∧ 0 ≤ k ∧ ∀ (r : Int) (H' : Hp), Same H H' → Q (.int r) H'
theorem ok_law_cell_at (T : Txt K mg) : FnOk P w K mg base (CXr P w) 1 T.law_cell_at.a T.law_cell_at.d ["_law_script", "_law_k"] (sp_cell K) := by
  refine T.law_cell_at.F.okN sc_law_cell_at (fun vs H Q E h => ?_) (fun cdv A outer s H vs Q E hr h => ?_)
  · obtain ⟨a, ns, k, rfl, _⟩ := h; rfl
  obtain ⟨a, ns, k, rfl, hS, h0, q⟩ := h
  refine ⟨_, (pss_cons (ps_if (pt_cmpR op_lt (pv 1) (pe_callB call_len_seq rfl T.n_len bt_len (pa_cons (pv 0) pa_nil)) (nomark _)) (pss_one (ps_ret (pe_ix ix_list (pv 0) (pv 1) (fun _ _ => rfl)))) pss_nil) (pss_cons (ps_if (pt_cmpR (op_eqNil hr.units0) (pv 0) (pe_lst pa_nil) (nomark _)) (pss_one (ps_ret pe_int)) pss_nil) (pss_one (ps_ret (pe_op op_add (pe_op op_mul (pe_ix ix_list (pv 0) (pe_op op_mod (pv 1) (pe_callB call_len_seq rfl T.n_len bt_len (pa_cons (pv 0) pa_nil))) (fun _ _ => rfl)) pe_int) (pv 1)))))), ?_⟩
  have hl : (ns.map V.int).length = ns.length := List.length_map _
  refine ⟨_, rfl, _, rfl, a, _, rfl, .inl hS.sq, _, _, rfl, rfl, _, rfl, ?_⟩
  refine ite2 (fun c => ?_) (fun c => ?_)
  · have c' := of_decide_eq_true c
    rw [hl] at c'
    obtain ⟨v, hv⟩ := atI_ints (ns := ns) h0 c'
    exact ⟨_, rfl, _, rfl, a, _, _, _, rfl, rfl, hS.sq, hv, q v H (Same.refl H)⟩
  · have c' := of_decide_eq_false (Bool.eq_false_iff.mpr c)
    rw [hl] at c'
    refine ⟨_, rfl, Nat.zero_le _, fun l hl' => ?_⟩
    have g1 := same_new hl' (.lst [])
    have hS1 := hS.same g1
    refine ⟨a, l, _, rfl, rfl, hS1.sq, SqL.of upd_same, _, rfl, ?_⟩
    refine ite2 (fun c2 => ?_) (fun c2 => ?_)
    · exact q 0 _ g1
    · have hne : ns ≠ [] := fun z => c2 (by rw [z]; rfl)
      have hpos : (0 : Int) < ((ns.map V.int).length : Int) := by rw [hl]; have := List.length_pos_iff.mpr hne; omega
      have m0 := Int.emod_nonneg k (show ((ns.map V.int).length : Int) ≠ 0 by omega)
      have m1 := Int.emod_lt_of_pos k hpos
      obtain ⟨v, hv⟩ := atI_ints (ns := ns) m0 (by rw [hl] at m1 ⊢; exact m1)
      exact ⟨_, rfl, _, rfl, _, rfl, a, _, rfl, .inl hS1.sq, _, _, rfl, rfl, hpos, a, _, _, _, rfl, rfl, hS1.sq, hv, _, _, rfl, rfl, .inr ⟨by decide, by decide⟩, _, rfl, _, _, rfl, rfl, q _ _ g1⟩
def sp_mixed (K : PySem.W.Frag) : Sp := fun vs H Q _ => ∃ (a : Addr) (ns : List Int) (k m : Int), vs = [.ref a, .int k, .int m] ∧ Scr K H a ns ∧ 0 ≤ k ∧ 0 < m ∧ ∀ (r : Int) (H' : Hp), 0 ≤ r → r < m → Same H H' → Q (.int r) H'
theorem ok_law_mixed (T : Txt K mg) : FnOk P w K mg base (CXr P w) 2 T.law_mixed.a T.law_mixed.d ["_law_script", "_law_k", "_law_many"] (sp_mixed K) := by
  refine T.law_mixed.F.okN sc_law_mixed (fun vs H Q E h => ?_) (fun cdv A outer s H vs Q E hr h => ?_)
  · obtain ⟨a, ns, k, m, rfl, _⟩ := h; rfl
  obtain ⟨a, ns, k, m, rfl, hS, h0, hm, q⟩ := h
  refine ⟨_, (pss_cons (ps_set (i := 3) sc_law_mixed.nd rfl (by first | exact Or.inl rfl | exact Or.inr rfl) (pe_op op_mod (pe_op op_add (pe_op op_add (pe_op op_mul (pe_call (ok_law_cell_at T) (hr.mono (by decide)) rfl T.law_cell_at.m T.law_cell_at.F.kp T.law_cell_at.b .nil passN (pa_cons (pv 0) (pa_cons (pv 1) pa_nil))) pe_int) (pe_op op_mul pe_int (pv 1))) pe_int) pe_int)) (pss_one (ps_ret (pe_op op_mod (pe_op op_mod (pe_op op_mod (pe_op op_pow (pv 3) pe_int) pe_int) pe_int) (pv 2))))), ?_⟩
  refine ⟨_, rfl, _, rfl, a, ns, k, rfl, hS, h0, fun r H1 g1 => ?_⟩
  refine ⟨_, _, rfl, rfl, .inr ⟨by decide, by decide⟩, _, rfl, _, _, rfl, rfl, .inl ⟨by decide, by decide⟩, _, _, rfl, rfl, _, _, rfl, rfl, _, _, rfl, rfl, (by show (0 : Int) < 2147483647; decide), ?_⟩
  have l1 := Int.emod_nonneg (r * 1103515245 + 7919 * k + 12345) (show (2147483647 : Int) ≠ 0 by decide)
  have l2 := Int.emod_lt_of_pos (r * 1103515245 + 7919 * k + 12345) (show (0 : Int) < 2147483647 by decide)
  refine ⟨_, rfl, _, _, rfl, rfl, ⟨by decide, by decide, ?_⟩, _, _, rfl, rfl, (by show (0 : Int) < 2147483647; decide), _, _, rfl, rfl, (by show (0 : Int) < 999983; decide), _, rfl, _, _, rfl, rfl, hm, ?_⟩
  · exact Nat.lt_of_lt_of_le (show _ < 2147483647 by omega) (by decide)
  exact q _ H1 (Int.emod_nonneg _ (by omega)) (Int.emod_lt_of_pos _ hm) g1
def sp_draw (K : PySem.W.Frag) : Sp := fun vs H Q _ => ∃ (a t : Addr) (ns : List Int) (n : Nat) (m : Int), vs = [.ref a, .ref t, .int m] ∧ Scr K H a ns ∧ H t = some (.lst (zeros n)) ∧ n < 5000 ∧ 0 < m ∧
  ∀ (r : Int) (H' : Hp), 0 ≤ r → r < m → SameX t H H' → H' t = some (.lst (zeros (n + 1))) → Q (.int r) H'
theorem ok_law_draw (T : Txt K mg) : FnOk P w K mg base (CXr P w) 3 T.law_draw.a T.law_draw.d ["_law_script", "_law_town", "_law_many"] (sp_draw K) := by
  refine T.law_draw.F.okN sc_law_draw (fun vs H Q E h => ?_) (fun cdv A outer s H vs Q E hr h => ?_)
  · obtain ⟨a, t, ns, n, m, rfl, _⟩ := h; rfl
  obtain ⟨a, t, ns, n, m, rfl, hS, ht, hn, hm, q⟩ := h
  refine ⟨_, (pss_cons (ps_expr (pe_bm PySem.F.plainAttrs_list PySem.F.slot_list_append PySem.F.type_list_append mt_append (pv 1) (pa_cons pe_int pa_nil))) (pss_one (ps_ret (pe_call (ok_law_mixed T) (hr.mono (by decide)) rfl T.law_mixed.m T.law_mixed.F.kp T.law_mixed.b .nil passN (pa_cons (pv 0) (pa_cons (pe_callB call_len_seq rfl T.n_len bt_len (pa_cons (pv 1) pa_nil)) (pa_cons (pv 2) pa_nil))))))), ?_⟩
  refine ⟨_, rfl, .inl ⟨rfl, _, SqL.of ht⟩, t, _, _, rfl, rfl, ht, (by rw [zeros_len]; exact Nat.lt_of_lt_of_le hn (by decide)), ?_⟩
  rw [zeros_succ]
  have gx : SameX t H (upd H t (.lst (zeros (n + 1)))) := (SameX.refl t H).write _
  have hS1 := gx.scr ht hS
  refine ⟨_, rfl, _, rfl, t, _, rfl, .inl (SqL.of upd_same), _, rfl, a, ns, _, m, rfl, hS1, by omega, hm, fun r H' l1 l2 g => ?_⟩
  exact q r H' l1 l2 (gx.trans (g.x t)) (g _ _ upd_same)
def sp_pick (K : PySem.W.Frag) : Sp := fun vs H Q _ => ∃ (a t p : Addr) (ns : List Int) (n : Nat) (xs : List V), vs = [.ref a, .ref t, .ref p] ∧ Scr K H a ns ∧ H t = some (.lst (zeros n)) ∧ n < 5000 ∧ H p = some (.lst xs) ∧ p ≠ t ∧ xs ≠ [] ∧
  ∀ (v : V) (H' : Hp), v ∈ xs → SameX t H H' → H' t = some (.lst (zeros (n + 1))) → Q v H'
theorem ok_law_pick (T : Txt K mg) : FnOk P w K mg base (CXr P w) 4 T.law_pick.a T.law_pick.d ["_law_script", "_law_town", "_law_some_here"] (sp_pick K) := by
  refine T.law_pick.F.okN sc_law_pick (fun vs H Q E h => ?_) (fun cdv A outer s H vs Q E hr h => ?_)
  · obtain ⟨a, t, p, ns, n, xs, rfl, _⟩ := h; rfl
  obtain ⟨a, t, p, ns, n, xs, rfl, hS, ht, hn, hp, hpt, hx, q⟩ := h
  refine ⟨_, (pss_one (ps_ret (pe_ix ix_list (pv 2) (pe_call (ok_law_draw T) (hr.mono (by decide)) rfl T.law_draw.m T.law_draw.F.kp T.law_draw.b .nil passN (pa_cons (pv 0) (pa_cons (pv 1) (pa_cons (pe_callB call_len_seq rfl T.n_len bt_len (pa_cons (pv 2) pa_nil)) pa_nil)))) (fun _ _ => rfl)))), ?_⟩
  have hpos := List.length_pos_iff.mpr hx
  refine ⟨_, rfl, _, rfl, _, rfl, _, rfl, p, _, rfl, .inl (SqL.of hp), a, t, ns, n, _, rfl, hS, ht, hn, by omega, fun r H' l1 l2 g ht' => ?_⟩
  have hr' : r.toNat < xs.length := by omega
  exact ⟨p, xs, r, xs[r.toNat], rfl, rfl, SqL.of (g p _ hpt hp), atI_int l1 (by simp [hr']), q _ H' (List.getElem_mem hr') g ht'⟩
def sp_world (K : PySem.W.Frag) : Sp := fun vs H Q _ => ∃ (a t : Addr) (ns : List Int) (n : Nat) (most wide : Int), vs = [.ref a, .ref t, .int most, .int wide] ∧ Scr K H a ns ∧ H t = some (.lst (zeros n)) ∧ n < 4000 ∧ 1 ≤ most ∧ most ≤ 10 ∧ 1 ≤ wide ∧ wide ≤ 99 ∧
  ∀ (W : Wd) (v : V) (n' : Nat) (H' : Hp), W.Ok → (W.bs.length : Int) ≤ most → (∀ p ∈ W.bs, p.2 ≤ p.1 + wide - 1) → Rep H' v (encW W) → SameX t H H' → H' t = some (.lst (zeros n')) → n' ≤ n + 24 → Q v H'
theorem ok_law_world (T : Txt K mg) : FnOk P w K mg base (CXr P w) 5 T.law_world.a T.law_world.d ["_law_script", "_law_town", "_law_most", "_law_wide"] (sp_world K) := by
  refine T.law_world.F.okN sc_law_world (fun vs H Q E h => ?_) (fun cdv A outer s H vs Q E hr h => ?_)
  · obtain ⟨a, t, ns, n, most, wide, rfl, _⟩ := h; rfl
  obtain ⟨a, t, ns, n, most, wide, rfl, hS, ht, hn, hm1, hm2, hw1, hw2, q⟩ := h
  refine ⟨_, (pss_cons (ps_set (i := 4) sc_law_world.nd rfl (by first | exact Or.inl rfl | exact Or.inr rfl) (pe_tup pa_nil)) (pss_cons (ps_set (i := 5) sc_law_world.nd rfl (by first | exact Or.inl rfl | exact Or.inr rfl) (pe_call (ok_law_pick T) (hr.mono (by decide)) rfl T.law_pick.m T.law_pick.F.kp T.law_pick.b .nil passN (pa_cons (pv 0) (pa_cons (pv 1) (pa_cons (pe_lst (pa_cons pe_int (pa_cons pe_int (pa_cons pe_int (pa_cons pe_int pa_nil))))) pa_nil))))) (pss_cons (ps_for PassesOwn.never rfl (pi_range1 rfl T.n_range (pa_cons (pe_op op_add pe_int (pe_call (ok_law_draw T) (hr.mono (by decide)) rfl T.law_draw.m T.law_draw.F.kp T.law_draw.b .nil passN (pa_cons (pv 0) (pa_cons (pv 1) (pa_cons (pv 2) pa_nil))))) pa_nil)) (pg_name (i := 6) sc_law_world.nd rfl (by first | exact Or.inl rfl | exact Or.inr rfl)) (pss_cons (ps_set (i := 7) sc_law_world.nd rfl (by first | exact Or.inl rfl | exact Or.inr rfl) (pe_op op_add pe_int (pe_call (ok_law_draw T) (hr.mono (by decide)) rfl T.law_draw.m T.law_draw.F.kp T.law_draw.b .nil passN (pa_cons (pv 0) (pa_cons (pv 1) (pa_cons (pv 5) pa_nil)))))) (pss_one (ps_set (i := 4) sc_law_world.nd rfl (by first | exact Or.inl rfl | exact Or.inr rfl) (pe_op op_catA (pv 4) (pe_tup (pa_cons (pe_tup (pa_cons (pv 7) (pa_cons (pe_callB (call_min2 rfl) rfl T.n_min bt_min (pa_cons pe_int (pa_cons (pe_op op_add (pv 7) (pe_call (ok_law_draw T) (hr.mono (by decide)) rfl T.law_draw.m T.law_draw.F.kp T.law_draw.b .nil passN (pa_cons (pv 0) (pa_cons (pv 1) (pa_cons (pv 3) pa_nil))))) pa_nil))) pa_nil))) pa_nil))))))) (pss_one (ps_ret (pe_tup (pa_cons (pe_op op_add pe_int (pe_call (ok_law_draw T) (hr.mono (by decide)) rfl T.law_draw.m T.law_draw.F.kp T.law_draw.b .nil passN (pa_cons (pv 0) (pa_cons (pv 1) (pa_cons pe_int pa_nil))))) (pa_cons (pv 4) pa_nil)))))))), ?_⟩
  -- made = ()
  refine ⟨by show 0 ≤ sizeLine; decide, fun m0 hm0 => ?_⟩
  have g0 := same_new hm0 (.tup [])
  have hS0 := hS.same g0
  have t0 := g0 _ _ ht
  have hm00 : upd H m0 (.tup []) m0 = some (.tup []) := upd_same
  generalize upd H m0 (.tup []) = H0 at *
  -- top
  refine ⟨_, rfl, _, rfl, (by show 4 ≤ sizeLine; decide), fun p hp => ?_⟩
  have hpt : p ≠ t := fun z => by rw [z, t0] at hp; cases hp
  have g1 := same_new hp (.lst [.int 4, .int 9, .int 30, .int 90])
  refine ⟨a, t, p, ns, n, _, rfl, hS0.same g1, g1 _ _ t0, by omega, upd_same, hpt, by simp, fun v H2 hv g2 t2 => ?_⟩
  obtain ⟨top', rfl, htop1, htop2⟩ : ∃ z : Int, v = .int z ∧ 1 ≤ z ∧ z ≤ 90 := by
    simp only [List.mem_cons, List.not_mem_nil, or_false] at hv
    rcases hv with rfl | rfl | rfl | rfl
    · exact ⟨4, rfl, by omega, by omega⟩
    · exact ⟨9, rfl, by omega, by omega⟩
    · exact ⟨30, rfl, by omega, by omega⟩
    · exact ⟨90, rfl, by omega, by omega⟩
  have gx2 : SameX t H0 H2 := (g1.x t).trans g2
  have hS2 := gx2.scr t0 hS0
  have m02 : m0 ≠ t := fun z => by rw [z, t0] at hm00; cases hm00
  have hm2' := gx2 _ _ m02 hm00
  -- how many
  refine ⟨_, rfl, _, rfl, _, rfl, a, t, ns, n + 1, most, rfl, hS2, t2, by omega, by omega, fun r H3 r0 r1 g3 t3 => ?_⟩
  have hS3 := g3.scr t2 hS2
  have gx3 : SameX t H H3 := ((g0.x t).trans gx2).trans g3
  refine ⟨_, _, rfl, rfl, 1 + r, rfl, by omega, by omega, for_range (n := (1 + r).toNat) (fun i σ H4 => ∃ (n2 : Nat) (m : Addr) (ws : List V) (bl : List (Int × Int)) (x y : Option V), σ = [some (.ref a), some (.ref t), some (.int most), some (.int wide), some (.ref m), some (.int top'), x, y] ∧
      SameX t H H4 ∧ H4 t = some (.lst (zeros n2)) ∧ n2 ≤ n + 2 + 2 * i ∧ H4 m = some (.tup ws) ∧ Reps H4 ws (bl.map encB) ∧ bl.length = i ∧ ∀ p ∈ bl, 1 ≤ p.1 ∧ p.1 ≤ p.2 ∧ p.2 ≤ 99 ∧ p.2 ≤ p.1 + wide - 1) ?_ ?_ ?_⟩
  · exact ⟨n + 2, m0, [], [], none, none, rfl, gx3, t3, by omega, g3 _ _ m02 hm2', .nil, rfl, fun p hp => nomatch hp⟩
  · rintro i σ H4 hi ⟨n2, m, ws, bl, x, y, rfl, g4, t4, hn2, hm4, rs, hbl, hb⟩
    have hi10 : i < 10 := by omega
    have hS4 := g4.scr ht hS
    refine ⟨_, rfl, _, rfl, _, rfl, a, t, ns, n2, top', rfl, hS4, t4, by omega, by omega, fun r1 H5 a1 a2 g5 t5 => ?_⟩
    have hS5 := g5.scr t4 hS4
    refine ⟨_, _, rfl, rfl, ?_⟩
    refine ⟨_, rfl, _, rfl, _, rfl, _, rfl, _, rfl, _, rfl, a, t, ns, n2 + 1, wide, rfl, hS5, t5, by omega, by omega, fun r2 H6 b1 b2 g6 t6 => ?_⟩
    refine ⟨_, _, rfl, rfl, _, _, rfl, (by show 2 ≤ sizeLine; decide), fun p3 hp3 => ?_⟩
    have mt : m ≠ t := fun z => by rw [z, t4] at hm4; cases hm4
    have ts6 : TSame H4 H6 := (g5.ts t4).trans (g6.ts t5)
    have k3 := same_new hp3 (.tup [.int (1 + r1), .int (if 1 + r1 + r2 < 99 then 1 + r1 + r2 else 99)])
    have e3 : upd H6 p3 (.tup [.int (1 + r1), .int (if 1 + r1 + r2 < 99 then 1 + r1 + r2 else 99)]) p3 = some (.tup [.int (1 + r1), .int (if 1 + r1 + r2 < 99 then 1 + r1 + r2 else 99)]) := upd_same
    generalize upd H6 p3 (.tup [.int (1 + r1), .int (if 1 + r1 + r2 < 99 then 1 + r1 + r2 else 99)]) = H7 at *
    refine ⟨by show 1 ≤ sizeLine; decide, fun p4 hp4 => ?_⟩
    have k4 := same_new hp4 (.tup [.ref p3])
    have e4 : upd H7 p4 (.tup [.ref p3]) p4 = some (.tup [.ref p3]) := upd_same
    generalize upd H7 p4 (.tup [.ref p3]) = H8 at *
    have k34 := k3.trans k4
    have hm8 := k34 _ _ (ts6 _ _ hm4)
    have wl := rs.length
    rw [List.length_map, hbl] at wl
    refine ⟨m, p4, ws, [.ref p3], rfl, rfl, hm8, e4, Nat.le_trans (show ws.length + 1 ≤ 100 by omega) (by decide), fun p5 H9 g9 h9 => ?_⟩
    have ts9 : TSame H4 H9 := (ts6.trans k34.ts).trans g9.ts
    refine ⟨n2 + 2, p5, ws ++ [.ref p3], bl ++ [(1 + r1, if 1 + r1 + r2 < 99 then 1 + r1 + r2 else 99)], _, _, rfl, ?_, g9 _ _ (k34 _ _ t6), by omega, h9, ?_, by simp [hbl], fun p hp => ?_⟩
    · exact ((g4.trans g5).trans g6).trans ((k34.trans g9).x t)
    · rw [List.map_append]
      refine (rs.tmono ts9 (all_encB bl)).append (Reps.one (.tup (g9 _ _ (k4 _ _ e3)) (Reps.ints (ns := [_, _]))))
    · rcases List.mem_append.mp hp with hp | hp
      · exact hb p hp
      · have e := List.mem_singleton.mp hp
        subst e
        dsimp only
        split <;> omega
  · rintro σ H4 ⟨n2, m, ws, bl, x, y, rfl, g4, t4, hn2, hm4, rs, hbl, hb⟩
    have hS4 := g4.scr ht hS
    have hbl' : bl.length = (1 + r).toNat := hbl
    refine ⟨_, rfl, _, rfl, a, t, ns, n2, 4, rfl, hS4, t4, by omega, by decide, fun r3 H5 c1 c2 g5 t5 => ?_⟩
    refine ⟨_, _, rfl, rfl, _, rfl, by show 2 ≤ sizeLine; decide, fun p2 hp2 => ?_⟩
    have k2 := same_new hp2 (.tup [.int (1 + r3), .ref m])
    have ts : TSame H4 (upd H5 p2 (.tup [.int (1 + r3), .ref m])) := (g5.ts t4).trans k2.ts
    refine q ⟨1 + r3, bl⟩ _ n2.succ _ ⟨by show 1 ≤ 1 + r3; omega, by show 1 + r3 ≤ 4; omega, by show 1 ≤ bl.length; omega, by show bl.length ≤ 10; omega, fun p hp => ?_⟩ (by show (bl.length : Int) ≤ most; omega) (fun p hp => (hb p hp).2.2.2) ?_ ((g4.trans g5).new hp2 _) (k2 _ _ t5) (by omega)
    · have := hb p hp
      exact ⟨this.1, this.2.1, this.2.2.1⟩
    · exact .tup upd_same (.cons (.int _) (.cons (.tup (ts _ _ hm4) (rs.tmono ts (all_encB bl))) .nil))
theorem agree2 {x y : V} {r : St} : ∀ (k : Nat) (v : V), (none :: none :: r : St)[k]? = some (some v) → (((none :: none :: r : St).set 0 (some x)).set 1 (some y))[k]? = some (some v)
  | 0, v, h => by cases h
  | 1, v, h => by cases h
  | k + 2, v, h => h
end
end Be
set_option Elab.async false
set_option linter.all false
set_option maxRecDepth 100000
namespace Be
open PySem L2
/-! ### what a world is, on data -/
def wholeIn (d : PyData) (lo hi : Int) : Bool := match d with
  | .int i => decide (lo ≤ i) && decide (i ≤ hi)
  | _ => false
def isPairD : PyData → Bool
  | .tuple ds => decide (ds.length = 2)
  | _ => false
def bowD : PyData → Bool
  | .tuple [.int i, b] => wholeIn (.int i) 1 99 && wholeIn b i 99
  | _ => false
def arBD : PyData → Bool
  | .tuple ds => decide (1 ≤ ds.length) && decide (ds.length ≤ 10) && ds.all bowD
  | _ => false
def isWD : PyData → Bool
  | .tuple [b, x] => wholeIn b 1 4 && arBD x
  | _ => false
theorem pair_of {d : PyData} (h : isPairD d = true) : ∃ x y, d = .tuple [x, y] := by
  cases d with
  | tuple ds =>
    have := of_decide_eq_true (show decide (ds.length = 2) = true from h)
    match ds, this with
    | [x, y], _ => exact ⟨x, y, rfl⟩
  | _ => cases h
theorem bow_no {d : PyData} (h : isPairD d = false) : bowD d = false := by
  unfold bowD
  split
  · cases h
  · rfl
theorem isW_no {d : PyData} (h : isPairD d = false) : isWD d = false := by
  unfold isWD
  split
  · cases h
  · rfl
section
variable {P : Program} {w : World} {K : PySem.W.Frag} {mg : Str → Option Value} {base : Heap}
def sp_whole : Sp := fun vs H Q _ => ∃ (v : V) (d : PyData) (lo hi : Int), vs = [v, .int lo, .int hi] ∧ Rep H v d ∧ Q (.bl (wholeIn d lo hi)) H
theorem ok_is_whole_within (T : Txt K mg) : FnOk P w K mg base (CXr P w) 1 T.is_whole_within.a T.is_whole_within.d ["thing", "least", "most"] sp_whole := by
  refine T.is_whole_within.F.okN sc_is_whole_within (fun vs H Q E h => ?_) (fun cdv A outer s H vs Q E hr h => ?_)
  · obtain ⟨v, d, lo, hi, rfl, _⟩ := h; rfl
  obtain ⟨v, d, lo, hi, rfl, hd, q⟩ := h
  refine ⟨_, (pss_cons (ps_if (PW.pt (pw_or (pt_not (pt_val (pe_callB (call_isi kit_int) rfl T.n_isinstance bt_isinstance (pa_cons (pv 0) (pa_cons (pe_bltn (v := .ty "int") rfl T.n_int bt_int rfl) pa_nil))))) (pw_or1 (pt_val (pe_callB (call_isi kit_bool) rfl T.n_isinstance bt_isinstance (pa_cons (pv 0) (pa_cons (pe_bltn (v := .ty "bool") rfl T.n_bool bt_bool rfl) pa_nil))))))) (pss_one (ps_ret pe_bl)) pss_nil) (pss_one (ps_ret (pe_chain op_le op_le (pv 1) (pv 0) (pv 2))))), ?_⟩
  refine ⟨_, rfl, v, d, rfl, hd, _, rfl, ?_⟩
  cases hd with
  | non => exact iteT (iteT q)
  | str x => exact iteT (iteT q)
  | lst e r => exact iteT (iteT q)
  | tup e r => exact iteT (iteT q)
  | bl b => exact iteF ⟨_, rfl, _, _, rfl, .bl b, _, rfl, iteT q⟩
  | int i =>
    refine iteF ⟨_, rfl, _, _, rfl, .int i, _, rfl, iteF ?_⟩
    refine ⟨_, rfl, _, rfl, _, _, rfl, rfl, _, rfl, ?_⟩
    refine ite2 (fun c => ?_) (fun c => ?_)
    · refine ⟨_, rfl, _, _, rfl, rfl, ?_⟩
      have e : wholeIn (.int i) lo hi = decide (i ≤ hi) := by show (decide (lo ≤ i) && decide (i ≤ hi)) = _; rw [c]; rfl
      rw [e] at q
      exact q
    · have e : wholeIn (.int i) lo hi = false := by show (decide (lo ≤ i) && decide (i ≤ hi)) = _; rw [Bool.eq_false_iff.mpr c]; rfl
      rw [e] at q
      exact q
def sp_pair : Sp := fun vs H Q _ => ∃ (v : V) (d : PyData), vs = [v] ∧ Rep H v d ∧ Q (.bl (isPairD d)) H
theorem ok_is_pair (T : Txt K mg) : FnOk P w K mg base (CXr P w) 1 T.is_pair.a T.is_pair.d ["thing"] sp_pair := by
  refine T.is_pair.F.okN sc_is_pair (fun vs H Q E h => ?_) (fun cdv A outer s H vs Q E hr h => ?_)
  · obtain ⟨v, d, rfl, _⟩ := h; rfl
  obtain ⟨v, d, rfl, hd, q⟩ := h
  refine ⟨_, (pss_one (ps_ret (pe_and (pe_callB (call_isi kit_tuple) rfl T.n_isinstance bt_isinstance (pa_cons (pv 0) (pa_cons (pe_bltn (v := .ty "tuple") rfl T.n_tuple bt_tuple rfl) pa_nil))) (pe_one (pe_cmpR op_eq (pe_callB call_len_seq rfl T.n_len bt_len (pa_cons (pv 0) pa_nil)) pe_int (nomark _)))))), ?_⟩
  refine ⟨_, rfl, v, d, rfl, hd, _, rfl, ?_⟩
  cases hd with
  | non => exact iteF q
  | str x => exact iteF q
  | bl b => exact iteF q
  | int i => exact iteF q
  | lst e r => exact iteF q
  | @tup a vs ds e r =>
    refine iteT ⟨_, rfl, a, _, rfl, .inr (SqT.of e), rfl, ?_⟩
    have z : decide (V.int (vs.length : Int) = V.int 2) = isPairD (.tuple ds) := by
      show _ = decide (ds.length = 2)
      rw [r.length]
      by_cases h2 : ds.length = 2
      · rw [h2]; rfl
      · rw [decide_eq_false h2, decide_eq_false]
        intro z
        have := V.int.inj z
        omega
    rw [z]
    exact q
def sp_bow : Sp := fun vs H Q _ => ∃ (v : V) (d : PyData), vs = [v] ∧ Rep H v d ∧ Q (.bl (bowD d)) H
theorem ok_are_bounds_of_work (T : Txt K mg) : FnOk P w K mg base (CXr P w) 2 T.are_bounds_of_work.a T.are_bounds_of_work.d ["thing"] sp_bow := by
  refine T.are_bounds_of_work.F.okN sc_are_bounds_of_work (fun vs H Q E h => ?_) (fun cdv A outer s H vs Q E hr h => ?_)
  · obtain ⟨v, d, rfl, _⟩ := h; rfl
  obtain ⟨v, d, rfl, hd, q⟩ := h
  refine ⟨_, (pss_cons (ps_if (PW.pt (pw_or (pt_not (pt_val (pe_call (ok_is_pair T) (hr.mono (by decide)) rfl T.is_pair.m T.is_pair.F.kp T.is_pair.b .nil passN (pa_cons (pv 0) pa_nil)))) (pw_or1 (pt_not (pt_val (pe_call (ok_is_whole_within T) (hr.mono (by decide)) rfl T.is_whole_within.m T.is_whole_within.F.kp T.is_whole_within.b .nil passN (pa_cons (pe_ix ix_tup (pv 0) pe_int (fun _ _ => rfl)) (pa_cons pe_int (pa_cons (pe_glob (v := .int 99) rfl T.c_MOST_LENGTH.choose_spec ⟨_, rfl⟩) pa_nil))))))))) (pss_one (ps_ret pe_bl)) pss_nil) (pss_one (ps_ret (pe_call (ok_is_whole_within T) (hr.mono (by decide)) rfl T.is_whole_within.m T.is_whole_within.F.kp T.is_whole_within.b .nil passN (pa_cons (pe_ix ix_tup (pv 0) pe_int (fun _ _ => rfl)) (pa_cons (pe_ix ix_tup (pv 0) pe_int (fun _ _ => rfl)) (pa_cons (pe_glob (v := .int 99) rfl T.c_MOST_LENGTH.choose_spec ⟨_, rfl⟩) pa_nil))))))), ?_⟩
  refine ⟨_, rfl, v, d, rfl, hd, _, rfl, ?_⟩
  cases hp : isPairD d with
  | false =>
    rw [bow_no hp] at q
    exact iteT (iteT q)
  | true =>
    obtain ⟨x, y, rfl⟩ := pair_of hp
    obtain ⟨a, vs, rfl, ha, rs⟩ := hd.tup_inv
    cases rs with
    | @cons v1 _ _ _ r1 rs =>
      cases rs with
      | @cons v2 _ _ _ r2 rs =>
        cases rs
        refine iteF ⟨_, rfl, a, _, _, _, rfl, rfl, SqT.of ha, rfl, _, x, 1, 99, rfl, r1, _, rfl, ?_⟩
        cases hx : wholeIn x 1 99 with
        | false =>
          have e : bowD (.tuple [x, y]) = false := by
            cases x with
            | int i => show (wholeIn (.int i) 1 99 && _) = false; rw [hx]; rfl
            | _ => rfl
          rw [e] at q
          exact iteT q
        | true =>
          cases r1 with
          | int i =>
            refine iteF ?_
            refine ⟨_, rfl, a, _, _, _, rfl, rfl, SqT.of ha, rfl, _, rfl, a, _, _, _, rfl, rfl, SqT.of ha, rfl, v2, y, i, 99, rfl, r2, ?_⟩
            have e : bowD (.tuple [.int i, y]) = wholeIn y i 99 := by show (wholeIn (.int i) 1 99 && _) = _; rw [hx]; rfl
            rw [e] at q
            exact q
          | _ => cases hx
def sp_arb : Sp := fun vs H Q _ => ∃ (v : V) (d : PyData), vs = [v] ∧ Rep H v d ∧ ∀ H', Same H H' → Q (.bl (arBD d)) H'
theorem ok_are_bounds (T : Txt K mg) : FnOk P w K mg base (CXr P w) 3 T.are_bounds.a T.are_bounds.d ["thing"] sp_arb := by
  refine T.are_bounds.F.okN sc_are_bounds (fun vs H Q E h => ?_) (fun cdv A outer s H vs Q E hr h => ?_)
  · obtain ⟨v, d, rfl, _⟩ := h; rfl
  obtain ⟨v, d, rfl, hd, q⟩ := h
  refine ⟨_, (pss_cons (ps_if (PW.pt (pw_or (pt_not (pt_val (pe_callB (call_isi kit_tuple) rfl T.n_isinstance bt_isinstance (pa_cons (pv 0) (pa_cons (pe_bltn (v := .ty "tuple") rfl T.n_tuple bt_tuple rfl) pa_nil))))) (pw_or1 (pt_not (pt_chain op_le op_le pe_int (pe_callB call_len_seq rfl T.n_len bt_len (pa_cons (pv 0) pa_nil)) (pe_glob (v := .int 10) rfl T.c_MOST_WORKS.choose_spec ⟨_, rfl⟩)))))) (pss_one (ps_ret pe_bl)) pss_nil) (pss_one (ps_ret (pe_callB (call_allL rfl) rfl T.n_all bt_all (pa_cons (pe_comp (NB := ["part"]) (js := [none]) rfl (blkOk_of rfl (by decide +kernel) rfl (by decide +kernel) (by decide +kernel) (by with_unfolding_all rfl) (by with_unfolding_all rfl) (by with_unfolding_all rfl) (by with_unfolding_all rfl)) (pi_tup (pv 0)) (fun _ _ _ _ => (pg_name (i := 0) (show (["part"] : List Str).Nodup by decide +kernel) rfl (by first | exact Or.inl rfl | exact Or.inr rfl))) (fun _ _ _ _ => pf_nil) (fun _ _ _ _ => (pe_call (ok_are_bounds_of_work T) (hr.mono (by decide)) rfl T.are_bounds_of_work.m T.are_bounds_of_work.F.kp T.are_bounds_of_work.b .nil passN (pa_cons (pv 0) pa_nil)))) pa_nil))))), ?_⟩
  refine ⟨_, rfl, v, d, rfl, hd, _, rfl, ?_⟩
  cases hd with
  | non => exact iteT (iteT (q H (Same.refl H)))
  | str x => exact iteT (iteT (q H (Same.refl H)))
  | bl b => exact iteT (iteT (q H (Same.refl H)))
  | int i => exact iteT (iteT (q H (Same.refl H)))
  | lst e r => exact iteT (iteT (q H (Same.refl H)))
  | @tup a vs ds e r =>
    have hl := r.length
    refine iteF ⟨_, rfl, a, _, rfl, .inr (SqT.of e), _, _, rfl, rfl, _, rfl, ?_⟩
    refine ite2 (fun c1 => ?_) (fun c1 => ?_)
    · have c1' : 1 ≤ (vs.length : Int) := of_decide_eq_true c1
      refine ⟨_, _, rfl, rfl, _, rfl, ?_⟩
      refine ite2 (fun c2 => ?_) (fun c2 => ?_)
      · have c2' : ¬ ((vs.length : Int) ≤ 10) := by simpa using c2
        have no : arBD (.tuple ds) = false := by
          show (_ && decide (ds.length ≤ 10) && _) = false
          rw [decide_eq_false (show ¬ ds.length ≤ 10 by omega)]; simp
        rw [no] at q
        exact q H (Same.refl H)
      · have c2' : (vs.length : Int) ≤ 10 := by simpa using c2
        have yes : arBD (.tuple ds) = ds.all bowD := by
          show (decide (1 ≤ ds.length) && decide (ds.length ≤ 10) && ds.all bowD) = _
          rw [decide_eq_true (show 1 ≤ ds.length by omega), decide_eq_true (show ds.length ≤ 10 by omega)]; rfl
        rw [yes] at q
        refine ⟨_, rfl, a, rfl, ⟨_, SqT.of e⟩, fun D hD => ?_⟩
        refine comp_tup (K := K) (a := a) (xs := vs) (Q := fun x H1 => rAll [x] H1 Q) (fun i ys H2 => Same H H2 ∧ H2 D = some (.lst ys) ∧ ys = ((ds.take i).map bowD).map V.bl) ⟨same_new hD _, upd_same, rfl⟩ (fun i ys H2 _ hP => SqT.of (hP.1 _ _ e)) (fun i ys x H2 hx hP => ?_) (fun ys H2 hP => ?_)
        · obtain ⟨g, hD2, rfl⟩ := hP
          obtain ⟨d, hd, rx⟩ := (r.mono g).get' hx
          have hi : i < ds.length := (List.getElem?_eq_some_iff.mp hd).1
          refine ⟨agree0, iteT ⟨_, rfl, x, d, rfl, rx, hD2, ?_, g.write hD _, upd_same, ?_⟩⟩
          · rw [List.length_map, List.length_map]
            have := List.length_take_le i ds
            exact Nat.lt_of_lt_of_le (show _ < 100 by omega) (by decide)
          · rw [List.take_add_one, hd, List.map_append, List.map_append]; rfl
        · obtain ⟨g, hD2, rfl⟩ := hP
          rw [hl, List.take_length] at hD2
          refine ⟨D, _, rfl, hD2, ?_⟩
          rw [List.all_map]
          exact q H2 g
    · refine ⟨_, rfl, iteT ?_⟩
      have c1' : ¬ (1 ≤ (vs.length : Int)) := of_decide_eq_false (Bool.eq_false_iff.mpr c1)
      have no : arBD (.tuple ds) = false := by
        show (decide (1 ≤ ds.length) && _ && _) = false
        rw [decide_eq_false (show ¬ 1 ≤ ds.length by omega)]; simp
      rw [no] at q
      exact q H (Same.refl H)
def sp_isw : Sp := fun vs H Q _ => ∃ (v : V) (d : PyData), vs = [v] ∧ Rep H v d ∧ ∀ H', Same H H' → Q (.bl (isWD d)) H'
theorem ok_is_world (T : Txt K mg) : FnOk P w K mg base (CXr P w) 4 T.is_world.a T.is_world.d ["thing"] sp_isw := by
  refine T.is_world.F.okN sc_is_world (fun vs H Q E h => ?_) (fun cdv A outer s H vs Q E hr h => ?_)
  · obtain ⟨v, d, rfl, _⟩ := h; rfl
  obtain ⟨v, d, rfl, hd, q⟩ := h
  refine ⟨_, (pss_one (ps_ret (pe_and (pe_call (ok_is_pair T) (hr.mono (by decide)) rfl T.is_pair.m T.is_pair.F.kp T.is_pair.b .nil passN (pa_cons (pv 0) pa_nil)) (pe_and (pe_call (ok_is_whole_within T) (hr.mono (by decide)) rfl T.is_whole_within.m T.is_whole_within.F.kp T.is_whole_within.b .nil passN (pa_cons (pe_ix ix_tup (pv 0) pe_int (fun _ _ => rfl)) (pa_cons pe_int (pa_cons (pe_glob (v := .int 4) rfl T.c_MOST_BENCHES.choose_spec ⟨_, rfl⟩) pa_nil)))) (pe_one (pe_call (ok_are_bounds T) (hr.mono (by decide)) rfl T.are_bounds.m T.are_bounds.F.kp T.are_bounds.b .nil passN (pa_cons (pe_ix ix_tup (pv 0) pe_int (fun _ _ => rfl)) pa_nil))))))), ?_⟩
  refine ⟨_, rfl, v, d, rfl, hd, _, rfl, ?_⟩
  cases hp : isPairD d with
  | false =>
    rw [isW_no hp] at q
    exact iteF (q H (Same.refl H))
  | true =>
    obtain ⟨x, y, rfl⟩ := pair_of hp
    obtain ⟨a, vs, rfl, ha, rs⟩ := hd.tup_inv
    cases rs with
    | @cons v1 _ _ _ r1 rs =>
      cases rs with
      | @cons v2 _ _ _ r2 rs =>
        cases rs
        refine iteT ⟨_, rfl, a, _, _, _, rfl, rfl, SqT.of ha, rfl, v1, x, 1, 4, rfl, r1, _, rfl, ?_⟩
        cases hx : wholeIn x 1 4 with
        | false =>
          have e : isWD (.tuple [x, y]) = false := by show (wholeIn x 1 4 && _) = false; rw [hx]; rfl
          rw [e] at q
          exact iteF (q H (Same.refl H))
        | true =>
          have e : isWD (.tuple [x, y]) = arBD y := by show (wholeIn x 1 4 && _) = _; rw [hx]; rfl
          rw [e] at q
          exact iteT ⟨_, rfl, a, _, _, _, rfl, rfl, SqT.of ha, rfl, v2, y, rfl, r2, fun H' g => q H' g⟩
def sp_cw (T : Txt K mg) : Sp := fun vs H Q E => ∃ (v : V) (d : PyData), vs = [v] ∧ Rep H v d ∧ (isWD d = true → ∀ H', Same H H' → Q .non H') ∧ (isWD d = false → ∀ H', Same H H' → E (.ref T.e_NoWorld.C) none H')
theorem ok_check_world (T : Txt K mg) : FnOk P w K mg base (CXr P w) 5 T.check_world.a T.check_world.d ["world"] (sp_cw T) := by
  refine T.check_world.F.okR sc_check_world (fun vs H Q E h => ?_) (fun cdv A outer s H vs Q E hr h => ?_)
  · obtain ⟨v, d, rfl, _⟩ := h; rfl
  obtain ⟨v, d, rfl, hd, q1, q2⟩ := h
  refine ⟨_, (pss_one (ps_if (pt_not (pt_val (pe_call (ok_is_world T) (hr.mono (by decide)) rfl T.is_world.m T.is_world.F.kp T.is_world.b .nil passN (pa_cons (pv 0) pa_nil)))) (pss_one (ps_raise T.e_NoWorld.m T.e_NoWorld.q PySem.F.excBase_ValueError hr.hd pe_str rfl)) pss_nil)), ?_⟩
  refine ⟨_, rfl, v, d, rfl, hd, fun H' g => ⟨_, rfl, ?_⟩⟩
  cases hw : isWD d with
  | true => exact iteF (q1 hw H' g)
  | false => exact iteT ⟨by show 1 ≤ sizeLine; decide, q2 hw H' g⟩
end
end Be
set_option Elab.async false
set_option linter.all false
set_option maxRecDepth 100000
/-! a tuple times a number; str of a number -/
namespace BE
open PySem PySem.W PySem.Spec PyProof.Rows
open Builtin
section
variable {prog : Program} {w : World} {A : Around} {E : Value → Shared → Prop} {s : Shared}
end
end BE
namespace L2
open PySem PySem.SeqAt PySem.Spec PyProof.Rows
section
variable {X : Cx}
end
end L2
set_option Elab.async false
set_option linter.all false
set_option maxRecDepth 100000
/-! texts: what is cut at a sign and what is joined by it; texts of small numbers -/
namespace BE
open PySem PySem.Builtin PySem.Builtin.Str PyProof.Rows
theorem str_ext {x y : Str} (h : x.cps.toList = y.cps.toList) : x = y := by
  cases x; cases y
  congr 1
  exact Array.toList_inj.mp h
theorem cat_cps (x y : Str) : (x ++ y).cps.toList = x.cps.toList ++ y.cps.toList := by
  show (x.cps ++ y.cps).toList = _
  exact Array.toList_append
theorem cat_len (x y : Str) : (x ++ y).length = x.length + y.length := by
  show (x.cps ++ y.cps).size = _
  exact Array.size_append
theorem nil_cat (x : Str) : Str.empty ++ x = x := str_ext (by rw [cat_cps]; rfl)
theorem at_list {x y : Str} {i : Nat} : StrLaws.At x y x.length i ↔ i + y.length ≤ x.length ∧ (x.cps.toList.drop i).take y.length = y.cps.toList := by
  unfold StrLaws.At
  refine and_congr_right fun h => ?_
  unfold subAt
  rw [beq_iff_eq, ← Array.toList_inj, Array.toList_extract]
  show List.extract _ _ _ = _ ↔ _
  rw [List.extract_eq_take_drop, show i + y.length - i = y.length by omega]
theorem sub_list (x : Str) (i j : Nat) : (strSub x i j).cps.toList = (x.cps.toList.drop i).take (j - i) := by
  show (x.cps.extract i j).toList = _
  rw [Array.toList_extract]
/-- cut where a sign stands that is not ahead -/
theorem part_at {a y b : Str} {c : Nat} {r : List Nat} (hy : y.cps.toList = c :: r) (hc : c ∉ a.cps.toList) : Txt.partition (a ++ y ++ b) y = (a, y, b) := by
  have len : (a ++ y ++ b).length = a.length + y.length + b.length := by rw [cat_len, cat_len]
  have al : a.cps.toList.length = a.length := Array.length_toList
  have yl : y.cps.toList.length = y.length := Array.length_toList
  have bl : b.cps.toList.length = b.length := Array.length_toList
  have xs : (a ++ y ++ b).cps.toList = a.cps.toList ++ (y.cps.toList ++ b.cps.toList) := by rw [cat_cps, cat_cps, List.append_assoc]
  have here : StrLaws.At (a ++ y ++ b) y (a ++ y ++ b).length a.length := by
    refine at_list.mpr ⟨by omega, ?_⟩
    rw [xs, List.drop_append_of_le_length (by omega), List.drop_of_length_le (by omega), List.nil_append, List.take_append_of_le_length (by omega), List.take_of_length_le (by omega)]
  have none : ∀ k, k < a.length → ¬ StrLaws.At (a ++ y ++ b) y (a ++ y ++ b).length k := fun k hk h => by
    have e := (at_list.mp h).2
    rw [xs, List.drop_append_of_le_length (by omega), hy] at e
    have hk' : k < a.cps.toList.length := by omega
    rw [List.drop_eq_getElem_cons hk', ← yl, hy, List.cons_append, List.length_cons, List.take_succ_cons] at e
    have := (List.cons.inj e).1
    exact hc (this ▸ List.getElem_mem hk')
  unfold Txt.partition
  rcases StrLaws.occ_head (a ++ y ++ b) y 1 (Nat.le_refl _) with ⟨_, h⟩ | ⟨i, r', e, h1, h2⟩
  · exact absurd here (h _)
  · have ei : i = a.length := by
      rcases Nat.lt_trichotomy i a.length with h | h | h
      · exact absurd h1 (none i h)
      · exact h
      · exact absurd here (h2 _ h)
    rw [e]
    subst ei
    show (strSub (a ++ y ++ b) 0 a.length, y, strSub (a ++ y ++ b) (a.length + y.length) (a ++ y ++ b).length) = _
    congr 1
    · refine str_ext ?_
      rw [sub_list, xs, List.drop_zero, Nat.sub_zero, List.take_append_of_le_length (by omega), List.take_of_length_le (by omega)]
    · congr 1
      refine str_ext ?_
      rw [sub_list, xs, ← List.append_assoc, List.drop_append_of_le_length (by rw [List.length_append]; omega), List.drop_of_length_le (by rw [List.length_append]; omega), List.nil_append, List.take_of_length_le (by rw [len]; omega)]
/-- nowhere cut -/
theorem part_no {a : Str} {c : Nat} (hc : c ∉ a.cps.toList) : Txt.partition a ⟨#[c]⟩ = (a, Str.empty, Str.empty) := by
  unfold Txt.partition
  rcases StrLaws.occ_head a ⟨#[c]⟩ 1 (Nat.le_refl _) with ⟨e, _⟩ | ⟨i, r', e, h1, h2⟩
  · rw [e]
  · exfalso
    have := (StrLaws.subAt_one a c i).mp h1
    exact hc (List.mem_of_getElem? this)
def jn (c : Nat) : List (List Nat) → List Nat
  | [] => []
  | [w] => w
  | w :: v :: r => w ++ c :: jn c (v :: r)
theorem join_jn (c : Nat) : ∀ ws : List Str, (Str.join ⟨#[c]⟩ ws).cps.toList = jn c (ws.map fun w => w.cps.toList)
  | [] => rfl
  | [w] => rfl
  | w :: v :: r => by
    show (w ++ ⟨#[c]⟩ ++ Str.join ⟨#[c]⟩ (v :: r)).cps.toList = _
    rw [cat_cps, cat_cps, join_jn c (v :: r)]
    simp [jn]
theorem cut_eq {c : Nat} : ∀ {a b x y : List Nat}, c ∉ a → c ∉ b → a ++ c :: x = b ++ c :: y → a = b ∧ x = y
  | [], [], x, y, _, _, h => ⟨rfl, (List.cons.inj h).2⟩
  | [], b0 :: b, x, y, _, hb, h => absurd (List.cons.inj h).1 (fun e => hb (by rw [e]; exact List.mem_cons_self))
  | a0 :: a, [], x, y, ha, _, h => absurd (List.cons.inj h).1.symm (fun e => ha (by rw [e]; exact List.mem_cons_self))
  | a0 :: a, b0 :: b, x, y, ha, hb, h => by
    obtain ⟨e1, e2⟩ := List.cons.inj h
    obtain ⟨e3, e4⟩ := cut_eq (fun z => ha (List.mem_cons_of_mem _ z)) (fun z => hb (List.mem_cons_of_mem _ z)) e2
    exact ⟨by rw [e1, e3], e4⟩
theorem jn_inj {c : Nat} : ∀ {ws vs : List (List Nat)}, ws ≠ [] → vs ≠ [] → (∀ w ∈ ws, c ∉ w) → (∀ v ∈ vs, c ∉ v) → jn c ws = jn c vs → ws = vs
  | [], _, h, _, _, _, _ => absurd rfl h
  | _, [], _, h, _, _, _ => absurd rfl h
  | [w], [v], _, _, _, _, h => by rw [show w = v from h]
  | [w], v :: v2 :: r, _, _, hw, _, h => absurd (show c ∈ w by rw [show w = v ++ c :: jn c (v2 :: r) from h]; simp) (hw w List.mem_cons_self)
  | w :: w2 :: r, [v], _, _, _, hv, h => absurd (show c ∈ v by rw [← show w ++ c :: jn c (w2 :: r) = v from h]; simp) (hv v List.mem_cons_self)
  | w :: w2 :: r, v :: v2 :: q, _, _, hw, hv, h => by
    obtain ⟨e1, e2⟩ := cut_eq (hw w List.mem_cons_self) (hv v List.mem_cons_self) h
    rw [e1, jn_inj (by simp) (by simp) (fun x hx => hw x (List.mem_cons_of_mem _ hx)) (fun x hx => hv x (List.mem_cons_of_mem _ hx)) e2]
theorem split_join {c : Nat} {ws : List Str} (hne : ws ≠ []) (hw : ∀ w ∈ ws, c ∉ w.cps.toList) : Txt.split (Txt.join ⟨#[c]⟩ ws) ⟨#[c]⟩ = ws := by
  have ej : Txt.join ⟨#[c]⟩ ws = Str.join ⟨#[c]⟩ ws := StrLaws.glued_eq_join _ _
  rw [ej]
  have hj := StrLaws.join_split (Str.join ⟨#[c]⟩ ws) ⟨#[c]⟩
  have hf := StrLaws.split_free (Str.join ⟨#[c]⟩ ws) c
  have hp := split_pos (Str.join ⟨#[c]⟩ ws) ⟨#[c]⟩
  generalize Txt.split (Str.join ⟨#[c]⟩ ws) ⟨#[c]⟩ = vs at *
  have h2 := congrArg (fun s : Str => s.cps.toList) hj
  simp only [join_jn] at h2
  have := jn_inj (c := c) (ws := vs.map fun w => w.cps.toList) (vs := ws.map fun w => w.cps.toList) (fun z => by rw [List.map_eq_nil_iff.mp z] at hp; simp at hp) (fun z => hne (List.map_eq_nil_iff.mp z))
    (fun w h => by obtain ⟨x, hx, rfl⟩ := List.mem_map.mp h; exact hf x hx) (fun w h => by obtain ⟨x, hx, rfl⟩ := List.mem_map.mp h; exact hw x hx) h2
  exact (List.map_inj_right (fun x y h => str_ext h)).mp this
/-- the text of a number -/
def nT (i : Int) : Str := Str.ofString (toString i)
def okT (n : Nat) : Bool := let t := (nT (n : Int)).cps.toList
  decide (t ≠ []) && decide (45 ∉ t) && decide (32 ∉ t) && decide (58 ∉ t) && decide (t.length ≤ 2) && (decide (10 ≤ n) || decide (t.length = 1))
theorem okTs : ((List.range 100).all okT) = true := by decide +kernel
theorem injT : ((List.range 100).all fun n => (List.range 100).all fun m => (nT (n : Int) == nT (m : Int)) == (n == m)) = true := by decide +kernel
theorem nT_inj {i j : Int} (hi : 0 ≤ i ∧ i < 100) (hj : 0 ≤ j ∧ j < 100) (h : nT i = nT j) : i = j := by
  have a := List.all_eq_true.mp (List.all_eq_true.mp injT i.toNat (List.mem_range.mpr (by omega))) j.toNat (List.mem_range.mpr (by omega))
  rw [show ((i.toNat : Nat) : Int) = i by omega, show ((j.toNat : Nat) : Int) = j by omega, h, beq_self_eq_true] at a
  have b := beq_iff_eq.mp a
  have := beq_iff_eq.mp b.symm
  omega
structure Okt (i : Int) : Prop where
  ne : (nT i).cps.toList ≠ []
  d : 45 ∉ (nT i).cps.toList
  s : 32 ∉ (nT i).cps.toList
  c : 58 ∉ (nT i).cps.toList
  l : (nT i).length ≤ 2
  one : i < 10 → (nT i).length = 1
theorem nT_ok {i : Int} (h0 : 0 ≤ i) (h1 : i < 100) : Okt i := by
  have a := List.all_eq_true.mp okTs i.toNat (List.mem_range.mpr (by omega))
  unfold okT at a
  rw [show ((i.toNat : Nat) : Int) = i by omega] at a
  simp only [Bool.and_eq_true, Bool.or_eq_true, decide_eq_true_eq] at a
  obtain ⟨⟨⟨⟨⟨a1, a2⟩, a3⟩, a4⟩, a5⟩, a6⟩ := a
  have e : (nT i).cps.toList.length = (nT i).length := Array.length_toList
  exact ⟨a1, a2, a3, a4, by omega, fun h => by omega⟩
end BE
set_option Elab.async false
set_option linter.all false
set_option maxRecDepth 100000
/-! texts, in the layer: partition, split, join, f'{a}..{b}' -/
namespace L2
open PySem PySem.Builtin.Str PySem.Spec PyProof.Rows BE
section
variable {X : Cx}
theorem vals_strs : ∀ {ys : List Str} {us : List Value}, Vals (ys.map V.str) us → StrsAre us ys
  | [], _, r => by cases r; exact .nil
  | y :: ys, _, r => by
    rw [List.map_cons] at r
    cases r with
    | cons r1 r2 =>
      obtain ⟨t, rfl⟩ := r1
      exact .cons y t (vals_strs r2)
theorem strs_vals : ∀ (l : List (Str × Tok)), Vals ((l.map (·.1)).map V.str) (strValues l)
  | [] => .nil
  | p :: l => .cons ⟨p.2, rfl⟩ (strs_vals l)
def rPart : V → List V → Hp → VK → Prop := fun x vs H Q => ∃ (z y : Str), x = .str z ∧ vs = [.str y] ∧ (y.length == 0) = false ∧ z.length ≤ sizeLine ∧
  ∀ p, H p = none → Q (.ref p) (upd H p (.tup [.str (Txt.partition z y).1, .str (Txt.partition z y).2.1, .str (Txt.partition z y).2.2]))
theorem mt_part : MtM X "str.partition" rPart := by
  intro pins s σ H x vs v us Q I rx rv h
  obtain ⟨z, y, rfl, rfl, hy, hz, q⟩ := h
  obtain ⟨t, rfl⟩ := rx
  obtain ⟨u, rfl, ⟨tu, rfl⟩⟩ := vals1 rv
  have fin : ∀ (ta tb tc tk : Nat), EP X pins σ Q (.ref s.heap.objs.size) { s with toks := tk, heap := s.heap.push { cls := .type "tuple", data := .seq [.str (Txt.partition z y).1 ta, .str (Txt.partition z y).2.1 tb, .str (Txt.partition z y).2.2 tc].toArray } } := fun ta tb tc tk =>
    ⟨.ref s.heap.objs.size, _, I.laid (t' := tk) (o := .tup [.str (Txt.partition z y).1, .str (Txt.partition z y).2.1, .str (Txt.partition z y).2.2]) (fun b ob e => Heap.get?_push_of_some _ e) (Nat.le_refl _) ⟨by show 3 ≤ sizeLine; decide, _, .cons ⟨ta, rfl⟩ (.cons ⟨tb, rfl⟩ (.cons ⟨tc, rfl⟩ .nil)), TupP.new _ _⟩, rfl, q _ (I.hok.fresh (Nat.le_refl _))⟩
  refine call_meets F.slot_str_partition (typeIs_str _ _ _) F.entry_str_partition (F.args_str_partition_2 _ _) (meets_str_partition z y t tu hy hz) ?_
  unfold Txt.partition at fin
  revert fin
  cases occurrences z y 0 z.length 1 with
  | nil => intro fin; exact fin _ _ _ _
  | cons i r => intro fin; exact fin _ _ _ _
def rSplit : V → List V → Hp → VK → Prop := fun x vs H Q => ∃ (z y : Str), x = .str z ∧ vs = [.str y] ∧ (y.length == 0) = false ∧ z.length + 2 ≤ sizeLine ∧
  ∀ p, H p = none → (Txt.split z y).length ≤ sizeLine → Q (.ref p) (upd H p (.lst ((Txt.split z y).map V.str)))
theorem mt_split : MtM X "str.split" rSplit := by
  intro pins s σ H x vs v us Q I rx rv h
  obtain ⟨z, y, rfl, rfl, hy, hz, q⟩ := h
  obtain ⟨t, rfl⟩ := rx
  obtain ⟨u, rfl, ⟨tu, rfl⟩⟩ := vals1 rv
  have hn : (partsBetween z (occurrences z y 0 z.length (z.length + 1)) y.length).length ≤ sizeLine := by
    have := StrLaws.occ_length_le z y 0 z.length (z.length + 1)
    rw [length_partsBetween]; omega
  have hs : (Txt.split z y).length ≤ sizeLine := by
    unfold Txt.split
    split
    · show 1 ≤ sizeLine; decide
    · split
      · show 1 ≤ sizeLine; decide
      · exact hn
  have fin : ∀ (l : List (Str × Tok)) (tk : Nat), l.map (·.1) = Txt.split z y → EP X pins σ Q (.ref s.heap.objs.size) { s with toks := tk, heap := s.heap.push { cls := .type "list", data := .seq (strValues l).toArray } } := fun l tk e =>
    ⟨.ref s.heap.objs.size, _, I.laid (t' := tk) (o := .lst ((Txt.split z y).map V.str)) (fun b ob e => Heap.get?_push_of_some _ e) (Nat.le_refl _) ⟨by rw [List.length_map]; exact hs, strValues l, 0, by rw [← e]; exact strs_vals l, Heap.get?_push_size _ rfl⟩, rfl, q _ (I.hok.fresh (Nat.le_refl _)) hs⟩
  cases h1 : (decide (z.length < y.length) || decide (strKind z < strKind y)) with
  | true => exact call_meets F.slot_str_split (typeIs_str _ _ _) F.entry_str_split (F.args_str_split_2 _ _) (meets_str_split_cannot_occur z y t tu h1) (fin [(z, t)] s.toks (if_pos h1).symm)
  | false =>
    cases hf : (occurrences z y 0 z.length (z.length + 1)).isEmpty with
    | true => exact call_meets F.slot_str_split (typeIs_str _ _ _) F.entry_str_split (F.args_str_split_2 _ _) (meets_str_split_not_found z y t tu h1 hy hf) (fin [(z, t)] s.toks ((if_neg (ne_true_of_eq_false h1)).trans (if_pos hf)).symm)
    | false =>
      refine call_meets F.slot_str_split (typeIs_str _ _ _) F.entry_str_split (F.args_str_split_2 _ _) (meets_str_split_sep z y t tu h1 hy hf (by omega) hn) ?_
      have := fin (numbered s.toks (partsBetween z (occurrences z y 0 z.length (z.length + 1)) y.length)) (s.toks + (partsBetween z (occurrences z y 0 z.length (z.length + 1)) y.length).length) ((numbered_texts _ _).trans ((if_neg (ne_true_of_eq_false h1)).trans (if_neg (ne_true_of_eq_false hf))).symm)
      rw [← strsFrom_eq] at this
      exact this
def rJoin : V → List V → Hp → VK → Prop := fun x vs H Q => ∃ (z : Str) (l : Addr) (ys : List Str), x = .str z ∧ vs = [.ref l] ∧ H l = some (.lst (ys.map V.str)) ∧ (ys.map (·.length)).sum + ys.length * z.length ≤ 16777216 ∧ Q (.str (Txt.join z ys)) H
theorem mt_join : MtM X "str.join" rJoin := by
  intro pins s σ H x vs v us Q I rx rv h
  obtain ⟨z, l, ys, rfl, rfl, hl, hb, q⟩ := h
  obtain ⟨t, rfl⟩ := rx
  obtain ⟨u, rfl, ru⟩ := vals1 rv
  cases ru
  obtain ⟨_, its, n, rs, _, e⟩ := I.lstM hl
  exact PyProof.Rows.join_list (items := its.toArray) ⟨_, e, rfl, n, rfl⟩ (by simpa using vals_strs rs) hb fun t' k => ⟨.str _, H, I.tok _, ⟨_, rfl⟩, q⟩
/-- a number or a text, written -/
def wr : V → Option Str
  | .int i => if i.natAbs.log2 < 1920 then some (nT i) else none
  | .str z => some z
  | _ => none
theorem field_ {pins : List (Addr × Obj)} {σ : St} {H : Hp} {s : Shared} {x : V} {v : Value} {y : Str} {R : Value → Shared → Prop} (I : Inv X pins σ H s) (r : RelV x v) (h : wr x = some y) (hy : y.length ≤ sizeLine) (q : ∀ t s', Inv X pins σ H s' → R (.str y t) s') :
    wpAny (model X.prog X.w) X.A (formatField v Str.empty) R X.xe s := by
  cases x with
  | int i =>
    obtain ⟨t, rfl⟩ := r
    have h' : (if i.natAbs.log2 < 1920 then some (nT i) else none) = some y := h
    by_cases c : i.natAbs.log2 < 1920
    · rw [if_pos c] at h'
      cases h'
      exact wpAny_formatField_int c (q _ _ (I.tok _))
    · rw [if_neg c] at h'
      cases h'
  | str z =>
    obtain ⟨t, rfl⟩ := r
    cases h
    exact wpAny_formatField_str (q _ _ I) (q _ _ (I.tok _)) hy
  | _ => cases h
def tF2 (c : Str) (ta tb : TE) : TE := fun σ H Q => ta σ H fun x H1 => ∃ y, wr x = some y ∧ y.length + c.length ≤ sizeLine ∧ tb σ H1 fun u H2 => ∃ w, wr u = some w ∧ y.length + c.length + w.length ≤ sizeLine ∧ Q (.str (y ++ c ++ w)) H2
theorem pe_f2 {a b : Expr} {ta tb : TE} {c : Str} {j : Nat} {p1 p2 p3 pos : Pos} (ha : PE X a ta) (hb : PE X b tb) : PE X (.JoinedStr [.FormattedValue a (-1) none p1, .Constant (.str c) j p2, .FormattedValue b (-1) none p3] pos) (tF2 c ta tb) := by
  intro pins s σ H Q I h
  refine wpAny_JoinedStr ?_
  show wpAny _ _ (eval (.FormattedValue a (-1) none p1) X.env) _ _ s
  refine wpAny_FormattedValue_plain (thn (ha pins s σ H _ I h) fun v s1 ⟨x, H1, I1, r1, y, hy, hl, q1⟩ => ?_)
  refine field_ I1 r1 hy (by omega) fun t s2 I2 => ?_
  refine ⟨y, t, rfl, by rw [nil_cat]; omega, ?_⟩
  show wpAny _ _ (eval (.Constant (.str c) j p2) X.env) _ _ s2
  refine Calls.Constant_str ?_
  refine ⟨c, _, rfl, by rw [nil_cat, cat_len]; omega, ?_⟩
  show wpAny _ _ (eval (.FormattedValue b (-1) none p3) X.env) _ _ _
  refine wpAny_FormattedValue_plain (thn (hb pins _ σ H1 _ (I2.tok _) q1) fun v3 s3 ⟨u, H3, I3, r3, w, hw, hl3, q3⟩ => ?_)
  refine field_ I3 r3 hw (by omega) fun t4 s4 I4 => ?_
  rw [nil_cat]
  refine ⟨w, t4, rfl, by rw [cat_len, cat_len]; omega, by rw [cat_len, cat_len]; omega, ?_⟩
  exact ⟨.str _, H3, I4.tok _, ⟨_, rfl⟩, q3⟩
end
end L2
set_option Elab.async false
set_option linter.all false
set_option maxRecDepth 100000
/-! texts, in the layer: times, count, ljust, walked sign by sign -/
namespace L2
open PySem PySem.Builtin.Str PySem.Spec PyProof.Rows BE
section
variable {X : Cx} {tg : Expr}
end
end L2
set_option Elab.async false
set_option linter.all false
set_option maxRecDepth 100000
/-! how often a sign stands in a text; a sign so many times; filled up -/
namespace BE
open PySem PySem.Builtin PySem.Builtin.Str PyProof.Rows
end BE
set_option Elab.async false
set_option linter.all false
set_option maxRecDepth 100000
/-! xs[::-1] of a list. -/
namespace L2
open PySem PySem.Spec PyProof.Rows
section
variable {X : Cx}
end
end L2
set_option Elab.async false
set_option linter.all false
set_option maxRecDepth 100000
/-! texts, in the layer: backwards, index, in -/
namespace L2
open PySem PySem.Builtin.Str PySem.Spec PyProof.Rows BE
section
variable {X : Cx}
end
end L2
namespace BE
open PySem PySem.Builtin PySem.Builtin.Str PyProof.Rows
end BE
set_option Elab.async false
set_option linter.all false
set_option maxRecDepth 100000
/-! texts, in the layer: cut at a place -/
namespace L2
open PySem PySem.Builtin.Str PySem.Spec PyProof.Rows BE
section
variable {X : Cx}
theorem fm_congr {α β : Type} {f g : α → Option β} : ∀ {l : List α}, (∀ x ∈ l, f x = g x) → l.filterMap f = l.filterMap g
  | [], _ => rfl
  | x :: r, h => by
    rw [List.filterMap_cons, List.filterMap_cons, h x List.mem_cons_self, fm_congr (l := r) fun y hy => h y (List.mem_cons_of_mem _ hy)]
theorem cut_range (z : Str) (a n : Nat) (h : a + n ≤ z.length) : ((List.range n).map fun (k : Nat) => ((a : Int) + 1 * (k : Int)).toNat).filterMap (z.cps[·]?) = (z.cps.toList.drop a).take n := by
  have zl : z.cps.toList.length = z.length := Array.length_toList
  have el : ((z.cps.toList.drop a).take n).length = n := by rw [List.length_take, List.length_drop]; omega
  rw [List.filterMap_map]
  have : List.filterMap ((fun (i : Nat) => z.cps[i]?) ∘ fun (k : Nat) => ((a : Int) + 1 * (k : Int)).toNat) (List.range n) = List.filterMap (fun k => ((z.cps.toList.drop a).take n)[k]?) (List.range n) := by
    refine fm_congr fun k hk => ?_
    have hk := List.mem_range.mp hk
    show z.cps[((a : Int) + 1 * (k : Int)).toNat]? = _
    rw [show ((a : Int) + 1 * (k : Int)).toNat = a + k by omega, List.getElem?_take_of_lt hk, List.getElem?_drop, Array.getElem?_toList]
  rw [this]
  have := PySem.List.filterMap_getElem?_range_length ((z.cps.toList.drop a).take n)
  rw [el] at this
  exact this
/-- z[:i] and z[i:], for i that is not below nothing -/
def rSlS : V → Option Int → Option Int → Hp → VK → Prop := fun x lo hi H Q => ∃ z : Str, x = .str z ∧ z.length ≤ sizeLine ∧ ((∃ i, lo = none ∧ hi = some i ∧ 0 ≤ i ∧ Q (.str ⟨(z.cps.toList.take i.toNat).toArray⟩) H) ∨ (∃ i, lo = some i ∧ hi = none ∧ 0 ≤ i ∧ Q (.str ⟨(z.cps.toList.drop i.toNat).toArray⟩) H))
theorem made_cut {pins : List (Addr × Obj)} {s : Shared} {σ : St} {H : Hp} {Q : VK} {z : Str} {t : Tok} {l u : Option (Int × Tok)} {ys : List Nat} (I : Inv X pins σ H s) (hz : z.length ≤ sizeLine) (hy : ys.length ≤ z.length) (e : (slicePicked z l u none).filterMap (z.cps[·]?) = ys) (hw : (slicePicked z l u none).length = z.length → ys = z.cps.toList) (q : Q (.str ⟨ys.toArray⟩) H) :
    (sliceMade z t l u none).post (EP X pins σ Q) s := by
  unfold sliceMade
  by_cases c : (slicePicked z l u none).length = z.length
  · rw [if_pos (by rw [c]; simp)]
    refine ⟨.str z, H, I, ⟨t, rfl⟩, ?_⟩
    rw [hw c] at q
    exact q
  · rw [if_neg (by intro h; rw [Bool.and_eq_true] at h; exact c (by simpa using h.2)), e]
    refine ⟨?_, .str _, H, I.tok _, ⟨_, rfl⟩, q⟩
    show ys.toArray.size ≤ sizeLine
    rw [List.size_toArray]
    omega
theorem sl_strA : SlR X rSlS := by
  intro pins s σ H x v vl vu lo hi sl Q I rx hs pl pu h
  obtain ⟨z, rfl, hz, h⟩ := h
  obtain ⟨t, rfl⟩ := rx
  have zl : z.cps.toList.length = z.length := Array.length_toList
  rcases h with ⟨i, rfl, rfl, h0, q⟩ | ⟨i, rfl, rfl, h0, q⟩
  · cases pl
    cases pu with
    | int j tl =>
      have ep : slicePicked z none (some (i, tl)) none = (List.range (min i.toNat z.length)).map fun (k : Nat) => (((0 : Nat) : Int) + 1 * (k : Int)).toNat := by
        unfold slicePicked strSliceIndices
        show sliceRange 0 (if (1 : Int) > 0 then max 0 (min (if i < 0 then i + (z.length : Int) else i) (z.length : Int)) else _) 1 = _
        rw [if_pos (by decide), if_neg (by omega)]
        unfold sliceRange
        have e1 : (if (1 : Int) > 0 then (if (0 : Int) < max 0 (min i (z.length : Int)) then (max 0 (min i (z.length : Int)) - 0 + 1 - 1) / 1 else 0) else (if (0 : Int) > max 0 (min i (z.length : Int)) then (0 - max 0 (min i (z.length : Int)) - 1 - 1) / (-1) else 0)).toNat = min i.toNat z.length := by
          rw [if_pos (by decide)]
          split <;> omega
        simp only [e1]
        rfl
      have ef := cut_range z 0 (min i.toNat z.length) (by omega)
      rw [List.drop_zero] at ef
      have et : z.cps.toList.take (min i.toNat z.length) = z.cps.toList.take i.toNat := by
        rcases Nat.le_total i.toNat z.length with h | h
        · rw [Nat.min_eq_left h]
        · rw [Nat.min_eq_right h, List.take_of_length_le (by omega), List.take_of_length_le (by omega)]
      refine ⟨"str", _, F.slot_str_getitem.lookup, typeIs_str _ _ _, wpAny_getItem_str_slice (l := none) (u := some (i, tl)) (st := none) hs rfl (made_cut I hz (by rw [List.length_take]; omega) (by rw [ep, ef, et]) (fun e => ?_) q)⟩
      rw [ep, List.length_map, List.length_range] at e
      exact List.take_of_length_le (by omega)
  · cases pu
    cases pl with
    | int j tl =>
      have ep : slicePicked z (some (i, tl)) none none = (List.range (z.length - min i.toNat z.length)).map fun (k : Nat) => (((min i.toNat z.length : Nat) : Int) + 1 * (k : Int)).toNat := by
        unfold slicePicked strSliceIndices
        show sliceRange (if (1 : Int) > 0 then max 0 (min (if i < 0 then i + (z.length : Int) else i) (z.length : Int)) else _) (z.length : Int) 1 = _
        rw [if_pos (by decide), if_neg (by omega), show max 0 (min i (z.length : Int)) = ((min i.toNat z.length : Nat) : Int) by omega]
        unfold sliceRange
        have e1 : (if (1 : Int) > 0 then (if ((min i.toNat z.length : Nat) : Int) < (z.length : Int) then ((z.length : Int) - ((min i.toNat z.length : Nat) : Int) + 1 - 1) / 1 else 0) else (if ((min i.toNat z.length : Nat) : Int) > (z.length : Int) then (((min i.toNat z.length : Nat) : Int) - (z.length : Int) - 1 - 1) / (-1) else 0)).toNat = z.length - min i.toNat z.length := by
          rw [if_pos (by decide)]
          split <;> omega
        simp only [e1]
      have ef := cut_range z (min i.toNat z.length) (z.length - min i.toNat z.length) (by omega)
      rw [List.take_of_length_le (by rw [List.length_drop]; omega)] at ef
      have et : z.cps.toList.drop (min i.toNat z.length) = z.cps.toList.drop i.toNat := by
        rcases Nat.le_total i.toNat z.length with h | h
        · rw [Nat.min_eq_left h]
        · rw [Nat.min_eq_right h, List.drop_of_length_le (by omega), List.drop_of_length_le (by omega)]
      refine ⟨"str", _, F.slot_str_getitem.lookup, typeIs_str _ _ _, wpAny_getItem_str_slice (l := some (i, tl)) (u := none) (st := none) hs rfl (made_cut I hz (by rw [List.length_drop]; omega) (by rw [ep, ef, et]) (fun e => ?_) q)⟩
      rw [ep, List.length_map, List.length_range] at e
      have : z.length = 0 ∨ i.toNat = 0 := by omega
      rcases this with h | h
      · rw [List.drop_of_length_le (by omega), List.eq_nil_of_length_eq_zero (by omega : z.cps.toList.length = 0)]
      · rw [h]; rfl
end
end L2
set_option Elab.async false
set_option linter.all false
set_option maxRecDepth 100000
/-! an error that flies, whatever frame it is marked with: it leaves, is noted by a block of the same frame, is passed on; what is let go beneath it -/
namespace L2
open PySem PySem.Spec PyProof.Rows
section
variable {M : Model} {A : Around} {E : Value → Shared → Prop} {s : Shared}
def FlyAt (base : Heap) (l : List Env) (e : Addr) (cls a0 fl : Value) (h : Heap) : Prop := base.StaysIn h ∧ base.get? e = none ∧ h.FunFrames base l ∧ h.TracedAtW base e cls a0 fl
theorem leaves_at {base : Heap} {env : Env} {outer : List Env} {L e : Addr} {cls a0 fl : Value} {Q : Unit → Shared → Prop} (hfr : A.frames = some (env :: outer)) (hf : env.frame = some L) (x : FlyAt base (env :: outer) e cls a0 fl s.heap)
    (hQ : ∀ h', Heap.FlyingW base outer e cls a0 h' → s.heap.UpToSlots h' → Q () { s with heap := h' }) : wpAny M A (leaving env (.ref e)) Q E s := by
  obtain ⟨hkb, hen, hl, ht⟩ := x
  by_cases c : fl = rawInt L
  · subst c
    unfold leaving
    refine wpAny_bind (wpAny_noteFrame_againW hf ht ?_)
    refine wpAny_landsW ⟨hkb, hen, hl, ht⟩ fun h' hfl up => ?_
    obtain ⟨k1, k2, ⟨_, _, k3⟩, k4⟩ := hfl
    exact hQ h' ⟨k1, k2, k3, k4⟩ up
  · obtain ⟨oe, vs, T, oT, ts, he, ⟨hcls, h0⟩, hd, h1, hnT, hTe, hT, hdT, h3⟩ := ht
    subst hcls
    unfold leaving noteFrame
    simp only [hf]
    refine wpAny_bind (wpAny_bind (wpAny_field he hd h1 ?_))
    rw [if_pos (show (Value.ref T != Value.none) = true from by simp)]
    refine wpAny_bind (wpAny_field hT hdT h3 ?_)
    rw [if_neg (by simpa using c)]
    refine wpAny_bind (wpAny_setField hT hdT (Array.getElem?_eq_some_iff.mp h3).1 ?_)
    have other : ∀ b, b ≠ T → (s.heap.update T (Obj.mapFields (·.setIfInBounds 3 Value.none))).get? b = s.heap.get? b := fun b hb => Heap.get?_update_other _ _ (Ne.symm hb)
    have rec_ : ∀ b o, s.heap.get? b = some o → (∀ vs, o.data ≠ .fields vs) → b ≠ T := fun b o hb hnf q => by
      rw [q, hT] at hb; injection hb with hb; subst hb; exact hnf ts hdT
    refine wpAny_newEntryW hfr (hl.of_keeps fun b o hb hnf => ⟨o, (other b (rec_ b o hb hnf)).trans hb, rfl⟩) hf ((other e (Ne.symm hTe)).trans he) (fun b o hbo => (other b fun q => by rw [q, hnT] at hbo; cases hbo).trans (hkb b o hbo)) hen hd (Array.getElem?_eq_some_iff.mp h1).1 h0 fun h' y => ?_
    obtain ⟨x1, ⟨_, _, x2⟩, x3, x4⟩ := y
    exact hQ h' ⟨x1, hen, x2, x3⟩ fun b o hb hnf => x4 b o ((other b (rec_ b o hb hnf)).trans hb) hnf
/-- noted by a block of the same frame -/
theorem note_same {env cenv : Env} (x : Value) (h : cenv.frame = env.frame) : noteFrame x cenv = noteFrame x env := by
  unfold noteFrame PySem.frameOf
  rw [h]
theorem note_at {base : Heap} {env cenv : Env} {outer : List Env} {L e : Addr} {cls a0 : Value} {Q : Unit → Shared → Prop} (hfr : A.frames = some (env :: outer)) (hf : env.frame = some L) (hc : cenv.frame = env.frame) (x : Heap.FlyingW base (env :: outer) e cls a0 s.heap)
    (hQ : ∀ h', FlyAt base (env :: outer) e cls a0 (rawInt L) h' → s.heap.UpToSlots h' → Q () { s with heap := h' }) : wpAny M A (noteFrame (.ref e) cenv) Q E s := by
  rw [note_same _ hc]
  exact wpAny_looks_onW hfr hf x hQ
/-- passed on -/
theorem pass_at {α : Type} {base : Heap} {cenv : Env} {l : List Env} {e : Addr} {cls a0 fl : Value} {what : String} {Q : α → Shared → Prop} (x : FlyAt base l e cls a0 fl s.heap)
    (hE : ∀ h' fl', FlyAt base l e cls a0 fl' h' → s.heap.UpToSlots h' → E (.ref e) { s with heap := h' }) : wpAny M A (PySem.passOn what (.ref e) cenv : Sem α) Q E s := by
  obtain ⟨hkb, hen, hl, oe, vs, T, oT, ts, he, hcls, hd, h1, hnT, hTe, hT, hdT, h3⟩ := x
  have hsz3 : 3 < ts.size := (Array.getElem?_eq_some_iff.mp h3).1
  have other : ∀ (v : Value) b, b ≠ T → (s.heap.update T (Obj.mapFields (·.setIfInBounds 3 v))).get? b = s.heap.get? b := fun v b hb => Heap.get?_update_other _ _ (Ne.symm hb)
  have rec_ : ∀ b o, s.heap.get? b = some o → (∀ vs, o.data ≠ .fields vs) → b ≠ T := fun b o hb hnf q => by
    rw [q, hT] at hb; injection hb with hb; subst hb; exact hnf ts hdT
  unfold PySem.passOn setFlight
  refine wpAny_bind (wpAny_field he hd h1 ?_)
  rw [if_neg (show ¬ ((Value.ref T == Value.none) = true) from by simp)]
  refine wpAny_bind (wpAny_bind (wpAny_field he hd h1 ?_))
  rw [if_pos (show (Value.ref T != Value.none) = true from by simp)]
  refine wpAny_setField hT hdT hsz3 (wpAny_throw ?_)
  refine hE _ (cenv.frame.elim .none fun f => rawInt f) ⟨fun b o hbo => (other _ b fun q => by rw [q, hnT] at hbo; cases hbo).trans (hkb b o hbo), hen, hl.of_keeps fun b o hb hnf => ⟨o, (other _ b (rec_ b o hb hnf)).trans hb, rfl⟩, ?_⟩ fun b o hb hnf => ⟨o.slots, (other _ b (rec_ b o hb hnf)).trans hb⟩
  exact ⟨oe, vs, T, _, _, (other _ e (Ne.symm hTe)).trans he, hcls, hd, h1, hnT, hTe, Heap.get?_update_self _ hT (Obj.isFreed_of_fields (Obj.data_mapFields hdT _)), Obj.data_mapFields hdT _, by simp [hsz3]⟩
/-- all but what stands at C -/
def cutH (B : Heap) (C : Addr) : Heap := B.update C fun o => { o with data := .freed }
theorem cut_none (B : Heap) (C : Addr) : (cutH B C).get? C = none := by
  cases h : (cutH B C).get? C with
  | none => rfl
  | some o =>
    obtain ⟨e1, e2⟩ := Heap.get?_some_iff.mp h
    have e1 : (B.objs.modify C fun o => { o with data := .freed })[C]? = some o := e1
    rw [Array.getElem?_modify] at e1
    simp only [if_true] at e1
    cases hb : B.objs[C]? with
    | none => rw [hb] at e1; cases e1
    | some ob =>
      rw [hb] at e1
      have e1 := Option.some.inj e1
      rw [← e1] at e2
      cases e2
theorem cut_get {B : Heap} {C b : Addr} {o : Obj} (h : (cutH B C).get? b = some o) : b ≠ C ∧ B.get? b = some o := by
  by_cases c : b = C
  · subst c; rw [cut_none] at h; cases h
  · exact ⟨c, by rw [← Heap.get?_update_other B _ (Ne.symm c)]; exact h⟩
theorem cut_of {B : Heap} {C b : Addr} {o : Obj} (h : B.get? b = some o) (n : b ≠ C) : (cutH B C).get? b = some o := by
  unfold cutH
  rw [Heap.get?_update_other B _ (Ne.symm n)]; exact h
theorem cut_no {B : Heap} {C b : Addr} (h : B.get? b = none) : (cutH B C).get? b = none := by
  cases e : (cutH B C).get? b with
  | none => rfl
  | some o => rw [(cut_get e).2] at h; cases h
theorem frames_cut {B h h' : Heap} {C : Addr} {ob : Obj} (hC : B.get? C = some ob) (sb : Heap.SameBut C h h') : ∀ {l : List Env}, h.FunFrames B l → h'.FunFrames (cutH B C) l
  | [], _ => trivial
  | env :: l, ⟨k, ⟨L, o, f, n, g, d⟩, r⟩ => ⟨k, ⟨L, o, f, cut_no n, by rw [sb.2 L fun z => by rw [z, hC] at n; cases n]; exact g, d⟩, frames_cut hC sb r⟩
theorem FlyAt.cut {B h h' : Heap} {l : List Env} {e C : Addr} {cls a0 fl : Value} {ob : Obj} (x : FlyAt B l e cls a0 fl h) (hC : B.get? C = some ob) (sb : Heap.SameBut C h h') : FlyAt (cutH B C) l e cls a0 fl h' := by
  obtain ⟨hkb, hen, hl, oe, vs, T, oT, ts, he, hcls, hd, h1, hnT, hTe, hT, hdT, h3⟩ := x
  have ne : ∀ b, B.get? b = none → b ≠ C := fun b hb z => by rw [z, hC] at hb; cases hb
  refine ⟨fun b o hb => ?_, cut_no hen, frames_cut hC sb hl, oe, vs, T, oT, ts, (sb.2 e (ne e hen)).trans he, hcls, hd, h1, cut_no hnT, hTe, (sb.2 T (ne T hnT)).trans hT, hdT, h3⟩
  obtain ⟨n, g⟩ := cut_get hb
  exact (sb.2 b n).trans (hkb b o g)
end
end L2
set_option Elab.async false
set_option linter.all false
set_option maxRecDepth 100000
/-! a comprehension whose element may raise -/
namespace L2
open PySem PySem.Spec PyProof.Rows
section
variable {prog : Program} {w : World} {A : Around} {R : Result → Shared → Prop} {s : Shared}
theorem compLoop_anyX {elt target iter : Expr} {ifs : List Expr} {scope : Scope} {pos : Pos} {it acc : Value} {env : Env} (I : Nat → Shared → Prop)
    (turn : ∀ n s, I n s → wpAny (model prog w) A (pyNext it) (fun r s₁ => match r with
      | none => R (.ok .next) s₁
      | some v => wpAny (model prog w) A (letOwnedTupleGo target it v) (fun _ s₀ => wpAny (model prog w) A (assign target env v) (fun _ s₂ =>
          wpAny (model prog w) A (forIn ifs true fun c r => if r = true then do let ok ← isTrue c env (eval c env); pure (ForInStep.yield ok) else pure (ForInStep.yield r)) (fun ok s₃ =>
            if ok = true then wpAny (model prog w) A (eval elt env) (fun x s₄ =>
              wpAny (model prog w) A (call (.builtin "list.append") [acc, x]) (fun _ s₅ => ∃ m, m < n ∧ I m s₅) (fun _ _ => False) s₄) (notedBy (model prog w) A env fun e s' => R (.error e) s') s₃
            else ∃ m, m < n ∧ I m s₃) (fun _ _ => False) s₂) (fun _ _ => False) s₀) (fun _ _ => False) s₁) (fun _ _ => False) s)
    (n : Nat) (h : I n s) :
    codeAny (model prog w) A (.compLoop (.ListComp elt [⟨target, iter, ifs, 0⟩] scope pos) 0 it acc env) R s := by
  refine codeAny_loop rfl I (fun n s hI => ?_) n h
  show wpAny _ A ((compTurn (.ListComp elt [⟨target, iter, ifs, 0⟩] scope pos) 0 it acc env).onRaise (fun x => do noteFrame x env; theTreesLotGoes x)) _ _ s
  refine wpAny_noted ?_
  rw [compTurn_list]
  refine wpAny_bind (wpAny_standAt (wpAny_bind (wpAny_mono (turn n s hI) (fun r s₁ h₁ => ?_) fun _ _ f => f.elim)))
  cases r with
  | none => exact wpAny_pure h₁
  | some v =>
    refine wpAny_bind (wpAny_mono h₁ (fun _ s₀ h₀ => ?_) fun _ _ f => f.elim)
    refine wpAny_bind (wpAny_mono h₀ (fun _ s₂ h₂ => wpAny_bind (wpAny_mono h₂ (fun ok s₃ h₃ => ?_) fun _ _ f => f.elim)) fun _ _ f => f.elim)
    cases ok with
    | false => exact wpAny_pure ⟨rfl, h₃⟩
    | true =>
      exact wpAny_bind (wpAny_bind (wpAny_mono h₃ (fun x s₄ h₄ => wpAny_bind (wpAny_mono h₄ (fun _ s₅ h₅ => wpAny_pure (wpAny_pure ⟨rfl, h₅⟩)) fun _ _ f => f.elim)) fun _ _ f => f))
end
/-- what stands when the element of a block raises: told from the block's entry -/
structure XBs (X : Cx) (C : Addr) (s₂ : Shared) (H₂ : Hp) (fp : List Addr) (a Cc t : Addr) (H' : Hp) (B : Heap) (s' : Shared) : Prop where
  os : s'.os = s₂.os
  bare : AllBare s'.gens
  un : Un (frs X.stack) fp H₂ H' s₂.heap s'.heap
  hok : HOk X.prog X.w H' s'.heap
  fly : Heap.FlyingW B X.stack a (.ref Cc) (.ref t) s'.heap
  old : ∀ b o, s₂.heap.get? b = some o → b ∉ frs X.stack → b ∉ fp → ∃ ob, B.get? b = some ob
  trk : ∀ b o, H' b = some o → ∃ ob, B.get? b = some ob
  ns : ∃ m, s'.heap.Ns C m
  inB : ∃ ob, B.get? C = some ob
  frC : H' C = none
def XB (X : Cx) (E : XK) (C : Addr) (s₂ : Shared) (H₂ : Hp) (fp : List Addr) : Value → Shared → Prop := fun e s' => ∃ (a Cc t : Addr) (H' : Hp) (B : Heap), e = .ref a ∧ XBs X C s₂ H₂ fp a Cc t H' B s' ∧ E (.ref Cc) none H'
theorem passB {P : Program} {w : World} {X : Cx} {E : XK} {scope : Scope} {NB : List Str} {C : Addr} {s₂ : Shared} {H₂ : Hp} {fp : List Addr} (hP : X.prog = P) (hw : X.w = w) : Passes (CXr P w) ((blk X scope NB C s₂ H₂ fp).wish (XB X E C s₂ H₂ fp)) E := by
  subst hP hw
  intro pins σ H s e s' I h
  obtain ⟨a, Cc, t, H', B, rfl, F, hE⟩ := h
  have I' : Inv ((blk X scope NB C s₂ H₂ fp).wish (XB X E C s₂ H₂ fp)) pins σ H' s' := I.call' F.os F.un F.hok F.bare fun b hb => nomatch hb
  obtain ⟨m, hn0, _⟩ := id I.loc
  obtain ⟨o, ho⟩ : ∃ o, s.heap.get? C = some o := let ⟨o, _, _, ho, _⟩ := hn0; ⟨o, ho⟩
  obtain ⟨m', hn', _⟩ := id I'.loc
  refine ⟨a, Cc, t, H', B, rfl, ⟨I'.os, I'.bare, I'.base, I'.hok, F.fly, fun b o q n hf => ?_, F.trk, ⟨m', hn'⟩, ?_, I'.free⟩, hE⟩
  · obtain ⟨o', r⟩ := I.base.there b o q hf
    exact F.old b o' r n
  · refine F.old C o ho fun hC => ?_
    obtain ⟨_, o2, r, _⟩ := I.ok.funs.mem hC
    exact absurd (Heap.lt_size r) (Nat.not_lt.mpr I.ok.above)
/-- what a def's context does with an error out of a block of its own -/
def LeavesB (X : Cx) (E : XK) : Prop := ∀ {pins : List (Addr × Obj)} {σ : St} {H2 : Hp} {s2 : Shared} {C : Addr} {fp : List Addr} {a Cc t : Addr} {H' : Hp} {B : Heap} {s' : Shared} {cenv : Env} {Q : Value → Shared → Prop} {acc : Value}, Inv X pins σ H2 s2 → (∀ b ∈ fp, FpOk X pins H2 b) → s2.heap.objs.size ≤ C →
  XBs X C s2 H2 fp a Cc t H' B s' → E (.ref Cc) none H' → cenv.frame = X.env.frame → notedBy (model X.prog X.w) X.A cenv (fun e s'' => compPost (model X.prog X.w) X.A X.xe none Q acc C (.error e) s'') (.ref a) s'
theorem leavesB {P : Program} {w : World} {K : PySem.W.Frag} {mg : Str → Option Value} {base : Heap} {N : List Str} {qual : Str} {scope : Scope} {f : Addr} {cd : Value} {A : Around} {outer : List Env} {s : Shared} {H : Hp} {E : XK} : LeavesB (cxOf (CXr P w) P w K mg base N qual scope f cd A outer s H E) E := by
  intro pins σ H2 s2 C fp a Cc t H' B s' cenv Q acc I2 f2 hC S hE hf
  refine note_at (env := envOfC qual scope s.heap.objs.size f cd) (outer := outer) (L := s.heap.objs.size) I2.ok.frames rfl hf S.fly fun h1 fl1 up1 => ?_
  obtain ⟨m, hn⟩ := S.ns
  refine ⟨m, up1.ns hn, fun h2 sb cenv' _ => ?_⟩
  obtain ⟨ob, hB⟩ := S.inB
  refine pass_at (fl1.cut hB sb) fun h3 fl' fl3 up3 => ?_
  refine leaves_at (env := envOfC qual scope s.heap.objs.size f cd) (outer := outer) (L := s.heap.objs.size) I2.ok.frames rfl fl3 fun h4 fl4 up4 => ?_
  have I' : Inv (cxOf (CXr P w) P w K mg base N qual scope f cd A outer s H E) pins σ H' s' := I2.call' S.os S.un S.hok S.bare fun b hb => ⟨(f2 b hb).2.2.2.1, (f2 b hb).2.1, (f2 b hb).2.2.2.2.1, (f2 b hb).2.2.2.2.2⟩
  have hout : ∀ b, b ∉ frs outer → b ≠ s.heap.objs.size → b ∉ frs (envOfC qual scope s.heap.objs.size f cd :: outer) := fun b h1 h2 z => by
    rcases List.mem_cons.mp (I2.stkSub b z) with q | q
    · exact h2 q
    · exact h1 q
  have old : ∀ b o, s.heap.get? b = some o → b ∉ frs outer → ∃ ob, (cutH B C).get? b = some ob := fun b o q n => by
    obtain ⟨o', r⟩ := I2.base.there b o q (fun z => nomatch (show b ∈ ([] : List Addr) from z))
    have nf : b ∉ fp := fun z => by
      rcases (f2 b z).2.2.2.1 with y | y
      · exact nomatch (show b ∈ ([] : List Addr) from y)
      · exact absurd (Heap.lt_size q) (Nat.not_lt.mpr y)
    obtain ⟨ob', hb'⟩ := S.old b o' r (hout b n (Nat.ne_of_lt (Heap.lt_size q))) nf
    exact ⟨ob', cut_of hb' (Nat.ne_of_lt (Nat.lt_of_lt_of_le (Heap.lt_size r) hC))⟩
  have trk : ∀ b o, H' b = some o → ∃ ob, (cutH B C).get? b = some ob := fun b o q => by
    obtain ⟨ob', hb'⟩ := S.trk b o q
    exact ⟨ob', cut_of hb' fun z => by rw [z, S.frC] at q; cases q⟩
  have un1 : Un (frs outer) [] H H' s.heap s'.heap := I'.base
  have frm : ∀ b ∈ frs outer, ∀ o, s'.heap.get? b = some o → ∃ sl, h4.get? b = some { o with slots := sl } := fun b hb o q => by
    obtain ⟨_, o', r, nf⟩ := I'.funs.mem hb
    rw [q] at r
    cases r
    obtain ⟨l1, r1⟩ := up1 b o q nf
    have bC : b ≠ C := fun z => by
      obtain ⟨_, o2, r2, _⟩ := I2.funs.mem hb
      exact absurd (Heap.lt_size r2) (Nat.not_lt.mpr (z ▸ hC))
    have r2 := (sb.2 b bC).trans r1
    obtain ⟨l3, r3⟩ := up3 b _ r2 nf
    obtain ⟨l4, r4⟩ := up4 b { o with slots := l3 } r3 nf
    exact ⟨l4, r4⟩
  obtain ⟨un2, hok2⟩ := fly_step un1 I'.hok (fun b o q => S.fly.1 b o (cut_get q).2) fl4.1 old trk frm
  exact ⟨a, Cc, t, H', cutH B C, rfl, ⟨I'.os, I'.bare, un2, hok2, fl4, old, trk⟩, hE⟩
theorem pe_compX {X : Cx} {E : XK} {elt tg iter : Expr} {ifs : List Expr} {scope : Scope} {pos : Pos} {wi : TI} {g : TG} {tt : TT} {te : TE} {NB : List Str} {js : List (Option Nat)} (lv : LeavesB X E) (hc : X.calm = true) (B : BlkOk X scope NB js) (hi : PI X tg iter wi)
    (hg : ∀ C s₂ H₂ fp, PG (blk X scope NB C s₂ H₂ fp) tg g) (ht : ∀ C s₂ H₂ fp, PF (blk X scope NB C s₂ H₂ fp) ifs tt) (he : ∀ C s₂ H₂ fp, PE ((blk X scope NB C s₂ H₂ fp).wish (XB X E C s₂ H₂ fp)) elt te)
    (hs : ∀ x, foldedSetIterable iter X.env x = pure x := by intro _; rfl) : PE X (.ListComp elt [⟨tg, iter, ifs, 0⟩] scope pos) (tComp js wi g tt te) := by
  intro pins s σ H Q I h
  rw [eval_ListComp]
  refine wpAny_comprehension_free (use := none) rfl hs B.clos B.kind B.locs (thn (hi pins s σ H _ I h) fun v s1 h1 => thn h1 fun itv s2 h2 => ?_)
  obtain ⟨it, fp, tn, J, H2, e, I2, T, st2, f2, hW⟩ := h2
  subst e
  have fresh2 : H2 s2.heap.objs.size = none := I2.hok.fresh (Nat.le_refl _)
  obtain ⟨W, ⟨m0, w0⟩, turn⟩ := hW s2.heap.objs.size fresh2
  refine wpAny_newObj_type (wpAny_newFunctionEnv B.nocell (by intro y hy; simp at hy) (fun h₁ hns₁ hsb₁ => ?_) B.kind)
  dsimp only at hns₁ hsb₁ ⊢
  generalize hH2 : s2.heap.push { cls := .type "list", dict := none, data := .seq ([] : List Value).toArray } = HP at hns₁ hsb₁ ⊢
  have hC : HP.objs.size = s2.heap.objs.size + 1 := by rw [← hH2, Heap.size_push]
  have hCle : s2.heap.objs.size ≤ HP.objs.size := by rw [hC]; exact Nat.le_succ _
  have hDC : s2.heap.objs.size ≠ HP.objs.size := by rw [hC]; exact Nat.ne_of_lt (Nat.lt_succ_self _)
  have below : ∀ b, b < s2.heap.objs.size → b ≠ HP.objs.size := fun b hb => Nat.ne_of_lt (Nat.lt_of_lt_of_le hb hCle)
  have old : ∀ b o, s2.heap.get? b = some o → h₁.get? b = some o := fun b o e => hsb₁.extBut b o (below b (Heap.lt_size e)) (Heap.get?_push_of_some _ (hH2 ▸ Heap.get?_push_of_some _ e))
  have hacc : h₁.get? s2.heap.objs.size = some { cls := .type "list", dict := none, data := .seq ([] : List Value).toArray } := hsb₁.extBut _ _ hDC (Heap.get?_push_of_some _ (hH2 ▸ Heap.get?_push_size _ rfl))
  have fplt : ∀ b ∈ fp, b < s2.heap.objs.size := fun b hb => by
    obtain ⟨o, ho, _⟩ := T.obj 0 _ st2 b hb
    exact Heap.lt_size ho
  have okY : (blk X scope NB HP.objs.size s2 H2 fp).Ok := blk_ok B I2 f2 (fun b hb => below b (fplt b hb)) hCle
  have lenτ : (tau js σ).length = NB.length := by unfold tau; rw [List.length_map]; exact B.len
  have IY : Inv (blk X scope NB HP.objs.size s2 H2 fp) [] (tau js σ) (upd H2 s2.heap.objs.size (.lst [])) { s2 with heap := h₁, toks := s2.toks + ([] : List (Str × Value)).length } := by
    refine ⟨okY, rfl, I2.bare, Un.laid old (Nat.le_refl _) fresh2, ⟨_, hns₁, fun i x v e1 e2 e3 => ?_⟩, fun x c e => ?_, ?_, fun x c e => ?_, fun p hp => absurd (show p ∈ ([] : List (Addr × Obj)) from hp) (by simp), I2.hok.laid old (Nat.le_refl _) ?_, lenτ⟩
    · obtain ⟨j, ej, ev⟩ := tau_get e2
      obtain ⟨x', n1, n2, n3, n4, n5⟩ := B.outer i j ej
      have ex : x' = x := Option.some.inj (n1.symm.trans e1)
      subst ex
      obtain ⟨m, _, hl⟩ := I2.loc
      obtain ⟨u, ru, l⟩ := hl j x' v n2 ev n4
      refine ⟨u, ru, .inr ?_⟩
      have e3' : Vis (relabel scope X.env) x' := e3
      have nl := B.inner i x' e1 n3 e3'
      have kk : (relabel scope X.env).names.lookup x' = some .cell ∨ (relabel scope X.env).names.lookup x' = some .free := by
        rcases e3' with z | z | z
        · exact absurd z nl
        · exact .inl z
        · exact .inr z
      refine ⟨kk, ?_⟩
      rcases l with ⟨z, _⟩ | ⟨_, c, ec, cell⟩
      · exact absurd z n5
      · obtain ⟨c', ec'⟩ := closOf_has (env := X.env) n3
        have q := (mem_closOf B.there ec').1
        rw [ec] at q
        cases q
        exact ⟨c, ec', cell.keeps old⟩
    · obtain ⟨v, z⟩ := I2.cell x c (mem_closOf B.there e).1
      exact ⟨v, z.keeps old⟩
    · show upd H2 s2.heap.objs.size (.lst []) HP.objs.size = none
      rw [upd_ne (Ne.symm hDC)]
      exact I2.hok.fresh hCle
    · have ec := (mem_closOf B.there e).1
      obtain ⟨v, o, ho, _⟩ := I2.cell x c ec
      rw [upd_ne (Nat.ne_of_lt (Heap.lt_size ho))]
      exact I2.freeC x c ec
    · exact ⟨by show 0 ≤ sizeLine; exact Nat.zero_le _, [], 0, .nil, hacc⟩
  have st1 : tn 0 h₁ := T.keep 0 _ _ st2 fun b _ o e => old b o e
  have statY : ∀ {H' : Hp}, (∀ b ∈ fp, H' b = none) → ∀ b ∈ fp, FpOk (blk X scope NB HP.objs.size s2 H2 fp) [] H' b := fun {H'} hn b hb =>
    ⟨hn b hb, below b (fplt b hb), okY.exfs b hb, .inl hb, (okY.exf b hb).2, fun p hp => absurd (show p ∈ ([] : List (Addr × Obj)) from hp) (by simp)⟩
  have frN : ∀ b ∈ fp, upd H2 s2.heap.objs.size (.lst []) b = none := fun b hb => by
    rw [upd_ne (Nat.ne_of_lt (fplt b hb))]
    exact (f2 b hb).1
  have loop : ∀ s₃ : Shared, s₃ = { s2 with heap := h₁, toks := s2.toks + ([] : List (Str × Value)).length } →
      codeAny (model X.prog X.w) X.A (.compLoop (.ListComp elt [⟨tg, iter, ifs, 0⟩] scope pos) 0 (.ref it) (.ref s2.heap.objs.size) (compEnvC scope (closOf scope X.env) HP.objs.size X.env))
        (compPost (model X.prog X.w) X.A X.xe none (EP X pins σ Q) (.ref s2.heap.objs.size) HP.objs.size) s₃ := by
    rintro s₃ rfl
    refine compLoop_anyX (fun n s' => ∃ i ys H', Inv (blk X scope NB HP.objs.size s2 H2 fp) [] (tau js σ) H' s' ∧ tn i s'.heap ∧ (∀ b ∈ fp, H' b = none) ∧ W i n ys H') ?_ m0 ⟨0, [], _, IY, st1, frN, w0⟩
    rintro n s3 ⟨i, ys, H3, I3, st3, fr3, w3⟩
    rcases turn i n ys H3 w3 with ⟨stop, qq⟩ | ⟨go, NN, hNN, step⟩
    · refine thn (T.done (blk X scope NB HP.objs.size s2 H2 fp) rfl rfl rfl hc i [] s3 (tau js σ) H3 (fun _ _ => False) I3 (statY fr3) st3 stop) fun r s4 ⟨hr, I4⟩ => ?_
      subst hr
      obtain ⟨m4, hn4, _⟩ := id I4.loc
      refine ⟨m4, hn4, fun h' sb => ⟨.ref s2.heap.objs.size, H3, ?_, rfl, qq⟩⟩
      have u4 : Un (frs X.stack) fp H2 H3 s2.heap s4.heap := I4.base
      exact I2.call' (s' := { s4 with heap := h' }) I4.os (u4.but hCle sb) (I4.hok.but I4.free sb) I4.bare fun b hb => ⟨(f2 b hb).2.2.2.1, (f2 b hb).2.1, (f2 b hb).2.2.2.2.1, (f2 b hb).2.2.2.2.2⟩
    · refine thn (T.item (blk X scope NB HP.objs.size s2 H2 fp) rfl rfl rfl hc i [] s3 (tau js σ) H3 (fun _ _ => False) I3 (statY fr3) st3 go) fun r s4 ⟨u, hr, h4⟩ => ?_
      subst hr
      refine thn h4 fun _ s5 ⟨x, H5, I5, r5, y5, st5, fr5⟩ => ?_
      have I5' := I5.pinned (statY fr5) (T.obj _ _ st5)
      refine thn (hg _ _ _ _ _ s5 (tau js σ) H5 x u _ I5' r5 (step x H5 y5)) fun _ s6 ⟨σ6, H6, I6, ag, q6⟩ => ?_
      have back : ∀ {s7 : Shared} {H7 : Hp}, Inv (blk X scope NB HP.objs.size s2 H2 fp) ([] ++ pinsAt fp s5.heap) σ6 H7 s7 → Inv (blk X scope NB HP.objs.size s2 H2 fp) [] (tau js σ) H7 s7 ∧ tn (i + 1) s7.heap ∧ ∀ b ∈ fp, H7 b = none := fun {s7 H7} I7 => by
        refine ⟨I7.unpinned.weak (lenτ.trans I7.len.symm) ag, T.keep _ _ _ st5 fun b hb o e => (I7.pin (b, o) (List.mem_append_right _ (List.mem_append_right _ (mem_pinsAt hb e)))).1, fun b hb => ?_⟩
        obtain ⟨o, e, d⟩ := T.obj _ _ st5 b hb
        exact (I7.pin (b, o) (List.mem_append_right _ (List.mem_append_right _ (mem_pinsAt hb e)))).2.1
      refine thn (ht _ _ _ _ _ s6 σ6 H6 _ I6 q6) fun ok s7 ⟨H7, I7, q7⟩ => ?_
      cases ok with
      | false =>
        obtain ⟨m', hm, w7⟩ := hNN _ _ q7
        obtain ⟨J1, J2, J3⟩ := back I7
        exact ⟨m', hm, i + 1, ys, H7, J1, J2, J3, w7⟩
      | true =>
        refine wpAny_mono (he HP.objs.size s2 H2 fp _ s7 σ6 H7 _ (I7.wish _) q7) (fun v s8 ⟨y, H8, I8w, r8, hD8, hz, n8⟩ => ?_) (fun e8 s8 hx => ?_)
        case refine_2 =>
          obtain ⟨ea, ec, et, eH, eB, rfl, eS, eE⟩ := hx
          exact lv I2 f2 hCle eS eE rfl
        have I8 := I8w.unwish
        obtain ⟨m', hm, w8⟩ := hNN _ _ n8
        refine thn (mt_append _ s8 σ6 H8 (.ref s2.heap.objs.size) [y] (.ref s2.heap.objs.size) [v] (fun z H' => z = .non ∧ H' = upd H8 s2.heap.objs.size (.lst (ys ++ [y]))) I8 rfl (.cons r8 .nil) ⟨_, ys, y, rfl, rfl, hD8, hz, ⟨rfl, rfl⟩⟩) fun _ s9 ⟨z, H9, I9, r9, q9⟩ => ?_
        obtain ⟨ez, e9⟩ : z = .non ∧ H9 = upd H8 s2.heap.objs.size (.lst (ys ++ [y])) := q9
        subst e9
        obtain ⟨J1, J2, J3⟩ := back I9
        exact ⟨m', hm, i + 1, ys ++ [y], _, J1, J2, J3, w8⟩
  exact codeAny_compStart_list (loop _ rfl) (T.self _ _ _ _ _ st1 (loop _ rfl))
end L2
set_option Elab.async false
set_option linter.all false
set_option maxRecDepth 100000
/-! isinstance of an error of the program's own. -/
namespace L2
open PySem PySem.Spec PySem.W PyProof.Rows Builtin Builtin.ObjectAttr Builtin.Getset_descriptor
/-- what is asked of an own error class -/
structure ExcK (K : PySem.W.Frag) (C : Addr) : Prop where
  ga : findIn K (.ref C) "__getattribute__" = some (some (.builtin "BaseException.__getattribute__"))
  gt : findIn K (.ref C) "__getattr__" = some none
  cl : findIn K (.ref C) "__class__" = some (some (.builtin "object.__class__"))
  mo : mroIn K C (.type "object") = some true
  mb : mroIn K C (.type "BaseException") = some true
  is : (clsIn K C).isSome = true
section
variable {prog : Program} {w : World} {A : Around} {E : Value → Shared → Prop} {h : Heap} {g : Array GenState} {d : Drawn} {t : Nat} {os : OsState} {K : PySem.W.Frag} {a C : Addr} {o : Obj} {vs : Array Value}
theorem xc_type {M : Model} (hx : h.get? a = some o) (hc : o.cls = .ref C) : Looks M h (typeOf (.ref a)) (.ref C) := hc ▸ (Looks.ld hx).andThen .now
theorem xc_get {R : Result → Shared → Prop} {tp : Value} (X : K.In h) (k : ExcK K C) (hx : h.get? a = some o) (hc : o.cls = .ref C) (hq : R (.ok (.ret (.ref C))) ⟨h, g, d, t, os⟩) :
    codeAny (model prog w) A (.call (.builtin "getset_descriptor.__get__") ⟨[.builtin "object.__class__", .ref a, tp], []⟩) R ⟨h, g, d, t, os⟩ := by
  have L0 := xc_type (M := model prog w) hx hc
  have L1 := looks_mroIn (M := model prog w) X k.mo
  refine codeAny_call_builtin KF.slot_gs.plain KF.entry_gs (KF.slot_gs.check _ _ _ _ _ _ _ _ KF.type_class (KF.args_gs _ _ _) ?_)
  unfold Builtin.«getset_descriptor.__get__» descrGet
  rw [dga_obj]
  refine wpAny_bind (wpAny_pure ?_)
  unfold descrGetter descrCheckInstance descrNameAndClass isInstance
  simp only [KF.owner_class]
  repeat lk
  refine ⟨Code.quiet_builtin _ (by decide +kernel), codeAny_builtin KF.entry_class ?_⟩
  unfold Builtin.«object.__class__» shownTypeOf
  repeat lk
  exact hq
theorem xc_entry {tk : Tok} {Q : Fin → Shared → Prop} (X : K.In h) (k : ExcK K C) (hx : h.get? a = some o) (hc : o.cls = .ref C) (hq : Q (.done (.ret (.ref C))) ⟨h, g, d, t, os⟩) :
    wpAny (model prog w) A (Builtin.«object.__getattribute__» ⟨[.ref a, .str "__class__" tk], []⟩) Q E ⟨h, g, d, t, os⟩ := by
  have hT5 : (⟨h, g, d, t, os⟩ : Shared).TypeIs (.builtin "object.__class__") "getset_descriptor" := F.typeOf_object_class
  have f5 := F.typeOf_object_class
  have f6 := F.slot_gs_get.lookup
  have f7 := F.slot_gs_set.lookup
  have L2 := looks_findIn (M := model prog w) X k.cl
  repeat (any_goals (first | assumption | (with_reducible refine wpAny_loadPart_at hx ?_; rw [hc]) | with_reducible refine Looks.at L2 ?_ | wp_step))
  refine xc_get X k hx hc ?_
  repeat (any_goals (first | assumption | wp_step))
theorem xc_check {M : Model} {nameV : Value} {Q : Unit → Shared → Prop} (X : K.In h) (k : ExcK K C) (hx : h.get? a = some o) (hc : o.cls = .ref C) (hq : Q () ⟨h, g, d, t, os⟩) : wpAny M A (checkBuiltinCall "BaseException.__getattribute__" ⟨[.ref a, nameV], []⟩) Q E ⟨h, g, d, t, os⟩ := by
  have e1 : builtinKind "BaseException.__getattribute__" = some .slot := by decide +kernel
  have e2 : splitId "BaseException.__getattribute__" = some ("BaseException", "__getattribute__") := by decide +kernel
  have L3 := looks_mroIn (M := M) X k.mb
  have ha := F.args_bexc_ga (.ref a) nameV
  simp only [checkBuiltinCall, e1, e2]
  refine wpAny_bind ?_
  unfold isInstance
  repeat (first | (with_reducible refine wpAny_loadPart_at hx ?_; rw [hc]) | with_reducible refine Looks.at L3 ?_ | wp_step)
  exact hq
theorem xc_call {tk : Tok} {R : Result → Shared → Prop} (X : K.In h) (k : ExcK K C) (hx : h.get? a = some o) (hc : o.cls = .ref C) (hq : R (.ok (.ret (.ref C))) ⟨h, g, d, t, os⟩) :
    codeAny (model prog w) A (.call (.builtin "BaseException.__getattribute__") ⟨[.ref a, .str "__class__" tk], []⟩) R ⟨h, g, d, t, os⟩ :=
  codeAny_call_builtin F.attr_ValueError.ga.plain F.entry_bexc_ga (xc_check X k hx hc (xc_entry X k hx hc hq))
theorem xc_by {tk : Tok} {fill expr : Bool} {Q : Value → Shared → Prop} (X : K.In h) (k : ExcK K C) (hx : h.get? a = some o) (hc : o.cls = .ref C) (hq : Q (.ref C) ⟨h, g, d, t, os⟩) :
    wpAny (model prog w) A (getAttrBy (.ref a) (.str "__class__" tk) fill expr) Q E ⟨h, g, d, t, os⟩ := by
  have f3 := F.attr_ValueError.ga.bind (.ref a)
  have hx0 : (expr && onTheHeap (Value.builtin "BaseException.__getattribute__")) = false := by cases expr <;> rfl
  have hx2 : (Value.builtin "BaseException.__getattribute__" == Value.builtin "object.__getattribute__") = false := by decide +kernel
  have hx1 : (onTheHeap (Value.ref C) && Value.builtin "BaseException.__getattribute__" == Value.builtin "object.__getattribute__") = false := by rw [hx2]; rfl
  have L4 := looks_findIn (M := model prog w) X k.ga
  have L5 := looks_findIn (M := model prog w) X k.gt
  repeat (any_goals (first | assumption | (with_reducible refine wpAny_loadPart_at hx ?_; rw [hc]) | with_reducible refine Looks.at L4 ?_ | with_reducible refine Looks.at L5 ?_ | wp_step))
  refine xc_call X k hx hc ?_
  repeat (any_goals (first | assumption | wp_step))
theorem xc_attr {Q : Option Value → Shared → Prop} (X : K.In h) (k : ExcK K C) (hx : h.get? a = some o) (hc : o.cls = .ref C) (hq : Q (some (.ref C)) ⟨h, g, d, t + 1, os⟩) :
    wpAny (model prog w) A (getAttr? (.ref a) "__class__") Q E ⟨h, g, d, t, os⟩ := by
  unfold getAttr? getAttrBy?
  refine wpAny_bind (wpAny_mkText (wpAny_bind (wpAny_attempt ?_)))
  exact xc_by X k hx hc (wpAny_pure hq)
end
/-- an error of the own class C stands at a -/
def XAt (a C : Addr) (h : Heap) : Prop := ∃ o, h.get? a = some o ∧ o.cls = .ref C
theorem kitx_exc {K : PySem.W.Frag} {a C : Addr} (k : ExcK K C) : KitX K (.ref a) (.ref C) (XAt a C) where
  ty := fun _ _ _ ⟨o, hx, hc⟩ => xc_type hx hc
  it := fun _ _ X _ => by
    obtain ⟨cd, e⟩ := Option.isSome_iff_exists.mp k.is
    unfold clsIn at e
    split at e
    · rename_i look
      intro A' Q' E' s' kk q
      unfold isType loadHead
      exact wpAny_bind (wpAny_loadPart (kk _ _ (X _ _ look)) (wpAny_pure q))
    · cases e
  ne := fun h tp dd its n sl X htp => by
    obtain ⟨cd, e⟩ := Option.isSome_iff_exists.mp k.is
    refine Bool.eq_false_iff.mpr fun q => ?_
    have e2 : C = tp := Value.ref.inj (beq_iff_eq.mp q)
    subst e2
    unfold clsIn at e
    split at e
    · rename_i look
      have z := (X _ _ look).symm.trans htp
      cases z
    · cases e
  ca := fun {prog w A E Q s} X ⟨o, hx, hc⟩ q => by
    obtain ⟨h, g, d, t, os⟩ := s
    exact xc_attr X k hx hc q
end L2
set_option Elab.async false
set_option linter.all false
set_option maxRecDepth 100000
/-! An own error caught: try .. except Base as e: return f(e). -/
namespace L2
open PySem PySem.Spec PyProof.Rows
/-! ### an error as a tracked thing -/
def excO (p C : Addr) : HO := .ext (XAt p C)
theorem excO_ok {P : Program} {w : World} {H : Hp} {h : Heap} {p C : Addr} (x : XAt p C h) : ObjOk P w H h p (excO p C) :=
  ⟨x, let ⟨o, e, _⟩ := x; ⟨o, e⟩, fun _ _ ⟨o, e, c⟩ k => ⟨o, k o e, c⟩⟩
theorem call_isx {X : Cx} : CallR X (.builtin "isinstance") (fun xs H Q => ∃ (p C : Addr) (c : V) (t : Value) (b : Bool), xs = [.ref p, c] ∧ H p = some (excO p C) ∧ ExcK X.K C ∧ (∀ u, RelV c u → u = t) ∧ PySem.W.kitOne X.K (.ref C) t = some b ∧ Q (.bl b) H) := by
  intro pins s σ H xs us Q I rs h
  obtain ⟨p, C, c, t, b, e, hp, k, ht, hk, q⟩ := h
  subst e
  obtain ⟨u, u2, rfl, ru, ru2⟩ := Vals.two rs
  cases (show u = Value.ref p from ru)
  cases ht u2 ru2
  have x : XAt p C s.heap := (I.hok p _ hp).1
  exact PySem.W.kia_one (kitx_exc k) I.kIn x hk (fun z => nomatch z) fun tk => ⟨.bl b, H, I.tok tk, rfl, q⟩
/-! ### an own class is caught by an own class above it -/
section
variable {M : Model} {A : Around} {E : Value → Shared → Prop} {h : Heap} {g : Array GenState} {d : Drawn} {t : Nat} {os : OsState}
variable {nm q nm2 q2 : Str} {C N D N2 : Addr} {bs bm bs2 bm2 : List Value} {hdct hdct2 : Bool} {sn sn2 : List Str} {sub sub2 : List Value} {ab ab2 : Bool} {col col2 : Option Bool} {dd dd2 : Option Addr} {k0 k1 k2 k3 k5 j0 j1 j2 j3 j5 : Option Value} {newId newId2 : String}
theorem excMatches_above {e : Addr} {oe : Obj} {Q : Bool → Shared → Prop} (hC : h.get? C = some (excClassObj nm q C N bs bm hdct sn sub ab col dd k0 k1 k2 k3 k5 newId)) (hD : h.get? D = some (excClassObj nm2 q2 D N2 bs2 bm2 hdct2 sn2 sub2 ab2 col2 dd2 j0 j1 j2 j3 j5 newId2))
    (he : h.get? e = some oe) (hcls : oe.cls = .ref C) (hb : (Value.ref D :: bm2).contains (.type "BaseException") = true) (hs : (Value.ref C :: bm).contains (.ref D) = true) (hq : Q true ⟨h, g, d, t, os⟩) : wpAny M A (excMatches (.ref e) (.ref D)) Q E ⟨h, g, d, t, os⟩ := by
  have f := tc_notTuple
  unfold excMatches
  repeat (first | (with_reducible refine wpAny_loadPart_at he ?_; rw [hcls]) | with_reducible refine wpAny_loadPart_at hD ?_ | (with_reducible refine wpAny_isSubtype_exc hD ?_; rw [hb]) | (with_reducible refine wpAny_isSubtype_exc hC ?_; rw [hs]) | wp_step)
  exact hq
theorem own_mro {K : PySem.W.Frag} {base : Value} {r : Bool} (X : K.In h) (hC : h.get? C = some (excClassObj nm q C N bs bm hdct sn sub ab col dd k0 k1 k2 k3 k5 newId)) (e : PySem.W.mroIn K C base = some r) : (Value.ref C :: bm).contains base = r := by
  obtain ⟨cd, a, b⟩ := Option.bind_eq_some_iff.mp e
  unfold PySem.W.clsIn at a
  split at a
  · rename_i look
    have z := X _ _ look
    rw [hC] at z
    cases a
    injection z with z
    injection z with _ _ z3 _
    injection z3 with z3
    subst z3
    split at b
    · cases b
    · exact Option.some.inj b
  · cases a
end
/-! ### a call while an error is handled -/
structure RoomH (k : Nat) (A : Around) : Prop where
  dp : A.depth + 3 * k + 5 < recursionLimit
  un : A.units + 16 * k + 200 < cLine
theorem Room.h {k : Nat} {A : Around} (r : Room k A) : RoomH k A := ⟨r.dp, r.un⟩
theorem RoomH.mono {j k : Nat} {A : Around} (r : RoomH k A) (h : j ≤ k) : RoomH j A := ⟨by have := r.dp; omega, by have := r.un; omega⟩
theorem RoomH.deeper {k : Nat} {A : Around} (r : RoomH (k + 1) A) (env : Env) : RoomH k (A.deeper env) := ⟨by have := r.dp; show A.depth + 1 + 3 * k + 5 < _; omega, by have := r.un; show A.units + 3 + 16 * k + 200 < _; omega⟩
theorem RoomH.depth {k : Nat} {A : Around} (r : RoomH k A) : A.depth < recursionLimit := by have := r.dp; omega
theorem RoomH.mark {k : Nat} {A : Around} (r : RoomH k A) (v : Option Value) : RoomH k (A.mark v) := ⟨r.dp, r.un⟩
structure FnOkH (P : Program) (w : World) (K : PySem.W.Frag) (mg : Str → Option Value) (base : Heap) (k : Nat) (f : Addr) (fd : FuncData) (ps : List Str) (sp : Sp) : Prop where
  len : ∀ vs H Q E, sp vs H Q E → vs.length = ps.length
  run : ∀ (A : Around) (outer : List Env) (s : Shared) (H : Hp) (args : Args) (us : List Value) (vs : List V) (Q : VK) (E : XK), RoomH k A → Env0 P w K mg base A outer s H → BindsTo s fd args (ps.zip us) → Vals vs us → sp vs H Q E →
    codeAny (model P w) A (.call (.ref f) args) (CR (CXr P w) outer P w H s Q E) s
section
variable {P : Program} {w : World} {K : PySem.W.Frag} {mg : Str → Option Value} {base : Heap}
def cxH (P : Program) (w : World) (K : PySem.W.Frag) (mg : Str → Option Value) (base : Heap) (N : List Str) (qual : Str) (scope : Scope) (f : Addr) (cd : Value) (A : Around) (outer : List Env) (s : Shared) (H : Hp) : Cx :=
  { cxOf (CXr P w) P w K mg base N qual scope f cd A outer s H E0 with calm := false, xe := fun _ _ => False }
theorem inv_startH {N ps : List Str} {qual : Str} {scope : Scope} {f : Addr} {cd : Value} {A : Around} {outer : List Env} {s s1 : Shared} {H : Hp} {us : List Value} {vs : List V} (S : FnScope N ps scope) (e0 : Env0 P w K mg base A outer s H) (hl : vs.length = ps.length) (r : Vals vs us)
    (x : InCallC s s.heap.objs.size (bindL (envOfC qual scope s.heap.objs.size f cd).kindOf (ps.zip us) fun _ => none) (cellsFrom (s.heap.objs.size + 1) scope.names []) (bindC (envOfC qual scope s.heap.objs.size f cd).kindOf (ps.zip us) fun _ => none) s1) :
    Inv (cxH P w K mg base N qual scope f cd A outer s H) [] (start N vs) H s1 := by
  have e1 : Env0 P w K mg base { A with handled := none } outer s H := ⟨e0.frames, e0.mod, e0.bs, e0.bsz, e0.funs, e0.frf, e0.hok, e0.bare⟩
  have I := inv_start (CX := CXr P w) (E := E0) (A := { A with handled := none }) S rfl e1 hl r x
  exact ⟨⟨I.ok.mod, I.ok.kind, I.ok.glob, I.ok.blt, I.ok.above, I.ok.inj, I.ok.has, I.ok.cab, fun z => (by cases z), I.ok.frames, I.ok.stk, I.ok.exf, I.ok.bs, I.ok.bsz, I.ok.noex, I.ok.exfs, I.ok.funs, I.ok.frf⟩, I.os, I.bare, I.base, I.loc, I.cell, I.free, I.freeC, I.pin, I.hok, I.len⟩
theorem Fun.okH {x qual : Str} {st : Stmt} {f : Addr} {fd : FuncData} {N ps : List Str} {k : Nat} {sp : Sp} (F : Fun K x qual st f fd) (S : FnScope N ps (defScope st)) (len : ∀ vs H Q E, sp vs H Q E → vs.length = ps.length)
    (hbody : ∀ (cdv : Value) (A : Around) (outer : List Env) (s : Shared) (H : Hp) (vs : List V) (Q : VK) (E : XK), RoomH k (A.deeper (envOfC qual (defScope st) s.heap.objs.size f cdv)) → sp vs H Q E →
      ∃ t, PSs (cxH P w K mg base N qual (defScope st) f cdv A outer s H) (defBody st) t ∧ t { nx := fun _ H' => Q .non H', rt := Q } (start N vs) H) : FnOkH P w K mg base (k + 1) f fd ps sp := by
  obtain ⟨oc, od, kV, doc, pm, an, cdv, ct, osl, rfl, lk, hcd⟩ := F.ex
  refine ⟨len, fun A outer s H args us vs Q E hr e0 hb r hsp => ?_⟩
  have hl := len _ _ _ _ hsp
  have KX : K.In s.heap := e0.mod.kin.keeps fun b o e => (e0.bs b o e).1
  have lim : s.heap.NoLimit := e0.mod.nolimit.keeps fun b o e => (e0.bs b o e).1
  have hkind : ∀ y ∈ ps.zip us, (defScope st).names.lookup y.1 = some .local ∨ ((defScope st).names.lookup y.1 = some .cell ∧ ((cellsFrom (s.heap.objs.size + 1) (defScope st).names []).lookup y.1).isSome = true) := fun ⟨n, v⟩ hy => by
    rcases S.par n (List.of_mem_zip hy).1 with q | q
    · exact .inl q
    · exact .inr ⟨q, PySem.W.cellsFrom_some _ _ _ (.inl q)⟩
  refine codeAny_call_function hr.depth (KX _ _ lk) rfl S.co S.gen rfl (PySem.W.codeRec_of KX hcd) (hb _ _ _ _ ?_)
  refine wpAny_newFunctionEnv_cells S.kind hkind fun env he s1 x => ?_
  subst he
  refine ⟨lim.keeps x.toInCall.keep, codeAny_func ?_⟩
  obtain ⟨t, ht, hq⟩ := hbody cdv A outer s H vs Q E (hr.deeper _) hsp
  have I : Inv (cxH P w K mg base N qual (defScope st) f cdv A outer s H) [] (start N vs) H s1 := inv_startH S e0 hl r x
  refine wpAny_mono (ht [] s1 (start N vs) H _ I hq) (fun fl s' hs => ?_) fun e s' z => z.elim
  have fin : ∀ {σ' : St} {H' : Hp} {v : V} {u : Value}, Inv (cxH P w K mg base N qual (defScope st) f cdv A outer s H) [] σ' H' s' → RelV v u → Q v H' → CE outer P w H s Q u s' :=
    fun {σ' H' v u} J rv q => ⟨v, H', J.os, J.bare, J.base, J.hok, rv, q⟩
  cases fl with
  | ret u => obtain ⟨v, σ', H', J, rv, q⟩ := hs; exact fin J rv q
  | next => obtain ⟨σ', H', J, q⟩ := hs; exact fin (v := V.non) (u := Value.none) J rfl q
  | brk => obtain ⟨_, _, _, q⟩ := hs; exact False.elim q
  | cont => obtain ⟨_, _, _, q⟩ := hs; exact False.elim q
end
section
variable {X : Cx} {k : Nat} {f : Addr} {fd : FuncData} {ps : List Str} {sp : Sp} {x : Str} {p pos : Pos} {e : Expr} {es : List Expr} {t : TA}
theorem pe_callH (F : FnOkH X.prog X.w X.K X.mg X.base k f fd ps sp) (hr : RoomH k X.A) (hg : Gl X x) (hm : X.mg x = some (.ref f)) (hk : PySem.W.keepIn X.K (.ref f) = true) (hb : Binds X.K fd ps []) (ha : PA X (e :: es) t)
    (hdb : (x == ("__debug__" : Str)) = false := by decide) (he : starEach (e :: es) X.env = (false, eval e X.env) :: starEach es X.env := by rfl) (hpl : (backTo pos (starEach es X.env)).any (·.1) = false := by rfl) :
    PE X (.Call (.Name x p) (e :: es) [] pos) (tCall sp [] E0 t) := by
  intro pins s σ H Q I h
  refine wpAny_Call_Name_kw (ld_glob I hg hm ?_ hdb)
  refine PySem.W.callWith_K (h₀ := X.base) I.ok.mod.kin hk (thn (ha pos pins s σ H _ I h) fun us s1 ⟨vs, H1, I1, r, q⟩ => ⟨I1.kIn, ?_⟩) he hpl
  have r2 : Vals (vs ++ []) (us ++ []) := r.append .nil
  have hl : (us ++ []).length = ps.length := by rw [← r2.length]; exact F.len _ _ _ _ q
  refine wpAny_call (codeAny_mono (F.run X.A X.stack s1 H1 ⟨us, []⟩ (us ++ []) (vs ++ []) Q E0 hr I1.env0 (hb s1 us I1.kIn hl) r2 q) fun r s' hq => ?_)
  cases r with
  | error e => obtain ⟨_, _, _, _, _, _, _, z⟩ := hq; exact False.elim z
  | ok fl =>
    cases fl with
    | ret u => exact I1.after hq
    | next => exact False.elim hq
    | brk => exact False.elim hq
    | cont => exact False.elim hq
end
/-! ### within the handler -/
abbrev Cx.inH (X : Cx) (e : Value) : Cx := { X with A := X.A.mark (some e), calm := false, xe := fun _ _ => False }
section
variable {X : Cx} {pins : List (Addr × Obj)} {σ : St} {H : Hp} {s : Shared}
theorem Inv.inH (I : Inv X pins σ H s) (e : Value) : Inv (X.inH e) pins σ H s :=
  ⟨⟨I.ok.mod, I.ok.kind, I.ok.glob, I.ok.blt, I.ok.above, I.ok.inj, I.ok.has, I.ok.cab, fun z => (by cases z), I.ok.frames, I.ok.stk, I.ok.exf, I.ok.bs, I.ok.bsz, I.ok.noex, I.ok.exfs, I.ok.funs, I.ok.frf⟩, I.os, I.bare, I.base, I.loc, I.cell, I.free, I.freeC, I.pin, I.hok, I.len⟩
theorem Inv.outH {e : Value} (ok : X.Ok) (I : Inv (X.inH e) pins σ H s) : Inv X pins σ H s := ⟨ok, I.os, I.bare, I.base, I.loc, I.cell, I.free, I.freeC, I.pin, I.hok, I.len⟩
/-- an untracked new thing is tracked -/
theorem Inv.track {a : Addr} {o : HO} (I : Inv X pins σ H s) (hn : H a = none) (h0 : ∀ ob, X.s₀.heap.get? a ≠ some ob) (hl : a ≠ X.env.locals) (hc : ∀ x c, X.env.cells.lookup x = some c → c ≠ a) (hp : ∀ p ∈ X.pn ++ pins, p.1 ≠ a)
    (new : ObjOk X.prog X.w (upd H a o) s.heap a o) : Inv X pins σ (upd H a o) s := by
  have up : ∀ b u, H b = some u → upd H a o b = some u := fun b u q => by rw [upd_ne (ne_of_none q hn)]; exact q
  refine ⟨I.ok, I.os, I.bare, ⟨I.base.keep, I.base.slot, fun b ob e n hx => ?_, I.base.there, fun b xs e => up b _ (I.base.tups b xs e), fun b u v e => up b _ (I.base.frzs b u v e), fun b ps e => ?_⟩, I.loc, I.cell, ?_, fun x c e => ?_, fun p hp' => ?_, fun b u e => ?_, I.len⟩
  · rw [upd_ne (fun z => h0 ob (by rw [← z]; exact e))]; exact I.base.free b ob e n hx
  · obtain ⟨more, q⟩ := I.base.tbls b ps e
    exact ⟨more, up b _ q⟩
  · rw [upd_ne (Ne.symm hl)]; exact I.free
  · rw [upd_ne (hc x c e)]; exact I.freeC x c e
  · obtain ⟨q1, q2, q3⟩ := I.pin p hp'
    exact ⟨q1, by rw [upd_ne (hp p hp')]; exact q2, q3⟩
  · by_cases z : b = a
    · subst z
      rw [upd_same] at e
      cases e
      exact new
    · rw [upd_ne z] at e
      exact (I.hok b u e).stay (fun _ _ _ q => q) (fun c q => up c _ q) fun c xs q => up c _ q
/-- the frame's names are forgotten -/
theorem Inv.forget {h' : Heap} {m : Str → Option Value} {t : Nat} (I : Inv X pins σ H s) (hm : h'.Ns X.env.locals m) (sb : Heap.SameBut X.env.locals s.heap h') : Inv X pins (List.replicate X.N.length none) H { s with heap := h', toks := t } := by
  refine ⟨I.ok, I.os, I.bare, I.base.but I.ok.above sb, ⟨m, hm, fun i x v e1 e2 e3 => ?_⟩, fun x c e => ?_, I.free, I.freeC, fun p hp => ?_, I.hok.but I.free sb, List.length_replicate⟩
  · rw [List.getElem?_replicate] at e2
    split at e2 <;> cases e2
  · obtain ⟨v, z⟩ := I.cell x c e
    exact ⟨v, z.sameBut sb (I.cne x c e)⟩
  · obtain ⟨q1, q2, q3, q4⟩ := I.pin p hp
    exact ⟨(sb.2 p.1 q3).trans q1, q2, q3, q4⟩
end
end L2
set_option Elab.async false
set_option linter.all false
set_option maxRecDepth 100000
namespace L2
open PySem PySem.Spec PyProof.Rows
section
variable {P : Program} {w : World} {K : PySem.W.Frag} {mg : Str → Option Value} {base : Heap} {N : List Str} {qual : Str} {scope : Scope} {f : Addr} {cd : Value} {A : Around} {outer : List Env} {s : Shared} {H : Hp} {E : XK}
/-- the statement: try: body; except Base as n: return which(n) -/
abbrev tryStmt (body : List Stmt) (xB xW n : Str) (np wp wp2 cpos rpos hpos pos : Pos) : Stmt :=
  .Try body [.ExceptHandler (some (.Name xB np)) (some n) [.Return (some (.Call (.Name xW wp) [.Name n wp2] [] cpos)) rpos] hpos] [] [] pos
theorem try_ok {body : List Stmt} {tb : XK → TS} {xB xW n pn : Str} {np wp wp2 cpos rpos hpos pos : Pos} {j kW : Nat} {Dc fW : Addr} {fdW : FuncData} {spW : Sp} {bmB : List Value} {newId : String}
    (hb : ∀ (E' : XK) (xe' : Value → Shared → Prop), Passes (CXr P w) ((cxOf (CXr P w) P w K mg base N qual scope f cd A outer s H E).wish xe') E' → PSs ((cxOf (CXr P w) P w K mg base N qual scope f cd A outer s H E).wish xe') body (tb E'))
    (hB : mg xB = some (.ref Dc)) (gB : Gl (cxOf (CXr P w) P w K mg base N qual scope f cd A outer s H E) xB) (qB : PySem.W.excIn K Dc bmB newId = true) (mB : PySem.W.mroIn K Dc (.type "BaseException") = some true)
    (FW : FnOkH P w K mg base kW fW fdW [pn] spW) (hrW : RoomH kW (A.deeper (envOfC qual scope s.heap.objs.size f cd))) (gW : Gl (cxOf (CXr P w) P w K mg base N qual scope f cd A outer s H E) xW) (mW : mg xW = some (.ref fW)) (kpW : PySem.W.keepIn K (.ref fW) = true) (bW : Binds K fdW [pn] [])
    (hN : N.Nodup) (hj : N[j]? = some n) (hn : scope.names.lookup n = some .local) (dB : (xB == ("__debug__" : Str)) = false) (dW : (xW == ("__debug__" : Str)) = false) (dn : (n == ("__debug__" : Str)) = false) (dn2 : (n == ("__classdict__" : Str)) = false)
    {s1 : Shared} {σ : St} {H1 : Hp} {D : Ends} (I : Inv (cxOf (CXr P w) P w K mg base N qual scope f cd A outer s H E) [] σ H1 s1)
    (hT : ∃ E' : XK, tb E' D σ H1 ∧ ∀ C H', E' (.ref C) none H' → (∃ bmC idC, PySem.W.excIn K C bmC idC = true ∧ PySem.W.mroIn K C (.ref Dc) = some true) ∧ ∀ p, H' p = none → spW [.ref p] (upd H' p (excO p C)) D.rt E0) :
    wpAny (model P w) (A.deeper (envOfC qual scope s.heap.objs.size f cd)) (exec (tryStmt body xB xW n np wp wp2 cpos rpos hpos pos) (envOfC qual scope s.heap.objs.size f cd)) (SP (cxOf (CXr P w) P w K mg base N qual scope f cd A outer s H E) [] D)
      (cxOf (CXr P w) P w K mg base N qual scope f cd A outer s H E).xe s1 := by
  obtain ⟨E', hbody, hcatch⟩ := hT
  generalize hX : cxOf (CXr P w) P w K mg base N qual scope f cd A outer s H E = X at *
  have eA : X.A = A.deeper (envOfC qual scope s.heap.objs.size f cd) := by rw [← hX]; rfl
  have eE : X.env = envOfC qual scope s.heap.objs.size f cd := by rw [← hX]; rfl
  have eK : X.K = K := by rw [← hX]; rfl
  have eM : X.mg = mg := by rw [← hX]; rfl
  have eN : X.N = N := by rw [← hX]; rfl
  have eP : X.prog = P := by rw [← hX]; rfl
  have ew : X.w = w := by rw [← hX]; rfl
  have eB : X.base = base := by rw [← hX]; rfl
  have eS : X.s₀ = s := by rw [← hX]; rfl
  have epn : X.pn = [] := by rw [← hX]; rfl
  have eX : X.ex = [] := by rw [← hX]; rfl
  have est : X.stack = X.env :: X.outer := by rw [← hX]; rfl
  have eF : X.env.frame = some X.env.locals := by rw [← hX]; rfl
  clear hX
  subst eK eM eN eP ew eB
  rw [← eA, ← eE]
  rw [← eA] at hrW
  refine wpAny_Try_except ?_
  have pass : Passes (CXr X.prog X.w) (X.wish fun e s' => wpAny (model X.prog X.w) X.A (noteFrame e X.env) (fun _ s₂ => wpAny (model X.prog X.w) X.A (setFlight e none) (fun _ s₃ =>
      wpAny (model X.prog X.w) X.A (handleBy e X.env [.ExceptHandler (some (.Name xB np)) (some n) [.Return (some (.Call (.Name xW wp) [.Name n wp2] [] cpos)) rpos] hpos]) (SP X [] D) X.xe s₃) X.xe s₂) X.xe s') E' := by
    intro pins σ1 H2 s2 e s' I2 hcx
    obtain ⟨a, C, t, H', B, rfl, F, hE⟩ := hcx
    have I2' : Inv X pins σ1 H2 s2 := I2.unwish
    obtain ⟨⟨bmC, idC, qC, mC⟩, hsp⟩ := hcatch C H' hE
    have at_ : ∀ h2 : Heap, B.StaysIn h2 → s'.heap.UpToSlots h2 → Inv X [] σ1 H' { s' with heap := h2 } := fun h2 b2 ups => by
      have frm : ∀ b ∈ frs X.stack, ∀ o, s'.heap.get? b = some o → ∃ sl, h2.get? b = some { o with slots := sl } := fun b hb' o q => by
        obtain ⟨_, o', r, nf⟩ := F.fly.2.2.1.mem hb'
        rw [q] at r
        cases r
        exact ups b o q nf
      obtain ⟨un2, hok2⟩ := fly_step F.un F.hok F.fly.1 b2 F.old F.trk frm
      have J : Inv X pins σ1 H' { s' with heap := h2 } := I2'.call' (s' := { s' with heap := h2 }) F.os un2 hok2 F.bare fun b hb' => nomatch hb'
      exact J.pins_of (pins' := []) fun p hp => nomatch hp
    have hfr : X.A.frames = some (X.env :: X.outer) := by rw [← est]; exact I2'.ok.frames
    have fly0 : Heap.FlyingW B (X.env :: X.outer) a (.ref C) (.ref t) s'.heap := by rw [← est]; exact F.fly
    refine wpAny_looks_onW (base := B) hfr eF fly0 fun h4 held4 sm4 => ?_
    refine wpAny_landsW held4 fun h5 fly5 sm5 => ?_
    have sm45 := sm4.trans sm5
    have I5 := at_ h5 fly5.1 sm45
    obtain ⟨ob, hob, hobc⟩ := fly5.there
    refine wpAny_handleBy_cons (codeAny_handlers_test (ld_glob (X := X.inH (.ref a)) (I5.inH _) gB hB ?_ dB)) (by intro q; cases q)
    obtain ⟨b1, N1, nm1, q1, bs1, hd1, sn1, sub1, ab1, col1, dd1, a0, a1, a2, a3, a5, mN1, hC, _, _, _⟩ := (own_at (mg := fun _ => some (.ref C)) (x := "") I5.kIn rfl qC).obj
    obtain ⟨b2, N2, nm2, q2, bs2, hd2, sn2, sub2, ab2, col2, dd2, c0, c1, c2, c3, c5, mN2, hD, _, _, _⟩ := (own_at (mg := fun _ => some (.ref Dc)) (x := "") I5.kIn rfl qB).obj
    refine excMatches_above hC hD hob hobc (own_mro I5.kIn hD mB) (own_mro I5.kIn hC mC) ?_
    refine codeAny_handlers_suite_as ?_
    refine lands_againW fly5 fun h6 fly6 sm6 => ?_
    have I6 := at_ h6 fly6.1 (sm45.trans sm6)
    obtain ⟨oe, ve, hoe, hoc, hod, _⟩ := fly6.first
    have nframe : a ∉ frs X.stack := fun z => by
      rw [est] at z
      obtain ⟨_, o', r, nf⟩ := fly6.2.2.1.mem z
      rw [hoe] at r
      cases r
      exact nf ve hod
    have nB : B.get? a = none := fly6.2.1
    have n2 : ∀ o, s2.heap.get? a ≠ some o := fun o z => by
      obtain ⟨ob', r⟩ := F.old a o z nframe
      rw [nB] at r
      cases r
    have n0 : ∀ o, X.s₀.heap.get? a ≠ some o := fun o z => by
      obtain ⟨o', r⟩ := I2'.base.there a o z (by rw [eX]; simp)
      exact n2 o' r
    have nH : H' a = none := by
      cases q : H' a with
      | none => rfl
      | some o => obtain ⟨ob', r⟩ := F.trk a o q; rw [nB] at r; cases r
    have I6t : Inv X [] σ1 (upd H' a (excO a C)) { s' with heap := h6 } := by
      refine I6.track nH n0 (fun q => nframe ?_) (fun x c hc q => ?_) (fun p hp => ?_) (excO_ok ⟨oe, hoe, hoc⟩)
      · rw [est]; exact List.mem_filterMap.mpr ⟨X.env, List.mem_cons_self, by rw [q]; exact eF⟩
      · obtain ⟨v, o, ho, hd⟩ := I6.cell x c hc
        have ho' : h6.get? c = some o := ho
        rw [q, hoe] at ho'
        cases ho'
        rw [hod] at hd
        cases hd
      · rw [epn] at hp
        exact absurd (show p ∈ ([] : List (Addr × Obj)) from hp) (by simp)
    have hn' : X.env.scope.names.lookup n = some .local := by rw [eE]; exact hn
    refine store_ok I6t hN hj (Or.inl hn') (v := .ref a) rfl (fun s7 I7 => ?_) (Or.inr hn')
    have I7h := I7.inH (.ref a)
    have suite := pss_one (X := X.inH (.ref a)) (ps_ret (pos := rpos) (pe_callH (p := wp) (pos := cpos) FW (hrW.mark _) gW mW kpW bW (pa_cons (pe_var (X := X.inH (.ref a)) (pos := wp2) hj (Or.inl hn') dn dn2) pa_nil) dW))
    have hjl : j < σ1.length := by rw [I6.len]; exact (List.getElem?_eq_some_iff.mp hj).1
    refine wpAny_mono (suite [] s7 _ _ { nx := fun _ _ => False, rt := D.rt } I7h ⟨.ref a, by rw [List.getElem?_set_self hjl], hsp a nH⟩) (fun fl s8 q8 => ?_) fun _ _ z => z.elim
    cases fl with
    | next => obtain ⟨_, _, _, z⟩ := q8; exact False.elim z
    | brk => obtain ⟨_, _, _, z⟩ := q8; exact False.elim z
    | cont => obtain ⟨_, _, _, z⟩ := q8; exact False.elim z
    | ret u =>
      obtain ⟨v, σ8, H8, I8, rv, qr⟩ := q8
      have I8' : Inv X [] σ8 H8 s8 := I8.outH I6.ok
      obtain ⟨m8, hm8, _⟩ := id I8'.loc
      have hcls : (X.env.scope.kind == .class || (X.env.scope.kind == .module && X.env.locals != X.env.globals)) = false := by rw [I8'.ok.kind]; rfl
      refine wpAny_nameGoes hn' hm8 hcls fun h9 m9 hm9 sb9 => ?_
      exact ⟨v, _, H8, I8'.forget hm9 sb9, rv, qr⟩
  refine wpAny_mono (hb E' _ pass [] s1 σ H1 D (I.wish _) hbody) (fun fl s2 q => ?_) fun e s2 q => q
  have q' := q.unwish
  cases fl with
  | next => exact wpAny_execs_nil q'
  | ret v => exact q'
  | brk => exact q'
  | cont => exact q'
end
end L2
set_option Elab.async false
set_option linter.all false
set_option maxRecDepth 100000
/-! A call of what an expression tells; a def whose body is walked from no pins on. -/
namespace L2
open PySem PySem.Spec PyProof.Rows
section
variable {X : Cx} {CX : CXT}
/-- a suite walked from no pins on -/
def PSs0 (X : Cx) (st : List Stmt) (t : TS) : Prop :=
  ∀ (s : Shared) (σ : St) (H : Hp) (D : Ends), Inv X [] σ H s → t D σ H → wpAny (model X.prog X.w) X.A (execs st X.env) (SP X [] D) X.xe s
theorem pss0_one {st : Stmt} {t : TS} (h1 : ∀ (s : Shared) (σ : St) (H : Hp) (D : Ends), Inv X [] σ H s → t D σ H → wpAny (model X.prog X.w) X.A (exec st X.env) (SP X [] D) X.xe s) : PSs0 X [st] t := by
  intro s σ H D I h
  refine wpAny_execs_cons (thn (h1 s σ H D I h) fun f s1 q => ?_)
  cases f with
  | next => exact wpAny_execs_nil q
  | ret v => exact q
  | brk => exact q
  | cont => exact q
end
section
variable {P : Program} {w : World} {K : PySem.W.Frag} {mg : Str → Option Value} {base : Heap}
theorem Fun.okT {x qual : Str} {st : Stmt} {f : Addr} {fd : FuncData} {N ps : List Str} {k : Nat} {sp : Sp} (F : Fun K x qual st f fd) (S : FnScope N ps (defScope st)) (len : ∀ vs H Q E, sp vs H Q E → vs.length = ps.length)
    (hbody : ∀ (cdv : Value) (A : Around) (outer : List Env) (s : Shared) (H : Hp) (vs : List V) (Q : VK) (E : XK), Room k (A.deeper (envOfC qual (defScope st) s.heap.objs.size f cdv)) → sp vs H Q E →
      ∃ t, PSs0 (cxOf (CXr P w) P w K mg base N qual (defScope st) f cdv A outer s H E) (defBody st) t ∧ t { nx := fun _ H' => Q .non H', rt := Q } (start N vs) H) : FnOk P w K mg base (CXr P w) (k + 1) f fd ps sp := by
  obtain ⟨oc, od, kV, doc, pm, an, cdv, ct, osl, rfl, lk, hcd⟩ := F.ex
  refine ⟨len, fun A outer s H args us vs Q E hr e0 hb r hsp => ?_⟩
  have hl := len _ _ _ _ hsp
  have KX : K.In s.heap := e0.mod.kin.keeps fun b o e => (e0.bs b o e).1
  have lim : s.heap.NoLimit := e0.mod.nolimit.keeps fun b o e => (e0.bs b o e).1
  have hkind : ∀ y ∈ ps.zip us, (defScope st).names.lookup y.1 = some .local ∨ ((defScope st).names.lookup y.1 = some .cell ∧ ((cellsFrom (s.heap.objs.size + 1) (defScope st).names []).lookup y.1).isSome = true) := fun ⟨n, v⟩ hy => by
    rcases S.par n (List.of_mem_zip hy).1 with q | q
    · exact .inl q
    · exact .inr ⟨q, PySem.W.cellsFrom_some _ _ _ (.inl q)⟩
  refine codeAny_call_function hr.depth (KX _ _ lk) rfl S.co S.gen rfl (PySem.W.codeRec_of KX hcd) (hb _ _ _ _ ?_)
  refine wpAny_newFunctionEnv_cells S.kind hkind fun env he s1 x => ?_
  subst he
  refine ⟨lim.keeps x.toInCall.keep, codeAny_func ?_⟩
  obtain ⟨t, ht, hq⟩ := hbody cdv A outer s H vs Q E (hr.deeper _) hsp
  have I : Inv (cxOf (CXr P w) P w K mg base N qual (defScope st) f cdv A outer s H E) [] (start N vs) H s1 := inv_start S hr.hd e0 hl r x
  refine wpAny_mono (ht s1 (start N vs) H _ I hq) (fun fl s' hs => ?_) fun e s' hs => hs
  have fin : ∀ {σ' : St} {H' : Hp} {v : V} {u : Value}, Inv (cxOf (CXr P w) P w K mg base N qual (defScope st) f cdv A outer s H E) [] σ' H' s' → RelV v u → Q v H' → CE outer P w H s Q u s' :=
    fun {σ' H' v u} J rv q => ⟨v, H', J.os, J.bare, J.base, J.hok, rv, q⟩
  cases fl with
  | ret u => obtain ⟨v, σ', H', J, rv, q⟩ := hs; exact fin J rv q
  | next => obtain ⟨σ', H', J, q⟩ := hs; exact fin (v := V.non) (u := Value.none) J rfl q
  | brk => obtain ⟨_, _, _, q⟩ := hs; exact False.elim q
  | cont => obtain ⟨_, _, _, q⟩ := hs; exact False.elim q
end
end L2
set_option Elab.async false
set_option linter.all false
set_option maxRecDepth 100000
namespace Be
open PySem L2 BE PySem.Builtin.Str
theorem wholeIn_of {i lo hi : Int} (h1 : lo ≤ i) (h2 : i ≤ hi) : wholeIn (.int i) lo hi = true := by
  show (decide (lo ≤ i) && decide (i ≤ hi)) = true
  rw [decide_eq_true h1, decide_eq_true h2]; rfl
theorem bow_enc {p : Int × Int} (h : 1 ≤ p.1 ∧ p.1 ≤ p.2 ∧ p.2 ≤ 99) : bowD (encB p) = true := by
  show (wholeIn (.int p.1) 1 99 && wholeIn (.int p.2) p.1 99) = true
  rw [wholeIn_of h.1 (by omega), wholeIn_of h.2.1 h.2.2]; rfl
theorem isW_enc {W : Wd} (h : W.Ok) : isWD (encW W) = true := by
  show (wholeIn (.int W.b) 1 4 && (decide (1 ≤ (W.bs.map encB).length) && decide ((W.bs.map encB).length ≤ 10) && (W.bs.map encB).all bowD)) = true
  rw [wholeIn_of h.b1 h.b4, List.length_map, decide_eq_true h.l1, decide_eq_true h.l10]
  show (W.bs.map encB).all bowD = true
  rw [List.all_eq_true]
  intro d hd
  obtain ⟨p, hp, rfl⟩ := List.mem_map.mp hd
  exact bow_enc (h.bd p hp)
/-- the text of a work's bounds, of a world, of an order -/
def bT (p : Int × Int) : Str := if p.1 = p.2 then nT p.1 else nT p.1 ++ "-" ++ nT p.2
def wsT (bs : List (Int × Int)) : Str := Txt.join " " (bs.map bT)
def wT (W : Wd) : Str := nT W.b ++ ": " ++ wsT W.bs
def oT (o : List Int) : Str := Txt.join " " (o.map nT)
theorem sp_cps : (" " : Str) = ⟨#[32]⟩ := by decide +kernel
theorem da_cps : ("-" : Str) = ⟨#[45]⟩ := by decide +kernel
theorem co_cps : (": " : Str).cps.toList = [58, 32] := by decide +kernel
theorem log_small {i : Int} (h0 : 0 ≤ i) (h1 : i < 100) : i.natAbs.log2 < 1920 := by
  by_cases z : i.natAbs = 0
  · rw [z]; decide
  · exact (Nat.log2_lt z).mpr (Nat.lt_of_lt_of_le (show i.natAbs < 2 ^ 7 by omega) (Nat.pow_le_pow_right (n := 2) (by decide) (show 7 ≤ 1920 by omega)))
theorem wr_int {i : Int} (h0 : 0 ≤ i) (h1 : i < 100) : wr (.int i) = some (nT i) := if_pos (log_small h0 h1)
theorem len_cps (z : Str) : z.cps.toList.length = z.length := Array.length_toList
structure Bd (p : Int × Int) : Prop where
  a : 1 ≤ p.1
  b : p.1 ≤ p.2
  c : p.2 ≤ 99
theorem bT_sp {p : Int × Int} (h : Bd p) : 32 ∉ (bT p).cps.toList := by
  have a := h.a; have b := h.b; have c := h.c
  unfold bT
  split
  · exact (nT_ok (by omega) (by omega)).s
  · rw [cat_cps, cat_cps, da_cps]
    have := (nT_ok (i := p.1) (by omega) (by omega)).s
    have := (nT_ok (i := p.2) (by omega) (by omega)).s
    simp [*]
theorem bT_len {p : Int × Int} (h : Bd p) : (bT p).length ≤ 5 := by
  have a := h.a; have b := h.b; have c := h.c
  have l1 := (nT_ok (i := p.1) (by omega) (by omega)).l
  have l2 := (nT_ok (i := p.2) (by omega) (by omega)).l
  unfold bT
  split
  · omega
  · rw [cat_len, cat_len, da_cps]
    show (nT p.1).length + 1 + (nT p.2).length ≤ 5
    omega
theorem bT_part {p : Int × Int} (h : Bd p) : Txt.partition (bT p) "-" = (nT p.1, if p.1 = p.2 then Str.empty else "-", if p.1 = p.2 then Str.empty else nT p.2) := by
  have a := h.a; have b := h.b; have c := h.c
  have d1 := (nT_ok (i := p.1) (by omega) (by omega)).d
  unfold bT
  by_cases e : p.1 = p.2
  · rw [if_pos e, if_pos e, if_pos e, da_cps]
    exact part_no d1
  · rw [if_neg e, if_neg e, if_neg e]
    exact part_at (c := 45) (r := []) (by rw [da_cps]) d1
theorem Wd.Ok.Bd {W : Wd} (h : W.Ok) {p : Int × Int} (hp : p ∈ W.bs) : Bd p := ⟨(h.bd p hp).1, (h.bd p hp).2.1, (h.bd p hp).2.2⟩
theorem len_join (c : Nat) : ∀ ws : List Str, (Txt.join ⟨#[c]⟩ ws).length ≤ (ws.map (·.length)).sum + ws.length := by
  intro ws
  have ej : Txt.join ⟨#[c]⟩ ws = Str.join ⟨#[c]⟩ ws := StrLaws.glued_eq_join _ _
  rw [ej]
  clear ej
  induction ws with
  | nil => exact Nat.zero_le _
  | cons w r ih =>
    cases r with
    | nil => show w.length ≤ _; simp
    | cons v r =>
      show (w ++ ⟨#[c]⟩ ++ Str.join ⟨#[c]⟩ (v :: r)).length ≤ _
      rw [cat_len, cat_len]
      have : (⟨#[c]⟩ : Str).length = 1 := rfl
      simp only [List.map_cons, List.sum_cons, List.length_cons] at ih ⊢
      omega
theorem sum_len {B : Nat} : ∀ ws : List Str, (∀ w ∈ ws, w.length ≤ B) → (ws.map (·.length)).sum ≤ B * ws.length
  | [], _ => Nat.zero_le _
  | w :: r, h => by
    have := sum_len r fun x hx => h x (List.mem_cons_of_mem _ hx)
    have := h w List.mem_cons_self
    simp only [List.map_cons, List.sum_cons, List.length_cons]
    rw [Nat.mul_add]
    omega
theorem wsT_len {W : Wd} (h : W.Ok) : (wsT W.bs).length ≤ 60 := by
  unfold wsT
  rw [sp_cps]
  have a := len_join 32 (W.bs.map bT)
  have b := sum_len (B := 5) (W.bs.map bT) fun w hw => by
    obtain ⟨p, hp, rfl⟩ := List.mem_map.mp hw
    exact bT_len (h.Bd hp)
  have l10 := h.l10
  rw [List.length_map] at a b
  omega
theorem wT_len {W : Wd} (h : W.Ok) : (wT W).length ≤ 70 := by
  have b1 := h.b1; have b4 := h.b4
  have l := (nT_ok (i := W.b) (by omega) (by omega)).l
  have m := wsT_len h
  have c : (": " : Str).length = 2 := by rw [← len_cps, co_cps]; rfl
  unfold wT
  rw [cat_len, cat_len, c]
  omega
theorem wT_part {W : Wd} (h : W.Ok) : Txt.partition (wT W) ": " = (nT W.b, (": " : Str), wsT W.bs) := by
  have b1 := h.b1; have b4 := h.b4
  exact part_at (c := 58) (r := [32]) co_cps (nT_ok (i := W.b) (by omega) (by omega)).c
theorem wT_split {W : Wd} (h : W.Ok) : Txt.split (wsT W.bs) " " = W.bs.map bT := by
  unfold wsT
  rw [sp_cps]
  refine split_join (fun z => ?_) fun w hw => ?_
  · have := h.l1
    rw [List.map_eq_nil_iff.mp z] at this
    simp at this
  · obtain ⟨p, hp, rfl⟩ := List.mem_map.mp hw
    exact bT_sp (h.Bd hp)
def Sml (o : List Int) : Prop := ∀ x ∈ o, 0 ≤ x ∧ x < 100
theorem oT_split {o : List Int} (h : Sml o) (hne : o ≠ []) : Txt.split (oT o) " " = o.map nT := by
  unfold oT
  rw [sp_cps]
  refine split_join (fun z => hne (List.map_eq_nil_iff.mp z)) fun w hw => ?_
  obtain ⟨x, hx, rfl⟩ := List.mem_map.mp hw
  exact (nT_ok (h x hx).1 (h x hx).2).s
theorem oT_ne {o : List Int} (h : Sml o) (hne : o ≠ []) : oT o ≠ "" := fun z => by
  have e := oT_split h hne
  rw [z] at e
  have e2 : Txt.split ("" : Str) (" " : Str) = [("" : Str)] := by decide +kernel
  rw [e2] at e
  cases o with
  | nil => exact hne rfl
  | cons x r =>
    have e3 := (List.cons.inj e).1
    have := (nT_ok (h x List.mem_cons_self).1 (h x List.mem_cons_self).2).ne
    rw [← e3] at this
    exact this (by decide +kernel)
theorem part_any {z y a s b : Str} (h : Txt.partition z y = (a, s, b)) : (s = Str.empty ∧ b = Str.empty ∧ a = z) ∨ (s = y ∧ z = a ++ y ++ b) := by
  have g := StrLaws.glued_between_self z y 1
  have l := StrLaws.occ_length_le z y 0 z.length 1
  unfold Txt.partition at h
  cases e : occurrences z y 0 z.length 1 with
  | nil =>
    rw [e] at h
    injection h with h1 h2
    injection h2 with h2 h3
    exact .inl ⟨h2.symm, h3.symm, h1.symm⟩
  | cons i r =>
    rw [e] at h g l
    cases r with
    | cons j r => simp at l
    | nil =>
      injection h with h1 h2
      injection h2 with h2 h3
      refine .inr ⟨h2.symm, ?_⟩
      rw [← h1, ← h3]
      refine (Eq.trans ?_ g).symm
      rfl
theorem bT_ne {p : Int × Int} (h : Bd p) : bT p ≠ "" := fun e => by
  have a := h.a; have b := h.b; have c := h.c
  have pp := bT_part h
  rw [e] at pp
  have e2 : Txt.partition ("" : Str) ("-" : Str) = (("" : Str), Str.empty, Str.empty) := by decide +kernel
  rw [e2] at pp
  injection pp with p1 _
  exact (nT_ok (i := p.1) (by omega) (by omega)).ne (by rw [← p1]; decide +kernel)
theorem bT_no45 {p : Int × Int} (h : Bd p) (e : p.1 = p.2) : 45 ∉ (bT p).cps.toList := by
  have a := h.a; have b := h.b; have c := h.c
  unfold bT; rw [if_pos e]; exact (nT_ok (by omega) (by omega)).d
theorem bT_at45 {p : Int × Int} (e : ¬ p.1 = p.2) : (bT p).cps.toList = (nT p.1).cps.toList ++ 45 :: (nT p.2).cps.toList := by
  unfold bT; rw [if_neg e, cat_cps, cat_cps, da_cps]; simp
theorem cut_uni {α : Type} {c : α} : ∀ {a b a' b' : List α}, c ∉ a → c ∉ a' → a ++ c :: b = a' ++ c :: b' → a = a' ∧ b = b'
  | [], b, [], b', _, _, h => ⟨rfl, (List.cons.inj h).2⟩
  | [], b, x :: a', b', _, h2, h => absurd (List.cons.inj h).1 (fun e => h2 (by rw [e]; exact List.mem_cons_self))
  | x :: a, b, [], b', h1, _, h => absurd (List.cons.inj h).1 (fun e => h1 (by rw [← e]; exact List.mem_cons_self))
  | x :: a, b, y :: a', b', h1, h2, h => by
    obtain ⟨e1, e2⟩ := List.cons.inj h
    obtain ⟨r1, r2⟩ := cut_uni (fun z => h1 (List.mem_cons_of_mem _ z)) (fun z => h2 (List.mem_cons_of_mem _ z)) e2
    exact ⟨by rw [e1, r1], r2⟩
theorem split_len {z y : Str} : (Txt.split z y).length ≤ z.length + 2 := by
  unfold Txt.split
  split
  · show 1 ≤ _; omega
  · split
    · show 1 ≤ _; omega
    · rw [length_partsBetween]
      have := StrLaws.occ_length_le z y 0 z.length (z.length + 1)
      omega
theorem join_split (z : Str) : Txt.join " " (Txt.split z " ") = z := by
  have ej : Txt.join " " (Txt.split z " ") = Str.join " " (Txt.split z " ") := StrLaws.glued_eq_join _ _
  rw [ej]
  exact StrLaws.join_split z " "
theorem take_snocS {α : Type} {l : List α} {i : Nat} {x : α} (h : l[i]? = some x) : l.take (i + 1) = l.take i ++ [x] := by rw [List.take_add_one, h]; rfl
theorem split_ne (z y : Str) : Txt.split z y ≠ [] := by
  unfold Txt.split
  split
  · simp
  · split
    · simp
    · intro h
      have := length_partsBetween z (occurrences z y 0 z.length (z.length + 1)) y.length
      rw [h] at this
      simp at this
theorem le_sum {x : Nat} : ∀ {l : List Nat}, x ∈ l → x ≤ l.sum
  | y :: r, h => by
    rw [List.sum_cons]
    rcases List.mem_cons.mp h with rfl | h
    · omega
    · have := le_sum h; omega
theorem len0 {z : Str} (h : z.length = 0) : z = "" := str_ext (by
  have : z.cps.toList.length = 0 := by rw [Array.length_toList]; exact h
  rw [List.length_eq_zero_iff.mp this]
  decide +kernel)
theorem wsT_ne {bs : List (Int × Int)} (hne : bs ≠ []) (hb : ∀ p ∈ bs, Bd p) : wsT bs ≠ Str.empty := fun e => by
  have h := congrArg Str.length e
  have g : (wsT bs).length = _ := size_glued " " (bs.map bT)
  cases bs with
  | nil => exact hne rfl
  | cons p r =>
    have h2 : (bT p).length ≤ (((p :: r).map bT).map (·.length)).sum := le_sum (by simp)
    have h3 : (bT p).length ≠ 0 := fun z => bT_ne (hb p List.mem_cons_self) (len0 z)
    have h4 : Str.empty.length = 0 := rfl
    omega
theorem part_len (z y : Str) : (Txt.partition z y).2.2.length ≤ z.length := by
  rcases part_any (z := z) (y := y) (a := (Txt.partition z y).1) (s := (Txt.partition z y).2.1) (b := (Txt.partition z y).2.2) rfl with ⟨_, h, _⟩ | ⟨_, h⟩
  · rw [h]; exact Nat.zero_le _
  · have := congrArg Str.length h
    rw [cat_len, cat_len] at this
    omega
section
variable {P : Program} {w : World} {K : PySem.W.Frag} {mg : Str → Option Value} {base : Heap}
def isStrD : PyData → Bool
  | .str _ => true
  | _ => false
def sp_ct (T : Txt K mg) : Sp := fun vs H Q E => ∃ (v : V) (d : PyData), vs = [v] ∧ Rep H v d ∧ (isStrD d = true → Q .non H) ∧ (isStrD d = false → E (.ref T.e_NoText.C) none H)
theorem ok_check_text (T : Txt K mg) : FnOk P w K mg base (CXr P w) 1 T.check_text.a T.check_text.d ["text"] (sp_ct T) := by
  refine T.check_text.F.okR sc_check_text (fun vs H Q E h => ?_) (fun cdv A outer s H vs Q E hr h => ?_)
  · obtain ⟨v, d, rfl, _⟩ := h; rfl
  obtain ⟨v, d, rfl, hd, q, qE⟩ := h
  refine ⟨_, (pss_one (ps_if (pt_not (pt_val (pe_callB (call_isi kit_str) rfl T.n_isinstance bt_isinstance (pa_cons (pv 0) (pa_cons (pe_bltn (v := .ty "str") rfl T.n_str bt_str rfl) pa_nil))))) (pss_one (ps_raise T.e_NoText.m T.e_NoText.q PySem.F.excBase_ValueError hr.hd pe_str rfl)) pss_nil)), ?_⟩
  refine ⟨_, rfl, v, d, rfl, hd, _, rfl, ?_⟩
  cases hd with
  | str x => exact iteF (q rfl)
  | non => exact iteT ⟨by show 1 ≤ sizeLine; decide, qE rfl⟩
  | bl b => exact iteT ⟨by show 1 ≤ sizeLine; decide, qE rfl⟩
  | int i => exact iteT ⟨by show 1 ≤ sizeLine; decide, qE rfl⟩
  | lst e r => exact iteT ⟨by show 1 ≤ sizeLine; decide, qE rfl⟩
  | tup e r => exact iteT ⟨by show 1 ≤ sizeLine; decide, qE rfl⟩
def sp_rn (T : Txt K mg) : Sp := fun vs H Q E => ∃ (z : Str) (lo hi : Int), vs = [.str z, .int lo, .int hi] ∧ 0 ≤ lo ∧ lo ≤ hi + 1 ∧ hi ≤ 99 ∧ (∀ k, lo ≤ k → k ≤ hi → z = nT k → Q (.int k) H) ∧ ((∀ k, lo ≤ k → k ≤ hi → z ≠ nT k) → E (.ref T.e_NoText.C) none H)
theorem ok_read_number (T : Txt K mg) : FnOk P w K mg base (CXr P w) 1 T.read_number.a T.read_number.d ["text", "least", "most"] (sp_rn T) := by
  refine T.read_number.F.okR sc_read_number (fun vs H Q E h => ?_) (fun cdv A outer s H vs Q E hr h => ?_)
  · obtain ⟨z, lo, hi, rfl, _⟩ := h; rfl
  obtain ⟨z, lo, hi, rfl, l0, lh, h9, q, qE⟩ := h
  refine ⟨_, (pss_cons (ps_for PassesOwn.leaving rfl (pi_range2 rfl T.n_range (pa_cons (pv 1) (pa_cons (pe_op op_add (pv 2) pe_int) pa_nil))) (pg_name (i := 3) sc_read_number.nd rfl (by first | exact Or.inl rfl | exact Or.inr rfl)) (pss_one (ps_if (pt_cmpR op_eq (pv 0) (pe_callTy call_str_int rfl T.n_str bt_str (pa_cons (pv 3) pa_nil)) (nomark _)) (pss_one (ps_ret (pv 3))) pss_nil))) (pss_one (ps_raise T.e_NoText.m T.e_NoText.q PySem.F.excBase_ValueError hr.hd pe_str rfl))), ?_⟩
  refine ⟨_, rfl, _, rfl, _, _, rfl, rfl, lo, hi + 1, rfl, ⟨by omega, by omega, by omega, by omega⟩, for_range (lo := lo) (n := (hi + 1 - lo).toNat) (fun i σ H1 => ∃ y : Option V, σ = [some (.str z), some (.int lo), some (.int hi), y] ∧ H1 = H ∧ ∀ k, lo ≤ k → k < lo + (i : Int) → z ≠ nT k) ⟨none, rfl, rfl, fun k h1 h2 => absurd h2 (by omega)⟩ ?_ ?_⟩
  · rintro i σ H1 hi' ⟨y, rfl, rfl, hk⟩
    refine ⟨_, rfl, _, rfl, _, rfl, log_small (by omega) (by omega), rfl, _, rfl, ?_⟩
    by_cases c : z = nT (lo + (i : Int))
    · exact if_t (decide_eq_true (by rw [c]; rfl)) ⟨_, rfl, q _ (by omega) (by omega) c⟩
    · refine if_f (decide_eq_false fun e => c (V.str.inj e)) ⟨_, rfl, rfl, fun k h1 h2 => ?_⟩
      by_cases d : k = lo + (i : Int)
      · rw [d]; exact c
      · exact hk k h1 (by omega)
  · rintro σ H1 ⟨y, rfl, rfl, hk⟩
    exact ⟨by show 1 ≤ sizeLine; decide, qE fun k h1 h2 => hk k h1 (by omega)⟩
def sp_bt : Sp := fun vs H Q _ => ∃ (a b : Int), vs = [.int a, .int b] ∧ 0 ≤ a ∧ a < 100 ∧ 0 ≤ b ∧ b < 100 ∧ Q (.str (bT (a, b))) H
theorem ok_bounds_text (T : Txt K mg) : FnOk P w K mg base (CXr P w) 1 T.bounds_text.a T.bounds_text.d ["least", "greatest"] sp_bt := by
  refine T.bounds_text.F.okN sc_bounds_text (fun vs H Q E h => ?_) (fun cdv A outer s H vs Q E hr h => ?_)
  · obtain ⟨a, b, rfl, _⟩ := h; rfl
  obtain ⟨a, b, rfl, a0, a1, b0, b1, q⟩ := h
  refine ⟨_, (pss_cons (ps_if (pt_cmpR op_eq (pv 0) (pv 1) (nomark _)) (pss_one (ps_ret (pe_callTy call_str_int rfl T.n_str bt_str (pa_cons (pv 0) pa_nil)))) pss_nil) (pss_one (ps_ret (pe_f2 (pv 0) (pv 1))))), ?_⟩
  refine ⟨_, rfl, _, rfl, rfl, _, rfl, ?_⟩
  rw [dec_int]
  by_cases c : a = b
  · refine if_t (by rw [c]; simp) ⟨_, rfl, _, rfl, log_small a0 a1, ?_⟩
    have e : bT (a, b) = nT a := if_pos c
    rw [e] at q
    exact q
  · refine if_f (by simpa using c) ?_
    have la := (nT_ok a0 a1).l
    have lb := (nT_ok b0 b1).l
    have ld : ("-" : Str).length = 1 := by rw [da_cps]; rfl
    have s1 : 10 ≤ sizeLine := by decide
    refine ⟨_, rfl, nT a, wr_int a0 a1, by omega, _, rfl, nT b, wr_int b0 b1, by omega, ?_⟩
    have e : bT (a, b) = nT a ++ "-" ++ nT b := if_neg c
    rw [e] at q
    exact q
def sp_rb (T : Txt K mg) : Sp := fun vs H Q E => ∃ (z : Str), vs = [.str z] ∧ z.length ≤ 900 ∧ (∀ p, Bd p → bT p = z → ∀ (r : Addr) (H' : Hp), Same H H' → H' r = some (.tup [.int p.1, .int p.2]) → Q (.ref r) H') ∧ ((∀ p, Bd p → bT p ≠ z) → ∀ H', Same H H' → E (.ref T.e_NoText.C) none H')
set_option maxHeartbeats 1000000 in
theorem ok_read_bounds (T : Txt K mg) : FnOk P w K mg base (CXr P w) 2 T.read_bounds.a T.read_bounds.d ["text"] (sp_rb T) := by
  refine T.read_bounds.F.okR sc_read_bounds (fun vs H Q E h => ?_) (fun cdv A outer s H vs Q E hr h => ?_)
  · obtain ⟨z, rfl, _⟩ := h; rfl
  obtain ⟨z, rfl, hz, q, qE⟩ := h
  refine ⟨_, (pss_cons (ps_set (i := 1) sc_read_bounds.nd rfl (by first | exact Or.inl rfl | exact Or.inr rfl) (pe_bm PySem.F.plainAttrs_str PySem.F.slot_str_partition PySem.F.type_str_partition mt_part (pv 0) (pa_cons pe_str pa_nil))) (pss_cons (ps_set (i := 2) sc_read_bounds.nd rfl (by first | exact Or.inl rfl | exact Or.inr rfl) (pe_call (ok_read_number T) (hr.mono (by decide)) rfl T.read_number.m T.read_number.F.kp T.read_number.b .nil passR (pa_cons (pe_ix ix_tup (pv 1) pe_int (fun _ _ => rfl)) (pa_cons pe_int (pa_cons (pe_glob (v := .int 99) rfl T.c_MOST_LENGTH.choose_spec ⟨_, rfl⟩) pa_nil))))) (pss_cons (ps_if (pt_cmpR op_eq (pe_ix ix_tup (pv 1) pe_int (fun _ _ => rfl)) pe_str (nomark _)) (pss_one (ps_ret (pe_tup (pa_cons (pv 2) (pa_cons (pv 2) pa_nil))))) pss_nil) (pss_one (ps_ret (pe_tup (pa_cons (pv 2) (pa_cons (pe_call (ok_read_number T) (hr.mono (by decide)) rfl T.read_number.m T.read_number.F.kp T.read_number.b .nil passR (pa_cons (pe_ix ix_tup (pv 1) pe_int (fun _ _ => rfl)) (pa_cons (pe_op op_add (pv 2) pe_int) (pa_cons (pe_glob (v := .int 99) rfl T.c_MOST_LENGTH.choose_spec ⟨_, rfl⟩) pa_nil)))) pa_nil)))))))), ?_⟩
  have sl : 100000 ≤ sizeLine := by decide
  refine ⟨_, rfl, rfl, z, "-", rfl, rfl, by rw [da_cps]; rfl, by omega, fun r hr => ?_⟩
  by_cases c45 : 45 ∈ z.cps.toList
  · obtain ⟨a, b, e, ha⟩ := List.eq_append_cons_of_mem c45
    have hzz : z = (⟨a.toArray⟩ : Str) ++ "-" ++ ⟨b.toArray⟩ := str_ext (by rw [cat_cps, cat_cps, da_cps, e]; simp)
    have hp : Txt.partition z "-" = ((⟨a.toArray⟩ : Str), ("-" : Str), (⟨b.toArray⟩ : Str)) := by rw [hzz]; exact part_at (c := 45) (r := []) (by rw [da_cps]) (by simpa using ha)
    rw [hp]
    have no : ∀ p, Bd p → bT p = z → (⟨a.toArray⟩ : Str) = nT p.1 ∧ (⟨b.toArray⟩ : Str) = nT p.2 ∧ p.1 < p.2 := fun p hb h => by
      have pa := hb.a; have pb := hb.b; have pc := hb.c
      by_cases c : p.1 = p.2
      · exact absurd c45 (by rw [← h]; exact bT_no45 hb c)
      · have h2 := bT_at45 c
        rw [h, e] at h2
        obtain ⟨e1, e2⟩ := cut_uni ha (nT_ok (i := p.1) (by omega) (by omega)).d h2
        exact ⟨str_ext (by rw [← e1]), str_ext (by rw [← e2]), by omega⟩
    have k0 := same_new hr (.tup [.str ⟨a.toArray⟩, .str "-", .str ⟨b.toArray⟩])
    have e0 : upd H r (.tup [.str ⟨a.toArray⟩, .str "-", .str ⟨b.toArray⟩]) r = some (.tup [.str ⟨a.toArray⟩, .str "-", .str ⟨b.toArray⟩]) := upd_same
    generalize upd H r (.tup [.str ⟨a.toArray⟩, .str "-", .str ⟨b.toArray⟩]) = H1 at *
    refine ⟨_, rfl, r, _, _, _, rfl, rfl, SqT.of e0, rfl, _, 1, 99, rfl, by omega, by omega, by omega, fun k h1 h2 hk => ?_, fun hn => qE (fun p hb h => hn p.1 hb.a (by have := hb.b; have := hb.c; omega) (no p hb h).1) _ k0⟩
    refine ⟨_, rfl, r, _, _, _, rfl, rfl, SqT.of e0, rfl, rfl, _, rfl, ?_⟩
    refine if_f (by decide +kernel) ⟨_, rfl, _, rfl, r, _, _, _, rfl, rfl, SqT.of e0, rfl, _, rfl, _, _, rfl, rfl, _, k + 1, 99, rfl, by omega, by omega, by omega, fun m h3 h4 hm => ?_, fun hn => qE (fun p hb h => ?_) _ k0⟩
    · refine ⟨by show 2 ≤ sizeLine; decide, fun r2 hr2 => ?_⟩
      refine q (k, m) ⟨h1, by show k ≤ m; omega, h4⟩ ?_ r2 _ (k0.trans (same_new hr2 _)) upd_same
      rw [hzz, hk, hm]
      exact if_neg (show ¬ k = m by omega)
    · have x := no p hb h
      have hc := hb.c; have ha' := hb.a
      have ek : k = p.1 := nT_inj (by omega) (by omega) (hk.symm.trans x.1)
      exact hn p.2 (by omega) hc x.2.1
  · have hp : Txt.partition z "-" = (z, Str.empty, Str.empty) := by rw [da_cps]; exact part_no c45
    rw [hp]
    have no : ∀ p, Bd p → bT p = z → z = nT p.1 := fun p hb h => by
      by_cases c : p.1 = p.2
      · rw [← h]; exact if_pos c
      · exact absurd (by rw [← h, bT_at45 c]; simp) c45
    have k0 := same_new hr (.tup [.str z, .str Str.empty, .str Str.empty])
    have e0 : upd H r (.tup [.str z, .str Str.empty, .str Str.empty]) r = some (.tup [.str z, .str Str.empty, .str Str.empty]) := upd_same
    generalize upd H r (.tup [.str z, .str Str.empty, .str Str.empty]) = H1 at *
    refine ⟨_, rfl, r, _, _, _, rfl, rfl, SqT.of e0, rfl, _, 1, 99, rfl, by omega, by omega, by omega, fun k h1 h2 hk => ?_, fun hn => qE (fun p hb h => hn p.1 hb.a (by have := hb.b; have := hb.c; omega) (no p hb h)) _ k0⟩
    refine ⟨_, rfl, r, _, _, _, rfl, rfl, SqT.of e0, rfl, rfl, _, rfl, ?_⟩
    refine if_t (by decide +kernel) ⟨_, rfl, _, rfl, by show 2 ≤ sizeLine; decide, fun r2 hr2 => ?_⟩
    exact q (k, k) ⟨h1, Int.le_refl _, h2⟩ (by rw [hk]; exact if_pos rfl) r2 _ (k0.trans (same_new hr2 _)) upd_same
def sp_hmb : Sp := fun vs H Q _ => ∃ (v : V) (W : Wd), vs = [v] ∧ Rep H v (encW W) ∧ Q (.int W.b) H
theorem ok_how_many_benches (T : Txt K mg) : FnOk P w K mg base (CXr P w) 1 T.how_many_benches.a T.how_many_benches.d ["world"] sp_hmb := by
  refine T.how_many_benches.F.okN sc_how_many_benches (fun vs H Q E h => ?_) (fun cdv A outer s H vs Q E hr h => ?_)
  · obtain ⟨v, W, rfl, _⟩ := h; rfl
  obtain ⟨v, W, rfl, hW, q⟩ := h
  refine ⟨_, (pss_one (ps_ret (pe_ix ix_tup (pv 0) pe_int (fun _ _ => rfl)))), ?_⟩
  obtain ⟨a, p, vs, A⟩ := atW hW
  obtain rfl := A.v
  exact ⟨_, rfl, a, _, _, _, rfl, rfl, SqT.of A.a, rfl, q⟩
def sp_wt : Sp := fun vs H Q _ => ∃ (v : V) (W : Wd), vs = [v] ∧ Rep H v (encW W) ∧ W.Ok ∧ ∀ H', Same H H' → Q (.str (wT W)) H'
set_option maxHeartbeats 1000000 in
theorem ok_world_text (T : Txt K mg) : FnOk P w K mg base (CXr P w) 6 T.world_text.a T.world_text.d ["world"] sp_wt := by
  refine T.world_text.F.okN sc_world_text (fun vs H Q E h => ?_) (fun cdv A outer s H vs Q E hr h => ?_)
  · obtain ⟨v, W, rfl, _⟩ := h; rfl
  obtain ⟨v, W, rfl, hW, hok, q⟩ := h
  refine ⟨_, (pss_cons (ps_expr (pe_call (ok_check_world T) (hr.mono (by decide)) rfl T.check_world.m T.check_world.F.kp T.check_world.b .nil passN (pa_cons (pv 0) pa_nil))) (pss_cons (ps_set (i := 1) sc_world_text.nd rfl (by first | exact Or.inl rfl | exact Or.inr rfl) (pe_call (ok_how_many_benches T) (hr.mono (by decide)) rfl T.how_many_benches.m T.how_many_benches.F.kp T.how_many_benches.b .nil passN (pa_cons (pv 0) pa_nil))) (pss_cons (ps_set (i := 2) sc_world_text.nd rfl (by first | exact Or.inl rfl | exact Or.inr rfl) (pe_bm PySem.F.plainAttrs_str PySem.F.slot_str_join PySem.F.type_str_join mt_join pe_str (pa_cons (pe_comp (NB := ["least", "greatest"]) (js := [none, none]) rfl (blkOk_of rfl (by decide +kernel) rfl (by decide +kernel) (by decide +kernel) (by with_unfolding_all rfl) (by with_unfolding_all rfl) (by with_unfolding_all rfl) (by with_unfolding_all rfl)) (pi_tup (pe_ix ix_tup (pv 0) pe_int (fun _ _ => rfl))) (fun _ _ _ _ => (b_pg_tup K (n := 2) rfl (pgs_cons (pg_name (i := 0) (show (["least", "greatest"] : List Str).Nodup by decide +kernel) rfl (by first | exact Or.inl rfl | exact Or.inr rfl)) (pgs_cons (pg_name (i := 1) (show (["least", "greatest"] : List Str).Nodup by decide +kernel) rfl (by first | exact Or.inl rfl | exact Or.inr rfl)) pgs_nil)))) (fun _ _ _ _ => pf_nil) (fun _ _ _ _ => (pe_call (ok_bounds_text T) (hr.mono (by decide)) rfl T.bounds_text.m T.bounds_text.F.kp T.bounds_text.b .nil passN (pa_cons (pv 0) (pa_cons (pv 1) pa_nil))))) pa_nil))) (pss_one (ps_ret (pe_f2 (pv 1) (pv 2))))))), ?_⟩
  have b1 := hok.b1; have b4 := hok.b4; have l10 := hok.l10
  refine ⟨_, rfl, v, encW W, rfl, hW, fun _ H1 g1 => ?_, fun z => by rw [isW_enc hok] at z; cases z⟩
  have hW1 := hW.mono g1
  refine ⟨_, rfl, v, W, rfl, hW1, ?_⟩
  obtain ⟨ca, cp, cvs, AW⟩ := atW hW1
  obtain rfl := AW.v
  refine ⟨rfl, _, rfl, ca, _, _, _, rfl, rfl, SqT.of AW.a, rfl, cp, rfl, ⟨_, SqT.of AW.p⟩, fun D hD => ?_⟩
  refine comp_tupR (K := K) (a := cp) (xs := cvs) (fun i ys H2 => Same H1 H2 ∧ H2 D = some (.lst ys) ∧ ys = ((W.bs.take i).map bT).map V.str) ⟨same_new hD _, upd_same, rfl⟩ (fun i ys H2 _ hP => SqT.of (hP.1 _ _ AW.p)) (fun i ys y H2 hy hP => ?_) (fun ys H2 hP => ?_)
  · obtain ⟨g, hD2, rfl⟩ := hP
    have hi : i < W.bs.length := by rw [← AW.len]; exact (List.getElem?_eq_some_iff.mp hy).1
    obtain ⟨q', hq', hqt⟩ := AW.it i _ (List.getElem?_eq_getElem hi)
    rw [hy] at hq'
    obtain rfl := Option.some.inj hq'
    have bd := hok.Bd (List.getElem_mem hi)
    have et : W.bs.take (i + 1) = W.bs.take i ++ [W.bs[i]] := by rw [List.take_add_one, List.getElem?_eq_getElem hi]; rfl
    rw [et]
    generalize W.bs[i] = pp at *
    have pa := bd.a; have pb := bd.b; have pc := bd.c
    refine ⟨q', _, rfl, SqT.of (g _ _ hqt), rfl, _, _, rfl, _, _, rfl, rfl, agree2, iteT ⟨_, rfl, _, rfl, pp.1, pp.2, rfl, by omega, by omega, by omega, by omega, hD2, ?_, g.write hD _, upd_same, ?_⟩⟩
    · rw [List.length_map, List.length_map, List.length_take]
      exact Nat.lt_of_lt_of_le (show _ < 100 by omega) (by decide)
    · rw [List.map_append, List.map_append]; rfl
  obtain ⟨g, hD2, rfl⟩ := hP
  rw [AW.len, List.take_length] at hD2
  have sl : 100 ≤ sizeLine := by decide
  have wl := wsT_len hok
  have nl := (nT_ok (i := W.b) (by omega) (by omega)).l
  have c : (": " : Str).length = 2 := by rw [← len_cps, co_cps]; rfl
  refine ⟨" ", D, W.bs.map bT, rfl, rfl, hD2, ?_, ?_⟩
  · have b := sum_len (B := 5) (W.bs.map bT) fun w hw => by
      obtain ⟨p, hp, rfl⟩ := List.mem_map.mp hw
      exact bT_len (hok.Bd hp)
    have l1 : (" " : Str).length = 1 := by rw [sp_cps]; rfl
    rw [l1]
    rw [List.length_map] at b ⊢
    omega
  refine ⟨_, rfl, nT W.b, wr_int (by omega) (by omega), by omega, _, rfl, wsT W.bs, rfl, by omega, ?_⟩
  exact q _ (g1.trans g)
theorem wd_rep {H : Hp} {p r : Addr} {us : List V} {W : Wd} (hp : H p = some (.tup [.int W.b, .ref r])) (hr : H r = some (.tup us)) (h : Reps H us (W.bs.map encB)) : Rep H (.ref p) (encW W) := .tup hp (.cons (.int _) (.cons (.tup hr h) .nil))
theorem im_Bs : ∀ bs : List (Int × Int), immut.all (bs.map encB) = true
  | [] => rfl
  | p :: l => by show (immut (encB p) && immut.all (l.map encB)) = true; rw [im_Bs l]; rfl
def sp_rw (T : Txt K mg) : Sp := fun vs H Q E => ∃ (t : V) (dt : PyData), vs = [t] ∧ Rep H t dt ∧ ((isStrD dt = false ∧ ∀ H', Same H H' → E (.ref T.e_NoText.C) none H') ∨
  ∃ z : Str, t = .str z ∧ z.length ≤ 900 ∧ (∀ W : Wd, W.Ok → wT W = z → ∀ (u : V) (H' : Hp), Same H H' → Rep H' u (encW W) → Q u H') ∧ ((∀ W : Wd, W.Ok → wT W ≠ z) → ∀ H', Same H H' → E (.ref T.e_NoText.C) none H'))
set_option maxHeartbeats 2000000 in
theorem ok_read_world (T : Txt K mg) : FnOk P w K mg base (CXr P w) 3 T.read_world.a T.read_world.d ["text"] (sp_rw T) := by
  refine T.read_world.F.okR sc_read_world (fun vs H Q E h => ?_) (fun cdv A outer s H vs Q E hr h => ?_)
  · obtain ⟨t, dt, rfl, _⟩ := h; rfl
  obtain ⟨t, dt, rfl, ht, h⟩ := h
  refine ⟨_, (pss_cons (ps_expr (pe_call (ok_check_text T) (hr.mono (by decide)) rfl T.check_text.m T.check_text.F.kp T.check_text.b .nil passR (pa_cons (pv 0) pa_nil))) (pss_cons (ps_set (i := 1) sc_read_world.nd rfl (by first | exact Or.inl rfl | exact Or.inr rfl) (pe_bm PySem.F.plainAttrs_str PySem.F.slot_str_partition PySem.F.type_str_partition mt_part (pv 0) (pa_cons pe_str pa_nil))) (pss_cons (ps_set (i := 2) sc_read_world.nd rfl (by first | exact Or.inl rfl | exact Or.inr rfl) (pe_call (ok_read_number T) (hr.mono (by decide)) rfl T.read_number.m T.read_number.F.kp T.read_number.b .nil passR (pa_cons (pe_ix ix_tup (pv 1) pe_int (fun _ _ => rfl)) (pa_cons pe_int (pa_cons (pe_glob (v := .int 4) rfl T.c_MOST_BENCHES.choose_spec ⟨_, rfl⟩) pa_nil))))) (pss_cons (ps_set (i := 3) sc_read_world.nd rfl (by first | exact Or.inl rfl | exact Or.inr rfl) (pe_bm PySem.F.plainAttrs_str PySem.F.slot_str_split PySem.F.type_str_split mt_split (pe_ix ix_tup (pv 1) pe_int (fun _ _ => rfl)) (pa_cons pe_str pa_nil))) (pss_cons (ps_if (pt_cmpR op_gt (pe_callB call_len_seq rfl T.n_len bt_len (pa_cons (pv 3) pa_nil)) (pe_glob (v := .int 10) rfl T.c_MOST_WORKS.choose_spec ⟨_, rfl⟩) (nomark _)) (pss_one (ps_raise T.e_NoText.m T.e_NoText.q PySem.F.excBase_ValueError hr.hd pe_str rfl)) pss_nil) (pss_one (ps_ret (pe_tup (pa_cons (pv 2) (pa_cons (pe_callTy call_tuple_of rfl T.n_tuple bt_tuple (pa_cons (pe_compX (NB := ["part"]) (js := [none]) leavesB rfl (blkOk_of rfl (by decide +kernel) rfl (by decide +kernel) (by decide +kernel) (by with_unfolding_all rfl) (by with_unfolding_all rfl) (by with_unfolding_all rfl) (by with_unfolding_all rfl)) (pi_list (pv 3)) (fun _ _ _ _ => (pg_name (i := 0) (show (["part"] : List Str).Nodup by decide +kernel) rfl (by first | exact Or.inl rfl | exact Or.inr rfl))) (fun _ _ _ _ => pf_nil) (fun _ _ _ _ => (pe_call (ok_read_bounds T) (hr.mono (by decide)) rfl T.read_bounds.m T.read_bounds.F.kp T.read_bounds.b .nil (passB rfl rfl) (pa_cons (pv 0) pa_nil)))) pa_nil)) pa_nil)))))))))), ?_⟩
  have sl : 100000 ≤ sizeLine := by decide
  refine ⟨_, rfl, t, dt, rfl, ht, fun hs => ?_, fun hs => ?_⟩
  case refine_2 =>
    rcases h with ⟨_, q⟩ | ⟨z, rfl, _⟩
    · exact q H (Same.refl H)
    · cases ht; cases hs
  rcases h with ⟨hf, _⟩ | ⟨z, rfl, hz, q, qE⟩
  · rw [hs] at hf; cases hf
  refine ⟨_, rfl, rfl, z, ": ", rfl, rfl, by rw [← len_cps, co_cps]; rfl, by omega, fun r hr => ?_⟩
  have pl := part_len z ": "
  have wpart : ∀ W : Wd, W.Ok → wT W = z → Txt.partition z ": " = (nT W.b, (": " : Str), wsT W.bs) := fun W hok h => by rw [← h]; exact wT_part hok
  have pany := part_any (z := z) (y := ": ") (a := (Txt.partition z ": ").1) (s := (Txt.partition z ": ").2.1) (b := (Txt.partition z ": ").2.2) rfl
  generalize Txt.partition z ": " = pt at *
  obtain ⟨a, s0, b⟩ := pt
  dsimp only at pl pany ⊢
  have k0 := same_new hr (.tup [.str a, .str s0, .str b])
  have e0 : upd H r (.tup [.str a, .str s0, .str b]) r = some (.tup [.str a, .str s0, .str b]) := upd_same
  generalize upd H r (.tup [.str a, .str s0, .str b]) = H1 at *
  refine ⟨_, rfl, r, _, _, _, rfl, rfl, SqT.of e0, rfl, a, 1, 4, rfl, by omega, by omega, by omega, fun k h1 h2 hk => ?_, fun hn => qE (fun W hok h => ?_) _ k0⟩
  case refine_2 =>
    have := wpart W hok h
    injection this with e1 _
    exact hn W.b hok.b1 hok.b4 e1
  refine ⟨_, rfl, r, _, _, _, rfl, rfl, SqT.of e0, rfl, rfl, b, " ", rfl, rfl, by rw [sp_cps]; rfl, by omega, fun l hl _ => ?_⟩
  have wl := split_len (z := b) (y := " ")
  have js := join_split b
  have wne := split_ne b " "
  have wsp : ∀ W : Wd, W.Ok → wT W = z → Txt.split b " " = W.bs.map bT := fun W hok h => by
    have := wpart W hok h
    injection this with _ e2
    injection e2 with _ e3
    rw [e3]; exact wT_split hok
  generalize Txt.split b " " = ws at *
  have k1 := same_new hl (.lst (ws.map V.str))
  have e1 : upd H1 l (.lst (ws.map V.str)) l = some (.lst (ws.map V.str)) := upd_same
  generalize upd H1 l (.lst (ws.map V.str)) = H2 at *
  have k01 := k0.trans k1
  refine ⟨_, rfl, l, _, rfl, .inl (SqL.of e1), _, _, rfl, rfl, _, rfl, ?_⟩
  rw [List.length_map]
  by_cases c10 : (ws.length : Int) > 10
  · refine if_t (decide_eq_true c10) ⟨by show 1 ≤ sizeLine; decide, qE (fun W hok h => ?_) _ k01⟩
    have := wsp W hok h
    have l10 := hok.l10
    rw [this, List.length_map] at c10
    omega
  refine if_f (decide_eq_false c10) ?_
  refine ⟨_, rfl, _, rfl, l, rfl, ⟨_, SqL.of e1⟩, fun D hD => ?_⟩
  refine comp_listR (K := K) (a := l) (xs := ws.map V.str) (fun i ys H3 => Same H2 H3 ∧ H3 D = some (.lst ys) ∧ ∃ bs : List (Int × Int), ws.take i = bs.map bT ∧ (∀ p ∈ bs, Bd p) ∧ Reps H3 ys (bs.map encB)) ⟨same_new hD _, upd_same, [], rfl, (fun p h => by cases h), .nil⟩ (fun i ys H3 _ hP => SqL.of (hP.1 _ _ e1)) (fun i ys y H3 hy hP => ?_) (fun ys H3 hP => ?_)
  · obtain ⟨g, hD3, bs, hbs, hbd, ry⟩ := hP
    rw [List.getElem?_map] at hy
    cases hw : ws[i]? with
    | none => rw [hw] at hy; cases hy
    | some w0 =>
    rw [hw] at hy
    obtain rfl := Option.some.inj hy
    have hi := (List.getElem?_eq_some_iff.mp hw).1
    have yl := ry.length
    have bl := congrArg List.length hbs
    rw [List.length_map] at yl bl
    rw [List.length_take] at bl
    have w9 : w0.length ≤ 900 := by
      have h1 := List.mem_of_getElem? hw
      have hj : b.length = (ws.map (·.length)).sum + (ws.length - 1) * (" " : Str).length := by rw [← js]; exact size_glued _ _
      have h2 : w0.length ≤ (ws.map (·.length)).sum := le_sum (List.mem_map.mpr ⟨w0, h1, rfl⟩)
      omega
    refine ⟨agree0, iteT ⟨_, rfl, w0, rfl, w9, fun p hb hpz r2 H4 g4 hr2 => ?_, fun hn H4 g4 => qE (fun W hok h => ?_) _ (k01.trans (g.trans g4))⟩⟩
    · have hD4 := g4 _ _ hD3
      have tsd := TSame.lst hD4 (.lst (ys ++ [.ref r2]))
      refine ⟨hD4, by omega, (g.trans g4).write hD _, upd_same, bs ++ [p], ?_, ?_, ?_⟩
      · rw [take_snocS hw, List.map_append, hbs, ← hpz]; rfl
      · intro x hx
        rcases List.mem_append.mp hx with h | h
        · exact hbd x h
        · rw [List.mem_singleton.mp h]; exact hb
      · rw [List.map_append]
        exact ((ry.tmono g4.ts (im_Bs _)).tmono tsd (im_Bs _)).append (.cons (.tup (tsd _ _ hr2) (.cons (.int _) (.cons (.int _) .nil))) .nil)
    · have h3 := wsp W hok h
      rw [h3, List.getElem?_map] at hw
      cases hp : W.bs[i]? with
      | none => rw [hp] at hw; cases hw
      | some p =>
        rw [hp] at hw
        exact hn p (hok.Bd (List.mem_of_getElem? hp)) (Option.some.inj hw)
  obtain ⟨g, hD3, bs, hbs, hbd, ry⟩ := hP
  rw [List.length_map, List.take_length] at hbs
  have bl := congrArg List.length hbs
  rw [List.length_map] at bl
  refine ⟨D, _, rfl, .inl ⟨SqL.of hD3, fun r3 hr3 => ⟨by show 2 ≤ sizeLine; decide, fun p4 hp4 => ?_⟩⟩⟩
  have k3 := same_new hr3 (.tup ys)
  have k4 := same_new hp4 (.tup [.int k, .ref r3])
  have bne : bs ≠ [] := fun e => by
    rw [e] at hbs
    exact wne hbs
  have hok : (Wd.mk k bs).Ok := ⟨h1, h2, List.length_pos_iff.mpr bne, by show bs.length ≤ 10; omega, fun p hp => ⟨(hbd p hp).a, (hbd p hp).b, (hbd p hp).c⟩⟩
  have hb2 : b = wsT bs := by rw [← js, hbs]; rfl
  have hz2 : wT ⟨k, bs⟩ = z := by
    rcases pany with ⟨_, hbe, _⟩ | ⟨_, hzz⟩
    · exact absurd (hb2.symm.trans hbe) (wsT_ne bne hbd)
    · rw [hzz, hk, hb2]; rfl
  exact q ⟨k, bs⟩ hok hz2 (.ref p4) _ (k01.trans (g.trans (k3.trans k4))) (wd_rep (W := ⟨k, bs⟩) upd_same (k4 _ _ upd_same) ((ry.mono k3).mono k4))
end
end Be
set_option Elab.async false
set_option linter.all false
set_option maxRecDepth 100000
namespace L2
open PySem PySem.Spec PyProof.Rows

/-! ### lists of pairs as tables -/
section
variable {κ : Type} [DecidableEq κ]
def valV (kvs : List (κ × V)) (k : κ) : Option V := (kvs.find? fun kv => decide (kv.1 = k)).map (·.2)
theorem valV_pos {p : κ × V} {r : List (κ × V)} {k : κ} (e : p.1 = k) : valV (p :: r) k = some p.2 := by simp [valV, List.find?_cons, e]
theorem valV_neg {p : κ × V} {r : List (κ × V)} {k : κ} (e : ¬ p.1 = k) : valV (p :: r) k = valV r k := by simp [valV, List.find?_cons, e]
theorem RelO.getD {o : Option V} {u : Option Value} {d : V} {d' : Value} (r : RelO o u) (rd : RelV d d') : RelV (o.getD d) (u.getD d') := by
  cases o with
  | none => cases u with
    | none => exact rd
    | some _ => exact (show False from r).elim
  | some _ => cases u with
    | none => exact (show False from r).elim
    | some _ => exact r

/-- raw tables of the same keys -/
theorem KV.val {kvs : List (κ × V)} {vs : List (κ × Value)} (r : KV kvs vs) (k : κ) : RelO (valV kvs k) (valueAt vs k) := by
  unfold KV at r
  induction r with
  | nil => exact True.intro
  | @cons p q ps qs h t ih =>
    obtain ⟨h1, h2⟩ := h
    by_cases e : p.1 = k
    · have e' : q.1 = k := h1.symm.trans e
      have b : valueAt (q :: qs) k = some q.2 := by simp [valueAt, List.find?_cons, e']
      rw [valV_pos e, b]; exact h2
    · have e' : ¬ q.1 = k := fun z => e (h1.trans z)
      have b : valueAt (q :: qs) k = valueAt qs k := by simp [valueAt, List.find?_cons, e']
      rw [valV_neg e, b]; exact ih
end


/-! ### a tracked dict, its keys ints and texts or tuples of these -/
theorem kV_is {P : Program} {w : World} {k : Key} {u : Value} (r : RelV (kV k) u) : (mixKind P w).is k u = true := by
  cases k with
  | inl i => obtain ⟨t, e⟩ := (show ∃ t, u = Value.int i t from r); subst e; exact mixKind_int P w i t
  | inr x => obtain ⟨t, e⟩ := (show ∃ t, u = Value.str x t from r); subst e; exact mixKind_str P w x t
theorem items_are {P : Program} {w : World} : ∀ {ks : List Key} {us : List Value}, Vals (ks.map kV) us → ItemsAre (mixKind P w) ks us
  | [], _, r => by rw [List.map_nil] at r; cases r; exact .nil
  | k :: ks, _, r => by
    rw [List.map_cons] at r
    cases r with
    | cons h t => exact .cons (kV_is h) (items_are t)

/-- raw entries of a dict with tuple keys -/
abbrev KT (H : Hp) : List (List Key × V) → List (List Key × Addr × Value) → Prop := Paired fun p q => p.1 = q.1 ∧ H q.2.1 = some (.tup (p.1.map kV)) ∧ RelV p.2 q.2.2
theorem KT.val {H : Hp} {kvs : List (List Key × V)} {xs : List (List Key × Addr × Value)} (r : KT H kvs xs) (k : List Key) : RelO (valV kvs k) ((atKey xs k).map (·.2)) := by
  induction r with
  | nil => exact True.intro
  | @cons p q ps qs h t ih =>
    obtain ⟨h1, _, h2⟩ := h
    by_cases e : p.1 = k
    · have e' : q.1 = k := h1.symm.trans e
      have b : atKey (q :: qs) k = some q.2 := by simp [atKey, List.find?_cons, e']
      rw [valV_pos e, b]; exact h2
    · have e' : ¬ q.1 = k := fun z => e (h1.trans z)
      have b : atKey (q :: qs) k = atKey qs k := by simp [atKey, List.find?_cons, e']
      rw [valV_neg e, b]; exact ih
section
variable {P : Program} {w : World} {H : Hp} {h : Heap} {a : Addr}
theorem rd_of {u : HO} (ok : HOk P w H h) (e : Rd H a u) : ObjOk P w H h a u := e.ok ok
theorem dk_rd {kvs : List (Key × V)} (ok : HOk P w H h) (e : Rd H a (.dK kvs)) : kvs.length ≤ sizeLine ∧ (a == sysModules) = false ∧ ∃ vs, KV kvs vs ∧ h.DictOf (mixKind P w) a vs :=
  show ObjOk P w H h a (.dK kvs) from rd_of ok e
/-- a tracked tuple of ints and texts is a key -/
theorem key_of {ks : List Key} (ok : HOk P w H h) (e : H a = some (.tup (ks.map kV))) : (tupleKind (mixKind P w)).is h ks a := by
  obtain ⟨_, its, r, o, h1, h2, _, n, h3⟩ := (show ObjOk P w H h a (.tup (ks.map kV)) from ok a _ e)
  exact ⟨o, its.toArray, n, h1, h2, h3, by simpa using items_are r⟩
theorem dt_rd {kvs : List (List Key × V)} (ok : HOk P w H h) (e : Rd H a (.dT kvs)) : kvs.length ≤ sizeLine ∧ (a == sysModules) = false ∧
    ∃ xs, KT H kvs xs ∧ h.DictOfH (tupleKind (mixKind P w)) a xs := by
  obtain ⟨z, y, xs, r, o, es, ep, h1, h2, h3, h4, h5⟩ := (show ObjOk P w H h a (.dT kvs) from rd_of ok e)
  refine ⟨z, y, xs, r, o, es, ep, h1, h2, h3, h4, fun x hx => ?_, h5⟩
  have all : ∀ {l : List (List Key × V)} {m : List (List Key × Addr × Value)}, KT H l m → ∀ x ∈ m, (tupleKind (mixKind P w)).is h x.1 x.2.1 := by
    intro l m q
    induction q with
    | nil => intro x hx; exact nomatch hx
    | @cons p q ps qs hq t ih =>
      intro x hx
      rcases List.mem_cons.mp hx with e | hx
      · subst e
        exact key_of ok (by rw [← hq.1]; exact hq.2.1)
      · exact ih x hx
  exact all r x hx
end

/-- what the dict at a holds at the key y -/
def DGet (H : Hp) (a : Addr) (y : V) (r : Option V) : Prop :=
  (∃ kvs k, Rd H a (.dK kvs) ∧ y = kV k ∧ r = valV kvs k) ∨ ∃ kvs k b, Rd H a (.dT kvs) ∧ y = .ref b ∧ H b = some (.tup (k.map kV)) ∧ r = valV kvs k
section
variable {X : Cx} {pins : List (Addr × Obj)} {σ : St} {H : Hp} {s : Shared} {a : Addr} {y v : V} {u r : Value} {o : Option V} {A : Around} {E : Value → Shared → Prop}

theorem Inv.big (I : Inv X pins σ H s) : sysModules < s.heap.objs.size := by
  have h : mainGlobals < s.heap.objs.size := (I.mod.glob.keeps I.bk).lt
  exact Nat.lt_trans (by decide) h

/-- d[y], there -/
theorem d_getItem {Q : Value → Shared → Prop} (hu : A.units + 1 < cLine) (I : Inv X pins σ H s) (g : DGet H a y (some v)) (ry : RelV y u) (h : ∀ w' s', Inv X pins σ H s' → RelV v w' → Q w' s') :
    wpAny (model X.prog X.w) A (getItem (.ref a) u) Q E s := by
  rcases g with ⟨kvs, k, e, ey, l⟩ | ⟨kvs, k, b, e, ey, eb, l⟩
  · subst ey
    obtain ⟨z, hd, vs, rel, dd⟩ := dk_rd I.hok e
    obtain ⟨w', hw, rw'⟩ := RelO.some_of (v := v) (o := valueAt vs k) (by rw [l]; exact rel.val k)
    exact wpAny_getItem_of (kV_is ry) dd.mapOf hw (h w' _ (I.tok _) rw')
  · subst ey
    cases (show u = Value.ref b from ry)
    obtain ⟨z, hd, xs, rel, dd⟩ := dt_rd I.hok e
    obtain ⟨w', hw, rw'⟩ := RelO.some_of (v := v) (o := (atKey xs k).map (·.2)) (by rw [l]; exact rel.val k)
    obtain ⟨p, hp, hp2⟩ := Option.map_eq_some_iff.mp hw
    refine wpAny_getItem_heap (tupleKind_room_in1 hu) (key_of I.hok eb) dd hp ?_
    rw [hp2]
    exact h w' _ (I.tok _) rw'
end

section
variable {X : Cx} {pins : List (Addr × Obj)} {σ : St} {H : Hp} {s : Shared} {a : Addr} {kvs : List (Key × V)} {k : Key} {u : Value} {A : Around} {E : Value → Shared → Prop}
end


/-! ### readings and rules -/
/-- the element of a subscription, not a slice -/
def NoSl (i : Expr) : Prop := ∀ ov iv, subscripted i false ov iv = operate [ov, iv] (getItem ov iv)
theorem subD_of {prog : Program} {w : World} {A : Around} {E : Value → Shared → Prop} {s : Shared} {env : Env} {value slice : Expr} {pos : Pos} {T id : String} {Q : Value → Shared → Prop}
    (hl : typeLookup (.type T) "__getitem__" = pure (some (.builtin id))) (hs : NoSl slice)
    (h : wpAny (model prog w) A (eval value env) (fun o s₁ => wpAny (model prog w) A (eval slice env) (fun i s₂ => s₂.TypeIs o T ∧ wpAny (model prog w) A (getItem o i) Q E s₂) E s₁) E s) :
    wpAny (model prog w) A (eval (.Subscript value slice pos) env) Q E s := by
  refine Subscript_ (wpAny_mono h (fun o s₁ h₁ => wpAny_mono h₁ (fun i s₂ h₂ => ?_) fun _ _ x => x) fun _ _ x => x)
  obtain ⟨hT, h₂⟩ := h₂
  unfold subscriptTail
  refine wpAny_bind ?_
  rw [getitemInPython_of_ne hT.not_modules]
  refine wpAny_bind (wpAny_specialOf hT hl ?_)
  have fin : wpAny (model prog w) A (subscripted slice false o i) (fun r s₃ => wpAny (model prog w) A (letTemporaryGo value o r >>= fun _ => pure r) Q E s₃) E s₂ := by
    rw [hs o i]
    exact wpAny_operating (wpAny_mono h₂ (fun r s₃ h₃ => wpAny_bind (wpAny_letTemporaryGo (wpAny_pure h₃))) fun _ _ x => x)
  first
    | exact wpAny_pure (wpAny_bind fin)
    | exact wpAny_bind (wpAny_pure (wpAny_bind fin))
    | exact wpAny_bind fin

theorem dict_typeIs {X : Cx} {pins : List (Addr × Obj)} {σ : St} {H : Hp} {s : Shared} {a : Addr} {y : V} {o : Option V} (I : Inv X pins σ H s) (g : DGet H a y o) : s.TypeIs (.ref a) "dict" := by
  rcases g with ⟨kvs, k, e, _, _⟩ | ⟨kvs, k, b, e, _, _, _⟩
  · obtain ⟨_, _, vs, _, dd⟩ := dk_rd I.hok e
    exact dd.typeIs
  · obtain ⟨_, _, xs, _, dd⟩ := dt_rd I.hok e
    exact dd.typeIs
/-- d[y] -/
def tDGet (td ty : TE) : TE := fun σ H Q => td σ H fun x H1 => ty σ H1 fun y H2 => ∃ a v, x = .ref a ∧ DGet H2 a y (some v) ∧ Q v H2
section
variable {X : Cx} {o i e value : Expr} {pos pos' tpos : Pos} {td ty tv : TE}
theorem pe_dget (hu : X.A.units + 1 < cLine) (ho : PE X o td) (hi : PE X i ty) (hs : NoSl i) : PE X (.Subscript o i pos) (tDGet td ty) := by
  intro pins s σ H Q I h
  refine subD_of PySem.F.slot_dict_getitem.lookup hs (thn (ho pins s σ H _ I h) fun u s1 ⟨x, H1, I1, rx, q1⟩ => thn (hi pins s1 σ H1 _ I1 q1) fun iv s2 ⟨y, H2, I2, ry, a, v, ex, g, q2⟩ => ?_)
  subst ex
  obtain rfl : u = Value.ref a := rx
  exact ⟨dict_typeIs I2 g, d_getItem hu I2 g ry fun w' s3 I3 rw' => ⟨v, H2, I3, rw', q2⟩⟩
end


/-! ### displays -/
section
variable {X : Cx} {pos : Pos}
end

/-! ### methods -/
structure M2 (X : Cx) (o : Expr) (m : Str) (apos : Pos) (e f : Expr) (cpos : Pos) : Prop where
  base : attributeBase o m X.env (eval o X.env) = eval o X.env
  few : ((backTo cpos (starEach [e, f] X.env)).all (fun x => !x.1) && (backToKw cpos (keywordEach [] X.env)).all (fun x => x.1.isSome)
    && decide (([e, f] : List Expr).length + ([] : List Keyword).length + (if ([] : List Keyword).isEmpty then 0 else 1) < 30)) = true
  line : (apos.endLine == cpos.line) = true
  trees : backTo cpos (starEach [e, f] X.env) = [(false, eval e X.env), (false, eval f X.env)]

/-- a is a dict, whatever its keys -/
def IsD (H : Hp) (a : Addr) : Prop := (∃ kvs, Rd H a (.dK kvs)) ∨ ∃ kvs, Rd H a (.dT kvs)
theorem isD_at {X : Cx} {pins : List (Addr × Obj)} {σ : St} {H : Hp} {s : Shared} {a : Addr} (I : Inv X pins σ H s) (d : IsD H a) :
    s.TypeIs (.ref a) "dict" ∧ (∀ b, Value.ref a = .ref b → ∃ ob, s.heap.get? b = some ob ∧ ob.dict = none) ∧ (a == sysModules) = false := by
  rcases d with ⟨kvs, e⟩ | ⟨kvs, e⟩
  · obtain ⟨_, hd, vs, _, dd⟩ := dk_rd I.hok e
    refine ⟨dd.typeIs, fun b q => ?_, hd⟩
    cases q
    obtain ⟨ob, _, _, h1, h2, _⟩ := dd
    exact ⟨ob, h1, h2.2.1⟩
  · obtain ⟨_, hd, xs, _, dd⟩ := dt_rd I.hok e
    refine ⟨dd.typeIs, fun b q => ?_, hd⟩
    cases q
    obtain ⟨ob, _, _, h1, h2, _⟩ := dd
    exact ⟨ob, h1, h2.2.1⟩

section
variable {X : Cx} {pins : List (Addr × Obj)} {σ : St} {H : Hp} {s : Shared} {a : Addr} {y d : V} {u r : Value} {o : Option V} {A : Around} {E : Value → Shared → Prop}
/-- d.get(y, x) -/
theorem d_get2 {Q : Value → Shared → Prop} (hu : A.units + 1 < cLine) (I : Inv X pins σ H s) (g : DGet H a y o) (ry : RelV y u) (rd : RelV d r) (h : ∀ w' s', Inv X pins σ H s' → RelV (o.getD d) w' → Q w' s') :
    wpAny (model X.prog X.w) A (call (.builtin "dict.get") [.ref a, u, r]) Q E s := by
  rcases g with ⟨kvs, k, e, ey, l⟩ | ⟨kvs, k, b, e, ey, eb, l⟩
  · subst ey
    obtain ⟨z, hd, vs, rel, dd⟩ := dk_rd I.hok e
    refine call_meetsIn PySem.F.slot_dict_get dd.typeIs PySem.F.entry_dict_get (PySem.F.args_dict_get_3 _ _ _) (meets_dict_get_default (mixKind X.prog X.w) a (kV_is ry) hd r) ⟨_, dd.mapOf, h _ _ (I.tok _) ?_⟩
    rw [l]
    exact (rel.val k).getD rd
  · subst ey
    cases (show u = Value.ref b from ry)
    obtain ⟨z, hd, xs, rel, dd⟩ := dt_rd I.hok e
    refine call_meetsIn PySem.F.slot_dict_get dd.typeIs PySem.F.entry_dict_get (PySem.F.args_dict_get_3 _ _ _) (meetsH_dict_get_default (tupleKind (mixKind X.prog X.w)) a b hd r) ⟨tupleKind_room_in1 hu, k, xs, key_of I.hok eb, dd, h _ _ (I.tok _) ?_⟩
    rw [l]
    exact (rel.val k).getD rd
end

def tDGet2 (td ty tx : TE) : TE := fun σ H Q => td σ H fun x H1 => ∃ a, x = .ref a ∧ IsD H1 a ∧ ty σ H1 fun y H2 => tx σ H2 fun z H3 => ∃ o, DGet H3 a y o ∧ Q (o.getD z) H3
section
variable {X : Cx} {o e f : Expr} {apos cpos : Pos} {td ty tx : TE}
theorem pe_dget2 (hu : X.A.units + 1 < cLine) (ho : PE X o td) (he : PE X e ty) (hf : PE X f tx) (m : M2 X o "get" apos e f cpos) : PE X (.Call (.Attribute o "get" apos) [e, f] [] cpos) (tDGet2 td ty tx) := by
  intro pins s σ H Q I h
  refine wpAny_Call_method m.base m.few m.line PySem.F.plainAttrs_dict PySem.F.slot_dict_get PySem.F.type_dict_get (thn (ho pins s σ H _ I h) fun u s1 ⟨x, H1, I1, rx, a, ex, d, q1⟩ => ?_)
  subst ex
  obtain rfl : u = Value.ref a := rx
  obtain ⟨t1, t2, _⟩ := isD_at I1 d
  refine ⟨t1, t2, ?_⟩
  rw [m.trees]
  refine Calls.callWith_builtin rfl (Calls.evalArgs_plain (Calls.spliced_cons (thn (he pins s1 σ H1 _ I1 q1) fun iv s2 ⟨y, H2, I2, ry, q2⟩ =>
    Calls.spliced_cons (thn (hf pins s2 σ H2 _ I2 q2) fun fv s3 ⟨z, H3, I3, rz, ov, g, q3⟩ => Calls.spliced_nil ?_))))
  exact d_get2 hu I3 g ry rz fun w' s4 I4 rw' => ⟨_, H3, I4, rw', q3⟩
end

/-! ### dict(d): a copy -/
section
variable {X : Cx} {pins : List (Addr × Obj)} {σ : St} {H : Hp} {s : Shared} {a : Addr} {kvs : List (Key × V)} {A : Around} {E : Value → Shared → Prop}
end


section
variable {X : Cx} {pins : List (Addr × Obj)} {σ : St} {H : Hp} {s : Shared} {a : Addr} {y : V} {u : Value} {A : Around} {E : Value → Shared → Prop}
end
end L2
set_option Elab.async false
set_option linter.all false
set_option maxRecDepth 100000
/-! dict(a list of pairs) -/
namespace BE
open PySem PySem.Spec PyProof.Rows
theorem list_no_keys : typeLookup (.type "list") "keys" = pure none := am_miss_of_fast (by decide +kernel)
theorem bt_dict : bootBuiltins "dict" = some (.type "dict") := by decide +kernel
theorem entry_upd_loop : entryFor table "dict.update.loop" = some Builtin.«dict.update.loop» := entryFor_of_tree (by kernel_rfl)
theorem plain_upd_loop : plainId "dict.update.loop" = true := by decide +kernel
section
variable {prog : Program} {w : World} {A : Around} {E : Value → Shared → Prop} {s : Shared}
theorem keys_none {a : Addr} {o : Obj} {xs : Array Value} {k : Nat} {Q : Option Value → Shared → Prop}
    (hx : s.heap.get? a = some o) (hc : o.cls = .type "list") (hdat : o.data = .seq xs k) (hd : o.dict = none) (hA : A.handled = none)
    (h : ∀ h' tk, (∀ b ob, s.heap.get? b = some ob → h'.get? b = some ob) → Q none { s with heap := h', toks := tk }) :
    wpAny (model prog w) A (getAttr? (.ref a) "keys") Q E s := by
  obtain ⟨c, dct, dat, sl⟩ := o
  simp only at hc hdat hd
  subst hc hdat hd
  obtain ⟨hp, g, d, tk, os⟩ := s
  have hT : ∀ tk', (⟨hp, g, d, tk', os⟩ : Shared).TypeIs (.ref a) "list" := fun _ => ⟨_, hx, rfl⟩
  have f1 := sub_AttributeError
  have f3 := F.slot_list_getattribute.lookup
  have f4 := F.slot_list_getattribute.bind (.ref a)
  have f5 := am_list_getattr_none
  unfold getAttr? getAttrBy? getAttrBy
  repeat (any_goals (first | assumption | exact hT _ | ((with_reducible show wpAny _ _ (call (Value.builtin "list.__getattribute__") _ _) _ _ _); refine call_meets F.slot_list_getattribute (hT _) am_entry_list_getattribute (F.args_list_getattribute_2 _ _) (meets_getattribute_miss_list a xs k sl "keys" _ list_no_keys (by decide +kernel) (by decide +kernel)) ⟨hx, hA, fun h' tk' e hx' => ?_⟩) | wp_step))
  obtain ⟨t', u', he⟩ := hx'.there
  show wpAny _ _ (getattributeRaised _ _ _ _ _ _ _) _ _ _
  unfold getattributeRaised
  repeat (any_goals (first | assumption | wp_step))
  all_goals exact h _ _ hx'.keeps
end
section
variable {prog : Program} {w : World} {K : Type} [DecidableEq K] {knd : KeyKind prog w K} {A : Around} {R : Result → Shared → Prop}
theorem stored_next {K : Type} [DecidableEq K] {kvs : List (K × Value)} (nd : (kvs.map (·.1)).Nodup) {i : Nat} (hi : i < kvs.length) : stored (kvs.take i) kvs[i].1 kvs[i].2 = kvs.take (i + 1) := by
  unfold stored
  have hno : ((kvs.take i).any fun kv => decide (kv.1 = kvs[i].1)) = false := by
    rw [List.any_eq_false]
    intro kv hkv hc
    have hc := of_decide_eq_true hc
    obtain ⟨j, hj, e⟩ := List.mem_iff_getElem.mp hkv
    rw [List.length_take] at hj
    rw [List.getElem_take] at e
    have := (List.pairwise_iff_getElem.mp nd) j i (by rw [List.length_map]; omega) (by rw [List.length_map]; exact hi) (by omega)
    rw [List.getElem_map, List.getElem_map, e] at this
    exact this hc
  rw [if_neg (by rw [hno]; exact Bool.false_ne_true), List.take_add_one, List.getElem?_eq_getElem hi]
  rfl
theorem loop_pairs {I l d : Addr} {its : Array Value} (hh : A.in1.handled = none) (hlI : l ≠ I) (hd : d ∉ [I, l]) {kvs : List (K × Value)} (ts : Nat → Addr) (ke : Nat → Value)
    (hit : ∀ (i : Nat) (v : Value), its[i]? = some v → v = .ref (ts i)) (hk : ∀ (i : Nat) (kv : K × Value), kvs[i]? = some kv → knd.is kv.1 (ke i) = true) (hn : kvs.length = its.size) (hb : kvs.length ≤ 1000) (nd : (kvs.map (·.1)).Nodup) (htI : ∀ i, i < its.size → ts i ≠ I ∧ ts i ≠ d) :
    ∀ (k i : Nat) (s : Shared), its.size - i = k → i ≤ its.size → s.heap.IsListIter I l i → s.heap.IsList l its → s.heap.DictOf knd d (kvs.take i) →
      (∀ (i : Nat) (kv : K × Value), kvs[i]? = some kv → s.heap.IsTuple (ts i) #[ke i, kv.2]) →
      (∀ h' tk, (∀ b o, b ∉ [d, I] → s.heap.get? b = some o → h'.get? b = some o) → h'.DictOf knd d kvs → R (.ok (.ret .none)) { s with heap := h', toks := tk }) →
      codeAny (model prog w) A (.builtin "dict.update.loop" ⟨[.ref d, .ref I, .int i 0, .none], []⟩) R s := by
  have W := Walks.list (prog := prog) (w := w) (A := A.in1) hh I l hlI its
  have hdI : d ≠ I := fun e => hd (by simp [e])
  have hdl : d ≠ l := fun e => hd (by simp [e])
  intro k
  induction k with
  | zero =>
    intro i s hi hle st1 st2 hD hT hR
    have e : i = its.size := by omega
    subst e
    refine codeAny_builtin entry_upd_loop ?_
    rw [Around.under_plainId plain_upd_loop _]
    show wpAny _ A.in1 (pyNext (.ref I) >>= _) _ _ s
    refine wpAny_bind (W.done s _ _ ⟨st1, st2⟩ fun h' tk hm => ?_)
    show wpAny _ A.in1 (Builtin.Dict.addKeywords d [] >>= _) _ _ _
    refine wpAny_bind (wpAny_pure ?_)
    refine wpAny_pure (hR h' tk (fun b o hb e => hm b o (fun z => hb (by simp at z; simp [z])) e) ?_)
    rw [← hn, List.take_length] at hD
    obtain ⟨o, es, ep, ho, r⟩ := hD
    exact ⟨o, es, ep, hm d o (by simpa using hdI) ho, r⟩
  | succ k ih =>
    intro i s hi hle st1 st2 hD hT hR
    have hlt : i < its.size := by omega
    refine codeAny_builtin entry_upd_loop ?_
    rw [Around.under_plainId plain_upd_loop _]
    show wpAny _ A.in1 (pyNext (.ref I) >>= _) _ _ s
    refine wpAny_bind (W.item i s _ _ hlt ⟨st1, st2⟩ fun v h' tk hv st' hm => ?_)
    obtain rfl := hit i v hv
    have hi2 : i < kvs.length := by omega
    have hkv := List.getElem?_eq_getElem hi2
    have tup : h'.IsTuple (ts i) #[ke i, kvs[i].2] := by
      obtain ⟨o, ho, r⟩ := hT i _ hkv
      exact ⟨o, hm _ o (by simpa using (htI i hlt).1) ho, r⟩
    have hD' : h'.DictOf knd d (kvs.take i) := by
      obtain ⟨o, es, ep, ho, r⟩ := hD
      exact ⟨o, es, ep, hm d o (by simpa using hdI) ho, r⟩
    obtain ⟨ot, hot, hct, nt, hdt⟩ := tup
    refine wpAny_bind (wpAny_holding (wpAny_bind (wpAny_tryCatch ?_)))
    unfold Builtin.Dict.pairItems
    refine wpAny_bind (wpAny_typeOf (T := "tuple") ⟨ot, hot, hct⟩ ?_)
    rw [if_pos (by decide +kernel)]
    refine wpAny_bind (wpAny_seqItems hot hdt (wpAny_pure ?_))
    show wpAny _ _ (holding [ke i, kvs[i].2] (dictSet d (ke i) kvs[i].2)) _ _ _
    refine wpAny_holding (wpAny_dictSet_pairs (s := { s with heap := h', toks := tk }) (hk i _ hkv) hD' (fun h2 hD2 sb => ?_) (by rw [List.length_take]; exact Nat.le_trans (Nat.min_le_right _ _) (Nat.le_trans hb (by decide))))
    have hst : stored (kvs.take i) kvs[i].1 kvs[i].2 = kvs.take (i + 1) := stored_next nd hi2
    rw [hst] at hD2
    have keep : ∀ b o, b ∉ [d, I] → s.heap.get? b = some o → h2.get? b = some o := fun b o hb e => by
      simp only [List.mem_cons, List.not_mem_nil, or_false, not_or] at hb
      rw [sb.2 b hb.1]
      exact hm b o (by simpa using hb.2) e
    refine wpAny_pure ⟨plainId_quiet plain_upd_loop _, ?_⟩
    have e1 : ((i : Int) + 1) = ((i + 1 : Nat) : Int) := by omega
    show codeAny _ _ (.builtin "dict.update.loop" ⟨[.ref d, .ref I, .int ((i : Int) + 1) 0, .none], []⟩) _ _
    rw [e1]
    refine ih (i + 1) { s with heap := h2, toks := tk + 1 } (by omega) hlt (st'.1.at fun o e => by rw [sb.2 I (Ne.symm hdI)]; exact e) (st'.2.at fun o e => by rw [sb.2 l (Ne.symm hdl)]; exact e) hD2 (fun j kv hj => ?_) fun h3 tk3 hk3 hD3 => ?_
    · obtain ⟨o, ho, r⟩ := hT j kv hj
      have hj2 : j < its.size := by have := (List.getElem?_eq_some_iff.mp hj).1; omega
      have a := htI j hj2
      exact ⟨o, keep _ o (by simpa using ⟨a.2, a.1⟩) ho, r⟩
    · exact hR h3 tk3 (fun b o hb e => hk3 b o hb (keep b o hb e)) hD3
end
section
variable {prog : Program} {w : World} {K : Type} [DecidableEq K] {knd : KeyKind prog w K} {A : Around} {E : Value → Shared → Prop} {s : Shared}
theorem dict_of {l : Addr} {its : Array Value} {nl : Nat} (hh : A.handled = none) (hl : s.heap.get? l = some { cls := .type "list", data := .seq its nl }) {kvs : List (K × Value)} (ts : Nat → Addr) (ke : Nat → Value)
    (hit : ∀ (i : Nat) (v : Value), its[i]? = some v → v = .ref (ts i)) (hk : ∀ (i : Nat) (kv : K × Value), kvs[i]? = some kv → knd.is kv.1 (ke i) = true) (hn : kvs.length = its.size) (hb : kvs.length ≤ 1000) (nd : (kvs.map (·.1)).Nodup)
    (hT : ∀ (i : Nat) (kv : K × Value), kvs[i]? = some kv → s.heap.IsTuple (ts i) #[ke i, kv.2]) {Q : Value → Shared → Prop}
    (q : ∀ h' tk, (∀ b o, s.heap.get? b = some o → h'.get? b = some o) → h'.DictOf knd s.heap.objs.size kvs → Q (.ref s.heap.objs.size) { s with heap := h', toks := tk }) :
    wpAny (model prog w) A (call (.type "dict") [.ref l]) Q E s := by
  refine callType_codes (Q₁ := fun obj s₁ => obj = .ref s.heap.objs.size ∧ s₁ = { s with heap := s.heap.push { cls := .type "dict", data := .dict #[] } }) F.kt_called_dict (F.kt_typeCall_dict_1 _) F.entry_dict_init (kt_code_dict_new _ ⟨rfl, rfl⟩) ?_
  rintro obj s₁ ⟨rfl, rfl⟩
  have hnew : (s.heap.push { cls := .type "dict", data := .dict #[] }).DictOf knd s.heap.objs.size [] := Heap.DictOf.new s.heap
  have hl1 : (s.heap.push { cls := .type "dict", data := .dict #[] }).get? l = some { cls := .type "list", data := .seq its nl } := Heap.get?_push_of_some _ hl
  have ltl : l < s.heap.objs.size := Heap.lt_size hl
  refine ⟨hnew.typeIs, F.args_dict_init_2 _ _, ?_⟩
  unfold Builtin.«dict.__init__»
  refine wpAny_bind ?_
  unfold Builtin.Dict.selfAndRest
  refine wpAny_bind (wpAny_notOrdered_dict hnew.typeIs ?_)
  show wpAny _ _ (pure (s.heap.objs.size, [Value.ref l])) _ _ _
  refine wpAny_pure ?_
  show wpAny _ _ (Builtin.Dict.updateFrom "dict.__init__" s.heap.objs.size (.ref l) [] .none) _ _ _
  unfold Builtin.Dict.updateFrom
  refine wpAny_bind (wpAny_typeOf (T := "list") ⟨_, hl1, rfl⟩ ?_)
  rw [if_pos (by decide +kernel)]
  refine wpAny_bind (keys_none (s := { s with heap := s.heap.push { cls := .type "dict", data := .dict #[] } }) hl1 rfl rfl rfl (by simp [hh]) fun h1 tk1 k1 => ?_)
  rw [if_pos (show (none : Option Value).isNone = true from rfl)]
  refine wpAny_bind (wpAny_rule ?_)
  have hl2 : h1.get? l = some { cls := .type "list", data := .seq its nl } := k1 _ _ hl1
  refine wpAny_bind (wpAny_pyIter_list (s := { s with heap := h1, toks := tk1 }) (items := its) ⟨_, hl2, rfl, nl, rfl⟩ ?_)
  refine wpAny_pure ⟨plainId_quiet plain_upd_loop _, ?_⟩
  have old : ∀ b o, s.heap.get? b = some o → h1.get? b = some o := fun b o e => k1 _ _ (Heap.get?_push_of_some _ e)
  have lt1 : ∀ b o, h1.get? b = some o → b < h1.objs.size := fun b o e => Heap.lt_size e
  obtain ⟨od, esd, epd, hod, rd⟩ := hnew
  have ltd := lt1 _ _ (k1 _ _ hod)
  have tlt : ∀ i, i < its.size → ts i < s.heap.objs.size := fun i hi => by
    obtain ⟨o, ho, _⟩ := hT i _ (List.getElem?_eq_getElem (by omega : i < kvs.length))
    exact Heap.lt_size ho
  refine loop_pairs (knd := knd) (l := l) (its := its) (kvs := kvs) (by simp [hh]) (Nat.ne_of_lt (lt1 _ _ hl2)) ?_ ts ke hit hk hn hb nd (fun i hi => ⟨?_, Nat.ne_of_lt (tlt i hi)⟩) (its.size - 0) 0 _ rfl (Nat.zero_le _) ⟨_, Heap.get?_push_size _ rfl, rfl, rfl⟩ ⟨_, Heap.get?_push_of_some _ hl2, rfl, nl, rfl⟩ ?_ (fun i kv hkv => ?_) fun h' tk hk' hD => ?_
  · simp only [List.mem_cons, List.not_mem_nil, or_false, not_or]
    exact ⟨Nat.ne_of_lt ltd, Nat.ne_of_gt ltl⟩
  · have := tlt i hi
    exact Nat.ne_of_lt (Nat.lt_trans this ltd)
  · exact ⟨od, esd, epd, Heap.get?_push_of_some _ (k1 _ _ hod), rd⟩
  · obtain ⟨o, ho, r⟩ := hT i kv hkv
    exact ⟨o, Heap.get?_push_of_some _ (old _ _ ho), r⟩
  · refine ⟨rfl, q h' tk (fun b o e => hk' b o ?_ (Heap.get?_push_of_some _ (old _ _ e))) hD⟩
    have lb := Heap.lt_size e
    simp only [List.mem_cons, List.not_mem_nil, or_false, not_or]
    exact ⟨Nat.ne_of_lt lb, Nat.ne_of_lt (Nat.lt_trans lb ltd)⟩
end
end BE
namespace L2
open PySem PySem.Spec PyProof.Rows BE
section
variable {X : Cx}
theorem paired_of {α β : Type} {F : α → β → Prop} : ∀ {l₁ : List α} {l₂ : List β}, l₁.length = l₂.length → (∀ (i : Nat) a b, l₁[i]? = some a → l₂[i]? = some b → F a b) → Paired F l₁ l₂
  | [], [], _, _ => .nil
  | [], _ :: _, h, _ => by cases h
  | _ :: _, [], h, _ => by cases h
  | a :: l, b :: l', h, hF => .cons (hF 0 a b rfl rfl) (paired_of (Nat.succ.inj h) fun i a b ha hb => hF (i + 1) a b ha hb)
theorem vals_at : ∀ {xs : List V} {us : List Value}, Vals xs us → ∀ {i : Nat} {u : Value}, us[i]? = some u → ∃ x, xs[i]? = some x ∧ RelV x u
  | _, _, .nil, i, u, h => by simp at h
  | _, _, .cons h r, 0, u, hu => ⟨_, rfl, by obtain rfl := Option.some.inj hu; exact h⟩
  | _, _, .cons h r, i + 1, u, hu => vals_at r hu
/-- dict(a list of pairs), no key twice -/
def rDictL : List V → Hp → VK → Prop := fun xs H Q => ∃ (l : Addr) (ps : List Addr) (kvs : List (Key × V)), xs = [.ref l] ∧ H l = some (.lst (ps.map V.ref)) ∧ ps.length = kvs.length ∧ kvs.length ≤ 1000 ∧ (kvs.map (·.1)).Nodup ∧ (∀ (i : Nat) (p : Addr) (kv : Key × V), ps[i]? = some p → kvs[i]? = some kv → H p = some (.tup [kV kv.1, kv.2])) ∧ ∀ d, H d = none → Q (.ref d) (upd H d (.dK kvs))
theorem call_dictL (hc : X.calm = true) : CallR X (.type "dict") rDictL := by
  intro pins s σ H xs us Q I r h
  obtain ⟨l, ps, kvs, rfl, hl, hlen, hb, nd, hT, q⟩ := h
  obtain ⟨u, rfl, rfl⟩ := vals1 r
  obtain ⟨z, its, n, rv, hl2, e⟩ := I.lstM hl
  rw [List.length_map] at hl2
  have ex : ∀ i : Nat, ∃ f : Value × Value, ∀ (p : Addr) (kv : Key × V), ps[i]? = some p → kvs[i]? = some kv → s.heap.IsTuple p #[f.1, f.2] ∧ RelV (kV kv.1) f.1 ∧ RelV kv.2 f.2 := fun i => by
    rcases Nat.lt_or_ge i ps.length with hi | hi
    · have hi2 : i < kvs.length := by omega
      have h1 := List.getElem?_eq_getElem hi
      have h2 := List.getElem?_eq_getElem hi2
      obtain ⟨its, rv, p, hz⟩ := I.tuple (SqT.of (hT i _ _ h1 h2))
      obtain ⟨u1, u2, rfl, r1, r2⟩ := vals2 rv
      refine ⟨(u1, u2), fun p' kv' e1 e2 => ?_⟩
      rw [h1] at e1; rw [h2] at e2
      obtain rfl := Option.some.inj e1
      obtain rfl := Option.some.inj e2
      exact ⟨p, r1, r2⟩
    · refine ⟨(.none, .none), fun p' kv' e1 e2 => ?_⟩
      rw [List.getElem?_eq_none hi] at e1; cases e1
  have f1 := fun i => Classical.choose_spec (ex i)
  generalize hfe : (fun i => Classical.choose (ex i)) = f at *
  have f1 : ∀ (i : Nat) (p : Addr) (kv : Key × V), ps[i]? = some p → kvs[i]? = some kv → s.heap.IsTuple p #[(f i).1, (f i).2] ∧ RelV (kV kv.1) (f i).1 ∧ RelV kv.2 (f i).2 := fun i => by
    rw [← hfe]; exact f1 i
  have atV : ∀ i : Nat, (kvs.mapIdx fun i kv => (kv.1, (f i).2))[i]? = (kvs[i]?).map fun kv => (kv.1, (f i).2) := fun i => List.getElem?_mapIdx
  have psAt : ∀ (i : Nat), i < kvs.length → ps[i]? = some (ps.getD i 0) := fun i hi => by
    rw [List.getD_eq_getElem?_getD, List.getElem?_eq_getElem (by omega : i < ps.length)]; rfl
  have ek : (kvs.mapIdx fun i kv => (kv.1, (f i).2)).map (·.1) = kvs.map (·.1) := by
    apply List.ext_getElem?
    intro i
    rw [List.getElem?_map, atV, List.getElem?_map]
    cases kvs[i]? <;> rfl
  have vlen : (kvs.mapIdx fun i kv => (kv.1, (f i).2)).length = kvs.length := List.length_mapIdx
  have rel : KV kvs (kvs.mapIdx fun i kv => (kv.1, (f i).2)) := paired_of vlen.symm fun i a b ha hb => by
    rw [atV, ha] at hb
    obtain rfl := Option.some.inj hb
    have hi := (List.getElem?_eq_some_iff.mp ha).1
    exact ⟨rfl, (f1 i _ _ (psAt i hi) ha).2.2⟩
  refine BE.dict_of (knd := mixKind X.prog X.w) (kvs := kvs.mapIdx fun i kv => (kv.1, (f i).2)) (I.ok.hd hc) e (fun i => ps.getD i 0) (fun i => (f i).1) (fun i v hv => ?_) (fun i kv hkv => ?_) (by rw [vlen, List.size_toArray]; omega) (by rw [vlen]; exact hb) (by rw [ek]; exact nd) (fun i kv hkv => ?_) fun h' tk hk hD => ?_
  · have hv : its[i]? = some v := by simpa using hv
    obtain ⟨x, hx, rx⟩ := vals_at rv hv
    rw [List.getElem?_map] at hx
    cases hp : ps[i]? with
    | none => rw [hp] at hx; cases hx
    | some p =>
      rw [hp] at hx
      obtain rfl := Option.some.inj hx
      show v = .ref (ps.getD i 0)
      rw [List.getD_eq_getElem?_getD, hp]
      exact rx
  · rw [atV] at hkv
    cases hk : kvs[i]? with
    | none => rw [hk] at hkv; cases hkv
    | some kv' =>
      rw [hk] at hkv
      obtain rfl := Option.some.inj hkv
      have hi := (List.getElem?_eq_some_iff.mp hk).1
      exact kV_is (f1 i _ _ (psAt i hi) hk).2.1
  · rw [atV] at hkv
    cases hk : kvs[i]? with
    | none => rw [hk] at hkv; cases hkv
    | some kv' =>
      rw [hk] at hkv
      obtain rfl := Option.some.inj hkv
      have hi := (List.getElem?_eq_some_iff.mp hk).1
      exact (f1 i _ _ (psAt i hi) hk).1
  · refine ⟨.ref s.heap.objs.size, _, I.laid (a := s.heap.objs.size) (o := .dK kvs) (t' := tk) hk (Nat.le_refl _) ⟨Nat.le_trans hb (by decide), beq_eq_false_iff_ne.mpr (Ne.symm (Nat.ne_of_lt I.big)), _, rel, hD⟩, rfl, q _ (I.hok.fresh (Nat.le_refl _))⟩
end
end L2
set_option Elab.async false
set_option linter.all false
set_option maxRecDepth 100000
/-! range(a, b) as a value, list of it -/
namespace L2
open PySem PySem.Spec PyProof.Rows
section
variable {X : Cx}
end
end L2
/-! a <= b <= c <= d <= e, as a test -/
set_option Elab.async false
set_option linter.all false
namespace L2
open PySem PySem.SeqAt PySem.Spec PyProof.Rows
variable {X : Cx} {a b c d e : Expr} {ta tb tc td te : TE} {pos : Pos}
end L2
set_option Elab.async false
set_option linter.all false
set_option maxRecDepth 100000
namespace Be
open PySem L2 BE
/-- the number below n that a word is -/
def wkN (n : Nat) (z : Str) : Option Int := ((List.range n).find? fun (k : Nat) => decide (z = nT (k : Int))).map fun (k : Nat) => (k : Int)
theorem wkN_some {n : Nat} {z : Str} {k : Int} (h : wkN n z = some k) : 0 ≤ k ∧ k < (n : Int) ∧ z = nT k := by
  unfold wkN at h
  cases e : (List.range n).find? fun (k : Nat) => decide (z = nT (k : Int)) with
  | none => rw [e] at h; cases h
  | some j =>
    rw [e] at h
    obtain rfl := Option.some.inj h
    have h1 := List.mem_range.mp (List.mem_of_find?_eq_some e)
    have h2 := List.find?_some e
    exact ⟨by show (0 : Int) ≤ (j : Int); omega, by show (j : Int) < (n : Int); omega, of_decide_eq_true h2⟩
theorem wkN_none {n : Nat} {z : Str} (h : wkN n z = none) : ∀ k : Int, 0 ≤ k → k ≤ (n : Int) - 1 → z ≠ nT k := fun k h0 h1 e => by
  unfold wkN at h
  have h := Option.map_eq_none_iff.mp h
  have := List.find?_eq_none.mp h k.toNat (List.mem_range.mpr (by omega))
  rw [Int.toNat_of_nonneg h0] at this
  exact this (decide_eq_true e)
theorem cl_cps : (":" : Str) = ⟨#[58]⟩ := by decide +kernel
/-- the text of a world, as the words of a list -/
theorem wT_join {W : Wd} (h : W.bs ≠ []) : wT W = Txt.join " " ((nT W.b ++ ":") :: W.bs.map bT) := by
  have e1 : Txt.join " " ((nT W.b ++ ":") :: W.bs.map bT) = Str.join " " ((nT W.b ++ ":") :: W.bs.map bT) := StrLaws.glued_eq_join _ _
  have e2 : wsT W.bs = Str.join " " (W.bs.map bT) := StrLaws.glued_eq_join _ _
  rw [e1]
  unfold wT
  rw [e2]
  cases hb : W.bs with
  | nil => exact absurd hb h
  | cons p r =>
    show _ = (nT W.b ++ ":") ++ " " ++ Str.join " " (bT p :: r.map bT)
    rw [show (": " : Str) = ":" ++ " " by decide +kernel]
    refine str_ext ?_
    simp only [cat_cps, List.map_cons, List.append_assoc]
theorem wT_words {W : Wd} (h : W.Ok) : Txt.split (wT W) " " = (nT W.b ++ ":") :: W.bs.map bT := by
  have b1 := h.b1; have b4 := h.b4
  have hne : W.bs ≠ [] := fun e => by have := h.l1; rw [e] at this; simp at this
  rw [wT_join hne, sp_cps]
  refine split_join (by simp) fun w hw => ?_
  rcases List.mem_cons.mp hw with rfl | hw
  · rw [cat_cps, cl_cps]
    have := (nT_ok (i := W.b) (by omega) (by omega)).s
    simp [this]
  · obtain ⟨p, hp, rfl⟩ := List.mem_map.mp hw
    exact bT_sp (h.Bd hp)
theorem bT_split {p : Int × Int} (h : Bd p) : Txt.split (bT p) "-" = if p.1 = p.2 then [nT p.1] else [nT p.1, nT p.2] := by
  have a := h.a; have b := h.b; have c := h.c
  have d1 := (nT_ok (i := p.1) (by omega) (by omega)).d
  have d2 := (nT_ok (i := p.2) (by omega) (by omega)).d
  have e1 : ∀ ws : List Str, Txt.join ⟨#[45]⟩ ws = Str.join ⟨#[45]⟩ ws := fun ws => StrLaws.glued_eq_join _ _
  by_cases e : p.1 = p.2
  · rw [if_pos e]
    have : bT p = Txt.join ⟨#[45]⟩ [nT p.1] := by rw [e1]; unfold bT; rw [if_pos e]; rfl
    rw [this, da_cps]
    exact split_join (by simp) fun w hw => by rw [List.mem_singleton.mp hw]; exact d1
  · rw [if_neg e]
    have : bT p = Txt.join ⟨#[45]⟩ [nT p.1, nT p.2] := by rw [e1]; unfold bT; rw [if_neg e, da_cps]; rfl
    rw [this, da_cps]
    refine split_join (by simp) fun w hw => ?_
    rcases List.mem_cons.mp hw with rfl | hw
    · exact d1
    · rw [List.mem_singleton.mp hw]; exact d2
/-- the number that a part is, or 0 -/
def gN (z : Str) : Int := (wkN 100 z).getD 0
def numK : List (Key × V) := (List.range 99).map fun (i : Nat) => (.inr (nT (1 + (i : Int))), .int (1 + (i : Int)))
theorem gN_nT {k : Int} (h0 : 0 ≤ k) (h1 : k < 100) : gN (nT k) = k := by
  unfold gN
  cases e : wkN 100 (nT k) with
  | none => exact absurd rfl (wkN_none e k h0 (by omega))
  | some j =>
    have b := wkN_some e
    exact (nT_inj (i := k) (j := j) ⟨h0, h1⟩ ⟨b.1, by omega⟩ b.2.2).symm
theorem gN_bd (z : Str) : 0 ≤ gN z ∧ gN z ≤ 99 := by
  unfold gN
  cases e : wkN 100 z with
  | none => exact ⟨Int.le_refl _, by show (0 : Int) ≤ 99; omega⟩
  | some j => have b := wkN_some e; exact ⟨b.1, by show j ≤ 99; omega⟩
theorem num_at (z : Str) : (valV numK (.inr z)).getD (.int 0) = .int (gN z) := by
  unfold valV numK
  rw [List.find?_map]
  cases e : List.find? ((fun kv : Key × V => decide (kv.1 = .inr z)) ∘ fun (i : Nat) => (.inr (nT (1 + (i : Int))), .int (1 + (i : Int)))) (List.range 99) with
  | none =>
    show V.int 0 = _
    have h := List.find?_eq_none.mp e
    congr 1
    unfold gN
    cases e2 : wkN 100 z with
    | none => rfl
    | some k =>
      have b := wkN_some e2
      show 0 = k
      apply Classical.byContradiction
      intro hk
      have := h (k - 1).toNat (List.mem_range.mpr (by omega))
      simp only [Function.comp, decide_eq_true_eq] at this
      exact this (by rw [show 1 + (((k - 1).toNat : Nat) : Int) = k by omega, b.2.2])
  | some i =>
    have h := List.find?_some e
    have hm := List.mem_range.mp (List.mem_of_find?_eq_some e)
    simp only [Function.comp, decide_eq_true_eq] at h
    injection h with h
    show V.int (1 + (i : Int)) = _
    rw [← h, gN_nT (by omega) (by omega)]
theorem num_nd : (numK.map (·.1)).Nodup := by
  unfold numK
  rw [List.map_map]
  refine List.pairwise_map.mpr (List.Pairwise.imp_of_mem (fun {a b} ha hb h e => ?_) List.nodup_range)
  have ha := List.mem_range.mp ha
  have hb := List.mem_range.mp hb
  simp only [Function.comp] at e
  injection e with e
  have := nT_inj (by omega) (by omega) e
  exact h (by omega)
theorem wd_first {b : Int} (h1 : 1 ≤ b) (h4 : b ≤ 4) : nT b ++ ":" = "1:" ∨ nT b ++ ":" = "2:" ∨ nT b ++ ":" = "3:" ∨ nT b ++ ":" = "4:" := by
  have : b = 1 ∨ b = 2 ∨ b = 3 ∨ b = 4 := by omega
  rcases this with rfl | rfl | rfl | rfl
  · exact .inl (by decide +kernel)
  · exact .inr (.inl (by decide +kernel))
  · exact .inr (.inr (.inl (by decide +kernel)))
  · exact .inr (.inr (.inr (by decide +kernel)))
theorem first_wd {z : Str} (h : z = "1:" ∨ z = "2:" ∨ z = "3:" ∨ z = "4:") : ∃ k : Int, 1 ≤ k ∧ k ≤ 4 ∧ z = nT k ++ ":" ∧ (⟨(z.cps.toList.take (1 : Int).toNat).toArray⟩ : Str) = nT k := by
  rcases h with rfl | rfl | rfl | rfl
  · exact ⟨1, by omega, by omega, by decide +kernel, by decide +kernel⟩
  · exact ⟨2, by omega, by omega, by decide +kernel, by decide +kernel⟩
  · exact ⟨3, by omega, by omega, by decide +kernel, by decide +kernel⟩
  · exact ⟨4, by omega, by omega, by decide +kernel, by decide +kernel⟩
theorem first_inj {i j : Int} (hi : 0 ≤ i ∧ i < 100) (hj : 0 ≤ j ∧ j < 100) (h : nT i ++ ":" = nT j ++ ":") : i = j := by
  refine nT_inj hi hj (str_ext ?_)
  have e := congrArg (fun s : Str => s.cps.toList) h
  simp only [cat_cps] at e
  exact List.append_cancel_right e
theorem at0 {x : V} {xs : List V} : atI (x :: xs) 0 = some x := by
  unfold atI ixN
  rw [if_pos (by omega), if_pos (by rw [List.length_cons]; omega)]
  rfl
theorem inV0 {gs : List Int} : inV (.int 0) (gs.map V.int) = decide (0 ∈ gs) := by
  unfold inV
  rw [List.any_map]
  by_cases c : (0 : Int) ∈ gs
  · rw [decide_eq_true c, List.any_eq_true]
    exact ⟨0, c, rfl⟩
  · rw [decide_eq_false c, List.any_eq_false]
    intro x hx h
    have h : (x == (0 : Int)) = true := h
    exact c (by rw [← beq_iff_eq.mp h]; exact hx)
theorem inV4 {w0 : Str} : inV (.str w0) [.str "1:", .str "2:", .str "3:", .str "4:"] = decide (w0 = "1:" ∨ w0 = "2:" ∨ w0 = "3:" ∨ w0 = "4:") := by
  have e : inV (.str w0) [.str "1:", .str "2:", .str "3:", .str "4:"] = (("1:" == w0) || (("2:" == w0) || (("3:" == w0) || (("4:" == w0) || false)))) := rfl
  rw [e, Bool.or_false]
  apply Bool.eq_iff_iff.mpr
  simp only [Bool.or_eq_true, beq_iff_eq, decide_eq_true_eq]
  constructor
  · rintro (h | h | h | h)
    · exact .inl h.symm
    · exact .inr (.inl h.symm)
    · exact .inr (.inr (.inl h.symm))
    · exact .inr (.inr (.inr h.symm))
  · rintro (h | h | h | h)
    · exact .inl h.symm
    · exact .inr (.inl h.symm)
    · exact .inr (.inr (.inl h.symm))
    · exact .inr (.inr (.inr h.symm))
section
variable {P : Program} {w : World} {K : PySem.W.Frag} {mg : Str → Option Value} {base : Heap}
def sp_said : Sp := fun vs H Q _ => ∃ (v : V) (W : Wd), vs = [v] ∧ Rep H v (encW W) ∧ W.Ok ∧ ∀ H', Same H H' → Q (.str (wT W)) H'
set_option maxHeartbeats 1000000 in
theorem ok_law_said (T : Txt K mg) : FnOk P w K mg base (CXr P w) 1 T.law_said.a T.law_said.d ["_law_world_here"] sp_said := by
  refine T.law_said.F.okN sc_law_said (fun vs H Q E h => ?_) (fun cdv A outer s H vs Q E hr h => ?_)
  · obtain ⟨v, W, rfl, _⟩ := h; rfl
  obtain ⟨v, W, rfl, hW, hok, q⟩ := h
  refine ⟨_, (pss_cons (ps_compset (NB := ["_law_low", "_law_high"]) (js := [none, none]) (i := 1) sc_law_said.nd rfl (by first | exact Or.inl rfl | exact Or.inr rfl) rfl (blkOk_of rfl (by decide +kernel) rfl (by decide +kernel) (by decide +kernel) (by with_unfolding_all rfl) (by with_unfolding_all rfl) (by with_unfolding_all rfl) (by with_unfolding_all rfl)) (pi_tup (pe_ix ix_tup (pv 0) pe_int (fun _ _ => rfl))) (fun _ _ _ _ => (b_pg_tup K (n := 2) rfl (pgs_cons (pg_name (i := 0) (show (["_law_low", "_law_high"] : List Str).Nodup by decide +kernel) rfl (by first | exact Or.inl rfl | exact Or.inr rfl)) (pgs_cons (pg_name (i := 1) (show (["_law_low", "_law_high"] : List Str).Nodup by decide +kernel) rfl (by first | exact Or.inl rfl | exact Or.inr rfl)) pgs_nil)))) (fun _ _ _ _ => pf_nil) (fun _ _ _ _ => (pe_ifExp (pt_cmpR op_eq (pv 0) (pv 1) (nomark _)) (pe_callTy call_str_int rfl T.n_str bt_str (pa_cons (pv 0) pa_nil)) (pe_op op_add_str (pe_op op_add_str (pe_callTy call_str_int rfl T.n_str bt_str (pa_cons (pv 0) pa_nil)) pe_str) (pe_callTy call_str_int rfl T.n_str bt_str (pa_cons (pv 1) pa_nil)))))) (pss_one (ps_ret (pe_bm PySem.F.plainAttrs_str PySem.F.slot_str_join PySem.F.type_str_join mt_join pe_str (pa_cons (pe_op op_cat (pe_lst (pa_cons (pe_op op_add_str (pe_callTy call_str_int rfl T.n_str bt_str (pa_cons (pe_ix ix_tup (pv 0) pe_int (fun _ _ => rfl)) pa_nil)) pe_str) pa_nil)) (pv 1)) pa_nil))))), ?_⟩
  have b1 := hok.b1; have b4 := hok.b4; have l10 := hok.l10
  have sl : 100000 ≤ sizeLine := by decide
  have hne : W.bs ≠ [] := fun e => by have := hok.l1; rw [e] at this; simp at this
  obtain ⟨ca, cp, cvs, AW⟩ := atW hW
  obtain rfl := AW.v
  refine ⟨_, rfl, ca, _, _, _, rfl, rfl, SqT.of AW.a, rfl, cp, rfl, ⟨_, SqT.of AW.p⟩, fun D hD => ?_⟩
  refine comp_tupR (K := K) (a := cp) (xs := cvs) (fun i ys H2 => Same H H2 ∧ H2 D = some (.lst ys) ∧ ys = ((W.bs.take i).map bT).map V.str) ⟨same_new hD _, upd_same, rfl⟩ (fun i ys H2 _ hP => SqT.of (hP.1 _ _ AW.p)) (fun i ys y H2 hy hP => ?_) (fun ys H2 hP => ?_)
  · obtain ⟨g, hD2, rfl⟩ := hP
    have hi : i < W.bs.length := by rw [← AW.len]; exact (List.getElem?_eq_some_iff.mp hy).1
    obtain ⟨q', hq', hqt⟩ := AW.it i _ (List.getElem?_eq_getElem hi)
    rw [hy] at hq'
    obtain rfl := Option.some.inj hq'
    have bd := hok.Bd (List.getElem_mem hi)
    have et : W.bs.take (i + 1) = W.bs.take i ++ [W.bs[i]] := by rw [List.take_add_one, List.getElem?_eq_getElem hi]; rfl
    rw [et]
    generalize W.bs[i] = pp at *
    have pa := bd.a; have pb := bd.b; have pc := bd.c
    have la := (nT_ok (i := pp.1) (by omega) (by omega)).l
    have lb := (nT_ok (i := pp.2) (by omega) (by omega)).l
    have ld : ("-" : Str).length = 1 := by rw [da_cps]; rfl
    refine ⟨q', _, rfl, SqT.of (g _ _ hqt), rfl, _, _, rfl, _, _, rfl, rfl, agree2, iteT ⟨_, rfl, _, rfl, rfl, _, rfl, ?_⟩⟩
    rw [dec_int]
    have fin : bT pp = (if pp.1 = pp.2 then nT pp.1 else nT pp.1 ++ "-" ++ nT pp.2) := rfl
    by_cases c : pp.1 = pp.2
    · refine if_t (by simpa using c) ⟨_, rfl, _, rfl, log_small (by omega) (by omega), hD2, ?_, g.write hD _, upd_same, ?_⟩
      · rw [List.length_map, List.length_map, List.length_take]; omega
      · rw [List.map_append, List.map_append, List.map_cons, fin, if_pos c]; rfl
    · refine if_f (by simpa using c) ⟨_, rfl, _, rfl, log_small (by omega) (by omega), _, _, rfl, rfl, ?_, _, rfl, _, rfl, log_small (by omega) (by omega), _, _, rfl, rfl, ?_, hD2, ?_, g.write hD _, upd_same, ?_⟩
      · show (nT pp.1).length + ("-" : Str).length ≤ sizeLine; omega
      · show (nT pp.1 ++ "-").length + (nT pp.2).length ≤ sizeLine; rw [cat_len]; omega
      · rw [List.length_map, List.length_map, List.length_take]; omega
      · rw [List.map_append, List.map_append, List.map_cons, fin, if_neg c]; rfl
  obtain ⟨g, hD2, rfl⟩ := hP
  rw [AW.len, List.take_length] at hD2
  have nl := (nT_ok (i := W.b) (by omega) (by omega)).l
  have c1 : (":" : Str).length = 1 := by rw [cl_cps]; rfl
  refine ⟨rfl, _, rfl, ca, _, _, _, rfl, rfl, SqT.of (g _ _ AW.a), rfl, _, rfl, log_small (by omega) (by omega), _, _, rfl, rfl, by show (nT W.b).length + (":" : Str).length ≤ sizeLine; omega, by show 1 ≤ sizeLine; omega, fun l hl => ?_⟩
  have k1 := same_new hl (.lst [.str (nT W.b ++ ":")])
  have e1 : upd H2 l (.lst [.str (nT W.b ++ ":")]) l = some (.lst [.str (nT W.b ++ ":")]) := upd_same
  show _
  generalize hG : upd H2 l _ = H3
  have e1 : H3 l = some (.lst [.str (nT W.b ++ ":")]) := by rw [← hG]; exact upd_same
  have k1 : Same H2 H3 := hG ▸ same_new hl _
  clear hG
  refine ⟨_, rfl, l, D, _, _, rfl, rfl, e1, k1 _ _ hD2, ?_, fun l2 hl2 => ?_⟩
  · rw [List.length_map, List.length_map]; show 1 + _ ≤ sizeLine; omega
  refine ⟨" ", l2, (nT W.b ++ ":") :: W.bs.map bT, rfl, rfl, upd_same, ?_, ?_⟩
  · have b := sum_len (B := 5) ((nT W.b ++ ":") :: W.bs.map bT) fun w hw => by
      rcases List.mem_cons.mp hw with rfl | hw
      · rw [cat_len]; omega
      · obtain ⟨p, hp, rfl⟩ := List.mem_map.mp hw
        exact bT_len (hok.Bd hp)
    have l1 : (" " : Str).length = 1 := by rw [sp_cps]; rfl
    rw [l1]
    rw [List.length_cons, List.length_map] at b ⊢
    omega
  rw [← wT_join hne]
  exact q _ (g.trans (k1.trans (same_new hl2 _)))
def sp_due : Sp := fun vs H Q _ => ∃ z : Str, vs = [.str z] ∧ z.length ≤ 900 ∧ (∀ W : Wd, W.Ok → wT W = z → ∀ (u : V) (H' : Hp), Same H H' → Rep H' u (encW W) → Q u H') ∧ ((∀ W : Wd, W.Ok → wT W ≠ z) → ∀ H', Same H H' → Q .non H')
set_option maxHeartbeats 2000000 in
theorem ok_law_due (T : Txt K mg) : FnOk P w K mg base (CXr P w) 2 T.law_due.a T.law_due.d ["_law_text"] sp_due := by
  refine T.law_due.F.okN sc_law_due (fun vs H Q E h => ?_) (fun cdv A outer s H vs Q E hr h => ?_)
  · obtain ⟨z, rfl, _⟩ := h; rfl
  obtain ⟨z, rfl, hz, q, qN⟩ := h
  refine ⟨_, (pss_cons (ps_set (i := 1) sc_law_due.nd rfl (by first | exact Or.inl rfl | exact Or.inr rfl) (pe_callTy (call_dictL rfl) rfl T.n_dict bt_dict (pa_cons (pe_comp (NB := ["_law_number"]) (js := [none]) rfl (blkOk_of rfl (by decide +kernel) rfl (by decide +kernel) (by decide +kernel) (by with_unfolding_all rfl) (by with_unfolding_all rfl) (by with_unfolding_all rfl) (by with_unfolding_all rfl)) (pi_range2 rfl T.n_range (pa_cons pe_int (pa_cons pe_int pa_nil))) (fun _ _ _ _ => (pg_name (i := 0) (show (["_law_number"] : List Str).Nodup by decide +kernel) rfl (by first | exact Or.inl rfl | exact Or.inr rfl))) (fun _ _ _ _ => pf_nil) (fun _ _ _ _ => (pe_tup (pa_cons (pe_callTy call_str_int rfl T.n_str bt_str (pa_cons (pv 0) pa_nil)) (pa_cons (pv 0) pa_nil))))) pa_nil))) (pss_cons (ps_set (i := 2) sc_law_due.nd rfl (by first | exact Or.inl rfl | exact Or.inr rfl) (pe_bm PySem.F.plainAttrs_str PySem.F.slot_str_split PySem.F.type_str_split mt_split (pv 0) (pa_cons pe_str pa_nil))) (pss_cons (ps_set (i := 3) sc_law_due.nd rfl (by first | exact Or.inl rfl | exact Or.inr rfl) (pe_tup pa_nil)) (pss_cons (ps_for PassesOwn.never rfl (pi_list (pe_slice sl_list (pv 2) (po_some pe_int) po_none)) (pg_name (i := 4) sc_law_due.nd rfl (by first | exact Or.inl rfl | exact Or.inr rfl)) (pss_cons (ps_compset (NB := ["_law_part", "_law_numbers"]) (js := [none, some 1]) (i := 5) sc_law_due.nd rfl (by first | exact Or.inl rfl | exact Or.inr rfl) rfl (blkOk_of rfl (by decide +kernel) rfl (by decide +kernel) (by decide +kernel) (by with_unfolding_all rfl) (by with_unfolding_all rfl) (by with_unfolding_all rfl) (by with_unfolding_all rfl)) (pi_list (pe_bm PySem.F.plainAttrs_str PySem.F.slot_str_split PySem.F.type_str_split mt_split (pv 4) (pa_cons pe_str pa_nil))) (fun _ _ _ _ => (pg_name (i := 0) (show (["_law_part", "_law_numbers"] : List Str).Nodup by decide +kernel) rfl (by first | exact Or.inl rfl | exact Or.inr rfl))) (fun _ _ _ _ => pf_nil) (fun _ _ _ _ => (pe_dget2 (hu_of hr) (pv 1) (pv 0) pe_int ⟨rfl, rfl, rfl, rfl⟩))) (pss_cons (ps_if (PW.pt (pw_or (pt_cmpR op_gt (pe_callB call_len_seq rfl T.n_len bt_len (pa_cons (pv 5) pa_nil)) pe_int (nomark _)) (pw_or (pt_cmpR op_in_seq pe_int (pv 5) (by with_unfolding_all rfl)) (pw_or1 (pt_cmpR op_gt (pe_ix ix_list (pv 5) pe_int (fun _ _ => rfl)) (pe_ix ix_list (pv 5) (pe_un un_neg pe_int) (fun _ _ => rfl)) (nomark _)))))) (pss_one (ps_ret pe_non)) pss_nil) (pss_one (ps_set (i := 3) sc_law_due.nd rfl (by first | exact Or.inl rfl | exact Or.inr rfl) (pe_op op_catA (pv 3) (pe_tup (pa_cons (pe_tup (pa_cons (pe_ix ix_list (pv 5) pe_int (fun _ _ => rfl)) (pa_cons (pe_ix ix_list (pv 5) (pe_un un_neg pe_int) (fun _ _ => rfl)) pa_nil))) pa_nil)))))))) (pss_cons (ps_if (PW.pt (pw_or (pt_cmpR op_notIn_seq (pe_ix ix_list (pv 2) pe_int (fun _ _ => rfl)) (pe_tup (pa_cons pe_str (pa_cons pe_str (pa_cons pe_str (pa_cons pe_str pa_nil))))) (by with_unfolding_all rfl)) (pw_or1 (pt_not (pt_chain op_le op_le pe_int (pe_callB call_len_seq rfl T.n_len bt_len (pa_cons (pv 3) pa_nil)) pe_int))))) (pss_one (ps_ret pe_non)) pss_nil) (pss_cons (ps_set (i := 6) sc_law_due.nd rfl (by first | exact Or.inl rfl | exact Or.inr rfl) (pe_tup (pa_cons (pe_dget (hu_of hr) (pv 1) (pe_slice sl_strA (pe_ix ix_list (pv 2) pe_int (fun _ _ => rfl)) po_none (po_some pe_int)) (fun _ _ => rfl)) (pa_cons (pv 3) pa_nil)))) (pss_one (ps_ret (pe_ifExp (pt_cmpR op_eq (pe_call (ok_law_said T) (hr.mono (by decide)) rfl T.law_said.m T.law_said.F.kp T.law_said.b .nil passN (pa_cons (pv 6) pa_nil)) (pv 0) (nomark _)) (pv 6) pe_non))))))))), ?_⟩
  have sl : 100000 ≤ sizeLine := by decide
  refine ⟨1, 100, rfl, ⟨by omega, by omega, by omega, by omega⟩, fun D hD => ?_⟩
  refine comp_rangeR (lo := 1) (n := 99) (fun j ys H4 => Same H H4 ∧ H4 D = some (.lst ys) ∧ ∃ ps : List Addr, ys = ps.map V.ref ∧ ps.length = j ∧ ∀ (i : Nat) (p : Addr), ps[i]? = some p → H4 p = some (.tup [.str (nT (1 + (i : Int))), .int (1 + (i : Int))])) ⟨same_new hD _, upd_same, [], rfl, rfl, fun i p h => by simp at h⟩ (fun j ys H4 hj hP => ?_) (fun ys H4 hP => ?_)
  · obtain ⟨g4, hD4, ps, rfl, hlen, hps⟩ := hP
    refine ⟨agree0, iteT ⟨_, rfl, _, rfl, log_small (by omega) (by omega), _, rfl, by show 2 ≤ sizeLine; omega, fun p hp => ?_⟩⟩
    have g5 := same_new hp (.tup [.str (nT (1 + (j : Int))), .int (1 + (j : Int))])
    have e5 : upd H4 p (.tup [.str (nT (1 + (j : Int))), .int (1 + (j : Int))]) p = some (.tup [.str (nT (1 + (j : Int))), .int (1 + (j : Int))]) := upd_same
    show _ ∧ _
    generalize hG : upd H4 p _ = H5
    have e5 : H5 p = some (.tup [.str (nT (1 + (j : Int))), .int (1 + (j : Int))]) := by rw [← hG]; exact upd_same
    have g5 : Same H4 H5 := hG ▸ same_new hp _
    clear hG
    have hD5 := g5 _ _ hD4
    have tsd := TSame.lst hD5 (.lst (ps.map V.ref ++ [.ref p]))
    refine ⟨hD5, by rw [List.length_map]; omega, (g4.trans g5).write hD _, upd_same, ps ++ [p], by rw [List.map_append]; rfl, by rw [List.length_append, hlen]; rfl, fun i q hq => ?_⟩
    rcases Nat.lt_or_ge i ps.length with hi | hi
    · rw [List.getElem?_append_left hi] at hq
      exact tsd _ _ (g5 _ _ (hps i q hq))
    · rw [List.getElem?_append_right hi] at hq
      obtain ⟨h1, rfl⟩ := List.getElem?_eq_some_iff.mp hq
      have ei : i = j := by simp at h1; omega
      subst ei
      rw [List.getElem_singleton]
      exact tsd _ _ e5
  obtain ⟨g4, hD4, ps, rfl, hlen, hps⟩ := hP
  have nk : numK.length = 99 := by unfold numK; rw [List.length_map, List.length_range]
  refine ⟨D, ps, numK, rfl, hD4, by rw [hlen, nk], by omega, num_nd, fun i p kv hp hkv => ?_, fun d hd => ?_⟩
  · have hi : i < 99 := by rw [← nk]; exact (List.getElem?_eq_some_iff.mp hkv).1
    unfold numK at hkv
    rw [List.getElem?_map, List.getElem?_range hi] at hkv
    obtain rfl := Option.some.inj hkv
    exact hps i p hp
  have k5 := same_new hd (.dK numK)
  have ed : upd H4 d (.dK numK) d = some (.dK numK) := upd_same
  generalize upd H4 d (.dK numK) = H5 at *
  have k05 := g4.trans k5
  clear hD4 hps hlen hD
  -- its words
  have sp1 : (" " : Str).length = 1 := by rw [sp_cps]; rfl
  have wl := split_len (z := z) (y := " ")
  have wne := split_ne z " "
  have wlen : ∀ w ∈ Txt.split z " ", w.length ≤ 900 := fun w hw => by
    have hj : z.length = _ := (congrArg Str.length (join_split z).symm).trans (size_glued _ _)
    have h2 : w.length ≤ ((Txt.split z " ").map (·.length)).sum := le_sum (List.mem_map.mpr ⟨w, hw, rfl⟩)
    omega
  have wsp : ∀ W : Wd, W.Ok → wT W = z → Txt.split z " " = (nT W.b ++ ":") :: W.bs.map bT := fun W hok h => by rw [← h]; exact wT_words hok
  refine ⟨_, rfl, rfl, z, " ", rfl, rfl, by rw [sp1]; rfl, by omega, fun l hl _ => ?_⟩
  generalize Txt.split z " " = ws at *
  obtain ⟨w1, wr, rfl⟩ : ∃ w1 wr, ws = w1 :: wr := by
    cases ws with
    | nil => exact absurd rfl wne
    | cons a r => exact ⟨a, r, rfl⟩
  have k1 := same_new hl (.lst ((w1 :: wr).map V.str))
  have e1 : upd H5 l (.lst ((w1 :: wr).map V.str)) l = some (.lst ((w1 :: wr).map V.str)) := upd_same
  generalize upd H5 l (.lst ((w1 :: wr).map V.str)) = H6 at *
  have ed6 := k1 _ _ ed
  refine ⟨by show 0 ≤ sizeLine; omega, fun p0 hp0 => ?_⟩
  have k2 := same_new hp0 (.tup [])
  have e2 : upd H6 p0 (.tup []) p0 = some (.tup []) := upd_same
  generalize upd H6 p0 (.tup []) = H7 at *
  refine ⟨_, rfl, 1, rfl, l, _, rfl, SqL.of (k2 _ _ e1), fun l2 hl2 => ?_⟩
  have ec : cutV ((w1 :: wr).map V.str) (some 1) none = wr.map V.str := by
    unfold cutV
    show (((w1 :: wr).map V.str).drop (min 1 ((w1 :: wr).map V.str).length)).take (((w1 :: wr).map V.str).length - min 1 ((w1 :: wr).map V.str).length) = _
    rw [Nat.min_eq_left (by rw [List.map_cons, List.length_cons]; omega), List.map_cons, List.drop_succ_cons, List.drop_zero]
    exact List.take_of_length_le (by rw [List.length_cons]; omega)
  rw [ec]
  have k3 := same_new hl2 (.lst (wr.map V.str))
  have e3 : upd H7 l2 (.lst (wr.map V.str)) l2 = some (.lst (wr.map V.str)) := upd_same
  generalize upd H7 l2 (.lst (wr.map V.str)) = H8 at *
  have ed8 := k3 _ _ (k2 _ _ ed6)
  have e18 := k3 _ _ (k2 _ _ e1)
  have k08 := k05.trans (k1.trans (k2.trans k3))
  refine ⟨l2, rfl, ⟨_, SqL.of e3⟩, ?_⟩
  refine for_list (K := K) (a := l2) (xs := wr.map V.str) (fun i σ H9 => ∃ (p : Addr) (us : List V) (bs : List (Int × Int)) (y4 y5 : Option V), σ = [some (.str z), some (.ref d), some (.ref l), some (.ref p), y4, y5, none] ∧ Same H8 H9 ∧ H9 p = some (.tup us) ∧ Reps H9 us (bs.map encB) ∧ (∀ x ∈ bs, Bd x) ∧ bs.length = i ∧ ∀ W : Wd, W.Ok → wT W = z → bs = W.bs.take i) ⟨p0, [], [], none, none, rfl, Same.refl _, k3 _ _ e2, .nil, (fun x h => by cases h), rfl, fun W _ _ => rfl⟩ (fun i σ H9 _ hP => ?_) (fun i y σ H9 hy hP => ?_) (fun σ H9 hP => ?_)
  · obtain ⟨p, us, bs, y4, y5, rfl, g, _⟩ := hP
    exact SqL.of (g _ _ e3)
  · obtain ⟨p, us, bs, y4, y5, rfl, g, hp, ry, hbd, hbl, hW⟩ := hP
    rw [List.getElem?_map] at hy
    cases hw : wr[i]? with
    | none => rw [hw] at hy; cases hy
    | some w0 =>
    rw [hw] at hy
    obtain rfl := Option.some.inj hy
    have w9 := wlen w0 (List.mem_cons_of_mem _ (List.mem_of_getElem? hw))
    have hi := (List.getElem?_eq_some_iff.mp hw).1
    rw [List.length_cons] at wl
    have da1 : ("-" : Str).length = 1 := by rw [da_cps]; rfl
    -- what the parts of the word are
    have pne := split_ne w0 "-"
    have pl := split_len (z := w0) (y := "-")
    have wp : ∀ W : Wd, W.Ok → wT W = z → ∃ p, W.bs[i]? = some p ∧ Bd p ∧ w0 = bT p ∧ Txt.split w0 "-" = if p.1 = p.2 then [nT p.1] else [nT p.1, nT p.2] := fun W hok h => by
      have h3 := (List.cons.inj (wsp W hok h)).2
      rw [h3, List.getElem?_map] at hw
      cases hp : W.bs[i]? with
      | none => rw [hp] at hw; cases hw
      | some p =>
        rw [hp] at hw
        have hb := hok.Bd (List.mem_of_getElem? hp)
        have e := Option.some.inj hw
        exact ⟨p, rfl, hb, e.symm, by rw [← e]; exact bT_split hb⟩
    refine ⟨_, rfl, rfl, w0, "-", rfl, rfl, by rw [da1]; rfl, by omega, fun l3 hl3 _ => ?_⟩
    generalize Txt.split w0 "-" = pr at *
    have k4 := same_new hl3 (.lst (pr.map V.str))
    have e4 : upd H9 l3 (.lst (pr.map V.str)) l3 = some (.lst (pr.map V.str)) := upd_same
    generalize upd H9 l3 (.lst (pr.map V.str)) = HA at *
    have edA := k4 _ _ (g _ _ ed8)
    refine ⟨l3, rfl, ⟨_, SqL.of e4⟩, fun D2 hD2 => ?_⟩
    refine comp_listR (K := K) (a := l3) (xs := pr.map V.str) (fun j ys HB => Same HA HB ∧ HB D2 = some (.lst ys) ∧ ys = ((pr.take j).map gN).map V.int) ⟨same_new hD2 _, upd_same, rfl⟩ (fun j ys HB _ hP => SqL.of (hP.1 _ _ e4)) (fun j ys y HB hy hP => ?_) (fun ys HB hP => ?_)
    · obtain ⟨gB, hDB, rfl⟩ := hP
      rw [List.getElem?_map] at hy
      cases hpj : pr[j]? with
      | none => rw [hpj] at hy; cases hy
      | some t0 =>
      rw [hpj] at hy
      obtain rfl := Option.some.inj hy
      have hj := (List.getElem?_eq_some_iff.mp hpj).1
      have edB := gB _ _ edA
      refine ⟨agree0, iteT ⟨_, rfl, d, rfl, .inl ⟨numK, .inl edB⟩, _, rfl, valV numK (.inr t0), .inl ⟨numK, .inr t0, .inl edB, rfl, rfl⟩, ?_⟩⟩
      rw [num_at]
      refine ⟨hDB, ?_, gB.write hD2 _, upd_same, ?_⟩
      · rw [List.length_map, List.length_map, List.length_take]; omega
      · rw [take_snocS hpj, List.map_append, List.map_append]; rfl
    obtain ⟨gB, hDB, rfl⟩ := hP
    rw [List.length_map, List.take_length] at hDB
    have k4B := k4.trans gB
    have k0B := k08.trans (g.trans k4B)
    refine ⟨_, rfl, D2, _, rfl, .inl (SqL.of hDB), _, _, rfl, rfl, _, rfl, ?_⟩
    rw [List.length_map, List.length_map]
    by_cases c2 : (pr.length : Int) > 2
    · refine if_t (decide_eq_true c2) (iteT (qN (fun W hok h => ?_) _ k0B))
      obtain ⟨p, _, _, _, e⟩ := wp W hok h
      rw [e] at c2
      split at c2 <;> simp at c2
    refine if_f (decide_eq_false c2) ?_
    have fl : ((pr.map gN).map V.int).all flatV = true := by
      rw [List.all_eq_true]
      intro y hy
      obtain ⟨z, _, rfl⟩ := List.mem_map.mp hy
      rfl
    refine ⟨_, rfl, D2, _, rfl, .inl (SqL.of hDB), rfl, fl, _, rfl, ?_⟩
    rw [inV0]
    have gW : ∀ W : Wd, W.Ok → wT W = z → ∃ p, W.bs[i]? = some p ∧ Bd p ∧ pr.map gN = if p.1 = p.2 then [p.1] else [p.1, p.2] := fun W hok h => by
      obtain ⟨p, h1, hb, _, e⟩ := wp W hok h
      refine ⟨p, h1, hb, ?_⟩
      have pa := hb.a; have pb := hb.b; have pc := hb.c
      rw [e]
      split
      · rw [List.map_cons, gN_nT (by omega) (by omega)]; rfl
      · rw [List.map_cons, List.map_cons, gN_nT (by omega) (by omega), gN_nT (by omega) (by omega)]; rfl
    by_cases c0 : 0 ∈ pr.map gN
    · refine if_t (decide_eq_true c0) (iteT (qN (fun W hok h => ?_) _ k0B))
      obtain ⟨p, _, hb, e⟩ := gW W hok h
      have pa := hb.a; have pb := hb.b; have pc := hb.c
      rw [e] at c0
      split at c0 <;> simp at c0 <;> omega
    refine if_f (decide_eq_false c0) ?_
    have gb : ∀ x ∈ pr.map gN, 1 ≤ x ∧ x ≤ 99 := fun x hx => by
      obtain ⟨t0, _, rfl⟩ := List.mem_map.mp hx
      have b := gN_bd t0
      have : gN t0 ≠ 0 := fun e => c0 (by rw [← e]; exact hx)
      omega
    obtain ⟨x, y, hx0, hy0, hxm, hym, hor⟩ : ∃ x y : Int, atI ((pr.map gN).map V.int) 0 = some (.int x) ∧ atI ((pr.map gN).map V.int) (-1) = some (.int y) ∧ x ∈ pr.map gN ∧ y ∈ pr.map gN ∧ ((pr.map gN = [x] ∧ x = y) ∨ pr.map gN = [x, y]) := by
      cases pr with
      | nil => exact absurd rfl pne
      | cons t1 r =>
        cases r with
        | nil => exact ⟨gN t1, gN t1, rfl, rfl, by simp, by simp, .inl ⟨rfl, rfl⟩⟩
        | cons t2 r =>
          cases r with
          | nil => exact ⟨gN t1, gN t2, rfl, rfl, by simp, by simp, .inr rfl⟩
          | cons t3 r => exact absurd (by simp; omega) c2
    have bx := gb x hxm
    have by_ := gb y hym
    have gWx : ∀ W : Wd, W.Ok → wT W = z → W.bs[i]? = some (x, y) ∧ x ≤ y := fun W hok h => by
      obtain ⟨p, h1, hb, e⟩ := gW W hok h
      have pb := hb.b
      have : p = (x, y) := by
        obtain ⟨p1, p2⟩ := p
        dsimp only at e pb
        rcases hor with ⟨hr, hxy⟩ | hr
        · rw [hr] at e
          split at e
          · rename_i c
            obtain rfl := (List.cons.inj e).1
            rw [← c, hxy]
          · cases e
        · rw [hr] at e
          split at e
          · cases e
          · obtain ⟨e1, e2⟩ := List.cons.inj e
            rw [e1, (List.cons.inj e2).1]
      subst this
      exact ⟨h1, pb⟩
    refine ⟨_, rfl, D2, _, _, _, rfl, rfl, SqL.of hDB, hx0, _, rfl, _, rfl, D2, _, _, _, rfl, rfl, SqL.of hDB, hy0, _, _, rfl, rfl, _, rfl, ?_⟩
    by_cases c3 : x > y
    · refine if_t (decide_eq_true c3) (qN (fun W hok h => ?_) _ k0B)
      have := (gWx W hok h).2
      omega
    refine if_f (decide_eq_false c3) ?_
    refine ⟨_, rfl, _, rfl, D2, _, _, _, rfl, rfl, SqL.of hDB, hx0, _, rfl, _, rfl, D2, _, _, _, rfl, rfl, SqL.of hDB, hy0, by show 2 ≤ sizeLine; omega, fun p1 hp1 => ?_⟩
    have g1 := same_new hp1 (.tup [.int x, .int y])
    have f1 : upd HB p1 (.tup [.int x, .int y]) p1 = some (.tup [.int x, .int y]) := upd_same
    generalize upd HB p1 (.tup [.int x, .int y]) = HC at *
    refine ⟨by show 1 ≤ sizeLine; omega, fun p2 hp2 => ?_⟩
    have g2 := same_new hp2 (.tup [.ref p1])
    have f2 : upd HC p2 (.tup [.ref p1]) p2 = some (.tup [.ref p1]) := upd_same
    generalize upd HC p2 (.tup [.ref p1]) = HE at *
    have g9E := k4B.trans (g1.trans g2)
    have rl := ry.length
    rw [List.length_map] at rl
    refine ⟨p, p2, _, _, rfl, rfl, g9E _ _ hp, f2, by show us.length + 1 ≤ sizeLine; omega, fun p3 HF g3 hp3 => ?_⟩
    refine ⟨p3, us ++ [.ref p1], bs ++ [(x, y)], _, _, rfl, g.trans (g9E.trans g3), hp3, ?_, ?_, ?_, fun W hok h => ?_⟩
    · rw [List.map_append]
      exact (ry.mono (g9E.trans g3)).append (.cons (.tup (g3 _ _ (g2 _ _ f1)) (.cons (.int _) (.cons (.int _) .nil))) .nil)
    · intro u hu
      rcases List.mem_append.mp hu with hu | hu
      · exact hbd u hu
      · rw [List.mem_singleton.mp hu]; exact ⟨bx.1, by show x ≤ y; omega, by_.2⟩
    · rw [List.length_append, hbl]; rfl
    · rw [take_snocS (gWx W hok h).1, hW W hok h]
  · obtain ⟨p, us, bs, y4, y5, rfl, g, hp, ry, hbd, hbl, hW⟩ := hP
    rw [List.length_map] at hbl hW
    have e19 := g _ _ e18
    have k09 := k08.trans g
    refine ⟨_, rfl, l, _, _, _, rfl, rfl, SqL.of e19, at0, by show 4 ≤ sizeLine; omega, fun q4 hq4 => ?_⟩
    have g4 := same_new hq4 (.tup [.str "1:", .str "2:", .str "3:", .str "4:"])
    have f4 : upd H9 q4 (.tup [.str "1:", .str "2:", .str "3:", .str "4:"]) q4 = some (.tup [.str "1:", .str "2:", .str "3:", .str "4:"]) := upd_same
    generalize upd H9 q4 (.tup [.str "1:", .str "2:", .str "3:", .str "4:"]) = HA at *
    have k0A := k09.trans g4
    refine ⟨q4, _, rfl, .inr (SqT.of f4), rfl, rfl, _, rfl, ?_⟩
    rw [inV4]
    by_cases c4 : w1 = "1:" ∨ w1 = "2:" ∨ w1 = "3:" ∨ w1 = "4:"
    case neg =>
      refine if_t (by rw [decide_eq_false c4]; rfl) (iteT (qN (fun W hok h => ?_) _ k0A))
      have e := (List.cons.inj (wsp W hok h)).1
      exact c4 (by rw [e]; exact wd_first hok.b1 hok.b4)
    refine if_f (by rw [decide_eq_true c4]; rfl) ?_
    have rl := ry.length
    rw [List.length_map] at rl
    have hpA := g4 _ _ hp
    have ryA := ry.mono g4
    have noW : ¬ (1 ≤ bs.length ∧ bs.length ≤ 10) → ∀ W : Wd, W.Ok → wT W ≠ z := fun hn W hok h => by
      have e := hW W hok h
      have e2 := (List.cons.inj (wsp W hok h)).2
      have l1 := hok.l1; have l10 := hok.l10
      rw [e2, List.length_map] at hbl
      omega
    refine ⟨_, rfl, p, us, rfl, .inr (SqT.of hpA), _, _, rfl, rfl, _, rfl, ?_⟩
    by_cases c5 : (1 : Int) ≤ (us.length : Int)
    case neg => exact if_f (decide_eq_false c5) ⟨_, rfl, iteT (qN (noW (by omega)) _ k0A)⟩
    refine if_t (decide_eq_true c5) ⟨_, _, rfl, rfl, _, rfl, ?_⟩
    by_cases c6 : (us.length : Int) ≤ 10
    case neg => rw [decide_eq_false c6]; exact iteT (qN (noW (by omega)) _ k0A)
    rw [decide_eq_true c6]
    refine iteF ?_
    obtain ⟨k, k1', k4', hk, hk2⟩ := first_wd c4
    have edA := g4 _ _ (g _ _ ed8)
    have w19 := wlen w1 List.mem_cons_self
    have vk : valV numK (.inr (nT k)) = some (.int k) := by
      have h := num_at (nT k)
      rw [gN_nT (by omega) (by omega)] at h
      cases e : valV numK (.inr (nT k)) with
      | none => rw [e] at h; injection h with h; omega
      | some v => rw [e] at h; exact congrArg some h
    refine ⟨_, rfl, _, rfl, l, _, _, _, rfl, rfl, SqL.of (g4 _ _ e19), at0, 1, rfl, w1, rfl, by omega, .inl ⟨1, rfl, rfl, by omega, ?_⟩⟩
    rw [hk2]
    refine ⟨d, .int k, rfl, .inl ⟨numK, .inr (nT k), .inl edA, rfl, vk.symm⟩, _, rfl, by show 2 ≤ sizeLine; omega, fun p5 hp5 => ?_⟩
    have g5 := same_new hp5 (.tup [.int k, .ref p])
    have f5 : upd HA p5 (.tup [.int k, .ref p]) p5 = some (.tup [.int k, .ref p]) := upd_same
    generalize upd HA p5 (.tup [.int k, .ref p]) = HB at *
    have hok : (Wd.mk k bs).Ok := ⟨k1', k4', by show 1 ≤ bs.length; omega, by show bs.length ≤ 10; omega, fun x hx => ⟨(hbd x hx).a, (hbd x hx).b, (hbd x hx).c⟩⟩
    have rW : Rep HB (.ref p5) (encW ⟨k, bs⟩) := wd_rep (W := ⟨k, bs⟩) f5 (g5 _ _ hpA) (ryA.mono g5)
    refine ⟨_, rfl, .ref p5, ⟨k, bs⟩, rfl, rW, hok, fun HC g6 => ⟨_, rfl, rfl, _, rfl, ?_⟩⟩
    have k0C := k0A.trans (g5.trans g6)
    by_cases c7 : wT ⟨k, bs⟩ = z
    · exact if_t (decide_eq_true (by rw [c7])) ⟨_, rfl, q ⟨k, bs⟩ hok c7 (.ref p5) HC k0C (rW.mono g6)⟩
    · refine if_f (decide_eq_false fun e => c7 (V.str.inj e)) (qN (fun W hokW h => c7 ?_) HC k0C)
      have e := hW W hokW h
      have e1 := (List.cons.inj (wsp W hokW h)).1
      have e2 := (List.cons.inj (wsp W hokW h)).2
      have b1 := hokW.b1; have b4 := hokW.b4
      have eb : k = W.b := first_inj (by omega) (by omega) (hk.symm.trans e1)
      rw [e2, List.length_map, List.take_length] at e
      rw [eb, e]
      exact h
/-- which of the told errors an error is: its place -/
structure IsAt (K : PySem.W.Frag) (C : Addr) (cs : List Addr) (bs : List Bool) (j : Nat) : Prop where
  k : ExcK K C
  len : cs.length = bs.length
  is : ∀ (i : Nat) (c : Addr) (b : Bool), cs[i]? = some c → bs[i]? = some b → PySem.W.kitOne K (.ref C) (.ref c) = some b
  ve : PySem.W.kitOne K (.ref C) (.type "ValueError") = some true
  one : bs.count true = 1
  at_ : bs[j]? = some true
  no : ∀ m, m < j → bs[m]? ≠ some true
def errs (T : Txt K mg) : List Addr := [T.e_NoWorld.C, T.e_NoOrder.C, T.e_NoLengths.C, T.e_NoWork.C, T.e_NoSide.C, T.e_Never.C, T.e_TooMany.C, T.e_NoStep.C, T.e_NoNumber.C, T.e_NoRow.C, T.e_NoText.C]
def sp_which (K : PySem.W.Frag) (T : Txt K mg) : Sp := fun vs H Q _ => ∃ (p C : Addr) (b0 b1 b2 b3 b4 b5 b6 b7 b8 b9 b10 : Bool) (j : Nat), vs = [.ref p] ∧ H p = some (excO p C) ∧
  IsAt K C (errs T) [b0, b1, b2, b3, b4, b5, b6, b7, b8, b9, b10] j ∧
  ∀ (r : Addr) (H' : Hp), Same H H' → H r = none → H' r = some (.tup [.str "refused", .int j]) → Q (.ref r) H'
theorem ok_law_which (T : Txt K mg) : FnOkH P w K mg base 1 T.law_which.a T.law_which.d ["_law_e"] (sp_which K T) := by
  refine T.law_which.F.okH sc_law_which (fun vs H Q E h => ?_) (fun cdv A outer s H vs Q E hr h => ?_)
  · obtain ⟨p, C, b0, b1, b2, b3, b4, b5, b6, b7, b8, b9, b10, j, rfl, _⟩ := h; rfl
  obtain ⟨p, C, b0, b1, b2, b3, b4, b5, b6, b7, b8, b9, b10, j, rfl, hp, W, q⟩ := h
  refine ⟨_, (pss_cons (ps_set (i := 1) sc_law_which.nd rfl (by first | exact Or.inl rfl | exact Or.inr rfl) (pe_lst (pa_cons (pe_callB call_isx rfl T.n_isinstance bt_isinstance (pa_cons (pv 0) (pa_cons (pe_glob (v := .ref T.e_NoWorld.C) rfl T.e_NoWorld.m rfl) pa_nil))) (pa_cons (pe_callB call_isx rfl T.n_isinstance bt_isinstance (pa_cons (pv 0) (pa_cons (pe_glob (v := .ref T.e_NoOrder.C) rfl T.e_NoOrder.m rfl) pa_nil))) (pa_cons (pe_callB call_isx rfl T.n_isinstance bt_isinstance (pa_cons (pv 0) (pa_cons (pe_glob (v := .ref T.e_NoLengths.C) rfl T.e_NoLengths.m rfl) pa_nil))) (pa_cons (pe_callB call_isx rfl T.n_isinstance bt_isinstance (pa_cons (pv 0) (pa_cons (pe_glob (v := .ref T.e_NoWork.C) rfl T.e_NoWork.m rfl) pa_nil))) pa_nil)))))) (pss_cons (ps_expr (pe_bm PySem.F.plainAttrs_list PySem.F.slot_list_extend PySem.F.type_list_extend mt_extend (pv 1) (pa_cons (pe_lst (pa_cons (pe_callB call_isx rfl T.n_isinstance bt_isinstance (pa_cons (pv 0) (pa_cons (pe_glob (v := .ref T.e_NoSide.C) rfl T.e_NoSide.m rfl) pa_nil))) (pa_cons (pe_callB call_isx rfl T.n_isinstance bt_isinstance (pa_cons (pv 0) (pa_cons (pe_glob (v := .ref T.e_Never.C) rfl T.e_Never.m rfl) pa_nil))) (pa_cons (pe_callB call_isx rfl T.n_isinstance bt_isinstance (pa_cons (pv 0) (pa_cons (pe_glob (v := .ref T.e_TooMany.C) rfl T.e_TooMany.m rfl) pa_nil))) (pa_cons (pe_callB call_isx rfl T.n_isinstance bt_isinstance (pa_cons (pv 0) (pa_cons (pe_glob (v := .ref T.e_NoStep.C) rfl T.e_NoStep.m rfl) pa_nil))) pa_nil))))) pa_nil))) (pss_cons (ps_expr (pe_bm PySem.F.plainAttrs_list PySem.F.slot_list_extend PySem.F.type_list_extend mt_extend (pv 1) (pa_cons (pe_lst (pa_cons (pe_callB call_isx rfl T.n_isinstance bt_isinstance (pa_cons (pv 0) (pa_cons (pe_glob (v := .ref T.e_NoNumber.C) rfl T.e_NoNumber.m rfl) pa_nil))) (pa_cons (pe_callB call_isx rfl T.n_isinstance bt_isinstance (pa_cons (pv 0) (pa_cons (pe_glob (v := .ref T.e_NoRow.C) rfl T.e_NoRow.m rfl) pa_nil))) (pa_cons (pe_callB call_isx rfl T.n_isinstance bt_isinstance (pa_cons (pv 0) (pa_cons (pe_glob (v := .ref T.e_NoText.C) rfl T.e_NoText.m rfl) pa_nil))) pa_nil)))) pa_nil))) (pss_cons (ps_if (PW.pt (pw_or (pt_cmpR op_ne (pe_bm PySem.F.plainAttrs_list PySem.F.slot_list_count PySem.F.type_list_count mt_countB (pv 1) (pa_cons pe_bl pa_nil)) pe_int (nomark _)) (pw_or1 (pt_not (pt_val (pe_callB call_isx rfl T.n_isinstance bt_isinstance (pa_cons (pv 0) (pa_cons (pe_bltn (v := .ty "ValueError") rfl T.n_ValueError bt_ValueError rfl) pa_nil)))))))) (pss_one (ps_ret (pe_tup (pa_cons pe_str (pa_cons (pe_un un_neg pe_int) pa_nil))))) pss_nil) (pss_one (ps_ret (pe_tup (pa_cons pe_str (pa_cons (pe_bm PySem.F.plainAttrs_list PySem.F.slot_list_index PySem.F.type_list_index mt_indexB (pv 1) (pa_cons pe_bl pa_nil)) pa_nil))))))))), ?_⟩
  refine ⟨_, rfl, p, C, _, _, b0, rfl, hp, W.k, fun u r => r, W.is 0 _ _ rfl rfl, _, rfl, p, C, _, _, b1, rfl, hp, W.k, fun u r => r, W.is 1 _ _ rfl rfl, _, rfl, p, C, _, _, b2, rfl, hp, W.k, fun u r => r, W.is 2 _ _ rfl rfl, _, rfl, p, C, _, _, b3, rfl, hp, W.k, fun u r => r, W.is 3 _ _ rfl rfl, (by show 4 ≤ sizeLine; decide), fun l hl => ?_⟩
  have g1 := same_new hl (.lst [.bl b0, .bl b1, .bl b2, .bl b3])
  have hp1 := g1 _ _ hp
  have el : upd H l (.lst [.bl b0, .bl b1, .bl b2, .bl b3]) l = some (.lst [.bl b0, .bl b1, .bl b2, .bl b3]) := upd_same
  generalize upd H l (.lst [.bl b0, .bl b1, .bl b2, .bl b3]) = H1 at *
  refine ⟨_, rfl, .inl ⟨rfl, _, SqL.of el⟩, _, rfl, p, C, _, _, b4, rfl, hp1, W.k, fun u r => r, W.is 4 _ _ rfl rfl, _, rfl, p, C, _, _, b5, rfl, hp1, W.k, fun u r => r, W.is 5 _ _ rfl rfl, _, rfl, p, C, _, _, b6, rfl, hp1, W.k, fun u r => r, W.is 6 _ _ rfl rfl, _, rfl, p, C, _, _, b7, rfl, hp1, W.k, fun u r => r, W.is 7 _ _ rfl rfl, (by show 4 ≤ sizeLine; decide), fun r hr' => ?_⟩
  have g2 := same_new hr' (.lst [.bl b4, .bl b5, .bl b6, .bl b7])
  refine ⟨l, r, _, _, rfl, rfl, g2 _ _ el, upd_same, by show 8 ≤ sizeLine; decide, ?_⟩
  have gw := (g1.trans g2).write hl (.lst [.bl b0, .bl b1, .bl b2, .bl b3, .bl b4, .bl b5, .bl b6, .bl b7])
  have el2 : upd (upd H1 r (.lst [.bl b4, .bl b5, .bl b6, .bl b7])) l (.lst [.bl b0, .bl b1, .bl b2, .bl b3, .bl b4, .bl b5, .bl b6, .bl b7]) l = some (.lst [.bl b0, .bl b1, .bl b2, .bl b3, .bl b4, .bl b5, .bl b6, .bl b7]) := upd_same
  have gw' : Same H (upd (upd H1 r (.lst [.bl b4, .bl b5, .bl b6, .bl b7])) l (.lst ([.bl b0, .bl b1, .bl b2, .bl b3] ++ [.bl b4, .bl b5, .bl b6, .bl b7]))) := gw
  have hp2 := gw _ _ hp
  show tSeq _ _ _ _ (upd (upd H1 r (.lst [.bl b4, .bl b5, .bl b6, .bl b7])) l (.lst [.bl b0, .bl b1, .bl b2, .bl b3, .bl b4, .bl b5, .bl b6, .bl b7]))
  generalize upd (upd H1 r (.lst [.bl b4, .bl b5, .bl b6, .bl b7])) l (.lst [.bl b0, .bl b1, .bl b2, .bl b3, .bl b4, .bl b5, .bl b6, .bl b7]) = H2 at *
  refine ⟨_, rfl, .inl ⟨rfl, _, SqL.of el2⟩, _, rfl, p, C, _, _, b8, rfl, hp2, W.k, fun u r => r, W.is 8 _ _ rfl rfl, _, rfl, p, C, _, _, b9, rfl, hp2, W.k, fun u r => r, W.is 9 _ _ rfl rfl, _, rfl, p, C, _, _, b10, rfl, hp2, W.k, fun u r => r, W.is 10 _ _ rfl rfl, (by show 3 ≤ sizeLine; decide), fun r2 hr2 => ?_⟩
  have g3 := same_new hr2 (.lst [.bl b8, .bl b9, .bl b10])
  refine ⟨l, r2, _, _, rfl, rfl, g3 _ _ el2, upd_same, by show 11 ≤ sizeLine; decide, ?_⟩
  have gz := (gw.trans g3).write hl (.lst [.bl b0, .bl b1, .bl b2, .bl b3, .bl b4, .bl b5, .bl b6, .bl b7, .bl b8, .bl b9, .bl b10])
  have el3 : upd (upd H2 r2 (.lst [.bl b8, .bl b9, .bl b10])) l (.lst [.bl b0, .bl b1, .bl b2, .bl b3, .bl b4, .bl b5, .bl b6, .bl b7, .bl b8, .bl b9, .bl b10]) l = some (.lst [.bl b0, .bl b1, .bl b2, .bl b3, .bl b4, .bl b5, .bl b6, .bl b7, .bl b8, .bl b9, .bl b10]) := upd_same
  have hp3 := gz _ _ hp
  show tSeq _ _ _ _ (upd (upd H2 r2 (.lst [.bl b8, .bl b9, .bl b10])) l (.lst [.bl b0, .bl b1, .bl b2, .bl b3, .bl b4, .bl b5, .bl b6, .bl b7, .bl b8, .bl b9, .bl b10]))
  generalize upd (upd H2 r2 (.lst [.bl b8, .bl b9, .bl b10])) l (.lst [.bl b0, .bl b1, .bl b2, .bl b3, .bl b4, .bl b5, .bl b6, .bl b7, .bl b8, .bl b9, .bl b10]) = H3 at *
  refine ⟨_, rfl, .inl ⟨rfl, _, SqL.of el3⟩, l, [b0, b1, b2, b3, b4, b5, b6, b7, b8, b9, b10], true, rfl, rfl, el3, ?_⟩
  refine ⟨rfl, _, rfl, if_f ?_ ?_⟩
  · rw [W.one]; rfl
  refine ⟨_, rfl, p, C, _, _, true, rfl, hp3, W.k, fun u r => r, W.ve, true, rfl, iteF ?_⟩
  refine ⟨_, rfl, .inl ⟨rfl, _, SqL.of el3⟩, l, [b0, b1, b2, b3, b4, b5, b6, b7, b8, b9, b10], true, j, rfl, rfl, el3, W.at_, W.no, ?_⟩
  refine ⟨by show 2 ≤ sizeLine; decide, fun t ht => ?_⟩
  have g4 := same_new ht (.tup [.str "refused", .int j])
  exact q t _ (gz.trans g4) (gz.free ht) upd_same
end
end Be
set_option Elab.async false
set_option linter.all false
set_option maxRecDepth 100000
namespace Be
open PySem L2
def tryB (st : Stmt) : List Stmt := match defBody st with | [.Try b _ _ _ _] => b | _ => []
/-- what is asked of the errors -/
structure Errs {K : PySem.W.Frag} {mg : Str → Option Value} (T : Txt K mg) : Prop where
  n10 : IsAt K T.e_NoText.C (errs T) [false, false, false, false, false, false, false, false, false, false, true] 10
  u10 : PySem.W.mroIn K T.e_NoText.C (.ref T.e_BenchError.C) = some true
  ba : PySem.W.mroIn K T.e_BenchError.C (.type "BaseException") = some true
section
variable {P : Program} {w : World} {K : PySem.W.Frag} {mg : Str → Option Value} {base : Heap}
def askR (T : Txt K mg) (vs : List V) (H : Hp) (Q : VK) : Prop := ∃ (m : V) (dt : PyData), vs = [m] ∧ Rep H m dt ∧ (isStrD dt = false ∨ ∃ z : Str, m = .str z ∧ z.length ≤ 900 ∧ ∀ W : Wd, W.Ok → wT W ≠ z) ∧
  ∀ (r : Addr) (H' : Hp), Same H H' → H r = none → H' r = some (.tup [.str "refused", .int ((10 : Nat) : Int)]) → Q (.ref r) H'
def askP (vs : List V) (H : Hp) (Q : VK) : Prop := ∃ (W : Wd) (z : Str), vs = [.str z] ∧ W.Ok ∧ z.length ≤ 900 ∧ wT W = z ∧ ∀ (W : Wd) (u : V) (H' : Hp), W.Ok → wT W = z → Same H H' → Rep H' u (encW W) → Q u H'
def sp_ask (T : Txt K mg) : Sp := fun vs H Q _ => askR T vs H Q ∨ askP vs H Q
theorem ok_law_ask (T : Txt K mg) (Z : Errs T) : FnOk P w K mg base (CXr P w) 4 T.law_ask.a T.law_ask.d ["_law_thing"] (sp_ask T) := by
  refine T.law_ask.F.okT sc_law_ask (fun vs H Q E h => ?_) (fun cdv A outer s H vs Q E hr h => ?_)
  · rcases h with ⟨m, dt, rfl, _⟩ | ⟨W, z, rfl, _⟩ <;> rfl
  refine ⟨_, pss0_one (fun s1 σ H1 D I hT => try_ok (P := P) (w := w) (K := K) (mg := mg) (base := base) (N := ["_law_thing", "_law_e"]) (qual := "_law_ask") (scope := defScope (top 41)) (f := T.law_ask.a) (cd := cdv) (A := A) (outer := outer) (s := s) (H := H) (E := E) (body := tryB (top 41)) (n := "_law_e") (xB := "BenchError") (xW := "_law_which") (j := 1) (fun E' xe' ps => (pss_one (ps_ret (pe_call (ok_read_world T) (hr.mono (by decide)) rfl T.read_world.m T.read_world.F.kp T.read_world.b .nil ps (pa_cons (pv 0) pa_nil))))) T.e_BenchError.m rfl T.e_BenchError.q Z.ba (ok_law_which T) (hr.h.mono (by decide)) rfl T.law_which.m T.law_which.F.kp T.law_which.b sc_law_ask.nd rfl rfl (by decide) (by decide) (by decide) (by decide) I hT), ?_⟩
  rcases h with ⟨m, dt, rfl, hm, hB, q⟩ | ⟨W, z, rfl, hok, hz, hw, q⟩
  · refine ⟨fun x _ H' => x = .ref T.e_NoText.C ∧ Same H H', ?_, fun C' H' hE => ?_⟩
    · refine ⟨_, rfl, m, dt, rfl, hm, ?_⟩
      rcases hB with hf | ⟨z, rfl, hz, hn⟩
      · exact .inl ⟨hf, fun H' g => ⟨rfl, g⟩⟩
      · exact .inr ⟨z, rfl, hz, (fun W hok h => absurd h (hn W hok)), fun _ H' g => ⟨rfl, g⟩⟩
    · obtain ⟨e, g⟩ := hE
      injection e with e
      subst e
      refine ⟨⟨_, _, T.e_NoText.q, Z.u10⟩, fun p hp => ?_⟩
      have g2 := g.trans (same_new hp (excO p T.e_NoText.C))
      exact ⟨p, _, false, false, false, false, false, false, false, false, false, false, true, 10, rfl, upd_same, Z.n10, fun r H'' g3 hr3 hR => q r H'' (g2.trans g3) (g2.free hr3) hR⟩
  · refine ⟨fun _ _ _ => False, ?_, fun C' H' hE => hE.elim⟩
    exact ⟨_, rfl, .str z, .str z, rfl, .str _, .inr ⟨z, rfl, hz, (fun W' hok' h' u H' g hu => q W' u H' hok' h' g hu), fun hn => absurd hw (hn W hok)⟩⟩
end
end Be
/-! expressions made of constants alone: the rules of the layer, kept in a structure, so that nothing looks into what they say -/
set_option Elab.async false
set_option linter.all false
namespace Be
open PySem L2
variable {X : Cx} {e a b : Expr} {es : List Expr} {te ta tb : TE} {t : TA} {pos : Pos}
structure CE (X : Cx) (e : Expr) (t : TE) : Prop where
  pr : PE X e t
structure CA (X : Cx) (es : List Expr) (t : TA) : Prop where
  pr : PA X es t
theorem ce_int {i j pos} : CE X (.Constant (.int i) j pos) (tC (.int i)) := ⟨pe_int⟩
theorem ce_non {j pos} : CE X (.Constant .none j pos) (tC .non) := ⟨pe_non⟩
theorem ce_str {x j pos} : CE X (.Constant (.str x) j pos) (tC (.str x)) := ⟨pe_str⟩
theorem ca_nil : CA X [] tNil := ⟨pa_nil⟩
theorem ca_cons (ha : CE X e te) (hr : CA X es t) (hs : starEach (e :: es) X.env = (false, eval e X.env) :: starEach es X.env := by rfl) : CA X (e :: es) (tCons te t) := ⟨pa_cons ha.pr hr.pr hs⟩
theorem ce_lst (h : CA X es t) : CE X (.List es pos) (tLst t) := ⟨pe_lst h.pr⟩
structure CS (X : Cx) (st : Stmt) (t : TS) : Prop where
  pr : PS X st t
structure CSs (X : Cx) (st : List Stmt) (t : TS) : Prop where
  pr : PSs X st t
theorem css_cons {st : Stmt} {rest : List Stmt} {t u : TS} (h1 : CS X st t) (h2 : CSs X rest u) : CSs X (st :: rest) (tSeq t u) := ⟨pss_cons h1.pr h2.pr⟩
theorem css_one {st : Stmt} {t : TS} (h1 : CS X st t) : CSs X [st] t := ⟨pss_one h1.pr⟩
theorem cs_ret (he : CE X e te) : CS X (.Return (some e) pos) (tRet te) := ⟨ps_ret he.pr⟩
theorem cs_set {i : Nat} {x : Str} {e : Expr} {te : TE} {pos' : Pos} (hN : X.N.Nodup) (hi : X.N[i]? = some x) (hx : Loc X.env.scope x) (he : CE X e te) (hs : swapsWith e (some (.Name x pos')) pos.line X.env = pure false := by rfl) (hf : X.fn x = true ∨ X.env.scope.names.lookup x = some .local := by first | exact .inl rfl | exact .inr rfl | assumption) :
    CS X (.Assign [.Name x pos'] e pos) (tAsg te (gName i)) := ⟨ps_set hN hi hx he.pr hs hf⟩
end Be
set_option Elab.async false
set_option linter.all false
set_option maxRecDepth 100000
namespace Be
open PySem L2 BE
def rfD (j : Int) : PyData := .tuple [.str "refused", .int j]
theorem rf_rep {H : Hp} {r : Addr} {j : Int} (h : H r = some (.tup [.str "refused", .int j])) : Rep H (.ref r) (rfD j) := .tup h (.cons (.str _) (.cons (.int _) .nil))
theorem seq_nx {r : TS} {D : Ends} {σ : St} {H : Hp} (h : r D σ H) : tSeq Ends.nx r D σ H := h
theorem len_take (z : Str) (k : Nat) : (⟨(z.cps.toList.take k).toArray⟩ : Str).length ≤ z.length := by
  show (z.cps.toList.take k).toArray.size ≤ z.cps.size
  rw [List.size_toArray, List.length_take, Array.length_toList]
  exact Nat.min_le_right ..
theorem len_cut (z : Str) (k j : Nat) (h : k ≤ j) : (⟨(z.cps.toList.take k).toArray⟩ : Str).length + (⟨(z.cps.toList.drop j).toArray⟩ : Str).length ≤ z.length := by
  show (z.cps.toList.take k).toArray.size + (z.cps.toList.drop j).toArray.size ≤ z.cps.size
  rw [List.size_toArray, List.size_toArray, List.length_take, List.length_drop, Array.length_toList]
  omega
theorem join2 {te : TE} {j : Nat} {u : TT} {s1 r : TS} {D : Ends} {σ : St} {H : Hp} (hK : ∀ (x : V) (H' : Hp), Same H H' → r D (σ.set j (some x)) H') (ht : ∀ C' : VK, (∀ (x : V) (H' : Hp), (∀ C2 : Bool → Hp → Prop, (∀ H'', Same H H'' → C2 false H'') → u (σ.set j (some x)) H' C2) → C' x H') → te σ H C') : tSeq (tAsg te (gName j)) (tSeq (tIfS u s1 tNext) r) D σ H :=
  ht _ fun x H' h => h _ fun H'' g => iteF (hK x H'' g)
theorem lay_encB : ∀ bs : List (Int × Int), PyData.canLayAll0 (bs.map encB) = true
  | [] => rfl
  | p :: r => by rw [List.map_cons, PyData.canLayAll0, lay_encB r]; rfl
theorem dep_encB : ∀ bs : List (Int × Int), PyData.depthAll (bs.map encB) ≤ 10
  | [] => Nat.zero_le _
  | p :: r => by
    have h2 := dep_encB r
    rw [List.map_cons, PyData.depthAll]
    have h1 : (encB p).depth ≤ 10 := by unfold encB; simp [PyData.depth, PyData.depthAll]
    omega
theorem sh_W (W : Wd) : SeqAt.shaped (encW W) = true := by
  have h1 := lay_encB W.bs
  have h2 := dep_encB W.bs
  unfold SeqAt.shaped encW
  simp only [PyData.canLay0, PyData.canLayAll0, h1, PyData.depth, PyData.depthAll, Bool.true_and, Bool.and_true]
  exact decide_eq_true (by omega)
theorem mem_more {y : V} (h : y ∈ ([.str "", .str "0", .str "1", .str "9", .str "-", .str " ", .str ":", .str " 5", .str "x"] : List V)) : ∃ w : Str, y = .str w ∧ w.length ≤ 2 := by
  simp only [List.mem_cons, List.not_mem_nil, or_false] at h
  rcases h with rfl | rfl | rfl | rfl | rfl | rfl | rfl | rfl | rfl <;> exact ⟨_, rfl, by decide +kernel⟩
/-- what no world's text is: by its words -/
def noW (z : Str) : Bool := match Txt.split z " " with
  | w1 :: r => decide (r = []) || !((["1:", "2:", "3:", "4:"] : List Str).contains w1) || r.any (fun w => (Txt.split w "-").any (fun t => decide (gN t = 0)) || (match (Txt.split w "-").map gN with | [x] => false | [x, y] => decide (¬ x < y) | _ => true) || decide (nT (gN ((Txt.split w "-").headD "")) ≠ (Txt.split w "-").headD ""))
  | [] => true
theorem noW_no {z : Str} (h : noW z = true) : ∀ W : Wd, W.Ok → wT W ≠ z := fun W hok e => by
  unfold noW at h
  rw [← e, wT_words hok] at h
  have b1 := hok.b1; have b4 := hok.b4
  simp only [Bool.or_eq_true, decide_eq_true_eq] at h
  rcases h with (h | h) | h
  · have := hok.l1
    rw [List.map_eq_nil_iff.mp h] at this
    simp at this
  · have c : (["1:", "2:", "3:", "4:"] : List Str).contains (nT W.b ++ ":") = true := by
      rw [List.contains_iff_mem]
      rcases wd_first b1 b4 with x | x | x | x <;> rw [x] <;> simp
    rw [c] at h
    cases h
  · obtain ⟨w, hw, h⟩ := List.any_eq_true.mp h
    obtain ⟨p, hp, rfl⟩ := List.mem_map.mp hw
    have hb := hok.Bd hp
    have pa := hb.a; have pb := hb.b; have pc := hb.c
    have g1 := gN_nT (k := p.1) (by omega) (by omega)
    have g2 := gN_nT (k := p.2) (by omega) (by omega)
    rw [bT_split hb] at h
    by_cases c : p.1 = p.2
    · rw [if_pos c] at h
      simp [g1] at h
      omega
    · rw [if_neg c] at h
      simp [g1, g2] at h
      omega
theorem no_texts : (["", "1:", "1: ", "5: 1", "0: 1", "1: 0", "1: 100", "1: 5-5", "1: 5-4", "1: 1-2-3", "1:1", "01: 1", "1: 05", "1: -5", "1: 1 ", " 1: 1"] : List Str).all (fun z => noW z && decide (z.length ≤ 20)) = true := by decide +kernel
theorem odd_no {H : Hp} {q1 : Addr} (h1 : H q1 = some (.tup [.str "1: 1"])) {y : V} (h : y ∈ ([.non, .int 5, .str "", .str "1:", .str "1: ", .str "5: 1", .str "0: 1", .str "1: 0", .str "1: 100", .str "1: 5-5", .str "1: 5-4", .str "1: 1-2-3", .str "1:1", .str "01: 1"] ++ [.str "1: 05", .str "1: -5", .str "1: 1 ", .str " 1: 1", .ref q1] : List V)) : ∃ d, Rep H y d ∧ (isStrD d = false ∨ ∃ z : Str, y = .str z ∧ z.length ≤ 900 ∧ ∀ W : Wd, W.Ok → wT W ≠ z) := by
  have nt : ∀ z : Str, z ∈ (["", "1:", "1: ", "5: 1", "0: 1", "1: 0", "1: 100", "1: 5-5", "1: 5-4", "1: 1-2-3", "1:1", "01: 1", "1: 05", "1: -5", "1: 1 ", " 1: 1"] : List Str) → z.length ≤ 900 ∧ ∀ W : Wd, W.Ok → wT W ≠ z := fun z hz => by
    have := List.all_eq_true.mp no_texts z hz
    rw [Bool.and_eq_true] at this
    have l := of_decide_eq_true this.2
    exact ⟨by omega, noW_no this.1⟩
  simp only [List.cons_append, List.nil_append, List.mem_cons, List.not_mem_nil, or_false] at h
  rcases h with rfl | rfl | rfl | rfl | rfl | rfl | rfl | rfl | rfl | rfl | rfl | rfl | rfl | rfl | rfl | rfl | rfl | rfl | rfl
  · exact ⟨.none, .non, .inl rfl⟩
  · exact ⟨.int 5, .int _, .inl rfl⟩
  · exact ⟨.str _, .str _, .inr ⟨_, rfl, nt _ (by simp)⟩⟩
  · exact ⟨.str _, .str _, .inr ⟨_, rfl, nt _ (by simp)⟩⟩
  · exact ⟨.str _, .str _, .inr ⟨_, rfl, nt _ (by simp)⟩⟩
  · exact ⟨.str _, .str _, .inr ⟨_, rfl, nt _ (by simp)⟩⟩
  · exact ⟨.str _, .str _, .inr ⟨_, rfl, nt _ (by simp)⟩⟩
  · exact ⟨.str _, .str _, .inr ⟨_, rfl, nt _ (by simp)⟩⟩
  · exact ⟨.str _, .str _, .inr ⟨_, rfl, nt _ (by simp)⟩⟩
  · exact ⟨.str _, .str _, .inr ⟨_, rfl, nt _ (by simp)⟩⟩
  · exact ⟨.str _, .str _, .inr ⟨_, rfl, nt _ (by simp)⟩⟩
  · exact ⟨.str _, .str _, .inr ⟨_, rfl, nt _ (by simp)⟩⟩
  · exact ⟨.str _, .str _, .inr ⟨_, rfl, nt _ (by simp)⟩⟩
  · exact ⟨.str _, .str _, .inr ⟨_, rfl, nt _ (by simp)⟩⟩
  · exact ⟨.str _, .str _, .inr ⟨_, rfl, nt _ (by simp)⟩⟩
  · exact ⟨.str _, .str _, .inr ⟨_, rfl, nt _ (by simp)⟩⟩
  · exact ⟨.str _, .str _, .inr ⟨_, rfl, nt _ (by simp)⟩⟩
  · exact ⟨.str _, .str _, .inr ⟨_, rfl, nt _ (by simp)⟩⟩
  · exact ⟨.tuple [.str "1: 1"], .tup h1 (.cons (.str _) .nil), .inl rfl⟩
theorem z10 : PyData.eqv (rfD ((10 : Nat) : Int)) (rfD 10) = true := by decide +kernel
theorem wT_inj {W W' : Wd} (h : W.Ok) (h' : W'.Ok) (e : wT W = wT W') : W = W' := by
  have a := wT_words h
  rw [e, wT_words h'] at a
  obtain ⟨a1, a2⟩ := List.cons.inj a
  have b1 := h.b1; have b4 := h.b4; have b1' := h'.b1; have b4' := h'.b4
  have eb : W'.b = W.b := first_inj (by omega) (by omega) a1
  have inj : ∀ (x y : List (Int × Int)), (∀ p ∈ x, Bd p) → (∀ p ∈ y, Bd p) → x.map bT = y.map bT → x = y := by
    intro x
    induction x with
    | nil => intro y _ _ h; cases y with | nil => rfl | cons => cases h
    | cons p r ih =>
      intro y hx hy h
      cases y with
      | nil => cases h
      | cons p' r' =>
        obtain ⟨h1, h2⟩ := List.cons.inj h
        have hp := hx p List.mem_cons_self
        have hp' := hy p' List.mem_cons_self
        have s1 := bT_split hp
        rw [h1, bT_split hp'] at s1
        have pa := hp.a; have pb := hp.b; have pc := hp.c
        have pa' := hp'.a; have pb' := hp'.b; have pc' := hp'.c
        have e : p = p' := by
          by_cases c : p.1 = p.2
          · rw [if_pos c] at s1
            by_cases c' : p'.1 = p'.2
            · rw [if_pos c'] at s1
              have := nT_inj (i := p'.1) (j := p.1) (by omega) (by omega) (List.cons.inj s1).1
              apply Prod.ext <;> omega
            · rw [if_neg c'] at s1; exact absurd (congrArg List.length s1) (by simp)
          · rw [if_neg c] at s1
            by_cases c' : p'.1 = p'.2
            · rw [if_pos c'] at s1; exact absurd (congrArg List.length s1) (by simp)
            · rw [if_neg c'] at s1
              obtain ⟨e1, e2⟩ := List.cons.inj s1
              have := nT_inj (i := p'.1) (j := p.1) (by omega) (by omega) e1
              have := nT_inj (i := p'.2) (j := p.2) (by omega) (by omega) (List.cons.inj e2).1
              apply Prod.ext <;> omega
        rw [e, ih r' (fun z hz => hx z (List.mem_cons_of_mem _ hz)) (fun z hz => hy z (List.mem_cons_of_mem _ hz)) h2]
  have ebs := inj _ _ (fun p hp => h'.Bd hp) (fun p hp => h.Bd hp) a2
  obtain ⟨b, bs⟩ := W
  obtain ⟨b', bs'⟩ := W'
  dsimp only at eb ebs
  rw [eb, ebs]
def sp_law (K : PySem.W.Frag) : Sp := fun vs H Q _ => ∃ (a : Addr) (ns : List Int), vs = [.ref a] ∧ Scr K H a ns ∧ ∀ H', Q (.bl true) H'
section
variable {P : Program} {w : World} {K : PySem.W.Frag} {mg : Str → Option Value} {base : Heap}
set_option maxHeartbeats 4000000 in
theorem ok_law (T : Txt K mg) (Z : Errs T) : FnOk P w K mg base (CXr P w) 7 T.law.a T.law.d ["_law_script"] (sp_law K) := by
  refine T.law.F.okN sc_law (fun vs H Q E h => ?_) (fun cdv A outer s H vs Q E hr h => ?_)
  · obtain ⟨a, ns, rfl, _⟩ := h; rfl
  obtain ⟨a, ns, rfl, hS, q⟩ := h
  have hu64 : (A.deeper (PyProof.Rows.envOfC "law" (defScope (top 44)) s.heap.objs.size T.law.a cdv)).units + 64 < cLine := by have := hr.un; omega
  suffices hh : ∃ t, CSs _ _ t ∧ t _ _ _ from hh.elim fun t h => ⟨t, h.1.pr, h.2⟩
  refine ⟨_, (css_cons (cs_set (i := 1) sc_law.nd rfl (by first | exact Or.inl rfl | exact Or.inr rfl) (ce_lst ca_nil)) (css_cons (cs_set (i := 2) sc_law.nd rfl (by first | exact Or.inl rfl | exact Or.inr rfl) (CE.mk (pe_call (ok_law_draw T) (hr.mono (by decide)) rfl T.law_draw.m T.law_draw.F.kp T.law_draw.b .nil passN (CA.pr (ca_cons (CE.mk (pv 0)) (ca_cons (CE.mk (pv 1)) (ca_cons ce_int ca_nil))))))) (css_cons (cs_set (i := 3) sc_law.nd rfl (by first | exact Or.inl rfl | exact Or.inr rfl) (CE.mk (pe_call (ok_law_world T) (hr.mono (by decide)) rfl T.law_world.m T.law_world.F.kp T.law_world.b .nil passN (CA.pr (ca_cons (CE.mk (pv 0)) (ca_cons (CE.mk (pv 1)) (ca_cons ce_int (ca_cons (CE.mk (pe_call (ok_law_pick T) (hr.mono (by decide)) rfl T.law_pick.m T.law_pick.F.kp T.law_pick.b .nil passN (CA.pr (ca_cons (CE.mk (pv 0)) (ca_cons (CE.mk (pv 1)) (ca_cons (ce_lst (ca_cons ce_int (ca_cons ce_int (ca_cons ce_int ca_nil)))) ca_nil)))))) ca_nil)))))))) (css_cons (cs_set (i := 4) sc_law.nd rfl (by first | exact Or.inl rfl | exact Or.inr rfl) (CE.mk (pe_call (ok_law_said T) (hr.mono (by decide)) rfl T.law_said.m T.law_said.F.kp T.law_said.b .nil passN (CA.pr (ca_cons (CE.mk (pv 3)) ca_nil))))) (css_cons (CS.mk (ps_if (PW.pt (pw_or (pt_cmpR op_ne (pe_call (ok_world_text T) (hr.mono (by decide)) rfl T.world_text.m T.world_text.F.kp T.world_text.b .nil passN (pa_cons (pv 3) pa_nil)) (pv 4) (nomark _)) (pw_or1 (pt_cmpR (op_neD hu64) (pe_call (ok_read_world T) (hr.mono (by decide)) rfl T.read_world.m T.read_world.F.kp T.read_world.b .nil passN (pa_cons (pv 4) pa_nil)) (pv 3) (nomark _))))) (pss_one (ps_ret pe_bl)) pss_nil)) (css_cons (CS.mk (ps_for PassesOwn.never rfl (pi_range1 rfl T.n_range (pa_cons (pv 2) pa_nil)) (pg_name (i := 5) sc_law.nd rfl (by first | exact Or.inl rfl | exact Or.inr rfl)) (pss_cons (ps_set (i := 6) sc_law.nd rfl (by first | exact Or.inl rfl | exact Or.inr rfl) (pe_call (ok_law_draw T) (hr.mono (by decide)) rfl T.law_draw.m T.law_draw.F.kp T.law_draw.b .nil passN (pa_cons (pv 0) (pa_cons (pv 1) (pa_cons (pe_op op_add (pe_callB call_len_str rfl T.n_len bt_len (pa_cons (pv 4) pa_nil)) pe_int) pa_nil))))) (pss_cons (ps_set (i := 7) sc_law.nd rfl (by first | exact Or.inl rfl | exact Or.inr rfl) (pe_call (ok_law_pick T) (hr.mono (by decide)) rfl T.law_pick.m T.law_pick.F.kp T.law_pick.b .nil passN (pa_cons (pv 0) (pa_cons (pv 1) (pa_cons (pe_lst (pa_cons pe_str (pa_cons pe_str (pa_cons pe_str (pa_cons pe_str (pa_cons pe_str (pa_cons pe_str (pa_cons pe_str (pa_cons pe_str (pa_cons pe_str pa_nil)))))))))) pa_nil))))) (pss_one (ps_set (i := 4) sc_law.nd rfl (by first | exact Or.inl rfl | exact Or.inr rfl) (pe_op op_add_str (pe_op op_add_str (pe_slice sl_strA (pv 4) po_none (po_some (pv 6))) (pv 7)) (pe_slice sl_strA (pv 4) (po_some (pe_op op_add (pv 6) (pe_call (ok_law_draw T) (hr.mono (by decide)) rfl T.law_draw.m T.law_draw.F.kp T.law_draw.b .nil passN (pa_cons (pv 0) (pa_cons (pv 1) (pa_cons pe_int pa_nil)))))) po_none)))))))) (css_cons (cs_set (i := 8) sc_law.nd rfl (by first | exact Or.inl rfl | exact Or.inr rfl) (CE.mk (pe_call (ok_law_due T) (hr.mono (by decide)) rfl T.law_due.m T.law_due.F.kp T.law_due.b .nil passN (CA.pr (ca_cons (CE.mk (pv 4)) ca_nil))))) (css_cons (CS.mk (ps_if (pt_cmpR (op_neD hu64) (pe_call (ok_law_ask T Z) (hr.mono (by decide)) rfl T.law_ask.m T.law_ask.F.kp T.law_ask.b .nil passN (pa_cons (pv 4) pa_nil)) (pe_ifExp (pt_cmpR op_notN (pv 8) pe_non (nomark _)) (pv 8) (pe_tup (pa_cons pe_str (pa_cons pe_int pa_nil)))) (nomark _)) (pss_one (ps_ret pe_bl)) pss_nil)) (css_cons (cs_set (i := 9) sc_law.nd rfl (by first | exact Or.inl rfl | exact Or.inr rfl) (ce_lst (ca_cons ce_non (ca_cons ce_int (ca_cons ce_str (ca_cons ce_str (ca_cons ce_str (ca_cons ce_str (ca_cons ce_str (ca_cons ce_str (ca_cons ce_str (ca_cons ce_str (ca_cons ce_str (ca_cons ce_str (ca_cons ce_str (ca_cons ce_str ca_nil)))))))))))))))) (css_one (cs_ret (CE.mk (pe_cmpR (op_eqD hu64) (pe_call (ok_law_ask T Z) (hr.mono (by decide)) rfl T.law_ask.m T.law_ask.F.kp T.law_ask.b .nil passN (pa_cons (pe_call (ok_law_pick T) (hr.mono (by decide)) rfl T.law_pick.m T.law_pick.F.kp T.law_pick.b .nil passN (pa_cons (pv 0) (pa_cons (pv 1) (pa_cons (pe_op op_cat (pv 9) (pe_lst (pa_cons pe_str (pa_cons pe_str (pa_cons pe_str (pa_cons pe_str (pa_cons (pe_tup (pa_cons pe_str pa_nil)) pa_nil))))))) pa_nil)))) pa_nil)) (pe_tup (pa_cons pe_str (pa_cons pe_int pa_nil))) (nomark _)))))))))))))), ?_⟩
  refine ⟨Nat.zero_le _, fun t ht => ?_⟩
  have g1 := same_new ht (.lst [])
  have hS1 := hS.same g1
  have t1 : upd H t (.lst []) t = some (.lst (zeros 0)) := upd_same
  generalize upd H t (.lst []) = HA at *
  have sl : 100000 ≤ sizeLine := by decide
  refine ⟨_, rfl, _, rfl, a, t, ns, 0, 3, rfl, hS1, t1, by omega, by omega, fun r0 HB r00 r03 g2 t2 => ?_⟩
  have hS2 := g2.scr t1 hS1
  refine ⟨_, rfl, _, rfl, _, rfl, _, rfl, by show 3 ≤ sizeLine; omega, fun lp hlp => ?_⟩
  have k8 := same_new hlp (.lst [.int 1, .int 3, .int 9])
  have e8 : upd HB lp (.lst [.int 1, .int 3, .int 9]) lp = some (.lst [.int 1, .int 3, .int 9]) := upd_same
  have pt : lp ≠ t := fun z => by rw [z, t2] at hlp; cases hlp
  generalize upd HB lp (.lst [.int 1, .int 3, .int 9]) = HB1 at *
  refine ⟨a, t, lp, ns, 0 + 1, _, rfl, hS2.same k8, k8 _ _ t2, by omega, e8, pt, by simp, fun mv HB2 hmv g9 t9 => ?_⟩
  have hS9 := g9.scr (k8 _ _ t2) (hS2.same k8)
  obtain ⟨wd, rfl, wd1, wd9⟩ : ∃ wd : Int, mv = .int wd ∧ 1 ≤ wd ∧ wd ≤ 9 := by
    simp only [List.mem_cons, List.not_mem_nil, or_false] at hmv
    rcases hmv with rfl | rfl | rfl
    · exact ⟨1, rfl, by omega, by omega⟩
    · exact ⟨3, rfl, by omega, by omega⟩
    · exact ⟨9, rfl, by omega, by omega⟩
  refine ⟨a, t, ns, _, 10, wd, rfl, hS9, t9, by omega, by omega, by omega, by omega, by omega, fun W v n1 HC hok hwl hwd hW g3 t3 hn3 => ?_⟩
  have hS3 := g3.scr t9 hS9
  have wl := wT_len hok
  clear hS9 hS2 hS1 hS g1 g2 g9 k8 e8 t1 t2 t9 ht hlp pt hmv
  -- its text
  refine ⟨_, rfl, v, W, rfl, hW, hok, fun HD g4 => ?_⟩
  refine ⟨_, rfl, v, W, rfl, hW.mono g4, hok, fun HE g5 => ⟨_, rfl, rfl, _, rfl, if_f (by simp) ?_⟩⟩
  refine ⟨_, rfl, .str (wT W), .str (wT W), rfl, .str _, .inr ⟨wT W, rfl, by omega, fun W' hok' hw' u HF g6 hu => ?_, fun hn => absurd rfl (hn W hok)⟩⟩
  obtain rfl := wT_inj hok' hok hw'
  have g46 := g4.trans (g5.trans g6)
  have hW6 := hW.mono g46
  refine ⟨_, rfl, _, _, hu, hW6, sh_W _, sh_W _, _, rfl, if_f (by rw [SeqAt.eqv_refl _ (SeqAt.canLay_of_shaped (sh_W _))]; rfl) ?_⟩
  have hS7 := hS3.same g46
  have t7 := g46 _ _ t3
  clear hS3 t3 hW hu hW6 g3 g4 g5 g6 g46
  refine ⟨_, rfl, r0, rfl, by omega, by omega, ?_⟩
  refine for_range (n := r0.toNat) (fun i σ H2 => ∃ (z : Str) (n3 : Nat) (x7 x8 x9 : Option V), σ = [some (.ref a), some (.ref t), some (.int r0), some v, some (.str z), x7, x8, x9, none, none] ∧ SameX t HF H2 ∧ H2 t = some (.lst (zeros n3)) ∧ n3 ≤ n1 + 3 * i ∧ z.length ≤ 70 + 2 * i) ?_ ?_ ?_
  · exact ⟨_, n1, none, none, none, rfl, SameX.refl t HF, t7, by omega, wl⟩
  · rintro i σ H2 hi ⟨z, n3, x5, x6, x7, rfl, gx, t6, hn6, hz⟩
    have hS6 := gx.scr t7 hS7
    refine ⟨_, rfl, _, rfl, _, rfl, z, rfl, by omega, _, _, rfl, rfl, a, t, ns, n3, _, rfl, hS6, t6, by omega, by omega, fun at_ H3 a0 a1 g7 t7 => ?_⟩
    have hS7 := g7.scr t6 hS6
    refine ⟨_, rfl, _, rfl, by show 9 ≤ sizeLine; decide, fun lp hlp => ?_⟩
    have k8 := same_new hlp (.lst [.str "", .str "0", .str "1", .str "9", .str "-", .str " ", .str ":", .str " 5", .str "x"])
    have e8 : upd H3 lp (.lst [.str "", .str "0", .str "1", .str "9", .str "-", .str " ", .str ":", .str " 5", .str "x"]) lp = some (.lst [.str "", .str "0", .str "1", .str "9", .str "-", .str " ", .str ":", .str " 5", .str "x"]) := upd_same
    have pt : lp ≠ t := fun z => by rw [z, t7] at hlp; cases hlp
    generalize upd H3 lp (.lst [.str "", .str "0", .str "1", .str "9", .str "-", .str " ", .str ":", .str " 5", .str "x"]) = H4 at *
    refine ⟨a, t, lp, ns, n3 + 1, _, rfl, hS7.same k8, k8 _ _ t7, by omega, e8, pt, by simp, fun mv H5 hmv g9 t9 => ?_⟩
    have hS9 := g9.scr (k8 _ _ t7) (hS7.same k8)
    obtain ⟨w0, rfl, hw0⟩ := mem_more hmv
    have l1 := len_take z at_.toNat
    refine ⟨_, rfl, _, rfl, _, rfl, z, rfl, by omega, .inl ⟨at_, rfl, rfl, a0, _, rfl, _, _, rfl, rfl, by omega, ?_⟩⟩
    refine ⟨_, rfl, _, rfl, _, rfl, _, rfl, a, t, ns, n3 + 1 + 1, 2, rfl, hS9, t9, by omega, by omega, fun d H6 d0 d1 g10 t10 => ?_⟩
    have l2 := len_cut z at_.toNat (at_ + d).toNat (by omega)
    refine ⟨_, _, rfl, rfl, _, rfl, z, rfl, by omega, .inr ⟨at_ + d, rfl, rfl, by omega, _, _, rfl, rfl, ?_, ?_⟩⟩
    · rw [cat_len]; omega
    · refine ⟨_, _, _, _, _, rfl, ((gx.trans g7).trans (k8.x t)).trans (g9.trans g10), t10, by omega, ?_⟩
      rw [cat_len, cat_len]; omega
  rintro σ H2 ⟨z, n3, x5, x6, x7, rfl, gx, t6, hn6, hz⟩
  have hS6 := gx.scr t7 hS7
  clear hS7 gx t7
  have hz : z.length ≤ 900 := by omega
  refine seq_nx ?_
  refine join2 ?_ (fun C hC => ?_)
  case refine_2 =>
    by_cases hex : ∃ W' : Wd, W'.Ok ∧ wT W' = z
    · obtain ⟨W', hok', hw'⟩ := hex
      refine ⟨_, rfl, z, rfl, hz, fun W2 hok2 hw2 u H5 g5 hu => hC _ _ fun C2 hC2 => ?_, fun hn => absurd hw' (hn W' hok')⟩
      obtain rfl := wT_inj hok2 hok' (hw2.trans hw'.symm)
      refine ⟨_, rfl, .inr ⟨_, z, rfl, hok', hz, hw', fun W3 u3 H7 hok3 hw3 g7 hu3 => ?_⟩⟩
      obtain rfl := wT_inj hok3 hok' (hw3.trans hw'.symm)
      have hne : u ≠ .non := fun e => by rw [e] at hu; cases hu
      refine ⟨_, rfl, rfl, _, rfl, if_t (by simp [hne]) ⟨_, rfl, _, _, hu3, hu.mono g7, sh_W _, sh_W _, _, rfl, ?_⟩⟩
      rw [SeqAt.eqv_refl _ (SeqAt.canLay_of_shaped (sh_W _))]
      exact hC2 _ (g5.trans g7)
    · have hno : ∀ W' : Wd, W'.Ok → wT W' ≠ z := fun W' h1 h2 => hex ⟨W', h1, h2⟩
      refine ⟨_, rfl, z, rfl, hz, (fun W2 hok2 hw2 => absurd hw2 (hno W2 hok2)), fun _ H5 g5 => hC _ _ fun C2 hC2 => ?_⟩
      refine ⟨_, rfl, .inl ⟨.str z, .str z, rfl, .str _, .inr ⟨z, rfl, hz, hno⟩, fun r H7 g7 fr hr7 => ?_⟩⟩
      refine ⟨_, rfl, rfl, _, rfl, if_f (by simp) ⟨by show 2 ≤ sizeLine; decide, fun d hd => ?_⟩⟩
      have k8 := same_new hd (.tup [.str "refused", .int 10])
      refine ⟨_, _, rf_rep (k8 _ _ hr7), rf_rep (j := 10) upd_same, by decide +kernel, by decide +kernel, _, rfl, ?_⟩
      rw [z10]
      exact hC2 _ (g5.trans (g7.trans k8))
  intro x H7 g7
  have hS9 := hS6.same g7
  have t9 := g7 _ _ t6
  clear hS6 t6 g7
  -- odd ones
  refine ⟨by show 14 ≤ sizeLine; decide, fun q0 hq0 => ?_⟩
  generalize hQ0 : upd H7 q0 _ = H8
  have k1 : Same H7 H8 := hQ0 ▸ same_new hq0 _
  have f0 : H8 q0 = some (.lst [.non, .int 5, .str "", .str "1:", .str "1: ", .str "5: 1", .str "0: 1", .str "1: 0", .str "1: 100", .str "1: 5-5", .str "1: 5-4", .str "1: 1-2-3", .str "1:1", .str "01: 1"]) := by rw [← hQ0]; exact upd_same
  clear hQ0
  refine ⟨_, rfl, _, rfl, _, rfl, by show 1 ≤ sizeLine; decide, fun q1 hq1 => ?_⟩
  have k2 := same_new hq1 (.tup [.str "1: 1"])
  have f1 : upd H8 q1 (.tup [.str "1: 1"]) q1 = some (.tup [.str "1: 1"]) := upd_same
  generalize upd H8 q1 (.tup [.str "1: 1"]) = H9 at *
  refine ⟨by show 5 ≤ sizeLine; decide, fun q2 hq2 => ?_⟩
  generalize hQ2 : upd H9 q2 _ = H10
  have k3 : Same H9 H10 := hQ2 ▸ same_new hq2 _
  have f2 : H10 q2 = some (.lst [.str "1: 05", .str "1: -5", .str "1: 1 ", .str " 1: 1", .ref q1]) := by rw [← hQ2]; exact upd_same
  clear hQ2
  have f02 := k3 _ _ (k2 _ _ f0)
  refine ⟨q0, q2, _, _, rfl, rfl, f02, f2, by show 19 ≤ sizeLine; decide, fun q3 hq3 => ?_⟩
  generalize hQ3 : upd H10 q3 _ = H11
  have k4 : Same H10 H11 := hQ3 ▸ same_new hq3 _
  have f3 : H11 q3 = some (.lst ([.non, .int 5, .str "", .str "1:", .str "1: ", .str "5: 1", .str "0: 1", .str "1: 0", .str "1: 100", .str "1: 5-5", .str "1: 5-4", .str "1: 1-2-3", .str "1:1", .str "01: 1"] ++ [.str "1: 05", .str "1: -5", .str "1: 1 ", .str " 1: 1", .ref q1])) := by rw [← hQ3]; exact upd_same
  clear hQ3
  have k14 := k1.trans (k2.trans (k3.trans k4))
  have pt : q3 ≠ t := fun z => by rw [z, (k1.trans (k2.trans k3)) _ _ t9] at hq3; cases hq3
  refine ⟨a, t, q3, ns, n3, _, rfl, hS9.same k14, k14 _ _ t9, by omega, f3, pt, by simp, fun y HZ hy gz tz => ?_⟩
  have tsz := gz.ts (k14 _ _ t9)
  obtain ⟨dd, hdd, hno⟩ := odd_no (tsz _ _ (k4 _ _ (k3 _ _ f1))) hy
  refine .inl ⟨y, dd, rfl, hdd, hno, fun r HY gy fr hry => ?_⟩
  refine ⟨by show 2 ≤ sizeLine; decide, fun d hd => ?_⟩
  have k8 := same_new hd (.tup [.str "refused", .int 10])
  refine ⟨_, _, rf_rep (k8 _ _ hry), rf_rep (j := 10) upd_same, by decide +kernel, by decide +kernel, ?_⟩
  rw [z10]
  exact q _
end
end Be
set_option Elab.async false
set_option linter.all false
set_option maxRecDepth 100000
namespace Be
open PySem L2
theorem ar1 {F : List Value → Prop} (h : ∀ a, F [a]) : ∀ us, us.length = 1 → F us
  | [a], _ => h a
theorem ar2 {F : List Value → Prop} (h : ∀ a b, F [a, b]) : ∀ us, us.length = 2 → F us
  | [a, b], _ => h a b
theorem ar3 {F : List Value → Prop} (h : ∀ a b c, F [a, b, c]) : ∀ us, us.length = 3 → F us
  | [a, b, c], _ => h a b c
theorem ar4 {F : List Value → Prop} (h : ∀ a b c d, F [a, b, c, d]) : ∀ us, us.length = 4 → F us
  | [a, b, c, d], _ => h a b c d
theorem ar5 {F : List Value → Prop} (h : ∀ a b c d e, F [a, b, c, d, e]) : ∀ us, us.length = 5 → F us
  | [a, b, c, d, e], _ => h a b c d e
theorem ar6 {F : List Value → Prop} (h : ∀ a b c d e f, F [a, b, c, d, e, f]) : ∀ us, us.length = 6 → F us
  | [a, b, c, d, e, f], _ => h a b c d e f
def def_mk {K : PySem.W.Frag} {h : Heap} {mg : Str → Option Value} {x : Str} {st : Stmt} {ps : List Str} {f : Addr} {od an : Option Addr} {sl : Array (Option Value)} {oc kV dc pm cd ct : Value} (X : K.In h) (G : h.Ns mainGlobals mg) (a : PySem.W.nsIn K mainGlobals x = some (some (.ref f)))
    (l : K.lookup f = some ⟨oc, od, .func (PySem.W.fnOf x x (defArgs st) (defBody st) (defScope st) .none kV dc pm an cd ct), sl⟩) (c : PySem.W.codeIn K cd x = true) (k : PySem.W.keepIn K (.ref f) = true)
    (hb : ∀ (kV doc pm : Value) (an : Option Addr) (cdv ct : Value) (us : List Value), us.length = ps.length → bindArgs (PySem.W.fnOf x x (defArgs st) (defBody st) (defScope st) .none kV doc pm an cdv ct) ⟨us, []⟩ = pure (ps.zip us)) : DefAt K mg x st ps :=
  ⟨f, _, fun_mk l c k, (fun_mk l c k).binds hb, PySem.W.mg_of X G a⟩
inductive AllIs (K : PySem.W.Frag) (C : Addr) : List Addr → List Bool → Prop
  | nil : AllIs K C [] []
  | cons {c : Addr} {b : Bool} {cs : List Addr} {bs : List Bool} (h : PySem.W.kitOne K (.ref C) (.ref c) = some b) (r : AllIs K C cs bs) : AllIs K C (c :: cs) (b :: bs)
theorem AllIs.at {K : PySem.W.Frag} {C : Addr} {cs : List Addr} {bs : List Bool} (h : AllIs K C cs bs) : ∀ (i : Nat) (c : Addr) (b : Bool), cs[i]? = some c → bs[i]? = some b → PySem.W.kitOne K (.ref C) (.ref c) = some b := by
  induction h with
  | nil => intro i c b h1 _; cases i <;> cases h1
  | cons h r ih =>
    intro i c b h1 h2
    cases i with
    | zero => cases h1; cases h2; exact h
    | succ i => exact ih i c b h1 h2
theorem no_at {bs : List Bool} {j : Nat} (h : ((List.range j).all fun m => bs[m]? != some true) = true) : ∀ m, m < j → bs[m]? ≠ some true := fun m hm z => by
  have := List.all_eq_true.mp h m (List.mem_range.mpr hm)
  rw [z] at this
  exact absurd this (by decide)
set_option maxHeartbeats 4000000 in
theorem txt_mk {K : PySem.W.Frag} {h : Heap} {mg : Str → Option Value} (X : K.In h) (G : h.Ns mainGlobals mg)
    {f0 : Addr} {od0 an0 : Option Addr} {sl0 : Array (Option Value)} {oc0 kV0 dc0 pm0 cd0 ct0 : Value}
    {f1 : Addr} {od1 an1 : Option Addr} {sl1 : Array (Option Value)} {oc1 kV1 dc1 pm1 cd1 ct1 : Value}
    {f2 : Addr} {od2 an2 : Option Addr} {sl2 : Array (Option Value)} {oc2 kV2 dc2 pm2 cd2 ct2 : Value}
    {f3 : Addr} {od3 an3 : Option Addr} {sl3 : Array (Option Value)} {oc3 kV3 dc3 pm3 cd3 ct3 : Value}
    {f4 : Addr} {od4 an4 : Option Addr} {sl4 : Array (Option Value)} {oc4 kV4 dc4 pm4 cd4 ct4 : Value}
    {f5 : Addr} {od5 an5 : Option Addr} {sl5 : Array (Option Value)} {oc5 kV5 dc5 pm5 cd5 ct5 : Value}
    {f6 : Addr} {od6 an6 : Option Addr} {sl6 : Array (Option Value)} {oc6 kV6 dc6 pm6 cd6 ct6 : Value}
    {f7 : Addr} {od7 an7 : Option Addr} {sl7 : Array (Option Value)} {oc7 kV7 dc7 pm7 cd7 ct7 : Value}
    {f8 : Addr} {od8 an8 : Option Addr} {sl8 : Array (Option Value)} {oc8 kV8 dc8 pm8 cd8 ct8 : Value}
    {f9 : Addr} {od9 an9 : Option Addr} {sl9 : Array (Option Value)} {oc9 kV9 dc9 pm9 cd9 ct9 : Value}
    {f10 : Addr} {od10 an10 : Option Addr} {sl10 : Array (Option Value)} {oc10 kV10 dc10 pm10 cd10 ct10 : Value}
    {f11 : Addr} {od11 an11 : Option Addr} {sl11 : Array (Option Value)} {oc11 kV11 dc11 pm11 cd11 ct11 : Value}
    {f12 : Addr} {od12 an12 : Option Addr} {sl12 : Array (Option Value)} {oc12 kV12 dc12 pm12 cd12 ct12 : Value}
    {f13 : Addr} {od13 an13 : Option Addr} {sl13 : Array (Option Value)} {oc13 kV13 dc13 pm13 cd13 ct13 : Value}
    {f14 : Addr} {od14 an14 : Option Addr} {sl14 : Array (Option Value)} {oc14 kV14 dc14 pm14 cd14 ct14 : Value}
    {f15 : Addr} {od15 an15 : Option Addr} {sl15 : Array (Option Value)} {oc15 kV15 dc15 pm15 cd15 ct15 : Value}
    {f16 : Addr} {od16 an16 : Option Addr} {sl16 : Array (Option Value)} {oc16 kV16 dc16 pm16 cd16 ct16 : Value}
    {f17 : Addr} {od17 an17 : Option Addr} {sl17 : Array (Option Value)} {oc17 kV17 dc17 pm17 cd17 ct17 : Value}
    {f18 : Addr} {od18 an18 : Option Addr} {sl18 : Array (Option Value)} {oc18 kV18 dc18 pm18 cd18 ct18 : Value}
    {f19 : Addr} {od19 an19 : Option Addr} {sl19 : Array (Option Value)} {oc19 kV19 dc19 pm19 cd19 ct19 : Value}
    {f20 : Addr} {od20 an20 : Option Addr} {sl20 : Array (Option Value)} {oc20 kV20 dc20 pm20 cd20 ct20 : Value}
    {f21 : Addr} {od21 an21 : Option Addr} {sl21 : Array (Option Value)} {oc21 kV21 dc21 pm21 cd21 ct21 : Value}
    {f22 : Addr} {od22 an22 : Option Addr} {sl22 : Array (Option Value)} {oc22 kV22 dc22 pm22 cd22 ct22 : Value}
    {t_MOST_BENCHES : Tok}
    {t_MOST_WORKS : Tok}
    {t_MOST_LENGTH : Tok}
    {C_BenchError : Addr}
    {C_NoWorld : Addr}
    {C_NoOrder : Addr}
    {C_NoLengths : Addr}
    {C_NoWork : Addr}
    {C_NoSide : Addr}
    {C_Never : Addr}
    {C_TooMany : Addr}
    {C_NoStep : Addr}
    {C_NoNumber : Addr}
    {C_NoRow : Addr}
    {C_NoText : Addr}
    (a0 : PySem.W.nsIn K mainGlobals "is_whole_within" = some (some (.ref f0)))
    (l0 : K.lookup f0 = some ⟨oc0, od0, .func (PySem.W.fnOf "is_whole_within" "is_whole_within" (defArgs (top 17)) (defBody (top 17)) (defScope (top 17)) .none kV0 dc0 pm0 an0 cd0 ct0), sl0⟩)
    (c0 : PySem.W.codeIn K cd0 "is_whole_within" = true)
    (k0 : PySem.W.keepIn K (.ref f0) = true)
    (a1 : PySem.W.nsIn K mainGlobals "is_pair" = some (some (.ref f1)))
    (l1 : K.lookup f1 = some ⟨oc1, od1, .func (PySem.W.fnOf "is_pair" "is_pair" (defArgs (top 18)) (defBody (top 18)) (defScope (top 18)) .none kV1 dc1 pm1 an1 cd1 ct1), sl1⟩)
    (c1 : PySem.W.codeIn K cd1 "is_pair" = true)
    (k1 : PySem.W.keepIn K (.ref f1) = true)
    (a2 : PySem.W.nsIn K mainGlobals "are_bounds_of_work" = some (some (.ref f2)))
    (l2 : K.lookup f2 = some ⟨oc2, od2, .func (PySem.W.fnOf "are_bounds_of_work" "are_bounds_of_work" (defArgs (top 19)) (defBody (top 19)) (defScope (top 19)) .none kV2 dc2 pm2 an2 cd2 ct2), sl2⟩)
    (c2 : PySem.W.codeIn K cd2 "are_bounds_of_work" = true)
    (k2 : PySem.W.keepIn K (.ref f2) = true)
    (a3 : PySem.W.nsIn K mainGlobals "are_bounds" = some (some (.ref f3)))
    (l3 : K.lookup f3 = some ⟨oc3, od3, .func (PySem.W.fnOf "are_bounds" "are_bounds" (defArgs (top 20)) (defBody (top 20)) (defScope (top 20)) .none kV3 dc3 pm3 an3 cd3 ct3), sl3⟩)
    (c3 : PySem.W.codeIn K cd3 "are_bounds" = true)
    (k3 : PySem.W.keepIn K (.ref f3) = true)
    (a4 : PySem.W.nsIn K mainGlobals "is_world" = some (some (.ref f4)))
    (l4 : K.lookup f4 = some ⟨oc4, od4, .func (PySem.W.fnOf "is_world" "is_world" (defArgs (top 21)) (defBody (top 21)) (defScope (top 21)) .none kV4 dc4 pm4 an4 cd4 ct4), sl4⟩)
    (c4 : PySem.W.codeIn K cd4 "is_world" = true)
    (k4 : PySem.W.keepIn K (.ref f4) = true)
    (a5 : PySem.W.nsIn K mainGlobals "check_world" = some (some (.ref f5)))
    (l5 : K.lookup f5 = some ⟨oc5, od5, .func (PySem.W.fnOf "check_world" "check_world" (defArgs (top 22)) (defBody (top 22)) (defScope (top 22)) .none kV5 dc5 pm5 an5 cd5 ct5), sl5⟩)
    (c5 : PySem.W.codeIn K cd5 "check_world" = true)
    (k5 : PySem.W.keepIn K (.ref f5) = true)
    (a6 : PySem.W.nsIn K mainGlobals "how_many_benches" = some (some (.ref f6)))
    (l6 : K.lookup f6 = some ⟨oc6, od6, .func (PySem.W.fnOf "how_many_benches" "how_many_benches" (defArgs (top 23)) (defBody (top 23)) (defScope (top 23)) .none kV6 dc6 pm6 an6 cd6 ct6), sl6⟩)
    (c6 : PySem.W.codeIn K cd6 "how_many_benches" = true)
    (k6 : PySem.W.keepIn K (.ref f6) = true)
    (a7 : PySem.W.nsIn K mainGlobals "check_text" = some (some (.ref f7)))
    (l7 : K.lookup f7 = some ⟨oc7, od7, .func (PySem.W.fnOf "check_text" "check_text" (defArgs (top 25)) (defBody (top 25)) (defScope (top 25)) .none kV7 dc7 pm7 an7 cd7 ct7), sl7⟩)
    (c7 : PySem.W.codeIn K cd7 "check_text" = true)
    (k7 : PySem.W.keepIn K (.ref f7) = true)
    (a8 : PySem.W.nsIn K mainGlobals "read_number" = some (some (.ref f8)))
    (l8 : K.lookup f8 = some ⟨oc8, od8, .func (PySem.W.fnOf "read_number" "read_number" (defArgs (top 26)) (defBody (top 26)) (defScope (top 26)) .none kV8 dc8 pm8 an8 cd8 ct8), sl8⟩)
    (c8 : PySem.W.codeIn K cd8 "read_number" = true)
    (k8 : PySem.W.keepIn K (.ref f8) = true)
    (a9 : PySem.W.nsIn K mainGlobals "bounds_text" = some (some (.ref f9)))
    (l9 : K.lookup f9 = some ⟨oc9, od9, .func (PySem.W.fnOf "bounds_text" "bounds_text" (defArgs (top 27)) (defBody (top 27)) (defScope (top 27)) .none kV9 dc9 pm9 an9 cd9 ct9), sl9⟩)
    (c9 : PySem.W.codeIn K cd9 "bounds_text" = true)
    (k9 : PySem.W.keepIn K (.ref f9) = true)
    (a10 : PySem.W.nsIn K mainGlobals "read_bounds" = some (some (.ref f10)))
    (l10 : K.lookup f10 = some ⟨oc10, od10, .func (PySem.W.fnOf "read_bounds" "read_bounds" (defArgs (top 28)) (defBody (top 28)) (defScope (top 28)) .none kV10 dc10 pm10 an10 cd10 ct10), sl10⟩)
    (c10 : PySem.W.codeIn K cd10 "read_bounds" = true)
    (k10 : PySem.W.keepIn K (.ref f10) = true)
    (a11 : PySem.W.nsIn K mainGlobals "world_text" = some (some (.ref f11)))
    (l11 : K.lookup f11 = some ⟨oc11, od11, .func (PySem.W.fnOf "world_text" "world_text" (defArgs (top 29)) (defBody (top 29)) (defScope (top 29)) .none kV11 dc11 pm11 an11 cd11 ct11), sl11⟩)
    (c11 : PySem.W.codeIn K cd11 "world_text" = true)
    (k11 : PySem.W.keepIn K (.ref f11) = true)
    (a12 : PySem.W.nsIn K mainGlobals "read_world" = some (some (.ref f12)))
    (l12 : K.lookup f12 = some ⟨oc12, od12, .func (PySem.W.fnOf "read_world" "read_world" (defArgs (top 30)) (defBody (top 30)) (defScope (top 30)) .none kV12 dc12 pm12 an12 cd12 ct12), sl12⟩)
    (c12 : PySem.W.codeIn K cd12 "read_world" = true)
    (k12 : PySem.W.keepIn K (.ref f12) = true)
    (a13 : PySem.W.nsIn K mainGlobals "_law_cell_at" = some (some (.ref f13)))
    (l13 : K.lookup f13 = some ⟨oc13, od13, .func (PySem.W.fnOf "_law_cell_at" "_law_cell_at" (defArgs (top 32)) (defBody (top 32)) (defScope (top 32)) .none kV13 dc13 pm13 an13 cd13 ct13), sl13⟩)
    (c13 : PySem.W.codeIn K cd13 "_law_cell_at" = true)
    (k13 : PySem.W.keepIn K (.ref f13) = true)
    (a14 : PySem.W.nsIn K mainGlobals "_law_mixed" = some (some (.ref f14)))
    (l14 : K.lookup f14 = some ⟨oc14, od14, .func (PySem.W.fnOf "_law_mixed" "_law_mixed" (defArgs (top 33)) (defBody (top 33)) (defScope (top 33)) .none kV14 dc14 pm14 an14 cd14 ct14), sl14⟩)
    (c14 : PySem.W.codeIn K cd14 "_law_mixed" = true)
    (k14 : PySem.W.keepIn K (.ref f14) = true)
    (a15 : PySem.W.nsIn K mainGlobals "_law_draw" = some (some (.ref f15)))
    (l15 : K.lookup f15 = some ⟨oc15, od15, .func (PySem.W.fnOf "_law_draw" "_law_draw" (defArgs (top 34)) (defBody (top 34)) (defScope (top 34)) .none kV15 dc15 pm15 an15 cd15 ct15), sl15⟩)
    (c15 : PySem.W.codeIn K cd15 "_law_draw" = true)
    (k15 : PySem.W.keepIn K (.ref f15) = true)
    (a16 : PySem.W.nsIn K mainGlobals "_law_pick" = some (some (.ref f16)))
    (l16 : K.lookup f16 = some ⟨oc16, od16, .func (PySem.W.fnOf "_law_pick" "_law_pick" (defArgs (top 35)) (defBody (top 35)) (defScope (top 35)) .none kV16 dc16 pm16 an16 cd16 ct16), sl16⟩)
    (c16 : PySem.W.codeIn K cd16 "_law_pick" = true)
    (k16 : PySem.W.keepIn K (.ref f16) = true)
    (a17 : PySem.W.nsIn K mainGlobals "_law_world" = some (some (.ref f17)))
    (l17 : K.lookup f17 = some ⟨oc17, od17, .func (PySem.W.fnOf "_law_world" "_law_world" (defArgs (top 36)) (defBody (top 36)) (defScope (top 36)) .none kV17 dc17 pm17 an17 cd17 ct17), sl17⟩)
    (c17 : PySem.W.codeIn K cd17 "_law_world" = true)
    (k17 : PySem.W.keepIn K (.ref f17) = true)
    (a18 : PySem.W.nsIn K mainGlobals "_law_which" = some (some (.ref f18)))
    (l18 : K.lookup f18 = some ⟨oc18, od18, .func (PySem.W.fnOf "_law_which" "_law_which" (defArgs (top 40)) (defBody (top 40)) (defScope (top 40)) .none kV18 dc18 pm18 an18 cd18 ct18), sl18⟩)
    (c18 : PySem.W.codeIn K cd18 "_law_which" = true)
    (k18 : PySem.W.keepIn K (.ref f18) = true)
    (a19 : PySem.W.nsIn K mainGlobals "_law_ask" = some (some (.ref f19)))
    (l19 : K.lookup f19 = some ⟨oc19, od19, .func (PySem.W.fnOf "_law_ask" "_law_ask" (defArgs (top 41)) (defBody (top 41)) (defScope (top 41)) .none kV19 dc19 pm19 an19 cd19 ct19), sl19⟩)
    (c19 : PySem.W.codeIn K cd19 "_law_ask" = true)
    (k19 : PySem.W.keepIn K (.ref f19) = true)
    (a20 : PySem.W.nsIn K mainGlobals "_law_said" = some (some (.ref f20)))
    (l20 : K.lookup f20 = some ⟨oc20, od20, .func (PySem.W.fnOf "_law_said" "_law_said" (defArgs (top 42)) (defBody (top 42)) (defScope (top 42)) .none kV20 dc20 pm20 an20 cd20 ct20), sl20⟩)
    (c20 : PySem.W.codeIn K cd20 "_law_said" = true)
    (k20 : PySem.W.keepIn K (.ref f20) = true)
    (a21 : PySem.W.nsIn K mainGlobals "_law_due" = some (some (.ref f21)))
    (l21 : K.lookup f21 = some ⟨oc21, od21, .func (PySem.W.fnOf "_law_due" "_law_due" (defArgs (top 43)) (defBody (top 43)) (defScope (top 43)) .none kV21 dc21 pm21 an21 cd21 ct21), sl21⟩)
    (c21 : PySem.W.codeIn K cd21 "_law_due" = true)
    (k21 : PySem.W.keepIn K (.ref f21) = true)
    (a22 : PySem.W.nsIn K mainGlobals "law" = some (some (.ref f22)))
    (l22 : K.lookup f22 = some ⟨oc22, od22, .func (PySem.W.fnOf "law" "law" (defArgs (top 44)) (defBody (top 44)) (defScope (top 44)) .none kV22 dc22 pm22 an22 cd22 ct22), sl22⟩)
    (c22 : PySem.W.codeIn K cd22 "law" = true)
    (k22 : PySem.W.keepIn K (.ref f22) = true)
    (z_ValueError : PySem.W.nsIn K mainGlobals "ValueError" = some none)
    (z_all : PySem.W.nsIn K mainGlobals "all" = some none)
    (z_bool : PySem.W.nsIn K mainGlobals "bool" = some none)
    (z_dict : PySem.W.nsIn K mainGlobals "dict" = some none)
    (z_int : PySem.W.nsIn K mainGlobals "int" = some none)
    (z_isinstance : PySem.W.nsIn K mainGlobals "isinstance" = some none)
    (z_len : PySem.W.nsIn K mainGlobals "len" = some none)
    (z_min : PySem.W.nsIn K mainGlobals "min" = some none)
    (z_range : PySem.W.nsIn K mainGlobals "range" = some none)
    (z_str : PySem.W.nsIn K mainGlobals "str" = some none)
    (z_tuple : PySem.W.nsIn K mainGlobals "tuple" = some none)
    (x_MOST_BENCHES : PySem.W.nsIn K mainGlobals "MOST_BENCHES" = some (some (.int 4 t_MOST_BENCHES)))
    (x_MOST_WORKS : PySem.W.nsIn K mainGlobals "MOST_WORKS" = some (some (.int 10 t_MOST_WORKS)))
    (x_MOST_LENGTH : PySem.W.nsIn K mainGlobals "MOST_LENGTH" = some (some (.int 99 t_MOST_LENGTH)))
    (x_BenchError : PySem.W.nsIn K mainGlobals "BenchError" = some (some (.ref C_BenchError)))
    (q_BenchError : PySem.W.excIn K C_BenchError [.type "ValueError", .type "Exception", .type "BaseException", .type "object"] "ValueError.__new__" = true)
    (x_NoWorld : PySem.W.nsIn K mainGlobals "NoWorld" = some (some (.ref C_NoWorld)))
    (q_NoWorld : PySem.W.excIn K C_NoWorld [.type "ValueError", .type "Exception", .type "BaseException", .type "object"] "ValueError.__new__" = true)
    (x_NoOrder : PySem.W.nsIn K mainGlobals "NoOrder" = some (some (.ref C_NoOrder)))
    (q_NoOrder : PySem.W.excIn K C_NoOrder [.type "ValueError", .type "Exception", .type "BaseException", .type "object"] "ValueError.__new__" = true)
    (x_NoLengths : PySem.W.nsIn K mainGlobals "NoLengths" = some (some (.ref C_NoLengths)))
    (q_NoLengths : PySem.W.excIn K C_NoLengths [.type "ValueError", .type "Exception", .type "BaseException", .type "object"] "ValueError.__new__" = true)
    (x_NoWork : PySem.W.nsIn K mainGlobals "NoWork" = some (some (.ref C_NoWork)))
    (q_NoWork : PySem.W.excIn K C_NoWork [.type "ValueError", .type "Exception", .type "BaseException", .type "object"] "ValueError.__new__" = true)
    (x_NoSide : PySem.W.nsIn K mainGlobals "NoSide" = some (some (.ref C_NoSide)))
    (q_NoSide : PySem.W.excIn K C_NoSide [.type "ValueError", .type "Exception", .type "BaseException", .type "object"] "ValueError.__new__" = true)
    (x_Never : PySem.W.nsIn K mainGlobals "Never" = some (some (.ref C_Never)))
    (q_Never : PySem.W.excIn K C_Never [.type "ValueError", .type "Exception", .type "BaseException", .type "object"] "ValueError.__new__" = true)
    (x_TooMany : PySem.W.nsIn K mainGlobals "TooMany" = some (some (.ref C_TooMany)))
    (q_TooMany : PySem.W.excIn K C_TooMany [.type "ValueError", .type "Exception", .type "BaseException", .type "object"] "ValueError.__new__" = true)
    (x_NoStep : PySem.W.nsIn K mainGlobals "NoStep" = some (some (.ref C_NoStep)))
    (q_NoStep : PySem.W.excIn K C_NoStep [.type "ValueError", .type "Exception", .type "BaseException", .type "object"] "ValueError.__new__" = true)
    (x_NoNumber : PySem.W.nsIn K mainGlobals "NoNumber" = some (some (.ref C_NoNumber)))
    (q_NoNumber : PySem.W.excIn K C_NoNumber [.type "ValueError", .type "Exception", .type "BaseException", .type "object"] "ValueError.__new__" = true)
    (x_NoRow : PySem.W.nsIn K mainGlobals "NoRow" = some (some (.ref C_NoRow)))
    (q_NoRow : PySem.W.excIn K C_NoRow [.type "ValueError", .type "Exception", .type "BaseException", .type "object"] "ValueError.__new__" = true)
    (x_NoText : PySem.W.nsIn K mainGlobals "NoText" = some (some (.ref C_NoText)))
    (q_NoText : PySem.W.excIn K C_NoText [.type "ValueError", .type "Exception", .type "BaseException", .type "object"] "ValueError.__new__" = true)
    {cd_NoText : ClassData}
    (v10_ga : PySem.W.findIn K (.ref C_NoText) "__getattribute__" = some (some (.builtin "BaseException.__getattribute__")))
    (v10_gt : PySem.W.findIn K (.ref C_NoText) "__getattr__" = some none)
    (v10_cl : PySem.W.findIn K (.ref C_NoText) "__class__" = some (some (.builtin "object.__class__")))
    (v10_mo : PySem.W.mroIn K C_NoText (.type "object") = some true)
    (v10_mb : PySem.W.mroIn K C_NoText (.type "BaseException") = some true)
    (v10_is : PySem.W.clsIn K C_NoText = some cd_NoText)
    (v10_0 : PySem.W.kitOne K (.ref C_NoText) (.ref C_NoWorld) = some false)
    (v10_1 : PySem.W.kitOne K (.ref C_NoText) (.ref C_NoOrder) = some false)
    (v10_2 : PySem.W.kitOne K (.ref C_NoText) (.ref C_NoLengths) = some false)
    (v10_3 : PySem.W.kitOne K (.ref C_NoText) (.ref C_NoWork) = some false)
    (v10_4 : PySem.W.kitOne K (.ref C_NoText) (.ref C_NoSide) = some false)
    (v10_5 : PySem.W.kitOne K (.ref C_NoText) (.ref C_Never) = some false)
    (v10_6 : PySem.W.kitOne K (.ref C_NoText) (.ref C_TooMany) = some false)
    (v10_7 : PySem.W.kitOne K (.ref C_NoText) (.ref C_NoStep) = some false)
    (v10_8 : PySem.W.kitOne K (.ref C_NoText) (.ref C_NoNumber) = some false)
    (v10_9 : PySem.W.kitOne K (.ref C_NoText) (.ref C_NoRow) = some false)
    (v10_10 : PySem.W.kitOne K (.ref C_NoText) (.ref C_NoText) = some true)
    (v10_ve : PySem.W.kitOne K (.ref C_NoText) (.type "ValueError") = some true)
    (v10_up : PySem.W.mroIn K C_NoText (.ref C_BenchError) = some true)
    (v_ba : PySem.W.mroIn K C_BenchError (.type "BaseException") = some true) : ∃ T : Txt K mg, Errs T :=
  ⟨{ is_whole_within := def_mk X G a0 l0 c0 k0 (fun _ _ _ _ _ _ => ar3 fun _ _ _ => rfl),
     is_pair := def_mk X G a1 l1 c1 k1 (fun _ _ _ _ _ _ => ar1 fun _ => rfl),
     are_bounds_of_work := def_mk X G a2 l2 c2 k2 (fun _ _ _ _ _ _ => ar1 fun _ => rfl),
     are_bounds := def_mk X G a3 l3 c3 k3 (fun _ _ _ _ _ _ => ar1 fun _ => rfl),
     is_world := def_mk X G a4 l4 c4 k4 (fun _ _ _ _ _ _ => ar1 fun _ => rfl),
     check_world := def_mk X G a5 l5 c5 k5 (fun _ _ _ _ _ _ => ar1 fun _ => rfl),
     how_many_benches := def_mk X G a6 l6 c6 k6 (fun _ _ _ _ _ _ => ar1 fun _ => rfl),
     check_text := def_mk X G a7 l7 c7 k7 (fun _ _ _ _ _ _ => ar1 fun _ => rfl),
     read_number := def_mk X G a8 l8 c8 k8 (fun _ _ _ _ _ _ => ar3 fun _ _ _ => rfl),
     bounds_text := def_mk X G a9 l9 c9 k9 (fun _ _ _ _ _ _ => ar2 fun _ _ => rfl),
     read_bounds := def_mk X G a10 l10 c10 k10 (fun _ _ _ _ _ _ => ar1 fun _ => rfl),
     world_text := def_mk X G a11 l11 c11 k11 (fun _ _ _ _ _ _ => ar1 fun _ => rfl),
     read_world := def_mk X G a12 l12 c12 k12 (fun _ _ _ _ _ _ => ar1 fun _ => rfl),
     law_cell_at := def_mk X G a13 l13 c13 k13 (fun _ _ _ _ _ _ => ar2 fun _ _ => rfl),
     law_mixed := def_mk X G a14 l14 c14 k14 (fun _ _ _ _ _ _ => ar3 fun _ _ _ => rfl),
     law_draw := def_mk X G a15 l15 c15 k15 (fun _ _ _ _ _ _ => ar3 fun _ _ _ => rfl),
     law_pick := def_mk X G a16 l16 c16 k16 (fun _ _ _ _ _ _ => ar3 fun _ _ _ => rfl),
     law_world := def_mk X G a17 l17 c17 k17 (fun _ _ _ _ _ _ => ar4 fun _ _ _ _ => rfl),
     law_which := def_mk X G a18 l18 c18 k18 (fun _ _ _ _ _ _ => ar1 fun _ => rfl),
     law_ask := def_mk X G a19 l19 c19 k19 (fun _ _ _ _ _ _ => ar1 fun _ => rfl),
     law_said := def_mk X G a20 l20 c20 k20 (fun _ _ _ _ _ _ => ar1 fun _ => rfl),
     law_due := def_mk X G a21 l21 c21 k21 (fun _ _ _ _ _ _ => ar1 fun _ => rfl),
     law := def_mk X G a22 l22 c22 k22 (fun _ _ _ _ _ _ => ar1 fun _ => rfl),
     n_ValueError := PySem.W.mg_none_of X G z_ValueError,
     n_all := PySem.W.mg_none_of X G z_all,
     n_bool := PySem.W.mg_none_of X G z_bool,
     n_dict := PySem.W.mg_none_of X G z_dict,
     n_int := PySem.W.mg_none_of X G z_int,
     n_isinstance := PySem.W.mg_none_of X G z_isinstance,
     n_len := PySem.W.mg_none_of X G z_len,
     n_min := PySem.W.mg_none_of X G z_min,
     n_range := PySem.W.mg_none_of X G z_range,
     n_str := PySem.W.mg_none_of X G z_str,
     n_tuple := PySem.W.mg_none_of X G z_tuple,
     c_MOST_BENCHES := ⟨_, PySem.W.mg_of X G x_MOST_BENCHES⟩,
     c_MOST_WORKS := ⟨_, PySem.W.mg_of X G x_MOST_WORKS⟩,
     c_MOST_LENGTH := ⟨_, PySem.W.mg_of X G x_MOST_LENGTH⟩,
     e_BenchError := ⟨C_BenchError, PySem.W.mg_of X G x_BenchError, q_BenchError⟩,
     e_NoWorld := ⟨C_NoWorld, PySem.W.mg_of X G x_NoWorld, q_NoWorld⟩,
     e_NoOrder := ⟨C_NoOrder, PySem.W.mg_of X G x_NoOrder, q_NoOrder⟩,
     e_NoLengths := ⟨C_NoLengths, PySem.W.mg_of X G x_NoLengths, q_NoLengths⟩,
     e_NoWork := ⟨C_NoWork, PySem.W.mg_of X G x_NoWork, q_NoWork⟩,
     e_NoSide := ⟨C_NoSide, PySem.W.mg_of X G x_NoSide, q_NoSide⟩,
     e_Never := ⟨C_Never, PySem.W.mg_of X G x_Never, q_Never⟩,
     e_TooMany := ⟨C_TooMany, PySem.W.mg_of X G x_TooMany, q_TooMany⟩,
     e_NoStep := ⟨C_NoStep, PySem.W.mg_of X G x_NoStep, q_NoStep⟩,
     e_NoNumber := ⟨C_NoNumber, PySem.W.mg_of X G x_NoNumber, q_NoNumber⟩,
     e_NoRow := ⟨C_NoRow, PySem.W.mg_of X G x_NoRow, q_NoRow⟩,
     e_NoText := ⟨C_NoText, PySem.W.mg_of X G x_NoText, q_NoText⟩ },
   ⟨⟨⟨v10_ga, v10_gt, v10_cl, v10_mo, v10_mb, (by rw [v10_is]; rfl)⟩, rfl, AllIs.at (.cons v10_0 (.cons v10_1 (.cons v10_2 (.cons v10_3 (.cons v10_4 (.cons v10_5 (.cons v10_6 (.cons v10_7 (.cons v10_8 (.cons v10_9 (.cons v10_10 (.nil)))))))))))), v10_ve, rfl, rfl, no_at (by decide)⟩,
    v10_up,
    v_ba⟩⟩

theorem walk {l : PySem.W.OpenLaw} {q : Program} {loose : List Str} {XP : (Str → Option Value) → Heap → Prop} {YP : World → Heap → Prop} {d : DefRec} {K : Params → PySem.W.Frag} (hn : l.most = some 63) (hdf : d.params.defaults = [])
    (hY : ∀ (w : World) (h : Heap), YP w h → (K w.params).In h) (hd : d.name = "law")
    (F : ∀ (w : World) (mg : Str → Option Value) (h : Heap), (K w.params).In h → h.Ns mainGlobals mg → ∃ T : Txt (K w.params) mg, Errs T) :
    PySem.W.WalkO q loose XP YP l.row.toRowW d [] (fun f vs => PySem.call f vs) := by
  refine walk_of (l := l) (n := 63) (k := 7) (x := "_law_script") (K := K) (CX := fun w => CXr l.prog w) (sp := fun w => sp_law (K w.params)) hn (by decide) hdf ⟨rfl, by decide, by decide⟩ hY ?_ ?_ ?_
  · intro w mg fa h KX G hmg
    obtain ⟨T, Z⟩ := F w mg h KX G
    rw [hd] at hmg
    have e : T.law.a = fa := by
      have z := T.law.m.symm.trans hmg
      injection z with z
      injection z
    subst e
    obtain ⟨oc, od, kV, doc, pm, an, cdv, ct, osl, ed, lk, hcd⟩ := T.law.F.ex
    refine ⟨T.law.d, fun s u => ?_, fun base _ _ => ok_law T Z⟩
    rw [ed]
    exact .of_eq rfl
  · intro w H a ns hl hO hS
    exact ⟨a, ns, rfl, Scr.of hS hO, fun _ => rfl⟩
  · intro w H s e s' h
    obtain ⟨_, _, _, _, _, _, _, z⟩ := h
    exact z
end Be
def PySem.W.Fast.tw9713771822527741215 : Unit := ()
def PySem.W.Fast.tw1869031315232413674 : Unit := ()
def PySem.W.Fast.tw3956840779093397447 : Unit := ()
def PySem.W.Fast.tw1783392731363100928 : Unit := ()
def PySem.W.Fast.tw15312250688891480422 : Unit := ()
def PySem.W.Fast.tw5346072731309603073 : Unit := ()
def PySem.W.Fast.tw3454084439188574170 : Unit := ()
def PySem.W.Fast.tw14498094906931192329 : Unit := ()
def PySem.W.Fast.tw17819636907269435663 : Unit := ()
def PySem.W.Fast.tw5498717078607937490 : Unit := ()
def PySem.W.Fast.tw8667524850798558827 : Unit := ()
def PySem.W.Fast.tw8540190325898057261 : Unit := ()
def PySem.W.Fast.tw12107620518629593973 : Unit := ()
def PySem.W.Fast.tw7320215338628024581 : Unit := ()
def PySem.W.Fast.tw6567808042702269503 : Unit := ()
def PySem.W.Fast.tw3845259359576986234 : Unit := ()
def PySem.W.Fast.tw4853468878888777870 : Unit := ()
def PySem.W.Fast.tw14746367458973551719 : Unit := ()
def PySem.W.Fast.tw4791667213136092124 : Unit := ()
def PySem.W.Fast.tw11888359122690005680 : Unit := ()
def PySem.W.Fast.tw14068086716954500242 : Unit := ()
def PySem.W.Fast.tw3645680483209165590 : Unit := ()
def PySem.W.Fast.tw16495046159776279212 : Unit := ()
def PySem.W.Fast.tw15728790401874497606 : Unit := ()
def PySem.W.Fast.tw11003225821976302836 : Unit := ()
def PySem.W.Fast.tw8545798307158945905 : Unit := ()
def PySem.W.Fast.tw9061437669556078573 : Unit := ()
def PySem.W.Fast.tw1523347167266057997 : Unit := ()
def PySem.W.Fast.tw4814950133990562700 : Unit := ()
def PySem.W.Fast.tw16014201510666490897 : Unit := ()
def PySem.W.Fast.tw7447583458897250120 : Unit := ()
def PySem.W.Fast.tw9921524429019302552 : Unit := ()
def PySem.W.Fast.tw6505999577992821367 : Unit := ()
def PySem.W.Fast.tw4159471838353804595 : Unit := ()
def PySem.W.Fast.tw5633497819869642604 : Unit := ()
def PySem.W.Fast.tw13906792300972434980 : Unit := ()
def PySem.W.Fast.tw16522544745428362087 : Unit := ()
def PySem.W.Fast.tw15576644416206047434 : Unit := ()
def PySem.W.Fast.tw2437117062798983349 : Unit := ()
def PySem.W.Fast.tw6535938298272314439 : Unit := ()
def PySem.W.Fast.tw10986786503045392775 : Unit := ()
def PySem.W.Fast.tw14530203860101787059 : Unit := ()
def PySem.W.Fast.tw2658576932699089236 : Unit := ()
def PySem.W.Fast.tw6110914986808697601 : Unit := ()
def PySem.W.Fast.tw4191814399678016217 : Unit := ()
def PySem.W.Fast.tw8960119595737132413 : Unit := ()
def PySem.W.Fast.tw777705027349272059 : Unit := ()
def PySem.W.Fast.tw10658616958271230385 : Unit := ()
def PySem.W.Fast.tw2048436535870329390 : Unit := ()
def PySem.W.Fast.tw8600272187269601506 : Unit := ()
def PySem.W.Fast.tw13612237287648061785 : Unit := ()
def PySem.W.Fast.tw11777535993785300068 : Unit := ()
def PySem.W.Fast.tw11682950849108759705 : Unit := ()
def PySem.W.Fast.tw1247641691733182436 : Unit := ()
def PySem.W.Fast.tw8051650899012124825 : Unit := ()
def PySem.W.Fast.tw3646131932878990922 : Unit := ()
def PySem.W.Fast.tw13234183153414173165 : Unit := ()
def PySem.W.Fast.tw7722363082864986665 : Unit := ()
def PySem.W.Fast.tw13546468661180193458 : Unit := ()
def PySem.W.Fast.tw14883639189464576863 : Unit := ()
def PySem.W.Fast.tw5196695392227668695 : Unit := ()
open PySem PySem.W PyProof.Rows
set_option maxRecDepth 100000 in
set_option maxHeartbeats 0 in
theorem PySem.Challenge.cw_benchends_k22_whole_world_texts_holds : PySem.Challenge.rw_benchends_k22_whole_world_texts.Holds := by
  w_on; o_law; k_head; (case hw => w_witness2)
  k_fill
  refine Be.walk (l := PySem.Challenge.rw_benchends_k22_whole_world_texts) rfl rfl (fun w h Y => PySem.W.kIn_of Y) rfl ?F
  case F =>
    intro w mg h KX G
    refine' Be.txt_mk KX G ?a0 ?l0 ?c0 ?k0 ?a1 ?l1 ?c1 ?k1 ?a2 ?l2 ?c2 ?k2 ?a3 ?l3 ?c3 ?k3 ?a4 ?l4 ?c4 ?k4 ?a5 ?l5 ?c5 ?k5 ?a6 ?l6 ?c6 ?k6 ?a7 ?l7 ?c7 ?k7 ?a8 ?l8 ?c8 ?k8 ?a9 ?l9 ?c9 ?k9 ?a10 ?l10 ?c10 ?k10 ?a11 ?l11 ?c11 ?k11 ?a12 ?l12 ?c12 ?k12 ?a13 ?l13 ?c13 ?k13 ?a14 ?l14 ?c14 ?k14 ?a15 ?l15 ?c15 ?k15 ?a16 ?l16 ?c16 ?k16 ?a17 ?l17 ?c17 ?k17 ?a18 ?l18 ?c18 ?k18 ?a19 ?l19 ?c19 ?k19 ?a20 ?l20 ?c20 ?k20 ?a21 ?l21 ?c21 ?k21 ?a22 ?l22 ?c22 ?k22 ?z_ValueError ?z_all ?z_bool ?z_dict ?z_int ?z_isinstance ?z_len ?z_min ?z_range ?z_str ?z_tuple ?x_MOST_BENCHES ?x_MOST_WORKS ?x_MOST_LENGTH ?x_BenchError ?q_BenchError ?x_NoWorld ?q_NoWorld ?x_NoOrder ?q_NoOrder ?x_NoLengths ?q_NoLengths ?x_NoWork ?q_NoWork ?x_NoSide ?q_NoSide ?x_Never ?q_Never ?x_TooMany ?q_TooMany ?x_NoStep ?q_NoStep ?x_NoNumber ?q_NoNumber ?x_NoRow ?q_NoRow ?x_NoText ?q_NoText ?v10_ga ?v10_gt ?v10_cl ?v10_mo ?v10_mb ?v10_is ?v10_0 ?v10_1 ?v10_2 ?v10_3 ?v10_4 ?v10_5 ?v10_6 ?v10_7 ?v10_8 ?v10_9 ?v10_10 ?v10_ve ?v10_up ?v_ba
    (case a0 => k_is)
    (case l0 => k_is)
    (case c0 => k_is)
    (case k0 => k_is)
    (case a1 => k_is)
    (case l1 => k_is)
    (case c1 => k_is)
    (case k1 => k_is)
    (case a2 => k_is)
    (case l2 => k_is)
    (case c2 => k_is)
    (case k2 => k_is)
    (case a3 => k_is)
    (case l3 => k_is)
    (case c3 => k_is)
    (case k3 => k_is)
    (case a4 => k_is)
    (case l4 => k_is)
    (case c4 => k_is)
    (case k4 => k_is)
    (case a5 => k_is)
    (case l5 => k_is)
    (case c5 => k_is)
    (case k5 => k_is)
    (case a6 => k_is)
    (case l6 => k_is)
    (case c6 => k_is)
    (case k6 => k_is)
    (case a7 => k_is)
    (case l7 => k_is)
    (case c7 => k_is)
    (case k7 => k_is)
    (case a8 => k_is)
    (case l8 => k_is)
    (case c8 => k_is)
    (case k8 => k_is)
    (case a9 => k_is)
    (case l9 => k_is)
    (case c9 => k_is)
    (case k9 => k_is)
    (case a10 => k_is)
    (case l10 => k_is)
    (case c10 => k_is)
    (case k10 => k_is)
    (case a11 => k_is)
    (case l11 => k_is)
    (case c11 => k_is)
    (case k11 => k_is)
    (case a12 => k_is)
    (case l12 => k_is)
    (case c12 => k_is)
    (case k12 => k_is)
    (case a13 => k_is)
    (case l13 => k_is)
    (case c13 => k_is)
    (case k13 => k_is)
    (case a14 => k_is)
    (case l14 => k_is)
    (case c14 => k_is)
    (case k14 => k_is)
    (case a15 => k_is)
    (case l15 => k_is)
    (case c15 => k_is)
    (case k15 => k_is)
    (case a16 => k_is)
    (case l16 => k_is)
    (case c16 => k_is)
    (case k16 => k_is)
    (case a17 => k_is)
    (case l17 => k_is)
    (case c17 => k_is)
    (case k17 => k_is)
    (case a18 => k_is)
    (case l18 => k_is)
    (case c18 => k_is)
    (case k18 => k_is)
    (case a19 => k_is)
    (case l19 => k_is)
    (case c19 => k_is)
    (case k19 => k_is)
    (case a20 => k_is)
    (case l20 => k_is)
    (case c20 => k_is)
    (case k20 => k_is)
    (case a21 => k_is)
    (case l21 => k_is)
    (case c21 => k_is)
    (case k21 => k_is)
    (case a22 => k_is)
    (case l22 => k_is)
    (case c22 => k_is)
    (case k22 => k_is)
    (case z_ValueError => k_is)
    (case z_all => k_is)
    (case z_bool => k_is)
    (case z_dict => k_is)
    (case z_int => k_is)
    (case z_isinstance => k_is)
    (case z_len => k_is)
    (case z_min => k_is)
    (case z_range => k_is)
    (case z_str => k_is)
    (case z_tuple => k_is)
    (case x_MOST_BENCHES => k_is)
    (case x_MOST_WORKS => k_is)
    (case x_MOST_LENGTH => k_is)
    (case x_BenchError => k_is)
    (case q_BenchError => k_exc)
    (case x_NoWorld => k_is)
    (case q_NoWorld => k_exc)
    (case x_NoOrder => k_is)
    (case q_NoOrder => k_exc)
    (case x_NoLengths => k_is)
    (case q_NoLengths => k_exc)
    (case x_NoWork => k_is)
    (case q_NoWork => k_exc)
    (case x_NoSide => k_is)
    (case q_NoSide => k_exc)
    (case x_Never => k_is)
    (case q_Never => k_exc)
    (case x_TooMany => k_is)
    (case q_TooMany => k_exc)
    (case x_NoStep => k_is)
    (case q_NoStep => k_exc)
    (case x_NoNumber => k_is)
    (case q_NoNumber => k_exc)
    (case x_NoRow => k_is)
    (case q_NoRow => k_exc)
    (case x_NoText => k_is)
    (case q_NoText => k_exc)
    (case v10_ga => k_is)
    (case v10_gt => k_is)
    (case v10_cl => k_is)
    (case v10_mo => k_is)
    (case v10_mb => k_is)
    (case v10_is => k_is)
    (case v10_0 => kit_is)
    (case v10_1 => kit_is)
    (case v10_2 => kit_is)
    (case v10_3 => kit_is)
    (case v10_4 => kit_is)
    (case v10_5 => kit_is)
    (case v10_6 => kit_is)
    (case v10_7 => kit_is)
    (case v10_8 => kit_is)
    (case v10_9 => kit_is)
    (case v10_10 => kit_is)
    (case v10_ve => kit_is)
    (case v10_up => k_is)
    (case v_ba => k_is)
