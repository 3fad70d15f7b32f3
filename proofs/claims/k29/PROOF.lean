import PyProof.Rows.All
import Wide.All
import OpenK.AllK
import Wide.FinOn
import Lean
import PyProof.EqAt
import PyProof.EqKinds
import PyProof.TupleCall
import PyProof.Rows.EqDataRows
import PyProof.ConsumeWalk
import PyProof.ZipIter
import KE.RegKIsAll
import PyProof.Rows.MinMaxN
import PyProof.SumWalk
import KE.KTupSum
import PyProof.Rows.SortWalk
import PyProof.CompUse
import KE.KSortTup
import PyProof.TupleKey
import PyProof.FactsAll.tuple
import PyProof.DictKinds
import PyProof.ListMulRoad
import PyProof.CallStr
import KE.KRevSl
import PyProof.EnumMake
import PyProof.Cells
import PyProof.ListRange
import PyProof.DictWalks
import PyProof.CollectIter
import PySem.SetTable
import PySem.SetOps
import PyProof.SetScanFacts
import KE.KEqDict
import PySem.Challenge.RW_benchends_k29_whole_chances
set_option genSizeOf false
set_option Elab.async false
set_option linter.all false
set_option maxRecDepth 100000
namespace L2
open PySem PySem.Spec PyProof.Rows
abbrev Key := Sum Int Str
def keyIs : Key -> Value -> Bool
 | .inl k, v => Value.isInt k v
 | .inr x, v => Value.isStrOf x v
def keyH (w : World) : Key -> Int
 | .inl k => hashInt k
 | .inr x => hashStr w x
theorem keyIs_shape : ∀ {k : Key} {v : Value}, keyIs k v = true -> (∃ i t, k = Sum.inl i /\ v = Value.int i t) \/ (∃ x t, k = Sum.inr x /\ v = Value.str x t)
 | .inl i, v, h => by
  obtain ⟨t, e⟩ := Value.isInt_shape (k := i) (v := v) h
  exact .inl ⟨i, t, rfl,e⟩
 | .inr x, v, h => by
  obtain ⟨t, e⟩ := Value.isStrOf_shape (x := x) (v := v) h
  exact .inr ⟨x, t, rfl,e⟩
theorem keyIs_int (i : Int) (t : Tok) : keyIs (.inl i) (.int i t) = true := by simp [keyIs, Value.isInt]
theorem keyIs_str (x : Str) (t : Tok) : keyIs (.inr x) (.str x t) = true := by simp [keyIs, Value.isStrOf]
theorem key_ll (a b : Int) : decide ((Sum.inl a : Key) = Sum.inl b) = (a == b) := by
 by_cases e : a = b
 . subst e; simp
 . have h : ¬ (Sum.inl a : Key) = Sum.inl b := fun q => e (Sum.inl.inj q)
   rw [decide_eq_false h]
   exact (beq_eq_false_iff_ne.mpr e).symm
theorem key_rr (a b : Str) : decide ((Sum.inr a : Key) = Sum.inr b) = decide (a = b) := by
 by_cases e : a = b
 . subst e; simp
 . have h : ¬ (Sum.inr a : Key) = Sum.inr b := fun q => e (Sum.inr.inj q)
   rw [decide_eq_false h, decide_eq_false e]
theorem key_lr (a : Int) (b : Str) : decide ((Sum.inl a : Key) = Sum.inr b) = false := decide_eq_false (fun q => nomatch q)
theorem key_rl (a : Str) (b : Int) : decide ((Sum.inr a : Key) = Sum.inl b) = false := decide_eq_false (fun q => nomatch q)
def mixKind (prog : Program) (w : World) : PySem.KeyKind prog w Key where
 is := keyIs
 hash := keyH w
 inj := fun v a b ha hb => by
  rcases keyIs_shape ha with ⟨i, t, rfl,rfl⟩ | ⟨x, t, rfl,rfl⟩
  . rcases keyIs_shape hb with ⟨j, u, rfl,e⟩ | ⟨y, u, rfl,e⟩
    . injection e with e1 _; rw [e1]
    . exact nomatch e
  . rcases keyIs_shape hb with ⟨j, u, rfl,e⟩ | ⟨y, u, rfl,e⟩
    . exact nomatch e
    . injection e with e1 _; rw [e1]
 byValue := fun k v h => by
  rcases keyIs_shape h with ⟨i, t, rfl,rfl⟩ | ⟨x, t, rfl,rfl⟩ <;> rfl
 pyHash := fun hv h => by
  rcases keyIs_shape hv with ⟨i, t, rfl,rfl⟩ | ⟨x, t, rfl,rfl⟩
  . exact wpAny_pyHash_int h
  . exact wpAny_pyHash_str h
 eqBool := fun hu hv h => by
  rcases keyIs_shape hu with ⟨i, t, rfl,rfl⟩ | ⟨x, t, rfl,rfl⟩
  . rcases keyIs_shape hv with ⟨j, u, rfl,rfl⟩ | ⟨y, u, rfl,rfl⟩
    . rw [key_ll] at h; exact wpAny_eqBool_int h
    . rw [key_lr] at h; exact SeqAt.EqAt.int_str i t y u _ _ _ _ h
  . rcases keyIs_shape hv with ⟨j, u, rfl,rfl⟩ | ⟨y, u, rfl,rfl⟩
    . rw [key_rl] at h; exact SeqAt.EqAt.str_int x t j u _ _ _ _ h
    . rw [key_rr] at h; exact wpAny_eqBool_str h
 «strs» := fun k x t v h => by
  rcases keyIs_shape h with ⟨i, u, rfl,e⟩ | ⟨y, u, rfl,e⟩
  . exact nomatch e
  . injection e with e1 _
    subst e1
    cases v <;> rfl
theorem mixKind_int (prog : Program) (w : World) (i : Int) (t : Tok) : (mixKind prog w).is (.inl i) (.int i t) = true := keyIs_int i t
theorem mixKind_str (prog : Program) (w : World) (x : Str) (t : Tok) : (mixKind prog w).is (.inr x) (.str x t) = true := keyIs_str x t
end L2
namespace L2
open PySem PySem.Spec PyProof.Rows
inductive V where
 | non | bl (b : Bool) | int (i : Int) | str (x : Str) | byt (b : Array UInt8) | flt (b : UInt64) | ref (a : Addr) | ty (n : String)
 deriving DecidableEq
def RelV : V -> Value -> Prop
 | .non, u => u = Value.none
 | .bl b, u => u = Value.bool b
 | .int i, u => ∃ t, u = Value.int i t
 | .str x, u => ∃ t, u = Value.str x t
 | .byt b, u => ∃ t, u = Value.bytes b t
 | .flt b, u => ∃ t, u = Value.float b t
 | .ref a, u => u = Value.ref a
 | .ty n, u => u = Value.type n
abbrev Vals : List V -> List Value -> Prop := Paired RelV
theorem Vals.length {xs : List V} {us : List Value} (r : Vals xs us) : xs.length = us.length := Paired.length r
theorem Vals.get : ∀ {xs : List V} {us : List Value} {i : Nat} {x : V}, Vals xs us -> xs[i]? = some x -> ∃ u, us[i]? = some u /\ RelV x u
 | _,_,_,_,.nil, e => by simp at e
 | _,_,0, _,.cons r _,e => by simp at e; subst e; exact ⟨_,rfl,r⟩
 | _,_,i + 1, x, .cons _ t, e => by
  obtain ⟨u, h1, h2⟩ := Vals.get (i := i) (x := x) t (by simpa using e)
  exact ⟨u, by simpa using h1, h2⟩
theorem Vals.set {x : V} {u : Value} (r : RelV x u) : ∀ {xs : List V} {us : List Value} (i : Nat), Vals xs us -> Vals (xs.set i x) (us.set i u)
 | _,_,_,.nil => .nil
 | _,_,0, .cons _ t => .cons r t
 | _,_,i + 1, .cons q t => .cons q (Vals.set r i t)
theorem Vals.append : ∀ {xs ys : List V} {us ws : List Value}, Vals xs us -> Vals ys ws -> Vals (xs ++ ys) (us ++ ws)
 | _,_,_,_,.nil, s => s
 | _,_,_,_,.cons r t, s => .cons r (Vals.append t s)
theorem Vals.take : ∀ {xs : List V} {us : List Value} (n : Nat), Vals xs us -> Vals (xs.take n) (us.take n)
 | _,_,0, _ => .nil
 | _,_,_ + 1, .nil => .nil
 | _,_,n + 1, .cons r t => .cons r (Vals.take n t)
theorem Vals.drop : ∀ {xs : List V} {us : List Value} (n : Nat), Vals xs us -> Vals (xs.drop n) (us.drop n)
 | _,_,0, r => r
 | _,_,_ + 1, .nil => .nil
 | _,_,n + 1, .cons _ t => Vals.drop n t
def RelO : Option V -> Option Value -> Prop
 | some v, some u => RelV v u
 | none, none => True
 | _,_ => False
def KV {κ : Type} : List (κ × V) -> List (κ × Value) -> Prop := Paired fun (p : κ × V) (q : κ × Value) => p.1 = q.1 /\ RelV p.2 q.2
def kV : Key -> V
 | .inl i => .int i
 | .inr x => .str x
inductive HO where
 | lst (xs : List V)
 | tup (xs : List V)
 | dK (kvs : List (Key × V)) | dT (kvs : List (List Key × V))
 | set (S : Int -> Bool) (n : Nat)
 | ins (C dx : Addr) (fs : List (Str × V))
 | own (x : Addr)
 | xd (fs : List (Str × V))
 | met (f x : Addr)
 | rng (lo hi : Int)
 | frz (o : Obj) (u : HO)
 | tbl (ps : Array Value)
 | ext (φ : Heap -> Prop)
abbrev Hp := Addr -> Option HO
def upd (H : Hp) (a : Addr) (o : HO) : Hp := fun b => if b = a then some o else H b
theorem upd_same {H : Hp} {a : Addr} {o : HO} : upd H a o a = some o := by unfold upd; rw [if_pos rfl]
theorem upd_ne {H : Hp} {a b : Addr} {o : HO} (h : b ≠ a) : upd H a o b = H b := by unfold upd; rw [if_neg h]
theorem ne_of {H : Hp} {a b : Addr} {o u : HO} (h : H a = some o) (h' : H b = some u) (d : o ≠ u) : a ≠ b := by
 intro e; subst e; rw [h] at h'; exact d (Option.some.inj h')
theorem ne_of_none {H : Hp} {a b : Addr} {o : HO} (h : H a = some o) (h' : H b = none) : a ≠ b := by
 intro e; subst e; rw [h] at h'; cases h'
section
variable (P : Program) (w : World)
def TupP (h : Heap) (a : Addr) (items : Array Value) : Prop := ∃ o, h.get? a = some o /\ o.cls = .type "tuple" /\ o.dict = none /\ ∃ n, o.data = .seq items n
theorem TupP.t {h : Heap} {a : Addr} {items : Array Value} (p : TupP h a items) : IsTup h a items := let ⟨o, e, c, _,n, d⟩ := p; ⟨o, e, c, n, d⟩
theorem TupP.new (h : Heap) (items : Array Value) : TupP (h.push { cls := .type "tuple", data := .seq items }) h.objs.size items := ⟨_,Heap.get?_push_size _ rfl,rfl,rfl,0, rfl⟩
def ObjOk (H : Hp) (h : Heap) (a : Addr) : HO -> Prop
 | .lst xs => xs.length <= sizeLine /\ ∃ (its : List Value) (n : Nat), Vals xs its /\ h.get? a = some { cls := .type "list", data := .seq its.toArray n }
 | .tup xs => xs.length <= sizeLine /\ ∃ its : List Value, Vals xs its /\ TupP h a its.toArray
 | .dK kvs => kvs.length <= sizeLine /\ (a == sysModules) = false /\ ∃ vs, KV kvs vs /\ h.DictOf (mixKind P w) a vs
 | .dT kvs => kvs.length <= sizeLine /\ (a == sysModules) = false /\ ∃ xs : List (List Key × Addr × Value),
     Paired (fun (p : List Key × V) (q : List Key × Addr × Value) => p.1 = q.1 /\ H q.2.1 = some (.tup (p.1.map kV)) /\ RelV p.2 q.2.2) kvs xs /\
     ∃ o es ep, h.get? a = some o /\ o.ExactDict /\ o.data = .dict es ep /\ es.toList = xs.map (entryOfKey (tupleKind (mixKind P w))) /\ (xs.map (·.1)).Nodup
 | .set S n => h.SetOf (intKind P w) a S n
 | .ins C dx fs => H dx = some (.own a) /\ fs.length <= 1000 /\ dx ≠ a /\ h.get? a = some (PySem.W.instObj C dx) /\
     ∃ mA, h.Ns1 dx mA /\ (∀ f, RelO (fs.lookup f) (mA f)) /\ PySem.Within mA (fs.map (·.1))
 | .own _ => ∃ o, h.get? a = some o
 | .xd fs => ∃ mA, h.Ns1 a mA /\ ∀ f, RelO (fs.lookup f) (mA f)
 | .rng lo hi => ∃ t u v, h.get? a = some { cls := .type "range", data := .fields #[.int lo t, .int hi u, .int 1 v] }
 | .frz o u => h.get? a = some o /\ ObjOk H h a u
 | .tbl ps => h.get? a = some { cls := .none, data := .fields ps }
 | .met f x => h.get? a = some (PySem.W.methodObj (.ref f) (.ref x))
 | .ext φ => φ h /\ (∃ o, h.get? a = some o) /\ ∀ h1 h2 : Heap, φ h1 -> (∀ o, h1.get? a = some o -> h2.get? a = some o) -> φ h2
def HOk (H : Hp) (h : Heap) : Prop := ∀ a o, H a = some o -> ObjOk P w H h a o
end
section
variable {P : Program} {w : World} {H H' : Hp} {h h' : Heap} {a : Addr} {o : HO}
theorem ObjOk.lt (x : ObjOk P w H h a o) : a < h.objs.size := by
 cases o with
 | lst xs => obtain ⟨_,_,_,_,e⟩ := x; exact Heap.lt_size e
 | tup xs => obtain ⟨_,_,_,p⟩ := x; exact p.t.lt
 | dK kvs => obtain ⟨_,_,_,_,o, _,_,e, _⟩ := x; exact Heap.lt_size e
 | dT kvs => obtain ⟨_,_,_,_,o, _,_,e, _⟩ := x; exact Heap.lt_size e
 | set S n => obtain ⟨o, _,_,_,e, _⟩ := x; exact Heap.lt_size e
 | ins C dx fs => obtain ⟨_,_,_,e, _⟩ := x; exact Heap.lt_size e
 | own y => obtain ⟨_,e⟩ := x; exact Heap.lt_size e
 | xd fs => obtain ⟨_,⟨_,_,_,e, _⟩, _⟩ := x; exact Heap.lt_size e
 | rng lo hi => obtain ⟨_,_,_,e⟩ := x; exact Heap.lt_size e
 | frz ob u => obtain ⟨e, _⟩ := x; exact Heap.lt_size e
 | tbl ps => exact Heap.lt_size (show h.get? a = some _ from x)
 | met f y => exact Heap.lt_size (show h.get? a = some _ from x)
 | ext φ => obtain ⟨_,⟨_,e⟩, _⟩ := x; exact Heap.lt_size e
theorem Paired.mapP {α β : Type} {F G : α -> β -> Prop} : ∀ {l₁ : List α} {l₂ : List β}, Paired F l₁ l₂ -> (∀ a b, F a b -> G a b) -> Paired G l₁ l₂
 | _,_,.nil, _ => .nil
 | _,_,.cons r t, f => .cons (f _ _ r) (Paired.mapP t f)
theorem ObjOk.stay (x : ObjOk P w H h a o) (k : ∀ b u, (b = a \/ H b = some (.own a)) -> h.get? b = some u -> h'.get? b = some u)
    (ho : ∀ b, H b = some (.own a) -> H' b = some (.own a)) (ht : ∀ b xs, H b = some (.tup xs) -> H' b = some (.tup xs)) : ObjOk P w H' h' a o := by
 induction o with
 | lst xs => obtain ⟨z, its, n, r, e⟩ := x; exact ⟨z, its, n, r, k _ _ (.inl rfl) e⟩
 | tup xs => obtain ⟨z, its, r, ob, e, c⟩ := x; exact ⟨z, its, r, ob, k _ _ (.inl rfl) e, c⟩
 | dK kvs => obtain ⟨z, y, vs, r, ob, es, ep, e, c⟩ := x; exact ⟨z, y, vs, r, ob, es, ep, k _ _ (.inl rfl) e, c⟩
 | dT kvs =>
  obtain ⟨z, y, xs, r, ob, es, ep, e, c⟩ := x
  exact ⟨z, y, xs, Paired.mapP r fun p q z => ⟨z.1, ht _ _ z.2.1, z.2.2⟩, ob, es, ep, k _ _ (.inl rfl) e, c⟩
 | set S n => obtain ⟨ob, es, ep, t, e, c⟩ := x; exact ⟨ob, es, ep, t, k _ _ (.inl rfl) e, c⟩
 | ins C dx fs =>
  obtain ⟨d, z, ne, e, mA, ⟨od, es, ep, e2, c⟩, r⟩ := x
  exact ⟨ho _ d, z, ne, k _ _ (.inl rfl) e, mA, ⟨od, es, ep, k _ _ (.inr d) e2, c⟩, r⟩
 | own y => obtain ⟨ob, e⟩ := x; exact ⟨ob, k _ _ (.inl rfl) e⟩
 | xd fs => obtain ⟨mA, ⟨od, es, ep, e, c⟩, r⟩ := x; exact ⟨mA, ⟨od, es, ep, k _ _ (.inl rfl) e, c⟩, r⟩
 | rng lo hi => obtain ⟨t, u, v, e⟩ := x; exact ⟨t, u, v, k _ _ (.inl rfl) e⟩
 | frz ob u ih => obtain ⟨e, q⟩ := x; exact ⟨k _ _ (.inl rfl) e, ih q⟩
 | tbl ps =>
  have e : h.get? a = some { cls := .none, data := .fields ps } := x
  show h'.get? a = some { cls := .none, data := .fields ps }
  exact k a _ (.inl rfl) e
 | met f y =>
  have e : h.get? a = some (PySem.W.methodObj (.ref f) (.ref y)) := x
  show h'.get? a = some (PySem.W.methodObj (.ref f) (.ref y))
  exact k a _ (.inl rfl) e
 | ext φ => obtain ⟨p, ⟨o, e⟩, st⟩ := x; exact ⟨st _ _ p fun o q => k _ _ (.inl rfl) q, ⟨o, k _ _ (.inl rfl) e⟩, st⟩
theorem HOk.lt (x : HOk P w H h) (e : H a = some o) : a < h.objs.size := (x a o e).lt
theorem HOk.fresh (x : HOk P w H h) (e : h.objs.size <= a) : H a = none := by
 cases q : H a with
 | none => rfl
 | some u => exact absurd (Nat.lt_of_lt_of_le (x.lt q) e) (Nat.lt_irrefl _)
theorem HOk.kept (x : HOk P w H h) (k : ∀ b u, h.get? b = some u -> h'.get? b = some u) : HOk P w H h' := fun a o e =>
 (x a o e).stay (fun b u _ q => k b u q) (fun _ q => q) fun _ _ q => q
theorem HOk.laid (x : HOk P w H h) (k : ∀ b u, h.get? b = some u -> h'.get? b = some u) (hp : h.objs.size <= a) (new : ObjOk P w (upd H a o) h' a o) : HOk P w (upd H a o) h' := fun b u e => by
 have hn := x.fresh hp
 by_cases hb : b = a
 . subst hb; rw [upd_same] at e; cases e; exact new
 . rw [upd_ne hb] at e
   exact (x b u e).stay (fun c v _ q => k c v q) (fun c q => by rw [upd_ne (ne_of_none q hn)]; exact q) fun c xs q => by rw [upd_ne (ne_of_none q hn)]; exact q
end
def Rd (H : Hp) (a : Addr) (u : HO) : Prop := H a = some u \/ ∃ o, H a = some (.frz o u)
theorem Rd.ok {P : Program} {w : World} {H : Hp} {h : Heap} {a : Addr} {u : HO} (r : Rd H a u) (x : HOk P w H h) : ObjOk P w H h a u := by
 rcases r with r | ⟨o, r⟩
 . exact x a u r
 . obtain ⟨_,q⟩ := x a _ r
   exact q
def Mut : Option HO -> Prop
 | some (.lst _) => True
 | some (.dK _) => True
 | some (.dT _) => True
 | some (.set _ _) => True
 | some (.ins _ _ _) => True
 | some (.ext _) => True
 | _ => False
section
variable {P : Program} {w : World} {H : Hp} {h h' : Heap} {x e : Addr} {o' : HO}
theorem HOk.write (ok : HOk P w H h) (mu : Mut (H x)) (he : e = x \/ H e = some (.own x)) (k : ∀ b u, b ≠ e -> h.get? b = some u -> h'.get? b = some u) (heo : ∃ u, h'.get? e = some u)
    (new : ObjOk P w (upd H x o') h' x o') : HOk P w (upd H x o') h' := fun b u q => by
 have nown : ∀ c y, H c = some (.own y) -> c ≠ x := fun c y r z => by subst z; rw [r] at mu; exact mu
 have ntup : ∀ c xs, H c = some (.tup xs) -> c ≠ x := fun c xs r z => by subst z; rw [r] at mu; exact mu
 by_cases hb : b = x
 . subst hb; rw [upd_same] at q; cases q; exact new
 . rw [upd_ne hb] at q
   by_cases hbe : b = e
   . have q' : H b = some (.own x) := by
       rcases he with z | z
       . exact absurd (hbe.trans z) hb
       . rw [hbe]; exact z
     rw [q] at q'; cases q'
     obtain ⟨v, hv⟩ := heo
     exact ⟨v, by rw [hbe]; exact hv⟩
   . refine (ok b u q).stay (fun c v hc r => k c v ?_ r) (fun c r => by rw [upd_ne (nown c b r)]; exact r) fun c xs r => by rw [upd_ne (ntup c xs r)]; exact r
     rcases hc with rfl | hc
     . exact hbe
     . rintro rfl
       rcases he with z | z
       . exact nown c b hc z
       . rw [hc] at z; cases z; exact hb rfl
end
structure Un (fs ex : List Addr) (H H' : Hp) (h h' : Heap) : Prop where
 keep : ∀ b o, h.get? b = some o -> H b = none -> b ∉ fs -> b ∉ ex -> h'.get? b = some o
 slot : ∀ b o, h.get? b = some o -> H b = none -> b ∈ fs -> b ∉ ex -> ∃ sl, h'.get? b = some { o with slots := sl }
 free : ∀ b o, h.get? b = some o -> H b = none -> b ∉ ex -> H' b = none
 there : ∀ b o, h.get? b = some o -> b ∉ ex -> ∃ o', h'.get? b = some o'
 tups : ∀ b xs, H b = some (.tup xs) -> H' b = some (.tup xs)
 frzs : ∀ b o u, H b = some (.frz o u) -> H' b = some (.frz o u)
 tbls : ∀ b ps, H b = some (.tbl ps) -> ∃ more, H' b = some (.tbl (ps ++ more))
section
variable {fs fs' ex ex' : List Addr} {H H1 H2 : Hp} {h h1 h2 h' : Heap} {a x e : Addr} {o : HO}
theorem Un.any (u : Un fs ex H H1 h h1) {b : Addr} {ob : Obj} (q : h.get? b = some ob) (n : H b = none) (hx : b ∉ ex) : ∃ sl, h1.get? b = some { ob with slots := sl } := by
 by_cases hb : b ∈ fs
 . exact u.slot b ob q n hb hx
 . exact ⟨ob.slots, u.keep b ob q n hb hx⟩
theorem Un.kept (k : ∀ b u, h.get? b = some u -> h'.get? b = some u) : Un fs ex H H h h' :=
 ⟨fun b ob q _ _ _ => k b ob q, fun b ob q _ _ _ => ⟨ob.slots, k b ob q⟩, fun _ _ _ n _ => n, fun b ob q _ => ⟨ob, k b ob q⟩, fun _ _ q => q, fun _ _ _ q => q, fun _ ps q => ⟨#[], by rw [q]; simp⟩⟩
theorem Un.refl : Un fs ex H H h h := Un.kept fun _ _ q => q
theorem Un.laid (k : ∀ b u, h.get? b = some u -> h'.get? b = some u) (hp : h.objs.size <= a) (hn : H a = none) : Un fs ex H (upd H a o) h h' where
 keep := fun b u q _ _ _ => k b u q
 slot := fun b u q _ _ _ => ⟨u.slots, k b u q⟩
 free := fun b u q n _ => by rw [upd_ne (Nat.ne_of_lt (Nat.lt_of_lt_of_le (Heap.lt_size q) hp))]; exact n
 there := fun b u q _ => ⟨u, k b u q⟩
 tups := fun b xs q => by rw [upd_ne (ne_of_none q hn)]; exact q
 frzs := fun b u xs q => by rw [upd_ne (ne_of_none q hn)]; exact q
 tbls := fun b ps q => ⟨#[], by rw [upd_ne (ne_of_none q hn), q]; simp⟩
theorem Un.write (mu : Mut (H x)) (he : e = x \/ H e = some (.own x)) (k : ∀ b u, b ≠ e -> h.get? b = some u -> h'.get? b = some u) (heo : ∃ u, h'.get? e = some u) : Un fs ex H (upd H x o) h h' := by
 have hx : ∀ b, H b = none -> b ≠ x := fun b n z => by subst z; rw [n] at mu; exact mu
 have hb : ∀ b, H b = none -> b ≠ e := fun b n z => by
  subst z
  rcases he with r | r
  . exact hx b n r
  . rw [n] at r; cases r
 have hm : ∀ b u, H b = some u -> ¬ Mut (some u) -> b ≠ x := fun b u q nm z => by subst z; rw [q] at mu; exact nm mu
 refine ⟨fun b u q n _ _ => k b u (hb b n) q, fun b u q n _ _ => ⟨u.slots, k b u (hb b n) q⟩, fun b u q n _ => by rw [upd_ne (hx b n)]; exact n, fun b u q _ => ?_,
  fun b xs q => by rw [upd_ne (hm b _ q fun z => z)]; exact q, fun b u xs q => by rw [upd_ne (hm b _ q fun z => z)]; exact q, fun b ps q => ⟨#[], by rw [upd_ne (hm b _ q fun z => z), q]; simp⟩⟩
 by_cases hbe : b = e
 . subst hbe; exact heo
 . exact ⟨u, k b u hbe q⟩
end
def trk (h : Heap) (H : Hp) : List Addr := (List.range h.objs.size).filter fun a => (H a).isSome
def hidT (h : Heap) (H : Hp) : Heap := PySem.W.hideAll h (trk h H)
theorem hidT_size (h : Heap) (H : Hp) : (hidT h H).objs.size = h.objs.size := PySem.W.hideAll_size _ _
theorem hidT_get {h : Heap} {H : Hp} {b : Addr} {o : Obj} (e : h.get? b = some o) (n : H b = none) : (hidT h H).get? b = some o :=
 PySem.W.hideAll_get _ e fun hm => by
  have q : (H b).isSome = true := (List.mem_filter.mp hm).2
  rw [n] at q; simp at q
theorem of_hidT {h : Heap} {H : Hp} {b : Addr} {o : Obj} (e : (hidT h H).get? b = some o) : h.get? b = some o /\ H b = none := by
 have e' : h.get? b = some o := PySem.W.of_hideAll (trk h H) e
 refine ⟨e', ?_⟩
 cases q : H b with
 | none => rfl
 | some x =>
  have hm : b ∈ trk h H := List.mem_filter.mpr ⟨List.mem_range.mpr (Heap.lt_size e'), by simp [q]⟩
  have z : (hidT h H).get? b = none := PySem.W.hideAll_none (trk h H) hm
  rw [z] at e; cases e
end L2
namespace L2
open PySem PySem.Spec PyProof.Rows
structure Mod (K : PySem.W.Frag) (mg : Str -> Option Value) (base : Heap) : Prop where
 kin : K.In base
 glob : base.Ns mainGlobals mg
 blt : ∃ mb, base.Ns builtinsNs mb /\ ∀ x : Str, x ≠ "__name__" -> mb x = bootBuiltins x
 nolimit : base.NoLimit
structure Cx where
 prog : Program
 w : World
 K : PySem.W.Frag
 mg : Str -> Option Value
 base : Heap
 A : Around
 N : List Str
 s₀ : Shared
 H₀ : Hp
 env : Env
 outer : List Env
 stack : List Env
 ex : List Addr
 fn : Str -> Bool
 calm : Bool
 pn : List (Addr × Obj)
 xe : Value -> Shared -> Prop
def frs (l : List Env) : List Addr := l.filterMap (·.frame)
abbrev Cx.fs (X : Cx) : List Addr := frs X.outer
def Vis (sc : Scope) (x : Str) : Prop := sc.names.lookup x = some .local \/ sc.names.lookup x = some .cell \/ sc.names.lookup x = some .free
def Loc (sc : Scope) (x : Str) : Prop := sc.names.lookup x = some .local \/ sc.names.lookup x = some .cell
def Look (env : Env) (h : Heap) (m : Str -> Option Value) (x : Str) (u : Value) : Prop :=
 (env.kindOf x = some .local /\ m x = some u) \/ ((env.kindOf x = some .cell \/ env.kindOf x = some .free) /\ ∃ c, env.cells.lookup x = some c /\ h.IsCell c (some u))
structure Cx.Ok (X : Cx) : Prop where
 mod : Mod X.K X.mg X.base
 kind : X.env.scope.kind = .function
 glob : X.env.globals = mainGlobals
 blt : X.env.builtins = builtinsNs
 above : X.s₀.heap.objs.size <= X.env.locals
 inj : ∀ x y c, X.env.cells.lookup x = some c -> X.env.cells.lookup y = some c -> x = y
 has : ∀ x, (X.env.kindOf x = some .cell \/ X.env.kindOf x = some .free) -> ∃ c, X.env.cells.lookup x = some c
 cab : ∀ x c, X.fn x = true -> X.env.cells.lookup x = some c -> X.s₀.heap.objs.size <= c
 hd : X.calm = true -> X.A.handled = none
 frames : X.A.frames = some X.stack
 stk : X.stack = X.outer \/ (X.stack = X.env :: X.outer /\ X.env.frame = some X.env.locals)
 exf : ∀ b ∈ X.ex, b ≠ X.env.locals /\ ∀ x c, X.env.cells.lookup x = some c -> c ≠ b
 bs : ∀ b o, X.base.get? b = some o -> X.s₀.heap.get? b = some o /\ X.H₀ b = none
 bsz : X.base.objs.size <= X.s₀.heap.objs.size
 noex : ∀ b o, X.base.get? b = some o -> b ∉ X.ex
 exfs : ∀ b ∈ X.ex, b ∉ X.fs
 funs : X.s₀.heap.FunFrames X.base X.outer
 frf : ∀ b ∈ X.fs, X.H₀ b = none
structure Inv (X : Cx) (pins : List (Addr × Obj)) (σ : List (Option V)) (H : Hp) (s : Shared) : Prop where
 ok : X.Ok
 os : s.os = X.s₀.os
 bare : AllBare s.gens
 base : Un X.fs X.ex X.H₀ H X.s₀.heap s.heap
 loc : ∃ m, s.heap.Ns X.env.locals m /\ ∀ (i : Nat) (x : Str) (v : V), X.N[i]? = some x -> σ[i]? = some (some v) -> Vis X.env.scope x -> ∃ u, RelV v u /\ Look X.env s.heap m x u
 cell : ∀ x c, X.env.cells.lookup x = some c -> ∃ v, s.heap.IsCell c v
 free : H X.env.locals = none
 freeC : ∀ x c, X.env.cells.lookup x = some c -> H c = none
 pin : ∀ p ∈ X.pn ++ pins, s.heap.get? p.1 = some p.2 /\ H p.1 = none /\ p.1 ≠ X.env.locals /\ p.1 ∉ X.fs /\ ∀ v, p.2.data ≠ .cell v
 hok : HOk X.prog X.w H s.heap
 len : σ.length = X.N.length
section
variable {X : Cx} {pins : List (Addr × Obj)} {σ : List (Option V)} {H H' : Hp} {s : Shared} {h' : Heap}
theorem Cx.Ok.nofr (ok : X.Ok) {b : Addr} {o : Obj} (e : X.base.get? b = some o) : b ∉ X.fs := fun hb => by
 have := (ok.funs.mem hb).1
 rw [e] at this; cases this
theorem Inv.bs (I : Inv X pins σ H s) : ∀ b o, X.base.get? b = some o -> s.heap.get? b = some o /\ H b = none := fun b o e =>
 ⟨I.base.keep b o (I.ok.bs b o e).1 (I.ok.bs b o e).2 (I.ok.nofr e) (I.ok.noex b o e), I.base.free b o (I.ok.bs b o e).1 (I.ok.bs b o e).2 (I.ok.noex b o e)⟩
theorem Inv.bk (I : Inv X pins σ H s) : ∀ b o, X.base.get? b = some o -> s.heap.get? b = some o := fun b o e => (I.bs b o e).1
theorem Inv.mod (I : Inv X pins σ H s) : Mod X.K X.mg X.base := I.ok.mod
theorem Inv.kIn (I : Inv X pins σ H s) : X.K.In s.heap := I.ok.mod.kin.keeps I.bk
theorem Inv.fr (I : Inv X pins σ H s) : ∃ m, Fr X.base X.env.locals s.heap m :=
 let ⟨m, hn, _⟩ := I.loc
 ⟨m, hn, I.bk, Nat.le_trans I.ok.bsz I.ok.above⟩
theorem Inv.lt (I : Inv X pins σ H s) : X.env.locals < s.heap.objs.size := let ⟨_,hn, _⟩ := I.loc; hn.lt
theorem Inv.sz (I : Inv X pins σ H s) : X.s₀.heap.objs.size <= s.heap.objs.size := Nat.le_trans I.ok.above (Nat.le_of_lt I.lt)
theorem Inv.nofs (I : Inv X pins σ H s) {a : Addr} (h : s.heap.objs.size <= a) : a ∉ X.fs := fun hb => by
 obtain ⟨_,o, ho, _⟩ := I.ok.funs.mem hb
 exact absurd (Nat.lt_of_lt_of_le (Heap.lt_size ho) (Nat.le_trans I.sz h)) (Nat.lt_irrefl _)
theorem Inv.cne (I : Inv X pins σ H s) : ∀ x c, X.env.cells.lookup x = some c -> c ≠ X.env.locals := fun x c e z => by
 obtain ⟨v, o, ho, hd⟩ := I.cell x c e
 obtain ⟨m, ⟨o', es, ep, ho', hd', _⟩, _⟩ := I.loc
 rw [z, ho'] at ho; cases ho; rw [hd'] at hd; cases hd
theorem Inv.funs (I : Inv X pins σ H s) : s.heap.FunFrames X.base X.outer := by
 have all : ∀ (l : List Env), (∀ b ∈ frs l, b ∈ X.fs) -> X.s₀.heap.FunFrames X.base l -> s.heap.FunFrames X.base l := by
  intro l
  induction l with
  | nil => intro _ _; trivial
  | cons env r ih =>
   intro hs hl
   obtain ⟨hk, ⟨L, o, hf, hn, ho, hd⟩, hr⟩ := hl
   have hL : L ∈ X.fs := hs L (by unfold frs; rw [List.filterMap_cons, hf]; exact List.mem_cons_self)
   obtain ⟨sl, e⟩ := I.base.slot L o ho (I.ok.frf L hL) hL fun z => I.ok.exfs L z hL
   exact ⟨hk, ⟨L, _,hf, hn, e, hd⟩, ih (fun b hb => hs b (by unfold frs; rw [List.filterMap_cons, hf]; exact List.mem_cons_of_mem _ hb)) hr⟩
 exact all X.outer (fun _ hb => hb) I.ok.funs
theorem Inv.stack (I : Inv X pins σ H s) : s.heap.FunFrames X.base X.stack := by
 rcases I.ok.stk with e | ⟨e, hf⟩
 . rw [e]; exact I.funs
 . rw [e]
   obtain ⟨m, hn, _⟩ := I.loc
   refine .cons (by rw [I.ok.kind]; decide) hf hn ?_ I.funs
   exact Heap.get?_none_of_le (Nat.le_trans I.ok.bsz I.ok.above)
theorem Inv.stkSub (I : Inv X pins σ H s) : ∀ b ∈ frs X.stack, b ∈ X.env.locals :: X.fs := fun b hb => by
 rcases I.ok.stk with e | ⟨e, hf⟩
 . rw [e] at hb; exact List.mem_cons_of_mem _ hb
 . rw [e] at hb
   unfold frs at hb
   rw [List.filterMap_cons, hf] at hb
   exact hb
theorem Inv.stkFree (I : Inv X pins σ H s) : ∀ b ∈ frs X.stack, H b = none := fun b hb => by
 rcases List.mem_cons.mp (I.stkSub b hb) with e | hb
 . rw [e]; exact I.free
 . obtain ⟨_,o, ho, _⟩ := I.ok.funs.mem hb
   exact I.base.free b o ho (I.ok.frf b hb) fun z => I.ok.exfs b z hb
theorem Inv.step {g' : Array GenState} {t' : Nat} {d' : Drawn} {ch : List Addr} (I : Inv X pins σ H s)
    (hch : ∀ b ∈ ch, (b ∈ X.ex \/ X.s₀.heap.objs.size <= b) /\ b ≠ X.env.locals /\ (∀ x c, X.env.cells.lookup x = some c -> c ≠ b) /\ ∀ p ∈ X.pn ++ pins, p.1 ≠ b)
    (keep : ∀ b o, b ≠ X.env.locals -> b ∉ X.fs -> b ∉ ch -> s.heap.get? b = some o -> H b = none -> h'.get? b = some o)
    (slot : ∀ b o, b ≠ X.env.locals -> b ∈ X.fs -> b ∉ ch -> s.heap.get? b = some o -> H b = none -> ∃ sl, h'.get? b = some { o with slots := sl }) (free : ∀ b o, b ∉ ch -> s.heap.get? b = some o -> H b = none -> H' b = none)
    (there : ∀ b o, b ∉ ch -> s.heap.get? b = some o -> ∃ o', h'.get? b = some o')
    (tups : ∀ b xs, H b = some (.tup xs) -> H' b = some (.tup xs)) (frzs : ∀ b o u, H b = some (.frz o u) -> H' b = some (.frz o u)) (tbls : ∀ b ps, H b = some (.tbl ps) -> ∃ more, H' b = some (.tbl (ps ++ more)))
    (ns : ∀ m, s.heap.Ns X.env.locals m -> h'.Ns X.env.locals m) (hok : HOk X.prog X.w H' h') (hg : AllBare g') :
    Inv X pins σ H' { s with heap := h', gens := g', drawn := d', toks := t' } := by
 have neL : ∀ b o, X.s₀.heap.get? b = some o -> b ≠ X.env.locals := fun b o e => Nat.ne_of_lt (Nat.lt_of_lt_of_le (Heap.lt_size e) I.ok.above)
 have neC : ∀ b o, X.s₀.heap.get? b = some o -> b ∉ X.ex -> b ∉ ch := fun b o e hx hb => by
  rcases (hch b hb).1 with z | z
  . exact hx z
  . exact absurd (Nat.lt_of_lt_of_le (Heap.lt_size e) z) (Nat.lt_irrefl _)
 have cellK : ∀ x c, X.env.cells.lookup x = some c -> ∀ v, s.heap.IsCell c v -> h'.IsCell c v := fun x c e v ⟨o, ho, hd⟩ => by
  have nch : c ∉ ch := fun z => (hch c z).2.2.1 x c e rfl
  by_cases hc : c ∈ X.fs
  . obtain ⟨sl, q⟩ := slot c o (I.cne x c e) hc nch ho (I.freeC x c e)
    exact ⟨_,q, hd⟩
  . exact ⟨o, keep c o (I.cne x c e) hc nch ho (I.freeC x c e), hd⟩
 refine ⟨I.ok, I.os, hg, ⟨fun b o e n hb hx => ?_,fun b o e n hb hx => ?_,fun b o e n hx => ?_,fun b o e hx => ?_,fun b xs e => tups b xs (I.base.tups b xs e), fun b o xs e => frzs b o xs (I.base.frzs b o xs e), fun b ps e => ?_⟩, ?_,fun x c e => ?_,?_,fun x c e => ?_,fun p hp => ?_,hok, I.len⟩
 . exact keep b o (neL b o e) hb (neC b o e hx) (I.base.keep b o e n hb hx) (I.base.free b o e n hx)
 . obtain ⟨sl, e1⟩ := I.base.slot b o e n hb hx
   obtain ⟨sl', e2⟩ := slot b _ (neL b o e) hb (neC b o e hx) e1 (I.base.free b o e n hx)
   exact ⟨sl', e2⟩
 . obtain ⟨o', e1⟩ := I.base.there b o e hx
   exact free b o' (neC b o e hx) e1 (I.base.free b o e n hx)
 . obtain ⟨o', e1⟩ := I.base.there b o e hx
   exact there b o' (neC b o e hx) e1
 . obtain ⟨m1, e1⟩ := I.base.tbls b ps e
   obtain ⟨m2, e2⟩ := tbls b _ e1
   exact ⟨m1 ++ m2, by rw [e2, Array.append_assoc]⟩
 . obtain ⟨m, hn, hl⟩ := I.loc
   refine ⟨m, ns m hn, fun i x v e1 e2 e3 => ?_⟩
   obtain ⟨u, r, l⟩ := hl i x v e1 e2 e3
   refine ⟨u, r, ?_⟩
   rcases l with l | ⟨k, c, e, z⟩
   . exact .inl l
   . exact .inr ⟨k, c, e, cellK x c e _ z⟩
 . obtain ⟨v, z⟩ := I.cell x c e
   exact ⟨v, cellK x c e v z⟩
 . obtain ⟨m, ⟨o, _,_,ho, _⟩, _⟩ := I.loc
   exact free _ o (fun z => (hch _ z).2.1 rfl) ho I.free
 . obtain ⟨v, o, ho, hd⟩ := I.cell x c e
   exact free c o (fun z => (hch c z).2.2.1 x c e rfl) ho (I.freeC x c e)
 . obtain ⟨e, n, ne, nf, d⟩ := I.pin p hp
   have nch : p.1 ∉ ch := fun z => (hch p.1 z).2.2.2 p hp rfl
   exact ⟨keep p.1 p.2 ne nf nch e n, free p.1 p.2 nch e n, ne, nf, d⟩
theorem Inv.un {t' : Nat} (I : Inv X pins σ H s) (u : Un X.fs [] H H' s.heap h') (hok : HOk X.prog X.w H' h') : Inv X pins σ H' { s with heap := h', toks := t' } := by
 obtain ⟨m, ⟨o, es, ep, ho, r⟩, _⟩ := id I.loc
 obtain ⟨sl, hL⟩ := u.any ho I.free (by simp)
 exact I.step (g' := s.gens) (d' := s.drawn) (ch := []) (fun _ z => nomatch z) (fun b o _ hb _ e n => u.keep b o e n hb (by simp)) (fun b o _ hb _ e n => u.slot b o e n hb (by simp)) (fun b o _ e n => u.free b o e n (by simp)) (fun b o _ e => u.there b o e (by simp)) u.tups u.frzs u.tbls (fun m' hm => by
  obtain ⟨o', es', ep', ho', r'⟩ := hm
  rw [ho] at ho'; cases ho'
  exact ⟨_,es', ep', hL, r'⟩) hok I.bare
theorem Inv.call {g' : Array GenState} {t' : Nat} {d' : Drawn} {ch : List Addr} (I : Inv X pins σ H s) (u : Un (frs X.stack) ch H H' s.heap h') (hok : HOk X.prog X.w H' h') (hg : AllBare g')
    (hch : ∀ b ∈ ch, (b ∈ X.ex \/ X.s₀.heap.objs.size <= b) /\ b ≠ X.env.locals /\ (∀ x c, X.env.cells.lookup x = some c -> c ≠ b) /\ ∀ p ∈ X.pn ++ pins, p.1 ≠ b) :
    Inv X pins σ H' { s with heap := h', gens := g', drawn := d', toks := t' } := by
 obtain ⟨m, ⟨o, es, ep, ho, r⟩, _⟩ := id I.loc
 obtain ⟨sl, hL⟩ := u.any ho I.free fun z => (hch _ z).2.1 rfl
 exact I.step (ch := ch) hch (fun b o hL hb hc e n => u.keep b o e n (fun z => (List.mem_cons.mp (I.stkSub b z)).elim hL hb) hc) (fun b o _ _ hc e n => u.any e n hc) (fun b o hc e n => u.free b o e n hc) (fun b o hc e => u.there b o e hc) u.tups u.frzs u.tbls (fun m' hm => by
  obtain ⟨o', es', ep', ho', r'⟩ := hm
  rw [ho] at ho'; cases ho'
  exact ⟨_,es', ep', hL, r'⟩) hok hg
theorem Inv.turned {t' : Nat} {it : Addr} (I : Inv X pins σ H s) (k : ∀ b o, b ≠ it -> s.heap.get? b = some o -> h'.get? b = some o) (hn : H it = none) (hL : it ≠ X.env.locals)
    (h1 : it ∈ X.ex \/ X.s₀.heap.objs.size <= it) (h2 : ∀ x c, X.env.cells.lookup x = some c -> c ≠ it) (h3 : ∀ p ∈ X.pn ++ pins, p.1 ≠ it) : Inv X pins σ H { s with heap := h', toks := t' } := by
 have nit : ∀ b u, H b = some u -> b ≠ it := fun b u e z => by rw [z, hn] at e; cases e
 refine I.step (g' := s.gens) (d' := s.drawn) (ch := [it]) (fun b hb => ?_) (fun b o _ _ hc e _ => k b o (fun z => hc (by simp [z])) e) (fun b o _ _ hc e _ => ⟨o.slots, k b o (fun z => hc (by simp [z])) e⟩) (fun _ _ _ _ n => n)
  (fun b o hc e => ⟨o, k b o (fun z => hc (by simp [z])) e⟩) (fun _ _ e => e) (fun _ _ _ e => e) (fun b ps e => ⟨#[], by rw [e]; simp⟩) (fun m hm => ?_) (fun b u e => ?_) I.bare
 . have e : b = it := by simpa using hb
   subst e
   exact ⟨h1, hL, h2, h3⟩
 . obtain ⟨o, es, ep, ho, r⟩ := hm
   exact ⟨o, es, ep, k _ o (Ne.symm hL) ho, r⟩
 . refine (I.hok b u e).stay (fun c v hc q => k c v ?_ q) (fun _ q => q) fun _ _ q => q
   rcases hc with z | z
   . rw [z]; exact nit b u e
   . exact nit c _ z
theorem Inv.tok (I : Inv X pins σ H s) (t : Nat) : Inv X pins σ H { s with toks := t } := I.un (h' := s.heap) (t' := t) Un.refl I.hok
theorem Inv.kept {t' : Nat} (I : Inv X pins σ H s) (k : ∀ b u, s.heap.get? b = some u -> h'.get? b = some u) : Inv X pins σ H { s with heap := h', toks := t' } := I.un (Un.kept k) (I.hok.kept k)
theorem Inv.laid {a : Addr} {o : HO} {t' : Nat} (I : Inv X pins σ H s) (k : ∀ b u, s.heap.get? b = some u -> h'.get? b = some u) (hp : s.heap.objs.size <= a) (new : ObjOk X.prog X.w (upd H a o) h' a o) :
    Inv X pins σ (upd H a o) { s with heap := h', toks := t' } := I.un (Un.laid k hp (I.hok.fresh hp)) (I.hok.laid k hp new)
theorem Inv.write {x e : Addr} {o : HO} {t' : Nat} (I : Inv X pins σ H s) (mu : Mut (H x)) (he : e = x \/ H e = some (.own x)) (k : ∀ b u, b ≠ e -> s.heap.get? b = some u -> h'.get? b = some u) (heo : ∃ u, h'.get? e = some u)
    (new : ObjOk X.prog X.w (upd H x o) h' x o) : Inv X pins σ (upd H x o) { s with heap := h', toks := t' } := I.un (Un.write mu he k heo) (I.hok.write mu he k heo new)
theorem Inv.weak {σ' : List (Option V)} (I : Inv X pins σ H s) (hl : σ'.length = σ.length) (w : ∀ (i : Nat) v, σ'[i]? = some (some v) -> σ[i]? = some (some v)) : Inv X pins σ' H s :=
 ⟨I.ok, I.os, I.bare, I.base, let ⟨m, hn, hl'⟩ := I.loc; ⟨m, hn, fun i x v e1 e2 e3 => hl' i x v e1 (w i v e2) e3⟩, I.cell, I.free, I.freeC, I.pin, I.hok, hl.trans I.len⟩
theorem Inv.pins_of {pins' : List (Addr × Obj)} (I : Inv X pins σ H s) (h : ∀ p ∈ pins', s.heap.get? p.1 = some p.2 /\ H p.1 = none /\ p.1 ≠ X.env.locals /\ p.1 ∉ X.fs /\ ∀ v, p.2.data ≠ .cell v) : Inv X pins' σ H s :=
 ⟨I.ok, I.os, I.bare, I.base, I.loc, I.cell, I.free, I.freeC, fun p hp => (List.mem_append.mp hp).elim (fun z => I.pin p (List.mem_append_left _ z)) (h p), I.hok, I.len⟩
theorem nodup_ix {N : List Str} (hN : N.Nodup) {i j : Nat} {x : Str} (a : N[i]? = some x) (b : N[j]? = some x) : i = j := by
 obtain ⟨h1, e1⟩ := List.getElem?_eq_some_iff.mp a
 obtain ⟨h2, e2⟩ := List.getElem?_eq_some_iff.mp b
 exact (List.getElem_inj hN).mp (e1.trans e2.symm)
theorem store_ok2 {M : Model} {A : Around} {E : Value -> Shared -> Prop} {i : Nat} {x : Str} {v : V} {u : Value} {Q : Unit -> Shared -> Prop} (I : Inv X pins σ H s) (hN : X.N.Nodup) (hi : X.N[i]? = some x) (hx : Loc X.env.scope x) (r : RelV v u)
    (h : ∀ s', Inv X pins (σ.set i (some v)) H s' -> (∃ a, Heap.SameBut a s.heap s'.heap /\ (a = X.env.locals \/ X.env.cells.lookup x = some a)) -> Q () s') (hf : X.fn x = true \/ X.env.scope.names.lookup x = some .local := by first | exact .inl rfl | exact .inr rfl | assumption) : wpAny M A (storeName X.env x u) Q E s := by
 obtain ⟨m, hn, hl⟩ := id I.loc
 have hcls : (X.env.scope.kind == .class || (X.env.scope.kind == .module && X.env.locals != X.env.globals)) = false := by rw [I.ok.kind]; rfl
 have hiσ : i < σ.length := by rw [I.len]; exact (List.getElem?_eq_some_iff.mp hi).1
 have cne := I.cne
 have tracked : ∀ {a : Addr} {h' : Heap}, (∃ o, s.heap.get? a = some o /\ H a = none) -> Heap.SameBut a s.heap h' -> HOk X.prog X.w H h' := fun {a h'} ha hs b ob e => by
  obtain ⟨_,_,hfree⟩ := ha
  refine (I.hok b ob e).stay (fun c w' hc q => (hs.2 c ?_).trans q) (fun _ q => q) fun _ _ q => q
  rintro rfl
  rcases hc with rfl | hc
  . rw [hfree] at e; cases e
  . rw [hfree] at hc; cases hc
 rcases hx with hk | hk
 . refine wpAny_storeName_local hk hn (fun h' hn' hs => ?_) hcls
   obtain ⟨oL, _,_,hoL, _⟩ := id hn
   refine h _ ⟨I.ok, I.os, I.bare, ⟨fun b o e n hb hx => ?_,fun b o e n hb hx => ?_,I.base.free, fun b o e hx => ?_,I.base.tups, I.base.frzs, I.base.tbls⟩, ⟨_,hn', fun j y v' e1 e2 e3 => ?_⟩, fun y c e => ?_,I.free, I.freeC, fun p hp => ?_,tracked ⟨oL, hoL, I.free⟩ hs, by simpa using I.len⟩ ⟨_,hs, .inl rfl⟩
   . exact (hs.2 b (Nat.ne_of_lt (Nat.lt_of_lt_of_le (Heap.lt_size e) I.ok.above))).trans (I.base.keep b o e n hb hx)
   . obtain ⟨sl, e1⟩ := I.base.slot b o e n hb hx
     exact ⟨sl, (hs.2 b (Nat.ne_of_lt (Nat.lt_of_lt_of_le (Heap.lt_size e) I.ok.above))).trans e1⟩
   . obtain ⟨o', e1⟩ := I.base.there b o e hx
     exact ⟨o', (hs.2 b (Nat.ne_of_lt (Nat.lt_of_lt_of_le (Heap.lt_size e) I.ok.above))).trans e1⟩
   . by_cases hj : j = i
     . subst hj
       rw [hi] at e1; cases e1
       rw [List.getElem?_set_self hiσ] at e2
       cases e2
       exact ⟨u, r, .inl ⟨hk, by simp⟩⟩
     . rw [List.getElem?_set_ne (Ne.symm hj)] at e2
       obtain ⟨u', r', q⟩ := hl j y v' e1 e2 e3
       refine ⟨u', r', ?_⟩
       rcases q with ⟨k, e⟩ | ⟨k, c, e, z⟩
       . refine .inl ⟨k, ?_⟩
         have : y ≠ x := fun e => hj (nodup_ix hN e1 (e ▸ hi))
         simp [this, e]
       . exact .inr ⟨k, c, e, z.sameBut hs (cne y c e)⟩
   . obtain ⟨w', z⟩ := I.cell y c e
     exact ⟨w', z.sameBut hs (cne y c e)⟩
   . obtain ⟨e, n, ne, nf, d⟩ := I.pin p hp
     exact ⟨(hs.2 p.1 ne).trans e, n, ne, nf, d⟩
 . have hfn : X.fn x = true := by
     rcases hf with z | z
     . exact z
     . rw [z] at hk; cases hk
   obtain ⟨c, hc⟩ := I.ok.has x (.inl hk)
   obtain ⟨w', z⟩ := I.cell x c hc
   refine wpAny_storeName_cell I.ok.kind hk hc z (fun h' hc' hs => ?_)
   obtain ⟨oc, hoc, hocd⟩ := id z
   refine h { s with heap := h' } ⟨I.ok, I.os, I.bare, ⟨fun b o e n hb hx => ?_,fun b o e n hb hx => ?_,I.base.free, fun b o e hx => ?_,I.base.tups, I.base.frzs, I.base.tbls⟩, ⟨m, hn.sameBut hs (Ne.symm (cne x c hc)), fun j y v' e1 e2 e3 => ?_⟩, fun y c' e => ?_,I.free, I.freeC, fun p hp => ?_,tracked ⟨oc, hoc, I.freeC x c hc⟩ hs, by simpa using I.len⟩ ⟨c, hs, .inr hc⟩
   . exact (hs.2 b (Nat.ne_of_lt (Nat.lt_of_lt_of_le (Heap.lt_size e) (I.ok.cab x c hfn hc)))).trans (I.base.keep b o e n hb hx)
   . obtain ⟨sl, e1⟩ := I.base.slot b o e n hb hx
     exact ⟨sl, (hs.2 b (Nat.ne_of_lt (Nat.lt_of_lt_of_le (Heap.lt_size e) (I.ok.cab x c hfn hc)))).trans e1⟩
   . obtain ⟨o', e1⟩ := I.base.there b o e hx
     exact ⟨o', (hs.2 b (Nat.ne_of_lt (Nat.lt_of_lt_of_le (Heap.lt_size e) (I.ok.cab x c hfn hc)))).trans e1⟩
   . by_cases hj : j = i
     . subst hj
       rw [hi] at e1; cases e1
       rw [List.getElem?_set_self hiσ] at e2
       cases e2
       exact ⟨u, r, .inr ⟨.inl hk, c, hc, hc'⟩⟩
     . rw [List.getElem?_set_ne (Ne.symm hj)] at e2
       obtain ⟨u', r', q⟩ := hl j y v' e1 e2 e3
       refine ⟨u', r', ?_⟩
       rcases q with q | ⟨k, c', e, z'⟩
       . exact .inl q
       . refine .inr ⟨k, c', e, z'.sameBut hs ?_⟩
         rintro rfl
         exact hj (nodup_ix hN e1 (I.ok.inj _ _ _ e hc ▸ hi))
   . by_cases hcc : c' = c
     . subst hcc; exact ⟨_,hc'⟩
     . obtain ⟨w2, z2⟩ := I.cell y c' e
       exact ⟨w2, z2.sameBut hs hcc⟩
   . obtain ⟨e, n, ne, nf, d⟩ := I.pin p hp
     refine ⟨(hs.2 p.1 ?_).trans e, n, ne, nf, d⟩
     intro q
     rw [q, hoc] at e
     have q' : oc = p.2 := Option.some.inj e
     exact d w' (by rw [<- q']; exact hocd)
theorem store_ok {M : Model} {A : Around} {E : Value -> Shared -> Prop} {i : Nat} {x : Str} {v : V} {u : Value} {Q : Unit -> Shared -> Prop} (I : Inv X pins σ H s) (hN : X.N.Nodup) (hi : X.N[i]? = some x) (hx : Loc X.env.scope x) (r : RelV v u)
    (h : ∀ s', Inv X pins (σ.set i (some v)) H s' -> Q () s') (hf : X.fn x = true \/ X.env.scope.names.lookup x = some .local := by first | exact .inl rfl | exact .inr rfl | assumption) : wpAny M A (storeName X.env x u) Q E s :=
 store_ok2 I hN hi hx r (fun s' I' _ => h s' I') hf
theorem Inv.call' {s' : Shared} {ch : List Addr} (I : Inv X pins σ H s) (ho : s'.os = s.os) (u : Un (frs X.stack) ch H H' s.heap s'.heap) (hok : HOk X.prog X.w H' s'.heap) (hg : AllBare s'.gens)
    (hch : ∀ b ∈ ch, (b ∈ X.ex \/ X.s₀.heap.objs.size <= b) /\ b ≠ X.env.locals /\ (∀ x c, X.env.cells.lookup x = some c -> c ≠ b) /\ ∀ p ∈ X.pn ++ pins, p.1 ≠ b) : Inv X pins σ H' s' := by
 obtain ⟨h', g', d', t', o'⟩ := s'
 have e : o' = s.os := ho
 subst e
 exact I.call (g' := g') (t' := t') (d' := d') u hok hg hch
end
abbrev XK := Value -> Option Addr -> Hp -> Prop
abbrev St := List (Option V)
abbrev VK := V -> Hp -> Prop
abbrev TE := St -> Hp -> VK -> Prop
abbrev TT := St -> Hp -> (Bool -> Hp -> Prop) -> Prop
abbrev TA := St -> Hp -> (List V -> Hp -> Prop) -> Prop
structure Ends where
 nx : St -> Hp -> Prop
 rt : VK
 bk : St -> Hp -> Prop := fun _ _ => False
 ct : St -> Hp -> Prop := fun _ _ => False
abbrev TS := Ends -> St -> Hp -> Prop
def EP (X : Cx) (pins : List (Addr × Obj)) (σ : St) (Q : VK) (u : Value) (s' : Shared) : Prop := ∃ v H', Inv X pins σ H' s' /\ RelV v u /\ Q v H'
def TP (X : Cx) (pins : List (Addr × Obj)) (σ : St) (Q : Bool -> Hp -> Prop) (b : Bool) (s' : Shared) : Prop := ∃ H', Inv X pins σ H' s' /\ Q b H'
def AP (X : Cx) (pins : List (Addr × Obj)) (σ : St) (Q : List V -> Hp -> Prop) (us : List Value) (s' : Shared) : Prop := ∃ vs H', Inv X pins σ H' s' /\ Vals vs us /\ Q vs H'
def SP (X : Cx) (pins : List (Addr × Obj)) (D : Ends) (f : Flow) (s' : Shared) : Prop :=
 match f with
 | .next => ∃ σ' H', Inv X pins σ' H' s' /\ D.nx σ' H'
 | .brk => ∃ σ' H', Inv X pins σ' H' s' /\ D.bk σ' H'
 | .cont => ∃ σ' H', Inv X pins σ' H' s' /\ D.ct σ' H'
 | .ret u => ∃ v σ' H', Inv X pins σ' H' s' /\ RelV v u /\ D.rt v H'
def PE (X : Cx) (e : Expr) (t : TE) : Prop :=
 ∀ (pins : List (Addr × Obj)) (s : Shared) (σ : St) (H : Hp) (Q : VK), Inv X pins σ H s -> t σ H Q -> wpAny (model X.prog X.w) X.A (eval e X.env) (EP X pins σ Q) X.xe s
def PT (X : Cx) (e : Expr) (t : TT) : Prop :=
 ∀ (pins : List (Addr × Obj)) (s : Shared) (σ : St) (H : Hp) (Q : Bool -> Hp -> Prop), Inv X pins σ H s -> t σ H Q -> wpAny (model X.prog X.w) X.A (isTrue e X.env (eval e X.env)) (TP X pins σ Q) X.xe s
def PW (X : Cx) (e : Expr) (t : TT) : Prop :=
 ∀ (whole : Sem Value) (pins : List (Addr × Obj)) (s : Shared) (σ : St) (H : Hp) (Q : Bool -> Hp -> Prop), Inv X pins σ H s -> t σ H Q -> wpAny (model X.prog X.w) X.A (isTrue e X.env whole) (TP X pins σ Q) X.xe s
theorem PW.pt {X : Cx} {e : Expr} {t : TT} (h : PW X e t) : PT X e t := h _
def PA (X : Cx) (es : List Expr) (t : TA) : Prop :=
 ∀ (pos : Pos) (pins : List (Addr × Obj)) (s : Shared) (σ : St) (H : Hp) (Q : List V -> Hp -> Prop), Inv X pins σ H s -> t σ H Q -> wpAny (model X.prog X.w) X.A (spliced (backTo pos (starEach es X.env))) (AP X pins σ Q) X.xe s
def PS (X : Cx) (st : Stmt) (t : TS) : Prop :=
 ∀ (pins : List (Addr × Obj)) (s : Shared) (σ : St) (H : Hp) (D : Ends), Inv X pins σ H s -> t D σ H -> wpAny (model X.prog X.w) X.A (exec st X.env) (SP X pins D) X.xe s
def PSs (X : Cx) (st : List Stmt) (t : TS) : Prop :=
 ∀ (pins : List (Addr × Obj)) (s : Shared) (σ : St) (H : Hp) (D : Ends), Inv X pins σ H s -> t D σ H -> wpAny (model X.prog X.w) X.A (execs st X.env) (SP X pins D) X.xe s
theorem thn {α : Type} {t : Sem α} {Q Q' : α -> Shared -> Prop} {M : Model} {A : Around} {E : Value -> Shared -> Prop} {s : Shared} (h : wpAny M A t Q E s) (hQ : ∀ a s, Q a s -> Q' a s) : wpAny M A t Q' E s := wpAny_mono h hQ fun _ _ x => x
end L2
namespace L2
open PySem PySem.Spec PyProof.Rows
section
variable {X : Cx}
theorem bin {a b : Expr} {ta tb : TE} (ha : PE X a ta) (hb : PE X b tb) {pins : List (Addr × Obj)} {s : Shared} {σ : St} {H : Hp} {R : V -> V -> Hp -> Prop} (I : Inv X pins σ H s) (h : ta σ H fun x H1 => tb σ H1 fun y H2 => R x y H2)
    {α : Type} {Q : α -> Shared -> Prop} {f : Value -> Value -> Sem α}
    (hf : ∀ v u s2 x y H2, Inv X pins σ H2 s2 -> RelV x v -> RelV y u -> R x y H2 -> wpAny (model X.prog X.w) X.A (f v u) Q X.xe s2) :
    wpAny (model X.prog X.w) X.A (eval a X.env) (fun v s₁ => wpAny (model X.prog X.w) X.A (eval b X.env) (fun u s₂ => wpAny (model X.prog X.w) X.A (f v u) Q X.xe s₂) X.xe s₁) X.xe s := by
 refine thn (ha pins s σ H _ I h) fun v s1 ⟨x, H1, I1, r1, q1⟩ => ?_
 refine thn (hb pins s1 σ H1 _ I1 q1) fun u s2 ⟨y, H2, I2, r2, q2⟩ => ?_
 exact hf v u s2 x y H2 I2 r1 r2 q2
def tVar (i : Nat) : TE := fun σ H Q => ∃ v, σ[i]? = some (some v) /\ Q v H
def tC (v : V) : TE := fun _ H Q => Q v H
theorem pe_var {i : Nat} {x : Str} {pos : Pos} (hN : X.N[i]? = some x) (hv : Vis X.env.scope x) (hd : (x == ("__debug__" : Str)) = false := by decide) (hcd : (x == ("__classdict__" : Str)) = false := by decide) : PE X (.Name x pos) (tVar i) := by
 intro pins s σ H Q I h
 obtain ⟨v, e, h⟩ := h
 obtain ⟨m, hn, hl⟩ := I.loc
 obtain ⟨u, r, l⟩ := hl i x v hN e hv
 have fin : EP X pins σ Q u s := ⟨v, H, I, r, h⟩
 rcases l with ⟨hk, hm⟩ | ⟨hk, c, hc, hcell⟩
 . exact wpAny_Name (wpAny_loadName_local I.ok.kind hk hn hm fin) hd
 . rcases hk with hk | hk
   . exact wpAny_Name (wpAny_loadName_cell I.ok.kind hk hc hcell fin) hd
   . exact wpAny_Name (wpAny_loadName_free I.ok.kind hk hc hcell fin hcd) hd
theorem pe_int {i j pos} : PE X (.Constant (.int i) j pos) (tC (.int i)) := fun _ _ _ H _ I h => wpAny_Constant_int ⟨.int i, H, I.tok _,⟨_,rfl⟩, h⟩
theorem pe_bl {b j pos} : PE X (.Constant (.bool b) j pos) (tC (.bl b)) := fun _ _ _ H _ I h => Constant_bool ⟨.bl b, H, I, rfl,h⟩
theorem pe_non {j pos} : PE X (.Constant .none j pos) (tC .non) := fun _ _ _ H _ I h => Constant_none ⟨.non, H, I, rfl,h⟩
theorem pe_str {x j pos} : PE X (.Constant (.str x) j pos) (tC (.str x)) := fun _ _ _ H _ I h => Calls.Constant_str ⟨.str x, H, I.tok _,⟨_,rfl⟩, h⟩
def Gl (X : Cx) (x : Str) : Prop := X.env.kindOf x = some .globalImplicit
theorem ld_glob {E : Value -> Shared -> Prop} {pins : List (Addr × Obj)} {s : Shared} {σ : St} {H : Hp} {x : Str} {u : Value} {pos : Pos} {Q : Value -> Shared -> Prop} (I : Inv X pins σ H s) (hg : Gl X x) (hm : X.mg x = some u) (h : Q u s)
    (hd : (x == ("__debug__" : Str)) = false := by decide) : wpAny (model X.prog X.w) X.A (eval (.Name x pos) X.env) Q E s :=
 Calls.Name_function_global I.ok.kind hg (Calls.loadGlobal_global (by rw [I.ok.glob]; exact I.mod.glob.keeps I.bk) hm h) hd
theorem ld_blt {E : Value -> Shared -> Prop} {pins : List (Addr × Obj)} {s : Shared} {σ : St} {H : Hp} {x : Str} {u : Value} {pos : Pos} {Q : Value -> Shared -> Prop} (I : Inv X pins σ H s) (hg : Gl X x) (hm : X.mg x = none) (hv : bootBuiltins x = some u) (h : Q u s)
    (hn : x ≠ "__name__" := by decide) (hd : (x == ("__debug__" : Str)) = false := by decide) : wpAny (model X.prog X.w) X.A (eval (.Name x pos) X.env) Q E s := by
 obtain ⟨mb, h1, h2⟩ := I.mod.blt
 exact Calls.Name_function_global I.ok.kind hg (Calls.loadGlobal_builtin (by rw [I.ok.glob]; exact I.mod.glob.keeps I.bk) hm (by rw [I.ok.blt]; exact h1.keeps I.bk) ((h2 x hn).trans hv) h) hd
theorem pe_glob {x : Str} {v : V} {u : Value} {pos : Pos} (hg : Gl X x) (hm : X.mg x = some u) (r : RelV v u) (hd : (x == ("__debug__" : Str)) = false := by decide) : PE X (.Name x pos) (tC v) :=
 fun _ _ _ H _ I h => ld_glob I hg hm ⟨v, H, I, r, h⟩ hd
theorem pe_bltn {x : Str} {v : V} {u : Value} {pos : Pos} (hg : Gl X x) (hm : X.mg x = none) (hv : bootBuiltins x = some u) (r : RelV v u) (hn : x ≠ "__name__" := by decide) (hd : (x == ("__debug__" : Str)) = false := by decide) : PE X (.Name x pos) (tC v) :=
 fun _ _ _ H _ I h => ld_blt I hg hm hv ⟨v, H, I, r, h⟩ hn hd
def t2I (ta tb : TE) (k : Int -> Int -> Hp -> Prop) : St -> Hp -> Prop := fun σ H => ta σ H fun x H1 => tb σ H1 fun y H2 => ∃ i j, x = .int i /\ y = .int j /\ k i j H2
variable {a b : Expr} {ta tb : TE} {pos : Pos}
def PC (X : Cx) (op : CmpOp) (a b : Expr) (t : TE) : Prop :=
 ∀ (pins : List (Addr × Obj)) (s : Shared) (σ : St) (H : Hp) (Q : VK), Inv X pins σ H s -> t σ H Q ->
  wpAny (model X.prog X.w) X.A (eval a X.env) (fun v s₁ => wpAny (model X.prog X.w) X.A (eval b X.env) (fun u s₂ => wpAny (model X.prog X.w) X.A (compareOp op v u) (EP X pins σ Q) X.xe s₂) X.xe s₁) X.xe s
def tCmp (p : Int -> Int -> Bool) (ta tb : TE) : TE := fun σ H Q => t2I ta tb (fun i j H2 => Q (.bl (p i j)) H2) σ H
def tB (t : TE) : TT := fun σ H Q => t σ H fun x H1 => ∃ c, x = .bl c /\ Q c H1
theorem pt_cmp {op : CmpOp} {t : TE} (h : PC X op a b t) (h1 : behindInMarks op b = false := by first | exact nobehind _ (by decide) (by decide) | rfl) : PT X (.Compare a [op] [b] pos) (tB t) := by
 intro pins s σ H Q I hw
 refine wpAny_isTrue_Compare1 (thn (h pins s σ H _ I hw) fun v s1 h1 => thn h1 fun u s2 h2 => thn h2 fun c s3 ⟨x, H1, I1, r1, q1⟩ => ?_) h1
 obtain ⟨d, rfl,q⟩ := q1
 cases r1
 exact wpAny_truthy_bool ⟨H1, I1, q⟩
theorem pt_val {e : Expr} {t : TE} (h : PE X e t) (he : ∀ whole, isTrue e X.env whole = (do let v <- whole; standAt e.pos; holding [v] (truthy v)) := by intro _; rfl) : PT X e (tB t) := by
 intro pins s σ H Q I hw
 refine isTrue_plain (thn (h pins s σ H _ I hw) fun v s1 ⟨x, H1, I1, r1, q1⟩ => ?_) (he _)
 obtain ⟨d, rfl,q⟩ := q1
 cases r1
 exact wpAny_truthy_bool ⟨H1, I1, q⟩
variable {tA tB' : TT} {rest : List Expr}
def tAnd (t u : TT) : TT := fun σ H Q => t σ H fun c H1 => if c = true then u σ H1 Q else Q false H1
def tOr (t u : TT) : TT := fun σ H Q => t σ H fun c H1 => if c = true then Q true H1 else u σ H1 Q
def tNot (t : TT) : TT := fun σ H Q => t σ H fun c H1 => Q (!c) H1
theorem pw_and1 (ha : PT X a tA) : PW X (.BoolOp .And [a] pos) tA := by
 intro wh pins s σ H Q I h
 refine isTrue_and (thn (ha pins s σ H Q I h) fun c s1 e => ?_)
 cases c with
 | true => exact isTrue_and_nil e
 | false => exact e
theorem pw_or1 (ha : PT X a tA) : PW X (.BoolOp .Or [a] pos) tA := by
 intro wh pins s σ H Q I h
 refine isTrue_or (thn (ha pins s σ H Q I h) fun c s1 e => ?_)
 cases c with
 | false => exact isTrue_or_nil e
 | true => exact e
theorem pw_and (ha : PT X a tA) (hb : PW X (.BoolOp .And (b :: rest) pos) tB') : PW X (.BoolOp .And (a :: b :: rest) pos) (tAnd tA tB') := by
 intro wh pins s σ H Q I h
 refine isTrue_and (thn (ha pins s σ H _ I h) fun c s1 ⟨H1, I1, q1⟩ => ?_)
 cases c with
 | true => exact hb wh pins s1 σ H1 Q I1 q1
 | false => exact ⟨H1, I1, q1⟩
theorem pw_or (ha : PT X a tA) (hb : PW X (.BoolOp .Or (b :: rest) pos) tB') : PW X (.BoolOp .Or (a :: b :: rest) pos) (tOr tA tB') := by
 intro wh pins s σ H Q I h
 refine isTrue_or (thn (ha pins s σ H _ I h) fun c s1 ⟨H1, I1, q1⟩ => ?_)
 cases c with
 | true => exact ⟨H1, I1, q1⟩
 | false => exact hb wh pins s1 σ H1 Q I1 q1
theorem pt_not (ha : PT X a tA) : PT X (.UnaryOp .Not a pos) (tNot tA) := by
 intro pins s σ H Q I h
 exact isTrue_not (ha pins s σ H (fun c H1 => Q (!c) H1) I h)
def tAndV (ta tb : TE) : TE := fun σ H Q => ta σ H fun x H1 => ∃ c, x = .bl c /\ if c = true then tb σ H1 Q else Q (.bl false) H1
theorem pe_one {op} {t : TE} (h : PE X a t) : PE X (.BoolOp op [a] pos) t := fun pins s σ H Q I hw => BoolOp_one (h pins s σ H Q I hw)
theorem pe_and (ha : PE X a ta) (hb : PE X (.BoolOp .And (b :: rest) pos) tb) : PE X (.BoolOp .And (a :: b :: rest) pos) (tAndV ta tb) := by
 intro pins s σ H Q I h
 refine BoolOp_and (thn (ha pins s σ H _ I h) fun v s1 ⟨x, H1, I1, r1, q1⟩ => ?_)
 obtain ⟨c, rfl,q1⟩ := q1
 cases r1
 refine wpAny_truthy_bool ?_
 cases c with
 | true => exact hb pins s1 σ H1 Q I1 q1
 | false => exact ⟨.bl false, H1, I1, rfl,q1⟩
end
end L2
namespace L2
open PySem PySem.Spec PyProof.Rows
def SqL (K : PySem.W.Frag) (H : Hp) (a : Addr) (xs : List V) : Prop :=
 Rd H a (.lst xs) \/
  ∃ (o : Obj) (its : Array Value) (n : Nat), K.lookup a = some o /\ o.cls = .type "list" /\ o.dict = none /\ o.data = .seq its n /\ its.size <= sizeLine /\ Vals xs its.toList
def SqT (K : PySem.W.Frag) (H : Hp) (a : Addr) (xs : List V) : Prop :=
 Rd H a (.tup xs) \/
  ∃ (o : Obj) (its : Array Value) (n : Nat), K.lookup a = some o /\ o.cls = .type "tuple" /\ o.data = .seq its n /\ its.size <= sizeLine /\ Vals xs its.toList
def absV : Value -> Option V
 | .none => some .non
 | .bool b => some (.bl b)
 | .int i _ => some (.int i)
 | .str x _ => some (.str x)
 | .bytes b _ => some (.byt b)
 | .float b _ => some (.flt b)
 | .ref a => some (.ref a)
 | .type n => some (.ty n)
 | _ => none
theorem RelV.abs {x : V} {u : Value} (r : RelV x u) : absV u = some x := by
 cases x with
 | non => cases r; rfl
 | bl _ => cases r; rfl
 | int _ => obtain ⟨t, rfl⟩ := r; rfl
 | str _ => obtain ⟨t, rfl⟩ := r; rfl
 | byt _ => obtain ⟨t, rfl⟩ := r; rfl
 | flt _ => obtain ⟨t, rfl⟩ := r; rfl
 | ref _ => cases r; rfl
 | ty _ => cases r; rfl
theorem RelV.inj {x y : V} {u : Value} (r : RelV x u) (q : RelV y u) : x = y := Option.some.inj (r.abs.symm.trans q.abs)
theorem Vals.inj : ∀ {xs ys : List V} {us : List Value}, Vals xs us -> Vals ys us -> xs = ys
 | _,_,_,.nil, .nil => rfl
 | _,_,_,.cons r t, .cons r' t' => by rw [r.inj r', Vals.inj t t']
section
variable {X : Cx} {pins : List (Addr × Obj)} {σ : St} {H : Hp} {s : Shared} {a : Addr} {xs ys : List V}
theorem SqL.of {K : PySem.W.Frag} (h : H a = some (.lst xs)) : SqL K H a xs := .inl (.inl h)
theorem SqT.of {K : PySem.W.Frag} (h : H a = some (.tup xs)) : SqT K H a xs := .inl (.inl h)
theorem Inv.list (I : Inv X pins σ H s) (h : SqL X.K H a xs) : ∃ its : List Value, Vals xs its /\ PlainL s.heap a its.toArray /\ xs.length <= sizeLine := by
 rcases h with h | ⟨o, its, n, hk, hc, hd, hs, hz, r⟩
 . obtain ⟨z, its, n, r, e⟩ := h.ok I.hok
   exact ⟨its, r, ⟨_,n, e, rfl,rfl,rfl⟩, z⟩
 . refine ⟨its.toList, r, ⟨o, n, I.kIn a o hk, hc, hd, by simpa using hs⟩, ?_⟩
   have e := r.length
   simp only [Array.length_toList] at e
   omega
theorem Inv.tuple (I : Inv X pins σ H s) (h : SqT X.K H a xs) : ∃ its : List Value, Vals xs its /\ IsTup s.heap a its.toArray /\ xs.length <= sizeLine := by
 rcases h with h | ⟨o, its, n, hk, hc, hs, hz, r⟩
 . obtain ⟨z, its, r, p⟩ := h.ok I.hok
   exact ⟨its, r, p.t, z⟩
 . refine ⟨its.toList, r, ⟨o, I.kIn a o hk, hc, n, by simpa using hs⟩, ?_⟩
   have e := r.length
   simp only [Array.length_toList] at e
   omega
theorem Inv.list_inj (I : Inv X pins σ H s) (h : SqL X.K H a xs) (h' : SqL X.K H a ys) : xs = ys := by
 obtain ⟨its, r, ⟨o, n, e, _,_,d⟩, _⟩ := I.list h
 obtain ⟨its', r', ⟨o', n', e', _,_,d'⟩, _⟩ := I.list h'
 rw [e] at e'; cases e'
 rw [d] at d'
 injection d' with d1 _
 have : its = its' := by simpa using congrArg Array.toList d1
 subst this
 exact r.inj r'
theorem Inv.tuple_inj (I : Inv X pins σ H s) (h : SqT X.K H a xs) (h' : SqT X.K H a ys) : xs = ys := by
 obtain ⟨its, r, ⟨o, e, _,n, d⟩, _⟩ := I.tuple h
 obtain ⟨its', r', ⟨o', e', _,n', d'⟩, _⟩ := I.tuple h'
 rw [e] at e'; cases e'
 rw [d] at d'
 injection d' with d1 _
 have : its = its' := by simpa using congrArg Array.toList d1
 subst this
 exact r.inj r'
end
abbrev Cx.wish (X : Cx) (E : Value -> Shared -> Prop) : Cx := { X with xe := E }
abbrev Cx.nox (X : Cx) : Cx := X.wish fun _ _ => False
theorem Cx.Ok.wish {X : Cx} (ok : X.Ok) (E : Value -> Shared -> Prop) : (X.wish E).Ok :=
 ⟨ok.mod, ok.kind, ok.glob, ok.blt, ok.above, ok.inj, ok.has, ok.cab, ok.hd, ok.frames, ok.stk, ok.exf, ok.bs, ok.bsz, ok.noex, ok.exfs, ok.funs, ok.frf⟩
theorem Cx.Ok.unwish {X : Cx} {E : Value -> Shared -> Prop} (ok : (X.wish E).Ok) : X.Ok :=
 ⟨ok.mod, ok.kind, ok.glob, ok.blt, ok.above, ok.inj, ok.has, ok.cab, ok.hd, ok.frames, ok.stk, ok.exf, ok.bs, ok.bsz, ok.noex, ok.exfs, ok.funs, ok.frf⟩
section
variable {X : Cx} {pins : List (Addr × Obj)} {σ : St} {H : Hp} {s : Shared} {E : Value -> Shared -> Prop}
theorem Inv.wish (I : Inv X pins σ H s) (E : Value -> Shared -> Prop) : Inv (X.wish E) pins σ H s := ⟨I.ok.wish E, I.os, I.bare, I.base, I.loc, I.cell, I.free, I.freeC, I.pin, I.hok, I.len⟩
theorem Inv.unwish (I : Inv (X.wish E) pins σ H s) : Inv X pins σ H s := ⟨I.ok.unwish, I.os, I.bare, I.base, I.loc, I.cell, I.free, I.freeC, I.pin, I.hok, I.len⟩
theorem SP.unwish {D : Ends} {f : Flow} {s' : Shared} (h : SP (X.wish E) pins D f s') : SP X pins D f s' := by
 cases f with
 | next => obtain ⟨σ', H', I, q⟩ := h; exact ⟨σ', H', I.unwish, q⟩
 | brk => obtain ⟨σ', H', I, q⟩ := h; exact ⟨σ', H', I.unwish, q⟩
 | cont => obtain ⟨σ', H', I, q⟩ := h; exact ⟨σ', H', I.unwish, q⟩
 | ret u => obtain ⟨v, σ', H', I, r, q⟩ := h; exact ⟨v, σ', H', I.unwish, r, q⟩
theorem PSs.nox {st : List Stmt} {t : TS} (h : PSs X.nox st t) : PSs X st t := fun pins s σ H D I hw =>
 wpAny_mono (h pins s σ H D (I.wish _) hw) (fun _ _ q => q.unwish) fun _ _ z => False.elim z
end
section
variable {X : Cx} {st : Stmt} {rest : List Stmt} {t u : TS} {e : Expr} {te : TE} {pos : Pos}
def tNext : TS := fun D σ H => D.nx σ H
def tSeq (t u : TS) : TS := fun D σ H => t { D with nx := u D } σ H
theorem pss_nil : PSs X [] tNext := fun _ _ σ H _ I h => wpAny_execs_nil ⟨σ, H, I, h⟩
theorem pss_cons (h1 : PS X st t) (h2 : PSs X rest u) : PSs X (st :: rest) (tSeq t u) := by
 intro pins s σ H D I h
 refine wpAny_execs_cons (thn (h1 pins s σ H { D with nx := u D } I h) fun f s1 q => ?_)
 cases f with
 | next =>
  obtain ⟨σ', H', I', q⟩ := q
  exact h2 pins s1 σ' H' D I' q
 | ret v => exact q
 | brk => exact q
 | cont => exact q
theorem pss_one (h1 : PS X st t) : PSs X [st] t := by
 intro pins s σ H D I h
 refine wpAny_execs_cons (thn (h1 pins s σ H D I h) fun f s1 q => ?_)
 cases f with
 | next => exact wpAny_execs_nil q
 | ret v => exact q
 | brk => exact q
 | cont => exact q
theorem Inv.quiet {pins : List (Addr × Obj)} {σ : St} {H : Hp} {s : Shared} (I : Inv X pins σ H s) : interactive X.env = false := by simp [interactive, I.ok.kind]
def tDrop (te : TE) : TS := fun D σ H => te σ H fun _ H1 => D.nx σ H1
theorem ps_expr (he : PE X e te) (hs : swapsWith e none pos.line X.env = pure false := by rfl) : PS X (.Expr e pos) (tDrop te) := by
 intro pins s σ H D I h
 exact wpAny_Expr_any (thn (he pins s σ H _ I h) fun v s1 ⟨x, H1, I1, r1, q1⟩ => ⟨σ, H1, I1, q1⟩) I.quiet hs
def tRet (te : TE) : TS := fun D σ H => te σ H D.rt
theorem ps_ret (he : PE X e te) : PS X (.Return (some e) pos) (tRet te) := by
 intro pins s σ H D I h
 exact wpAny_Return_some (thn (he pins s σ H _ I h) fun v s1 ⟨x, H1, I1, r1, q1⟩ => ⟨x, σ, H1, I1, r1, q1⟩)
def tIfS (c : TT) (t u : TS) : TS := fun D σ H => c σ H fun b H1 => if b = true then t D σ H1 else u D σ H1
theorem ps_if {c : Expr} {a b : List Stmt} {tc : TT} (hc : PT X c tc) (ha : PSs X a t) (hb : PSs X b u) : PS X (.If c a b pos) (tIfS tc t u) := by
 intro pins s σ H D I h
 refine wpAny_If (thn (hc pins s σ H _ I h) fun d s1 ⟨H1, I1, q1⟩ => ?_)
 cases d with
 | true => exact ha pins s1 σ H1 D I1 q1
 | false => exact hb pins s1 σ H1 D I1 q1
end
abbrev TG := V -> St -> Hp -> (St -> Hp -> Prop) -> Prop
abbrev TGs := List V -> St -> Hp -> (St -> Hp -> Prop) -> Prop
def PG (X : Cx) (target : Expr) (t : TG) : Prop :=
 ∀ (pins : List (Addr × Obj)) (s : Shared) (σ : St) (H : Hp) (v : V) (u : Value) (Q : St -> Hp -> Prop), Inv X pins σ H s -> RelV v u -> t v σ H Q ->
  wpAny (model X.prog X.w) X.A (assign target X.env u) (fun _ s' => ∃ σ' H', Inv X pins σ' H' s' /\ Q σ' H') X.xe s
def PGs (X : Cx) (ts : List Expr) (t : TGs) : Prop :=
 ∀ (pins : List (Addr × Obj)) (s : Shared) (σ : St) (H : Hp) (vs : List V) (us : List Value) (Q : St -> Hp -> Prop), Inv X pins σ H s -> Vals vs us -> t vs σ H Q ->
  wpAny (model X.prog X.w) X.A (assignInOrder ((assignEach ts X.env).map (·.2)) us) (fun _ s' => ∃ σ' H', Inv X pins σ' H' s' /\ Q σ' H') X.xe s
abbrev TSet := V -> V -> V -> Hp -> (Hp -> Prop) -> Prop
def PSet (X : Cx) (t : TSet) : Prop :=
 ∀ (pins : List (Addr × Obj)) (s : Shared) (σ : St) (H : Hp) (o i v : V) (ov iv u : Value) (Q : Hp -> Prop), Inv X pins σ H s -> RelV o ov -> RelV i iv -> RelV v u -> t o i v H Q ->
  wpAny (model X.prog X.w) X.A (setItem ov iv u) (fun _ s' => ∃ H', Inv X pins σ H' s' /\ Q H') X.xe s
section
variable {X : Cx} {pos : Pos}
def gName (i : Nat) : TG := fun v σ H Q => Q (σ.set i (some v)) H
theorem pg_name {i : Nat} {x : Str} (hN : X.N.Nodup) (hi : X.N[i]? = some x) (hx : Loc X.env.scope x) (hf : X.fn x = true \/ X.env.scope.names.lookup x = some .local := by first | exact .inl rfl | exact .inr rfl | assumption) : PG X (.Name x pos) (gName i) := by
 intro pins s σ H v u Q I r h
 exact wpAny_assign_Name (store_ok I hN hi hx r (fun s' I' => ⟨_,H, I', h⟩) hf)
def gNil : TGs := fun vs σ H Q => vs = [] /\ Q σ H
def gCons (t : TG) (u : TGs) : TGs := fun vs σ H Q => ∃ v r, vs = v :: r /\ t v σ H fun σ' H' => u r σ' H' Q
theorem pgs_nil : PGs X [] gNil := by
 intro pins s σ H vs us Q I r h
 obtain ⟨e, h⟩ := h
 subst e
 cases r
 exact assignInOrder_nil ⟨σ, H, I, h⟩
theorem pgs_cons {e : Expr} {es : List Expr} {t : TG} {u : TGs} (h1 : PG X e t) (h2 : PGs X es u)
    (hs : (assignEach (e :: es) X.env).map (·.2) = assign e X.env :: (assignEach es X.env).map (·.2) := by rfl) : PGs X (e :: es) (gCons t u) := by
 intro pins s σ H vs us Q I r h
 obtain ⟨v, vr, e1, h⟩ := h
 subst e1
 cases r with
 | cons r rr =>
  rw [hs]
  refine assignInOrder_cons (thn (h1 pins s σ H _ _ _ I r h) fun _ s1 ⟨σ1, H1, I1, q1⟩ => ?_)
  exact h2 pins s1 σ1 H1 _ _ Q I1 rr q1
def gTup (K : PySem.W.Frag) (n : Nat) (t : TGs) : TG := fun v σ H Q => ∃ a xs, v = .ref a /\ SqT K H a xs /\ xs.length = n /\ t xs σ H Q
theorem pg_tup {es : List Expr} {k : Nat} {t : TGs} {n : Nat} (hc : X.calm = true) (h : PGs X es t)
    (hn : (assignEach es X.env).length = n := by rfl) (hst : (assignEach es X.env).findIdx? (·.1) = none := by rfl) : PG X (.Tuple es k pos) (gTup X.K n t) := by
 intro pins s σ H v u Q I r hw
 obtain ⟨a, xs, e1, hq, hl, hw⟩ := hw
 subst e1
 cases r
 obtain ⟨its, rv, ht, hz⟩ := I.tuple hq
 refine assign_Tuple_tuple (I.ok.hd hc) ht (by simp [hn, <- hl, rv.length]) hst fun h' hx => ?_
 have I1 : Inv X pins σ H { s with heap := h' } := I.kept (t' := s.toks) fun b o e => hx b o (Nat.ne_of_lt (Heap.lt_size e)) e
 exact h pins _ σ H xs _ Q I1 (by simpa using rv) hw
def gSub (to ti : TE) (t : TSet) : TG := fun v σ H Q => to σ H fun o H1 => ti σ H1 fun i H2 => t o i v H2 fun H3 => Q σ H3
theorem pg_sub {o i : Expr} {to ti : TE} {t : TSet} (ho : PE X o to) (hi : PE X i ti) (hs : PSet X t)
    (ha : ∀ v, assign (.Subscript o i pos) X.env v = (do
     let ov <- holding [v] (eval o X.env)
     let iv <- holding [v, ov] (eval i X.env)
     standAt pos
     holding [v, ov, iv] (setItem ov iv v)
     release [v, ov, iv] []) := by intro _; rfl) : PG X (.Subscript o i pos) (gSub to ti t) := by
 intro pins s σ H v u Q I r h
 rw [ha]
 refine wpAny_bind (wpAny_holding (thn (ho pins s σ H _ I h) fun ov s1 ⟨x, H1, I1, r1, q1⟩ => ?_))
 refine wpAny_bind (wpAny_holding (thn (hi pins s1 σ H1 _ I1 q1) fun iv s2 ⟨y, H2, I2, r2, q2⟩ => ?_))
 refine wpAny_bind (wpAny_standAt (wpAny_bind (wpAny_holding (thn (hs pins s2 σ H2 x y v ov iv u _ I2 r1 r2 r q2) fun _ s3 ⟨H3, I3, q3⟩ => ?_))))
 exact wpAny_release ⟨σ, H3, I3, q3⟩
def tAsg (te : TE) (g : TG) : TS := fun D σ H => te σ H fun x H1 => g x σ H1 D.nx
theorem ps_asg {tg e : Expr} {te : TE} {g : TG} (he : PE X e te) (hg : PG X tg g) (hs : swapsWithSole [tg] e pos.line X.env = pure false := by rfl) (hw : swappedStores [tg] e X.env = pure none := by rfl)
    (h1 : (assignEach [tg] X.env).map (·.2) = [assign tg X.env] := by rfl) : PS X (.Assign [tg] e pos) (tAsg te g) := by
 intro pins s σ H D I h
 refine wpAny_Assign_stores (thn (he pins s σ H _ I h) fun v s1 ⟨x, H1, I1, r1, q1⟩ => ?_) hs hw
 rw [h1]
 exact thn (hg pins s1 σ H1 x v _ I1 r1 q1) fun _ s2 q => q
theorem ps_set {i : Nat} {x : Str} {e : Expr} {te : TE} {pos' : Pos} (hN : X.N.Nodup) (hi : X.N[i]? = some x) (hx : Loc X.env.scope x) (he : PE X e te) (hs : swapsWith e (some (.Name x pos')) pos.line X.env = pure false := by rfl) (hf : X.fn x = true \/ X.env.scope.names.lookup x = some .local := by first | exact .inl rfl | exact .inr rfl | assumption) :
    PS X (.Assign [.Name x pos'] e pos) (tAsg te (gName i)) := by
 intro pins s σ H D I h
 refine wpAny_Assign_Name (thn (he pins s σ H _ I h) fun v s1 ⟨y, H1, I1, r1, q1⟩ => ?_) hs
 exact store_ok I1 hN hi hx r1 (fun s2 I2 => ⟨_,H1, I2, q1⟩) hf
def tPar (i j : Nat) (ta : TA) : TS := fun D σ H => ta σ H fun vs H1 => ∃ v w, vs = [v, w] /\ D.nx ((σ.set i (some v)).set j (some w)) H1
theorem ps_par {i j : Nat} {x y : Str} {a b : Expr} {ta : TA} {px py pt : Pos} {kt k2 pt2} (hc : X.calm = true) (hN : X.N.Nodup) (hi : X.N[i]? = some x) (hj : X.N[j]? = some y) (hij : i ≠ j)
    (hx : X.env.scope.names.lookup x = some .local) (hy : X.env.scope.names.lookup y = some .local) (ha : PA X [a, b] ta)
    (hw : swappedStores [.Tuple [.Name x px, .Name y py] kt pt] (.Tuple [a, b] k2 pt2) X.env = pure (some [x, y]))
    (hs : swapsWithSole [.Tuple [.Name x px, .Name y py] kt pt] (.Tuple [a, b] k2 pt2) pos.line X.env = pure false := by rfl) :
    PS X (.Assign [.Tuple [.Name x px, .Name y py] kt pt] (.Tuple [a, b] k2 pt2) pos) (tPar i j ta) := by
 intro pins s σ H D I h
 rw [exec_Assign_arm]
 refine wpAny_bind (wpAny_standAt ?_)
 rw [hs]
 refine wpAny_bind (wpAny_pure ?_)
 rw [if_neg (by decide)]
 refine wpAny_bind (Tuple_ (thn (ha _ pins s σ H _ I h) fun us s1 ⟨vs, H1, I1, r1, q1⟩ => ?_))
 obtain ⟨v, w, e1, q1⟩ := q1
 subst e1
 obtain ⟨u1, u2, rfl,rv, rw'⟩ : ∃ u1 u2, us = [u1, u2] /\ RelV v u1 /\ RelV w u2 := by
  cases r1 with
  | cons p q =>
   cases q with
   | cons p' q' =>
    cases q'
    exact ⟨_,_,rfl,p, p'⟩
 refine wpAny_newObj_type ?_ (by show 2 <= sizeLine; decide)
 have I2 : Inv X pins σ H1 { s1 with heap := s1.heap.push { cls := .type "tuple", data := .seq [u1, u2].toArray } } := I1.kept (t' := s1.toks) fun b o e => Heap.get?_push_of_some _ e
 rw [hw]
 refine wpAny_bind (wpAny_pure ?_)
 show wpAny (model X.prog X.w) X.A (do rule "assign.swapped-stores"; let items <- unpackItems (.ref s1.heap.objs.size) 2 none; assignInOrder [fun v => bindName X.env y v, fun v => bindName X.env x v] items.reverse; pure Flow.next) _ _ _
 refine wpAny_bind (wpAny_rule (wpAny_bind (unpackItems_tuple (items := #[u1, u2]) (I.ok.hd hc) (IsTup.new s1.heap _) fun h' hx' => ?_)))
 have I3 := I2.kept (h' := h') (t' := s1.toks) fun b o e => hx' b o (Nat.ne_of_lt (Heap.lt_size e)) e
 show wpAny _ _ (assignInOrder [fun v => bindName X.env y v, fun v => bindName X.env x v] [u2, u1] >>= fun _ => pure Flow.next) _ _ _
 refine wpAny_bind (assignInOrder_cons (wpAny_bindName (store_ok I3 hN hj (.inl hy) rw' (fun s2 I4 => ?_) (.inr hy))))
 refine assignInOrder_cons (wpAny_bindName (store_ok I4 hN hi (.inl hx) rv (fun s3 I5 => assignInOrder_nil (wpAny_pure ?_)) (.inr hx)))
 rw [List.set_comm _ _ (Ne.symm hij)] at I5
 exact ⟨_,H1, I5, q1⟩
end
section
variable {X : Cx} {pos : Pos}
def tWhile (c : TT) (tb : TS) : TS := fun D σ H => ∃ W : Nat -> St -> Hp -> Prop, (∃ m, W m σ H) /\ ∀ m σ H, W m σ H ->
 c σ H fun b H1 => if b = true then ∃ N : St -> Hp -> Prop, (∀ σ' H', N σ' H' -> ∃ m', m' < m /\ W m' σ' H') /\ tb { D with nx := N, ct := N, bk := D.nx } σ H1 else D.nx σ H1
theorem ps_while {c : Expr} {body : List Stmt} {tc : TT} {tb : TS} (hp : PassesOwn (model X.prog X.w) X.A X.env X.xe) (hc : PT X c tc) (hb : PSs X body tb) : PS X (.While c body [] pos) (tWhile tc tb) := by
 intro pins s σ H D I h
 obtain ⟨W, ⟨m0, w0⟩, turn⟩ := h
 refine wpAny_While (codeAny_whileLoop (fun n s' => ∃ σ' H', Inv X pins σ' H' s' /\ W n σ' H') ?_ m0 ⟨σ, H, I, w0⟩)
 rintro n s1 ⟨σ1, H1, I1, w1⟩
 refine wpAny_passesOwn hp (thn (hc pins s1 σ1 H1 _ I1 (turn n σ1 H1 w1)) fun b s2 ⟨H2, I2, q2⟩ => ?_)
 cases b with
 | true =>
  obtain ⟨N, hN, q2⟩ := q2
  rw [if_pos rfl]
  refine wpAny_passesOwn hp (thn (hb pins s2 σ1 H2 _ I2 q2) fun f s3 q3 => ?_)
  cases f with
  | next =>
   obtain ⟨σ3, H3, I3, n3⟩ := q3
   obtain ⟨m', hm, w3⟩ := hN σ3 H3 n3
   exact ⟨m', hm, σ3, H3, I3, w3⟩
  | cont =>
   obtain ⟨σ3, H3, I3, n3⟩ := q3
   obtain ⟨m', hm, w3⟩ := hN σ3 H3 n3
   exact ⟨m', hm, σ3, H3, I3, w3⟩
  | brk => exact q3
  | ret v => exact q3
 | false =>
  rw [if_neg Bool.false_ne_true]
  exact wpAny_execs_nil ⟨σ1, H2, I2, q2⟩
end
structure It where
 go : Nat -> Hp -> Prop
 yld : Nat -> Hp -> V -> Hp -> Prop
 stop : Nat -> Hp -> Prop
def FpOk (X : Cx) (pins : List (Addr × Obj)) (H : Hp) (b : Addr) : Prop :=
 H b = none /\ b ≠ X.env.locals /\ b ∉ X.fs /\ (b ∈ X.ex \/ X.s₀.heap.objs.size <= b) /\ (∀ x c, X.env.cells.lookup x = some c -> c ≠ b) /\ ∀ p ∈ X.pn ++ pins, p.1 ≠ b
theorem Inv.fpOk {X : Cx} {pins : List (Addr × Obj)} {σ : St} {H H' : Hp} {s : Shared} {b : Addr} (I : Inv X pins σ H s) (hb : s.heap.objs.size <= b) (hn : H' b = none) : FpOk X pins H' b := by
 refine ⟨hn, Nat.ne_of_gt (Nat.lt_of_lt_of_le I.lt hb), I.nofs hb, .inr (Nat.le_trans I.sz hb), fun x c e z => ?_,fun p hp z => ?_⟩
 . obtain ⟨v, q⟩ := I.cell x c e
   exact absurd (Nat.lt_of_lt_of_le q.lt (by rw [z]; exact hb)) (Nat.lt_irrefl _)
 . exact absurd (Nat.lt_of_lt_of_le (Heap.lt_size (I.pin p hp).1) (by rw [z]; exact hb)) (Nat.lt_irrefl _)
structure Turn (P : Program) (w : World) (K : PySem.W.Frag) (tg : Expr) (J : It) (fp : List Addr) (it : Addr) (tn : Nat -> Heap -> Prop) : Prop where
 mem : it ∈ fp
 obj : ∀ i h, tn i h -> ∀ b ∈ fp, ∃ o, h.get? b = some o /\ ∀ v, o.data ≠ .cell v
 keep : ∀ i h h', tn i h -> (∀ b ∈ fp, ∀ o, h.get? b = some o -> h'.get? b = some o) -> tn i h'
 item : ∀ (X : Cx), X.prog = P -> X.w = w -> X.K = K -> X.calm = true -> ∀ (i : Nat) (pins : List (Addr × Obj)) (s : Shared) (σ : St) (H : Hp) (E : Value -> Shared -> Prop), Inv X pins σ H s -> (∀ b ∈ fp, FpOk X pins H b) -> tn i s.heap -> J.go i H ->
  wpAny (model P w) X.A (pyNext (.ref it)) (fun r s1 => ∃ u, r = some u /\
   wpAny (model P w) X.A (letOwnedTupleGo tg (.ref it) u) (fun _ s2 => ∃ x H', Inv X pins σ H' s2 /\ RelV x u /\ J.yld i H x H' /\ tn (i + 1) s2.heap /\ ∀ b ∈ fp, H' b = none) E s1) E s
 done : ∀ (X : Cx), X.prog = P -> X.w = w -> X.K = K -> X.calm = true -> ∀ (i : Nat) (pins : List (Addr × Obj)) (s : Shared) (σ : St) (H : Hp) (E : Value -> Shared -> Prop), Inv X pins σ H s -> (∀ b ∈ fp, FpOk X pins H b) -> tn i s.heap -> J.stop i H ->
  wpAny (model P w) X.A (pyNext (.ref it)) (fun r s1 => r = none /\ Inv X pins σ H s1) E s
 self : ∀ (A : Around) (i : Nat) (s : Shared) (Q : Value -> Shared -> Prop) (E : Value -> Shared -> Prop), tn i s.heap -> Q (.ref it) s -> wpAny (model P w) A (pyIter (.ref it)) Q E s
abbrev TI := St -> Hp -> (It -> Hp -> Prop) -> Prop
def PIE (X : Cx) (pins : List (Addr × Obj)) (σ : St) (tg : Expr) (R : It -> Hp -> Prop) (itv : Value) (s2 : Shared) : Prop :=
 ∃ (it : Addr) (fp : List Addr) (tn : Nat -> Heap -> Prop) (J : It) (H' : Hp), itv = .ref it /\ Inv X pins σ H' s2 /\ Turn X.prog X.w X.K tg J fp it tn /\ tn 0 s2.heap /\ (∀ b ∈ fp, FpOk X pins H' b) /\ R J H'
def PI (X : Cx) (tg iter : Expr) (wi : TI) : Prop :=
 ∀ (pins : List (Addr × Obj)) (s : Shared) (σ : St) (H : Hp) (R : It -> Hp -> Prop), Inv X pins σ H s -> wi σ H R ->
  wpAny (model X.prog X.w) X.A (eval iter X.env) (fun v s1 => wpAny (model X.prog X.w) X.A (pyIter v) (PIE X pins σ tg R) X.xe s1) X.xe s
theorem go_of {M : Model} {A : Around} {E : Value -> Shared -> Prop} {s : Shared} {tg : Expr} {it : Addr} {u : Value} {o : Obj} {n : String} {vs : Array Value} {Q : Unit -> Shared -> Prop} (ho : s.heap.get? it = some o) (hc : o.cls = .type n) (hd : o.data = .fields vs)
    (hn : ["enumerate", "zip", "dict_itemiterator", "dict_reverseitemiterator", "odict_iterator", "itertools.zip_longest", "itertools.pairwise"].contains n = false) (hQ : Q () s) : wpAny M A (letOwnedTupleGo tg (.ref it) u) Q E s := by
 unfold letOwnedTupleGo
 cases tg <;> first
  | exact wpAny_pure hQ
  | (cases u <;> first
      | exact wpAny_pure hQ
      | (refine wpAny_bind (wpAny_load ho ?_)
         rw [hc, hd]
         show wpAny M A (if (["enumerate", "zip", "dict_itemiterator", "dict_reverseitemiterator", "odict_iterator", "itertools.zip_longest", "itertools.pairwise"].contains n && vs[0]? == some (rawInt _)) = true then _ else _) Q E s
         rw [if_neg (by intro h; rw [hn, Bool.false_and] at h; cases h)]
         exact wpAny_pure hQ))
def Itl (K : PySem.W.Frag) (a : Addr) : It :=
 ⟨fun i H => ∃ xs x, SqL K H a xs /\ xs[i]? = some x, fun i H x H' => H' = H /\ ∀ xs, SqL K H a xs -> xs[i]? = some x, fun i H => ∃ xs, SqL K H a xs /\ xs.length <= i⟩
def Itt (K : PySem.W.Frag) (a : Addr) : It :=
 ⟨fun i H => ∃ xs x, SqT K H a xs /\ xs[i]? = some x, fun i H x H' => H' = H /\ ∀ xs, SqT K H a xs -> xs[i]? = some x, fun i H => ∃ xs, SqT K H a xs /\ xs.length <= i⟩
def Itr (lo : Int) (n : Nat) : It := ⟨fun i _ => i < n, fun i H x H' => H' = H /\ x = .int (lo + i), fun i _ => n <= i⟩
theorem turn_list {P : Program} {w : World} {K : PySem.W.Frag} {tg : Expr} (a it : Addr) : Turn P w K tg (Itl K a) [it] it (fun i h => h.IsListIter it a i) where
 mem := by simp
 obj := fun i h st b hb => by
  have e : b = it := by simpa using hb
  subst e
  obtain ⟨o, e, c, d⟩ := st
  exact ⟨o, e, fun v z => by rw [d] at z; cases z⟩
 keep := fun i h h' st k => st.at fun o e => k it (by simp) o e
 item := by
  intro X hP hw hK hc i pins s σ H E I hf st hg
  subst hP hw hK
  obtain ⟨xs, x, hq, hx⟩ := hg
  obtain ⟨its, rv, p, hz⟩ := I.list hq
  obtain ⟨u, hu, ru⟩ := rv.get hx
  obtain ⟨f0, f1, f2, f3, f4, f5⟩ := hf it (by simp)
  refine wpAny_pyNext_list_item st p.isList (x := u) (by simpa using hu) fun h' st' sb => ?_
  have I1 : Inv X pins σ H { s with heap := h' } := I.turned (t' := s.toks) (fun b o hb e => (sb.2 b hb).trans e) f0 f1 f3 f4 f5
  obtain ⟨o, e, c, d⟩ := id st'
  exact ⟨u, rfl,go_of (s := { s with heap := h' }) e c d (by decide) ⟨x, H, I1, ru, ⟨rfl,fun ys hy => by rw [I.list_inj hy hq]; exact hx⟩, st', fun b hb => (hf b hb).1⟩⟩
 done := by
  intro X hP hw hK hc i pins s σ H E I hf st hg
  subst hP hw hK
  obtain ⟨xs, hq, hx⟩ := hg
  obtain ⟨its, rv, p, hz⟩ := I.list hq
  obtain ⟨f0, f1, f2, f3, f4, f5⟩ := hf it (by simp)
  have hl := rv.length
  exact wpAny_pyNext_list_end (I.ok.hd hc) st p.isList (by simp; omega) fun h' eb => ⟨rfl,I.turned (t' := s.toks) (fun b o hb e => eb b o hb e) f0 f1 f3 f4 f5⟩
 self := fun _ _ _ _ _ st h => wpAny_pyIter_listiter st h
theorem turn_tuple {P : Program} {w : World} {K : PySem.W.Frag} {tg : Expr} (a it : Addr) : Turn P w K tg (Itt K a) [it] it (fun i h => h.IsTupleIter it a i) where
 mem := by simp
 obj := fun i h st b hb => by
  have e : b = it := by simpa using hb
  subst e
  obtain ⟨o, e, c, d⟩ := st
  exact ⟨o, e, fun v z => by rw [d] at z; cases z⟩
 keep := fun i h h' st k => st.at fun o e => k it (by simp) o e
 item := by
  intro X hP hw hK hc i pins s σ H E I hf st hg
  subst hP hw hK
  obtain ⟨xs, x, hq, hx⟩ := hg
  obtain ⟨its, rv, p, hz⟩ := I.tuple hq
  obtain ⟨u, hu, ru⟩ := rv.get hx
  obtain ⟨f0, f1, f2, f3, f4, f5⟩ := hf it (by simp)
  refine wpAny_pyNext_tuple_item st (show s.heap.IsTuple a its.toArray from p) (x := u) (by simpa using hu) fun h' st' sb => ?_
  have I1 : Inv X pins σ H { s with heap := h' } := I.turned (t' := s.toks) (fun b o hb e => (sb.2 b hb).trans e) f0 f1 f3 f4 f5
  obtain ⟨o, e, c, d⟩ := id st'
  exact ⟨u, rfl,go_of (s := { s with heap := h' }) e c d (by decide) ⟨x, H, I1, ru, ⟨rfl,fun ys hy => by rw [I.tuple_inj hy hq]; exact hx⟩, st', fun b hb => (hf b hb).1⟩⟩
 done := by
  intro X hP hw hK hc i pins s σ H E I hf st hg
  subst hP hw hK
  obtain ⟨xs, hq, hx⟩ := hg
  obtain ⟨its, rv, p, hz⟩ := I.tuple hq
  obtain ⟨f0, f1, f2, f3, f4, f5⟩ := hf it (by simp)
  have hl := rv.length
  exact wpAny_pyNext_tuple_end (I.ok.hd hc) st (show s.heap.IsTuple a its.toArray from p) (by simp; omega) fun h' eb => ⟨rfl,I.turned (t' := s.toks) (fun b o hb e => eb b o hb e) f0 f1 f3 f4 f5⟩
 self := fun _ _ _ _ _ st h => wpAny_pyIter_tupleiter st h
theorem turn_range {P : Program} {w : World} {K : PySem.W.Frag} {tg : Expr} (it : Addr) (lo : Int) (n : Nat) : Turn P w K tg (Itr lo n) [it] it (fun i h => IsRangeIter h it (lo + (i : Nat) * 1) ((n : Int) - (i : Nat)) 1) where
 mem := by simp
 obj := fun i h st b hb => by
  have e : b = it := by simpa using hb
  subst e
  exact ⟨_,st, fun v z => by
   have z' : Data.fields _ = Data.cell v := z
   cases z'⟩
 keep := fun i h h' st k => k it (by simp) _ st
 item := by
  intro X hP hw hK hc i pins s σ H E I hf st hg
  subst hP hw hK
  obtain ⟨f0, f1, f2, f3, f4, f5⟩ := hf it (by simp)
  have W := Walks.range (prog := X.prog) (w := X.w) (I.ok.hd hc) it lo 1 n
  refine W.item i s _ _ hg st fun v h' tk hv st' kk => ?_
  obtain ⟨t, rfl⟩ := hv
  have I1 : Inv X pins σ H { s with heap := h', toks := tk } := I.turned (fun b o hb e => kk b o (by simpa using hb) e) f0 f1 f3 f4 f5
  refine ⟨_,rfl,go_of (s := { s with heap := h', toks := tk }) (n := "range_iterator") st' rfl rfl (by decide) ⟨.int (lo + i), H, I1, ⟨t, ?_⟩, ⟨rfl,rfl⟩, st', fun b hb => (hf b hb).1⟩⟩
  rw [Int.mul_one]
 done := by
  intro X hP hw hK hc i pins s σ H E I hf st hg
  subst hP hw hK
  obtain ⟨f0, f1, f2, f3, f4, f5⟩ := hf it (by simp)
  exact wpAny_pyNext_range_end (I.ok.hd hc) st (by have : n <= i := hg; omega) fun h' eb => ⟨rfl,I.turned (t' := s.toks) (fun b o hb e => eb b o hb e) f0 f1 f3 f4 f5⟩
 self := fun _ _ _ _ _ st h => wpAny_pyIter_rangeiter st h
end L2
namespace L2
open PySem PySem.Spec PyProof.Rows
section
variable {X : Cx} {tg : Expr}
def iList (K : PySem.W.Frag) (tl : TE) : TI := fun σ H R => tl σ H fun x H1 => ∃ a, x = .ref a /\ (∃ xs, SqL K H1 a xs) /\ R (Itl K a) H1
def iTup (K : PySem.W.Frag) (tl : TE) : TI := fun σ H R => tl σ H fun x H1 => ∃ a, x = .ref a /\ (∃ xs, SqT K H1 a xs) /\ R (Itt K a) H1
theorem pi_list {l : Expr} {tl : TE} (hl : PE X l tl) : PI X tg l (iList X.K tl) := by
 intro pins s σ H R I h
 refine thn (hl pins s σ H _ I h) fun v s1 ⟨x, H1, I1, r1, q1⟩ => ?_
 obtain ⟨a, e, ⟨xs, hq⟩, q⟩ := q1
 subst e
 cases r1
 obtain ⟨its, rv, p, hz⟩ := I1.list hq
 refine wpAny_pyIter_list p.isList ?_
 refine ⟨s1.heap.objs.size, [s1.heap.objs.size], _,_,H1, rfl,I1.kept (t' := s1.toks) fun b o e => Heap.get?_push_of_some _ e, turn_list a _,⟨_,Heap.get?_push_size _ rfl,rfl,rfl⟩, fun b hb => ?_,q⟩
 have e : b = s1.heap.objs.size := by simpa using hb
 subst e
 exact I1.fpOk (Nat.le_refl _) (I1.hok.fresh (Nat.le_refl _))
theorem pi_tup {l : Expr} {tl : TE} (hl : PE X l tl) : PI X tg l (iTup X.K tl) := by
 intro pins s σ H R I h
 refine thn (hl pins s σ H _ I h) fun v s1 ⟨x, H1, I1, r1, q1⟩ => ?_
 obtain ⟨a, e, ⟨xs, hq⟩, q⟩ := q1
 subst e
 cases r1
 obtain ⟨its, rv, p, hz⟩ := I1.tuple hq
 refine wpAny_pyIter_tuple (show s1.heap.IsTuple a its.toArray from p) ?_
 refine ⟨s1.heap.objs.size, [s1.heap.objs.size], _,_,H1, rfl,I1.kept (t' := s1.toks) fun b o e => Heap.get?_push_of_some _ e, turn_tuple a _,⟨_,Heap.get?_push_size _ rfl,rfl,rfl⟩, fun b hb => ?_,q⟩
 have e : b = s1.heap.objs.size := by simpa using hb
 subst e
 exact I1.fpOk (Nat.le_refl _) (I1.hok.fresh (Nat.le_refl _))
theorem range_it {pins : List (Addr × Obj)} {σ : St} {H : Hp} {s : Shared} {R : It -> Hp -> Prop} {E : Value -> Shared -> Prop} {lo hi : Int} {t u v : Tok} {tk : Nat} (I : Inv X pins σ H s) (h1 : -(2 ^ 62) <= lo) (h2 : lo < 2 ^ 62) (h3 : -(2 ^ 62) <= hi) (h4 : hi < 2 ^ 62)
    (q : R (Itr lo (hi - lo).toNat) H) : wpAny (model X.prog X.w) X.A (pyIter (.ref s.heap.objs.size)) (PIE X pins σ tg R) E { s with heap := s.heap.push { cls := .type "range", data := .fields #[.int lo t, .int hi u, .int 1 v] }, toks := tk } := by
 refine wpAny_pyIter_range (IsRange.new ..) (small_one h1 h2 h3 h4) ?_
 have I1 : Inv X pins σ H { s with heap := s.heap.push { cls := .type "range", data := .fields #[.int lo t, .int hi u, .int 1 v] }, toks := tk } := I.kept fun b o e => Heap.get?_push_of_some _ e
 refine ⟨(s.heap.push { cls := .type "range", data := .fields #[.int lo t, .int hi u, .int 1 v] }).objs.size, [(s.heap.push { cls := .type "range", data := .fields #[.int lo t, .int hi u, .int 1 v] }).objs.size], _,_,H, rfl,
  I1.kept (t' := tk) fun b o e => Heap.get?_push_of_some _ e, turn_range _ lo (hi - lo).toNat, ?_,fun b hb => ?_,q⟩
 . have e1 : lo + ((0 : Nat) : Int) * 1 = lo := by simp
   have e2 : (((hi - lo).toNat : Nat) : Int) - ((0 : Nat) : Int) = Builtin.Range.rangeSize lo hi 1 := by rw [rangeSize_one]; split <;> omega
   show IsRangeIter _ _ (lo + ((0 : Nat) : Int) * 1) ((((hi - lo).toNat : Nat) : Int) - ((0 : Nat) : Int)) 1
   rw [e1, e2]
   exact Heap.get?_push_size _ rfl
 . have e : b = (s.heap.push { cls := .type "range", data := .fields #[.int lo t, .int hi u, .int 1 v] }).objs.size := by simpa using hb
   subst e
   exact I1.fpOk (Nat.le_refl _) (I1.hok.fresh (Nat.le_refl _))
def iRng1 (ta : TA) : TI := fun σ H R => ta σ H fun vs H1 => ∃ j : Int, vs = [.int j] /\ -(2 ^ 62) <= j /\ j < 2 ^ 62 /\ R (Itr 0 j.toNat) H1
def iRng2 (ta : TA) : TI := fun σ H R => ta σ H fun vs H1 => ∃ i j : Int, vs = [.int i, .int j] /\ (-(2 ^ 62) <= i /\ i < 2 ^ 62 /\ -(2 ^ 62) <= j /\ j < 2 ^ 62) /\ R (Itr i (j - i).toNat) H1
theorem pi_range1 {a : Expr} {ta : TA} {p pos : Pos} (hg : Gl X "range") (hm : X.mg "range" = none) (ha : PA X [a] ta) (hs : starEach [a] X.env = [(false, eval a X.env)] := by rfl) : PI X tg (.Call (.Name "range" p) [a] [] pos) (iRng1 ta) := by
 intro pins s σ H R I h
 refine Call_ (ld_blt I hg hm boot_range (PyProof.Rows.callWith_type1 (thn (ha pos pins s σ H _ I h) fun us s1 ⟨vs, H1, I1, r1, q1⟩ => ?_) hs rfl))
 obtain ⟨j, e, q1, q2, q⟩ := q1
 subst e
 cases r1 with
 | cons r rr =>
  cases rr
  obtain ⟨t, rfl⟩ := r
  exact call_range_1 (range_it I1 (by omega) (by omega) q1 q2 (by simpa using q))
theorem pi_range2 {a b : Expr} {ta : TA} {p pos : Pos} (hg : Gl X "range") (hm : X.mg "range" = none) (ha : PA X [a, b] ta) (hs : starEach [a, b] X.env = [(false, eval a X.env), (false, eval b X.env)] := by rfl) (hs2 : starEach [b] X.env = [(false, eval b X.env)] := by rfl) :
    PI X tg (.Call (.Name "range" p) [a, b] [] pos) (iRng2 ta) := by
 intro pins s σ H R I h
 refine Call_ (ld_blt I hg hm boot_range (PyProof.Rows.callWith_type1 (thn (ha pos pins s σ H _ I h) fun us s1 ⟨vs, H1, I1, r1, q1⟩ => ?_) (by rw [hs, hs2]) (by rw [hs2]; rfl)))
 obtain ⟨i, j, e, ⟨q1, q2, q3, q4⟩, q⟩ := q1
 subst e
 cases r1 with
 | cons r rr =>
  cases rr with
  | cons r' rr =>
   cases rr
   obtain ⟨t, rfl⟩ := r
   obtain ⟨t', rfl⟩ := r'
   exact call_range_2 (range_it I1 q1 q2 q3 q4 q)
def tFor (wi : TI) (g : TG) (tb : TS) : TS := fun D σ H => wi σ H fun J H1 => ∃ W : Nat -> Nat -> St -> Hp -> Prop, (∃ m, W 0 m σ H1) /\ ∀ i m σ H, W i m σ H ->
 (J.stop i H /\ D.nx σ H) \/ (J.go i H /\ ∃ N : St -> Hp -> Prop, (∀ σ' H', N σ' H' -> ∃ m', m' < m /\ W (i + 1) m' σ' H') /\ ∀ x H', J.yld i H x H' -> g x σ H' fun σ2 H2 => tb { D with nx := N, ct := N, bk := D.nx } σ2 H2)
def pinsAt (fp : List Addr) (h : Heap) : List (Addr × Obj) := fp.filterMap fun b => (h.get? b).map fun o => (b, o)
theorem mem_pinsAt {fp : List Addr} {h : Heap} {b : Addr} {o : Obj} (hb : b ∈ fp) (e : h.get? b = some o) : (b, o) ∈ pinsAt fp h := List.mem_filterMap.mpr ⟨b, hb, by rw [e]; rfl⟩
theorem of_pinsAt {fp : List Addr} {h : Heap} {p : Addr × Obj} (hp : p ∈ pinsAt fp h) : p.1 ∈ fp /\ h.get? p.1 = some p.2 := by
 obtain ⟨b, hb, e⟩ := List.mem_filterMap.mp hp
 cases q : h.get? b with
 | none => rw [q] at e; cases e
 | some o =>
  rw [q] at e
  have e' : (b, o) = p := Option.some.inj e
  subst e'
  exact ⟨hb, q⟩
theorem Inv.pinned {pins : List (Addr × Obj)} {σ : St} {H : Hp} {s : Shared} {fp : List Addr} (I : Inv X pins σ H s) (hf : ∀ b ∈ fp, FpOk X pins H b) (ho : ∀ b ∈ fp, ∃ o, s.heap.get? b = some o /\ ∀ v, o.data ≠ .cell v) : Inv X (pins ++ pinsAt fp s.heap) σ H s :=
 I.pins_of fun p hp => (List.mem_append.mp hp).elim (fun z => I.pin p (List.mem_append_right _ z)) fun z => by
  obtain ⟨hb, e⟩ := of_pinsAt z
  obtain ⟨f0, f1, f2, _⟩ := hf p.1 hb
  obtain ⟨o, e', d⟩ := ho p.1 hb
  rw [e] at e'; cases e'
  exact ⟨e, f0, f1, f2, d⟩
theorem Inv.unpinned {pins pl : List (Addr × Obj)} {σ : St} {H : Hp} {s : Shared} (I : Inv X (pins ++ pl) σ H s) : Inv X pins σ H s := I.pins_of fun p hp => I.pin p (List.mem_append_right _ (List.mem_append_left _ hp))
theorem ps_for {iter : Expr} {body : List Stmt} {wi : TI} {g : TG} {tb : TS} {pos : Pos} (hp : PassesOwn (model X.prog X.w) X.A X.env X.xe) (hc : X.calm = true) (hi : PI X tg iter wi) (hg : PG X tg g) (hb : PSs X body tb)
    (hs : ∀ x, foldedSetIterable iter X.env x = pure x := by intro _; rfl) : PS X (.For tg iter body [] pos) (tFor wi g tb) := by
 intro pins s σ H D I h
 refine wpAny_For (thn (hi pins s σ H _ I h) fun v s1 h1 => thn h1 fun itv s2 h2 => ?_) hs
 obtain ⟨it, fp, tn, J, H2, e, I2, T, st2, f2, W, ⟨m0, w0⟩, turn⟩ := h2
 subst e
 have stat : ∀ {H' : Hp}, (∀ b ∈ fp, H' b = none) -> ∀ b ∈ fp, FpOk X pins H' b := fun hn b hb => ⟨hn b hb, (f2 b hb).2⟩
 refine codeAny_forLoop_any (fun n s' => ∃ i σ' H', Inv X pins σ' H' s' /\ tn i s'.heap /\ (∀ b ∈ fp, H' b = none) /\ W i n σ' H') ?_ m0 ⟨0, σ, H2, I2, st2, fun b hb => (f2 b hb).1, w0⟩
 rintro n s3 ⟨i, σ3, H3, I3, st3, fr3, w3⟩
 rcases turn i n σ3 H3 w3 with ⟨stop, qn⟩ | ⟨go, N, hN, step⟩
 . refine wpAny_passesOwn hp (thn (T.done X rfl rfl rfl hc i pins s3 σ3 H3 X.xe I3 (stat fr3) st3 stop) fun r s4 ⟨hr, I4⟩ => ?_)
   subst hr
   exact wpAny_execs_nil ⟨σ3, H3, I4, qn⟩
 . refine wpAny_passesOwn hp (thn (T.item X rfl rfl rfl hc i pins s3 σ3 H3 X.xe I3 (stat fr3) st3 go) fun r s4 ⟨u, hr, h4⟩ => ?_)
   subst hr
   refine wpAny_passesOwn hp (thn h4 fun _ s5 ⟨x, H5, I5, r5, y5, st5, fr5⟩ => ?_)
   have I5' := I5.pinned (stat fr5) (T.obj _ _ st5)
   refine wpAny_passesOwn hp (thn (hg _ s5 σ3 H5 x u _ I5' r5 (step x H5 y5)) fun _ s6 ⟨σ6, H6, I6, q6⟩ => ?_)
   refine wpAny_passesOwn hp (thn (hb _ s6 σ6 H6 _ I6 q6) fun f s7 q7 => ?_)
   have again : ∀ {σ7 : St} {H7 : Hp}, Inv X (pins ++ pinsAt fp s5.heap) σ7 H7 s7 -> N σ7 H7 -> ∃ m, m < n /\ ∃ i σ' H', Inv X pins σ' H' s7 /\ tn i s7.heap /\ (∀ b ∈ fp, H' b = none) /\ W i m σ' H' := fun {σ7 H7} I7 n7 => by
    obtain ⟨m', hm, w7⟩ := hN σ7 H7 n7
    refine ⟨m', hm, i + 1, σ7, H7, I7.unpinned, T.keep _ _ _ st5 fun b hb o e => (I7.pin (b, o) (List.mem_append_right _ (List.mem_append_right _ (mem_pinsAt hb e)))).1, fun b hb => ?_,w7⟩
    obtain ⟨o, e, d⟩ := T.obj _ _ st5 b hb
    exact (I7.pin (b, o) (List.mem_append_right _ (List.mem_append_right _ (mem_pinsAt hb e)))).2.1
   cases f with
   | next => obtain ⟨σ7, H7, I7, n7⟩ := q7; exact again I7 n7
   | cont => obtain ⟨σ7, H7, I7, n7⟩ := q7; exact again I7 n7
   | brk => obtain ⟨σ7, H7, I7, q7⟩ := q7; exact ⟨σ7, H7, I7.unpinned, q7⟩
   | ret v => obtain ⟨x7, σ7, H7, I7, r7, q7⟩ := q7; exact ⟨x7, σ7, H7, I7.unpinned, r7, q7⟩
end
theorem for_list {K : PySem.W.Frag} {a : Addr} {xs : List V} {g : TG} {tb : TS} {D : Ends} {σ : St} {H : Hp} (Pv : Nat -> St -> Hp -> Prop) (h0 : Pv 0 σ H) (hl : ∀ i σ H, i <= xs.length -> Pv i σ H -> SqL K H a xs)
    (hs : ∀ i x σ H, xs[i]? = some x -> Pv i σ H -> g x σ H fun σ2 H2 => tb { D with nx := Pv (i + 1), ct := Pv (i + 1), bk := D.nx } σ2 H2) (hd : ∀ σ H, Pv xs.length σ H -> D.nx σ H) :
    ∃ W : Nat -> Nat -> St -> Hp -> Prop, (∃ m, W 0 m σ H) /\ ∀ i m σ H, W i m σ H ->
     ((Itl K a).stop i H /\ D.nx σ H) \/ ((Itl K a).go i H /\ ∃ N : St -> Hp -> Prop, (∀ σ' H', N σ' H' -> ∃ m', m' < m /\ W (i + 1) m' σ' H') /\ ∀ x H', (Itl K a).yld i H x H' -> g x σ H' fun σ2 H2 => tb { D with nx := N, ct := N, bk := D.nx } σ2 H2) := by
 refine ⟨fun i m σ H => m = xs.length - i /\ i <= xs.length /\ Pv i σ H, ⟨xs.length, by simp, Nat.zero_le _,h0⟩, ?_⟩
 rintro i m σ H ⟨rfl,hi, p⟩
 have q := hl i σ H hi p
 by_cases hlt : i < xs.length
 . refine .inr ⟨⟨xs, xs[i], q, by simp [hlt]⟩, Pv (i + 1), fun σ' H' p' => ⟨xs.length - (i + 1), by omega, rfl,hlt, p'⟩, fun x H' y => ?_⟩
   obtain ⟨e, y⟩ := y
   subst e
   exact hs i x σ _ (y xs q) p
 . have e : i = xs.length := by omega
   subst e
   exact .inl ⟨⟨xs, q, Nat.le_refl _⟩, hd σ H p⟩
theorem for_tup {K : PySem.W.Frag} {a : Addr} {xs : List V} {g : TG} {tb : TS} {D : Ends} {σ : St} {H : Hp} (Pv : Nat -> St -> Hp -> Prop) (h0 : Pv 0 σ H) (hl : ∀ i σ H, i <= xs.length -> Pv i σ H -> SqT K H a xs)
    (hs : ∀ i x σ H, xs[i]? = some x -> Pv i σ H -> g x σ H fun σ2 H2 => tb { D with nx := Pv (i + 1), ct := Pv (i + 1), bk := D.nx } σ2 H2) (hd : ∀ σ H, Pv xs.length σ H -> D.nx σ H) :
    ∃ W : Nat -> Nat -> St -> Hp -> Prop, (∃ m, W 0 m σ H) /\ ∀ i m σ H, W i m σ H ->
     ((Itt K a).stop i H /\ D.nx σ H) \/ ((Itt K a).go i H /\ ∃ N : St -> Hp -> Prop, (∀ σ' H', N σ' H' -> ∃ m', m' < m /\ W (i + 1) m' σ' H') /\ ∀ x H', (Itt K a).yld i H x H' -> g x σ H' fun σ2 H2 => tb { D with nx := N, ct := N, bk := D.nx } σ2 H2) := by
 refine ⟨fun i m σ H => m = xs.length - i /\ i <= xs.length /\ Pv i σ H, ⟨xs.length, by simp, Nat.zero_le _,h0⟩, ?_⟩
 rintro i m σ H ⟨rfl,hi, p⟩
 have q := hl i σ H hi p
 by_cases hlt : i < xs.length
 . refine .inr ⟨⟨xs, xs[i], q, by simp [hlt]⟩, Pv (i + 1), fun σ' H' p' => ⟨xs.length - (i + 1), by omega, rfl,hlt, p'⟩, fun x H' y => ?_⟩
   obtain ⟨e, y⟩ := y
   subst e
   exact hs i x σ _ (y xs q) p
 . have e : i = xs.length := by omega
   subst e
   exact .inl ⟨⟨xs, q, Nat.le_refl _⟩, hd σ H p⟩
theorem for_range {lo : Int} {n : Nat} {g : TG} {tb : TS} {D : Ends} {σ : St} {H : Hp} (Pv : Nat -> St -> Hp -> Prop) (h0 : Pv 0 σ H)
    (hs : ∀ i σ H, i < n -> Pv i σ H -> g (.int (lo + i)) σ H fun σ2 H2 => tb { D with nx := Pv (i + 1), ct := Pv (i + 1), bk := D.nx } σ2 H2) (hd : ∀ σ H, Pv n σ H -> D.nx σ H) :
    ∃ W : Nat -> Nat -> St -> Hp -> Prop, (∃ m, W 0 m σ H) /\ ∀ i m σ H, W i m σ H ->
     ((Itr lo n).stop i H /\ D.nx σ H) \/ ((Itr lo n).go i H /\ ∃ N : St -> Hp -> Prop, (∀ σ' H', N σ' H' -> ∃ m', m' < m /\ W (i + 1) m' σ' H') /\ ∀ x H', (Itr lo n).yld i H x H' -> g x σ H' fun σ2 H2 => tb { D with nx := N, ct := N, bk := D.nx } σ2 H2) := by
 refine ⟨fun i m σ H => m = n - i /\ i <= n /\ Pv i σ H, ⟨n, by simp, Nat.zero_le _,h0⟩, ?_⟩
 rintro i m σ H ⟨rfl,hi, p⟩
 by_cases hlt : i < n
 . refine .inr ⟨hlt, Pv (i + 1), fun σ' H' p' => ⟨n - (i + 1), by omega, rfl,hlt, p'⟩, fun x H' y => ?_⟩
   obtain ⟨e, y⟩ := y
   subst e y
   exact hs i σ _ hlt p
 . have e : i = n := by omega
   subst e
   exact .inl ⟨Nat.le_refl _,hd σ H p⟩
end L2
namespace L2
open PySem PySem.Spec PyProof.Rows
abbrev R2 := V -> V -> Hp -> VK -> Prop
def OpR (X : Cx) (f : Value -> Value -> Sem Value) (r : R2) : Prop :=
 ∀ (pins : List (Addr × Obj)) (s : Shared) (σ : St) (H : Hp) (x y : V) (v u : Value) (Q : VK), Inv X pins σ H s -> RelV x v -> RelV y u -> r x y H Q ->
  wpAny (model X.prog X.w) X.A (f v u) (EP X pins σ Q) X.xe s
def UnR (X : Cx) (f : Value -> Sem Value) (r : V -> Hp -> VK -> Prop) : Prop :=
 ∀ (pins : List (Addr × Obj)) (s : Shared) (σ : St) (H : Hp) (x : V) (v : Value) (Q : VK), Inv X pins σ H s -> RelV x v -> r x H Q ->
  wpAny (model X.prog X.w) X.A (f v) (EP X pins σ Q) X.xe s
def CallR (X : Cx) (f : Value) (r : List V -> Hp -> VK -> Prop) : Prop :=
 ∀ (pins : List (Addr × Obj)) (s : Shared) (σ : St) (H : Hp) (xs : List V) (us : List Value) (Q : VK), Inv X pins σ H s -> Vals xs us -> r xs H Q ->
  wpAny (model X.prog X.w) X.A (call f us) (EP X pins σ Q) X.xe s
def tOp (r : R2) (ta tb : TE) : TE := fun σ H Q => ta σ H fun x H1 => tb σ H1 fun y H2 => r x y H2 Q
def tUn (r : V -> Hp -> VK -> Prop) (ta : TE) : TE := fun σ H Q => ta σ H fun x H1 => r x H1 Q
def rI (C : Int -> Int -> Prop) (g : Int -> Int -> V) : R2 := fun x y H Q => ∃ i j, x = .int i /\ y = .int j /\ C i j /\ Q (g i j) H
def rI0 (g : Int -> Int -> V) : R2 := fun x y H Q => ∃ i j, x = .int i /\ y = .int j /\ Q (g i j) H
def rU (g : Int -> V) : V -> Hp -> VK -> Prop := fun x H Q => ∃ i, x = .int i /\ Q (g i) H
section
variable {X : Cx} {a b c : Expr} {ta tb tc : TE} {pos : Pos}
theorem binT (ha : PE X a ta) (hb : PE X b tb) {pins : List (Addr × Obj)} {s : Shared} {σ : St} {H : Hp} {R : V -> V -> Hp -> Prop} (I : Inv X pins σ H s)
    (h : ta σ H fun x H1 => tb σ H1 fun y H2 => R x y H2) {Q : Value -> Shared -> Prop} {f : Value -> Value -> Sem Value}
    (hf : ∀ v u s2 x y H2, Inv X pins σ H2 s2 -> RelV x v -> RelV y u -> R x y H2 -> wpAny (model X.prog X.w) X.A (f v u) Q X.xe s2) :
    wpAny (model X.prog X.w) X.A (eval a X.env) (fun v s₁ => wpAny (model X.prog X.w) X.A (eval b X.env) (fun u s₂ => wpAny (model X.prog X.w) X.A (f v u) Q X.xe s₂) X.xe s₁) X.xe s := by
 refine thn (ha pins s σ H _ I h) fun v s1 ⟨x, H1, I1, r1, q1⟩ => ?_
 refine thn (hb pins s1 σ H1 _ I1 q1) fun u s2 ⟨y, H2, I2, r2, q2⟩ => ?_
 exact hf v u s2 x y H2 I2 r1 r2 q2
theorem pe_op {op : Operator} {r : R2} (ho : OpR X (binaryOp op) r) (ha : PE X a ta) (hb : PE X b tb) : PE X (.BinOp a op b pos) (tOp r ta tb) := by
 intro pins s σ H Q I h
 exact wpAny_BinOp (binT ha hb I h fun v u s2 x y H2 I2 rx ry q => ho pins s2 σ H2 x y v u Q I2 rx ry q)
theorem pe_un {op : UnaryOp} {r : V -> Hp -> VK -> Prop} (ho : UnR X (unaryOp op) r) (ha : PE X a ta) : PE X (.UnaryOp op a pos) (tUn r ta) := by
 intro pins s σ H Q I h
 exact UnaryOp_ (thn (ha pins s σ H _ I h) fun v s1 ⟨x, H1, I1, r1, q1⟩ => ho pins s1 σ H1 x v Q I1 r1 q1)
theorem opI {f : Value -> Value -> Sem Value} {C : Int -> Int -> Prop} {g : Int -> Int -> Int}
    (rule : ∀ (i j : Int) (t u : Tok) (s : Shared) (Q : Value -> Shared -> Prop) (E : Value -> Shared -> Prop), C i j -> Q (.int (g i j) s.toks) { s with toks := s.toks + 1 } -> wpAny (model X.prog X.w) X.A (f (.int i t) (.int j u)) Q E s) :
    OpR X f (rI C fun i j => .int (g i j)) := by
 intro pins s σ H x y v u Q I rx ry h
 obtain ⟨i, j, rfl,rfl,hc, q⟩ := h
 obtain ⟨t, rfl⟩ := rx
 obtain ⟨t', rfl⟩ := ry
 exact rule i j t t' s _ _ hc ⟨.int (g i j), H, I.tok _,⟨_,rfl⟩, q⟩
theorem opI0 {f : Value -> Value -> Sem Value} {g : Int -> Int -> Int}
    (rule : ∀ (i j : Int) (t u : Tok) (s : Shared) (Q : Value -> Shared -> Prop) (E : Value -> Shared -> Prop), Q (.int (g i j) s.toks) { s with toks := s.toks + 1 } -> wpAny (model X.prog X.w) X.A (f (.int i t) (.int j u)) Q E s) :
    OpR X f (rI0 fun i j => .int (g i j)) := by
 intro pins s σ H x y v u Q I rx ry h
 obtain ⟨i, j, rfl,rfl,q⟩ := h
 obtain ⟨t, rfl⟩ := rx
 obtain ⟨t', rfl⟩ := ry
 exact rule i j t t' s _ _ ⟨.int (g i j), H, I.tok _,⟨_,rfl⟩, q⟩
theorem opB0 {f : Value -> Value -> Sem Value} {g : Int -> Int -> Bool}
    (rule : ∀ (i j : Int) (t u : Tok) (s : Shared) (Q : Value -> Shared -> Prop) (E : Value -> Shared -> Prop), Q (.bool (g i j)) s -> wpAny (model X.prog X.w) X.A (f (.int i t) (.int j u)) Q E s) :
    OpR X f (rI0 fun i j => .bl (g i j)) := by
 intro pins s σ H x y v u Q I rx ry h
 obtain ⟨i, j, rfl,rfl,q⟩ := h
 obtain ⟨t, rfl⟩ := rx
 obtain ⟨t', rfl⟩ := ry
 exact rule i j t t' s _ _ ⟨.bl (g i j), H, I, rfl,q⟩
def CDiv (i j : Int) : Prop := 0 < j /\ j < 1073741824
def CPow (i j : Int) : Prop := 0 <= j /\ j <= 1000000 /\ i.natAbs < 2 ^ 64
def CMul (i j : Int) : Prop := (-(2 ^ 64) < i /\ i < 2 ^ 64) \/ (-(2 ^ 64) < j /\ j < 2 ^ 64)
theorem CMul.ok {i j : Int} (h : CMul i j) : IntMulOk i j := by
 rcases h with ⟨h1, h2⟩ | ⟨h1, h2⟩
 . exact .of_left (intBits_le_64 h1 h2)
 . exact .of_right (intBits_le_64 h1 h2)
theorem op_add : OpR X (binaryOp .Add) (rI0 fun i j => .int (i + j)) := opI0 fun _ _ _ _ _ _ _ q => add_int q
theorem op_sub : OpR X (binaryOp .Sub) (rI0 fun i j => .int (i - j)) := opI0 fun _ _ _ _ _ _ _ q => sub_int q
theorem op_mul : OpR X (binaryOp .Mult) (rI CMul fun i j => .int (i * j)) := opI fun _ _ _ _ _ _ _ hc q => mul_int q hc.ok
theorem op_fdiv : OpR X (binaryOp .FloorDiv) (rI CDiv fun i j => .int (i / j)) := opI fun i j _ _ _ _ _ hc q => by
 have h1 : (0 : Int) < j := hc.1
 have h2 : j < 1073741824 := hc.2
 exact floordiv_int (by omega) (by rw [Int.fdiv_eq_ediv_of_nonneg i (by omega)]; exact q) (.inl (PyProof.noPylong_small (by omega)))
theorem op_mod : OpR X (binaryOp .Mod) (rI (fun _ j => 0 < j) fun i j => .int (i % j)) := opI fun i j _ _ _ _ _ hc q => by
 have h1 : (0 : Int) < j := hc
 exact mod_int' (by omega) (by rw [Int.fmod_eq_emod_of_nonneg i (by omega)]; exact q)
theorem op_pow : OpR X (binaryOp .Pow) (rI CPow fun i j => .int (i ^ j.toNat)) := opI fun _ _ _ _ _ _ _ hc q => pow_int_small hc.1 hc.2.1 hc.2.2 q
theorem unI {f : Value -> Sem Value} {g : Int -> Int}
    (rule : ∀ (i : Int) (t : Tok) (s : Shared) (Q : Value -> Shared -> Prop) (E : Value -> Shared -> Prop), Q (.int (g i) s.toks) { s with toks := s.toks + 1 } -> wpAny (model X.prog X.w) X.A (f (.int i t)) Q E s) :
    UnR X f (rU fun i => .int (g i)) := by
 intro pins s σ H x v Q I rx h
 obtain ⟨i, rfl,q⟩ := h
 obtain ⟨t, rfl⟩ := rx
 exact rule i t s _ _ ⟨.int (g i), H, I.tok _,⟨_,rfl⟩, q⟩
theorem un_neg : UnR X (unaryOp .USub) (rU fun i => .int (-i)) := unI fun _ _ _ _ _ q => neg_int q
end
def scal : V -> V -> Bool
 | .non, .non => true | .non, .int _ => true | .int _,.non => true | .non, .bl _ => true | .bl _,.non => true | .non, .str _ => true | .str _,.non => true
 | .int _,.int _ => true | .bl _,.bl _ => true | .str _,.str _ => true | .byt _,.byt _ => true
 | .int _,.str _ => true | .str _,.int _ => true | .bl _,.str _ => true | .str _,.bl _ => true
 | _,_ => false
def rEq : R2 := fun x y H Q => scal x y = true /\ Q (.bl (decide (x = y))) H
def rNe : R2 := fun x y H Q => scal x y = true /\ Q (.bl (!decide (x = y))) H
theorem dec_int {i j : Int} : decide (V.int i = V.int j) = (i == j) := by
 rw [Bool.eq_iff_iff]
 simp
theorem dec_bl {i j : Bool} : decide (V.bl i = V.bl j) = (i == j) := by
 rw [Bool.eq_iff_iff]
 simp
theorem dec_str {i j : Str} : decide (V.str i = V.str j) = (i == j) := by
 rw [Bool.eq_iff_iff]
 simp
theorem dec_byt {i j : Array UInt8} : decide (V.byt i = V.byt j) = (i.toList == j.toList) := by
 rw [Bool.eq_iff_iff]
 cases i
 cases j
 simp
section
variable {X : Cx} {a b c : Expr} {ta tb tc : TE} {pos : Pos}
theorem fin_bl {pins : List (Addr × Obj)} {σ : St} {H : Hp} {s : Shared} {Q : VK} {k k' : Bool} (I : Inv X pins σ H s) (q : Q (.bl k) H) (e : k = k') : EP X pins σ Q (.bool k') s := by
 subst e
 exact ⟨.bl k, H, I, rfl,q⟩
theorem op_eq : OpR X (compareOp .Eq) rEq := by
 intro pins s σ H x y v u Q I rx ry h
 obtain ⟨hs, q⟩ := h
 cases x with
 | non =>
  cases rx
  cases y with
  | non => cases ry; exact PySem.EqNone.eq_none_none (fin_bl I q (by simp))
  | bl j => cases ry; exact PySem.EqNone.eq_none_bool (fin_bl I q (by simp))
  | int j => obtain ⟨t', rfl⟩ := ry; exact PySem.EqNone.eq_none_int (fin_bl I q (by simp))
  | str j => obtain ⟨t', rfl⟩ := ry; exact PySem.EqNone.eq_none_str (fin_bl I q (by simp))
  | _ => exact absurd (show false = true from hs) Bool.false_ne_true
 | bl i =>
  cases rx
  cases y with
  | non => cases ry; exact PySem.EqNone.eq_bool_none (fin_bl I q (by simp))
  | bl j => cases ry; exact eq_bool (fin_bl I q dec_bl)
  | str j => obtain ⟨t', rfl⟩ := ry; exact PySem.EqMixed.eq_bool_str (fin_bl I q (by simp))
  | _ => exact absurd (show false = true from hs) Bool.false_ne_true
 | int i =>
  obtain ⟨t, rfl⟩ := rx
  cases y with
  | non => cases ry; exact PySem.EqNone.eq_int_none (fin_bl I q (by simp))
  | int j => obtain ⟨t', rfl⟩ := ry; exact eq_int (fin_bl I q dec_int)
  | str j => obtain ⟨t', rfl⟩ := ry; exact PySem.EqMixed.eq_int_str (fin_bl I q (by simp))
  | _ => exact absurd (show false = true from hs) Bool.false_ne_true
 | str i =>
  obtain ⟨t, rfl⟩ := rx
  cases y with
  | non => cases ry; exact PySem.EqNone.eq_str_none (fin_bl I q (by simp))
  | bl j => cases ry; exact PySem.EqMixed.eq_str_bool (fin_bl I q (by simp))
  | int j => obtain ⟨t', rfl⟩ := ry; exact PySem.EqMixed.eq_str_int (fin_bl I q (by simp))
  | str j => obtain ⟨t', rfl⟩ := ry; exact eq_str (fin_bl I q dec_str)
  | _ => exact absurd (show false = true from hs) Bool.false_ne_true
 | byt i =>
  obtain ⟨t, rfl⟩ := rx
  cases y with
  | byt j => obtain ⟨t', rfl⟩ := ry; exact PySem.W.eq_bytes (fin_bl I q dec_byt)
  | _ => exact absurd (show false = true from hs) Bool.false_ne_true
 | _ => cases y <;> exact absurd (show false = true from hs) Bool.false_ne_true
theorem op_ne : OpR X (compareOp .NotEq) rNe := by
 intro pins s σ H x y v u Q I rx ry h
 obtain ⟨hs, q⟩ := h
 cases x with
 | non =>
  cases rx
  cases y with
  | non => cases ry; exact PySem.EqNone.ne_none_none (fin_bl I q (by simp))
  | bl j => cases ry; exact PySem.EqNone.ne_none_bool (fin_bl I q (by simp))
  | int j => obtain ⟨t', rfl⟩ := ry; exact PySem.EqNone.ne_none_int (fin_bl I q (by simp))
  | str j => obtain ⟨t', rfl⟩ := ry; exact PySem.EqNone.ne_none_str (fin_bl I q (by simp))
  | _ => exact absurd (show false = true from hs) Bool.false_ne_true
 | bl i =>
  cases rx
  cases y with
  | non => cases ry; exact PySem.EqNone.ne_bool_none (fin_bl I q (by simp))
  | bl j => cases ry; exact ne_bool (fin_bl I q (congrArg not dec_bl))
  | str j => obtain ⟨t', rfl⟩ := ry; exact PySem.EqMixed.ne_bool_str (fin_bl I q (by simp))
  | _ => exact absurd (show false = true from hs) Bool.false_ne_true
 | int i =>
  obtain ⟨t, rfl⟩ := rx
  cases y with
  | non => cases ry; exact PySem.EqNone.ne_int_none (fin_bl I q (by simp))
  | int j => obtain ⟨t', rfl⟩ := ry; exact ne_int (fin_bl I q (congrArg not dec_int))
  | str j => obtain ⟨t', rfl⟩ := ry; exact PySem.EqMixed.ne_int_str (fin_bl I q (by simp))
  | _ => exact absurd (show false = true from hs) Bool.false_ne_true
 | str i =>
  obtain ⟨t, rfl⟩ := rx
  cases y with
  | non => cases ry; exact PySem.EqNone.ne_str_none (fin_bl I q (by simp))
  | bl j => cases ry; exact PySem.EqMixed.ne_str_bool (fin_bl I q (by simp))
  | int j => obtain ⟨t', rfl⟩ := ry; exact PySem.EqMixed.ne_str_int (fin_bl I q (by simp))
  | str j => obtain ⟨t', rfl⟩ := ry; exact ne_str (fin_bl I q (congrArg not dec_str))
  | _ => exact absurd (show false = true from hs) Bool.false_ne_true
 | byt i =>
  obtain ⟨t, rfl⟩ := rx
  cases y with
  | byt j => obtain ⟨t', rfl⟩ := ry; exact PySem.W.ne_bytes (fin_bl I q (congrArg not dec_byt))
  | _ => exact absurd (show false = true from hs) Bool.false_ne_true
 | _ => cases y <;> exact absurd (show false = true from hs) Bool.false_ne_true
theorem op_lt : OpR X (compareOp .Lt) (rI0 fun i j => .bl (decide (i < j))) := opB0 fun _ _ _ _ _ _ _ q => lt_int q
theorem op_le : OpR X (compareOp .LtE) (rI0 fun i j => .bl (decide (i <= j))) := opB0 fun _ _ _ _ _ _ _ q => le_int q
theorem op_gt : OpR X (compareOp .Gt) (rI0 fun i j => .bl (decide (j < i))) := opB0 fun _ _ _ _ _ _ _ q => gt_int q
theorem op_isN : OpR X (compareOp .Is) (fun x y H Q => y = .non /\ Q (.bl (decide (x = .non))) H) := by
 intro pins s σ H x y v u Q I rx ry h
 obtain ⟨rfl,q⟩ := h
 cases ry
 refine is_none_gen (fin_bl I q ?_)
 cases x <;> first
  | (cases rx; rfl)
  | (obtain ⟨t, rfl⟩ := rx; rfl)
theorem op_notN : OpR X (compareOp .IsNot) (fun x y H Q => y = .non /\ Q (.bl (!decide (x = .non))) H) := by
 intro pins s σ H x y v u Q I rx ry h
 obtain ⟨rfl,q⟩ := h
 cases ry
 refine isnot_none_gen (fin_bl I q ?_)
 cases x <;> first
  | (cases rx; rfl)
  | (obtain ⟨t, rfl⟩ := rx; rfl)
theorem nomark (b : Expr) {op : CmpOp} (h : op ≠ .In := by decide) (h2 : op ≠ .NotIn := by decide) : behindInMarks op b = false := by
 have e1 : (op == CmpOp.In) = false := by cases op <;> first | rfl | exact absurd rfl h
 have e2 : (op == CmpOp.NotIn) = false := by cases op <;> first | rfl | exact absurd rfl h2
 cases b <;> simp [behindInMarks, e1, e2]
theorem pe_cmpR {op : CmpOp} {r : R2} (ho : OpR X (compareOp op) r) (ha : PE X a ta) (hb : PE X b tb) (hm : behindInMarks op b = false) : PE X (.Compare a [op] [b] pos) (tOp r ta tb) := by
 intro pins s σ H Q I h
 exact wpAny_Compare1 (binT ha hb I h fun v u s2 x y H2 I2 rx ry q => ho pins s2 σ H2 x y v u Q I2 rx ry q) hm
def tTest (t : TE) : TT := fun σ H Q => t σ H fun x H' => ∃ k, x = .bl k /\ Q k H'
theorem pt_cmpR {op : CmpOp} {r : R2} (ho : OpR X (compareOp op) r) (ha : PE X a ta) (hb : PE X b tb) (hm : behindInMarks op b = false) : PT X (.Compare a [op] [b] pos) (tTest (tOp r ta tb)) := by
 intro pins s σ H Q I h
 refine wpAny_isTrue_Compare1 (thn (ha pins s σ H _ I h) fun v s1 ⟨x, H1, I1, r1, q1⟩ => thn (hb pins s1 σ H1 _ I1 q1) fun u s2 ⟨y, H2, I2, r2, q2⟩ =>
  thn (ho pins s2 σ H2 x y v u _ I2 r1 r2 q2) fun c s3 ⟨z, H3, I3, r3, k, e, q3⟩ => ?_) hm
 subst e
 cases r3
 exact wpAny_truthy_bool ⟨H3, I3, q3⟩
def tChain (r r' : R2) (ta tb tc : TE) : TE := fun σ H Q => ta σ H fun x H1 => tb σ H1 fun y H2 => r x y H2 fun z H3 => ∃ k, z = .bl k /\
 (if k = true then tc σ H3 fun w' H4 => r' y w' H4 Q else Q (.bl false) H3)
theorem pe_chain {op op' : CmpOp} {r r' : R2} (ho : OpR X (compareOp op) r) (ho' : OpR X (compareOp op') r') (ha : PE X a ta) (hb : PE X b tb) (hc : PE X c tc)
    (hm : lastMarks [op, op'] [b, c] = false := by with_unfolding_all rfl) : PE X (.Compare a [op, op'] [b, c] pos) (tChain r r' ta tb tc) := by
 intro pins s σ H Q I h
 refine Compare_chain (thn (ha pins s σ H _ I h) fun v s1 ⟨x, H1, I1, r1, q1⟩ => chain_link (thn (hb pins s1 σ H1 _ I1 q1) fun u s2 ⟨y, H2, I2, r2, q2⟩ =>
  thn (ho pins s2 σ H2 x y v u _ I2 r1 r2 q2) fun d s3 ⟨z, H3, I3, r3, k, e, q3⟩ => ?_)) hm
 subst e
 cases r3
 refine wpAny_truthy_bool ?_
 cases k with
 | false => exact ite_ff ⟨.bl false, H3, I3, rfl,q3⟩
 | true => exact ite_tt (chain_last (thn (hc pins s3 σ H3 _ I3 q3) fun w' s4 ⟨z', H4, I4, r4, q4⟩ => ho' pins s4 σ H4 y z' u w' Q I4 r2 r4 q4))
theorem pt_chain {op op' : CmpOp} {r r' : R2} (ho : OpR X (compareOp op) r) (ho' : OpR X (compareOp op') r') (ha : PE X a ta) (hb : PE X b tb) (hc : PE X c tc)
    (hm : lastMarks [op, op'] [b, c] = false := by with_unfolding_all rfl) : PT X (.Compare a [op, op'] [b, c] pos) (tTest (tChain r r' ta tb tc)) := by
 intro pins s σ H Q I h
 refine isTrue_chain (thn (ha pins s σ H _ I h) fun v s1 ⟨x, H1, I1, r1, q1⟩ => test_link (thn (hb pins s1 σ H1 _ I1 q1) fun u s2 ⟨y, H2, I2, r2, q2⟩ =>
  thn (ho pins s2 σ H2 x y v u _ I2 r1 r2 q2) fun d s3 ⟨z, H3, I3, r3, k, e, q3⟩ => ?_)) hm
 subst e
 cases r3
 refine wpAny_truthy_bool ?_
 cases k with
 | false =>
  obtain ⟨k', e', q'⟩ := q3
  cases e'
  exact ite_ff ⟨H3, I3, q'⟩
 | true =>
  refine ite_tt (test_last (thn (hc pins s3 σ H3 _ I3 q3) fun w' s4 ⟨z', H4, I4, r4, q4⟩ => thn (ho' pins s4 σ H4 y z' u w' _ I4 r2 r4 q4) fun d' s5 ⟨z2, H5, I5, r5, k2, e2, q5⟩ => ?_))
  subst e2
  cases r5
  exact wpAny_truthy_bool ⟨H5, I5, q5⟩
theorem line63 : (sizeLine : Nat) < 2 ^ 63 := by rw [sizeLine_eq]; decide
theorem vals1 {x : V} {us : List Value} (r : Vals [x] us) : ∃ u, us = [u] /\ RelV x u := by
 cases r with
 | cons r1 r2 => cases r2; exact ⟨_,rfl,r1⟩
theorem vals2 {x y : V} {us : List Value} (r : Vals [x, y] us) : ∃ u w', us = [u, w'] /\ RelV x u /\ RelV y w' := by
 cases r with
 | cons r1 r2 =>
  cases r2 with
  | cons r3 r4 => cases r4; exact ⟨_,_,rfl,r1, r3⟩
theorem call_max2 (hc : X.calm = true) : CallR X (.builtin "max") (fun xs H Q => ∃ i j, xs = [.int i, .int j] /\ Q (.int (if j > i then j else i)) H) := by
 intro pins s σ H xs us Q I r h
 obtain ⟨i, j, rfl,q⟩ := h
 obtain ⟨u, w', rfl,⟨t, rfl⟩, ⟨t', rfl⟩⟩ := vals2 r
 refine max_two_ints (I.ok.hd hc) fun h' tk k => ⟨_,H, I.kept k, ?_,q⟩
 by_cases hj : j > i
 . rw [if_pos hj, if_pos hj]; exact ⟨_,rfl⟩
 . rw [if_neg hj, if_neg hj]; exact ⟨_,rfl⟩
theorem call_min2 (hc : X.calm = true) : CallR X (.builtin "min") (fun xs H Q => ∃ i j, xs = [.int i, .int j] /\ Q (.int (if j < i then j else i)) H) := by
 intro pins s σ H xs us Q I r h
 obtain ⟨i, j, rfl,q⟩ := h
 obtain ⟨u, w', rfl,⟨t, rfl⟩, ⟨t', rfl⟩⟩ := vals2 r
 refine min_two_ints (I.ok.hd hc) fun h' tk k => ⟨_,H, I.kept k, ?_,q⟩
 by_cases hj : j < i
 . rw [if_pos hj, if_pos hj]; exact ⟨_,rfl⟩
 . rw [if_neg hj, if_neg hj]; exact ⟨_,rfl⟩
end
end L2
namespace L2
open PySem PySem.Spec PyProof.Rows
structure ObjM (h : Heap) (x dx C : Addr) (mA : Str -> Option Value) : Prop where
 obj : h.get? x = some (PySem.W.instObj C dx)
 ns : h.Ns1 dx mA
 ne : dx ≠ x
theorem lookIn_ns {h : Heap} {dx : Addr} {mA : Str -> Option Value} (n : h.Ns1 dx mA) : ∃ od, h.get? dx = some od /\ ∀ name, PySem.W.lookIn name od = some (mA name) := by
 obtain ⟨o, es, ep, ho, hd, hk, _,hm⟩ := n
 refine ⟨o, ho, fun name => ?_⟩
 have e := hm name
 unfold nsFind findBy at e
 rw [<- Array.find?_toList] at e
 unfold PySem.W.lookIn
 rw [hd]
 dsimp only
 split
 . rename_i y q
   rw [q] at e
   exact congrArg some e
 . rename_i q
   rw [q] at e
   have a : es.toList.any (·.refKey) = false := by
    rw [List.any_eq_false]
    intro y hy
    obtain ⟨z, t, hkey⟩ := hk y (Array.mem_toList_iff.mp hy)
    simp [DictEntry.refKey, hkey]
   have a' : ¬ es.toList.any (·.refKey) = true := by rw [a]; exact Bool.false_ne_true
   rw [if_neg a']
   exact congrArg some e
theorem ObjM.look {h : Heap} {x dx C : Addr} {mA : Str -> Option Value} (I : ObjM h x dx C mA) : ∃ od, PySem.W.InstAt h x (PySem.W.instObj C dx) C (some od) /\ ∀ name, PySem.W.lookIn name od = some (mA name) :=
 let ⟨od, ho, hl⟩ := lookIn_ns I.ns
 ⟨od, ⟨I.obj, rfl,rfl,ho⟩, hl⟩
section
variable {prog : Program} {w : World} {A : Around} {E : Value -> Shared -> Prop} {s : Shared} {K : PySem.W.Frag} {x dx C f : Addr} {mA : Str -> Option Value} {name : Str} {v : Value}
end
theorem RelO.some_of {v : V} {o : Option Value} (r : RelO (some v) o) : ∃ u, o = some u /\ RelV v u := by
 cases o with
 | none => exact (show False from r).elim
 | some u => exact ⟨u, rfl,r⟩
section
variable {P : Program} {w : World} {H H' : Hp} {h h' : Heap} {a C dx : Addr} {fs fs' : List (Str × V)}
theorem ins_get (hok : HOk P w H h) (e : H a = some (.ins C dx fs)) : ∃ mA, ObjM h a dx C mA /\ (∀ f, RelO (fs.lookup f) (mA f)) /\ PySem.Within mA (fs.map (·.1)) /\ fs.length <= 1000 /\ H dx = some (.own a) := by
 obtain ⟨d, z, ne, ob, mA, n, r, q⟩ := (show ObjOk P w H h a (.ins C dx fs) from hok a _ e)
 exact ⟨mA, ⟨ob, n, ne⟩, r, q, z, d⟩
end
structure Cls (K : PySem.W.Frag) (C : Addr) : Prop where
 pg : PySem.W.plainGet K C Str.empty = true
 hd : PySem.W.hasDictIn K C = true
 po : PySem.W.plainOver K C = true
 sa : PySem.W.findIn K (.ref C) "__setattr__" = some (some (.builtin "object.__setattr__"))
theorem Cls.get {K : PySem.W.Frag} {C : Addr} (c : Cls K C) (f : Str) : PySem.W.plainGet K C f = true := c.pg
section
variable {X : Cx} {pins : List (Addr × Obj)} {σ : St} {H : Hp} {s : Shared} {a C dx : Addr} {fs : List (Str × V)} {f : Str} {v : V} {A : Around} {E : Value -> Shared -> Prop}
end
section
variable {X : Cx} {o e value : Expr} {f : Str} {pos pos' tpos : Pos} {ta tv : TE}
end
section
variable {X : Cx} {pins : List (Addr × Obj)} {σ : St} {H : Hp} {s : Shared} {A : Around} {E : Value -> Shared -> Prop} {Q : Value -> Shared -> Prop} {c : Value} {b : Bool}
inductive TyOf (K : PySem.W.Frag) (H : Hp) : V -> Value -> Prop where
 | non : TyOf K H .non (.type "NoneType")
 | bl (x : Bool) : TyOf K H (.bl x) (.type "bool")
 | int (i : Int) : TyOf K H (.int i) (.type "int")
 | str (x : Str) : TyOf K H (.str x) (.type "str")
 | flt (x : UInt64) : TyOf K H (.flt x) (.type "float")
 | lst {a : Addr} {xs : List V} (e : H a = some (.lst xs)) : TyOf K H (.ref a) (.type "list")
 | frz {a : Addr} {o : Obj} {xs : List V} (e : H a = some (.frz o (.lst xs))) : TyOf K H (.ref a) (.type "list")
 | tup {a : Addr} {xs : List V} (e : H a = some (.tup xs)) : TyOf K H (.ref a) (.type "tuple")
 | dK {a : Addr} {kvs : List (Key × V)} (e : H a = some (.dK kvs)) : TyOf K H (.ref a) (.type "dict")
 | dT {a : Addr} {kvs : List (List Key × V)} (e : H a = some (.dT kvs)) : TyOf K H (.ref a) (.type "dict")
 | ins {a C dx : Addr} {fs : List (Str × V)} (e : H a = some (.ins C dx fs)) (cl : Cls K C) (ha : PySem.W.findIn K (.ref C) "__class__" = some (some (.builtin "object.__class__")))
     (hn : PySem.W.specialIn K (.builtin "object.__class__") "__get__" = some (some (.builtin "getset_descriptor.__get__"))) (htk : PySem.W.takesIn K (.builtin "object.__class__") = some true)
     (hm : PySem.W.mroIn K C (.type "object") = some true) : TyOf K H (.ref a) (.ref C)
theorem isinst_ok {x : V} {u t : Value} (I : Inv X pins σ H s) (rx : RelV x u) (ty : TyOf X.K H x t) (e : PySem.W.kitOne X.K t c = some b) (h : ∀ tk, Q (.bool b) { s with toks := tk }) :
    wpAny (model X.prog X.w) A (call (.builtin "isinstance") [u, c]) Q E s := by
 cases ty with
 | non => cases (show u = Value.none from rx); exact PySem.W.kia_one PySem.W.kitx_none I.kIn True.intro e (fun z => nomatch z) h
 | bl y => cases (show u = Value.bool y from rx); exact PySem.W.kia_one PySem.W.kitx_bool I.kIn True.intro e (fun z => nomatch z) h
 | int i => obtain ⟨t, q⟩ := (show ∃ t, u = Value.int i t from rx); cases q; exact PySem.W.kia_one PySem.W.kitx_int I.kIn True.intro e (fun z => nomatch z) h
 | str y => obtain ⟨t, q⟩ := (show ∃ t, u = Value.str y t from rx); cases q; exact PySem.W.kia_one PySem.W.kitx_str I.kIn True.intro e (fun z => nomatch z) h
 | flt y => obtain ⟨t, q⟩ := (show ∃ t, u = Value.float y t from rx); cases q; exact PySem.W.kia_one PySem.W.kitx_float I.kIn True.intro e (fun z => nomatch z) h
 | @lst a xs ea =>
  cases (show u = Value.ref a from rx)
  obtain ⟨_,_,n, _,h1⟩ := (show ObjOk X.prog X.w H s.heap a (.lst xs) from I.hok a _ ea)
  exact PySem.W.kia_one PySem.W.kitx_list I.kIn ⟨_,h1, rfl⟩ e (fun z => nomatch z) h
 | @frz a ob xs ea =>
  cases (show u = Value.ref a from rx)
  obtain ⟨_,_,_,n, _,h1⟩ := (show ObjOk X.prog X.w H s.heap a (.frz ob (.lst xs)) from I.hok a _ ea)
  exact PySem.W.kia_one PySem.W.kitx_list I.kIn ⟨_,h1, rfl⟩ e (fun z => nomatch z) h
 | @tup a xs ea =>
  cases (show u = Value.ref a from rx)
  obtain ⟨_,_,_,p⟩ := (show ObjOk X.prog X.w H s.heap a (.tup xs) from I.hok a _ ea)
  obtain ⟨o, h1, h2, _⟩ := p
  exact PySem.W.kia_one PySem.W.kitx_tuple I.kIn ⟨o, h1, h2⟩ e (fun z => nomatch z) h
 | @dK a kvs ea =>
  cases (show u = Value.ref a from rx)
  obtain ⟨_,_,vs, _,p⟩ := (show ObjOk X.prog X.w H s.heap a (.dK kvs) from I.hok a _ ea)
  obtain ⟨o, es, ep, h1, h2, _⟩ := p
  exact PySem.W.kia_one PySem.W.kitx_dict I.kIn ⟨o, h1, h2.1⟩ e (fun z => nomatch z) h
 | @dT a kvs ea =>
  cases (show u = Value.ref a from rx)
  obtain ⟨_,_,xs, _,o, es, ep, h1, h2, _⟩ := (show ObjOk X.prog X.w H s.heap a (.dT kvs) from I.hok a _ ea)
  exact PySem.W.kia_one PySem.W.kitx_dict I.kIn ⟨o, h1, h2.1⟩ e (fun z => nomatch z) h
 | @ins a C dx fs ea cl ha hn htk hm =>
  cases (show u = Value.ref a from rx)
  obtain ⟨mA, O, _⟩ := ins_get I.hok ea
  obtain ⟨od, J, _⟩ := O.look
  exact PySem.W.kia_one (PySem.W.kitx_own (cl.get _) cl.hd ha hn htk hm) I.kIn J e (fun z => nomatch z) h
end
end L2
namespace L2
open PySem PySem.Spec PyProof.Rows
structure Room (k : Nat) (A : Around) : Prop where
 hd : A.handled = none
 dp : A.depth + 3 * k + 5 < recursionLimit
 un : A.units + 16 * k + 200 < cLine
theorem Room.mono {j k : Nat} {A : Around} (r : Room k A) (h : j <= k) : Room j A := ⟨r.hd, by have := r.dp; omega, by have := r.un; omega⟩
theorem Room.deeper {k : Nat} {A : Around} (r : Room (k + 1) A) (env : Env) : Room k (A.deeper env) :=
 ⟨r.hd, by have := r.dp; show A.depth + 1 + 3 * k + 5 < _; omega, by have := r.un; show A.units + 3 + 16 * k + 200 < _; omega⟩
theorem Room.depth {k : Nat} {A : Around} (r : Room k A) : A.depth < recursionLimit := by have := r.dp; omega
theorem Room.units {k : Nat} {A : Around} (r : Room k A) : A.units + 64 < cLine := by have := r.un; omega
theorem Room.units0 {k : Nat} {A : Around} (r : Room k A) : A.units < cLine := by have := r.un; omega
def tNil : TA := fun _ H Q => Q [] H
def tCons (ta : TE) (tr : TA) : TA := fun σ H Q => ta σ H fun x H1 => tr σ H1 fun xs H2 => Q (x :: xs) H2
section
variable {X : Cx} {e : Expr} {es : List Expr} {te : TE} {t : TA} {pos : Pos}
theorem pa_nil : PA X [] tNil := fun _ _ _ _ H Q I h => Calls.spliced_nil ⟨[], H, I, .nil, h⟩
theorem pa_cons (ha : PE X e te) (hr : PA X es t) (hs : starEach (e :: es) X.env = (false, eval e X.env) :: starEach es X.env := by rfl) : PA X (e :: es) (tCons te t) := by
 intro pos pins s σ H Q I h
 rw [hs]
 show wpAny _ _ (spliced ((false, eval e X.env) :: backTo pos (starEach es X.env))) _ _ s
 refine Calls.spliced_cons (thn (ha pins s σ H _ I h) fun u s1 ⟨x, H1, I1, r1, q1⟩ => ?_)
 exact thn (hr pos pins s1 σ H1 _ I1 q1) fun us s2 ⟨xs, H2, I2, r2, q2⟩ => ⟨x :: xs, H2, I2, .cons r1 r2, q2⟩
def tTup (t : TA) : TE := fun σ H Q => t σ H fun xs H1 => xs.length <= sizeLine /\ ∀ p, H1 p = none -> Q (.ref p) (upd H1 p (.tup xs))
def tLst (t : TA) : TE := fun σ H Q => t σ H fun xs H1 => xs.length <= sizeLine /\ ∀ p, H1 p = none -> Q (.ref p) (upd H1 p (.lst xs))
theorem pe_tup {x1} (h : PA X es t) : PE X (.Tuple es x1 pos) (tTup t) := by
 intro pins s σ H Q I hq
 refine wpAny_Tuple_spliced (thn (h pos pins s σ H _ I hq) fun us s1 ⟨xs, H1, I1, r, z, q⟩ => ⟨by rw [<- r.length]; exact z, ?_⟩)
 have hf : H1 s1.heap.objs.size = none := I1.hok.fresh (Nat.le_refl _)
 refine ⟨.ref s1.heap.objs.size, upd H1 s1.heap.objs.size (.tup xs), I1.laid (t' := s1.toks) (fun b u e => Heap.get?_push_of_some _ e) (Nat.le_refl _) ?_,rfl,q _ hf⟩
 exact ⟨z, us, r, ⟨_,Heap.get?_push_size _ rfl,rfl,rfl,_,rfl⟩⟩
theorem pe_lst (h : PA X es t) : PE X (.List es pos) (tLst t) := by
 intro pins s σ H Q I hq
 refine wpAny_List_spliced (thn (h pos pins s σ H _ I hq) fun us s1 ⟨xs, H1, I1, r, z, q⟩ => ⟨by rw [<- r.length]; exact z, ?_⟩)
 have hf : H1 s1.heap.objs.size = none := I1.hok.fresh (Nat.le_refl _)
 refine ⟨.ref s1.heap.objs.size, upd H1 s1.heap.objs.size (.lst xs), I1.laid (t' := s1.toks) (fun b u e => Heap.get?_push_of_some _ e) (Nat.le_refl _) ?_,rfl,q _ hf⟩
 exact ⟨z, us, 0, r, Heap.get?_push_size _ rfl⟩
end
abbrev Sp := List V -> Hp -> VK -> XK -> Prop
abbrev CXT := List Env -> Hp -> Shared -> XK -> Value -> Shared -> Prop
structure Env0 (P : Program) (w : World) (K : PySem.W.Frag) (mg : Str -> Option Value) (base : Heap) (A : Around) (outer : List Env) (s : Shared) (H : Hp) : Prop where
 frames : A.frames = some outer
 mod : Mod K mg base
 bs : ∀ b o, base.get? b = some o -> s.heap.get? b = some o /\ H b = none
 bsz : base.objs.size <= s.heap.objs.size
 funs : s.heap.FunFrames base outer
 frf : ∀ b ∈ frs outer, H b = none
 hok : HOk P w H s.heap
 bare : AllBare s.gens
def CE (outer : List Env) (P : Program) (w : World) (H : Hp) (s : Shared) (Q : VK) (u : Value) (s' : Shared) : Prop :=
 ∃ v H', s'.os = s.os /\ AllBare s'.gens /\ Un (frs outer) [] H H' s.heap s'.heap /\ HOk P w H' s'.heap /\ RelV v u /\ Q v H'
def CR (CX : CXT) (outer : List Env) (P : Program) (w : World) (H : Hp) (s : Shared) (Q : VK) (E : XK) (r : Result) (s' : Shared) : Prop :=
 match r with
 | .ok (.ret u) => CE outer P w H s Q u s'
 | .ok _ => False
 | .error e => CX outer H s E e s'
structure FnOk (P : Program) (w : World) (K : PySem.W.Frag) (mg : Str -> Option Value) (base : Heap) (CX : CXT) (k : Nat) (f : Addr) (fd : FuncData) (ps : List Str) (sp : Sp) : Prop where
 len : ∀ vs H Q E, sp vs H Q E -> vs.length = ps.length
 run : ∀ (A : Around) (outer : List Env) (s : Shared) (H : Hp) (args : Args) (us : List Value) (vs : List V) (Q : VK) (E : XK), Room k A -> Env0 P w K mg base A outer s H -> BindsTo s fd args (ps.zip us) -> Vals vs us -> sp vs H Q E ->
  codeAny (model P w) A (.call (.ref f) args) (CR CX outer P w H s Q E) s
section
variable {X : Cx} {pins : List (Addr × Obj)} {σ : St} {H : Hp} {s s' : Shared}
theorem Inv.env0 (I : Inv X pins σ H s) : Env0 X.prog X.w X.K X.mg X.base X.A X.stack s H :=
 ⟨I.ok.frames, I.ok.mod, I.bs, Nat.le_trans I.ok.bsz I.sz, I.stack, I.stkFree, I.hok, I.bare⟩
theorem Inv.after {Q : VK} {u : Value} (I : Inv X pins σ H s) (h : CE X.stack X.prog X.w H s Q u s') : EP X pins σ Q u s' := by
 obtain ⟨v, H', os, bare, un, hok, r, q⟩ := h
 obtain ⟨hh, g, d, t, os'⟩ := s'
 obtain rfl : os' = s.os := os
 exact ⟨v, H', I.call (h' := hh) (g' := g) (d' := d) (t' := t) (ch := []) un hok bare (fun b z => absurd z (by simp)), r, q⟩
end
def tCall (sp : Sp) (dvs : List V) (E : XK) (t : TA) : TE := fun σ H Q => t σ H fun vs H1 => sp (vs ++ dvs) H1 Q E
def Binds (K : PySem.W.Frag) (fd : FuncData) (ps : List Str) (ds : List Value) : Prop :=
 ∀ (s : Shared) (us : List Value), K.In s.heap -> (us ++ ds).length = ps.length -> BindsTo s fd ⟨us, []⟩ (ps.zip (us ++ ds))
theorem Binds.all {K : PySem.W.Frag} {fd : FuncData} {ps : List Str} (h : ∀ us : List Value, us.length = ps.length -> bindArgs fd ⟨us, []⟩ = pure (ps.zip us)) : Binds K fd ps [] := fun s us _ hl => by
 rw [List.append_nil] at hl ⊢
 exact .of_eq (h us hl)
def Passes (CX : CXT) (X : Cx) (E : XK) : Prop := ∀ (pins : List (Addr × Obj)) (σ : St) (H : Hp) (s : Shared) (e : Value) (s' : Shared), Inv X pins σ H s -> CX X.stack H s E e s' -> X.xe e s'
section
variable {X : Cx} {CX : CXT} {k : Nat} {f C : Addr} {fd : FuncData} {ps : List Str} {sp : Sp} {dvs : List V} {ds : List Value} {E : XK} {x m : Str} {p pos apos : Pos} {e o : Expr} {es : List Expr} {ta : TE} {t : TA}
theorem run_fn {pins : List (Addr × Obj)} {σ : St} {H : Hp} {s : Shared} {Q : VK} {us : List Value} {vs : List V} (F : FnOk X.prog X.w X.K X.mg X.base CX k f fd ps sp) (hr : Room k X.A) (hb : Binds X.K fd ps ds) (hd : Vals dvs ds) (hx : Passes CX X E)
    (I : Inv X pins σ H s) (r : Vals vs us) (h : sp (vs ++ dvs) H Q E) : wpAny (model X.prog X.w) X.A (call (.ref f) us) (EP X pins σ Q) X.xe s := by
 have r2 : Vals (vs ++ dvs) (us ++ ds) := r.append hd
 have hl : (us ++ ds).length = ps.length := by rw [<- r2.length]; exact F.len _ _ _ _ h
 refine wpAny_call (codeAny_mono (F.run X.A X.stack s H ⟨us, []⟩ (us ++ ds) (vs ++ dvs) Q E hr I.env0 (hb s us I.kIn hl) r2 h) fun r s' hq => ?_)
 cases r with
 | error e => exact hx pins σ H s e s' I hq
 | ok fl =>
  cases fl with
  | ret u => exact I.after hq
  | next => exact False.elim hq
  | brk => exact False.elim hq
  | cont => exact False.elim hq
theorem pe_call (F : FnOk X.prog X.w X.K X.mg X.base CX k f fd ps sp) (hr : Room k X.A) (hg : Gl X x) (hm : X.mg x = some (.ref f)) (hk : PySem.W.keepIn X.K (.ref f) = true) (hb : Binds X.K fd ps ds) (hd : Vals dvs ds) (hx : Passes CX X E)
    (ha : PA X (e :: es) t) (hdb : (x == ("__debug__" : Str)) = false := by decide) (he : starEach (e :: es) X.env = (false, eval e X.env) :: starEach es X.env := by rfl) (hpl : (backTo pos (starEach es X.env)).any (·.1) = false := by rfl) :
    PE X (.Call (.Name x p) (e :: es) [] pos) (tCall sp dvs E t) := by
 intro pins s σ H Q I h
 refine wpAny_Call_Name_kw (ld_glob I hg hm ?_ hdb)
 refine PySem.W.callWith_K (h₀ := X.base) I.ok.mod.kin hk (thn (ha pos pins s σ H _ I h) fun us s1 ⟨vs, H1, I1, r, q⟩ => ⟨I1.kIn, ?_⟩) he hpl
 exact run_fn F hr hb hd hx I1 r q
end
section
variable {X : Cx} {CX : CXT} {k : Nat} {f C : Addr} {fd : FuncData} {ps ks : List Str} {sp : Sp} {E : XK} {x m : Str} {p pos apos kpos : Pos} {e o : Expr} {es : List Expr} {kws : List Keyword} {te ta : TE} {t tk : TA} {nm : Option Str}
variable {g : List Value -> List Value -> List Value} {gV : List V -> List V -> List V}
end
structure FnScope (N P : List Str) (sc : Scope) : Prop where
 kind : sc.kind = .function
 co : sc.isCoroutine = false
 gen : sc.isGenerator = false
 nd : N.Nodup
 pre : N.take P.length = P
 par : ∀ x ∈ P, sc.names.lookup x = some .local \/ sc.names.lookup x = some .cell
 nofree : ∀ y ∈ sc.names, y.2 ≠ .free
theorem bindL_out {kindOf : Str -> Option NameKind} {x : Str} : ∀ {binds : List (Str × Value)} {m : Str -> Option Value}, (∀ v, (x, v) ∉ binds) -> bindL kindOf binds m x = m x
 | [], _,_ => rfl
 | (n, v) :: r, m, h => by
  unfold bindL
  rw [bindL_out fun w hw => h w (List.mem_cons_of_mem _ hw)]
  split
  . have : x ≠ n := by rintro rfl; exact h v List.mem_cons_self
    simp [this]
  . rfl
theorem bindC_out {kindOf : Str -> Option NameKind} {x : Str} : ∀ {binds : List (Str × Value)} {m : Str -> Option Value}, (∀ v, (x, v) ∉ binds) -> bindC kindOf binds m x = m x
 | [], _,_ => rfl
 | (n, v) :: r, m, h => by
  unfold bindC
  rw [bindC_out fun w hw => h w (List.mem_cons_of_mem _ hw)]
  split
  . rfl
  . have : x ≠ n := by rintro rfl; exact h v List.mem_cons_self
    simp [this]
theorem bindL_get {kindOf : Str -> Option NameKind} {x : Str} {v : Value} : ∀ {P : List Str} {vs : List Value} {i : Nat} {m : Str -> Option Value}, P.Nodup -> P[i]? = some x -> vs[i]? = some v -> kindOf x = some .local ->
    bindL kindOf (P.zip vs) m x = some v
 | [], _,_,_,_,h, _,_ => by simp at h
 | _ :: _,[], _,_,_,_,h, _ => by simp at h
 | p :: P, w :: vs, 0, m, nd, h1, h2, hk => by
  simp at h1 h2; subst h1; subst h2
  show bindL kindOf ((p, w) :: P.zip vs) m p = _
  unfold bindL
  rw [bindL_out fun v hv => (List.nodup_cons.mp nd).1 (List.of_mem_zip hv).1, if_pos hk]
  simp
 | p :: P, w :: vs, i + 1, m, nd, h1, h2, hk => by
  show bindL kindOf ((p, w) :: P.zip vs) m x = _
  unfold bindL
  exact bindL_get (i := i) (List.nodup_cons.mp nd).2 (by simpa using h1) (by simpa using h2) hk
theorem bindC_get {kindOf : Str -> Option NameKind} {x : Str} {v : Value} : ∀ {P : List Str} {vs : List Value} {i : Nat} {m : Str -> Option Value}, P.Nodup -> P[i]? = some x -> vs[i]? = some v -> kindOf x ≠ some .local ->
    bindC kindOf (P.zip vs) m x = some v
 | [], _,_,_,_,h, _,_ => by simp at h
 | _ :: _,[], _,_,_,_,h, _ => by simp at h
 | p :: P, w :: vs, 0, m, nd, h1, h2, hk => by
  simp at h1 h2; subst h1; subst h2
  show bindC kindOf ((p, w) :: P.zip vs) m p = _
  unfold bindC
  rw [bindC_out fun v hv => (List.nodup_cons.mp nd).1 (List.of_mem_zip hv).1, if_neg hk]
  simp
 | p :: P, w :: vs, i + 1, m, nd, h1, h2, hk => by
  show bindC kindOf ((p, w) :: P.zip vs) m x = _
  unfold bindC
  exact bindC_get (i := i) (List.nodup_cons.mp nd).2 (by simpa using h1) (by simpa using h2) hk
def start (N : List Str) (vs : List V) : St := vs.map some ++ List.replicate (N.length - vs.length) none
def cxOf (CX : CXT) (P : Program) (w : World) (K : PySem.W.Frag) (mg : Str -> Option Value) (base : Heap) (N : List Str) (qual : Str) (scope : Scope) (f : Addr) (cd : Value) (A : Around) (outer : List Env) (s : Shared) (H : Hp) (E : XK) : Cx where
 prog := P
 w := w
 K := K
 mg := mg
 base := base
 A := A.deeper (envOfC qual scope s.heap.objs.size f cd)
 N := N
 s₀ := s
 H₀ := H
 env := envOfC qual scope s.heap.objs.size f cd
 outer := outer
 stack := envOfC qual scope s.heap.objs.size f cd :: outer
 ex := []
 calm := true
 fn := fun _ => true
 pn := []
 xe := fun e s' => wpAny (model P w) (A.deeper (envOfC qual scope s.heap.objs.size f cd)) (leaving (envOfC qual scope s.heap.objs.size f cd) e) (fun _ s'' => CX outer H s E e s'') (fun e' s'' => CX outer H s E e' s'') s'
theorem cell_has {sc : Scope} {n : Nat} {x : Str} (h : sc.names.lookup x = some .cell) : ∃ c, (cellsFrom n sc.names []).lookup x = some c := by
 have q := PySem.W.cellsFrom_some sc.names n [] (.inl h)
 exact Option.isSome_iff_exists.mp q
theorem inv_start {CX : CXT} {P : Program} {w : World} {K : PySem.W.Frag} {mg : Str -> Option Value} {base : Heap} {N ps : List Str} {qual : Str} {scope : Scope} {f : Addr} {cd : Value} {A : Around} {outer : List Env} {s s1 : Shared} {H : Hp} {E : XK} {us : List Value} {vs : List V}
    (S : FnScope N ps scope) (hd : A.handled = none) (e0 : Env0 P w K mg base A outer s H) (hl : vs.length = ps.length) (r : Vals vs us)
    (x : InCallC s s.heap.objs.size (bindL (envOfC qual scope s.heap.objs.size f cd).kindOf (ps.zip us) fun _ => none) (cellsFrom (s.heap.objs.size + 1) scope.names []) (bindC (envOfC qual scope s.heap.objs.size f cd).kindOf (ps.zip us) fun _ => none) s1) :
    Inv (cxOf CX P w K mg base N qual scope f cd A outer s H E) [] (start N vs) H s1 := by
 have hpl : ps.length <= N.length := by have := congrArg List.length S.pre; rw [List.length_take] at this; omega
 obtain ⟨h1, tk, rfl,hk⟩ := x.done
 have noA : ∀ b : Addr, b ∉ (cxOf CX P w K mg base N qual scope f cd A outer s H E).ex := fun b z => absurd (show b ∈ ([] : List Addr) from z) (by simp)
 refine ⟨⟨e0.mod, S.kind, rfl,rfl,Nat.le_refl _,fun y z c h1 h2 => ?_,fun y hy => ?_,fun y c _ h => ?_,fun _ => hd, Around.frames_deeper e0.frames, .inr ⟨rfl,rfl⟩, fun b z => absurd z (noA b), e0.bs, e0.bsz, fun b _ _ => noA b, fun b z => absurd z (noA b), e0.funs, e0.frf⟩,
  rfl,e0.bare, Un.kept hk, ⟨_,x.toInCall.ns, fun i y v h1 h2 h3 => ?_⟩, fun y c h => ⟨_,x.cell y c h⟩, e0.hok.fresh (Nat.le_refl _), fun y c h => ?_,fun p hp => absurd (show p ∈ ([] : List (Addr × Obj)) from hp) (by simp), e0.hok.kept hk, ?_⟩
 . exact name_of_addr x.apart (PySem.mem_of_lookup h1) (PySem.mem_of_lookup h2)
 . have hy : scope.names.lookup y = some .cell \/ scope.names.lookup y = some .free := hy
   rcases hy with hy | hy
   . exact cell_has hy
   . exact absurd rfl (S.nofree _ (PySem.mem_of_lookup hy))
 . exact Nat.le_of_lt (x.above y c (PySem.mem_of_lookup h))
 . have hi : i < vs.length := by
     unfold start at h2
     by_cases hi : i < vs.length
     . exact hi
     . rw [List.getElem?_append_right (by simpa using hi)] at h2
       rw [List.getElem?_replicate] at h2
       split at h2 <;> cases h2
   have ha : vs[i]? = some v := by
    unfold start at h2
    rw [List.getElem?_append_left (by simpa using hi), List.getElem?_map] at h2
    cases e : vs[i]? with
    | none => rw [e] at h2; cases h2
    | some a => rw [e] at h2; cases h2; rfl
   obtain ⟨u, hu, rv⟩ := r.get ha
   have hp : ps[i]? = some y := by
    rw [<- S.pre, List.getElem?_take_of_lt (by omega)]; exact h1
   have ndP : ps.Nodup := by rw [<- S.pre]; exact S.nd.sublist (List.take_sublist _ _)
   refine ⟨u, rv, ?_⟩
   rcases S.par y (List.mem_of_getElem? hp) with k | k
   . exact .inl ⟨k, bindL_get ndP hp hu k⟩
   . obtain ⟨c, e⟩ := cell_has (n := s.heap.objs.size + 1) k
     refine .inr ⟨.inl k, c, e, ?_⟩
     have q := x.cell y c e
     rw [bindC_get ndP hp hu (by show scope.names.lookup y ≠ _; rw [k]; decide)] at q
     exact q
 . exact e0.hok.fresh (Nat.le_of_lt (x.above y c (PySem.mem_of_lookup h)))
 . unfold start
   show _ = N.length
   rw [List.length_append, List.length_map, List.length_replicate]
   omega
theorem fn_of {CX : CXT} {P : Program} {w : World} {K : PySem.W.Frag} {mg : Str -> Option Value} {base : Heap} {k : Nat} {f : Addr} {name qual : Str} {params : Arguments} {body : List Stmt} {scope : Scope} {dV kV doc pm cdv ct oc : Value} {an od : Option Addr}
    {osl : Array (Option Value)} {N ps : List Str} {sp : Sp} (lk : K.lookup f = some ⟨oc, od, .func (PySem.W.fnOf name qual params body scope dV kV doc pm an cdv ct), osl⟩) (hcd : PySem.W.codeIn K cdv qual = true) (S : FnScope N ps scope)
    (len : ∀ vs H Q E, sp vs H Q E -> vs.length = ps.length)
    (hbody : ∀ (A : Around) (outer : List Env) (s : Shared) (H : Hp) (vs : List V) (Q : VK) (E : XK), Room k (A.deeper (envOfC qual scope s.heap.objs.size f cdv)) -> sp vs H Q E ->
     ∃ t, PSs (cxOf CX P w K mg base N qual scope f cdv A outer s H E) body t /\ t { nx := fun _ H' => Q .non H', rt := Q } (start N vs) H) :
    FnOk P w K mg base CX (k + 1) f (PySem.W.fnOf name qual params body scope dV kV doc pm an cdv ct) ps sp := by
 refine ⟨len, fun A outer s H args us vs Q E hr e0 hb r hsp => ?_⟩
 have hl := len _ _ _ _ hsp
 have KX : K.In s.heap := e0.mod.kin.keeps fun b o e => (e0.bs b o e).1
 have lim : s.heap.NoLimit := e0.mod.nolimit.keeps fun b o e => (e0.bs b o e).1
 have hkind : ∀ y ∈ ps.zip us, scope.names.lookup y.1 = some .local \/ (scope.names.lookup y.1 = some .cell /\ ((cellsFrom (s.heap.objs.size + 1) scope.names []).lookup y.1).isSome = true) := fun ⟨n, v⟩ hy => by
  rcases S.par n (List.of_mem_zip hy).1 with q | q
  . exact .inl q
  . exact .inr ⟨q, PySem.W.cellsFrom_some _ _ _ (.inl q)⟩
 refine codeAny_call_function hr.depth (KX _ _ lk) rfl S.co S.gen rfl (PySem.W.codeRec_of KX hcd) (hb _ _ _ _ ?_)
 refine wpAny_newFunctionEnv_cells S.kind hkind fun env he s1 x => ?_
 subst he
 refine ⟨lim.keeps x.toInCall.keep, codeAny_func ?_⟩
 obtain ⟨t, ht, hq⟩ := hbody A outer s H vs Q E (hr.deeper _) hsp
 have I : Inv (cxOf CX P w K mg base N qual scope f cdv A outer s H E) [] (start N vs) H s1 := inv_start S hr.hd e0 hl r x
 refine wpAny_mono (ht [] s1 (start N vs) H _ I hq) (fun fl s' hs => ?_) fun e s' hs => hs
 have fin : ∀ {σ' : St} {H' : Hp} {v : V} {u : Value}, Inv (cxOf CX P w K mg base N qual scope f cdv A outer s H E) [] σ' H' s' -> RelV v u -> Q v H' -> CE outer P w H s Q u s' :=
  fun {σ' H' v u} J rv q => ⟨v, H', J.os, J.bare, J.base, J.hok, rv, q⟩
 cases fl with
 | ret u =>
  obtain ⟨v, σ', H', J, rv, q⟩ := hs
  exact fin J rv q
 | next =>
  obtain ⟨σ', H', J, q⟩ := hs
  exact fin (v := V.non) (u := Value.none) J rfl q
 | brk =>
  obtain ⟨_,_,_,q⟩ := hs
  exact False.elim q
 | cont =>
  obtain ⟨_,_,_,q⟩ := hs
  exact False.elim q
end L2
namespace L2
open PySem PySem.Spec PyProof.Rows
section
variable {X : Cx} {x : Str} {p pos : Pos} {e : Expr} {es : List Expr} {t : TA} {id T : String} {r : List V -> Hp -> VK -> Prop}
def tCB (r : List V -> Hp -> VK -> Prop) (t : TA) : TE := fun σ H Q => t σ H fun vs H1 => r vs H1 Q
theorem pe_callB (hc : CallR X (.builtin id) r) (hg : Gl X x) (hm : X.mg x = none) (hv : bootBuiltins x = some (.builtin id)) (ha : PA X (e :: es) t) (hn : x ≠ "__name__" := by decide) (hdb : (x == ("__debug__" : Str)) = false := by decide)
    (he : starEach (e :: es) X.env = (false, eval e X.env) :: starEach es X.env := by rfl) (hpl : (backTo pos (starEach es X.env)).any (·.1) = false := by rfl) : PE X (.Call (.Name x p) (e :: es) [] pos) (tCB r t) := by
 intro pins s σ H Q I h
 refine wpAny_Call_Name_kw (ld_blt I hg hm hv ?_ hn hdb)
 exact PyProof.Rows.callWith_builtin1 (thn (ha pos pins s σ H _ I h) fun us s1 ⟨vs, H1, I1, r1, q1⟩ => hc pins s1 σ H1 vs us Q I1 r1 q1) he hpl
theorem pe_callTy (hc : CallR X (.type T) r) (hg : Gl X x) (hm : X.mg x = none) (hv : bootBuiltins x = some (.type T)) (ha : PA X (e :: es) t) (hn : x ≠ "__name__" := by decide) (hdb : (x == ("__debug__" : Str)) = false := by decide)
    (he : starEach (e :: es) X.env = (false, eval e X.env) :: starEach es X.env := by rfl) (hpl : (backTo pos (starEach es X.env)).any (·.1) = false := by rfl) : PE X (.Call (.Name x p) (e :: es) [] pos) (tCB r t) := by
 intro pins s σ H Q I h
 refine wpAny_Call_Name_kw (ld_blt I hg hm hv ?_ hn hdb)
 exact PyProof.Rows.callWith_type1 (thn (ha pos pins s σ H _ I h) fun us s1 ⟨vs, H1, I1, r1, q1⟩ => hc pins s1 σ H1 vs us Q I1 r1 q1) he hpl
end
end L2
namespace HT
open PySem PyProof.Rows
section
open PySem.SeqAt
open PySem.AutoSeq1 (wpAny_loadPart')
open PySem.MeetsSeq PySem.MeetsSeq2 PySem.MeetsSeq3
end
section
variable {prog : Program} {w : World} {A : Around} {E : Value -> Shared -> Prop} {s : Shared}
theorem cat_tup {t b : Addr} {vs ws : List Value} {Q : Value -> Shared -> Prop} (ht : IsTup s.heap t vs.toArray) (hb : IsTup s.heap b ws.toArray) (hv : vs ≠ [])
    (h1 : ws = [] -> Q (.ref t) s) (h2 : ws ≠ [] -> Q (.ref s.heap.objs.size) { s with heap := s.heap.push { cls := .type "tuple", data := .seq (vs ++ ws).toArray } })
    (hsz : vs.length + ws.length <= sizeLine) : wpAny (model prog w) A (binaryOp .Add (.ref t) (.ref b)) Q E s := by
 obtain ⟨⟨cls, dd, data, sl⟩, ho, hc, n, hd⟩ := id ht
 obtain ⟨⟨cls2, dd2, data2, sl2⟩, ho2, hc2, n2, hd2⟩ := id hb
 simp only at hc hd hc2 hd2
 subst hc hd hc2 hd2
 have e : vs.toArray ++ ws.toArray = (vs ++ ws).toArray := by simp
 by_cases hw : ws = []
 . exact concat_meets ⟨_,ho, rfl⟩ ⟨_,ho2, rfl⟩ noFill_tuple_add seq_tuple_add PySem.F.slot_tuple_add PySem.F.entry_tuple_add (PySem.F.args_tuple_add_2 _ _)
     (tuple_addW1 t b vs.toArray ws.toArray n n2 dd dd2 sl sl2 (by simpa using hv) (by simp [hw])) ⟨ho, ho2, h1 hw⟩
 . refine concat_meets ⟨_,ho, rfl⟩ ⟨_,ho2, rfl⟩ noFill_tuple_add seq_tuple_add PySem.F.slot_tuple_add PySem.F.entry_tuple_add (PySem.F.args_tuple_add_2 _ _)
     (tuple_addW2 t b vs.toArray ws.toArray n n2 dd dd2 sl sl2 (by simpa using hv) (by simpa using hw) (by rw [List.size_toArray, List.size_toArray]; exact hsz)) ⟨ho, ho2, ?_⟩
   rw [e]
   exact h2 hw
def sIx (n d : Nat) : Option Int -> Nat
 | none => d
 | some v => if v < 0 then (v + (n : Int)).toNat else min v.toNat n
end
end HT
namespace L2
open PySem PySem.Spec PyProof.Rows
section
variable {X : Cx} {e : Expr} {te : TE} {lo hi : Option Expr} {tl th : TO} {pos p2 : Pos}
def SlR (X : Cx) (r : V -> Option Int -> Option Int -> Hp -> VK -> Prop) : Prop :=
 ∀ (pins : List (Addr × Obj)) (s : Shared) (σ : St) (H : Hp) (x : V) (v vl vu : Value) (lo hi : Option Int) (sl : Addr) (Q : VK), Inv X pins σ H s -> RelV x v -> s.heap.IsSliceOf sl vl vu .none -> IsPart vl lo -> IsPart vu hi -> r x lo hi H Q ->
  ∃ T id, typeLookup (.type T) "__getitem__" = pure (some (.builtin id)) /\ s.TypeIs v T /\ wpAny (model X.prog X.w) X.A (getItem v (.ref sl)) (EP X pins σ Q) X.xe s
def cutV (xs : List V) (lo hi : Option Int) : List V := (xs.drop (HT.sIx xs.length 0 lo)).take (HT.sIx xs.length xs.length hi - HT.sIx xs.length 0 lo)
theorem cutV_length (xs : List V) (lo hi : Option Int) : (cutV xs lo hi).length <= xs.length := by
 unfold cutV
 rw [List.length_take, List.length_drop]
 omega
def rCatT (K : PySem.W.Frag) : R2 := fun x y H Q => ∃ a b xs ys, x = .ref a /\ y = .ref b /\ SqT K H a xs /\ SqT K H b ys /\ xs ≠ [] /\ xs.length + ys.length <= sizeLine /\
 (ys = [] -> Q (.ref a) H) /\ (ys ≠ [] -> ∀ p, H p = none -> Q (.ref p) (upd H p (.tup (xs ++ ys))))
theorem Vals.nil_iff {xs : List V} {us : List Value} (r : Vals xs us) : us = [] ↔ xs = [] := by
 cases r with
 | nil => simp
 | cons _ _ => simp
theorem op_catT : OpR X (binaryOp .Add) (rCatT X.K) := by
 intro pins s σ H x y v u Q I rx ry h
 obtain ⟨a, b, xs, ys, rfl,rfl,ha, hb, hx, hz, q1, q2⟩ := h
 cases rx
 cases ry
 obtain ⟨its, r1, p1, _⟩ := I.tuple ha
 obtain ⟨its2, r2, p2, _⟩ := I.tuple hb
 refine HT.cat_tup p1 p2 (fun z => hx (r1.nil_iff.mp z)) (fun z => ⟨.ref a, H, I, rfl,q1 (r2.nil_iff.mp z)⟩) (fun z => ?_) (by rw [<- r1.length, <- r2.length]; exact hz)
 refine ⟨.ref s.heap.objs.size, _,I.laid (t' := s.toks) (o := .tup (xs ++ ys)) (fun b ob q => Heap.get?_push_of_some _ q) (Nat.le_refl _) ?_,rfl,q2 (fun w => z (r2.nil_iff.mpr w)) _ (I.hok.fresh (Nat.le_refl _))⟩
 exact ⟨by rw [List.length_append]; exact hz, _,r1.append r2, TupP.new _ _⟩
end
end L2
namespace L2
open PySem PySem.Spec PyProof.Rows
def ixN (n : Nat) (i : Int) : Option Nat := if 0 <= i then (if i < n then some i.toNat else none) else if -(n : Int) <= i then some (i + n).toNat else none
def atI {α : Type} (xs : List α) (i : Int) : Option α := (ixN xs.length i).bind fun j => xs[j]?
theorem ixN_seq {n : Nat} {i : Int} {j : Nat} (h : ixN n i = some j) : seqIndex? i n = some j /\ j < n /\ -(n : Int) <= i /\ i < n := by
 unfold ixN at h
 by_cases h0 : 0 <= i
 . rw [if_pos h0] at h
   by_cases h1 : i < n
   . rw [if_pos h1] at h
     have e : i.toNat = j := Option.some.inj h
     exact ⟨by rw [seqIndex_of h0 h1, e], by omega, by omega, h1⟩
   . rw [if_neg h1] at h; cases h
 . rw [if_neg h0] at h
   by_cases h1 : -(n : Int) <= i
   . rw [if_pos h1] at h
     have e : (i + n).toNat = j := Option.some.inj h
     exact ⟨by rw [seqIndex_neg (by omega) h1, e], by omega, h1, by omega⟩
   . rw [if_neg h1] at h; cases h
theorem atI_get {α : Type} {xs : List α} {i : Int} {v : α} (h : atI xs i = some v) : ∃ j, seqIndex? i xs.length = some j /\ xs[j]? = some v /\ j < xs.length /\ -(xs.length : Int) <= i /\ i < xs.length := by
 unfold atI at h
 cases e : ixN xs.length i with
 | none => rw [e] at h; cases h
 | some j =>
  rw [e] at h
  obtain ⟨h1, h2, h3, h4⟩ := ixN_seq e
  exact ⟨j, h1, h, h2, h3, h4⟩
theorem atI_nat {α : Type} {xs : List α} {j : Nat} {v : α} (h : xs[j]? = some v) : atI xs (j : Int) = some v := by
 have hj : j < xs.length := (List.getElem?_eq_some_iff.mp h).1
 have e : ixN xs.length (j : Int) = some j := by
  unfold ixN
  rw [if_pos (by omega), if_pos (by omega)]; simp
 unfold atI; rw [e]; exact h
def PlainIx (b : Expr) : Prop := ∀ o i, subscripted b false o i = operate [o, i] (getItem o i)
def IxR (X : Cx) (r : R2) : Prop :=
 ∀ (value slice : Expr) (pins : List (Addr × Obj)) (s : Shared) (σ : St) (H : Hp) (x y : V) (v u : Value) (Q : VK), Inv X pins σ H s -> RelV x v -> RelV y u -> r x y H Q ->
  subscripted slice false v u = operate [v, u] (getItem v u) -> wpAny (model X.prog X.w) X.A (subscriptTail value slice v u) (EP X pins σ Q) X.xe s
def MtR (X : Cx) (id : String) (r : V -> List V -> Hp -> VK -> Prop) : Prop :=
 ∀ (pins : List (Addr × Obj)) (s : Shared) (σ : St) (H : Hp) (x : V) (xs : List V) (v : Value) (us : List Value) (Q : VK), Inv X pins σ H s -> RelV x v -> Vals xs us -> r x xs H Q ->
  wpAny (model X.prog X.w) X.A (call (.builtin id) (v :: us)) (EP X pins σ Q) X.xe s
section
variable {X : Cx} {a b : Expr} {ta tb : TE} {pos : Pos}
theorem pe_ix {r : R2} (hr : IxR X r) (ha : PE X a ta) (hb : PE X b tb) (hs : PlainIx b) : PE X (.Subscript a b pos) (tOp r ta tb) := by
 intro pins s σ H Q I h
 exact Subscript_ (binT ha hb I h fun v u s2 x y H2 I2 rx ry q => hr a b pins s2 σ H2 x y v u Q I2 rx ry q (hs _ _))
def rIxL (K : PySem.W.Frag) : R2 := fun x y H Q => ∃ p xs i v, x = .ref p /\ y = .int i /\ SqL K H p xs /\ atI xs i = some v /\ Q v H
def rIxT (K : PySem.W.Frag) : R2 := fun x y H Q => ∃ p xs i v, x = .ref p /\ y = .int i /\ SqT K H p xs /\ atI xs i = some v /\ Q v H
theorem ix_list : IxR X (rIxL X.K) := by
 intro value slice pins s σ H x y v u Q I rx ry h hs
 obtain ⟨p, xs, i, z, rfl,rfl,hq, he, q⟩ := h
 cases rx
 obtain ⟨t, rfl⟩ := ry
 obtain ⟨its, r, pl, hz⟩ := I.list hq
 obtain ⟨j, h1, h2, h3, h4, h5⟩ := atI_get he
 obtain ⟨w, ew, rw'⟩ := r.get h2
 have hl := r.length
 have hn := line63
 have fin : EP X pins σ Q w s := ⟨z, H, I, rw', q⟩
 by_cases h0 : 0 <= i
 . have hj : i.toNat = j := by
     rw [seqIndex_of h0 h5] at h1
     exact Option.some.inj h1
   exact item_listR pl.isList h0 (by omega) (by rw [hj]; simpa using ew) fin hs
 . have hj : (i + (its.toArray.size : Int)).toNat = j := by
     rw [seqIndex_neg (by omega) h4] at h1
     rw [List.size_toArray, <- hl]
     exact Option.some.inj h1
   exact subscriptTail_builtinR (x := w) pl.isList.typeIs slot_list_getitem.lookup
    (wpAny_getItem_list_neg (Q := fun r s' => r = w /\ EP X pins σ Q r s') pl.isList (by omega) (by rw [List.size_toArray] <;> omega) (by omega) (by rw [hj]; simpa using ew) ⟨rfl,fin⟩) hs
theorem ix_tup : IxR X (rIxT X.K) := by
 intro value slice pins s σ H x y v u Q I rx ry h hs
 obtain ⟨p, xs, i, z, rfl,rfl,hq, he, q⟩ := h
 cases rx
 obtain ⟨t, rfl⟩ := ry
 obtain ⟨its, r, pl, hz⟩ := I.tuple hq
 obtain ⟨j, h1, h2, h3, h4, h5⟩ := atI_get he
 obtain ⟨w, ew, rw'⟩ := r.get h2
 have hl := r.length
 have hn := line63
 have fin : EP X pins σ Q w s := ⟨z, H, I, rw', q⟩
 exact subscriptTail_builtinR (x := w) pl.typeIs slot_tuple_getitem.lookup
  (getItem_tuple (j := j) (Q := fun r s' => r = w /\ EP X pins σ Q r s') pl (by omega) (by omega) (by rw [List.size_toArray, <- hl]; exact h1) (by simpa using ew) ⟨rfl,fin⟩) hs
theorem mapSeq_set (its : List Value) (n j : Nat) (u : Value) : Obj.mapSeq (·.setIfInBounds j u) { cls := .type "list", data := .seq its.toArray n } = { cls := .type "list", data := .seq (its.set j u).toArray n } := by
 simp [Obj.mapSeq]
theorem Inv.lst {pins : List (Addr × Obj)} {σ : St} {H : Hp} {s : Shared} {p : Addr} {xs : List V} (I : Inv X pins σ H s) (h : H p = some (.lst xs)) :
    ∃ (its : List Value) (n : Nat), Vals xs its /\ s.heap.get? p = some { cls := .type "list", data := .seq its.toArray n } /\ xs.length <= sizeLine := by
 obtain ⟨z, its, n, r, e⟩ := I.hok p _ h
 exact ⟨its, n, r, e, z⟩
theorem Inv.lstUpd {pins : List (Addr × Obj)} {σ : St} {H : Hp} {s : Shared} {p : Addr} {xs ys : List V} {its its' : List Value} {n n' : Nat} {f : Obj -> Obj} (I : Inv X pins σ H s) (h : H p = some (.lst xs))
    (ho : s.heap.get? p = some { cls := .type "list", data := .seq its.toArray n }) (hf : f { cls := .type "list", data := .seq its.toArray n } = { cls := .type "list", data := .seq its'.toArray n' }) (r : Vals ys its') (hz : ys.length <= sizeLine) (t : Nat) :
    Inv X pins σ (upd H p (.lst ys)) { s with heap := s.heap.update p f, toks := t } := by
 have e : (s.heap.update p f).get? p = some { cls := .type "list", data := .seq its'.toArray n' } := by
  rw [Heap.get?_update_self f ho (by rw [hf] <;> rfl), hf]
 refine I.write (x := p) (e := p) (by rw [h]; trivial) (.inl rfl) (fun b u hb q => (Heap.get?_update_other _ _ (Ne.symm hb)).trans q) ⟨_,e⟩ ?_
 exact ⟨hz, its', n', r, e⟩
def rSetL : V -> V -> V -> Hp -> (Hp -> Prop) -> Prop := fun o i v H Q => ∃ p xs k j, o = .ref p /\ i = .int k /\ H p = some (.lst xs) /\ ixN xs.length k = some j /\ Q (upd H p (.lst (xs.set j v)))
theorem set_list : PSet X rSetL := by
 intro pins s σ H o i v ov iv u Q I ro ri rv h
 obtain ⟨p, xs, k, j, rfl,rfl,hp, hj, q⟩ := h
 cases ro
 obtain ⟨t, rfl⟩ := ri
 obtain ⟨its, n, r, ho, hz⟩ := I.lst hp
 obtain ⟨h1, h2, h3, h4⟩ := ixN_seq hj
 have hl := r.length
 have hn := line63
 have I' : Inv X pins σ (upd H p (.lst (xs.set j v))) { s with heap := s.heap.update p (Obj.mapSeq (·.setIfInBounds j u)) } :=
  I.lstUpd hp ho (mapSeq_set its n j u) (r.set rv j) (by rw [List.length_set]; exact hz) s.toks
 by_cases h0 : 0 <= k
 . have hk : k.toNat = j := by
     rw [seqIndex_of h0 h4] at h1
     exact Option.some.inj h1
   exact PySem.W.ki_setAt ho h0 (by omega) (by rw [List.size_toArray, <- hl]; exact h4) (by rw [hk]; exact ⟨_,I', q⟩)
 . have hk : (k + (its.toArray.size : Int)).toNat = j := by
     rw [seqIndex_neg (by omega) h3] at h1
     rw [List.size_toArray, <- hl]
     exact Option.some.inj h1
   exact PySem.W.ki_setBack ho (by omega) (by rw [List.size_toArray, <- hl]; exact h3) (by omega) (by rw [hk]; exact ⟨_,I', q⟩)
theorem slice_bounds (lo hi : Option Int) (n : Nat) : (sliceBounds lo hi none n).1 = ((HT.sIx n 0 lo : Nat) : Int) /\ (sliceBounds lo hi none n).2.1 = ((HT.sIx n n hi : Nat) : Int) /\ (sliceBounds lo hi none n).2.2 = 1 := by
 refine ⟨?_,?_,rfl⟩
 . cases lo with
   | none => simp [sliceBounds, HT.sIx]
   | some i =>
    simp only [sliceBounds, HT.sIx, Option.getD_none, show (1 : Int) > 0 by decide, if_true]
    by_cases h : i < 0
    . simp only [h, if_true] <;> omega
    . simp only [h, if_false] <;> omega
 . cases hi with
   | none => simp [sliceBounds, HT.sIx]
   | some i =>
    simp only [sliceBounds, HT.sIx, Option.getD_none, show (1 : Int) > 0 by decide, if_true]
    by_cases h : i < 0
    . simp only [h, if_true] <;> omega
    . simp only [h, if_false] <;> omega
theorem slicePick_cut (its : List Value) (lo hi : Option Int) : slicePick its.toArray lo hi none = ((its.drop (HT.sIx its.length 0 lo)).take (HT.sIx its.length its.length hi - HT.sIx its.length 0 lo)).toArray := by
 obtain ⟨h1, h2, h3⟩ := slice_bounds lo hi its.toArray.size
 unfold slicePick
 rw [h1, h2, h3]
 simp only [sliceRange_one, pick_run, List.size_toArray] <;> rfl
def rSlL (K : PySem.W.Frag) : V -> Option Int -> Option Int -> Hp -> VK -> Prop := fun x lo hi H Q => ∃ a xs, x = .ref a /\ SqL K H a xs /\ ∀ p, H p = none -> Q (.ref p) (upd H p (.lst (cutV xs lo hi)))
theorem sl_list : SlR X (rSlL X.K) := by
 intro pins s σ H x v vl vu lo hi sl Q I rx hs pl pu h
 obtain ⟨a, xs, rfl,hx, q⟩ := h
 cases rx
 obtain ⟨its, r, ht, hz⟩ := I.list hx
 have hlen := r.length
 refine ⟨"list", _,slot_list_getitem.lookup, ht.isList.typeIs, ?_⟩
 refine wpAny_getItem_list_slice ht.isList hs pl pu .none (by simp) ?_ (by rw [List.size_toArray] <;> omega)
 rw [slicePick_cut, <- hlen]
 refine ⟨.ref s.heap.objs.size, _,I.laid (t' := s.toks) (o := .lst (cutV xs lo hi)) (fun b ob q => Heap.get?_push_of_some _ q) (Nat.le_refl _) ?_,rfl,q _ (I.hok.fresh (Nat.le_refl _))⟩
 exact ⟨Nat.le_trans (cutV_length xs lo hi) hz, _,0, (r.drop (HT.sIx xs.length 0 lo)).take (HT.sIx xs.length xs.length hi - HT.sIx xs.length 0 lo), Heap.get?_push_size _ rfl⟩
def flatV : V -> Bool
 | .non => true
 | .bl _ => true
 | .int _ => true
 | .str _ => true
 | _ => false
def eqV : V -> V -> Bool
 | .non, .non => true
 | .bl a, .bl b => a == b
 | .bl a, .int b => (if a then 1 else 0) == b
 | .int a, .bl b => a == (if b then 1 else 0)
 | .int a, .int b => a == b
 | .str a, .str b => a == b
 | _,_ => false
theorem eqAt_V {A : Around} {s : Shared} {y x : V} {u v : Value} (ry : RelV y u) (rx : RelV x v) (fy : flatV y = true) (fx : flatV x = true) : SeqAt.EqAt A s u v (eqV y x) := by
 cases y with
 | non =>
  cases ry
  cases x with
  | non => cases rx; exact SeqAt.EqAt.same _
  | bl b => cases rx; exact SeqAt.EqAt.none_bool b
  | int b => obtain ⟨t, rfl⟩ := rx; exact SeqAt.EqAt.none_int b t
  | str b => obtain ⟨t, rfl⟩ := rx; exact SeqAt.EqAt.none_str b t
  | _ => exact absurd (show false = true from fx) Bool.false_ne_true
 | bl a =>
  cases ry
  cases x with
  | non => cases rx; exact SeqAt.EqAt.bool_none a
  | bl b => cases rx; exact SeqAt.EqAt.bool_bool a b
  | int b => obtain ⟨t, rfl⟩ := rx; exact SeqAt.EqAt.bool_int a b t
  | str b => obtain ⟨t, rfl⟩ := rx; exact SeqAt.EqAt.bool_str a b t
  | _ => exact absurd (show false = true from fx) Bool.false_ne_true
 | int a =>
  obtain ⟨t', rfl⟩ := ry
  cases x with
  | non => cases rx; exact SeqAt.EqAt.int_none a t'
  | bl b => cases rx; exact SeqAt.EqAt.int_bool a t' b
  | int b => obtain ⟨t, rfl⟩ := rx; exact SeqAt.EqAt.int_int a t' b t
  | str b => obtain ⟨t, rfl⟩ := rx; exact SeqAt.EqAt.int_str a t' b t
  | _ => exact absurd (show false = true from fx) Bool.false_ne_true
 | str a =>
  obtain ⟨t', rfl⟩ := ry
  cases x with
  | non => cases rx; exact SeqAt.EqAt.str_none a t'
  | bl b => cases rx; exact SeqAt.EqAt.str_bool a t' b
  | int b => obtain ⟨t, rfl⟩ := rx; exact SeqAt.EqAt.str_int a t' b t
  | str b => obtain ⟨t, rfl⟩ := rx; exact SeqAt.EqAt.str_str a t' b t
  | _ => exact absurd (show false = true from fx) Bool.false_ne_true
 | _ => exact absurd (show false = true from fy) Bool.false_ne_true
def eqU (x : V) (u : Value) : Bool := match u with
 | .none => eqV .non x
 | .bool b => eqV (.bl b) x
 | .int i _ => eqV (.int i) x
 | .str z _ => eqV (.str z) x
 | _ => false
theorem eqU_of {x y : V} {u : Value} (r : RelV y u) (f : flatV y = true) : eqU x u = eqV y x := by
 cases y with
 | non => cases r; rfl
 | bl b => cases r; rfl
 | int i => obtain ⟨t, rfl⟩ := r; rfl
 | str z => obtain ⟨t, rfl⟩ := r; rfl
 | _ => exact absurd (show false = true from f) Bool.false_ne_true
theorem any_eqU {x : V} : ∀ {xs : List V} {us : List Value}, Vals xs us -> xs.all flatV = true -> us.any (eqU x) = xs.any fun y => eqV y x
 | _,_,.nil, _ => rfl
 | y :: xs, u :: us, .cons r t, f => by
  rw [List.all_cons, Bool.and_eq_true] at f
  rw [List.any_cons, List.any_cons, eqU_of r f.1, any_eqU t f.2]
theorem mem_eqAt {A : Around} {s : Shared} {x : V} {v : Value} (rx : RelV x v) (fx : flatV x = true) : ∀ {xs : List V} {us : List Value}, Vals xs us -> xs.all flatV = true -> ∀ u ∈ us, SeqAt.EqAt A s u v (eqU x u)
 | _,_,.nil, _ => fun u hu => by cases hu
 | y :: xs, u :: us, .cons r t, f => fun u' hu => by
  rw [List.all_cons, Bool.and_eq_true] at f
  rcases List.mem_cons.mp hu with rfl | hu
  . rw [eqU_of r f.1]; exact eqAt_V r rx f.1 fx
  . exact mem_eqAt rx fx t f.2 u' hu
def inV (x : V) (xs : List V) : Bool := xs.any fun y => eqV y x
def rIn (K : PySem.W.Frag) (neg : Bool) : R2 := fun x y H Q => ∃ p xs, y = .ref p /\ (SqL K H p xs \/ SqT K H p xs) /\ flatV x = true /\ xs.all flatV = true /\ Q (.bl (if neg then !inV x xs else inV x xs)) H
theorem op_notIn_seq : OpR X (compareOp .NotIn) (rIn X.K true) := by
 intro pins s σ H x y v u Q I rx ry h
 obtain ⟨p, xs, rfl,hq, fx, fs, q⟩ := h
 cases ry
 rcases hq with hq | hq
 . obtain ⟨its, r, pl, hz⟩ := I.list hq
   refine SeqAt.notIn_listAt (eqU x) pl.isList (fun w hw => mem_eqAt rx fx r fs w (by simpa using hw)) ⟨.bl _,H, I, rfl,?_⟩
   rw [show its.toArray.any (eqU x) = its.any (eqU x) by simp, any_eqU r fs]
   exact q
 . obtain ⟨its, r, pl, hz⟩ := I.tuple hq
   refine SeqAt.notIn_tupleAt (eqU x) pl (fun w hw => mem_eqAt rx fx r fs w (by simpa using hw)) ⟨.bl _,H, I, rfl,?_⟩
   rw [show its.toArray.any (eqU x) = its.any (eqU x) by simp, any_eqU r fs]
   exact q
theorem call_len_seq : CallR X (.builtin "len") (fun xs H Q => ∃ p ys, xs = [.ref p] /\ (SqL X.K H p ys \/ SqT X.K H p ys) /\ Q (.int ys.length) H) := by
 intro pins s σ H xs us Q I r h
 obtain ⟨p, ys, rfl,hq, q⟩ := h
 obtain ⟨u, rfl,rx⟩ := vals1 r
 cases rx
 have hn := line63
 rcases hq with hq | hq
 . obtain ⟨its, r', pl, hz⟩ := I.list hq
   have hlen := r'.length
   exact Calls.call_len_list pl.isList (by simp only [List.size_toArray] <;> omega) ⟨.int ys.length, H, I.tok _,⟨s.toks + 1, by rw [List.size_toArray, hlen]⟩, q⟩
 . obtain ⟨its, r', pl, hz⟩ := I.tuple hq
   have hlen := r'.length
   exact len_tuple pl (by simp only [List.size_toArray] <;> omega) ⟨.int ys.length, H, I.tok _,⟨s.toks + 1, by rw [List.size_toArray, hlen]⟩, q⟩
theorem call_tuple_of : CallR X (.type "tuple") (fun xs H Q => ∃ p ys, xs = [.ref p] /\ ((SqL X.K H p ys /\ ∀ l, H l = none -> Q (.ref l) (upd H l (.tup ys))) \/ (SqT X.K H p ys /\ Q (.ref p) H))) := by
 intro pins s σ H xs us Q I r h
 obtain ⟨p, ys, rfl,h⟩ := h
 obtain ⟨u, rfl,rx⟩ := vals1 r
 cases rx
 rcases h with ⟨hq, q⟩ | ⟨hq, q⟩
 . obtain ⟨its, r', pl, hz⟩ := I.list hq
   have hlen := r'.length
   refine call_tuple_list pl.isList (fun h' kp => ?_) (by simp only [List.size_toArray] <;> omega)
   have I1 : Inv X pins σ H { s with heap := h' } := I.kept (t' := s.toks) kp
   have I2 : Inv X pins σ (upd H h'.objs.size (.tup ys)) { s with heap := h'.push { cls := .type "tuple", data := .seq its.toArray } } :=
    I1.laid (t' := s.toks) (fun b o e => Heap.get?_push_of_some _ e) (Nat.le_refl _) (show ObjOk X.prog X.w _ _ _ (.tup ys) from ⟨hz, its, r', TupP.new _ _⟩)
   exact ⟨.ref h'.objs.size, _,I2, rfl,q _ (I1.hok.fresh (Nat.le_refl _))⟩
 . obtain ⟨its, r', pl, hz⟩ := I.tuple hq
   exact call_tuple_same pl ⟨.ref p, H, I, rfl,q⟩
def tyV (K : PySem.W.Frag) (T : String) (x : V) (H : Hp) : Prop := match x with
 | .str _ => T = "str"
 | .int _ => T = "int"
 | .ref p => (T = "list" /\ ∃ xs, SqL K H p xs) \/ (T = "tuple" /\ ∃ o, K.lookup p = some o /\ o.cls = .type "tuple" /\ o.dict = none) \/
     (T = "dict" /\ ((∃ kvs, H p = some (.dK kvs)) \/ ∃ kvs, H p = some (.dT kvs))) \/ (T = "set" /\ ∃ S n, H p = some (.set S n))
 | _ => False
theorem tyV_is {pins : List (Addr × Obj)} {σ : St} {H : Hp} {s : Shared} {T : String} {x : V} {v : Value} (I : Inv X pins σ H s) (r : RelV x v) (ty : tyV X.K T x H) :
    s.TypeIs v T /\ ∀ a, v = .ref a -> ∃ ob, s.heap.get? a = some ob /\ ob.dict = none := by
 cases x with
 | str z =>
  obtain ⟨t, rfl⟩ := r
  cases (show T = "str" from ty)
  exact ⟨typeIs_str s z t, fun _ e => nomatch e⟩
 | int i =>
  obtain ⟨t, rfl⟩ := r
  cases (show T = "int" from ty)
  exact ⟨typeIs_int s i t, fun _ e => nomatch e⟩
 | ref p =>
  cases r
  rcases ty with ⟨rfl,xs, hq⟩ | ⟨rfl,o, hk, hc, hd⟩ | ⟨rfl,hk⟩ | ⟨rfl,S, n, hk⟩
  . obtain ⟨its, _,pl, _⟩ := I.list hq
    refine ⟨pl.isList.typeIs, fun a e => ?_⟩
    cases e
    obtain ⟨o, n, e, c, hd, _⟩ := pl
    exact ⟨o, e, hd⟩
  . refine ⟨⟨o, I.kIn p o hk, hc⟩, fun a e => ?_⟩
    cases e
    exact ⟨o, I.kIn _ o hk, hd⟩
  . have z : ∃ o, s.heap.get? p = some o /\ o.ExactDict := by
      rcases hk with ⟨kvs, hk⟩ | ⟨kvs, hk⟩
      . obtain ⟨_,_,_,_,o, _,_,e, ex, _⟩ := I.hok p _ hk
        exact ⟨o, e, ex⟩
      . obtain ⟨_,_,_,_,o, _,_,e, ex, _⟩ := I.hok p _ hk
        exact ⟨o, e, ex⟩
    obtain ⟨o, e, ex⟩ := z
    refine ⟨⟨o, e, ex.1⟩, fun a e2 => ?_⟩
    cases e2
    exact ⟨o, e, ex.2.1⟩
  . obtain ⟨o, _,_,_,e, ex, _⟩ := I.hok p _ hk
    refine ⟨⟨o, e, ex.1⟩, fun a e2 => ?_⟩
    cases e2
    exact ⟨o, e, ex.2.1⟩
 | _ => exact False.elim ty
def tBM (K : PySem.W.Frag) (T : String) (r : V -> List V -> Hp -> VK -> Prop) (to : TE) (t : TA) : TE := fun σ H Q => to σ H fun x H1 => tyV K T x H1 /\ t σ H1 fun xs H2 => r x xs H2 Q
variable {o e : Expr} {es : List Expr} {to : TE} {t : TA} {name : Str} {apos cpos : Pos} {T id : String} {r : V -> List V -> Hp -> VK -> Prop}
theorem pe_bm (pa : PlainAttrs T) (slot : Slot T name id) (hty : typeOf (.builtin id) = pure (.type "method_descriptor")) (hm : MtR X id r) (ho : PE X o to) (ha : PA X (e :: es) t)
    (hbase : attributeBase o name X.env (eval o X.env) = eval o X.env := by rfl)
    (hfew : ((backTo cpos (starEach (e :: es) X.env)).all (fun x => !x.1) && (backToKw cpos (keywordEach [] X.env)).all (fun x => x.1.isSome)
     && decide ((e :: es).length + ([] : List Keyword).length + (if ([] : List Keyword).isEmpty then 0 else 1) < 30)) = true := by rfl)
    (hline : (apos.endLine == cpos.line) = true := by rfl) (hs : starEach (e :: es) X.env = (false, eval e X.env) :: starEach es X.env := by rfl) (hplain : (backTo cpos (starEach es X.env)).any (·.1) = false := by rfl) :
    PE X (.Call (.Attribute o name apos) (e :: es) [] cpos) (tBM X.K T r to t) := by
 intro pins s σ H Q I h
 refine wpAny_Call_method_late hbase hfew hline rfl (thn (ho pins s σ H _ I h) fun v s1 ⟨x, H1, I1, r1, ty, q1⟩ => ?_)
 obtain ⟨h1, h2⟩ := tyV_is I1 r1 ty
 refine ⟨T, id, pa, slot, hty, h1, h2, ?_⟩
 have hA := ha cpos pins s1 σ H1 _ I1 q1
 rw [hs] at hA ⊢
 refine Calls.callWith_builtin (by show (false || (backTo cpos (starEach es X.env)).any (·.1)) = false; rw [hplain] <;> rfl) (Calls.evalArgs_plain ?_)
 exact thn hA fun us s2 ⟨vs, H2, I2, r2, q2⟩ => hm pins s2 σ H2 x vs v us Q I2 r1 r2 q2
/- xs.append(e), list.index on a module's tuple .. are MtR facts of 06m -/
end
end L2
namespace L2
open PySem PySem.Spec PyProof.Rows
def MtM (X : Cx) (id : String) (r : V -> List V -> Hp -> VK -> Prop) : Prop :=
 ∀ (pins : List (Addr × Obj)) (s : Shared) (σ : St) (H : Hp) (x : V) (xs : List V) (v : Value) (us : List Value) (Q : VK), Inv X pins σ H s -> RelV x v -> Vals xs us -> r x xs H Q ->
  wpAny (model X.prog X.w) X.A (call (.builtin id) (v :: us)) (EP X pins σ Q) X.xe s
theorem Vals.one : ∀ {x : V} {us : List Value}, Vals [x] us -> ∃ u, us = [u] /\ RelV x u
 | _,_,.cons r .nil => ⟨_,rfl,r⟩
theorem Vals.two : ∀ {x y : V} {us : List Value}, Vals [x, y] us -> ∃ u v, us = [u, v] /\ RelV x u /\ RelV y v
 | _,_,_,.cons r (.cons q .nil) => ⟨_,_,rfl,r, q⟩
theorem Vals.rep {xs : List V} {us : List Value} (h : Vals xs us) : ∀ k : Nat, Vals (List.replicate k xs).flatten (List.replicate k us).flatten
 | 0 => .nil
 | k + 1 => by
  rw [List.replicate_succ, List.replicate_succ, List.flatten_cons, List.flatten_cons]
  exact Vals.append h (Vals.rep h k)
theorem foldl_rep (its : List Value) : ∀ (k : Nat) (acc : List Value),
    List.foldl (fun x1 x2 => x1 ++ x2) acc.toArray (List.replicate k its.toArray) = (acc ++ (List.replicate k its).flatten).toArray
 | 0, acc => by simp
 | k + 1, acc => by
  have e : acc.toArray ++ its.toArray = (acc ++ its).toArray := by simp
  have e2 : (acc ++ its) ++ (List.replicate k its).flatten = acc ++ (List.replicate (k + 1) its).flatten := by
   rw [List.replicate_succ, List.flatten_cons, List.append_assoc]
  rw [<- e2, <- foldl_rep its k (acc ++ its), <- e, List.replicate_succ, List.foldl_cons]
section
variable {X : Cx} {pins : List (Addr × Obj)} {σ : St} {H : Hp} {s : Shared} {l b : Addr} {xs ys zs : List V}
theorem Inv.lset {its its' : List Value} {n : Nat} {f : Array Value -> Array Value} {t' : Nat} (I : Inv X pins σ H s) (hH : H l = some (.lst xs))
    (e : s.heap.get? l = some { cls := .type "list", data := .seq its.toArray n }) (hf : f its.toArray = its'.toArray) (hv : Vals ys its') (hz : ys.length <= sizeLine) :
    Inv X pins σ (upd H l (.lst ys)) { s with heap := s.heap.update l (Obj.mapSeq f), toks := t' } := by
 have q := PySem.IsL.update e f
 rw [hf] at q
 refine I.write (x := l) (e := l) (by rw [hH]; exact trivial) (.inl rfl) (fun b' u hb hu => (Heap.get?_update_other s.heap (Obj.mapSeq f) (Ne.symm hb)).trans hu) ⟨_,q⟩ ?_
 exact ⟨hz, its', _,hv, q⟩
theorem Inv.lnew {its : List Value} {t' : Nat} (I : Inv X pins σ H s) (hv : Vals ys its) (hz : ys.length <= sizeLine) :
    Inv X pins σ (upd H s.heap.objs.size (.lst ys)) { s with heap := s.heap.push { cls := .type "list", data := .seq its.toArray }, toks := t' } :=
 I.laid (fun _ _ q => Heap.get?_push_of_some _ q) (Nat.le_refl _) ⟨hz, its, 0, hv, Heap.get?_push_size _ rfl⟩
theorem Inv.fresh (I : Inv X pins σ H s) : H s.heap.objs.size = none := I.hok.fresh (Nat.le_refl _)
theorem Inv.lstM (I : Inv X pins σ H s) (hH : H l = some (.lst xs)) : xs.length <= sizeLine /\ ∃ (its : List Value) (n : Nat), Vals xs its /\ xs.length = its.length /\ s.heap.get? l = some { cls := .type "list", data := .seq its.toArray n } := by
 obtain ⟨z, its, n, r, e⟩ := I.hok l _ hH
 exact ⟨z, its, n, r, r.length, e⟩
theorem notLongL {n : Nat} (h : n <= sizeLine) : Builtin.List.listTooLong n = false := by
 unfold Builtin.List.listTooLong
 exact decide_eq_false (by omega)
end
section
variable {X : Cx}
def rAppend : V -> List V -> Hp -> VK -> Prop := fun x vs H Q => ∃ l xs y, x = .ref l /\ vs = [y] /\ H l = some (.lst xs) /\ xs.length < sizeLine /\ Q .non (upd H l (.lst (xs ++ [y])))
theorem mt_append : MtM X "list.append" rAppend := by
 intro pins s σ H x vs v us Q I rx rv h
 obtain ⟨l, xs, y, rfl,rfl,hH, hz, q⟩ := h
 cases rx
 obtain ⟨u, rfl,ru⟩ := rv.one
 obtain ⟨z, its, n, r, hl, e⟩ := I.lstM hH
 refine call_meets F.slot_list_append ⟨_,e, rfl⟩ F.entry_list_append (F.args_list_append_2 _ _) (PySem.list_append l its.toArray n u (by rw [List.size_toArray]; omega)) ⟨e, ?_⟩
 refine ⟨.non, _,I.lset (its' := its ++ [u]) hH e (by simp) (r.append (.cons ru .nil)) ?_,rfl,q⟩
 rw [List.length_append, List.length_singleton]
 omega
def rExtend : V -> List V -> Hp -> VK -> Prop := fun x vs H Q => ∃ l b xs zs, x = .ref l /\ vs = [.ref b] /\ H l = some (.lst xs) /\ H b = some (.lst zs) /\ xs.length + zs.length <= sizeLine /\ Q .non (upd H l (.lst (xs ++ zs)))
theorem mt_extend : MtM X "list.extend" rExtend := by
 intro pins s σ H x vs v us Q I rx rv h
 obtain ⟨l, b, xs, zs, rfl,rfl,hH, hB, hz, q⟩ := h
 cases rx
 obtain ⟨u, rfl,ru⟩ := rv.one
 cases ru
 obtain ⟨z, its, n, r, hl, e⟩ := I.lstM hH
 obtain ⟨z2, its2, n2, r2, hl2, e2⟩ := I.lstM hB
 have hsz : its.toArray.size + its2.toArray.size <= sizeLine := by rw [List.size_toArray, List.size_toArray]; omega
 have hlong : ¬ (!its.toArray.isEmpty && Builtin.List.listTooLong (its.toArray.size + its2.toArray.size)) = true := by
  rw [notLongL hsz, Bool.and_false]
  exact Bool.false_ne_true
 refine call_meets F.slot_list_extend ⟨_,e, rfl⟩ F.entry_list_extend (F.args_list_extend_2 _ _)
  (AutoSeq1.list_extend_list_list_0 l its.toArray n b its2.toArray n2 hlong (by rw [List.size_toArray]; omega) (by omega)) ⟨e, e2, ?_⟩
 refine ⟨.non, _,I.lset (its' := its ++ its2) hH e (by simp) (r.append r2) ?_,rfl,q⟩
 rw [List.length_append]
 omega
def rRep : R2 := fun x y H Q => ∃ l k xs, x = .ref l /\ y = .int k /\ H l = some (.lst xs) /\ -(2 ^ 63) <= k /\ k < 2 ^ 63 /\ xs.length * k.toNat <= sizeLine /\
 ∀ p, H p = none -> Q (.ref p) (upd H p (.lst (List.replicate k.toNat xs).flatten))
theorem len_rep {α : Type} (xs : List α) (k : Nat) : (List.replicate k xs).flatten.length = k * xs.length := by
 induction k with
 | zero => simp
 | succ k ih => rw [List.replicate_succ, List.flatten_cons, List.length_append, ih, Nat.succ_mul, Nat.add_comm]
theorem op_rep : OpR X (binaryOp .Mult) rRep := by
 intro pins s σ H x y v u Q I rx ry h
 obtain ⟨l, k, xs, rfl,rfl,hH, h1, h2, hz, q⟩ := h
 cases rx
 obtain ⟨t, rfl⟩ := ry
 obtain ⟨z, its, n, r, hl, e⟩ := I.lstM hH
 have hlen : its.toArray.size * k.toNat <= sizeLine := by rw [List.size_toArray, <- hl]; exact hz
 have hcap : ¬ its.toArray.size * k.toNat > (2 ^ 63 - 1) / 8 := by
  have : (sizeLine : Nat) <= (2 ^ 63 - 1) / 8 := by decide
  omega
 have hfit : ¬ (!Builtin.List.listFitsIndex k) = true := by
  rw [fitsIndex_both h1 h2]
  exact Bool.false_ne_true
 have hlong : ¬ Builtin.List.listTooLong (its.toArray.size * k.toNat) = true := by
  rw [notLongL hlen]
  exact Bool.false_ne_true
 have hnew : List.foldl (fun x1 x2 => x1 ++ x2) #[] (List.replicate (if its.toArray.isEmpty = true then 0 else k.toNat) its.toArray) = (List.replicate k.toNat its).flatten.toArray := by
  have f0 : ∀ m : Nat, List.foldl (fun x1 x2 => x1 ++ x2) #[] (List.replicate m its.toArray) = (List.replicate m its).flatten.toArray := fun m => by
   have := foldl_rep its m []
   rw [List.nil_append] at this
   exact this
  rw [f0]
  cases its with
  | nil => simp
  | cons a r' => rw [if_neg (by simp)]
 refine wpAny_binaryOp_repeat_ref (T := "list") (U := "int") (by decide) ⟨_,e, rfl⟩ (fun s' => typeIs_int s' k t) noFill_list_mul F.fills_int_mul F.slot_int_rmul repeat_list F.slot_int_index.lookup
  (call_meets F.slot_int_rmul (typeIs_int s k t) F.entry_int_rmul (F.args_int_rmul_2 _ _) (int___rmul___int_list k t l its.toArray n)
   ⟨e, rfl,⟨_,e, rfl⟩, call_meets F.slot_list_mul ⟨_,e, rfl⟩ F.entry_list_mul (F.args_list_mul_2 _ _) (AutoListH.list___mul___list_int_3 l its.toArray n k t hfit hcap hlong) ⟨e, ?_⟩⟩)
 rw [hnew]
 exact ⟨.ref _,_,I.lnew (t' := s.toks) (r.rep k.toNat) (by rw [len_rep, Nat.mul_comm]; exact hz), rfl,q _ I.fresh⟩
end
section
variable {prog : Program} {w : World} {A : Around} {E : Value -> Shared -> Prop} {s : Shared}
end
section
variable {X : Cx}
end
end L2
namespace Att
open PySem PySem.W PySem.Calls PyProof.Rows
theorem ints_of_wellAll {P : Params} {h : Heap} : ∀ (ns : List Int) (vs : List Value), WellAll P h vs (ns.map WData.int) -> IntsAre vs ns := by
 intro ns
 induction ns with
 | nil =>
  intro vs w
  rw [List.map_nil] at w
  cases w
  exact .nil
 | cons n ns ih =>
  intro vs w
  rw [List.map_cons] at w
  cases w with
  | cons a b =>
   cases a
   exact .cons _ _ (ih _ b)
theorem script_of {l : OpenLaw} {n : Nat} (hn : l.most = some n) {P : Params} {h : Heap} {args : List WData} {vals : List Value}
    (hpre : l.row.toRowW.claim.pre args = true) (hwl : WellAll P h vals args) :
    ∃ a vs ns, vals = [Value.ref a] /\ args = [WData.list (ns.map WData.int)] /\ h.get? a = some { cls := .type "list", data := .seq vs.toArray } /\ IntsAre vs ns /\ ns.length <= n := by
 have hsh : WShape.hasAll [] args [.list .int] = true := (pre_splitW hpre).1
 have hc : l.pre.holds [] { args := args } = true := (pre_splitW hpre).2
 obtain ⟨d, r, rfl,h1, h2⟩ := hasAllW_cons hsh
 obtain rfl := hasAllW_nil h2
 obtain ⟨xs, rfl,h3⟩ := hasW_list h1
 obtain ⟨ns, rfl⟩ := items_int h3
 have hlen : ns.length <= n := by
  unfold OpenLaw.pre at hc
  have h4 : (WTm.not (.lt (.lit (.int (n : Int))) (.len (.arg 0)))).holds [] { args := [.list (ns.map .int)] } = true := by
   have h4 := (holds_andW hc).1
   rw [hn] at h4
   exact h4
  have h5 := condW_of h4 (w_not (w_lt w_lit (w_len_list (w_arg rfl))))
  rw [List.length_map] at h5
  refine Nat.le_of_not_lt fun q => ?_
  have q' : (n : Int) < ((ns.length : Nat) : Int) := by omega
  first
   | (rw [decide_eq_true q'] at h5; exact absurd h5 (by decide))
   | (simp at h5; omega)
 cases hwl with
 | cons w1 w2 =>
  cases w2
  cases w1 with
  | list ho hall => exact ⟨_,_,ns, rfl,rfl,ho, ints_of_wellAll ns _ hall, hlen⟩
theorem post_true (l : OpenLaw) (args : List WData) : l.row.toRowW.claim.post args (.bool true) args = true :=
 postW_of (r := l.row.toRowW) (X := (true == true))
  (show WShape.has [] (.bool true) .bool = true by first | rfl | decide | simp [WShape.has, WShape.arms, WShape.armsAll])
  (show (WTm.eq .res (.lit (.bool true))).value [] { args := args, res := some (.bool true), after := args } = some (.bool (true == true)) from w_eq_bool (w_res rfl) w_lit) rfl
theorem attach_call {l : OpenLaw} {n : Nat} {q : Program} {loose : List Str} {XP : (Str -> Option Value) -> Heap -> Prop} {YP : World -> Heap -> Prop} {d : DefRec}
    (hn : l.most = some n) (hdf : d.params.defaults = [])
    (call : ∀ (w : World) (s₀ s₁ : Shared) (mg mb : Str -> Option Value) (fa : Addr) (o : Obj) (pm cd doc : Value) (a : Addr) (vs : List Value) (ns : List Int),
     Ground q loose [] XP w s₀ mg mb s₁.heap -> YP w s₁.heap ->
     s₁.heap.get? fa = some o -> o.data = .func (docDef d.name d.params d.body d.scope pm cd doc) -> s₁.heap.CodeRec cd d.name -> mg d.name = some (.ref fa) ->
     s₁.heap.get? a = some { cls := .type "list", data := .seq vs.toArray } -> IntsAre vs ns -> ns.length <= n -> s₁.gens = #[] ->
     codeAny (model l.prog w) callerA (.call (.ref fa) ⟨[.ref a], []⟩) (fun r s' => r = .ok (.ret (.bool true)) /\ OldK s₁.heap s'.heap /\ s'.os = s₁.os /\ AllBare s'.gens) s₁) :
    WalkO q loose XP YP l.row.toRowW d [] (fun f vs => PySem.call f vs) := by
 intro w s₀ s₁ mg mb G Y fa o pm cd doc dV kV ho hd hcd hD hmg hg args vals as hpre hlay hrd hwl hlo
 obtain rfl : dV = .none := Dflts.none hD hdf
 obtain rfl : kV = .none := Dflts.noKw hD
 obtain ⟨a, vs, ns, rfl,rfl,hobj, hints, hlen⟩ := script_of hn hpre hwl
 refine enter_call (codeAny_mono (call w s₀ s₁ mg mb fa o pm cd doc a vs ns G Y ho (fd_plain hd) hcd hmg hobj hints hlen hg) fun r s' hq => ?_)
 obtain ⟨rfl,h2, h3, h4⟩ := hq
 exact ⟨.inl ⟨.bool true, .bool true, [], rfl,fun _ => rfl,.bool true, post_true l _,fun _ => ⟨List.Pairwise.nil, fun _ hm => (nomatch hm)⟩⟩, h2, h3, h4⟩
section
variable {prog : Program} {w : World} {A : Around} {E : Value -> Shared -> Prop} {s : Shared} {K : Frag}
end
end Att
namespace L2
open PySem PySem.Spec PyProof.Rows
theorem vals_ints : ∀ {vs : List Value} {ns : List Int}, IntsAre vs ns -> Vals (ns.map V.int) vs
 | _,_,.nil => .nil
 | _,_,.cons n t h => .cons ⟨t, rfl⟩ (vals_ints h)
def Only (H : Hp) : Prop := ∀ b, H b = none \/ ∃ o xs, H b = some (.frz o (.lst xs))
theorem law_call {P : Program} {w : World} {K : PySem.W.Frag} {mg mb : Str -> Option Value} {CX : CXT} {k : Nat} {fa a : Addr} {fd : FuncData} {x : Str} {sp : Sp} {s₁ : Shared} {vs : List Value} {ns : List Int}
    (KX : K.In s₁.heap) (hns : s₁.heap.Ns mainGlobals mg) (hb : s₁.heap.Ns builtinsNs mb) (hbb : ∀ x : Str, x ≠ "__name__" -> mb x = bootBuiltins x) (hlim : s₁.heap.NoLimit) (hg : s₁.gens = #[])
    (ha : s₁.heap.get? a = some { cls := .type "list", data := .seq vs.toArray }) (hi : IntsAre vs ns) (hl : ns.length <= sizeLine) (hr : Room k callerA)
    (F : ∀ base : Heap, K.In base -> base.Ns mainGlobals mg -> FnOk P w K mg base CX k fa fd [x] sp) (hbind : ∀ (s : Shared) (u : Value), BindsTo s fd ⟨[u], []⟩ [(x, u)])
    (hsp : ∀ H : Hp, Only H -> SqL K H a (ns.map V.int) -> sp [.ref a] H (fun v _ => v = .bl true) fun _ _ _ => False)
    (hCX : ∀ H e s', CX [] H s₁ (fun _ _ _ => False) e s' -> False) :
    codeAny (model P w) callerA (.call (.ref fa) ⟨[.ref a], []⟩) (fun r s' => r = .ok (.ret (.bool true)) /\ OldK s₁.heap s'.heap /\ s'.os = s₁.os /\ AllBare s'.gens) s₁ := by
 have rv := vals_ints hi
 have lenV := hi.length
 have core : ∀ H : Hp, Only H -> SqL K H a (ns.map V.int) -> HOk P w H s₁.heap -> (∀ b, H b ≠ none -> b = a) -> (H a ≠ none -> K.lookup a = none) ->
     codeAny (model P w) callerA (.call (.ref fa) ⟨[.ref a], []⟩) (fun r s' => r = .ok (.ret (.bool true)) /\ OldK s₁.heap s'.heap /\ s'.os = s₁.os /\ AllBare s'.gens) s₁ := by
  intro H hO hS hok hA hK
  have base_of : ∀ {b : Addr} {o : Obj}, s₁.heap.get? b = some o -> H b = none -> (hidT s₁.heap H).get? b = some o := fun e n => hidT_get e n
  have noA : ∀ {b : Addr} {o : Obj} {es : Array DictEntry} {ep : Nat}, s₁.heap.get? b = some o -> o.data = .dict es ep -> H b = none := fun {b o es ep} e d => by
   cases q : H b with
   | none => rfl
   | some u =>
    have e' : b = a := hA b (by rw [q]; simp)
    subst e'
    rw [ha] at e; cases e
    have d' : Data.seq vs.toArray _ = Data.dict es ep := d
    cases d'
  have nsK : ∀ {b : Addr} {m : Str -> Option Value}, s₁.heap.Ns b m -> (hidT s₁.heap H).Ns b m := fun {b m} ⟨o, es, ep, e, d, r⟩ => ⟨o, es, ep, base_of e (noA e d), d, r⟩
  have hKb : K.In (hidT s₁.heap H) := fun b o e => base_of (KX b o e) (by
   cases q : H b with
   | none => rfl
   | some u =>
    have e' : b = a := hA b (by rw [q]; simp)
    subst e'
    rw [hK (by rw [q]; simp)] at e; cases e)
  have hM : Mod K mg (hidT s₁.heap H) := ⟨hKb, nsK hns, ⟨mb, nsK hb, hbb⟩, let ⟨mc, h1, h2⟩ := hlim; ⟨mc, nsK h1, h2⟩⟩
  have e0 : Env0 P w K mg (hidT s₁.heap H) callerA [] s₁ H := ⟨rfl,hM, fun b o e => of_hidT e, Nat.le_of_eq (hidT_size _ _), trivial, fun b hb => absurd (show b ∈ ([] : List Addr) from hb) (by simp), hok, .of_eq hg⟩
  refine codeAny_mono ((F _ hKb (nsK hns)).run callerA [] s₁ H ⟨[.ref a], []⟩ [.ref a] [.ref a] _ _ hr e0 (hbind s₁ (.ref a)) (.cons rfl .nil) (hsp H hO hS)) fun r s' h => ?_
  cases r with
  | error e => exact (hCX H e s' h).elim
  | ok fl =>
   cases fl with
   | next => exact False.elim h
   | brk => exact False.elim h
   | cont => exact False.elim h
   | ret u =>
    obtain ⟨v, H', os, bare, un, hok', r', q⟩ := h
    have q' : v = .bl true := q
    subst q'
    obtain rfl : u = Value.bool true := r'
    refine ⟨rfl,OldK.of_keep fun b o e => ?_,os, bare⟩
    cases q : H b with
    | none => exact un.keep b o e q (by intro z; exact absurd (show b ∈ ([] : List Addr) from z) (by simp)) (by simp)
    | some u =>
     rcases hO b with z | ⟨ob, xs, z⟩
     . rw [q] at z; cases z
     . have z2 := un.frzs b ob _ z
       obtain ⟨e1, _⟩ := hok b _ z
       obtain ⟨e2, _⟩ := hok' b _ z2
       rw [e] at e1; cases e1
       exact e2
 cases hk : K.lookup a with
 | some o =>
  have e := KX a o hk
  rw [ha] at e
  cases e
  refine core (fun _ => none) (fun _ => .inl rfl) (.inr ⟨_,vs.toArray, _,hk, rfl,rfl,rfl,by rw [List.size_toArray, lenV]; exact hl, by simpa using rv⟩) (fun b u z => by have z' : (none : Option HO) = some u := z; cases z') (fun b z => absurd rfl z) fun z => absurd rfl z
 | none =>
  refine core (fun b => if b = a then some (.frz { cls := .type "list", data := .seq vs.toArray } (.lst (ns.map V.int))) else none) (fun b => ?_) (.inl (.inr ⟨{ cls := .type "list", data := .seq vs.toArray }, if_pos rfl⟩)) (fun b u z => ?_) (fun b z => ?_) fun _ => hk
  . by_cases hb : b = a
    . exact .inr ⟨_,_,if_pos hb⟩
    . exact .inl (if_neg hb)
  . by_cases hb : b = a
    . have z' := (if_pos hb).symm.trans z
      cases z'
      subst hb
      exact ⟨ha, by rw [List.length_map]; exact hl, vs, _,rv, ha⟩
    . have z' := (if_neg hb).symm.trans z
      cases z'
  . by_cases hb : b = a
    . exact hb
    . exact absurd (if_neg hb) z
end L2
namespace L2
open PySem PySem.Spec PyProof.Rows
theorem walk_of {l : PySem.W.OpenLaw} {n k : Nat} {q : Program} {loose : List Str} {XP : (Str -> Option Value) -> Heap -> Prop} {YP : World -> Heap -> Prop} {d : DefRec} {K : Params -> PySem.W.Frag} {CX : World -> CXT} {sp : World -> Sp} {x : Str}
    (hn : l.most = some n) (hn2 : n <= sizeLine) (hdf : d.params.defaults = []) (hr : Room k callerA)
    (hY : ∀ (w : World) (h : Heap), YP w h -> (K w.params).In h)
    (F : ∀ (w : World) (mg : Str -> Option Value) (fa : Addr) (h : Heap), (K w.params).In h -> h.Ns mainGlobals mg -> mg d.name = some (.ref fa) ->
     ∃ fd : FuncData, (∀ (s : Shared) (u : Value), BindsTo s fd ⟨[u], []⟩ [(x, u)]) /\
      ∀ base : Heap, (K w.params).In base -> base.Ns mainGlobals mg -> FnOk l.prog w (K w.params) mg base (CX w) k fa fd [x] (sp w))
    (hsp : ∀ (w : World) (H : Hp) (a : Addr) (ns : List Int), ns.length <= n -> Only H -> SqL (K w.params) H a (ns.map V.int) -> sp w [.ref a] H (fun v _ => v = .bl true) fun _ _ _ => False)
    (hCX : ∀ (w : World) (H : Hp) (s : Shared) (e : Value) (s' : Shared), CX w [] H s (fun _ _ _ => False) e s' -> False) :
    PySem.W.WalkO q loose XP YP l.row.toRowW d [] (fun f vs => PySem.call f vs) := by
 refine Att.attach_call hn hdf fun w s₀ s₁ mg mb fa o pm cd doc a vs ns G Y ho hd hcd hmg hobj hints hlen hg => ?_
 have KX := hY w _ Y
 obtain ⟨fd, hb, hF⟩ := F w mg fa _ KX G.T.g hmg
 exact law_call KX G.T.g G.T.b G.T.builtins G.T.nolimit hg hobj hints (Nat.le_trans hlen hn2) hr hF hb (fun H hO hS => hsp w H a ns hlen hO hS) fun H e s' => hCX w H s₁ e s'
end L2
/- THE LAST THEOREM (shape; LID, My.* are yours):
   My.Adr: a structure of the addresses that your layer names (classes, functions); My.Txt K t: a structure (Prop) of the equations over K;
   My.txt_mk : {K} {implicit addresses ..} (e1 : nsIn K mainGlobals "law" = some (some (.ref f))) (e2 : K.lookup f = some ⟨oc, od, .func (fnOf "law" "law" params body scope dV kV doc pm an cdv ct), sl⟩) (e3 : codeIn K cdv "law" = true) .. : ∃ t, My.Txt K t
set_option maxRecDepth 100000 in
set_option maxHeartbeats 0 in
theorem PySem.Challenge.cw_LID_holds : PySem.Challenge.rw_LID.Holds := by
 w_on; o_law; k_head; (case hw => w_witness2)
 k_fill
 refine L2.walk_of (l := PySem.Challenge.rw_LID) (n := 63) (k := 40) (x := "script") (CX := fun w => ..) (sp := fun _ => My.sp_law) rfl (by decide) rfl ⟨rfl,by decide, by decide⟩ (fun w h Y => PySem.W.kIn_of Y) ?F ?S ?C
 case F =>
  intro w mg fa h KX G hmg
  have T : ∃ t, My.Txt (L2.KOf KX) t := by
   dsimp only [L2.KOf]                          -- K must stand as «<heap const> w.params» for k_is
   refine' My.txt_mk ?e1 ?e2 ?e3 ..
   (case e1 => PySem.W.k_is)                    -- in the order: a name -> its address -> its object -> its parts
   (case e2 => PySem.W.k_is)
   ..
  obtain ⟨t, T⟩ := T
  have e0 := hmg.symm.trans (PySem.W.mg_of KX G T.law)
  cases e0                                       -- fa is the law's own address
  exact ⟨_,fun s u => .of_eq rfl,fun base kb nb => My.law_fn T kb nb⟩     -- if «.of_eq rfl» comes too early: refine' ⟨_,?b, fun base kb nb => My.law_fn T kb nb⟩; exact fun s u => .of_eq rfl
 case S => exact fun w H a ns hl hO hS => ..
 case C => exact ..
(the tactic k_is has no namespace: write k_is) -/
namespace L2
open PySem PySem.Spec PyProof.Rows
def defArgs (s : Stmt) : Arguments := match s with
 | .FunctionDef _ a _ _ _ _ _ _ _ _ => a
 | _ => { posonlyargs := [], args := [], vararg := none, kwonlyargs := [], kw_defaults := [], kwarg := none, defaults := [] }
def defBody (s : Stmt) : List Stmt := match s with
 | .FunctionDef _ _ b _ _ _ _ _ _ _ => b
 | _ => []
def defScope (s : Stmt) : Scope := match s with
 | .FunctionDef _ _ _ _ _ _ sc _ _ _ => sc
 | _ => { kind := .function, names := [], isGenerator := false, isCoroutine := false }
abbrev E0 : XK := fun _ _ _ => False
structure Fun (K : PySem.W.Frag) (x qual : Str) (st : Stmt) (f : Addr) (fd : FuncData) : Prop where
 ex : ∃ (oc : Value) (od : Option Addr) (kV doc pm : Value) (an : Option Addr) (cdv ct : Value) (osl : Array (Option Value)),
  fd = PySem.W.fnOf x qual (defArgs st) (defBody st) (defScope st) .none kV doc pm an cdv ct /\ K.lookup f = some ⟨oc, od, .func fd, osl⟩ /\ PySem.W.codeIn K cdv qual = true
 kp : PySem.W.keepIn K (.ref f) = true
section
variable {P : Program} {w : World} {K : PySem.W.Frag} {mg : Str -> Option Value} {base : Heap}
theorem Fun.binds {x qual : Str} {st : Stmt} {f : Addr} {fd : FuncData} {ps : List Str} (F : Fun K x qual st f fd)
    (h : ∀ (kV doc pm : Value) (an : Option Addr) (cdv ct : Value) (us : List Value), us.length = ps.length -> bindArgs (PySem.W.fnOf x qual (defArgs st) (defBody st) (defScope st) .none kV doc pm an cdv ct) ⟨us, []⟩ = pure (ps.zip us)) : Binds K fd ps [] := by
 obtain ⟨oc, od, kV, doc, pm, an, cdv, ct, osl, rfl,lk, hcd⟩ := F.ex
 exact .all (h kV doc pm an cdv ct)
theorem fun_mk {x qual : Str} {st : Stmt} {f : Addr} {oc : Value} {od an : Option Addr} {osl : Array (Option Value)} {kV doc pm cdv ct : Value} (l : K.lookup f = some ⟨oc, od, .func (PySem.W.fnOf x qual (defArgs st) (defBody st) (defScope st) .none kV doc pm an cdv ct), osl⟩)
    (c : PySem.W.codeIn K cdv qual = true) (k : PySem.W.keepIn K (.ref f) = true) : Fun K x qual st f (PySem.W.fnOf x qual (defArgs st) (defBody st) (defScope st) .none kV doc pm an cdv ct) := ⟨⟨oc, od, kV, doc, pm, an, cdv, ct, osl, rfl,l, c⟩, k⟩
end
theorem hu_of {A : Around} {k : Nat} (hr : Room k A) : A.units + 1 < cLine := Nat.lt_of_le_of_lt (Nat.add_le_add_left (by decide : 1 <= 64) _) hr.units
section
variable {X : Cx}
theorem pv (i : Nat) {x : Str} {pos : Pos} (hN : X.N[i]? = some x := by rfl) (hv : Vis X.env.scope x := by first | exact Or.inl rfl | exact Or.inr (Or.inl rfl) | exact Or.inr (Or.inr rfl)) (hd : (x == ("__debug__" : Str)) = false := by decide)
    (hcd : (x == ("__classdict__" : Str)) = false := by decide) : PE X (.Name x pos) (tVar i) := pe_var hN hv hd hcd
end
theorem iteF {A B : Prop} (h : B) : if false = true then A else B := by
 rw [if_neg Bool.false_ne_true]
 exact h
theorem iteT {A B : Prop} (h : A) : if true = true then A else B := by
 rw [if_pos rfl]
 exact h
theorem ite2 {c A B : Prop} [Decidable c] (h1 : c -> A) (h2 : ¬ c -> B) : if c then A else B := by
 by_cases h : c
 . rw [if_pos h]
   exact h1 h
 . rw [if_neg h]
   exact h2 h
def Same (H H' : Hp) : Prop := ∀ b o, H b = some o -> H' b = some o
theorem Same.refl (H : Hp) : Same H H := fun _ _ h => h
theorem Same.trans {H H1 H2 : Hp} (a : Same H H1) (b : Same H1 H2) : Same H H2 := fun c o h => b c o (a c o h)
theorem Same.free {H H' : Hp} (e : Same H H') {l : Addr} (h : H' l = Option.none) : H l = Option.none := by
 cases q : H l with
 | none => rfl
 | some o =>
  rw [e l o q] at h
  cases h
theorem Same.seq {K : PySem.W.Frag} {H H' : Hp} {a : Addr} {xs : List V} (e : Same H H') (h : SqL K H a xs) : SqL K H' a xs := by
 rcases h with (h | ⟨o, h⟩) | h
 . exact .inl (.inl (e _ _ h))
 . exact .inl (.inr ⟨o, e _ _ h⟩)
 . exact .inr h
end L2
set_option Elab.async false
set_option linter.all false
set_option maxRecDepth 100000
namespace L2
open PySem PySem.Spec PyProof.Rows
mutual
inductive Rep (H : Hp) : V -> PyData -> Prop
 | non : Rep H .non .none
 | bl (b : Bool) : Rep H (.bl b) (.bool b)
 | int (i : Int) : Rep H (.int i) (.int i)
 | str (x : Str) : Rep H (.str x) (.str x)
 | lst {a : Addr} {vs : List V} {ds : List PyData} : H a = some (.lst vs) -> Reps H vs ds -> Rep H (.ref a) (.list ds)
 | tup {a : Addr} {vs : List V} {ds : List PyData} : H a = some (.tup vs) -> Reps H vs ds -> Rep H (.ref a) (.tuple ds)
inductive Reps (H : Hp) : List V -> List PyData -> Prop
 | nil : Reps H [] []
 | cons {v : V} {vs : List V} {d : PyData} {ds : List PyData} : Rep H v d -> Reps H vs ds -> Reps H (v :: vs) (d :: ds)
end
mutual
theorem Rep.mono {H H' : Hp} (e : Same H H') : ∀ {v : V} {d : PyData}, Rep H v d -> Rep H' v d
 | _,_,.non => .non
 | _,_,.bl b => .bl b
 | _,_,.int i => .int i
 | _,_,.str x => .str x
 | _,_,.lst h r => .lst (e _ _ h) (Reps.mono e r)
 | _,_,.tup h r => .tup (e _ _ h) (Reps.mono e r)
theorem Reps.mono {H H' : Hp} (e : Same H H') : ∀ {vs : List V} {ds : List PyData}, Reps H vs ds -> Reps H' vs ds
 | _,_,.nil => .nil
 | _,_,.cons r rs => .cons (Rep.mono e r) (Reps.mono e rs)
end
def immut : PyData -> Bool
 | .none => true
 | .bool _ => true
 | .int _ => true
 | .str _ => true
 | .list _ => false
 | .tuple ds => all ds
 | .dict _ => false
where all : List PyData -> Bool
 | [] => true
 | d :: ds => immut d && all ds
def TSame (H H' : Hp) : Prop := ∀ b xs, H b = some (.tup xs) -> H' b = some (.tup xs)
theorem Same.ts {H H' : Hp} (e : Same H H') : TSame H H' := fun b xs h => e b _ h
theorem TSame.trans {H H1 H2 : Hp} (a : TSame H H1) (b : TSame H1 H2) : TSame H H2 := fun c xs h => b c xs (a c xs h)
theorem TSame.lst {H : Hp} {p : Addr} {xs : List V} (h : H p = some (.lst xs)) (o : HO) : TSame H (upd H p o) := fun b ys q => by rw [upd_ne (ne_of q h (by intro z; cases z))]; exact q
theorem same_new {H : Hp} {p : Addr} (h : H p = none) (o : HO) : Same H (upd H p o) := fun b u q => by rw [upd_ne (ne_of_none q h)]; exact q
theorem Same.write {H H' : Hp} (e : Same H H') {p : Addr} (h : H p = none) (o : HO) : Same H (upd H' p o) := fun b u q => by rw [upd_ne (ne_of_none q h)]; exact e b u q
mutual
theorem Rep.tmono {H H' : Hp} (e : TSame H H') : ∀ {v : V} {d : PyData}, immut d = true -> Rep H v d -> Rep H' v d
 | _,_,_,.non => .non
 | _,_,_,.bl b => .bl b
 | _,_,_,.int i => .int i
 | _,_,_,.str x => .str x
 | _,_,h, .lst _ _ => by simp [immut] at h
 | _,_,h, .tup q r => .tup (e _ _ q) (Reps.tmono e (by simpa [immut] using h) r)
theorem Reps.tmono {H H' : Hp} (e : TSame H H') : ∀ {vs : List V} {ds : List PyData}, immut.all ds = true -> Reps H vs ds -> Reps H' vs ds
 | _,_,_,.nil => .nil
 | _,d :: ds, h, .cons r rs => by
  have h' : immut d = true /\ immut.all ds = true := by simpa [immut.all] using h
  exact .cons (Rep.tmono e h'.1 r) (Reps.tmono e h'.2 rs)
end
section
variable {H : Hp}
theorem Rep.int_inv {v : V} {i : Int} (r : Rep H v (.int i)) : v = .int i := by cases r; rfl
theorem Rep.tup_inv {v : V} {ds : List PyData} (r : Rep H v (.tuple ds)) : ∃ a vs, v = .ref a /\ H a = some (.tup vs) /\ Reps H vs ds := by
 cases r with | tup h q => exact ⟨_,_,rfl,h, q⟩
theorem Reps.length : ∀ {vs : List V} {ds : List PyData}, Reps H vs ds -> vs.length = ds.length
 | _,_,.nil => rfl
 | _,_,.cons _ r => congrArg (· + 1) (Reps.length r)
theorem Reps.get : ∀ {vs : List V} {ds : List PyData} {i : Nat} {d : PyData}, Reps H vs ds -> ds[i]? = some d -> ∃ v, vs[i]? = some v /\ Rep H v d
 | _,_,_,_,.nil, e => by simp at e
 | _,_,0, _,.cons r _,e => by
  have e' := Option.some.inj (show some _ = some _ from e)
  subst e'
  exact ⟨_,rfl,r⟩
 | _,_,i + 1, d, .cons _ t, e => by
  obtain ⟨v, h1, h2⟩ := Reps.get (i := i) (d := d) t (by simpa using e)
  exact ⟨v, by simpa using h1, h2⟩
theorem Reps.get' : ∀ {vs : List V} {ds : List PyData} {i : Nat} {v : V}, Reps H vs ds -> vs[i]? = some v -> ∃ d, ds[i]? = some d /\ Rep H v d
 | _,_,_,_,.nil, e => by simp at e
 | _,_,0, _,.cons r _,e => by
  have e' := Option.some.inj (show some _ = some _ from e)
  subst e'
  exact ⟨_,rfl,r⟩
 | _,_,i + 1, v, .cons _ t, e => by
  obtain ⟨d, h1, h2⟩ := Reps.get' (i := i) (v := v) t (by simpa using e)
  exact ⟨d, by simpa using h1, h2⟩
theorem Reps.append : ∀ {vs us : List V} {ds es : List PyData}, Reps H vs ds -> Reps H us es -> Reps H (vs ++ us) (ds ++ es)
 | _,_,_,_,.nil, q => q
 | _,_,_,_,.cons r rs, q => .cons r (Reps.append rs q)
theorem Reps.one {v : V} {d : PyData} (r : Rep H v d) : Reps H [v] [d] := .cons r .nil
theorem Reps.ints : ∀ {ns : List Int}, Reps H (ns.map V.int) (ns.map PyData.int)
 | [] => .nil
 | n :: r => .cons (.int n) (Reps.ints (ns := r))
theorem Reps.ints_inv : ∀ {vs : List V} {ns : List Int}, Reps H vs (ns.map PyData.int) -> vs = ns.map V.int
 | _,[], r => by cases r; rfl
 | _,n :: ns, r => by
  cases r with
  | cons q t => rw [Rep.int_inv q, Reps.ints_inv (ns := ns) t]; rfl
end
mutual
theorem Rep.reads {P : Program} {w : World} {H : Hp} {h : Heap} (ok : HOk P w H h) : ∀ {v : V} {d : PyData} {u : Value}, Rep H v d -> RelV v u -> ∃ as, Reads h u d as
 | _,_,_,.non, q => by cases (show _ = Value.none from q); exact ⟨_,.none⟩
 | _,_,_,.bl b, q => by cases (show _ = Value.bool b from q); exact ⟨_,.bool b⟩
 | _,_,_,.int i, q => by obtain ⟨t, e⟩ := q; cases e; exact ⟨_,.int i t⟩
 | _,_,_,.str x, q => by obtain ⟨t, e⟩ := q; cases e; exact ⟨_,.str x t⟩
 | _,_,_,.lst (a := a) (vs := vs) e r, q => by
  cases (show _ = Value.ref a from q)
  obtain ⟨_,its, n, rv, ho⟩ := (show ObjOk P w H h a (.lst vs) from ok a _ e)
  obtain ⟨as, z⟩ := Reps.reads ok r rv
  exact ⟨_,.list ho rfl rfl (by simpa using z)⟩
 | _,_,_,.tup (a := a) (vs := vs) e r, q => by
  cases (show _ = Value.ref a from q)
  obtain ⟨_,its, rv, o, ho, hc, _,n, hd⟩ := (show ObjOk P w H h a (.tup vs) from ok a _ e)
  obtain ⟨as, z⟩ := Reps.reads ok r rv
  exact ⟨_,.tuple ho hc hd (by simpa using z)⟩
theorem Reps.reads {P : Program} {w : World} {H : Hp} {h : Heap} (ok : HOk P w H h) : ∀ {vs : List V} {ds : List PyData} {us : List Value}, Reps H vs ds -> Vals vs us -> ∃ as, ReadsAll h us ds as
 | _,_,_,.nil, q => by cases q; exact ⟨_,.nil⟩
 | _,_,_,.cons r rs, q => by
  cases q with
  | cons q qs =>
   obtain ⟨as, z⟩ := Rep.reads ok r q
   obtain ⟨bs, zs⟩ := Reps.reads ok rs qs
   exact ⟨_,.cons z zs⟩
end
def rNeD : R2 := fun x y H Q => ∃ d e, Rep H x d /\ Rep H y e /\ SeqAt.shaped d = true /\ SeqAt.shaped e = true /\ Q (.bl (!PyData.eqv d e)) H
section
variable {X : Cx}
theorem op_neD (hu : X.A.units + 64 < cLine) : OpR X (compareOp .NotEq) rNeD := by
 intro pins s σ H x y v u Q I rx ry h
 obtain ⟨d, e, hd, he, sd, se, q⟩ := h
 obtain ⟨as, za⟩ := hd.reads I.hok rx
 obtain ⟨bs, zb⟩ := he.reads I.hok ry
 exact ne_dataH za zb sd se hu ⟨.bl (!PyData.eqv d e), H, I, rfl,q⟩
def tyD : PyData -> String
 | .none => "NoneType"
 | .bool _ => "bool"
 | .int _ => "int"
 | .str _ => "str"
 | .list _ => "list"
 | .tuple _ => "tuple"
 | .dict _ => "dict"
theorem Rep.ty {K : PySem.W.Frag} {H : Hp} {v : V} {d : PyData} (r : Rep H v d) : TyOf K H v (.type (tyD d)) := by
 cases r with
 | non => exact .non
 | bl b => exact .bl b
 | int i => exact .int i
 | str x => exact .str x
 | lst h _ => exact .lst h
 | tup h _ => exact .tup h
def isIntD : PyData -> Bool
 | .int _ => true
 | .bool _ => true
 | _ => false
def isBoolD : PyData -> Bool
 | .bool _ => true
 | _ => false
def isTupD : PyData -> Bool
 | .tuple _ => true
 | _ => false
theorem kit_int (K : PySem.W.Frag) (d : PyData) (hd : ∀ kvs, d ≠ .dict kvs) : PySem.W.kitOne K (.type (tyD d)) (.type "int") = some (isIntD d) := by
 cases d <;> first | exact absurd rfl (hd _) | (with_unfolding_all rfl)
theorem kit_bool (K : PySem.W.Frag) (d : PyData) (hd : ∀ kvs, d ≠ .dict kvs) : PySem.W.kitOne K (.type (tyD d)) (.type "bool") = some (isBoolD d) := by
 cases d <;> first | exact absurd rfl (hd _) | (with_unfolding_all rfl)
theorem kit_tuple (K : PySem.W.Frag) (d : PyData) (hd : ∀ kvs, d ≠ .dict kvs) : PySem.W.kitOne K (.type (tyD d)) (.type "tuple") = some (isTupD d) := by
 cases d <;> first | exact absurd rfl (hd _) | (with_unfolding_all rfl)
theorem Rep.nodict {H : Hp} {v : V} {d : PyData} (r : Rep H v d) : ∀ kvs, d ≠ .dict kvs := fun kvs z => by subst z; cases r
def rIsi (c : String) (f : PyData -> Bool) : List V -> Hp -> VK -> Prop := fun xs H Q => ∃ x d, xs = [x, .ty c] /\ Rep H x d /\ Q (.bl (f d)) H
theorem call_isi {c : String} {f : PyData -> Bool} (kit : ∀ (K : PySem.W.Frag) (d : PyData), (∀ kvs, d ≠ .dict kvs) -> PySem.W.kitOne K (.type (tyD d)) (.type c) = some (f d)) : CallR X (.builtin "isinstance") (rIsi c f) := by
 intro pins s σ H xs us Q I rs h
 obtain ⟨x, d, e, hd, q⟩ := h
 subst e
 obtain ⟨u, w', rfl,ru, rw'⟩ := Vals.two rs
 cases (show w' = Value.type c from rw')
 exact isinst_ok I ru hd.ty (kit X.K d hd.nodict) fun tk => ⟨.bl (f d), H, I.tok tk, rfl,q⟩
end
end L2
set_option Elab.async false
set_option linter.all false
set_option maxRecDepth 100000
namespace L2
open PySem PySem.Spec PyProof.Rows
def PF (X : Cx) (ifs : List Expr) (t : TT) : Prop :=
 ∀ (pins : List (Addr × Obj)) (s : Shared) (σ : St) (H : Hp) (Q : Bool -> Hp -> Prop), Inv X pins σ H s -> t σ H Q ->
  wpAny (model X.prog X.w) X.A (forIn ifs true fun c r => if r = true then do let ok <- isTrue c X.env (eval c X.env); pure (ForInStep.yield ok) else pure (ForInStep.yield r)) (TP X pins σ Q) X.xe s
theorem pf_nil {X : Cx} : PF X [] (fun _ H Q => Q true H) := fun pins s σ H Q I h => wpAny_tests_nil ⟨H, I, h⟩
theorem pf_one {X : Cx} {c : Expr} {t : TT} (hc : PT X c t) : PF X [c] t := fun pins s σ H Q I h => wpAny_tests_one (hc pins s σ H Q I h)
section
variable {prog : Program} {w : World} {A : Around} {R : Result -> Shared -> Prop} {s : Shared}
theorem compLoop_any {elt target iter : Expr} {ifs : List Expr} {scope : Scope} {pos : Pos} {it acc : Value} {env : Env} (I : Nat -> Shared -> Prop)
    (turn : ∀ n s, I n s -> wpAny (model prog w) A (pyNext it) (fun r s₁ => match r with
     | none => R (.ok .next) s₁
     | some v => wpAny (model prog w) A (letOwnedTupleGo target it v) (fun _ s₀ => wpAny (model prog w) A (assign target env v) (fun _ s₂ =>
         wpAny (model prog w) A (forIn ifs true fun c r => if r = true then do let ok <- isTrue c env (eval c env); pure (ForInStep.yield ok) else pure (ForInStep.yield r)) (fun ok s₃ =>
          if ok = true then wpAny (model prog w) A (eval elt env) (fun x s₄ =>
           wpAny (model prog w) A (call (.builtin "list.append") [acc, x]) (fun _ s₅ => ∃ m, m < n /\ I m s₅) (fun _ _ => False) s₄) (fun _ _ => False) s₃
          else ∃ m, m < n /\ I m s₃) (fun _ _ => False) s₂) (fun _ _ => False) s₀) (fun _ _ => False) s₁) (fun _ _ => False) s)
    (n : Nat) (h : I n s) :
    codeAny (model prog w) A (.compLoop (.ListComp elt [⟨target, iter, ifs, 0⟩] scope pos) 0 it acc env) R s := by
 refine codeAny_loop rfl I (fun n s hI => ?_) n h
 show wpAny _ A ((compTurn (.ListComp elt [⟨target, iter, ifs, 0⟩] scope pos) 0 it acc env).onRaise (fun x => do noteFrame x env; theTreesLotGoes x)) _ _ s
 refine wpAny_noted ?_
 rw [compTurn_list]
 refine wpAny_bind (wpAny_standAt (wpAny_bind (wpAny_mono (turn n s hI) (fun r s₁ h₁ => ?_) fun _ _ f => f.elim)))
 cases r with
 | none => exact wpAny_pure h₁
 | some v =>
  refine wpAny_bind (wpAny_mono h₁ (fun _ s₀ h₀ => ?_) fun _ _ f => f.elim)
  refine wpAny_bind (wpAny_mono h₀ (fun _ s₂ h₂ => wpAny_bind (wpAny_mono h₂ (fun ok s₃ h₃ => ?_) fun _ _ f => f.elim)) fun _ _ f => f.elim)
  cases ok with
  | false => exact wpAny_pure ⟨rfl,h₃⟩
  | true =>
   exact wpAny_bind (wpAny_bind (wpAny_mono h₃ (fun x s₄ h₄ => wpAny_bind (wpAny_mono h₄ (fun _ s₅ h₅ => wpAny_pure (wpAny_pure ⟨rfl,h₅⟩)) fun _ _ f => f.elim)) fun _ _ f => f.elim))
end
def closOf (scope : Scope) (env : Env) : List (Str × Addr) :=
 ((scope.names.filter fun x => x.2 == .free).reverse).map fun x => (x.1, (env.cells.lookup x.1).getD 0)
def blk (X : Cx) (scope : Scope) (NB : List Str) (C : Addr) (s₂ : Shared) (H₂ : Hp) (fp : List Addr) : Cx where
 prog := X.prog
 w := X.w
 K := X.K
 mg := X.mg
 base := X.base
 A := X.A
 N := NB
 s₀ := s₂
 H₀ := H₂
 env := compEnvC scope (closOf scope X.env) C X.env
 outer := X.stack
 stack := X.stack
 ex := fp
 fn := fun _ => false
 calm := X.calm
 pn := []
 xe := fun _ _ => False
def tau (js : List (Option Nat)) (σ : St) : St := js.map fun o => match o with
 | some j => (match σ[j]? with | some v => v | none => none)
 | none => none
structure BlkOk (X : Cx) (scope : Scope) (NB : List Str) (js : List (Option Nat)) : Prop where
 kind : scope.kind = .function
 nd : NB.Nodup
 len : js.length = NB.length
 nocell : ∀ y ∈ scope.names, y.2 ≠ .cell
 locs : ∀ y ∈ scope.names, y.2 = .local -> scope.names.lookup y.1 = some .local
 clos : closureFor scope X.env = pure (closOf scope X.env)
 there : ∀ y ∈ scope.names, y.2 = .free -> ∃ c, X.env.cells.lookup y.1 = some c
 outer : ∀ (i j : Nat), js[i]? = some (some j) -> ∃ x, NB[i]? = some x /\ X.N[j]? = some x /\ (x, NameKind.free) ∈ scope.names /\ Vis X.env.scope x /\ X.env.scope.names.lookup x ≠ some .local
 inner : ∀ (i : Nat) (x : Str), NB[i]? = some x -> (x, NameKind.free) ∈ scope.names -> Vis (relabel scope X.env) x -> (relabel scope X.env).names.lookup x ≠ some .local
def outerOk (X : Cx) (scope : Scope) (NB : List Str) (js : List (Option Nat)) : Bool := (js.zip NB).all fun p => match p.1 with
 | none => true
 | some j => X.N[j]? == some p.2 && scope.names.any (fun y => y.1 == p.2 && y.2 == .free) && (X.env.scope.names.lookup p.2 == some .cell || X.env.scope.names.lookup p.2 == some .free)
def innerOk (X : Cx) (scope : Scope) (NB : List Str) : Bool := NB.all fun x => !(scope.names.any fun y => y.1 == x && y.2 == .free) || ((relabel scope X.env).names.lookup x != some .local)
theorem any_free {l : List (Str × NameKind)} {x : Str} : (l.any fun y => y.1 == x && y.2 == NameKind.free) = true ↔ (x, NameKind.free) ∈ l := by
 rw [List.any_eq_true]
 constructor
 . rintro ⟨⟨n, k⟩, hy, e⟩
   simp only [Bool.and_eq_true, beq_iff_eq] at e
   obtain ⟨rfl,rfl⟩ := e
   exact hy
 . intro h
   exact ⟨_,h, by simp⟩
theorem blkOk_of {X : Cx} {scope : Scope} {NB : List Str} {js : List (Option Nat)} (kind : scope.kind = .function) (nd : NB.Nodup) (len : js.length = NB.length) (nocell : ∀ y ∈ scope.names, y.2 ≠ .cell) (locs : ∀ y ∈ scope.names, y.2 = .local -> scope.names.lookup y.1 = some .local)
    (clos : closureFor scope X.env = pure (closOf scope X.env)) (there : (scope.names.all fun y => y.2 != .free || (X.env.cells.lookup y.1).isSome) = true) (outer : outerOk X scope NB js = true) (inner : innerOk X scope NB = true) : BlkOk X scope NB js := by
 refine ⟨kind, nd, len, nocell, locs, clos, fun y hy hf => ?_,fun i j e => ?_,fun i x e hm _ => ?_⟩
 . have := List.all_eq_true.mp there y hy
   rw [hf] at this
   exact Option.isSome_iff_exists.mp (by simpa using this)
 . have hi : i < js.length := (List.getElem?_eq_some_iff.mp e).1
   have hx : NB[i]? = some (NB[i]'(by omega)) := List.getElem?_eq_getElem (by omega)
   have hz : (js.zip NB)[i]? = some (some j, NB[i]'(by omega)) := by rw [List.getElem?_zip_eq_some]; exact ⟨e, hx⟩
   have := List.all_eq_true.mp outer _ (List.mem_of_getElem? hz)
   dsimp only at this
   simp only [Bool.and_eq_true, Bool.or_eq_true, beq_iff_eq] at this
   obtain ⟨⟨h1, h2⟩, h3⟩ := this
   refine ⟨_,hx, h1, any_free.mp h2, ?_,?_⟩
   . rcases h3 with h3 | h3
     . exact .inr (.inl h3)
     . exact .inr (.inr h3)
   . rcases h3 with h3 | h3 <;> rw [h3] <;> decide
 . have := List.all_eq_true.mp inner x (List.mem_of_getElem? e)
   rw [any_free.mpr hm] at this
   simpa using this
theorem mem_closOf {scope : Scope} {env : Env} {x : Str} {c : Addr} (ht : ∀ y ∈ scope.names, y.2 = .free -> ∃ c, env.cells.lookup y.1 = some c) (h : (closOf scope env).lookup x = some c) : env.cells.lookup x = some c /\ (x, NameKind.free) ∈ scope.names := by
 have m := PySem.mem_of_lookup h
 unfold closOf at m
 obtain ⟨y, hy, e⟩ := List.mem_map.mp m
 have hy' := List.mem_filter.mp (List.mem_reverse.mp hy)
 obtain ⟨n, k⟩ := y
 have hk : k = .free := by simpa using hy'.2
 subst hk
 obtain ⟨c', ec⟩ := ht _ hy'.1 rfl
 have e1 : n = x := congrArg Prod.fst e
 have e2 : (env.cells.lookup n).getD 0 = c := congrArg Prod.snd e
 subst e1
 have ec' : env.cells.lookup n = some c' := ec
 rw [ec'] at e2
 have e3 : c' = c := e2
 subst e3
 exact ⟨ec', hy'.1⟩
theorem lookup_of_mem {β : Type} {x : Str} : ∀ {l : List (Str × β)} {b : β}, (x, b) ∈ l -> ∃ c, l.lookup x = some c
 | (n, b') :: r, b, h => by
  rw [List.lookup_cons]
  cases e : x == n with
  | true => exact ⟨b', rfl⟩
  | false =>
   rcases List.mem_cons.mp h with q | q
   . have : x = n := congrArg Prod.fst q
     subst this
     simp at e
   . exact lookup_of_mem q
theorem closOf_has {scope : Scope} {env : Env} {x : Str} (h : (x, NameKind.free) ∈ scope.names) : ∃ c, (closOf scope env).lookup x = some c := by
 refine lookup_of_mem (b := (env.cells.lookup x).getD 0) ?_
 unfold closOf
 exact List.mem_map.mpr ⟨(x, NameKind.free), List.mem_reverse.mpr (List.mem_filter.mpr ⟨h, by simp⟩), rfl⟩
theorem relabel_free {scope : Scope} {env : Env} {x : Str} (hc : ∀ y ∈ scope.names, y.2 ≠ .cell) (h : (relabel scope env).names.lookup x = some .cell \/ (relabel scope env).names.lookup x = some .free) : (x, NameKind.free) ∈ scope.names := by
 have key : ∀ k, (relabel scope env).names.lookup x = some k -> k = .cell \/ k = .free -> (x, NameKind.free) ∈ scope.names := by
  intro k e hk
  have m := PySem.mem_of_lookup e
  unfold relabel at m
  obtain ⟨⟨n, k'⟩, hy, q⟩ := List.mem_map.mp m
  dsimp only at q
  split at q
  . rename_i hcond
    have e1 : n = x := congrArg Prod.fst q
    subst e1
    simp only [Bool.and_eq_true, beq_iff_eq] at hcond
    rw [hcond.1.1] at hy
    exact hy
  . have e1 : n = x := congrArg Prod.fst q
    have e2 : k' = k := congrArg Prod.snd q
    subst e1 e2
    rcases hk with hk | hk
    . subst hk
      exact absurd rfl (hc _ hy)
    . subst hk
      exact hy
 rcases h with h | h
 . exact key _ h (.inl rfl)
 . exact key _ h (.inr rfl)
theorem Un.but {fs ex : List Addr} {H H' : Hp} {h h1 h2 : Heap} {C : Addr} (u : Un fs ex H H' h h1) (hC : h.objs.size <= C) (sb : Heap.SameBut C h1 h2) : Un fs ex H H' h h2 := by
 have ne : ∀ b o, h.get? b = some o -> b ≠ C := fun b o e => Nat.ne_of_lt (Nat.lt_of_lt_of_le (Heap.lt_size e) hC)
 refine ⟨fun b o e n hb hx => (sb.2 b (ne b o e)).trans (u.keep b o e n hb hx), fun b o e n hb hx => ?_,u.free, fun b o e hx => ?_,u.tups, u.frzs, u.tbls⟩
 . obtain ⟨sl, q⟩ := u.slot b o e n hb hx
   exact ⟨sl, (sb.2 b (ne b o e)).trans q⟩
 . obtain ⟨o', q⟩ := u.there b o e hx
   exact ⟨o', (sb.2 b (ne b o e)).trans q⟩
theorem HOk.but {P : Program} {w : World} {H : Hp} {h1 h2 : Heap} {C : Addr} (ok : HOk P w H h1) (hC : H C = none) (sb : Heap.SameBut C h1 h2) : HOk P w H h2 := fun b ob e => by
 refine (ok b ob e).stay (fun c w' hc q => (sb.2 c ?_).trans q) (fun _ q => q) fun _ _ q => q
 rintro rfl
 rcases hc with rfl | hc
 . rw [hC] at e; cases e
 . rw [hC] at hc; cases hc
section
variable {X : Cx} {pins : List (Addr × Obj)} {σ : St} {H : Hp} {s : Shared}
theorem blk_ok {scope : Scope} {NB : List Str} {js : List (Option Nat)} {C : Addr} {fp : List Addr} (B : BlkOk X scope NB js) (I : Inv X pins σ H s) (hf : ∀ b ∈ fp, FpOk X pins H b) (hlt : ∀ b ∈ fp, b ≠ C) (hC : s.heap.objs.size <= C) :
    (blk X scope NB C s H fp).Ok := by
 refine ⟨I.mod, B.kind, I.ok.glob, I.ok.blt, hC, fun x y c hx hy => ?_,fun x hx => ?_,fun x c h _ => (nomatch h), I.ok.hd, I.ok.frames, .inl rfl,fun b hb => ⟨hlt b hb, fun x c hx => ?_⟩, I.bs, Nat.le_trans I.ok.bsz I.sz, fun b o e hb => ?_,fun b hb hb2 => ?_,I.stack, I.stkFree⟩
 . exact I.ok.inj x y c (mem_closOf B.there hx).1 (mem_closOf B.there hy).1
 . exact closOf_has (relabel_free B.nocell hx)
 . exact (hf b hb).2.2.2.2.1 x c (mem_closOf B.there hx).1
 . rcases (hf b hb).2.2.2.1 with z | z
   . exact I.ok.noex b o e z
   . exact absurd (Nat.lt_of_lt_of_le (Heap.lt_size e) (Nat.le_trans I.ok.bsz z)) (Nat.lt_irrefl _)
 . rcases List.mem_cons.mp (I.stkSub b hb2) with z | z
   . exact (hf b hb).2.1 z
   . exact (hf b hb).2.2.1 z
theorem tau_get {js : List (Option Nat)} {σ : St} {i : Nat} {v : V} (h : (tau js σ)[i]? = some (some v)) : ∃ j, js[i]? = some (some j) /\ σ[j]? = some (some v) := by
 unfold tau at h
 rw [List.getElem?_map] at h
 cases e : js[i]? with
 | none => rw [e] at h; cases h
 | some o =>
  rw [e] at h
  cases o with
  | none => cases h
  | some j =>
   refine ⟨j, rfl,?_⟩
   have h' : (match σ[j]? with | some v => v | none => none) = some v := Option.some.inj h
   cases q : σ[j]? with
   | none => rw [q] at h'; cases h'
   | some u => rw [q] at h'; rw [show u = some v from h']
end
def turnC (g : TG) (tt : TT) (te : TE) (τ : St) (D : Addr) (ys : List V) (N : List V -> Hp -> Prop) (x : V) (H' : Hp) : Prop :=
 g x τ H' fun σ2 H2 => (∀ (k : Nat) (v : V), τ[k]? = some (some v) -> σ2[k]? = some (some v)) /\ tt σ2 H2 fun ok H3 =>
  if ok = true then te σ2 H3 fun v H4 => H4 D = some (.lst ys) /\ ys.length < sizeLine /\ N (ys ++ [v]) (upd H4 D (.lst (ys ++ [v]))) else N ys H3
def tComp (js : List (Option Nat)) (wi : TI) (g : TG) (tt : TT) (te : TE) : TE := fun σ H Q => wi σ H fun J H1 => ∀ D, H1 D = none -> ∃ W : Nat -> Nat -> List V -> Hp -> Prop, (∃ m, W 0 m [] (upd H1 D (.lst []))) /\
 ∀ i m ys H, W i m ys H -> (J.stop i H /\ Q (.ref D) H) \/ (J.go i H /\ ∃ N : List V -> Hp -> Prop, (∀ ys' H', N ys' H' -> ∃ m', m' < m /\ W (i + 1) m' ys' H') /\ ∀ x H', J.yld i H x H' -> turnC g tt te (tau js σ) D ys N x H')
theorem pe_comp {X : Cx} {elt tg iter : Expr} {ifs : List Expr} {scope : Scope} {pos : Pos} {wi : TI} {g : TG} {tt : TT} {te : TE} {NB : List Str} {js : List (Option Nat)} (hc : X.calm = true) (B : BlkOk X scope NB js) (hi : PI X tg iter wi)
    (hg : ∀ C s₂ H₂ fp, PG (blk X scope NB C s₂ H₂ fp) tg g) (ht : ∀ C s₂ H₂ fp, PF (blk X scope NB C s₂ H₂ fp) ifs tt) (he : ∀ C s₂ H₂ fp, PE (blk X scope NB C s₂ H₂ fp) elt te)
    (hs : ∀ x, foldedSetIterable iter X.env x = pure x := by intro _; rfl) : PE X (.ListComp elt [⟨tg, iter, ifs, 0⟩] scope pos) (tComp js wi g tt te) := by
 intro pins s σ H Q I h
 rw [eval_ListComp]
 refine wpAny_comprehension_free (use := none) rfl hs B.clos B.kind B.locs (thn (hi pins s σ H _ I h) fun v s1 h1 => thn h1 fun itv s2 h2 => ?_)
 obtain ⟨it, fp, tn, J, H2, e, I2, T, st2, f2, hW⟩ := h2
 subst e
 have fresh2 : H2 s2.heap.objs.size = none := I2.hok.fresh (Nat.le_refl _)
 obtain ⟨W, ⟨m0, w0⟩, turn⟩ := hW s2.heap.objs.size fresh2
 refine wpAny_newObj_type (wpAny_newFunctionEnv B.nocell (by intro y hy; simp at hy) (fun h₁ hns₁ hsb₁ => ?_) B.kind)
 dsimp only at hns₁ hsb₁ ⊢
 generalize hH2 : s2.heap.push { cls := .type "list", dict := none, data := .seq ([] : List Value).toArray } = HP at hns₁ hsb₁ ⊢
 have hC : HP.objs.size = s2.heap.objs.size + 1 := by rw [<- hH2, Heap.size_push]
 have hCle : s2.heap.objs.size <= HP.objs.size := by rw [hC]; exact Nat.le_succ _
 have hDC : s2.heap.objs.size ≠ HP.objs.size := by rw [hC]; exact Nat.ne_of_lt (Nat.lt_succ_self _)
 have below : ∀ b, b < s2.heap.objs.size -> b ≠ HP.objs.size := fun b hb => Nat.ne_of_lt (Nat.lt_of_lt_of_le hb hCle)
 have old : ∀ b o, s2.heap.get? b = some o -> h₁.get? b = some o := fun b o e => hsb₁.extBut b o (below b (Heap.lt_size e)) (Heap.get?_push_of_some _ (hH2 ▸ Heap.get?_push_of_some _ e))
 have hacc : h₁.get? s2.heap.objs.size = some { cls := .type "list", dict := none, data := .seq ([] : List Value).toArray } := hsb₁.extBut _ _ hDC (Heap.get?_push_of_some _ (hH2 ▸ Heap.get?_push_size _ rfl))
 have fplt : ∀ b ∈ fp, b < s2.heap.objs.size := fun b hb => by
  obtain ⟨o, ho, _⟩ := T.obj 0 _ st2 b hb
  exact Heap.lt_size ho
 have okY : (blk X scope NB HP.objs.size s2 H2 fp).Ok := blk_ok B I2 f2 (fun b hb => below b (fplt b hb)) hCle
 have lenτ : (tau js σ).length = NB.length := by unfold tau; rw [List.length_map]; exact B.len
 have IY : Inv (blk X scope NB HP.objs.size s2 H2 fp) [] (tau js σ) (upd H2 s2.heap.objs.size (.lst [])) { s2 with heap := h₁, toks := s2.toks + ([] : List (Str × Value)).length } := by
  refine ⟨okY, rfl,I2.bare, Un.laid old (Nat.le_refl _) fresh2, ⟨_,hns₁, fun i x v e1 e2 e3 => ?_⟩, fun x c e => ?_,?_,fun x c e => ?_,fun p hp => absurd (show p ∈ ([] : List (Addr × Obj)) from hp) (by simp), I2.hok.laid old (Nat.le_refl _) ?_,lenτ⟩
  . obtain ⟨j, ej, ev⟩ := tau_get e2
    obtain ⟨x', n1, n2, n3, n4, n5⟩ := B.outer i j ej
    have ex : x' = x := Option.some.inj (n1.symm.trans e1)
    subst ex
    obtain ⟨m, _,hl⟩ := I2.loc
    obtain ⟨u, ru, l⟩ := hl j x' v n2 ev n4
    refine ⟨u, ru, .inr ?_⟩
    have e3' : Vis (relabel scope X.env) x' := e3
    have nl := B.inner i x' e1 n3 e3'
    have kk : (relabel scope X.env).names.lookup x' = some .cell \/ (relabel scope X.env).names.lookup x' = some .free := by
     rcases e3' with z | z | z
     . exact absurd z nl
     . exact .inl z
     . exact .inr z
    refine ⟨kk, ?_⟩
    rcases l with ⟨z, _⟩ | ⟨_,c, ec, cell⟩
    . exact absurd z n5
    . obtain ⟨c', ec'⟩ := closOf_has (env := X.env) n3
      have q := (mem_closOf B.there ec').1
      rw [ec] at q
      cases q
      exact ⟨c, ec', cell.keeps old⟩
  . obtain ⟨v, z⟩ := I2.cell x c (mem_closOf B.there e).1
    exact ⟨v, z.keeps old⟩
  . show upd H2 s2.heap.objs.size (.lst []) HP.objs.size = none
    rw [upd_ne (Ne.symm hDC)]
    exact I2.hok.fresh hCle
  . have ec := (mem_closOf B.there e).1
    obtain ⟨v, o, ho, _⟩ := I2.cell x c ec
    rw [upd_ne (Nat.ne_of_lt (Heap.lt_size ho))]
    exact I2.freeC x c ec
  . exact ⟨by show 0 <= sizeLine; exact Nat.zero_le _,[], 0, .nil, hacc⟩
 have st1 : tn 0 h₁ := T.keep 0 _ _ st2 fun b _ o e => old b o e
 have statY : ∀ {H' : Hp}, (∀ b ∈ fp, H' b = none) -> ∀ b ∈ fp, FpOk (blk X scope NB HP.objs.size s2 H2 fp) [] H' b := fun {H'} hn b hb =>
  ⟨hn b hb, below b (fplt b hb), okY.exfs b hb, .inl hb, (okY.exf b hb).2, fun p hp => absurd (show p ∈ ([] : List (Addr × Obj)) from hp) (by simp)⟩
 have frN : ∀ b ∈ fp, upd H2 s2.heap.objs.size (.lst []) b = none := fun b hb => by
  rw [upd_ne (Nat.ne_of_lt (fplt b hb))]
  exact (f2 b hb).1
 have loop : ∀ s₃ : Shared, s₃ = { s2 with heap := h₁, toks := s2.toks + ([] : List (Str × Value)).length } ->
     codeAny (model X.prog X.w) X.A (.compLoop (.ListComp elt [⟨tg, iter, ifs, 0⟩] scope pos) 0 (.ref it) (.ref s2.heap.objs.size) (compEnvC scope (closOf scope X.env) HP.objs.size X.env))
      (compPost (model X.prog X.w) X.A X.xe none (EP X pins σ Q) (.ref s2.heap.objs.size) HP.objs.size) s₃ := by
  rintro s₃ rfl
  refine compLoop_any (fun n s' => ∃ i ys H', Inv (blk X scope NB HP.objs.size s2 H2 fp) [] (tau js σ) H' s' /\ tn i s'.heap /\ (∀ b ∈ fp, H' b = none) /\ W i n ys H') ?_ m0 ⟨0, [], _,IY, st1, frN, w0⟩
  rintro n s3 ⟨i, ys, H3, I3, st3, fr3, w3⟩
  rcases turn i n ys H3 w3 with ⟨stop, qq⟩ | ⟨go, NN, hNN, step⟩
  . refine thn (T.done (blk X scope NB HP.objs.size s2 H2 fp) rfl rfl rfl hc i [] s3 (tau js σ) H3 (fun _ _ => False) I3 (statY fr3) st3 stop) fun r s4 ⟨hr, I4⟩ => ?_
    subst hr
    obtain ⟨m4, hn4, _⟩ := id I4.loc
    refine ⟨m4, hn4, fun h' sb => ⟨.ref s2.heap.objs.size, H3, ?_,rfl,qq⟩⟩
    have u4 : Un (frs X.stack) fp H2 H3 s2.heap s4.heap := I4.base
    exact I2.call' (s' := { s4 with heap := h' }) I4.os (u4.but hCle sb) (I4.hok.but I4.free sb) I4.bare fun b hb => ⟨(f2 b hb).2.2.2.1, (f2 b hb).2.1, (f2 b hb).2.2.2.2.1, (f2 b hb).2.2.2.2.2⟩
  . refine thn (T.item (blk X scope NB HP.objs.size s2 H2 fp) rfl rfl rfl hc i [] s3 (tau js σ) H3 (fun _ _ => False) I3 (statY fr3) st3 go) fun r s4 ⟨u, hr, h4⟩ => ?_
    subst hr
    refine thn h4 fun _ s5 ⟨x, H5, I5, r5, y5, st5, fr5⟩ => ?_
    have I5' := I5.pinned (statY fr5) (T.obj _ _ st5)
    refine thn (hg _ _ _ _ _ s5 (tau js σ) H5 x u _ I5' r5 (step x H5 y5)) fun _ s6 ⟨σ6, H6, I6, ag, q6⟩ => ?_
    have back : ∀ {s7 : Shared} {H7 : Hp}, Inv (blk X scope NB HP.objs.size s2 H2 fp) ([] ++ pinsAt fp s5.heap) σ6 H7 s7 -> Inv (blk X scope NB HP.objs.size s2 H2 fp) [] (tau js σ) H7 s7 /\ tn (i + 1) s7.heap /\ ∀ b ∈ fp, H7 b = none := fun {s7 H7} I7 => by
     refine ⟨I7.unpinned.weak (lenτ.trans I7.len.symm) ag, T.keep _ _ _ st5 fun b hb o e => (I7.pin (b, o) (List.mem_append_right _ (List.mem_append_right _ (mem_pinsAt hb e)))).1, fun b hb => ?_⟩
     obtain ⟨o, e, d⟩ := T.obj _ _ st5 b hb
     exact (I7.pin (b, o) (List.mem_append_right _ (List.mem_append_right _ (mem_pinsAt hb e)))).2.1
    refine thn (ht _ _ _ _ _ s6 σ6 H6 _ I6 q6) fun ok s7 ⟨H7, I7, q7⟩ => ?_
    cases ok with
    | false =>
     obtain ⟨m', hm, w7⟩ := hNN _ _ q7
     obtain ⟨J1, J2, J3⟩ := back I7
     exact ⟨m', hm, i + 1, ys, H7, J1, J2, J3, w7⟩
    | true =>
     refine thn (he _ _ _ _ _ s7 σ6 H7 _ I7 q7) fun v s8 ⟨y, H8, I8, r8, hD8, hz, n8⟩ => ?_
     obtain ⟨m', hm, w8⟩ := hNN _ _ n8
     refine thn (mt_append _ s8 σ6 H8 (.ref s2.heap.objs.size) [y] (.ref s2.heap.objs.size) [v] (fun z H' => z = .non /\ H' = upd H8 s2.heap.objs.size (.lst (ys ++ [y]))) I8 rfl (.cons r8 .nil) ⟨_,ys, y, rfl,rfl,hD8, hz, ⟨rfl,rfl⟩⟩) fun _ s9 ⟨z, H9, I9, r9, q9⟩ => ?_
     obtain ⟨ez, e9⟩ : z = .non /\ H9 = upd H8 s2.heap.objs.size (.lst (ys ++ [y])) := q9
     subst e9
     obtain ⟨J1, J2, J3⟩ := back I9
     exact ⟨m', hm, i + 1, ys ++ [y], _,J1, J2, J3, w8⟩
 exact codeAny_compStart_list (loop _ rfl) (T.self _ _ _ _ _ st1 (loop _ rfl))
section
variable {g : TG} {tt : TT} {te : TE} {τ : St} {Q : VK} {H1 : Hp} {D : Addr}
theorem comp_range {lo : Int} {n : Nat} (Pv : Nat -> List V -> Hp -> Prop) (h0 : Pv 0 [] (upd H1 D (.lst []))) (hs : ∀ i ys H, i < n -> Pv i ys H -> turnC g tt te τ D ys (Pv (i + 1)) (.int (lo + i)) H) (hd : ∀ ys H, Pv n ys H -> Q (.ref D) H) :
    ∃ W : Nat -> Nat -> List V -> Hp -> Prop, (∃ m, W 0 m [] (upd H1 D (.lst []))) /\ ∀ i m ys H, W i m ys H -> ((Itr lo n).stop i H /\ Q (.ref D) H) \/ ((Itr lo n).go i H /\ ∃ N : List V -> Hp -> Prop, (∀ ys' H', N ys' H' -> ∃ m', m' < m /\ W (i + 1) m' ys' H') /\ ∀ x H', (Itr lo n).yld i H x H' -> turnC g tt te τ D ys N x H') := by
 refine ⟨fun i m ys H => m = n - i /\ i <= n /\ Pv i ys H, ⟨n, by simp, Nat.zero_le _,h0⟩, ?_⟩
 rintro i m ys H ⟨rfl,hi, p⟩
 by_cases hlt : i < n
 . refine .inr ⟨hlt, Pv (i + 1), fun ys' H' p' => ⟨n - (i + 1), by omega, rfl,hlt, p'⟩, fun x H' y => ?_⟩
   obtain ⟨e, y⟩ := y
   subst e y
   exact hs i ys _ hlt p
 . have e : i = n := by omega
   subst e
   exact .inl ⟨Nat.le_refl _,hd ys H p⟩
theorem comp_list {K : PySem.W.Frag} {a : Addr} {xs : List V} (Pv : Nat -> List V -> Hp -> Prop) (h0 : Pv 0 [] (upd H1 D (.lst []))) (hl : ∀ i ys H, i <= xs.length -> Pv i ys H -> SqL K H a xs)
    (hs : ∀ i ys x H, xs[i]? = some x -> Pv i ys H -> turnC g tt te τ D ys (Pv (i + 1)) x H) (hd : ∀ ys H, Pv xs.length ys H -> Q (.ref D) H) :
    ∃ W : Nat -> Nat -> List V -> Hp -> Prop, (∃ m, W 0 m [] (upd H1 D (.lst []))) /\ ∀ i m ys H, W i m ys H -> ((Itl K a).stop i H /\ Q (.ref D) H) \/ ((Itl K a).go i H /\ ∃ N : List V -> Hp -> Prop, (∀ ys' H', N ys' H' -> ∃ m', m' < m /\ W (i + 1) m' ys' H') /\ ∀ x H', (Itl K a).yld i H x H' -> turnC g tt te τ D ys N x H') := by
 refine ⟨fun i m ys H => m = xs.length - i /\ i <= xs.length /\ Pv i ys H, ⟨xs.length, by simp, Nat.zero_le _,h0⟩, ?_⟩
 rintro i m ys H ⟨rfl,hi, p⟩
 have q := hl i ys H hi p
 by_cases hlt : i < xs.length
 . refine .inr ⟨⟨xs, xs[i], q, by simp [hlt]⟩, Pv (i + 1), fun ys' H' p' => ⟨xs.length - (i + 1), by omega, rfl,hlt, p'⟩, fun x H' y => ?_⟩
   obtain ⟨e, y⟩ := y
   subst e
   exact hs i ys x _ (y xs q) p
 . have e : i = xs.length := by omega
   subst e
   exact .inl ⟨⟨xs, q, Nat.le_refl _⟩, hd ys H p⟩
theorem comp_tup {K : PySem.W.Frag} {a : Addr} {xs : List V} (Pv : Nat -> List V -> Hp -> Prop) (h0 : Pv 0 [] (upd H1 D (.lst []))) (hl : ∀ i ys H, i <= xs.length -> Pv i ys H -> SqT K H a xs)
    (hs : ∀ i ys x H, xs[i]? = some x -> Pv i ys H -> turnC g tt te τ D ys (Pv (i + 1)) x H) (hd : ∀ ys H, Pv xs.length ys H -> Q (.ref D) H) :
    ∃ W : Nat -> Nat -> List V -> Hp -> Prop, (∃ m, W 0 m [] (upd H1 D (.lst []))) /\ ∀ i m ys H, W i m ys H -> ((Itt K a).stop i H /\ Q (.ref D) H) \/ ((Itt K a).go i H /\ ∃ N : List V -> Hp -> Prop, (∀ ys' H', N ys' H' -> ∃ m', m' < m /\ W (i + 1) m' ys' H') /\ ∀ x H', (Itt K a).yld i H x H' -> turnC g tt te τ D ys N x H') := by
 refine ⟨fun i m ys H => m = xs.length - i /\ i <= xs.length /\ Pv i ys H, ⟨xs.length, by simp, Nat.zero_le _,h0⟩, ?_⟩
 rintro i m ys H ⟨rfl,hi, p⟩
 have q := hl i ys H hi p
 by_cases hlt : i < xs.length
 . refine .inr ⟨⟨xs, xs[i], q, by simp [hlt]⟩, Pv (i + 1), fun ys' H' p' => ⟨xs.length - (i + 1), by omega, rfl,hlt, p'⟩, fun x H' y => ?_⟩
   obtain ⟨e, y⟩ := y
   subst e
   exact hs i ys x _ (y xs q) p
 . have e : i = xs.length := by omega
   subst e
   exact .inl ⟨⟨xs, q, Nat.le_refl _⟩, hd ys H p⟩
end
end L2
set_option Elab.async false
set_option linter.all false
set_option maxRecDepth 100000
namespace BE
open PySem PySem.Spec PyProof.Rows
open AutoSeq1 (wpAny_loadPart')
section
variable {prog : Program} {w : World} {A : Around} {E : Value -> Shared -> Prop} {s : Shared}
theorem nextOf_tup {it t : Addr} {i : Nat} {items : Array Value} {x : Value} {Q : Value -> Shared -> Prop} (st : s.heap.IsTupleIter it t i) (ht : s.heap.IsTuple t items) (hx : items[i]? = some x)
    (hQ : ∀ h', h'.IsTupleIter it t (i + 1) -> Heap.SameBut it s.heap h' -> Q x { s with heap := h' }) : wpAny (model prog w) A (Builtin.SmallTypes.nextOf (.ref it)) Q E s := by
 obtain ⟨ob, hob, hcl, hda⟩ := id st
 obtain ⟨ot, hot, _,nt, hdt⟩ := ht
 unfold Builtin.SmallTypes.nextOf
 refine wpAny_bind (wpAny_callSpecial?_slot (name := Str.ofString "__next__") st.typeIs F.slot_tuple_iterator_next (wpAny_call_entry F.slot_tuple_iterator_next st.typeIs F.entry_tuple_iterator_next ?_ (F.args_tuple_iterator_next_1 _)))
 show wpAny _ _ (field (.ref it) 0 >>= _) _ _ s
 refine wpAny_bind (wpAny_field hob hda (x := .ref t) rfl ?_)
 show wpAny _ _ (if (Value.ref t == Value.none) = true then _ else _) _ _ s
 rw [if_neg (show ¬ ((Value.ref t == Value.none) = true) from Bool.false_ne_true)]
 show wpAny _ _ (field (.ref it) 1 >>= _) _ _ s
 refine wpAny_bind (wpAny_field hob hda (x := .int i 0) rfl ?_)
 show wpAny _ _ (seqItems? (.ref t) >>= _) _ _ s
 refine wpAny_bind (wpAny_seqItems hot hdt ?_)
 simp only [Int.toNat_natCast, hx]
 refine wpAny_bind (wpAny_setField hob hda (by simp) (wpAny_pure ⟨x, rfl,wpAny_pure (hQ _ ?_ (Heap.SameBut.update ..))⟩))
 exact ⟨_,Heap.get?_update_self _ hob (Obj.isFreed_of_fields (Obj.data_mapFields hda _)), (Obj.cls_mapFields ..).trans hcl, by rw [Obj.data_mapFields hda]; simp [rawInt]⟩
theorem nextOf_tup_end {it t : Addr} {i : Nat} {items : Array Value} {Q : Value -> Shared -> Prop} (hh : A.handled = none) (st : s.heap.IsTupleIter it t i) (ht : s.heap.IsTuple t items) (hx : items[i]? = none)
    (hE : ∀ h' e, Heap.ExtBut it s.heap h' -> (∃ o, h'.get? e = some o /\ o.cls = .type "StopIteration") -> E (.ref e) { s with heap := h' }) : wpAny (model prog w) A (Builtin.SmallTypes.nextOf (.ref it)) Q E s := by
 obtain ⟨ob, hob, hcl, hda⟩ := id st
 obtain ⟨ot, hot, _,nt, hdt⟩ := ht
 unfold Builtin.SmallTypes.nextOf
 refine wpAny_bind (wpAny_callSpecial?_slot (name := Str.ofString "__next__") st.typeIs F.slot_tuple_iterator_next (wpAny_call_entry F.slot_tuple_iterator_next st.typeIs F.entry_tuple_iterator_next ?_ (F.args_tuple_iterator_next_1 _)))
 show wpAny _ _ (field (.ref it) 0 >>= _) _ _ s
 refine wpAny_bind (wpAny_field hob hda (x := .ref t) rfl ?_)
 show wpAny _ _ (if (Value.ref t == Value.none) = true then _ else _) _ _ s
 rw [if_neg (show ¬ ((Value.ref t == Value.none) = true) from Bool.false_ne_true)]
 show wpAny _ _ (field (.ref it) 1 >>= _) _ _ s
 refine wpAny_bind (wpAny_field hob hda (x := .int i 0) rfl ?_)
 show wpAny _ _ (seqItems? (.ref t) >>= _) _ _ s
 refine wpAny_bind (wpAny_seqItems hot hdt ?_)
 simp only [Int.toNat_natCast, hx]
 refine wpAny_bind (wpAny_rule (wpAny_bind (wpAny_setField hob hda (by simp) ?_)))
 show wpAny _ _ (newExc (.type "StopIteration") [] >>= _) _ _ _
 refine wpAny_bind ?_
 simp only [newExc, newTuple]
 refine wpAny_bind (wpAny_newObj_type ?_ (by size_fits))
 refine wpAny_bind (m := firstArgMember _ _) (wpAny_of_eq (a := Value.none) (by first | rfl | (simp only [firstArgMember]; rfl)) ?_)
 refine wpAny_newObj_type ?_ (by size_fits)
 simp only [raiseNew]
 refine wpAny_bind (wpAny_handled ?_)
 first | rw [show A.in1.handled = none from hh] | rw [hh]
 refine wpAny_bind (wpAny_pure (wpAny_throw ?_))
 exact hE _ _ (((Heap.SameBut.update ..).extBut.push _).push _) ⟨_,Heap.get?_push_size _ rfl,rfl⟩
end
theorem drawsTup {prog : Program} {w : World} {A : Around} (hh : A.handled = none) (it l : Addr) (hne : l ≠ it) (items : Array Value) :
    Draws prog w A it [it, l] items.size (fun i v => items[i]? = some v) (fun i h => h.IsTupleIter it l i /\ h.IsTuple l items) where
 live := fun _ _ st => let ⟨o, ho, _⟩ := st.1; ⟨o, ho⟩
 frame := fun _ _ _ st hk => ⟨st.1.at fun o e => hk it (by simp) o e, let ⟨o, ho, r⟩ := st.2; ⟨o, hk l (by simp) o ho, r⟩⟩
 item := fun i s Q E hi st hQ => by
  refine nextOf_tup st.1 st.2 (x := items[i]) (by simp [hi]) fun h' st' sb => ?_
  exact hQ _ h' s.toks (by simp [hi]) ⟨st', st.2.extBut sb.extBut hne⟩ sb
 done := fun s Q E st hE => nextOf_tup_end hh st.1 st.2 (by simp) hE
theorem enum_new_tup (l : Addr) (items : Array Value) (n : Nat) (dct : Option Addr) (sl : Array (Option Value)) :
    Meets (Builtin.«enumerate.__new__» ⟨[.type "enumerate", .ref l], []⟩) (fun _ R s => s.heap.get? l = some { cls := .type "tuple", dict := dct, data := .seq items n, slots := sl } /\
     R (.ok (.ret (.ref (s.heap.push { cls := .type "tuple_iterator", data := .fields #[.ref l, .int 0 0] }).objs.size)))
      { s with heap := (s.heap.push { cls := .type "tuple_iterator", data := .fields #[.ref l, .int 0 0] }).push { cls := .type "enumerate", data := .fields #[.none, .bool false, .ref s.heap.objs.size, rawInt 0, .none, .none] } }) :=
 .of_wp fun prog w A R s h => by
  obtain ⟨hp, g, d, tk, os⟩ := s; obtain ⟨hl, h⟩ := h
  have hsub := sub_enumerate
  have hL : Heap.IsTuple (Shared.heap ⟨hp, g, d, tk, os⟩) l items := ⟨_,hl, rfl,n, rfl⟩
  wp_walk using wpAny_loadPart' hl
  refine wpAny_stack_any fun st => wpAny_pure ?_
  split
  . rename_i c _ _ _ _ _
    cases (c == Value.type "enumerate")
    . wp_walk using wpAny_loadPart' hl, wpAny_pyIter_tuple hL
      exact ⟨_,rfl,h⟩
    . wp_walk using wpAny_loadPart' hl, wpAny_pyIter_tuple hL
      exact ⟨_,rfl,h⟩
  . wp_walk using wpAny_loadPart' hl, wpAny_pyIter_tuple hL
    exact ⟨_,rfl,h⟩
section
variable {prog : Program} {w : World} {A : Around} {E : Value -> Shared -> Prop} {s : Shared}
theorem call_enum_tup {l : Addr} {items : Array Value} {Q : Value -> Shared -> Prop} (hL : s.heap.IsTuple l items)
    (h : ∀ h', IsEnum h' (s.heap.objs.size + 1) s.heap.objs.size 0 .none -> h'.IsTupleIter s.heap.objs.size l 0 -> h'.objs.size = s.heap.objs.size + 2 ->
     (∀ b o, s.heap.get? b = some o -> h'.get? b = some o) -> Q (.ref (s.heap.objs.size + 1)) { s with heap := h' }) :
    wpAny (model prog w) A (call (.type "enumerate") [.ref l]) Q E s := by
 obtain ⟨⟨c, dct, dt, sl⟩, hl, hc, n, hd⟩ := hL
 replace hc : c = .type "tuple" := hc
 replace hd : dt = .seq items n := hd
 subst hc hd
 refine callType_new F.called_enumerate (by decide) (F.typeCall_enumerate_1 _) (F.newCall_enumerate_1 _) (fun obj => F.args_object_init_2 obj _) F.entry_enumerate_new (enum_new_tup l items n dct sl) ⟨hl, ?_⟩
 have hz : (s.heap.push { cls := .type "tuple_iterator", data := .fields #[.ref l, .int 0 0] }).objs.size = s.heap.objs.size + 1 := Heap.size_push ..
 show _ /\ _
 rw [hz]
 have he : IsEnum ((s.heap.push { cls := .type "tuple_iterator", data := .fields #[.ref l, .int 0 0] }).push
     { cls := .type "enumerate", data := .fields #[.none, .bool false, .ref s.heap.objs.size, rawInt 0, .none, .none] }) (s.heap.objs.size + 1) s.heap.objs.size 0 .none := by
  have q := Heap.get?_push_size (s.heap.push { cls := .type "tuple_iterator", data := .fields #[.ref l, .int 0 0] })
   (o := { cls := .type "enumerate", data := .fields #[.none, .bool false, .ref s.heap.objs.size, rawInt 0, .none, .none] }) rfl
  rw [hz] at q; exact q
 exact ⟨⟨_,he, rfl⟩, h _ he ⟨_,Heap.get?_push_of_some _ (Heap.get?_push_size _ rfl), rfl,rfl⟩ (by rw [Heap.size_push, hz]) fun b o x => Heap.get?_push_of_some _ (Heap.get?_push_of_some _ x)⟩
end
end BE
namespace L2
open PySem PySem.Spec PyProof.Rows
section
variable {X : Cx} {pins : List (Addr × Obj)} {σ : St} {H : Hp} {s : Shared} {h' : Heap}
theorem Inv.turned2 {t' : Nat} {it e T : Addr} {o : HO} (I : Inv X pins σ H s) (k : ∀ b u, b ≠ it -> b ≠ e -> s.heap.get? b = some u -> h'.get? b = some u) (f1 : FpOk X pins H it) (f2 : FpOk X pins H e) (hp : s.heap.objs.size <= T)
    (new : ObjOk X.prog X.w (upd H T o) h' T o) : Inv X pins σ (upd H T o) { s with heap := h', toks := t' } := by
 have hT : H T = none := I.hok.fresh hp
 have old : ∀ b u, s.heap.get? b = some u -> b ≠ T := fun b u q => Nat.ne_of_lt (Nat.lt_of_lt_of_le (Heap.lt_size q) hp)
 have up : ∀ b u, H b = some u -> upd H T o b = some u := fun b u q => by rw [upd_ne (ne_of_none q hT)]; exact q
 have nit : ∀ b u, H b = some u -> b ≠ it := fun b u q z => by rw [z, f1.1] at q; cases q
 have ne : ∀ b u, H b = some u -> b ≠ e := fun b u q z => by rw [z, f2.1] at q; cases q
 have nin : ∀ b, b ∉ [it, e] -> b ≠ it /\ b ≠ e := fun b hb => ⟨fun z => hb (by simp [z]), fun z => hb (by simp [z])⟩
 refine I.step (g' := s.gens) (d' := s.drawn) (ch := [it, e]) (fun b hb => ?_) (fun b u _ _ hc q _ => k b u (nin b hc).1 (nin b hc).2 q) (fun b u _ _ hc q _ => ⟨u.slots, k b u (nin b hc).1 (nin b hc).2 q⟩) (fun b u hc q n => by rw [upd_ne (old b u q)]; exact n)
  (fun b u hc q => ⟨u, k b u (nin b hc).1 (nin b hc).2 q⟩) (fun b xs q => up b _ q) (fun b u v q => up b _ q) (fun b ps q => ⟨#[], by rw [up b _ q]; simp⟩) (fun m hm => ?_) (fun b u q => ?_) I.bare
 . have hb' : b = it \/ b = e := by simpa using hb
   rcases hb' with rfl | rfl
   . exact ⟨f1.2.2.2.1, f1.2.1, f1.2.2.2.2.1, f1.2.2.2.2.2⟩
   . exact ⟨f2.2.2.2.1, f2.2.1, f2.2.2.2.2.1, f2.2.2.2.2.2⟩
 . obtain ⟨u, es, ep, hu, r⟩ := hm
   exact ⟨u, es, ep, k _ u (Ne.symm f1.2.1) (Ne.symm f2.2.1) hu, r⟩
 . by_cases z : b = T
   . subst z
     rw [upd_same] at q
     cases q
     exact new
   . rw [upd_ne z] at q
     refine (I.hok b u q).stay (fun c v hc r => k c v ?_ ?_ r) (fun c r => up c _ r) fun c xs r => up c _ r
     . rcases hc with hc | hc
       . rw [hc]; exact nit b u q
       . exact nit c _ hc
     . rcases hc with hc | hc
       . rw [hc]; exact ne b u q
       . exact ne c _ hc
end
def Ite (K : PySem.W.Frag) (a : Addr) : It :=
 ⟨fun i H => ∃ xs x, SqT K H a xs /\ xs[i]? = some x, fun i H x H' => ∃ p v, H p = none /\ x = .ref p /\ H' = upd H p (.tup [.int i, v]) /\ ∀ xs, SqT K H a xs -> xs[i]? = some v, fun i H => ∃ xs, SqT K H a xs /\ xs.length <= i⟩
def ItL (K : PySem.W.Frag) (a : Addr) : It :=
 ⟨fun i H => ∃ xs x, SqL K H a xs /\ xs[i]? = some x, fun i H x H' => ∃ p v, H p = none /\ x = .ref p /\ H' = upd H p (.tup [.int i, v]) /\ ∀ xs, SqL K H a xs -> xs[i]? = some v, fun i H => ∃ xs, SqL K H a xs /\ xs.length <= i⟩
theorem tup2_ok {P : Program} {w : World} {H : Hp} {h : Heap} {T : Addr} {i : Nat} {t : Tok} {v : V} {u : Value} (ht : h.get? T = some { cls := .type "tuple", data := .seq #[.int i t, u] }) (r : RelV v u) : ObjOk P w H h T (.tup [.int i, v]) :=
 ⟨by show 2 <= sizeLine; decide, [.int i t, u], .cons ⟨t, rfl⟩ (.cons r .nil), ⟨_,ht, rfl,rfl,_,rfl⟩⟩
theorem turn_enumT {P : Program} {w : World} {K : PySem.W.Frag} {es : List Expr} {ek : Nat} {pos : Pos} (a it e : Addr) (hei : e ≠ it) : Turn P w K (.Tuple es ek pos) (Ite K a) [it, e] e (fun i h => (∃ old, IsEnum h e it i old) /\ h.IsTupleIter it a i) where
 mem := by simp
 obj := fun i h st b hb => by
  obtain ⟨⟨old, he⟩, o, ho, hc, hd⟩ := st
  have hb' : b = it \/ b = e := by simpa using hb
  rcases hb' with rfl | rfl
  . exact ⟨o, ho, fun v z => by rw [hd] at z; cases z⟩
  . exact ⟨_,he, fun v z => by
      have z' : Data.fields _ = Data.cell v := z
      cases z'⟩
 keep := fun i h h' st k => by
  obtain ⟨⟨old, he⟩, st⟩ := st
  exact ⟨⟨old, k e (by simp) _ he⟩, st.at fun o q => k it (by simp) o q⟩
 item := by
  intro X hP hw hK hc i pins s σ H E I hf st hg
  subst hP hw hK
  obtain ⟨⟨old, he⟩, st⟩ := st
  obtain ⟨xs, x, hq, hx⟩ := hg
  obtain ⟨its, rv, p, hz⟩ := I.tuple hq
  obtain ⟨u, hu, ru⟩ := rv.get hx
  have f1 := hf it (by simp)
  have f2 := hf e (by simp)
  have p' : s.heap.IsTuple a its.toArray := p
  have ha : a ≠ it := fun z => by
   obtain ⟨o, ho, hcl, _⟩ := st
   obtain ⟨o', ho', hcl', _⟩ := p'
   rw [z, ho] at ho'; cases ho'; rw [hcl] at hcl'; exact absurd (Value.type.inj hcl') (by decide)
  have hae : e ∉ [it, a] := fun z => by
   have z' : e = it \/ e = a := by simpa using z
   rcases z' with z' | z'
   . exact hei z'
   . obtain ⟨o', ho', hcl', _⟩ := p'
     rw [<- z', he] at ho'; cases ho'; exact absurd (Value.type.inj hcl') (by decide)
  have hlt : i < its.toArray.size := by
   have := (List.getElem?_eq_some_iff.mp hu).1
   simpa using this
  refine wpAny_pyNext_enum_itemD (BE.drawsTup (A := X.A.in1) (I.ok.hd hc) it a ha its.toArray) he ⟨st, p'⟩ hlt hei hae fun y h1 tk hy ho st1 hT hsz hk => ?_
  have ey : y = u := by
   have hy' : its.toArray[i]? = some y := hy
   rw [List.getElem?_toArray] at hy'
   rw [hu] at hy'; cases hy'; rfl
  subst ey
  refine ⟨_,rfl,wpAny_letOwnedTupleGo_enum ho fun h2 he2 sb2 => ?_⟩
  have neT : s.heap.objs.size ≠ e := Nat.ne_of_gt (Heap.lt_size he)
  have hT2 : h2.get? s.heap.objs.size = some { cls := .type "tuple", data := .seq #[.int i tk, y] } := (sb2.2 _ neT).trans hT
  have fr : H s.heap.objs.size = none := I.hok.fresh (Nat.le_refl _)
  have I2 : Inv X pins σ (upd H s.heap.objs.size (.tup [.int i, x])) { s with heap := h2, toks := tk + 1 } :=
   I.turned2 (it := it) (e := e) (fun b q h1' h2' r => (sb2.2 b h2').trans (hk b q h2' h1' r)) f1 f2 (Nat.le_refl _) (tup2_ok hT2 ru)
  refine ⟨.ref s.heap.objs.size, _,I2, rfl,⟨_,x, fr, rfl,rfl,fun ys hy => by rw [I.tuple_inj hy hq]; exact hx⟩, ⟨⟨y, ?_⟩, ?_⟩, fun b hb => ?_⟩
  . have := he2
    rw [show ((i + 1 : Nat) : Int) = (i : Int) + 1 from by omega]
    exact this
  . exact st1.1.at fun o q => (sb2.2 it (Ne.symm hei)).trans q
  . have hn := (hf b hb).1
    have hb' : b ≠ s.heap.objs.size := fun z => by
     have hlt' : b < s.heap.objs.size := by
      have hb2 : b = it \/ b = e := by simpa using hb
      rcases hb2 with rfl | rfl
      . obtain ⟨o, ho, _⟩ := st; exact Heap.lt_size ho
      . exact Heap.lt_size he
     exact absurd z (Nat.ne_of_lt hlt')
    rw [upd_ne hb']
    exact hn
 done := by
  intro X hP hw hK hc i pins s σ H E I hf st hg
  subst hP hw hK
  obtain ⟨⟨old, he⟩, st⟩ := st
  obtain ⟨xs, hq, hx⟩ := hg
  obtain ⟨its, rv, p, hz⟩ := I.tuple hq
  have f1 := hf it (by simp)
  have p' : s.heap.IsTuple a its.toArray := p
  have hT : s.TypeIs (.ref e) "enumerate" := ⟨_,he, rfl⟩
  unfold pyNext
  refine wpAny_bind (wpAny_attempt (wpAny_callSpecial?_slot (name := Str.ofString "__next__") hT F.slot_enumerate_next (wpAny_call_entry F.slot_enumerate_next hT F.entry_enumerate_next ?_ (F.args_enumerate_next_1 _))))
  show wpAny _ _ (field (.ref e) 2 >>= _) _ _ _
  refine wpAny_bind (wpAny_field he rfl (x := .ref it) rfl ?_)
  refine wpAny_bind (BE.nextOf_tup_end (A := X.A.in1) (I.ok.hd hc) st p' (by simp; have := rv.length; omega) fun h1 ex hb hx' => ?_)
  obtain ⟨o, ho, hcl⟩ := hx'
  refine wpAny_bind (wpAny_isInstance (T := "StopIteration") (b := true) ⟨o, ho, hcl⟩ isSubtype_stop ?_)
  exact wpAny_pure ⟨rfl,I.turned (t' := s.toks) (fun b q hb' r => hb b q hb' r) f1.1 f1.2.1 f1.2.2.2.1 f1.2.2.2.2.1 f1.2.2.2.2.2⟩
 self := fun _ _ _ _ _ st h => let ⟨⟨_,he⟩, _⟩ := st; wpAny_pyIter_enum he h
section
variable {X : Cx} {es : List Expr} {ek : Nat} {tpos : Pos}
def iEnumT (K : PySem.W.Frag) (ta : TA) : TI := fun σ H R => ta σ H fun vs H1 => ∃ a xs, vs = [.ref a] /\ SqT K H1 a xs /\ R (Ite K a) H1
theorem pi_enumT {x : Expr} {ta : TA} {p pos : Pos} (hg : Gl X "enumerate") (hm : X.mg "enumerate" = none) (ha : PA X [x] ta) (hs : starEach [x] X.env = [(false, eval x X.env)] := by rfl) :
    PI X (.Tuple es ek tpos) (.Call (.Name "enumerate" p) [x] [] pos) (iEnumT X.K ta) := by
 intro pins s σ H R I h
 refine Call_ (ld_blt I hg hm boot_enumerate (PyProof.Rows.callWith_type1 (thn (ha pos pins s σ H _ I h) fun us s1 ⟨vs, H1, I1, r1, q1⟩ => ?_) hs rfl))
 obtain ⟨a, xs, e, hq, q⟩ := q1
 subst e
 cases r1 with
 | cons r rr =>
  cases rr
  cases r
  obtain ⟨its, rv, pt, hz⟩ := I1.tuple hq
  refine BE.call_enum_tup (show s1.heap.IsTuple a its.toArray from pt) fun h' he hit hsz hk => ?_
  refine wpAny_pyIter_enum he ?_
  have hne : s1.heap.objs.size + 1 ≠ s1.heap.objs.size := Nat.succ_ne_self _
  refine ⟨s1.heap.objs.size + 1, [s1.heap.objs.size, s1.heap.objs.size + 1], _,_,H1, rfl,I1.kept (t' := s1.toks) hk, turn_enumT a s1.heap.objs.size (s1.heap.objs.size + 1) hne, ⟨⟨_,he⟩, hit⟩, fun b hb => ?_,q⟩
  have hb' : b = s1.heap.objs.size \/ b = s1.heap.objs.size + 1 := by simpa using hb
  rcases hb' with rfl | rfl
  . exact I1.fpOk (Nat.le_refl _) (I1.hok.fresh (Nat.le_refl _))
  . exact I1.fpOk (Nat.le_succ _) (I1.hok.fresh (Nat.le_succ _))
end
theorem for_enumT {K : PySem.W.Frag} {a : Addr} {xs : List V} {g : TG} {tb : TS} {D : Ends} {σ : St} {H : Hp} (Pv : Nat -> St -> Hp -> Prop) (h0 : Pv 0 σ H) (hl : ∀ i σ H, i <= xs.length -> Pv i σ H -> SqT K H a xs)
    (hs : ∀ i v p σ H, xs[i]? = some v -> H p = none -> Pv i σ H -> g (.ref p) σ (upd H p (.tup [.int i, v])) fun σ2 H2 => tb { D with nx := Pv (i + 1), ct := Pv (i + 1), bk := D.nx } σ2 H2) (hd : ∀ σ H, Pv xs.length σ H -> D.nx σ H) :
    ∃ W : Nat -> Nat -> St -> Hp -> Prop, (∃ m, W 0 m σ H) /\ ∀ i m σ H, W i m σ H ->
     ((Ite K a).stop i H /\ D.nx σ H) \/ ((Ite K a).go i H /\ ∃ N : St -> Hp -> Prop, (∀ σ' H', N σ' H' -> ∃ m', m' < m /\ W (i + 1) m' σ' H') /\ ∀ x H', (Ite K a).yld i H x H' -> g x σ H' fun σ2 H2 => tb { D with nx := N, ct := N, bk := D.nx } σ2 H2) := by
 refine ⟨fun i m σ H => m = xs.length - i /\ i <= xs.length /\ Pv i σ H, ⟨xs.length, by simp, Nat.zero_le _,h0⟩, ?_⟩
 rintro i m σ H ⟨rfl,hi, p⟩
 have q := hl i σ H hi p
 by_cases hlt : i < xs.length
 . refine .inr ⟨⟨xs, xs[i], q, by simp [hlt]⟩, Pv (i + 1), fun σ' H' p' => ⟨xs.length - (i + 1), by omega, rfl,hlt, p'⟩, fun x H' y => ?_⟩
   obtain ⟨b, v, hb, e1, e2, y⟩ := y
   subst e1 e2
   exact hs i v b σ _ (y xs q) hb p
 . have e : i = xs.length := by omega
   subst e
   exact .inl ⟨⟨xs, q, Nat.le_refl _⟩, hd σ H p⟩
end L2
set_option Elab.async false
set_option linter.all false
set_option maxRecDepth 100000
namespace L2
open PySem PySem.Spec PyProof.Rows
section
variable {prog : Program} {w : World} {A : Around} {E : Value -> Shared -> Prop} {s : Shared}
theorem catAny {t b : Addr} {vs ws : List Value} {Q : Value -> Shared -> Prop} (ht : IsTup s.heap t vs.toArray) (hb : IsTup s.heap b ws.toArray) (h0 : vs = [] -> Q (.ref b) s) (h1 : ws = [] -> Q (.ref t) s)
    (h2 : Q (.ref s.heap.objs.size) { s with heap := s.heap.push { cls := .type "tuple", data := .seq (vs ++ ws).toArray } }) (hsz : vs.length + ws.length <= sizeLine) : wpAny (model prog w) A (binaryOp .Add (.ref t) (.ref b)) Q E s := by
 by_cases hv : vs = []
 . obtain ⟨⟨c1, d1, a1, l1⟩, o1, k1, n1, q1⟩ := id ht
   obtain ⟨⟨c2, d2, a2, l2⟩, o2, k2, n2, q2⟩ := id hb
   simp only at k1 q1 k2 q2
   subst k1 q1 k2 q2
   exact concat_meets ⟨_,o1, rfl⟩ ⟨_,o2, rfl⟩ noFill_tuple_add seq_tuple_add PySem.F.slot_tuple_add PySem.F.entry_tuple_add (PySem.F.args_tuple_add_2 _ _) (tuple_addW0 t b vs.toArray ws.toArray n1 n2 d1 d2 l1 l2 (by simp [hv])) ⟨o1, o2, h0 hv⟩
 . exact HT.cat_tup ht hb hv h1 (fun _ => h2) hsz
end
def rCatA : R2 := fun x y H Q => ∃ a b xs ys, x = .ref a /\ y = .ref b /\ H a = some (.tup xs) /\ H b = some (.tup ys) /\ xs.length + ys.length <= sizeLine /\ ∀ p H', Same H H' -> H' p = some (.tup (xs ++ ys)) -> Q (.ref p) H'
section
variable {X : Cx}
theorem op_catA : OpR X (binaryOp .Add) rCatA := by
 intro pins s σ H x y v u Q I rx ry h
 obtain ⟨a, b, xs, ys, rfl,rfl,ha, hb, hz, q⟩ := h
 cases rx
 cases ry
 obtain ⟨i1, r1, p1, _⟩ := I.tuple (SqT.of ha)
 obtain ⟨i2, r2, p2, _⟩ := I.tuple (SqT.of hb)
 refine catAny p1 p2 (fun z => ⟨.ref b, H, I, rfl,q b H (Same.refl H) ?_⟩) (fun z => ⟨.ref a, H, I, rfl,q a H (Same.refl H) ?_⟩) ?_ (by rw [<- r1.length, <- r2.length]; exact hz)
 . rw [r1.nil_iff.mp z]; exact hb
 . rw [r2.nil_iff.mp z, List.append_nil]; exact ha
 . have fr : H s.heap.objs.size = none := I.hok.fresh (Nat.le_refl _)
   refine ⟨.ref s.heap.objs.size, _,I.laid (t' := s.toks) (o := .tup (xs ++ ys)) (fun b ob q => Heap.get?_push_of_some _ q) (Nat.le_refl _) ?_,rfl,q _ _ (same_new fr _) upd_same⟩
   exact ⟨by rw [List.length_append]; exact hz, _,r1.append r2, TupP.new _ _⟩
def rAll : List V -> Hp -> VK -> Prop := fun vs H Q => ∃ (a : Addr) (bs : List Bool), vs = [.ref a] /\ H a = some (.lst (bs.map V.bl)) /\ Q (.bl (bs.all id)) H
theorem bools_of : ∀ {bs : List Bool} {us : List Value}, Vals (bs.map V.bl) us -> us = bs.map Value.bool
 | [], _,.nil => rfl
 | b :: r, _,.cons q t => by rw [show _ = Value.bool b from q, bools_of t]; rfl
theorem range_all (bs : List Bool) : (List.range bs.length).all (fun i => bs.getD i false) = bs.all id := by
 rw [Bool.eq_iff_iff, List.all_eq_true, List.all_eq_true]
 constructor
 . intro h b hb
   obtain ⟨i, hi, e⟩ := List.getElem_of_mem hb
   have := h i (List.mem_range.mpr hi)
   rw [List.getD_eq_getElem?_getD, List.getElem?_eq_getElem hi] at this
   rw [<- e]; exact this
 . intro h i hi
   have hi' := List.mem_range.mp hi
   rw [List.getD_eq_getElem?_getD, List.getElem?_eq_getElem hi']
   exact h _ (List.getElem_mem hi')
theorem truth_bools {A : Around} (bs : List Bool) : TruthOf X.prog X.w A (fun i v => (bs.map Value.bool).toArray[i]? = some v) (fun i => bs.getD i false) := fun i v s Q E hP hQ => by
 have h2 : (bs.map Value.bool)[i]? = some v := by simpa using hP
 rw [List.getElem?_map] at h2
 cases e : bs[i]? with
 | none => rw [e] at h2; cases h2
 | some b =>
  rw [e] at h2
  cases h2
  refine wpAny_truthy_bool ?_
  have z : bs.getD i false = b := by rw [List.getD_eq_getElem?_getD, e]; rfl
  have hQ' : Q (bs.getD i false) s := hQ
  rw [z] at hQ'
  exact hQ'
theorem call_allL (hc : X.calm = true) : CallR X (.builtin "all") rAll := by
 intro pins s σ H xs us Q I rs h
 obtain ⟨a, bs, rfl,hl, q⟩ := h
 obtain ⟨u, rfl,ru⟩ := vals1 rs
 cases ru
 obtain ⟨its, rv, p, hz⟩ := I.list (SqL.of hl)
 have e := bools_of rv
 subst e
 obtain ⟨oa, hoa, _⟩ := id p.isList
 have hne : a ≠ s.heap.objs.size := Nat.ne_of_lt (Heap.lt_size hoa)
 refine call_all_walk (wpAny_pyIter_list p.isList ?_)
 refine ⟨s.heap.objs.size, _,_,_,_,_,fun i => bs.getD i false, rfl,Walks.list (A := X.A.in1) (I.ok.hd hc) _ a hne (bs.map Value.bool).toArray, ⟨⟨_,Heap.get?_push_size _ rfl,rfl,rfl⟩, p.isList.at fun o r => Heap.get?_push_of_some _ r⟩, truth_bools bs, fun h' tk hk => ?_⟩
 have en : (List.range (bs.map Value.bool).toArray.size).all (fun i => bs.getD i false) = bs.all id := by
  rw [List.size_toArray, List.length_map]; exact range_all bs
 refine ⟨.bl (bs.all id), H, I.kept (t' := tk) fun b o r => hk b o (fun z => ?_) (Heap.get?_push_of_some _ r), (by rw [en]; exact rfl), q⟩
 have z' : b = s.heap.objs.size := by simpa using z
 exact absurd z' (Nat.ne_of_lt (Heap.lt_size r))
end
end L2
set_option Elab.async false
set_option linter.all false
set_option maxRecDepth 100000
namespace L2
open PySem PySem.Spec PyProof.Rows
theorem ObjOk.get {P : Program} {w : World} {H : Hp} {h : Heap} {a : Addr} {o : HO} (x : ObjOk P w H h a o) : ∃ ob, h.get? a = some ob := by
 cases o with
 | lst xs => obtain ⟨_,_,_,_,e⟩ := x; exact ⟨_,e⟩
 | tup xs => obtain ⟨_,_,_,o, e, _⟩ := x; exact ⟨_,e⟩
 | dK kvs => obtain ⟨_,_,_,_,o, _,_,e, _⟩ := x; exact ⟨_,e⟩
 | dT kvs => obtain ⟨_,_,_,_,o, _,_,e, _⟩ := x; exact ⟨_,e⟩
 | set S n => obtain ⟨o, _,_,_,e, _⟩ := x; exact ⟨_,e⟩
 | ins C dx fs => obtain ⟨_,_,_,e, _⟩ := x; exact ⟨_,e⟩
 | own y => exact x
 | xd fs => obtain ⟨_,⟨_,_,_,e, _⟩, _⟩ := x; exact ⟨_,e⟩
 | rng lo hi => obtain ⟨_,_,_,e⟩ := x; exact ⟨_,e⟩
 | frz ob u => obtain ⟨e, _⟩ := x; exact ⟨_,e⟩
 | tbl ps => exact ⟨_,(show h.get? a = some _ from x)⟩
 | met f y => exact ⟨_,(show h.get? a = some _ from x)⟩
 | ext φ => exact x.2.1
structure FlyX (P : Program) (w : World) (outer : List Env) (H : Hp) (s : Shared) (a C t : Addr) (H' : Hp) (B : Heap) (s' : Shared) : Prop where
 os : s'.os = s.os
 bare : AllBare s'.gens
 un : Un (frs outer) [] H H' s.heap s'.heap
 hok : HOk P w H' s'.heap
 fly : Heap.FlyingW B outer a (.ref C) (.ref t) s'.heap
 old : ∀ b o, s.heap.get? b = some o -> b ∉ frs outer -> ∃ ob, B.get? b = some ob
 trk : ∀ b o, H' b = some o -> ∃ ob, B.get? b = some ob
def CXr (P : Program) (w : World) : CXT := fun outer H s E e s' => ∃ (a C t : Addr) (H' : Hp) (B : Heap), e = .ref a /\ FlyX P w outer H s a C t H' B s' /\ E (.ref C) none H'
theorem passN {P : Program} {w : World} {X : Cx} : Passes (CXr P w) X E0 := fun _ _ _ _ _ _ _ h => let ⟨_,_,_,_,_,_,_,z⟩ := h; False.elim z
theorem fly_step {P : Program} {w : World} {outer : List Env} {H H' : Hp} {h0 h1 h2 B : Heap} (un : Un (frs outer) [] H H' h0 h1) (hok : HOk P w H' h1) (b1 : B.StaysIn h1) (b2 : B.StaysIn h2)
    (old : ∀ b o, h0.get? b = some o -> b ∉ frs outer -> ∃ ob, B.get? b = some ob) (trk : ∀ b o, H' b = some o -> ∃ ob, B.get? b = some ob) (frm : ∀ b ∈ frs outer, ∀ o, h1.get? b = some o -> ∃ sl, h2.get? b = some { o with slots := sl }) :
    Un (frs outer) [] H H' h0 h2 /\ HOk P w H' h2 := by
 have on : ∀ b ob o, B.get? b = some ob -> h1.get? b = some o -> h2.get? b = some o := fun b ob o q r => by
  have z := b1 b ob q
  rw [r] at z
  cases z
  exact b2 b _ q
 refine ⟨⟨fun b o e n hb hx => ?_,fun b o e n hb hx => ?_,un.free, fun b o e hx => ?_,un.tups, un.frzs, un.tbls⟩, fun b u e => ?_⟩
 . obtain ⟨ob, q⟩ := old b o e hb
   exact on b ob o q (un.keep b o e n hb hx)
 . obtain ⟨sl, q⟩ := un.slot b o e n hb hx
   obtain ⟨sl', r⟩ := frm b hb _ q
   exact ⟨sl', r⟩
 . by_cases hb : b ∈ frs outer
   . obtain ⟨o', q⟩ := un.there b o e hx
     obtain ⟨sl, r⟩ := frm b hb _ q
     exact ⟨_,r⟩
   . obtain ⟨ob, q⟩ := old b o e hb
     exact ⟨_,b2 b ob q⟩
 . refine (hok b u e).stay (fun c v hc q => ?_) (fun _ q => q) fun _ _ q => q
   rcases hc with hc | hc
   . subst hc
     obtain ⟨ob, r⟩ := trk c u e
     exact on c ob v r q
   . obtain ⟨ob, r⟩ := trk c _ hc
     exact on c ob v r q
section
variable {P : Program} {w : World} {K : PySem.W.Frag} {mg : Str -> Option Value} {base : Heap} {N : List Str} {qual : Str} {scope : Scope} {f : Addr} {cd : Value} {A : Around} {outer : List Env} {s : Shared} {H : Hp} {E : XK}
theorem leave_made {pins : List (Addr × Obj)} {σ : St} {H1 : Hp} {s1 : Shared} {h' : Heap} {a C : Addr} {vs : List Value} (I : Inv (cxOf (CXr P w) P w K mg base N qual scope f cd A outer s H E) pins σ H1 s1) (hx : Heap.MadeExcOf s1.heap h' a (.ref C) vs)
    (hE : E (.ref C) none H1) : (cxOf (CXr P w) P w K mg base N qual scope f cd A outer s H E).xe (.ref a) { s1 with heap := h' } := by
 have fr : ∀ env ∈ (envOfC qual scope s.heap.objs.size f cd :: outer), ∀ b, env.frame = some b -> b ∈ frs (envOfC qual scope s.heap.objs.size f cd :: outer) := fun env he b hb => List.mem_filterMap.mpr ⟨env, he, hb⟩
 have hst : s1.heap.FunFrames base (envOfC qual scope s.heap.objs.size f cd :: outer) := I.stack
 have hout : ∀ b, b ∉ frs outer -> b ≠ s.heap.objs.size -> b ∉ frs (envOfC qual scope s.heap.objs.size f cd :: outer) := fun b h1 h2 z => by
  rcases List.mem_cons.mp (I.stkSub b z) with q | q
  . exact h2 q
  . exact h1 q
 have B1 : (PySem.W.hideAll s1.heap (frs (envOfC qual scope s.heap.objs.size f cd :: outer))).StaysIn s1.heap := fun b o q => PySem.W.of_hideAll _ q
 have bin : ∀ b o, b ∉ frs (envOfC qual scope s.heap.objs.size f cd :: outer) -> s1.heap.get? b = some o -> (PySem.W.hideAll s1.heap (frs (envOfC qual scope s.heap.objs.size f cd :: outer))).get? b = some o := fun b o n q => PySem.W.hideAll_get _ q n
 have old : ∀ b o, s.heap.get? b = some o -> b ∉ frs outer -> ∃ ob, (PySem.W.hideAll s1.heap (frs (envOfC qual scope s.heap.objs.size f cd :: outer))).get? b = some ob := fun b o q n => by
  obtain ⟨o', r⟩ := I.base.there b o q (fun z => nomatch (show b ∈ ([] : List Addr) from z))
  exact ⟨o', bin b o' (hout b n (Nat.ne_of_lt (Heap.lt_size q))) r⟩
 have trk : ∀ b o, H1 b = some o -> ∃ ob, (PySem.W.hideAll s1.heap (frs (envOfC qual scope s.heap.objs.size f cd :: outer))).get? b = some ob := fun b o q => by
  obtain ⟨ob, r⟩ := (I.hok b o q).get
  refine ⟨ob, bin b ob (fun z => ?_) r⟩
  rw [I.stkFree b z] at q
  cases q
 refine wpAny_leaves_madeW (base := PySem.W.hideAll s1.heap (frs (envOfC qual scope s.heap.objs.size f cd :: outer))) (L := s.heap.objs.size) I.ok.frames rfl B1 (PySem.W.funFrames_hide hst fr) hx fun h2 t fl tup tn ups => ?_
 have un1 : Un (frs outer) [] H H1 s.heap s1.heap := I.base
 have frm : ∀ b ∈ frs outer, ∀ o, s1.heap.get? b = some o -> ∃ sl, h2.get? b = some { o with slots := sl } := fun b hb o q => by
  obtain ⟨_,o', r, nf⟩ := I.funs.mem hb
  rw [q] at r
  cases r
  exact ups b o (hx.keeps b o q) nf
 obtain ⟨un2, hok2⟩ := fly_step un1 I.hok B1 fl.1 old trk frm
 exact ⟨a, C, t, H1, _,rfl,⟨I.os, I.bare, un2, hok2, fl, old, trk⟩, hE⟩
theorem passR : Passes (CXr P w) (cxOf (CXr P w) P w K mg base N qual scope f cd A outer s H E) E := by
 intro pins σ H1 s1 e s' I h
 obtain ⟨a, C, t, H', B, rfl,F, hE⟩ := h
 have I' : Inv (cxOf (CXr P w) P w K mg base N qual scope f cd A outer s H E) pins σ H' s' := I.call' F.os F.un F.hok F.bare fun b hb => nomatch hb
 have hout : ∀ b, b ∉ frs outer -> b ≠ s.heap.objs.size -> b ∉ frs (envOfC qual scope s.heap.objs.size f cd :: outer) := fun b h1 h2 z => by
  rcases List.mem_cons.mp (I.stkSub b z) with q | q
  . exact h2 q
  . exact h1 q
 have old : ∀ b o, s.heap.get? b = some o -> b ∉ frs outer -> ∃ ob, B.get? b = some ob := fun b o q n => by
  obtain ⟨o', r⟩ := I.base.there b o q (fun z => nomatch (show b ∈ ([] : List Addr) from z))
  exact F.old b o' r (hout b n (Nat.ne_of_lt (Heap.lt_size q)))
 refine wpAny_leaves_onW (base := B) (L := s.heap.objs.size) I.ok.frames rfl F.fly fun h2 fl ups => ?_
 have un1 : Un (frs outer) [] H H' s.heap s'.heap := I'.base
 have frm : ∀ b ∈ frs outer, ∀ o, s'.heap.get? b = some o -> ∃ sl, h2.get? b = some { o with slots := sl } := fun b hb o q => by
  obtain ⟨_,o', r, nf⟩ := I'.funs.mem hb
  rw [q] at r
  cases r
  exact ups b o q nf
 obtain ⟨un2, hok2⟩ := fly_step un1 I'.hok F.fly.1 fl.1 old F.trk frm
 exact ⟨a, C, t, H', B, rfl,⟨I'.os, I'.bare, un2, hok2, fl, old, F.trk⟩, hE⟩
theorem own_at {K : PySem.W.Frag} {h : Heap} {mg : Str -> Option Value} {x : Str} {C : Addr} {bm : List Value} {newId : String} (X : K.In h) (m : mg x = some (.ref C)) (q : PySem.W.excIn K C bm newId = true) : OwnCls x C bm newId mg h := by
 refine ⟨m, ?_⟩
 unfold PySem.W.excIn at q
 split at q
 . rename_i d1 c1 s1 look
   split at q
   . rename_i C1 b1 e0 e1 e2 e3 n1 e5 mro slots
     simp only [Bool.and_eq_true, beq_iff_eq, Bool.not_eq_true'] at q
     obtain ⟨⟨⟨⟨⟨rfl,rfl⟩, nodel⟩, tail⟩, good⟩, noinit⟩ := q
     obtain ⟨a1, a2, a3, a4, a5, a6, a7, a8, a9, a10, a11⟩ := c1
     dsimp only at mro nodel good noinit
     subst mro nodel
     have es : s1 = #[e0, e1, e2, e3, some (.builtin n1), e5] := by
      obtain ⟨l1⟩ := s1
      simp only at slots
      rw [slots]
     subst es
     exact ⟨b1, a4, a1, a5, a2, a6, a7, a8, a9, a10, d1, e0, e1, e2, e3, e5, _,X _ _ look, .of_isNs (PySem.W.isNs_of_in X good), PySem.W.nsMap_none_of_in X good noinit, PySem.W.tail_of_in X tail⟩
   . cases q
 . cases q
theorem ps_raise {x : Str} {C : Addr} {e0 : Expr} {te : TE} {np cpos pos : Pos} {bm : List Value} {Bn newId initId : String} (hm : mg x = some (.ref C)) (hq : PySem.W.excIn K C bm newId = true) (FB : ExcBaseFacts Bn newId initId bm) (hd : (A.deeper (envOfC qual scope s.heap.objs.size f cd)).handled = none)
    (he : PE (cxOf (CXr P w) P w K mg base N qual scope f cd A outer s H E) e0 te) (hg : Gl (cxOf (CXr P w) P w K mg base N qual scope f cd A outer s H E) x) (hdb : (x == ("__debug__" : Str)) = false := by decide)
    (hs : starEach [e0] (envOfC qual scope s.heap.objs.size f cd) = (false, eval e0 (envOfC qual scope s.heap.objs.size f cd)) :: [] := by rfl) :
    PS (cxOf (CXr P w) P w K mg base N qual scope f cd A outer s H E) (.Raise (some (.Call (.Name x np) [e0] [] cpos)) none pos) (fun _ σ H0 => tCons te tNil σ H0 fun xs H1 => xs.length <= sizeLine /\ E (.ref C) none H1) := by
 intro pins s1 σ H1 D I h
 have O : OwnCls x C bm newId mg base := own_at I.mod.kin hm hq
 obtain ⟨tl, Nn, nm, q, bs, hdct, sn, sub, ab, col, dd, k0, k1, k2, k3, k5, mN, hC, hN, hni, T⟩ := O.obj
 refine wpAny_Raise_call_subT (C := C) (nm := nm) (q := q) (N := Nn) (bs := bs) (bm := tl) (hdct := hdct) (sn := sn) (sub := sub) (ab := ab) (col := col) (dd := dd) (k0 := k0) (k1 := k1) (k2 := k2) (k3 := k3) (k5 := k5)
  FB (mN := mN) (T.hasType FB.hasBase) hd (by show (backTo cpos (starEach [e0] (envOfC qual scope s.heap.objs.size f cd))).any (·.1) = false; rw [hs]; rfl) hni (ld_glob I hg O.bound ⟨rfl,?_⟩ hdb)
 have pa : PA (cxOf (CXr P w) P w K mg base N qual scope f cd A outer s H E) [e0] (tCons te tNil) := pa_cons he pa_nil hs
 have z := pa cpos pins s1 σ H1 (fun xs H2 => xs.length <= sizeLine /\ E (.ref C) none H2) I h
 show wpAny _ _ (evalArgs (.ref C) true (backTo cpos (starEach [e0] (envOfC qual scope s.heap.objs.size f cd))) []) _ _ _
 rw [hs]
 rw [show (cxOf (CXr P w) P w K mg base N qual scope f cd A outer s H E).env = envOfC qual scope s.heap.objs.size f cd from rfl,hs] at z
 refine Calls.evalArgs_plain (wpAny_mono z (fun vs s2 h2 => ?_) fun _ _ y => y)
 obtain ⟨xs, H2, I2, rv, ql, qE⟩ := h2
 have hlen : vs.length <= sizeLine := by rw [<- rv.length]; exact ql
 exact ⟨rfl,hlen, I2.bk _ _ hC, hN.keeps I2.bk, T.keeps I2.bk, fun h' e hm => leave_made I2 hm qE⟩
end
section
variable {P : Program} {w : World} {K : PySem.W.Frag} {mg : Str -> Option Value} {base : Heap}
theorem Fun.okR {x qual : Str} {st : Stmt} {f : Addr} {fd : FuncData} {N ps : List Str} {k : Nat} {sp : Sp} (F : Fun K x qual st f fd) (S : FnScope N ps (defScope st)) (len : ∀ vs H Q E, sp vs H Q E -> vs.length = ps.length)
    (hbody : ∀ (cdv : Value) (A : Around) (outer : List Env) (s : Shared) (H : Hp) (vs : List V) (Q : VK) (E : XK), Room k (A.deeper (envOfC qual (defScope st) s.heap.objs.size f cdv)) -> sp vs H Q E ->
     ∃ t, PSs (cxOf (CXr P w) P w K mg base N qual (defScope st) f cdv A outer s H E) (defBody st) t /\ t { nx := fun _ H' => Q .non H', rt := Q } (start N vs) H) : FnOk P w K mg base (CXr P w) (k + 1) f fd ps sp := by
 obtain ⟨oc, od, kV, doc, pm, an, cdv, ct, osl, rfl,lk, hcd⟩ := F.ex
 refine fn_of lk hcd S len fun A outer s H vs Q E hr hsp => ?_
 obtain ⟨t, h, q⟩ := hbody cdv A outer s H vs Q E hr hsp
 exact ⟨t, h, q⟩
theorem Fun.okN {x qual : Str} {st : Stmt} {f : Addr} {fd : FuncData} {N ps : List Str} {k : Nat} {sp : Sp} (F : Fun K x qual st f fd) (S : FnScope N ps (defScope st)) (len : ∀ vs H Q E, sp vs H Q E -> vs.length = ps.length)
    (hbody : ∀ (cdv : Value) (A : Around) (outer : List Env) (s : Shared) (H : Hp) (vs : List V) (Q : VK) (E : XK), Room k (A.deeper (envOfC qual (defScope st) s.heap.objs.size f cdv)) -> sp vs H Q E ->
     ∃ t, PSs (cxOf (CXr P w) P w K mg base N qual (defScope st) f cdv A outer s H E).nox (defBody st) t /\ t { nx := fun _ H' => Q .non H', rt := Q } (start N vs) H) : FnOk P w K mg base (CXr P w) (k + 1) f fd ps sp :=
 F.okR S len fun cdv A outer s H vs Q E hr h => let ⟨t, ht, q⟩ := hbody cdv A outer s H vs Q E hr h; ⟨t, ht.nox, q⟩
end
end L2
set_option Elab.async false
set_option linter.all false
set_option maxRecDepth 100000
namespace L2
open PySem PySem.Spec PyProof.Rows
theorem bt_len : bootBuiltins "len" = some (.builtin "len") := by decide +kernel
theorem bt_isinstance : bootBuiltins "isinstance" = some (.builtin "isinstance") := by decide +kernel
theorem bt_min : bootBuiltins "min" = some (.builtin "min") := by decide +kernel
theorem bt_max : bootBuiltins "max" = some (.builtin "max") := by decide +kernel
theorem bt_all : bootBuiltins "all" = some (.builtin "all") := by decide +kernel
theorem bt_sorted : bootBuiltins "sorted" = some (.builtin "sorted") := by decide +kernel
theorem bt_int : bootBuiltins "int" = some (.type "int") := by decide +kernel
theorem bt_bool : bootBuiltins "bool" = some (.type "bool") := by decide +kernel
theorem bt_list : bootBuiltins "list" = some (.type "list") := by decide +kernel
theorem bt_tuple : bootBuiltins "tuple" = some (.type "tuple") := by decide +kernel
section
variable {X : Cx} (K : PySem.W.Frag)
theorem b_op_notIn_seq (h : X.K = K := by rfl) : OpR X (compareOp .NotIn) (rIn K true) := h ▸ op_notIn_seq
theorem b_ix_tup (h : X.K = K := by rfl) : IxR X (rIxT K) := h ▸ ix_tup
theorem b_pg_tup {es : List Expr} {k : Nat} {t : TGs} {n : Nat} {pos : Pos} (hc : X.calm = true) (hp : PGs X es t) (hn : (assignEach es X.env).length = n := by rfl) (hst : (assignEach es X.env).findIdx? (·.1) = none := by rfl) (h : X.K = K := by rfl) : PG X (.Tuple es k pos) (gTup K n t) := h ▸ pg_tup hc hp hn hst
end
structure DefAt (K : PySem.W.Frag) (mg : Str -> Option Value) (x : Str) (st : Stmt) (ps : List Str) where
 a : Addr
 d : FuncData
 F : Fun K x x st a d
 b : Binds K d ps []
 m : mg x = some (.ref a)
structure ErrAt (K : PySem.W.Frag) (mg : Str -> Option Value) (x : Str) where
 C : Addr
 m : mg x = some (.ref C)
 q : PySem.W.excIn K C [.type "ValueError", .type "Exception", .type "BaseException", .type "object"] "ValueError.__new__" = true
def Scr (K : PySem.W.Frag) (H : Hp) (a : Addr) (ns : List Int) : Prop :=
 (∃ o, H a = some (.frz o (.lst (ns.map V.int)))) \/
  ∃ (o : Obj) (its : Array Value) (n : Nat), K.lookup a = some o /\ o.cls = .type "list" /\ o.dict = none /\ o.data = .seq its n /\ its.size <= sizeLine /\ Vals (ns.map V.int) its.toList
theorem Scr.sq {K : PySem.W.Frag} {H : Hp} {a : Addr} {ns : List Int} (h : Scr K H a ns) : SqL K H a (ns.map V.int) := h.elim (fun ⟨o, e⟩ => .inl (.inr ⟨o, e⟩)) .inr
theorem Scr.same {K : PySem.W.Frag} {H H' : Hp} {a : Addr} {ns : List Int} (h : Scr K H a ns) (e : Same H H') : Scr K H' a ns := h.elim (fun ⟨o, q⟩ => .inl ⟨o, e _ _ q⟩) .inr
theorem Scr.of {K : PySem.W.Frag} {H : Hp} {a : Addr} {ns : List Int} (h : SqL K H a (ns.map V.int)) (o : Only H) : Scr K H a ns := by
 rcases h with (h | ⟨ob, h⟩) | h
 . rcases o a with z | ⟨_,_,z⟩
   . rw [z] at h; cases h
   . rw [z] at h; cases h
 . exact .inl ⟨ob, h⟩
 . exact .inr h
def zeros (n : Nat) : List V := List.replicate n (.int 0)
theorem zeros_succ (n : Nat) : zeros n ++ [.int 0] = zeros (n + 1) := by unfold zeros; rw [List.replicate_succ']
theorem zeros_len (n : Nat) : (zeros n).length = n := List.length_replicate
def SameX (t : Addr) (H H' : Hp) : Prop := ∀ b o, b ≠ t -> H b = some o -> H' b = some o
theorem SameX.refl (t : Addr) (H : Hp) : SameX t H H := fun _ _ _ h => h
theorem SameX.trans {t : Addr} {H H1 H2 : Hp} (a : SameX t H H1) (b : SameX t H1 H2) : SameX t H H2 := fun c o n h => b c o n (a c o n h)
theorem Same.x {H H' : Hp} (e : Same H H') (t : Addr) : SameX t H H' := fun b o _ h => e b o h
theorem SameX.write {t : Addr} {H H' : Hp} (e : SameX t H H') (o : HO) : SameX t H (upd H' t o) := fun b u n h => by rw [upd_ne n]; exact e b u n h
theorem SameX.new {t p : Addr} {H H' : Hp} (e : SameX t H H') (hp : H' p = none) (o : HO) : SameX t H (upd H' p o) := fun b u n h => by
 have q := e b u n h
 rw [upd_ne (ne_of_none q hp)]; exact q
theorem SameX.ts {t : Addr} {H H' : Hp} (e : SameX t H H') {xs : List V} (h : H t = some (.lst xs)) : TSame H H' := fun b ys q => e b _ (ne_of q h (by intro z; cases z)) q
theorem SameX.scr {K : PySem.W.Frag} {t a : Addr} {H H' : Hp} {ns : List Int} (e : SameX t H H') {xs : List V} (h : H t = some (.lst xs)) (s : Scr K H a ns) : Scr K H' a ns := s.elim (fun ⟨o, q⟩ => .inl ⟨o, e _ _ (ne_of q h (by intro z; cases z)) q⟩) .inr
def rEqNil (K : PySem.W.Frag) : R2 := fun x y H Q => ∃ a b xs, x = .ref a /\ y = .ref b /\ SqL K H a xs /\ SqL K H b [] /\ Q (.bl (decide (xs = []))) H
theorem op_eqNil {X : Cx} (hu : X.A.units < cLine) : OpR X (compareOp .Eq) (rEqNil X.K) := by
 intro pins s σ H x y v u Q I rx ry h
 obtain ⟨a, b, xs, rfl,rfl,ha, hb, q⟩ := h
 cases rx
 cases ry
 obtain ⟨i1, r1, p1, _⟩ := I.list ha
 obtain ⟨i2, r2, p2, _⟩ := I.list hb
 have e2 : i2 = [] := by cases r2; rfl
 subst e2
 by_cases hx : xs = []
 . subst hx
   have e1 : i1 = [] := by cases r1; rfl
   subst e1
   refine SeqAt.eq_listAt (e := fun _ => true) p1.isList p2.isList rfl hu (fun j h1 _ => absurd h1 (by simp)) ⟨.bl true, H, I, rfl,?_⟩
   exact q
 . refine SeqAt.eq_list_lengthsAt p1.isList p2.isList ?_ hu ⟨.bl false, H, I, rfl,?_⟩
   . have := r1.length
     have hx' : xs.length ≠ 0 := fun z => hx (List.length_eq_zero_iff.mp z)
     have h1 : i1 ≠ [] := fun z => hx' (by rw [this, z]; rfl)
     simpa using h1
   . rw [decide_eq_false hx] at q
     exact q
end L2
set_option Elab.async false
set_option linter.all false
set_option maxRecDepth 100000
namespace L2
open PySem
end L2
namespace Be
open PySem L2
def top (i : Nat) : Stmt := PySem.Challenge.pw_benchends_k29_whole_chances.main.body.getD i (.Pass ⟨0, 0, 0, 0⟩)
set_option genInjectivity false in
structure Txt (K : PySem.W.Frag) (mg : Str -> Option Value) where
 is_whole_within : DefAt K mg "is_whole_within" (top 10) ["thing", "least", "most"]
 is_pair : DefAt K mg "is_pair" (top 11) ["thing"]
 are_bounds_of_work : DefAt K mg "are_bounds_of_work" (top 12) ["thing"]
 are_bounds : DefAt K mg "are_bounds" (top 13) ["thing"]
 is_world : DefAt K mg "is_world" (top 14) ["thing"]
 check_world : DefAt K mg "check_world" (top 15) ["world"]
 is_order : DefAt K mg "is_order" (top 16) ["world", "thing"]
 check_order : DefAt K mg "check_order" (top 17) ["world", "order"]
 are_lengths : DefAt K mg "are_lengths" (top 18) ["world", "thing"]
 check_lengths : DefAt K mg "check_lengths" (top 19) ["world", "lengths"]
 how_many_benches : DefAt K mg "how_many_benches" (top 20) ["world"]
 how_many_works : DefAt K mg "how_many_works" (top 21) ["world"]
 least_length : DefAt K mg "least_length" (top 22) ["world", "work"]
 greatest_length : DefAt K mg "greatest_length" (top 23) ["world", "work"]
 how_many_began : DefAt K mg "how_many_began" (top 24) ["world", "ends"]
 running : DefAt K mg "running" (top 25) ["world", "order"]
 begin_event : DefAt K mg "begin_event" (top 26) ["world", "work"]
 rules_of_ended : DefAt K mg "rules_of_ended" (top 28) ["world", "work", "end"]
 rule_of_running : DefAt K mg "rule_of_running" (top 29) ["world", "work", "last"]
 rules : DefAt K mg "rules" (top 30) ["world", "order"]
 holds : DefAt K mg "holds" (top 31) ["rule", "event_moments"]
 shorten_walks : DefAt K mg "shorten_walks" (top 32) ["told", "mosts", "firsts"]
 shortest_walks : DefAt K mg "shortest_walks" (top 33) ["told", "events", "goal"]
 earliest_moments : DefAt K mg "earliest_moments" (top 35) ["told", "events"]
 could : DefAt K mg "could" (top 36) ["world", "order"]
 taken_up : DefAt K mg "taken_up" (top 38) ["world", "lengths"]
 played : DefAt K mg "played" (top 39) ["world", "lengths"]
 how_many_lengths : DefAt K mg "how_many_lengths" (top 42) ["world"]
 check_many : DefAt K mg "check_many" (top 43) ["world"]
 all_lengths : DefAt K mg "all_lengths" (top 44) ["world"]
 greatest_divisor : DefAt K mg "greatest_divisor" (top 45) ["one", "other"]
 share : DefAt K mg "share" (top 46) ["part", "whole"]
 chances : DefAt K mg "chances" (top 47) ["world"]
 law_cell_at : DefAt K mg "_law_cell_at" (top 49) ["_law_script", "_law_k"]
 law_mixed : DefAt K mg "_law_mixed" (top 50) ["_law_script", "_law_k", "_law_many"]
 law_draw : DefAt K mg "_law_draw" (top 51) ["_law_script", "_law_town", "_law_many"]
 law_pick : DefAt K mg "_law_pick" (top 52) ["_law_script", "_law_town", "_law_some_here"]
 law_world : DefAt K mg "_law_world" (top 53) ["_law_script", "_law_town", "_law_most", "_law_wide"]
 law_ends : DefAt K mg "_law_ends" (top 55) ["_law_many", "_law_some_here"]
 law_order : DefAt K mg "_law_order" (top 56) ["_law_world_here", "_law_some_here"]
 law_all : DefAt K mg "_law_all" (top 57) ["_law_world_here"]
 law : DefAt K mg "law" (top 58) ["_law_script"]
 n_all : mg "all" = none
 n_bool : mg "bool" = none
 n_enumerate : mg "enumerate" = none
 n_int : mg "int" = none
 n_isinstance : mg "isinstance" = none
 n_len : mg "len" = none
 n_list : mg "list" = none
 n_max : mg "max" = none
 n_min : mg "min" = none
 n_range : mg "range" = none
 n_set : mg "set" = none
 n_sorted : mg "sorted" = none
 n_tuple : mg "tuple" = none
 n_zip : mg "zip" = none
 c_MOST_BENCHES : ∃ t, mg "MOST_BENCHES" = some (.int 4 t)
 c_MOST_WORKS : ∃ t, mg "MOST_WORKS" = some (.int 10 t)
 c_MOST_LENGTH : ∃ t, mg "MOST_LENGTH" = some (.int 99 t)
 c_MOST_LENGTHS_GONE_THROUGH : ∃ t, mg "MOST_LENGTHS_GONE_THROUGH" = some (.int 600 t)
 e_NoWorld : ErrAt K mg "NoWorld"
 e_NoOrder : ErrAt K mg "NoOrder"
 e_NoLengths : ErrAt K mg "NoLengths"
 e_TooMany : ErrAt K mg "TooMany"
theorem sc_is_whole_within : FnScope ["thing", "least", "most"] ["thing", "least", "most"] (defScope (top 10)) := ⟨rfl,rfl,rfl,by decide +kernel, rfl,by decide +kernel, by decide +kernel⟩
theorem sc_is_pair : FnScope ["thing"] ["thing"] (defScope (top 11)) := ⟨rfl,rfl,rfl,by decide +kernel, rfl,by decide +kernel, by decide +kernel⟩
theorem sc_are_bounds_of_work : FnScope ["thing"] ["thing"] (defScope (top 12)) := ⟨rfl,rfl,rfl,by decide +kernel, rfl,by decide +kernel, by decide +kernel⟩
theorem sc_are_bounds : FnScope ["thing"] ["thing"] (defScope (top 13)) := ⟨rfl,rfl,rfl,by decide +kernel, rfl,by decide +kernel, by decide +kernel⟩
theorem sc_is_world : FnScope ["thing"] ["thing"] (defScope (top 14)) := ⟨rfl,rfl,rfl,by decide +kernel, rfl,by decide +kernel, by decide +kernel⟩
theorem sc_check_world : FnScope ["world"] ["world"] (defScope (top 15)) := ⟨rfl,rfl,rfl,by decide +kernel, rfl,by decide +kernel, by decide +kernel⟩
theorem sc_is_order : FnScope ["world", "thing", "ended", "ahead", "work"] ["world", "thing"] (defScope (top 16)) := ⟨rfl,rfl,rfl,by decide +kernel, rfl,by decide +kernel, by decide +kernel⟩
theorem sc_check_order : FnScope ["world", "order"] ["world", "order"] (defScope (top 17)) := ⟨rfl,rfl,rfl,by decide +kernel, rfl,by decide +kernel, by decide +kernel⟩
theorem sc_are_lengths : FnScope ["world", "thing"] ["world", "thing"] (defScope (top 18)) := ⟨rfl,rfl,rfl,by decide +kernel, rfl,by decide +kernel, by decide +kernel⟩
theorem sc_check_lengths : FnScope ["world", "lengths"] ["world", "lengths"] (defScope (top 19)) := ⟨rfl,rfl,rfl,by decide +kernel, rfl,by decide +kernel, by decide +kernel⟩
theorem sc_how_many_benches : FnScope ["world"] ["world"] (defScope (top 20)) := ⟨rfl,rfl,rfl,by decide +kernel, rfl,by decide +kernel, by decide +kernel⟩
theorem sc_how_many_works : FnScope ["world"] ["world"] (defScope (top 21)) := ⟨rfl,rfl,rfl,by decide +kernel, rfl,by decide +kernel, by decide +kernel⟩
theorem sc_least_length : FnScope ["world", "work"] ["world", "work"] (defScope (top 22)) := ⟨rfl,rfl,rfl,by decide +kernel, rfl,by decide +kernel, by decide +kernel⟩
theorem sc_greatest_length : FnScope ["world", "work"] ["world", "work"] (defScope (top 23)) := ⟨rfl,rfl,rfl,by decide +kernel, rfl,by decide +kernel, by decide +kernel⟩
theorem sc_how_many_began : FnScope ["world", "ends"] ["world", "ends"] (defScope (top 24)) := ⟨rfl,rfl,rfl,by decide +kernel, rfl,by decide +kernel, by decide +kernel⟩
theorem sc_running : FnScope ["world", "order"] ["world", "order"] (defScope (top 25)) := ⟨rfl,rfl,rfl,by decide +kernel, rfl,by decide +kernel, by decide +kernel⟩
theorem sc_begin_event : FnScope ["world", "work"] ["world", "work"] (defScope (top 26)) := ⟨rfl,rfl,rfl,by decide +kernel, rfl,by decide +kernel, by decide +kernel⟩
theorem sc_rules_of_ended : FnScope ["world", "work", "end", "begin"] ["world", "work", "end"] (defScope (top 28)) := ⟨rfl,rfl,rfl,by decide +kernel, rfl,by decide +kernel, by decide +kernel⟩
theorem sc_rule_of_running : FnScope ["world", "work", "last"] ["world", "work", "last"] (defScope (top 29)) := ⟨rfl,rfl,rfl,by decide +kernel, rfl,by decide +kernel, by decide +kernel⟩
theorem sc_rules : FnScope ["world", "order", "told", "ahead", "work"] ["world", "order"] (defScope (top 30)) := ⟨rfl,rfl,rfl,by decide +kernel, rfl,by decide +kernel, by decide +kernel⟩
theorem sc_holds : FnScope ["rule", "event_moments"] ["rule", "event_moments"] (defScope (top 31)) := ⟨rfl,rfl,rfl,by decide +kernel, rfl,by decide +kernel, by decide +kernel⟩
theorem sc_shorten_walks : FnScope ["told", "mosts", "firsts", "place", "rule", "onward"] ["told", "mosts", "firsts"] (defScope (top 32)) := ⟨rfl,rfl,rfl,by decide +kernel, rfl,by decide +kernel, by decide +kernel⟩
theorem sc_shortest_walks : FnScope ["told", "events", "goal", "mosts", "firsts", "event"] ["told", "events", "goal"] (defScope (top 33)) := ⟨rfl,rfl,rfl,by decide +kernel, rfl,by decide +kernel, by decide +kernel⟩
theorem sc_earliest_moments : FnScope ["told", "events"] ["told", "events"] (defScope (top 35)) := ⟨rfl,rfl,rfl,by decide +kernel, rfl,by decide +kernel, by decide +kernel⟩
theorem sc_could : FnScope ["world", "order", "told", "earliest"] ["world", "order"] (defScope (top 36)) := ⟨rfl,rfl,rfl,by decide +kernel, rfl,by decide +kernel, by decide +kernel⟩
theorem sc_taken_up : FnScope ["world", "lengths", "free_from", "told", "length", "bench", "begin"] ["world", "lengths"] (defScope (top 38)) := ⟨rfl,rfl,rfl,by decide +kernel, rfl,by decide +kernel, by decide +kernel⟩
theorem sc_played : FnScope ["world", "lengths", "ends"] ["world", "lengths"] (defScope (top 39)) := ⟨rfl,rfl,rfl,by decide +kernel, rfl,by decide +kernel, by decide +kernel⟩
theorem sc_how_many_lengths : FnScope ["world", "many", "work"] ["world"] (defScope (top 42)) := ⟨rfl,rfl,rfl,by decide +kernel, rfl,by decide +kernel, by decide +kernel⟩
theorem sc_check_many : FnScope ["world"] ["world"] (defScope (top 43)) := ⟨rfl,rfl,rfl,by decide +kernel, rfl,by decide +kernel, by decide +kernel⟩
theorem sc_all_lengths : FnScope ["world", "found", "work", "lengths_of_work", "longer", "lengths"] ["world"] (defScope (top 44)) := ⟨rfl,rfl,rfl,by decide +kernel, rfl,by decide +kernel, by decide +kernel⟩
theorem sc_greatest_divisor : FnScope ["one", "other", "rest"] ["one", "other"] (defScope (top 45)) := ⟨rfl,rfl,rfl,by decide +kernel, rfl,by decide +kernel, by decide +kernel⟩
theorem sc_share : FnScope ["part", "whole", "divisor"] ["part", "whole"] (defScope (top 46)) := ⟨rfl,rfl,rfl,by decide +kernel, rfl,by decide +kernel, by decide +kernel⟩
theorem sc_chances : FnScope ["world", "counts", "lengths", "order"] ["world"] (defScope (top 47)) := ⟨rfl,rfl,rfl,by decide +kernel, rfl,by decide +kernel, by decide +kernel⟩
theorem sc_law_cell_at : FnScope ["_law_script", "_law_k"] ["_law_script", "_law_k"] (defScope (top 49)) := ⟨rfl,rfl,rfl,by decide +kernel, rfl,by decide +kernel, by decide +kernel⟩
theorem sc_law_mixed : FnScope ["_law_script", "_law_k", "_law_many", "_law_drawn"] ["_law_script", "_law_k", "_law_many"] (defScope (top 50)) := ⟨rfl,rfl,rfl,by decide +kernel, rfl,by decide +kernel, by decide +kernel⟩
theorem sc_law_draw : FnScope ["_law_script", "_law_town", "_law_many"] ["_law_script", "_law_town", "_law_many"] (defScope (top 51)) := ⟨rfl,rfl,rfl,by decide +kernel, rfl,by decide +kernel, by decide +kernel⟩
theorem sc_law_pick : FnScope ["_law_script", "_law_town", "_law_some_here"] ["_law_script", "_law_town", "_law_some_here"] (defScope (top 52)) := ⟨rfl,rfl,rfl,by decide +kernel, rfl,by decide +kernel, by decide +kernel⟩
theorem sc_law_world : FnScope ["_law_script", "_law_town", "_law_most", "_law_wide", "_law_made", "_law_top", "_law_k", "_law_low"] ["_law_script", "_law_town", "_law_most", "_law_wide"] (defScope (top 53)) := ⟨rfl,rfl,rfl,by decide +kernel, rfl,by decide +kernel, by decide +kernel⟩
theorem sc_law_ends : FnScope ["_law_many", "_law_some_here", "_law_free", "_law_ends_here", "_law_one", "_law_at"] ["_law_many", "_law_some_here"] (defScope (top 55)) := ⟨rfl,rfl,rfl,by decide +kernel, rfl,by decide +kernel, by decide +kernel⟩
theorem sc_law_order : FnScope ["_law_world_here", "_law_some_here", "_law_rows"] ["_law_world_here", "_law_some_here"] (defScope (top 56)) := ⟨rfl,rfl,rfl,by decide +kernel, rfl,by decide +kernel, by decide +kernel⟩
theorem sc_law_all : FnScope ["_law_world_here", "_law_rows", "_law_low", "_law_high", "_law_longer", "_law_row"] ["_law_world_here"] (defScope (top 57)) := ⟨rfl,rfl,rfl,by decide +kernel, rfl,by decide +kernel, by decide +kernel⟩
theorem sc_law : FnScope ["_law_script", "_law_town", "_law_world_here", "_law_rows", "_law_made", "_law_order_here", "_law_share", "_law_wide"] ["_law_script"] (defScope (top 58)) := ⟨rfl,rfl,rfl,by decide +kernel, rfl,by decide +kernel, by decide +kernel⟩
end Be
set_option Elab.async false
set_option linter.all false
namespace Be
structure Wd where
 b : Int
 bs : List (Int × Int)
structure Wd.Ok (W : Wd) : Prop where
 b1 : 1 <= W.b
 b4 : W.b <= 4
 l1 : 1 <= W.bs.length
 l10 : W.bs.length <= 10
 bd : ∀ p ∈ W.bs, 1 <= p.1 /\ p.1 <= p.2 /\ p.2 <= 99
def began (W : Wd) (n : Nat) : Nat := (min (W.bs.length : Int) (n + W.b)).toNat
def upto (n : Nat) : List Int := (List.range n).map fun (k : Nat) => (k : Int)
def runM (W : Wd) (o : List Int) : List Int := (upto (began W o.length)).filter fun x => decide (x ∉ o)
def bnd (W : Wd) (x : Int) : Int × Int := W.bs.getD x.toNat (0, 0)
def bg (W : Wd) (x : Int) : Int := if x < W.b then 0 else x - W.b + 1
abbrev Ru := Int × Int × Int
def rule3 (W : Wd) (j : Nat) (x : Int) : List Ru := [((j : Int) + 1, bg W x, (bnd W x).2), (bg W x, (j : Int) + 1, -(bnd W x).1), ((j : Int), (j : Int) + 1, 0)]
def rulesPre (W : Wd) (o : List Int) (i : Nat) : List Ru := (List.range i).flatMap fun j => rule3 W j (o.getD j 0)
def ruleR (W : Wd) (n : Nat) (x : Int) : Ru := ((n : Int), bg W x, (bnd W x).2)
def rulesM (W : Wd) (o : List Int) : List Ru := rulesPre W o o.length ++ (runM W o).map (ruleR W o.length)
structure VO (W : Wd) (o : List Int) : Prop where
 nd : o.Nodup
 at_ : ∀ (i : Nat) (x : Int), o[i]? = some x -> 0 <= x /\ x < (began W i : Int)
theorem upto_succ (n : Nat) : upto (n + 1) = upto n ++ [(n : Int)] := by unfold upto; rw [List.range_succ, List.map_append]; rfl
theorem mem_upto {n : Nat} {x : Int} : x ∈ upto n ↔ 0 <= x /\ x < (n : Int) := by
 unfold upto
 rw [List.mem_map]
 constructor
 . rintro ⟨k, hk, rfl⟩
   have := List.mem_range.mp hk
   omega
 . rintro ⟨h1, h2⟩
   exact ⟨x.toNat, List.mem_range.mpr (by omega), by omega⟩
theorem upto_len (n : Nat) : (upto n).length = n := by unfold upto; rw [List.length_map, List.length_range]
theorem upto_nodup : ∀ n : Nat, (upto n).Nodup
 | 0 => List.nodup_nil
 | n + 1 => by
  rw [upto_succ, List.nodup_append]
  refine ⟨upto_nodup n, by simp, fun a ha b hb e => ?_⟩
  have h1 := mem_upto.mp ha
  have h2 := List.mem_singleton.mp hb
  omega
theorem nodup_le : ∀ {l1 l2 : List Int}, l1.Nodup -> (∀ x ∈ l1, x ∈ l2) -> l1.length <= l2.length
 | [], _,_,_ => Nat.zero_le _
 | a :: r, l2, h, s => by
  have ha : a ∈ l2 := s a List.mem_cons_self
  have hn := List.nodup_cons.mp h
  have ih := nodup_le (l1 := r) (l2 := l2.erase a) hn.2 fun x hx => by
   have hne : x ≠ a := fun e => hn.1 (e ▸ hx)
   exact (List.mem_erase_of_ne hne).mpr (s x (List.mem_cons_of_mem _ hx))
  rw [List.length_erase_of_mem ha] at ih
  have : 0 < l2.length := List.length_pos_of_mem ha
  rw [List.length_cons]
  omega
theorem began_le (W : Wd) (n : Nat) : began W n <= W.bs.length := by unfold began; omega
theorem mem_run {W : Wd} {o : List Int} {x : Int} : x ∈ runM W o ↔ (0 <= x /\ x < (began W o.length : Int)) /\ x ∉ o := by
 unfold runM
 rw [List.mem_filter, mem_upto, decide_eq_true_iff]
theorem run_len (W : Wd) (o : List Int) : (runM W o).length <= W.bs.length := by
 unfold runM
 refine Nat.le_trans (List.length_filter_le _ _) ?_
 rw [upto_len]
 exact began_le W _
theorem VO.nil (W : Wd) : VO W [] := ⟨List.nodup_nil, fun i x e => by simp at e⟩
theorem VO.snoc {W : Wd} {o : List Int} {x : Int} (h : VO W o) (hx : x ∈ runM W o) : VO W (o ++ [x]) := by
 obtain ⟨⟨a, b⟩, c⟩ := mem_run.mp hx
 refine ⟨?_,fun i y e => ?_⟩
 . rw [List.nodup_append]
   refine ⟨h.nd, by simp, fun p hp r hr z => ?_⟩
   have := List.mem_singleton.mp hr
   subst this
   exact c (z ▸ hp)
 . by_cases hi : i < o.length
   . rw [List.getElem?_append_left hi] at e
     exact h.at_ i y e
   . have hi' : i = o.length := by
       have := (List.getElem?_eq_some_iff.mp e).1
       rw [List.length_append, List.length_singleton] at this
       omega
     subst hi'
     rw [List.getElem?_append_right (Nat.le_refl _), Nat.sub_self] at e
     cases e
     exact ⟨a, b⟩
theorem VO.lt {W : Wd} {o : List Int} (h : VO W o) {x : Int} (hx : x ∈ o) : 0 <= x /\ x < (W.bs.length : Int) := by
 obtain ⟨i, hi, e⟩ := List.getElem_of_mem hx
 have := h.at_ i x (by rw [List.getElem?_eq_getElem hi, e])
 have := began_le W i
 omega
theorem VO.len {W : Wd} {o : List Int} (h : VO W o) : o.length <= W.bs.length := by
 have := nodup_le (l2 := upto W.bs.length) h.nd fun x hx => mem_upto.mpr (h.lt hx)
 rwa [upto_len] at this
theorem rulesPre_succ (W : Wd) (o : List Int) (i : Nat) : rulesPre W o (i + 1) = rulesPre W o i ++ rule3 W i (o.getD i 0) := by
 unfold rulesPre
 rw [List.range_succ, List.flatMap_append]
 simp
theorem rulesPre_len (W : Wd) (o : List Int) : ∀ i : Nat, (rulesPre W o i).length = 3 * i
 | 0 => rfl
 | i + 1 => by
  rw [rulesPre_succ, List.length_append, rulesPre_len W o i]
  show 3 * i + 3 = 3 * (i + 1)
  omega
end Be
set_option Elab.async false
set_option linter.all false
set_option maxRecDepth 100000
namespace L2
open PySem PySem.Spec PyProof.Rows
section
variable {X : Cx} {pins : List (Addr × Obj)} {σ : St} {H : Hp} {s : Shared} {h' : Heap}
theorem Inv.turnedL {t' : Nat} {ch : List Addr} {T : Addr} {o : HO} (I : Inv X pins σ H s) (k : ∀ b u, b ∉ ch -> s.heap.get? b = some u -> h'.get? b = some u) (f : ∀ b ∈ ch, FpOk X pins H b) (hp : s.heap.objs.size <= T)
    (new : ObjOk X.prog X.w (upd H T o) h' T o) : Inv X pins σ (upd H T o) { s with heap := h', toks := t' } := by
 have hT : H T = none := I.hok.fresh hp
 have old : ∀ b u, s.heap.get? b = some u -> b ≠ T := fun b u q => Nat.ne_of_lt (Nat.lt_of_lt_of_le (Heap.lt_size q) hp)
 have up : ∀ b u, H b = some u -> upd H T o b = some u := fun b u q => by rw [upd_ne (ne_of_none q hT)]; exact q
 have nin : ∀ b u, H b = some u -> b ∉ ch := fun b u q z => by rw [(f b z).1] at q; cases q
 refine I.step (g' := s.gens) (d' := s.drawn) (ch := ch) (fun b hb => ?_) (fun b u _ _ hc q _ => k b u hc q) (fun b u _ _ hc q _ => ⟨u.slots, k b u hc q⟩) (fun b u hc q n => by rw [upd_ne (old b u q)]; exact n)
  (fun b u hc q => ⟨u, k b u hc q⟩) (fun b xs q => up b _ q) (fun b u v q => up b _ q) (fun b ps q => ⟨#[], by rw [up b _ q]; simp⟩) (fun m hm => ?_) (fun b u q => ?_) I.bare
 . have f1 := f b hb
   exact ⟨f1.2.2.2.1, f1.2.1, f1.2.2.2.2.1, f1.2.2.2.2.2⟩
 . obtain ⟨u, es, ep, hu, r⟩ := hm
   exact ⟨u, es, ep, k _ u (fun z => (f _ z).2.1 rfl) hu, r⟩
 . by_cases z : b = T
   . subst z
     rw [upd_same] at q
     cases q
     exact new
   . rw [upd_ne z] at q
     refine (I.hok b u q).stay (fun c v hc r => k c v ?_ r) (fun c r => up c _ r) fun c xs r => up c _ r
     rcases hc with hc | hc
     . rw [hc]; exact nin b u q
     . exact nin c _ hc
theorem Inv.turnedD {t' : Nat} {ch : List Addr} (I : Inv X pins σ H s) (k : ∀ b u, b ∉ ch -> s.heap.get? b = some u -> h'.get? b = some u) (f : ∀ b ∈ ch, FpOk X pins H b) : Inv X pins σ H { s with heap := h', toks := t' } := by
 have nin : ∀ b u, H b = some u -> b ∉ ch := fun b u q z => by rw [(f b z).1] at q; cases q
 refine I.step (g' := s.gens) (d' := s.drawn) (ch := ch) (fun b hb => ?_) (fun b u _ _ hc q _ => k b u hc q) (fun b u _ _ hc q _ => ⟨u.slots, k b u hc q⟩) (fun b u hc q n => n)
  (fun b u hc q => ⟨u, k b u hc q⟩) (fun b xs q => q) (fun b u v q => q) (fun b ps q => ⟨#[], by rw [q]; simp⟩) (fun m hm => ?_) (fun b u q => ?_) I.bare
 . have f1 := f b hb
   exact ⟨f1.2.2.2.1, f1.2.1, f1.2.2.2.2.1, f1.2.2.2.2.2⟩
 . obtain ⟨u, es, ep, hu, r⟩ := hm
   exact ⟨u, es, ep, k _ u (fun z => (f _ z).2.1 rfl) hu, r⟩
 . refine (I.hok b u q).stay (fun c v hc r => k c v ?_ r) (fun c r => r) fun c xs r => r
   rcases hc with hc | hc
   . rw [hc]; exact nin b u q
   . exact nin c _ hc
end
theorem tupV2_ok {P : Program} {w : World} {H : Hp} {h : Heap} {T : Addr} {v v' : V} {u u' : Value} (ht : h.get? T = some { cls := .type "tuple", data := .seq #[u, u'] }) (r : RelV v u) (r' : RelV v' u') : ObjOk P w H h T (.tup [v, v']) :=
 ⟨by show 2 <= sizeLine; decide, [u, u'], .cons r (.cons r' .nil), ⟨_,ht, rfl,rfl,_,rfl⟩⟩
section
variable {X : Cx} {es : List Expr} {ek : Nat} {tpos : Pos}
theorem comp_listR {g : TG} {tt : TT} {te : TE} {τ : St} {D : Addr} {H1 : Hp} {R : Hp -> Prop} {K : PySem.W.Frag} {a : Addr} {xs : List V} (Pv : Nat -> List V -> Hp -> Prop) (h0 : Pv 0 [] (upd H1 D (.lst []))) (hl : ∀ i ys H, i <= xs.length -> Pv i ys H -> SqL K H a xs)
    (hs : ∀ i ys x H, xs[i]? = some x -> Pv i ys H -> turnC g tt te τ D ys (Pv (i + 1)) x H) (hd : ∀ ys H, Pv xs.length ys H -> R H) :
    ∃ W : Nat -> Nat -> List V -> Hp -> Prop, (∃ m, W 0 m [] (upd H1 D (.lst []))) /\ ∀ i m ys H, W i m ys H -> ((Itl K a).stop i H /\ R H) \/ ((Itl K a).go i H /\ ∃ N : List V -> Hp -> Prop, (∀ ys' H', N ys' H' -> ∃ m', m' < m /\ W (i + 1) m' ys' H') /\ ∀ x H', (Itl K a).yld i H x H' -> turnC g tt te τ D ys N x H') :=
 comp_list (Q := fun _ H => R H) Pv h0 hl hs hd
end
end L2
set_option Elab.async false
set_option linter.all false
set_option maxRecDepth 100000
namespace BE
open PySem PySem.Spec PyProof.Rows
def SIt (k : Bool) (h : Heap) (it l : Addr) (i : Nat) : Prop := match k with
 | true => h.IsTupleIter it l i
 | false => h.IsListIter it l i
def SSq (k : Bool) (h : Heap) (l : Addr) (xs : Array Value) : Prop := match k with
 | true => h.IsTuple l xs
 | false => h.IsList l xs
def itCls (k : Bool) : String := match k with
 | true => "tuple_iterator"
 | false => "list_iterator"
def itObj (k : Bool) (l : Addr) : Obj := { cls := .type (itCls k), data := .fields #[.ref l, .int 0 0] }
theorem SIt.ex {k : Bool} {h : Heap} {it l : Addr} {i : Nat} (x : SIt k h it l i) : ∃ o, h.get? it = some o /\ ∀ v, o.data ≠ .cell v := by
 cases k with
 | true => obtain ⟨o, e, _,d⟩ := x; exact ⟨o, e, fun v q => by rw [d] at q; cases q⟩
 | false => obtain ⟨o, e, _,d⟩ := x; exact ⟨o, e, fun v q => by rw [d] at q; cases q⟩
theorem SIt.mv {k : Bool} {h h' : Heap} {it l : Addr} {i : Nat} (x : SIt k h it l i) (e : ∀ o, h.get? it = some o -> h'.get? it = some o) : SIt k h' it l i := by
 cases k with
 | true => exact Heap.IsTupleIter.at x e
 | false => exact Heap.IsListIter.at x e
theorem SSq.mv {k : Bool} {h h' : Heap} {l : Addr} {xs : Array Value} (x : SSq k h l xs) (e : ∀ o, h.get? l = some o -> h'.get? l = some o) : SSq k h' l xs := by
 cases k with
 | true => obtain ⟨o, ho, r⟩ := x; exact ⟨o, e o ho, r⟩
 | false => obtain ⟨o, ho, r⟩ := x; exact ⟨o, e o ho, r⟩
theorem SSq.lt {k : Bool} {h : Heap} {l : Addr} {xs : Array Value} (x : SSq k h l xs) : l < h.objs.size := by
 cases k with
 | true => obtain ⟨o, ho, _⟩ := x; exact Heap.lt_size ho
 | false => obtain ⟨o, ho, _⟩ := x; exact Heap.lt_size ho
theorem SIt.start {k : Bool} {h : Heap} {it l : Addr} (e : h.get? it = some (itObj k l)) : SIt k h it l 0 := by
 cases k with
 | true => exact ⟨_,e, rfl,rfl⟩
 | false => exact ⟨_,e, rfl,rfl⟩
section
variable {prog : Program} {w : World} {A : Around} {E : Value -> Shared -> Prop} {s : Shared}
theorem nextK {k : Bool} {it l : Addr} {i : Nat} {xs : Array Value} {x : Value} {Q : Value -> Shared -> Prop} (st : SIt k s.heap it l i) (sq : SSq k s.heap l xs) (hx : xs[i]? = some x)
    (q : ∀ h', SIt k h' it l (i + 1) -> Heap.SameBut it s.heap h' -> Q x { s with heap := h' }) : wpAny (model prog w) A (Builtin.SmallTypes.nextOf (.ref it)) Q E s := by
 cases k with
 | true => exact nextOf_tup st sq hx q
 | false => exact wpAny_nextOf_list_item st sq hx q
theorem nextK_end {k : Bool} {it l : Addr} {i : Nat} {xs : Array Value} {Q : Value -> Shared -> Prop} (hh : A.handled = none) (st : SIt k s.heap it l i) (sq : SSq k s.heap l xs) (hx : xs[i]? = none)
    (q : ∀ h' e, Heap.ExtBut it s.heap h' -> (∃ o, h'.get? e = some o /\ o.cls = .type "StopIteration") -> E (.ref e) { s with heap := h' }) : wpAny (model prog w) A (Builtin.SmallTypes.nextOf (.ref it)) Q E s := by
 cases k with
 | true => exact nextOf_tup_end hh st sq hx q
 | false => exact wpAny_nextOf_list_end hh st sq hx q
theorem iterK {k : Bool} {l : Addr} {xs : Array Value} {Q : Value -> Shared -> Prop} (sq : SSq k s.heap l xs) (q : Q (.ref s.heap.objs.size) { s with heap := s.heap.push (itObj k l) }) : wpAny (model prog w) A (pyIter (.ref l)) Q E s := by
 cases k with
 | true => exact wpAny_pyIter_tuple sq q
 | false => exact wpAny_pyIter_list sq q
theorem zipK_item {k1 k2 : Bool} {zp jn ot i1 i2 l1 l2 : Addr} {n1 n2 : Nat} {xs ys : Array Value} {x y a b : Value} {Q : Value -> Shared -> Prop} (D : ZipApart zp jn ot i1 i2 l1 l2)
    (zz : IsZip s.heap zp jn ot .none) (zI : IsPair s.heap jn (.ref i1) (.ref i2)) (zO : IsPair s.heap ot a b)
    (t1 : SIt k1 s.heap i1 l1 n1) (t2 : SIt k2 s.heap i2 l2 n2) (s1 : SSq k1 s.heap l1 xs) (s2 : SSq k2 s.heap l2 ys) (hx : xs[n1]? = some x) (hy : ys[n2]? = some y)
    (q : ∀ h', IsZip h' zp jn ot (rawInt s.heap.objs.size) -> IsPair h' ot x y -> SIt k1 h' i1 l1 (n1 + 1) -> SIt k2 h' i2 l2 (n2 + 1) -> IsPair h' s.heap.objs.size x y -> h'.objs.size = s.heap.objs.size + 1 ->
     (∀ c o, c ≠ zp -> c ≠ ot -> c ≠ i1 -> c ≠ i2 -> s.heap.get? c = some o -> h'.get? c = some o) -> Q (.ref s.heap.objs.size) { s with heap := h' }) :
    wpAny (model prog w) A (Builtin.«zip.__next__» ⟨[.ref zp], []⟩) (fun fin s' => ∃ v, fin = .done (.ret v) /\ Q v s') E s := by
 show wpAny _ _ (field (.ref zp) 2 >>= _) _ _ _
 refine wpAny_bind (wpAny_field zz rfl (x := .bool false) rfl ?_)
 show wpAny _ _ (field (.ref zp) 3 >>= _) _ _ _
 refine wpAny_bind (wpAny_field zz rfl (x := .ref jn) rfl ?_)
 refine wpAny_bind (wpAny_seqItems zI rfl ?_)
 show wpAny _ _ (Builtin.SmallTypes.ownedTupleIsFree (.ref zp) >>= _) _ _ _
 refine wpAny_bind ?_; unfold Builtin.SmallTypes.ownedTupleIsFree
 refine wpAny_bind (wpAny_field zz rfl (x := .none) rfl (wpAny_pure ?_))
 simp only [if_true]
 refine wpAny_bind (wpAny_rule ?_)
 refine wpAny_bind (wpAny_field zz rfl (x := .ref ot) rfl ?_)
 refine wpAny_bind (wpAny_setField_rec zz (by simp) fun g1 y1 b1 => ?_)
 replace y1 : IsZip g1 zp jn ot .ellipsis := y1
 refine wpAny_bind ?_; simp only [List.forIn_cons, List.forIn_nil, List.zipIdx_cons, List.zipIdx_nil]; refine wpAny_bind (wpAny_bind (wpAny_onRaise ?_))
 show wpAny _ _ (Builtin.SmallTypes.nextOf (.ref i1) >>= _) _ _ _
 refine wpAny_bind (nextK (t1.mv fun o e => b1.extBut _ o D.i1z e) (s1.mv fun o e => b1.extBut _ o D.l1z e) hx fun g2 u2 b2 => wpAny_pure ?_)
 have w2 : IsPair g2 ot a b := b2.extBut _ _ D.TOi1 (b1.extBut _ _ D.TOz zO)
 refine wpAny_bind (wpAny_seqItems w2 rfl ?_)
 refine wpAny_bind (wpAny_updateSeq_pair w2 fun g3 w3 b3 => ?_)
 replace w3 : IsPair g3 ot x b := w3
 refine wpAny_bind (wpAny_letGo (wpAny_pure (wpAny_bind (wpAny_bind (wpAny_onRaise ?_)))))
 show wpAny _ _ (Builtin.SmallTypes.nextOf (.ref i2) >>= _) _ _ _
 refine wpAny_bind (nextK (t2.mv fun o e => b3.extBut _ o D.TOi2.symm (b2.extBut _ o D.i12.symm (b1.extBut _ o D.i2z e))) (s2.mv fun o e => b3.extBut _ o D.l2TO (b2.extBut _ o D.l2i1 (b1.extBut _ o D.l2z e))) hy fun g4 u4 b4 => wpAny_pure ?_)
 have w4 : IsPair g4 ot x b := b4.extBut _ _ D.TOi2 w3
 refine wpAny_bind (wpAny_seqItems w4 rfl ?_)
 refine wpAny_bind (wpAny_updateSeq_pair w4 fun g5 w5 b5 => ?_)
 replace w5 : IsPair g5 ot x y := w5
 refine wpAny_bind (wpAny_letGo (wpAny_pure (wpAny_pure ?_)))
 refine wpAny_bind (wpAny_seqItems w5 rfl ?_)
 refine wpAny_bind (wpAny_newTuple ?_)
 have sz : g5.objs.size = s.heap.objs.size := by rw [b5.1, b4.1, b3.1, b2.1, b1.1]
 have y5 : IsZip g5 zp jn ot .ellipsis := b5.extBut _ _ D.TOz.symm (b4.extBut _ _ D.i2z.symm (b3.extBut _ _ D.TOz.symm (b2.extBut _ _ D.i1z.symm y1)))
 have k5 : ∀ c o, c ≠ zp -> c ≠ ot -> c ≠ i1 -> c ≠ i2 -> s.heap.get? c = some o -> g5.get? c = some o := fun c o c1 c2 c3 c4 e =>
  b5.extBut _ _ c2 (b4.extBut _ _ c4 (b3.extBut _ _ c2 (b2.extBut _ _ c3 (b1.extBut _ _ c1 e))))
 have v1 : SIt k1 g5 i1 l1 (n1 + 1) := u2.mv fun o e => b5.extBut _ o D.TOi1.symm (b4.extBut _ o D.i12 (b3.extBut _ o D.TOi1.symm e))
 have v2 : SIt k2 g5 i2 l2 (n2 + 1) := u4.mv fun o e => b5.extBut _ o D.TOi2.symm e
 have zlt : zp < g5.objs.size := Heap.lt_size y5
 show wpAny _ _ (Builtin.SmallTypes.ownedTupleHandOut (.ref zp) (.ref g5.objs.size) >>= _) _ _ _
 refine wpAny_bind ?_; unfold Builtin.SmallTypes.ownedTupleHandOut
 have y6 : IsZip (g5.push { cls := .type "tuple", data := .seq #[x, y] }) zp jn ot .ellipsis := Heap.get?_push_of_some _ y5
 refine wpAny_bind (wpAny_setField_rec y6 (by simp) fun g7 y7 b7 => ?_)
 replace y7 : IsZip g7 zp jn ot (rawInt g5.objs.size) := y7
 refine wpAny_setField_rec y7 (by simp) fun g8 y8 b8 => ?_
 replace y8 : IsZip g8 zp jn ot (rawInt g5.objs.size) := y8
 have up : ∀ c o, c ≠ zp -> g5.get? c = some o -> g8.get? c = some o := fun c o c1 e => b8.extBut _ _ c1 (b7.extBut _ _ c1 (Heap.get?_push_of_some _ e))
 have w8 : IsPair g8 g5.objs.size x y := b8.extBut _ _ (Nat.ne_of_gt zlt) (b7.extBut _ _ (Nat.ne_of_gt zlt) (Heap.get?_push_size _ rfl))
 have z8 : g8.objs.size = g5.objs.size + 1 := by rw [b8.1, b7.1, Heap.size_push]
 rw [sz] at y8 w8 z8
 refine wpAny_pure ⟨_,rfl,?_⟩
 show Q (.ref g5.objs.size) _
 rw [sz]
 exact q g8 y8 (up _ _ D.TOz w5) (v1.mv fun o e => up _ o D.i1z e) (v2.mv fun o e => up _ o D.i2z e) w8 z8 fun c o c1 c2 c3 c4 e => up c o c1 (k5 c o c1 c2 c3 c4 e)
theorem zipK_end {k1 k2 : Bool} {zp jn ot i1 i2 l1 l2 : Addr} {n1 n2 : Nat} {xs ys : Array Value} {a b : Value} {Q : Fin -> Shared -> Prop} (hh : A.handled = none) (D : ZipApart zp jn ot i1 i2 l1 l2)
    (zz : IsZip s.heap zp jn ot .none) (zI : IsPair s.heap jn (.ref i1) (.ref i2)) (zO : IsPair s.heap ot a b)
    (t1 : SIt k1 s.heap i1 l1 n1) (t2 : SIt k2 s.heap i2 l2 n2) (s1 : SSq k1 s.heap l1 xs) (s2 : SSq k2 s.heap l2 ys) (hend : xs[n1]? = none \/ ys[n2]? = none)
    (q : ∀ h' e, (∀ c o, c ≠ zp -> c ≠ ot -> c ≠ i1 -> c ≠ i2 -> s.heap.get? c = some o -> h'.get? c = some o) -> (∃ o, h'.get? e = some o /\ o.cls = .type "StopIteration") -> E (.ref e) { s with heap := h' }) :
    wpAny (model prog w) A (Builtin.«zip.__next__» ⟨[.ref zp], []⟩) Q E s := by
 show wpAny _ _ (field (.ref zp) 2 >>= _) _ _ _
 refine wpAny_bind (wpAny_field zz rfl (x := .bool false) rfl ?_)
 show wpAny _ _ (field (.ref zp) 3 >>= _) _ _ _
 refine wpAny_bind (wpAny_field zz rfl (x := .ref jn) rfl ?_)
 refine wpAny_bind (wpAny_seqItems zI rfl ?_)
 show wpAny _ _ (Builtin.SmallTypes.ownedTupleIsFree (.ref zp) >>= _) _ _ _
 refine wpAny_bind ?_; unfold Builtin.SmallTypes.ownedTupleIsFree
 refine wpAny_bind (wpAny_field zz rfl (x := .none) rfl (wpAny_pure ?_))
 simp only [if_true]
 refine wpAny_bind (wpAny_rule ?_)
 refine wpAny_bind (wpAny_field zz rfl (x := .ref ot) rfl ?_)
 refine wpAny_bind (wpAny_setField_rec zz (by simp) fun g1 y1 b1 => ?_)
 replace y1 : IsZip g1 zp jn ot .ellipsis := y1
 refine wpAny_bind ?_; simp only [List.forIn_cons, List.forIn_nil, List.zipIdx_cons, List.zipIdx_nil]; refine wpAny_bind (wpAny_bind (wpAny_onRaise ?_))
 show wpAny _ _ (Builtin.SmallTypes.nextOf (.ref i1) >>= _) _ _ _
 cases hx : xs[n1]? with
 | none =>
  refine wpAny_bind (nextK_end hh (t1.mv fun o e => b1.extBut _ o D.i1z e) (s1.mv fun o e => b1.extBut _ o D.l1z e) hx fun g2 e b2 he => ?_)
  obtain ⟨oe, hoe, hce⟩ := he
  have y2 : IsZip g2 zp jn ot .ellipsis := b2 _ _ D.i1z.symm y1
  have ez : e ≠ zp := fun x => by subst x; rw [y2] at hoe; cases hoe; simp at hce
  refine wpAny_setField_rec y2 (by simp) fun g3 _ b3 => q g3 e (fun c o c1 _ c3 _ x => b3.extBut _ _ c1 (b2 _ _ c3 (b1.extBut _ _ c1 x))) ⟨oe, b3.extBut _ _ ez hoe, hce⟩
 | some x =>
  have hy : ys[n2]? = none := by rcases hend with h | h; rw [hx] at h; cases h; exact h
  refine wpAny_bind (nextK (t1.mv fun o e => b1.extBut _ o D.i1z e) (s1.mv fun o e => b1.extBut _ o D.l1z e) hx fun g2 u2 b2 => wpAny_pure ?_)
  have w2 : IsPair g2 ot a b := b2.extBut _ _ D.TOi1 (b1.extBut _ _ D.TOz zO)
  refine wpAny_bind (wpAny_seqItems w2 rfl ?_)
  refine wpAny_bind (wpAny_updateSeq_pair w2 fun g3 w3 b3 => ?_)
  refine wpAny_bind (wpAny_letGo (wpAny_pure (wpAny_bind (wpAny_bind (wpAny_onRaise ?_)))))
  show wpAny _ _ (Builtin.SmallTypes.nextOf (.ref i2) >>= _) _ _ _
  refine wpAny_bind (nextK_end hh (t2.mv fun o e => b3.extBut _ o D.TOi2.symm (b2.extBut _ o D.i12.symm (b1.extBut _ o D.i2z e))) (s2.mv fun o e => b3.extBut _ o D.l2TO (b2.extBut _ o D.l2i1 (b1.extBut _ o D.l2z e))) hy fun g4 e b4 he => ?_)
  obtain ⟨oe, hoe, hce⟩ := he
  have y4 : IsZip g4 zp jn ot .ellipsis := b4 _ _ D.i2z.symm (b3.extBut _ _ D.TOz.symm (b2.extBut _ _ D.i1z.symm y1))
  have ez : e ≠ zp := fun x => by subst x; rw [y4] at hoe; cases hoe; simp at hce
  refine wpAny_setField_rec y4 (by simp) fun g5 _ b5 => q g5 e (fun c o c1 c2 c3 c4 x => b5.extBut _ _ c1 (b4 _ _ c4 (b3.extBut _ _ c2 (b2.extBut _ _ c3 (b1.extBut _ _ c1 x))))) ⟨oe, b5.extBut _ _ ez hoe, hce⟩
theorem pyNext_zipK {k1 k2 : Bool} {zp jn ot i1 i2 l1 l2 : Addr} {n1 n2 : Nat} {xs ys : Array Value} {x y a b : Value} {Q : Option Value -> Shared -> Prop} (D : ZipApart zp jn ot i1 i2 l1 l2)
    (zz : IsZip s.heap zp jn ot .none) (zI : IsPair s.heap jn (.ref i1) (.ref i2)) (zO : IsPair s.heap ot a b)
    (t1 : SIt k1 s.heap i1 l1 n1) (t2 : SIt k2 s.heap i2 l2 n2) (s1 : SSq k1 s.heap l1 xs) (s2 : SSq k2 s.heap l2 ys) (hx : xs[n1]? = some x) (hy : ys[n2]? = some y)
    (q : ∀ h', IsZip h' zp jn ot (rawInt s.heap.objs.size) -> IsPair h' ot x y -> SIt k1 h' i1 l1 (n1 + 1) -> SIt k2 h' i2 l2 (n2 + 1) -> IsPair h' s.heap.objs.size x y -> h'.objs.size = s.heap.objs.size + 1 ->
     (∀ c o, c ≠ zp -> c ≠ ot -> c ≠ i1 -> c ≠ i2 -> s.heap.get? c = some o -> h'.get? c = some o) -> Q (some (.ref s.heap.objs.size)) { s with heap := h' }) :
    wpAny (model prog w) A (pyNext (.ref zp)) Q E s := by
 have ty : s.TypeIs (.ref zp) "zip" := ⟨_,zz, rfl⟩
 unfold pyNext
 exact wpAny_bind (wpAny_attempt (wpAny_callSpecial?_slot (name := Str.ofString "__next__") ty F.slot_zip_next
  (wpAny_call_entry F.slot_zip_next ty F.entry_zip_next
   (zipK_item D zz zI zO t1 t2 s1 s2 hx hy fun h' a1 a2 a3 a4 a5 a6 a7 => wpAny_pure (q h' a1 a2 a3 a4 a5 a6 a7)) (F.args_zip_next_1 _))))
theorem pyNext_zipK_end {k1 k2 : Bool} {zp jn ot i1 i2 l1 l2 : Addr} {n1 n2 : Nat} {xs ys : Array Value} {a b : Value} {Q : Option Value -> Shared -> Prop} (hh : A.handled = none) (D : ZipApart zp jn ot i1 i2 l1 l2)
    (zz : IsZip s.heap zp jn ot .none) (zI : IsPair s.heap jn (.ref i1) (.ref i2)) (zO : IsPair s.heap ot a b)
    (t1 : SIt k1 s.heap i1 l1 n1) (t2 : SIt k2 s.heap i2 l2 n2) (s1 : SSq k1 s.heap l1 xs) (s2 : SSq k2 s.heap l2 ys) (hend : xs[n1]? = none \/ ys[n2]? = none)
    (q : ∀ h', (∀ c o, c ≠ zp -> c ≠ ot -> c ≠ i1 -> c ≠ i2 -> s.heap.get? c = some o -> h'.get? c = some o) -> Q none { s with heap := h' }) : wpAny (model prog w) A (pyNext (.ref zp)) Q E s := by
 have ty : s.TypeIs (.ref zp) "zip" := ⟨_,zz, rfl⟩
 unfold pyNext
 refine wpAny_bind (wpAny_attempt (wpAny_callSpecial?_slot (name := Str.ofString "__next__") ty F.slot_zip_next
  (wpAny_call_entry F.slot_zip_next ty F.entry_zip_next (zipK_end hh D zz zI zO t1 t2 s1 s2 hend fun h' e hk he => ?_) (F.args_zip_next_1 _))))
 obtain ⟨o, ho, hc⟩ := he
 refine wpAny_bind (wpAny_isInstance (T := "StopIteration") (b := true) ⟨o, ho, hc⟩ isSubtype_stop ?_)
 exact wpAny_pure (q _ hk)
end
abbrev zk1 (k1 : Bool) (h : Heap) (l1 : Addr) : Heap := h.push (itObj k1 l1)
abbrev zk2 (k1 k2 : Bool) (h : Heap) (l1 l2 : Addr) : Heap := (zk1 k1 h l1).push (itObj k2 l2)
abbrev zk3 (k1 k2 : Bool) (h : Heap) (l1 l2 : Addr) : Heap := (zk2 k1 k2 h l1 l2).push { cls := .type "tuple", data := .seq #[.ref h.objs.size, .ref (zk1 k1 h l1).objs.size] }
abbrev zk4 (k1 k2 : Bool) (h : Heap) (l1 l2 : Addr) : Heap := (zk3 k1 k2 h l1 l2).push { cls := .type "tuple", data := .seq #[.none, .none] }
abbrev zk5 (k1 k2 : Bool) (h : Heap) (l1 l2 : Addr) : Heap := (zk4 k1 k2 h l1 l2).push { cls := .type "zip", data := .fields #[.none, .bool false, .bool false, .ref (zk2 k1 k2 h l1 l2).objs.size, .ref (zk3 k1 k2 h l1 l2).objs.size] }
theorem SSq.push {k : Bool} {h : Heap} {l : Addr} {xs : Array Value} (x : SSq k h l xs) (o : Obj) : SSq k (h.push o) l xs := x.mv fun _ e => Heap.get?_push_of_some _ e
theorem meets_zipK (k1 k2 : Bool) (l1 l2 : Addr) (xs ys : Array Value) :
    Meets (Builtin.«zip.__new__» ⟨[.type "zip", .ref l1, .ref l2], []⟩) (fun _ R s => SSq k1 s.heap l1 xs /\ SSq k2 s.heap l2 ys /\
     R (.ok (.ret (.ref (zk4 k1 k2 s.heap l1 l2).objs.size))) { s with heap := zk5 k1 k2 s.heap l1 l2 }) :=
 .of_wp fun prog w A R s h => by
  obtain ⟨hp, g, d, tk, os⟩ := s; obtain ⟨hq1, hq2, h⟩ := h
  have sub0 := sub_zip
  have hA : SSq k1 (Shared.heap ⟨hp, g, d, tk, os⟩) l1 xs := hq1
  have hB : SSq k2 (Shared.heap ⟨hp.push (itObj k1 l1), g, d, tk, os⟩) l2 ys := hq2.push _
  wp_walk using iterK hA, iterK hB
  exact ⟨_,rfl,h⟩
section
variable {prog : Program} {w : World} {A : Around} {E : Value -> Shared -> Prop} {s : Shared}
theorem call_zipK {k1 k2 : Bool} {l1 l2 : Addr} {xs ys : Array Value} {Q : Value -> Shared -> Prop} (s1 : SSq k1 s.heap l1 xs) (s2 : SSq k2 s.heap l2 ys)
    (q : ∀ h', IsZip h' (s.heap.objs.size + 4) (s.heap.objs.size + 2) (s.heap.objs.size + 3) .none -> IsPair h' (s.heap.objs.size + 2) (.ref s.heap.objs.size) (.ref (s.heap.objs.size + 1)) ->
     IsPair h' (s.heap.objs.size + 3) .none .none -> SIt k1 h' s.heap.objs.size l1 0 -> SIt k2 h' (s.heap.objs.size + 1) l2 0 -> h'.objs.size = s.heap.objs.size + 5 ->
     (∀ c o, s.heap.get? c = some o -> h'.get? c = some o) -> Q (.ref (s.heap.objs.size + 4)) { s with heap := h' }) :
    wpAny (model prog w) A (call (.type "zip") [.ref l1, .ref l2]) Q E s := by
 refine callType_new F.called_zip (by decide) (F.typeCall_zip_2 _ _) (F.newCall_zip_2 _ _) (fun obj => F.args_object_init_3 obj _ _) F.entry_zip_new
  (meets_zipK k1 k2 l1 l2 xs ys) ⟨s1, s2, ?_⟩
 have z1 : (zk1 k1 s.heap l1).objs.size = s.heap.objs.size + 1 := Heap.size_push ..
 have z2 : (zk2 k1 k2 s.heap l1 l2).objs.size = s.heap.objs.size + 2 := by rw [Heap.size_push, z1]
 have z3 : (zk3 k1 k2 s.heap l1 l2).objs.size = s.heap.objs.size + 3 := by rw [Heap.size_push, z2]
 have z4 : (zk4 k1 k2 s.heap l1 l2).objs.size = s.heap.objs.size + 4 := by rw [Heap.size_push, z3]
 have z5 : (zk5 k1 k2 s.heap l1 l2).objs.size = s.heap.objs.size + 5 := by rw [Heap.size_push, z4]
 have e5 : (zk5 k1 k2 s.heap l1 l2).get? (zk4 k1 k2 s.heap l1 l2).objs.size = some _ := Heap.get?_push_size _ rfl
 have e4 : (zk5 k1 k2 s.heap l1 l2).get? (zk3 k1 k2 s.heap l1 l2).objs.size = some _ := Heap.get?_push_of_some _ (Heap.get?_push_size _ rfl)
 have e3 : (zk5 k1 k2 s.heap l1 l2).get? (zk2 k1 k2 s.heap l1 l2).objs.size = some _ := Heap.get?_push_of_some _ (Heap.get?_push_of_some _ (Heap.get?_push_size _ rfl))
 have e2 : (zk5 k1 k2 s.heap l1 l2).get? (zk1 k1 s.heap l1).objs.size = some _ := Heap.get?_push_of_some _ (Heap.get?_push_of_some _ (Heap.get?_push_of_some _ (Heap.get?_push_size _ (by cases k2 <;> rfl))))
 have e1 : (zk5 k1 k2 s.heap l1 l2).get? s.heap.objs.size = some _ := Heap.get?_push_of_some _ (Heap.get?_push_of_some _ (Heap.get?_push_of_some _ (Heap.get?_push_of_some _ (Heap.get?_push_size _ (by cases k1 <;> rfl)))))
 show _ /\ _
 rw [z2, z3, z4] at e5; rw [z1, z2] at e3; rw [z3] at e4; rw [z1] at e2; rw [z4]
 exact ⟨⟨_,e5, rfl⟩, q _ e5 e3 e4 (.start e1) (.start e2) z5 fun c o x =>
  Heap.get?_push_of_some _ (Heap.get?_push_of_some _ (Heap.get?_push_of_some _ (Heap.get?_push_of_some _ (Heap.get?_push_of_some (itObj k1 l1) x))))⟩
end
end BE
namespace L2
open PySem PySem.Spec PyProof.Rows
def SqK (k : Bool) (K : PySem.W.Frag) (H : Hp) (a : Addr) (xs : List V) : Prop := match k with
 | true => SqT K H a xs
 | false => SqL K H a xs
section
variable {X : Cx} {pins : List (Addr × Obj)} {σ : St} {H : Hp} {s : Shared}
theorem Inv.seqK {k : Bool} {a : Addr} {xs : List V} (I : Inv X pins σ H s) (h : SqK k X.K H a xs) : ∃ its : List Value, Vals xs its /\ BE.SSq k s.heap a its.toArray := by
 cases k with
 | true => obtain ⟨its, rv, p, _⟩ := I.tuple h; exact ⟨its, rv, p⟩
 | false => obtain ⟨its, rv, p, _⟩ := I.list h; exact ⟨its, rv, p.isList⟩
theorem Inv.seqK_inj {k : Bool} {a : Addr} {xs ys : List V} (I : Inv X pins σ H s) (h : SqK k X.K H a xs) (h' : SqK k X.K H a ys) : xs = ys := by
 cases k with
 | true => exact I.tuple_inj h h'
 | false => exact I.list_inj h h'
end
def ItzK (k1 k2 : Bool) (K : PySem.W.Frag) (a b : Addr) : It :=
 ⟨fun i H => ∃ xs ys x y, SqK k1 K H a xs /\ SqK k2 K H b ys /\ xs[i]? = some x /\ ys[i]? = some y,
  fun i H v H' => ∃ p x y, H p = none /\ v = .ref p /\ H' = upd H p (.tup [x, y]) /\ (∀ xs, SqK k1 K H a xs -> xs[i]? = some x) /\ ∀ ys, SqK k2 K H b ys -> ys[i]? = some y,
  fun i H => ∃ xs ys, SqK k1 K H a xs /\ SqK k2 K H b ys /\ (xs.length <= i \/ ys.length <= i)⟩
def ZTk (k1 k2 : Bool) (z TI TO i1 i2 l1 l2 : Addr) (i : Nat) (h : Heap) : Prop := IsZip h z TI TO .none /\ IsPair h TI (.ref i1) (.ref i2) /\ (∃ a b, IsPair h TO a b) /\ BE.SIt k1 h i1 l1 i /\ BE.SIt k2 h i2 l2 i
theorem turn_zipK {k1 k2 : Bool} {P : Program} {w : World} {K : PySem.W.Frag} {es : List Expr} {ek : Nat} {pos : Pos} (z TI TO i1 i2 l1 l2 : Addr) (D : ZipApart z TI TO i1 i2 l1 l2) : Turn P w K (.Tuple es ek pos) (ItzK k1 k2 K l1 l2) [z, TI, TO, i1, i2] z (ZTk k1 k2 z TI TO i1 i2 l1 l2) where
 mem := by simp
 obj := fun i h st b hb => by
  obtain ⟨hz, hTI, ⟨a, c, hTO⟩, q1, q2⟩ := st
  have hb' : b = z \/ b = TI \/ b = TO \/ b = i1 \/ b = i2 := by simpa using hb
  rcases hb' with rfl | rfl | rfl | rfl | rfl
  . exact ⟨_,hz, fun v q => by have q' : Data.fields _ = Data.cell v := q; cases q'⟩
  . exact ⟨_,hTI, fun v q => by have q' : Data.seq _ _ = Data.cell v := q; cases q'⟩
  . exact ⟨_,hTO, fun v q => by have q' : Data.seq _ _ = Data.cell v := q; cases q'⟩
  . obtain ⟨o, ho, hn⟩ := q1.ex; exact ⟨o, ho, fun v q => hn v q⟩
  . obtain ⟨o, ho, hn⟩ := q2.ex; exact ⟨o, ho, fun v q => hn v q⟩
 keep := fun i h h' st k => by
  obtain ⟨hz, hTI, ⟨a, c, hTO⟩, h1, h2⟩ := st
  exact ⟨k z (by simp) _ hz, k TI (by simp) _ hTI, ⟨a, c, k TO (by simp) _ hTO⟩, h1.mv fun o q => k i1 (by simp) o q, h2.mv fun o q => k i2 (by simp) o q⟩
 item := by
  intro X hP hw hK hc i pins s σ H E I hf st hg
  subst hP hw hK
  obtain ⟨hz, hTI, ⟨a, b, hTO⟩, h1, h2⟩ := st
  obtain ⟨xs, ys, x, y, hq1, hq2, hx, hy⟩ := hg
  obtain ⟨its1, rv1, p1⟩ := I.seqK hq1
  obtain ⟨its2, rv2, p2⟩ := I.seqK hq2
  obtain ⟨u1, hu1, ru1⟩ := rv1.get hx
  obtain ⟨u2, hu2, ru2⟩ := rv2.get hy
  refine BE.pyNext_zipK D hz hTI hTO h1 h2 p1 p2 (by rw [List.getElem?_toArray]; exact hu1) (by rw [List.getElem?_toArray]; exact hu2) fun h' a1 a2 a3 a4 a5 a6 hk => ?_
  refine ⟨_,rfl,wpAny_letOwnedTupleGo_zip a1 fun h3 hz3 sb3 => ?_⟩
  have lt : ∀ {c : Addr} {o : Obj}, s.heap.get? c = some o -> c ≠ s.heap.objs.size := fun e => Nat.ne_of_lt (Heap.lt_size e)
  have i1lt : i1 ≠ s.heap.objs.size := by obtain ⟨_,e, _⟩ := h1.ex; exact lt e
  have i2lt : i2 ≠ s.heap.objs.size := by obtain ⟨_,e, _⟩ := h2.ex; exact lt e
  have hT3 : h3.get? s.heap.objs.size = some { cls := .type "tuple", data := .seq #[u1, u2] } := (sb3.2 _ (Ne.symm (lt hz))).trans a5
  have fr : H s.heap.objs.size = none := I.hok.fresh (Nat.le_refl _)
  have sub : ∀ b ∈ [z, TO, i1, i2], FpOk X pins H b := fun b hb => by
   have hb' : b = z \/ b = TO \/ b = i1 \/ b = i2 := by simpa using hb
   rcases hb' with rfl | rfl | rfl | rfl <;> exact hf _ (by simp)
  have I2 : Inv X pins σ (upd H s.heap.objs.size (.tup [x, y])) { s with heap := h3, toks := s.toks } :=
   I.turnedL (ch := [z, TO, i1, i2]) (fun b q hb r => (sb3.2 b (fun e => hb (by simp [e]))).trans (hk b q (fun e => hb (by simp [e])) (fun e => hb (by simp [e])) (fun e => hb (by simp [e])) (fun e => hb (by simp [e])) r)) sub (Nat.le_refl _) (tupV2_ok hT3 ru1 ru2)
  refine ⟨.ref s.heap.objs.size, _,I2, rfl,⟨_,x, y, fr, rfl,rfl,fun zs h => by rw [I.seqK_inj h hq1]; exact hx, fun zs h => by rw [I.seqK_inj h hq2]; exact hy⟩, ⟨hz3, ?_,⟨u1, u2, ?_⟩, ?_,?_⟩, fun b hb => ?_⟩
  . exact (sb3.2 _ D.TIz).trans (hk _ _ D.TIz D.TITO D.TIi1 D.TIi2 hTI)
  . exact (sb3.2 _ D.TOz).trans a2
  . exact a3.mv fun o q => (sb3.2 _ D.i1z).trans q
  . exact a4.mv fun o q => (sb3.2 _ D.i2z).trans q
  . have hn := (hf b hb).1
    have hb2 : b ≠ s.heap.objs.size := by
     have hb' : b = z \/ b = TI \/ b = TO \/ b = i1 \/ b = i2 := by simpa using hb
     rcases hb' with rfl | rfl | rfl | rfl | rfl
     . exact lt hz
     . exact lt hTI
     . exact lt hTO
     . exact i1lt
     . exact i2lt
    rw [upd_ne hb2]
    exact hn
 done := by
  intro X hP hw hK hc i pins s σ H E I hf st hg
  subst hP hw hK
  obtain ⟨hz, hTI, ⟨a, b, hTO⟩, h1, h2⟩ := st
  obtain ⟨xs, ys, hq1, hq2, hend⟩ := hg
  obtain ⟨its1, rv1, p1⟩ := I.seqK hq1
  obtain ⟨its2, rv2, p2⟩ := I.seqK hq2
  have sub : ∀ b ∈ [z, TO, i1, i2], FpOk X pins H b := fun b hb => by
   have hb' : b = z \/ b = TO \/ b = i1 \/ b = i2 := by simpa using hb
   rcases hb' with rfl | rfl | rfl | rfl <;> exact hf _ (by simp)
  have e1 := rv1.length
  have e2 := rv2.length
  refine BE.pyNext_zipK_end (I.ok.hd hc) D hz hTI hTO h1 h2 p1 p2 ?_ fun h' hk => ⟨rfl,?_⟩
  . rcases hend with hend | hend
    . exact .inl (by rw [List.getElem?_toArray]; exact List.getElem?_eq_none (by omega))
    . exact .inr (by rw [List.getElem?_toArray]; exact List.getElem?_eq_none (by omega))
  . exact I.turnedD (t' := s.toks) (ch := [z, TO, i1, i2]) (fun b q hb r => hk b q (fun e => hb (by simp [e])) (fun e => hb (by simp [e])) (fun e => hb (by simp [e])) (fun e => hb (by simp [e])) r) sub
 self := fun _ _ _ _ _ st h => wpAny_pyIter_zip st.1 h
section
variable {X : Cx} {es : List Expr} {ek : Nat} {tpos : Pos}
def iZipK (k1 k2 : Bool) (K : PySem.W.Frag) (ta : TA) : TI := fun σ H R => ta σ H fun vs H1 => ∃ a b xs ys, vs = [.ref a, .ref b] /\ SqK k1 K H1 a xs /\ SqK k2 K H1 b ys /\ R (ItzK k1 k2 K a b) H1
theorem pi_zipK (k1 k2 : Bool) {x y : Expr} {ta : TA} {p pos : Pos} (hg : Gl X "zip") (hm : X.mg "zip" = none) (ha : PA X [x, y] ta) (hs : starEach [x, y] X.env = [(false, eval x X.env), (false, eval y X.env)] := by rfl) (hs2 : starEach [y] X.env = [(false, eval y X.env)] := by rfl) :
    PI X (.Tuple es ek tpos) (.Call (.Name "zip" p) [x, y] [] pos) (iZipK k1 k2 X.K ta) := by
 intro pins s σ H R I h
 refine Call_ (ld_blt I hg hm boot_zip (PyProof.Rows.callWith_type1 (thn (ha pos pins s σ H _ I h) fun us s1 ⟨vs, H1, I1, r1, q1⟩ => ?_) (by rw [hs, hs2]) (by rw [hs2]; rfl)))
 obtain ⟨a, b, xs, ys, e, hq1, hq2, q⟩ := q1
 subst e
 cases r1 with
 | cons r rr =>
  cases rr with
  | cons r' rr =>
   cases rr
   cases r
   cases r'
   obtain ⟨its1, rv1, p1⟩ := I1.seqK hq1
   obtain ⟨its2, rv2, p2⟩ := I1.seqK hq2
   refine BE.call_zipK p1 p2 fun h' hz hTI hTO hi1 hi2 hsz hk => ?_
   refine wpAny_pyIter_zip hz ?_
   have D := PySem.W.ktu_apart s1.heap.objs.size a b p1.lt p2.lt
   refine ⟨s1.heap.objs.size + 4, [s1.heap.objs.size + 4, s1.heap.objs.size + 2, s1.heap.objs.size + 3, s1.heap.objs.size, s1.heap.objs.size + 1], _,_,H1, rfl,I1.kept (t' := s1.toks) hk, turn_zipK _ _ _ _ _ a b D, ⟨hz, hTI, ⟨_,_,hTO⟩, hi1, hi2⟩, fun c hc => ?_,q⟩
   have hc' : s1.heap.objs.size <= c := by
    have h5 : c = s1.heap.objs.size + 4 \/ c = s1.heap.objs.size + 2 \/ c = s1.heap.objs.size + 3 \/ c = s1.heap.objs.size \/ c = s1.heap.objs.size + 1 := by simpa using hc
    rcases h5 with rfl | rfl | rfl | rfl | rfl
    . exact Nat.le_add_right _ _
    . exact Nat.le_add_right _ _
    . exact Nat.le_add_right _ _
    . exact Nat.le_refl _
    . exact Nat.le_add_right _ _
   exact I1.fpOk hc' (I1.hok.fresh hc')
theorem comp_zipK {k1 k2 : Bool} {g : TG} {tt : TT} {te : TE} {τ : St} {D : Addr} {H1 : Hp} {R : Hp -> Prop} {K : PySem.W.Frag} {a b : Addr} {xs ys : List V} (Pv : Nat -> List V -> Hp -> Prop) (h0 : Pv 0 [] (upd H1 D (.lst []))) (hl : ∀ i zs H, Pv i zs H -> SqK k1 K H a xs /\ SqK k2 K H b ys)
    (hs : ∀ i zs x y p H, xs[i]? = some x -> ys[i]? = some y -> H p = none -> Pv i zs H -> turnC g tt te τ D zs (Pv (i + 1)) (.ref p) (upd H p (.tup [x, y]))) (hd : ∀ zs H, Pv (min xs.length ys.length) zs H -> R H) :
    ∃ W : Nat -> Nat -> List V -> Hp -> Prop, (∃ m, W 0 m [] (upd H1 D (.lst []))) /\ ∀ i m zs H, W i m zs H -> ((ItzK k1 k2 K a b).stop i H /\ R H) \/ ((ItzK k1 k2 K a b).go i H /\ ∃ N : List V -> Hp -> Prop, (∀ ys' H', N ys' H' -> ∃ m', m' < m /\ W (i + 1) m' ys' H') /\ ∀ x H', (ItzK k1 k2 K a b).yld i H x H' -> turnC g tt te τ D zs N x H') := by
 refine ⟨fun i m zs H => m = min xs.length ys.length - i /\ i <= min xs.length ys.length /\ Pv i zs H, ⟨min xs.length ys.length, by simp, Nat.zero_le _,h0⟩, ?_⟩
 rintro i m zs H ⟨rfl,hi, p⟩
 obtain ⟨q1, q2⟩ := hl i zs H p
 by_cases hlt : i < min xs.length ys.length
 . have l1 : i < xs.length := by omega
   have l2 : i < ys.length := by omega
   refine .inr ⟨⟨xs, ys, xs[i], ys[i], q1, q2, List.getElem?_eq_getElem l1, List.getElem?_eq_getElem l2⟩, Pv (i + 1), fun ys' H' p' => ⟨min xs.length ys.length - (i + 1), by omega, rfl,hlt, p'⟩, fun x H' y => ?_⟩
   obtain ⟨t, u, v, ht, e, e2, y1, y2⟩ := y
   subst e e2
   exact hs i zs u v t H (y1 xs q1) (y2 ys q2) ht p
 . have e : i = min xs.length ys.length := by omega
   subst e
   exact .inl ⟨⟨xs, ys, q1, q2, by omega⟩, hd zs H p⟩
end
end L2
set_option Elab.async false
set_option linter.all false
set_option maxRecDepth 100000
namespace L2
open PySem PySem.Spec PyProof.Rows
section
variable {X : Cx}
def rMinL : List V -> Hp -> VK -> Prop := fun xs H Q => ∃ (a : Addr) (ns : List Int), xs = [.ref a] /\ H a = some (.lst (ns.map V.int)) /\ ns ≠ [] /\ ∀ M, M ∈ ns -> (∀ b, b ∈ ns -> M <= b) -> Q (.int M) H
theorem ints_are : ∀ {ns : List Int} {us : List Value}, Vals (ns.map V.int) us -> IntsAre us ns
 | [], _,r => by cases r; exact .nil
 | n :: ns, _,r => by
  cases r with
  | cons h r =>
   obtain ⟨t, rfl⟩ := h
   exact .cons n t (ints_are r)
theorem call_minL (hc : X.calm = true) : CallR X (.builtin "min") rMinL := by
 intro pins s σ H xs us Q I r h
 obtain ⟨a, ns, rfl,ha, hne, q⟩ := h
 obtain ⟨u, rfl,rfl⟩ := vals1 r
 obtain ⟨z, its, n, rv, hl, e⟩ := I.lstM ha
 have hi := ints_are rv
 obtain ⟨ys, ey⟩ := hi.allInts.items
 have hL : s.heap.IsList a its.toArray := ⟨_,e, rfl,n, rfl⟩
 have hns : ns = ys.toList.map (·.1) := by
  rw [<- hi.numsOf, <- nums_intItems, <- ey]
 have hsz : 0 < ys.size := by
  have h3 : 0 < ns.length := List.length_pos_iff.mpr hne
  rw [hns, List.length_map, Array.length_toList] at h3
  exact h3
 rw [ey] at hL
 refine min_intList (I.ok.hd hc) hL hsz fun v h' tk hv hk => ?_
 obtain ⟨t, rfl⟩ := intItems_at hv
 obtain ⟨h1, h2⟩ := argBest_lt (numAt ys) (ys.size - 1)
 refine ⟨.int _,H, I.kept hk, ⟨_,rfl⟩, q _ ?_ fun b hb => ?_⟩
 . rw [hns, numAt_eq]; exact getD_mem (by rw [List.length_map, Array.length_toList]; omega)
 . rw [hns] at hb
   obtain ⟨j, hj, rfl⟩ := mem_getD hb
   rw [List.length_map, Array.length_toList] at hj
   rw [<- numAt_eq]; exact h2 j (by omega)
end
end L2
set_option Elab.async false
set_option linter.all false
set_option maxRecDepth 100000
namespace BE
open PySem PySem.Spec PyProof.Rows SeqAt
open AutoSeq1 (wpAny_loadPart')
end BE
namespace L2
open PySem PySem.SeqAt PySem.Spec PyProof.Rows
section
variable {X : Cx}
def isIntOf (k : Int) : Value -> Bool
 | .int i _ => i == k
 | _ => false
theorem ints_of : ∀ {ns : List Int} {us : List Value} {i : Nat} {u : Value}, Vals (ns.map V.int) us -> us[i]? = some u -> ∃ n t, ns[i]? = some n /\ u = .int n t
 | [], _,i, u, r, h => by cases r; simp at h
 | n :: ns, _,i, u, r, h => by
  cases r with
  | cons a r =>
   obtain ⟨t, rfl⟩ := a
   cases i with
   | zero =>
    rw [List.getElem?_cons_zero] at h
    exact ⟨n, t, rfl,(Option.some.inj h).symm⟩
   | succ i =>
    rw [List.getElem?_cons_succ] at h
    obtain ⟨m, t', h1, h2⟩ := ints_of r h
    exact ⟨m, t', h1, h2⟩
end
end L2
set_option Elab.async false
set_option linter.all false
set_option maxRecDepth 100000
namespace L2
open PySem PySem.SeqAt PySem.Spec PyProof.Rows
section
variable {X : Cx}
end
end L2
set_option Elab.async false
set_option linter.all false
set_option maxRecDepth 100000
namespace L2
open PySem PySem.Spec PyProof.Rows
section
variable {X : Cx}
end
end L2
set_option Elab.async false
set_option linter.all false
set_option maxRecDepth 100000
namespace BE
open PySem PySem.Spec PyProof.Rows
section
variable {prog : Program} {w : World} {A : Around} {E : Value -> Shared -> Prop} {s : Shared}
theorem sortedS_kept {h h1 : Heap} {vs : List Value} {out : Array Value} (hk : ∀ b u, h.get? b = some u -> h1.get? b = some u) : ∀ b u, h.get? b = some u -> (sortedHeap (h1.push (seqObj "list" vs.toArray 0)) h1.objs.size vs out).get? b = some u := fun b u e => by
 have e1 := hk b u e
 have lt := Heap.lt_size e1
 rw [sortedHeap_old (Nat.ne_of_lt lt) (by rw [size_push']; exact Nat.lt_succ_of_lt lt)]
 exact Heap.get?_push_of_some _ e1
end
section
variable {prog : Program} {w : World} {A : Around} {E : Value -> Shared -> Prop} {s : Shared}
end
end BE
namespace L2
open PySem PySem.SeqAt PySem.Spec PyProof.Rows
section
variable {X : Cx}
def rIndexI : V -> List V -> Hp -> VK -> Prop := fun x vs H Q => ∃ (l : Addr) (ns : List Int) (k : Int) (j : Nat), x = .ref l /\ vs = [.int k] /\ H l = some (.lst (ns.map V.int)) /\ ns[j]? = some k /\ (∀ m, m < j -> ns[m]? ≠ some k) /\ Q (.int j) H
theorem mt_indexI : MtM X "list.index" rIndexI := by
 intro pins s σ H x vs v us Q I rx rv h
 obtain ⟨l, ns, k, j, rfl,rfl,hH, hj, hn, q⟩ := h
 cases rx
 obtain ⟨u, rfl,ru⟩ := rv.one
 obtain ⟨t, rfl⟩ := ru
 obtain ⟨z, its, n, r, hl, e⟩ := I.lstM hH
 rw [List.length_map] at hl z
 have hlt : j < ns.length := (List.getElem?_eq_some_iff.mp hj).1
 have h63 := line63
 have at_ : ∀ m (hm : m < its.toArray.size), ∃ i t', ns[m]? = some i /\ its.toArray[m] = .int i t' := fun m hm => by
  have hm' : m < its.length := by simpa using hm
  obtain ⟨i, t', h1, h2⟩ := ints_of r (List.getElem?_eq_getElem hm')
  exact ⟨i, t', h1, by rw [List.getElem_toArray]; exact h2⟩
 refine call_meets F.slot_list_index ⟨_,e, rfl⟩ F.entry_list_index (F.args_list_index_2 _ _)
  (list_indexAt l its.toArray n none #[] (.int k t) (isIntOf k) j (by rw [List.size_toArray, <- hl]; exact hlt) (by omega) ?_ ?_) ⟨e, fun y hy => ?_,?_⟩
 . obtain ⟨i, t', h1, h2⟩ := at_ j (by rw [List.size_toArray, <- hl]; exact hlt)
   rw [hj] at h1
   cases h1
   rw [h2]
   exact beq_self_eq_true k
 . intro m hm hmj
   obtain ⟨i, t', h1, h2⟩ := at_ m hm
   rw [h2]
   exact beq_eq_false_iff_ne.mpr fun c => hn m hmj (by rw [h1, c])
 . obtain ⟨m, hm, e'⟩ := Array.getElem_of_mem hy
   obtain ⟨i, t', h1, h2⟩ := at_ m hm
   rw [<- e', h2]
   exact EqAt.int_int i t' k t
 . exact ⟨.int j, H, I.tok _,⟨s.toks, rfl⟩, q⟩
end
end L2
set_option Elab.async false
set_option linter.all false
set_option maxRecDepth 100000
namespace L2
open PySem PySem.Spec PyProof.Rows
theorem ps_compset {X : Cx} {elt tg iter : Expr} {ifs : List Expr} {scope : Scope} {pos spos py : Pos} {y : Str} {i : Nat} {wi : TI} {g : TG} {tt : TT} {te : TE} {NB : List Str} {js : List (Option Nat)} (hN : X.N.Nodup) (hiN : X.N[i]? = some y) (hyL : Loc X.env.scope y) (hc : X.calm = true) (B : BlkOk X scope NB js) (hi : PI X tg iter wi)
    (hg : ∀ C s₂ H₂ fp, PG (blk X scope NB C s₂ H₂ fp) tg g) (ht : ∀ C s₂ H₂ fp, PF (blk X scope NB C s₂ H₂ fp) ifs tt) (he : ∀ C s₂ H₂ fp, PE (blk X scope NB C s₂ H₂ fp) elt te)
    (hs : ∀ x, foldedSetIterable iter X.env x = pure x := by intro _; rfl) (hsw : swapsWith (.ListComp elt [⟨tg, iter, ifs, 0⟩] scope pos) (some (.Name y py)) spos.line X.env = pure true := by first | rfl | with_unfolding_all rfl)
    (hf : X.fn y = true \/ X.env.scope.names.lookup y = some .local := by first | exact .inl rfl | exact .inr rfl | assumption) :
    PS X (.Assign [.Name y py] (.ListComp elt [⟨tg, iter, ifs, 0⟩] scope pos) spos) (tAsg (tComp js wi g tt te) (gName i)) := by
 intro pins s σ H D I h
 rw [exec_Assign_Name_used _ _ _ _ hsw]
 refine wpAny_bind (wpAny_standAt (wpAny_bind ?_))
 show wpAny _ X.A (do let _ <- comprehension (.ListComp elt [⟨tg, iter, ifs, 0⟩] scope pos) scope X.env _ (newList []) false (eval iter X.env) (some (assign (.Name y py) X.env))) _ _ s
 refine wpAny_bind (wpAny_mono (wpAny_comprehension_free (use := some (assign (.Name y py) X.env)) (Q := fun _ s' => SP X pins D .next s') rfl hs B.clos B.kind B.locs (thn (hi pins s σ H _ I h) fun v s1 h1 => thn h1 fun itv s2 h2 => ?_)) (fun _ s' hq => wpAny_pure (wpAny_pure hq)) fun _ _ e => e)
 obtain ⟨it, fp, tn, J, H2, e, I2, T, st2, f2, hW⟩ := h2
 subst e
 have fresh2 : H2 s2.heap.objs.size = none := I2.hok.fresh (Nat.le_refl _)
 obtain ⟨W, ⟨m0, w0⟩, turn⟩ := hW s2.heap.objs.size fresh2
 refine wpAny_newObj_type (wpAny_newFunctionEnv B.nocell (by intro y hy; simp at hy) (fun h₁ hns₁ hsb₁ => ?_) B.kind)
 dsimp only at hns₁ hsb₁ ⊢
 generalize hH2 : s2.heap.push { cls := .type "list", dict := none, data := .seq ([] : List Value).toArray } = HP at hns₁ hsb₁ ⊢
 have hC : HP.objs.size = s2.heap.objs.size + 1 := by rw [<- hH2, Heap.size_push]
 have hCle : s2.heap.objs.size <= HP.objs.size := by rw [hC]; exact Nat.le_succ _
 have hDC : s2.heap.objs.size ≠ HP.objs.size := by rw [hC]; exact Nat.ne_of_lt (Nat.lt_succ_self _)
 have below : ∀ b, b < s2.heap.objs.size -> b ≠ HP.objs.size := fun b hb => Nat.ne_of_lt (Nat.lt_of_lt_of_le hb hCle)
 have old : ∀ b o, s2.heap.get? b = some o -> h₁.get? b = some o := fun b o e => hsb₁.extBut b o (below b (Heap.lt_size e)) (Heap.get?_push_of_some _ (hH2 ▸ Heap.get?_push_of_some _ e))
 have hacc : h₁.get? s2.heap.objs.size = some { cls := .type "list", dict := none, data := .seq ([] : List Value).toArray } := hsb₁.extBut _ _ hDC (Heap.get?_push_of_some _ (hH2 ▸ Heap.get?_push_size _ rfl))
 have fplt : ∀ b ∈ fp, b < s2.heap.objs.size := fun b hb => by
  obtain ⟨o, ho, _⟩ := T.obj 0 _ st2 b hb
  exact Heap.lt_size ho
 have okY : (blk X scope NB HP.objs.size s2 H2 fp).Ok := blk_ok B I2 f2 (fun b hb => below b (fplt b hb)) hCle
 have lenτ : (tau js σ).length = NB.length := by unfold tau; rw [List.length_map]; exact B.len
 have IY : Inv (blk X scope NB HP.objs.size s2 H2 fp) [] (tau js σ) (upd H2 s2.heap.objs.size (.lst [])) { s2 with heap := h₁, toks := s2.toks + ([] : List (Str × Value)).length } := by
  refine ⟨okY, rfl,I2.bare, Un.laid old (Nat.le_refl _) fresh2, ⟨_,hns₁, fun i x v e1 e2 e3 => ?_⟩, fun x c e => ?_,?_,fun x c e => ?_,fun p hp => absurd (show p ∈ ([] : List (Addr × Obj)) from hp) (by simp), I2.hok.laid old (Nat.le_refl _) ?_,lenτ⟩
  . obtain ⟨j, ej, ev⟩ := tau_get e2
    obtain ⟨x', n1, n2, n3, n4, n5⟩ := B.outer i j ej
    have ex : x' = x := Option.some.inj (n1.symm.trans e1)
    subst ex
    obtain ⟨m, _,hl⟩ := I2.loc
    obtain ⟨u, ru, l⟩ := hl j x' v n2 ev n4
    refine ⟨u, ru, .inr ?_⟩
    have e3' : Vis (relabel scope X.env) x' := e3
    have nl := B.inner i x' e1 n3 e3'
    have kk : (relabel scope X.env).names.lookup x' = some .cell \/ (relabel scope X.env).names.lookup x' = some .free := by
     rcases e3' with z | z | z
     . exact absurd z nl
     . exact .inl z
     . exact .inr z
    refine ⟨kk, ?_⟩
    rcases l with ⟨z, _⟩ | ⟨_,c, ec, cell⟩
    . exact absurd z n5
    . obtain ⟨c', ec'⟩ := closOf_has (env := X.env) n3
      have q := (mem_closOf B.there ec').1
      rw [ec] at q
      cases q
      exact ⟨c, ec', cell.keeps old⟩
  . obtain ⟨v, z⟩ := I2.cell x c (mem_closOf B.there e).1
    exact ⟨v, z.keeps old⟩
  . show upd H2 s2.heap.objs.size (.lst []) HP.objs.size = none
    rw [upd_ne (Ne.symm hDC)]
    exact I2.hok.fresh hCle
  . have ec := (mem_closOf B.there e).1
    obtain ⟨v, o, ho, _⟩ := I2.cell x c ec
    rw [upd_ne (Nat.ne_of_lt (Heap.lt_size ho))]
    exact I2.freeC x c ec
  . exact ⟨by show 0 <= sizeLine; exact Nat.zero_le _,[], 0, .nil, hacc⟩
 have st1 : tn 0 h₁ := T.keep 0 _ _ st2 fun b _ o e => old b o e
 have statY : ∀ {H' : Hp}, (∀ b ∈ fp, H' b = none) -> ∀ b ∈ fp, FpOk (blk X scope NB HP.objs.size s2 H2 fp) [] H' b := fun {H'} hn b hb =>
  ⟨hn b hb, below b (fplt b hb), okY.exfs b hb, .inl hb, (okY.exf b hb).2, fun p hp => absurd (show p ∈ ([] : List (Addr × Obj)) from hp) (by simp)⟩
 have frN : ∀ b ∈ fp, upd H2 s2.heap.objs.size (.lst []) b = none := fun b hb => by
  rw [upd_ne (Nat.ne_of_lt (fplt b hb))]
  exact (f2 b hb).1
 have loop : ∀ s₃ : Shared, s₃ = { s2 with heap := h₁, toks := s2.toks + ([] : List (Str × Value)).length } ->
     codeAny (model X.prog X.w) X.A (.compLoop (.ListComp elt [⟨tg, iter, ifs, 0⟩] scope pos) 0 (.ref it) (.ref s2.heap.objs.size) (compEnvC scope (closOf scope X.env) HP.objs.size X.env))
      (compPost (model X.prog X.w) X.A X.xe (some (assign (.Name y py) X.env)) (fun _ s' => SP X pins D .next s') (.ref s2.heap.objs.size) HP.objs.size) s₃ := by
  rintro s₃ rfl
  refine compLoop_any (fun n s' => ∃ i ys H', Inv (blk X scope NB HP.objs.size s2 H2 fp) [] (tau js σ) H' s' /\ tn i s'.heap /\ (∀ b ∈ fp, H' b = none) /\ W i n ys H') ?_ m0 ⟨0, [], _,IY, st1, frN, w0⟩
  rintro n s3 ⟨i, ys, H3, I3, st3, fr3, w3⟩
  rcases turn i n ys H3 w3 with ⟨stop, qq⟩ | ⟨go, NN, hNN, step⟩
  . refine thn (T.done (blk X scope NB HP.objs.size s2 H2 fp) rfl rfl rfl hc i [] s3 (tau js σ) H3 (fun _ _ => False) I3 (statY fr3) st3 stop) fun r s4 ⟨hr, I4⟩ => ?_
    subst hr
    obtain ⟨m4, hn4, _⟩ := id I4.loc
    have u4 : Un (frs X.stack) fp H2 H3 s2.heap s4.heap := I4.base
    have J4 : Inv X pins σ H3 s4 := I2.call' (s' := s4) I4.os u4 I4.hok I4.bare fun b hb => ⟨(f2 b hb).2.2.2.1, (f2 b hb).2.1, (f2 b hb).2.2.2.2.1, (f2 b hb).2.2.2.2.2⟩
    have hC3 : H3 HP.objs.size = none := I4.free
    have fC : FpOk X pins H3 HP.objs.size := I2.fpOk hCle hC3
    obtain ⟨oC, es, ep, hoC, hdC, hrC⟩ := id hn4
    have hoC' : s4.heap.get? HP.objs.size = some oC := hoC
    have P4 := J4.pinned (fp := [HP.objs.size]) (fun b hb => by rw [List.mem_singleton.mp hb]; exact fC) (fun b hb => by rw [List.mem_singleton.mp hb]; exact ⟨oC, hoC', fun v z => by rw [hdC] at z; cases z⟩)
    show wpAny _ X.A (assign (.Name y py) X.env (.ref s2.heap.objs.size)) _ X.xe s4
    refine wpAny_assign_Name (store_ok (v := .ref s2.heap.objs.size) P4 hN hiN hyL rfl (fun s5 I5 => ?_) hf)
    have h5 := (I5.pin (HP.objs.size, oC) (List.mem_append_right _ (List.mem_append_right _ (mem_pinsAt (by simp) hoC')))).1
    refine ⟨m4, ⟨oC, es, ep, h5, hdC, hrC⟩, fun h' sb => ⟨_,H3, ?_,qq⟩⟩
    exact I5.unpinned.turned (t' := s5.toks) (it := HP.objs.size) (fun b o hb e => sb.extBut b o hb e) fC.1 fC.2.1 fC.2.2.2.1 fC.2.2.2.2.1 fC.2.2.2.2.2
  . refine thn (T.item (blk X scope NB HP.objs.size s2 H2 fp) rfl rfl rfl hc i [] s3 (tau js σ) H3 (fun _ _ => False) I3 (statY fr3) st3 go) fun r s4 ⟨u, hr, h4⟩ => ?_
    subst hr
    refine thn h4 fun _ s5 ⟨x, H5, I5, r5, y5, st5, fr5⟩ => ?_
    have I5' := I5.pinned (statY fr5) (T.obj _ _ st5)
    refine thn (hg _ _ _ _ _ s5 (tau js σ) H5 x u _ I5' r5 (step x H5 y5)) fun _ s6 ⟨σ6, H6, I6, ag, q6⟩ => ?_
    have back : ∀ {s7 : Shared} {H7 : Hp}, Inv (blk X scope NB HP.objs.size s2 H2 fp) ([] ++ pinsAt fp s5.heap) σ6 H7 s7 -> Inv (blk X scope NB HP.objs.size s2 H2 fp) [] (tau js σ) H7 s7 /\ tn (i + 1) s7.heap /\ ∀ b ∈ fp, H7 b = none := fun {s7 H7} I7 => by
     refine ⟨I7.unpinned.weak (lenτ.trans I7.len.symm) ag, T.keep _ _ _ st5 fun b hb o e => (I7.pin (b, o) (List.mem_append_right _ (List.mem_append_right _ (mem_pinsAt hb e)))).1, fun b hb => ?_⟩
     obtain ⟨o, e, d⟩ := T.obj _ _ st5 b hb
     exact (I7.pin (b, o) (List.mem_append_right _ (List.mem_append_right _ (mem_pinsAt hb e)))).2.1
    refine thn (ht _ _ _ _ _ s6 σ6 H6 _ I6 q6) fun ok s7 ⟨H7, I7, q7⟩ => ?_
    cases ok with
    | false =>
     obtain ⟨m', hm, w7⟩ := hNN _ _ q7
     obtain ⟨J1, J2, J3⟩ := back I7
     exact ⟨m', hm, i + 1, ys, H7, J1, J2, J3, w7⟩
    | true =>
     refine thn (he _ _ _ _ _ s7 σ6 H7 _ I7 q7) fun v s8 ⟨y8, H8, I8, r8, hD8, hz, n8⟩ => ?_
     obtain ⟨m', hm, w8⟩ := hNN _ _ n8
     refine thn (mt_append _ s8 σ6 H8 (.ref s2.heap.objs.size) [y8] (.ref s2.heap.objs.size) [v] (fun z H' => z = .non /\ H' = upd H8 s2.heap.objs.size (.lst (ys ++ [y8]))) I8 rfl (.cons r8 .nil) ⟨_,ys, y8, rfl,rfl,hD8, hz, ⟨rfl,rfl⟩⟩) fun _ s9 ⟨z, H9, I9, r9, q9⟩ => ?_
     obtain ⟨ez, e9⟩ : z = .non /\ H9 = upd H8 s2.heap.objs.size (.lst (ys ++ [y8])) := q9
     subst e9
     obtain ⟨J1, J2, J3⟩ := back I9
     exact ⟨m', hm, i + 1, ys ++ [y8], _,J1, J2, J3, w8⟩
 exact codeAny_compStart_list (loop _ rfl) (T.self _ _ _ _ _ st1 (loop _ rfl))
end L2
set_option Elab.async false
set_option linter.all false
namespace Be
def mn : List Int -> Int
 | [] => 0
 | [x] => x
 | x :: y :: r => if x <= mn (y :: r) then x else mn (y :: r)
theorem mn_mem : ∀ {l : List Int}, l ≠ [] -> mn l ∈ l
 | [x], _ => by simp [mn]
 | x :: y :: r, _ => by
  have ih := mn_mem (l := y :: r) (by simp)
  unfold mn
  split
  . simp
  . exact List.mem_cons_of_mem _ ih
theorem mn_le : ∀ {l : List Int} {x : Int}, x ∈ l -> mn l <= x
 | [a], x, h => by
  have := List.mem_singleton.mp h
  subst this
  exact Int.le_refl _
 | a :: b :: r, x, h => by
  unfold mn
  rcases List.mem_cons.mp h with rfl | h
  . split
    . exact Int.le_refl _
    . omega
  . have ih := mn_le (l := b :: r) h
    split <;> omega
theorem mn_eq {l : List Int} {M : Int} (h : M ∈ l) (hl : ∀ b ∈ l, M <= b) : M = mn l := by
 have h1 := mn_le h
 have h2 := hl _ (mn_mem (List.ne_nil_of_mem h))
 omega
def pl (l : List Int) : Nat := l.idxOf (mn l)
theorem pl_lt {l : List Int} (h : l ≠ []) : pl l < l.length := List.idxOf_lt_length_iff.mpr (mn_mem h)
theorem pl_get {l : List Int} (h : l ≠ []) : l[pl l]? = some (mn l) := by
 rw [List.getElem?_eq_getElem (pl_lt h)]
 congr 1
 exact List.getElem_idxOf (pl_lt h)
theorem pl_first {l : List Int} : ∀ m, m < pl l -> l[m]? ≠ some (mn l) := by
 intro m hm e
 have h1 := List.getElem?_eq_some_iff.mp e
 obtain ⟨hl, he⟩ := h1
 have : pl l <= m := by
  unfold pl
  have gen : ∀ (l : List Int) (x : Int) (m : Nat) (h : m < l.length), l[m] = x -> l.idxOf x <= m := by
   intro l x
   induction l with
   | nil => intro m h; exact absurd h (Nat.not_lt_zero _)
   | cons a r ih =>
    intro m h e
    rw [List.idxOf_cons]
    cases m with
    | zero =>
     have e' : a = x := e
     rw [e']
     simp
    | succ m =>
     have := ih m (by simpa using h) e
     by_cases c : (a == x) = true
     . rw [c]; exact Nat.zero_le _
     . have c' : (a == x) = false := by simpa using c
       rw [c']
       show r.idxOf x + 1 <= m + 1
       omega
  exact gen l (mn l) m hl he
 omega
abbrev Tk := Int × Int × Int
def nxt (f : List Int) (x : Int) : List Int := f.set (pl f) (mn f + x)
def tk : List Int -> List Int -> List Tk
 | _,[] => []
 | f, x :: r => ((pl f : Int), mn f, mn f + x) :: tk (nxt f x) r
def fr : List Int -> List Int -> List Int
 | f, [] => f
 | f, x :: r => fr (nxt f x) r
theorem tk_len : ∀ (f ls : List Int), (tk f ls).length = ls.length
 | _,[] => rfl
 | f, x :: r => by show (tk (nxt f x) r).length + 1 = _; rw [tk_len]; rfl
theorem fr_len : ∀ (f ls : List Int), (fr f ls).length = f.length
 | _,[] => rfl
 | f, x :: r => by show (fr (nxt f x) r).length = _; rw [fr_len]; exact List.length_set
theorem tk_snoc : ∀ (f ls : List Int) (x : Int), tk f (ls ++ [x]) = tk f ls ++ [((pl (fr f ls) : Int), mn (fr f ls), mn (fr f ls) + x)]
 | f, [], x => rfl
 | f, y :: r, x => by
  show _ :: tk (nxt f y) (r ++ [x]) = _
  rw [tk_snoc]
  rfl
theorem fr_snoc : ∀ (f ls : List Int) (x : Int), fr f (ls ++ [x]) = nxt (fr f ls) x
 | f, [], x => rfl
 | f, y :: r, x => fr_snoc (nxt f y) r x
def zf (b : Nat) : List Int := List.replicate b 0
theorem zf_len (b : Nat) : (zf b).length = b := List.length_replicate
theorem zf_ne {b : Nat} (h : 0 < b) : zf b ≠ [] := by
 intro z
 have := congrArg List.length z
 rw [zf_len] at this
 simp at this
 omega
theorem fr_ne {f ls : List Int} (h : f ≠ []) : fr f ls ≠ [] := by
 intro z
 have := congrArg List.length z
 rw [fr_len] at this
 exact h (List.eq_nil_of_length_eq_zero this)
theorem nxt_ne {f : List Int} {x : Int} (hne : f ≠ []) : nxt f x ≠ [] := fun z => by
 have := congrArg List.length z
 unfold nxt at this
 rw [List.length_set] at this
 exact hne (List.eq_nil_of_length_eq_zero this)
def ens (b : Nat) (ls : List Int) : List Int := (tk (zf b) ls).map fun t => t.2.2
def bgs (b : Nat) (ls : List Int) : List Int := (tk (zf b) ls).map fun t => t.2.1
theorem ens_len (b : Nat) (ls : List Int) : (ens b ls).length = ls.length := by unfold ens; rw [List.length_map, tk_len]
theorem zf_bd (b : Nat) : ∀ y ∈ zf b, 0 <= y /\ y <= 0 := fun y hy => by have := (List.mem_replicate.mp hy).2; omega
theorem sorted_one : ∀ {a b : List Int}, a.Perm b -> a.Pairwise (· <= ·) -> b.Pairwise (· <= ·) -> a = b
 | a, b, p, ha, hb => List.Perm.eq_of_pairwise (fun x y _ _ h1 h2 => Int.le_antisymm h1 h2) ha hb p
end Be
set_option Elab.async false
set_option linter.all false
set_option maxRecDepth 100000
namespace L2
open PySem PySem.Spec PyProof.Rows
theorem comp_tupR {g : TG} {tt : TT} {te : TE} {τ : St} {D : Addr} {H1 : Hp} {R : Hp -> Prop} {K : PySem.W.Frag} {a : Addr} {xs : List V} (Pv : Nat -> List V -> Hp -> Prop) (h0 : Pv 0 [] (upd H1 D (.lst []))) (hl : ∀ i ys H, i <= xs.length -> Pv i ys H -> SqT K H a xs)
    (hs : ∀ i ys x H, xs[i]? = some x -> Pv i ys H -> turnC g tt te τ D ys (Pv (i + 1)) x H) (hd : ∀ ys H, Pv xs.length ys H -> R H) :
    ∃ W : Nat -> Nat -> List V -> Hp -> Prop, (∃ m, W 0 m [] (upd H1 D (.lst []))) /\ ∀ i m ys H, W i m ys H -> ((Itt K a).stop i H /\ R H) \/ ((Itt K a).go i H /\ ∃ N : List V -> Hp -> Prop, (∀ ys' H', N ys' H' -> ∃ m', m' < m /\ W (i + 1) m' ys' H') /\ ∀ x H', (Itt K a).yld i H x H' -> turnC g tt te τ D ys N x H') :=
 comp_tup (Q := fun _ H => R H) Pv h0 hl hs hd
theorem comp_rangeR {g : TG} {tt : TT} {te : TE} {τ : St} {D : Addr} {H1 : Hp} {R : Hp -> Prop} {lo : Int} {n : Nat} (Pv : Nat -> List V -> Hp -> Prop) (h0 : Pv 0 [] (upd H1 D (.lst []))) (hs : ∀ i ys H, i < n -> Pv i ys H -> turnC g tt te τ D ys (Pv (i + 1)) (.int (lo + i)) H) (hd : ∀ ys H, Pv n ys H -> R H) :
    ∃ W : Nat -> Nat -> List V -> Hp -> Prop, (∃ m, W 0 m [] (upd H1 D (.lst []))) /\ ∀ i m ys H, W i m ys H -> ((Itr lo n).stop i H /\ R H) \/ ((Itr lo n).go i H /\ ∃ N : List V -> Hp -> Prop, (∀ ys' H', N ys' H' -> ∃ m', m' < m /\ W (i + 1) m' ys' H') /\ ∀ x H', (Itr lo n).yld i H x H' -> turnC g tt te τ D ys N x H') :=
 comp_range (Q := fun _ H => R H) Pv h0 hs hd
theorem pss_any {X : Cx} {st : List Stmt} : PSs X st (fun _ _ _ => False) := fun _ _ _ _ _ _ h => False.elim h
theorem bt_range : bootBuiltins "range" = some (.type "range") := by decide +kernel
end L2
namespace Be
open PySem L2
def encB (p : Int × Int) : PyData := .tuple [.int p.1, .int p.2]
def encW (W : Wd) : PyData := .tuple [.int W.b, .tuple (W.bs.map encB)]
def encO (o : List Int) : PyData := .tuple (o.map .int)
theorem all_encB (bs : List (Int × Int)) : immut.all (bs.map encB) = true := by
 induction bs with
 | nil => rfl
 | cons p r ih =>
  rw [List.map_cons]
  show (immut (encB p) && immut.all (r.map encB)) = true
  rw [ih]; rfl
structure AtW (H : Hp) (v : V) (W : Wd) (a p : Addr) (vs : List V) : Prop where
 v : v = .ref a
 a : H a = some (.tup [.int W.b, .ref p])
 p : H p = some (.tup vs)
 it : ∀ (i : Nat) (x : Int × Int), W.bs[i]? = some x -> ∃ q, vs[i]? = some (.ref q) /\ H q = some (.tup [.int x.1, .int x.2])
 len : vs.length = W.bs.length
theorem pair_inv {H : Hp} {v : V} {x : Int × Int} (r : Rep H v (encB x)) : ∃ q, v = .ref q /\ H q = some (.tup [.int x.1, .int x.2]) := by
 obtain ⟨q, vs, rfl,hq, rs⟩ := r.tup_inv
 have e : vs = [.int x.1, .int x.2] := Reps.ints_inv (ns := [x.1, x.2]) rs
 subst e
 exact ⟨q, rfl,hq⟩
theorem atW {H : Hp} {v : V} {W : Wd} (r : Rep H v (encW W)) : ∃ a p vs, AtW H v W a p vs := by
 obtain ⟨a, us, rfl,ha, rs⟩ := r.tup_inv
 cases rs with
 | cons r1 rs =>
  cases rs with
  | cons r2 rs =>
   cases rs
   cases r1.int_inv
   obtain ⟨p, vs, rfl,hp, rv⟩ := r2.tup_inv
   refine ⟨a, p, vs, rfl,ha, hp, fun i x e => ?_,by rw [rv.length, List.length_map]⟩
   obtain ⟨u, hu, ru⟩ := rv.get (i := i) (d := encB x) (by rw [List.getElem?_map, e]; rfl)
   obtain ⟨q, rfl,hq⟩ := pair_inv ru
   exact ⟨q, hu, hq⟩
theorem agree0 {x : V} {r : St} : ∀ (k : Nat) (v : V), (none :: r : St)[k]? = some (some v) -> ((none :: r : St).set 0 (some x))[k]? = some (some v)
 | 0, v, h => by cases h
 | k + 1, v, h => h
theorem if_f {c : Bool} {A B : Prop} (h : c = false) (b : B) : if c = true then A else B := by subst h; exact b
theorem if_t {c : Bool} {A B : Prop} (h : c = true) (a : A) : if c = true then A else B := by subst h; exact a
theorem inV_ints (x : Int) : ∀ o : List Int, inV (.int x) (o.map V.int) = decide (x ∈ o)
 | [] => by simp [inV]
 | y :: r => by
  have ih := inV_ints x r
  unfold inV at ih ⊢
  rw [List.map_cons, List.any_cons, ih]
  show ((y == x) || decide (x ∈ r)) = decide (x ∈ y :: r)
  by_cases h : y = x
  . subst h; simp
  . have h2 : ¬ x = y := fun z => h z.symm
    simp [h, h2]
theorem flat_ints : ∀ o : List Int, (o.map V.int).all flatV = true
 | [] => rfl
 | _ :: r => flat_ints r
theorem SqTL.same {K : PySem.W.Frag} {H H' : Hp} {p : Addr} {xs : List V} (e : Same H H') (h : SqL K H p xs \/ SqT K H p xs) : SqL K H' p xs \/ SqT K H' p xs := by
 rcases h with h | h
 . exact .inl (e.seq h)
 . refine .inr ?_
   rcases h with (h | ⟨o, h⟩) | h
   . exact .inl (.inl (e _ _ h))
   . exact .inl (.inr ⟨o, e _ _ h⟩)
   . exact .inr h
theorem seqO {K : PySem.W.Frag} {H : Hp} {v : V} {o : List Int} (r : Rep H v (encO o)) : ∃ p, v = .ref p /\ H p = some (.tup (o.map V.int)) := by
 obtain ⟨p, vs, rfl,hp, rs⟩ := r.tup_inv
 rw [Reps.ints_inv rs] at hp
 exact ⟨p, rfl,hp⟩
section
variable {P : Program} {w : World} {K : PySem.W.Frag} {mg : Str -> Option Value} {base : Heap}
theorem atI_ints {ns : List Int} {k : Int} (h0 : 0 <= k) (h1 : k < (ns.length : Int)) : ∃ v : Int, atI (ns.map V.int) k = some (.int v) := by
 have hk : k.toNat < ns.length := by omega
 have ek : k = ((k.toNat : Nat) : Int) := by omega
 have q : atI (ns.map V.int) ((k.toNat : Nat) : Int) = some (.int ns[k.toNat]) := atI_nat (by rw [List.getElem?_map, List.getElem?_eq_getElem hk] <;> rfl)
 rw [<- ek] at q
 exact ⟨_,q⟩
theorem atI_int {xs : List V} {v : V} {k : Int} (h0 : 0 <= k) (h : xs[k.toNat]? = some v) : atI xs k = some v := by
 have q := atI_nat h
 rw [show ((k.toNat : Nat) : Int) = k by omega] at q
 exact q
def sp_cell (K : PySem.W.Frag) : Sp := fun vs H Q _ => ∃ (a : Addr) (ns : List Int) (k : Int), vs = [.ref a, .int k] /\ Scr K H a ns /\ 0 <= k /\ ∀ (r : Int) (H' : Hp), Same H H' -> Q (.int r) H'
theorem ok_law_cell_at (T : Txt K mg) : FnOk P w K mg base (CXr P w) 1 T.law_cell_at.a T.law_cell_at.d ["_law_script", "_law_k"] (sp_cell K) := by
 refine T.law_cell_at.F.okN sc_law_cell_at (fun vs H Q E h => ?_) (fun cdv A outer s H vs Q E hr h => ?_)
 . obtain ⟨a, ns, k, rfl,_⟩ := h; rfl
 obtain ⟨a, ns, k, rfl,hS, h0, q⟩ := h
 refine ⟨_,(pss_cons (ps_if (pt_cmpR op_lt (pv 1) (pe_callB call_len_seq rfl T.n_len bt_len (pa_cons (pv 0) pa_nil)) (nomark _)) (pss_one (ps_ret (pe_ix ix_list (pv 0) (pv 1) (fun _ _ => rfl)))) pss_nil) (pss_cons (ps_if (pt_cmpR (op_eqNil hr.units0) (pv 0) (pe_lst pa_nil) (nomark _)) (pss_one (ps_ret pe_int)) pss_nil) (pss_one (ps_ret (pe_op op_add (pe_op op_mul (pe_ix ix_list (pv 0) (pe_op op_mod (pv 1) (pe_callB call_len_seq rfl T.n_len bt_len (pa_cons (pv 0) pa_nil))) (fun _ _ => rfl)) pe_int) (pv 1)))))), ?_⟩
 have hl : (ns.map V.int).length = ns.length := List.length_map _
 refine ⟨_,rfl,_,rfl,a, _,rfl,.inl hS.sq, _,_,rfl,rfl,_,rfl,?_⟩
 refine ite2 (fun c => ?_) (fun c => ?_)
 . have c' := of_decide_eq_true c
   rw [hl] at c'
   obtain ⟨v, hv⟩ := atI_ints (ns := ns) h0 c'
   exact ⟨_,rfl,_,rfl,a, _,_,_,rfl,rfl,hS.sq, hv, q v H (Same.refl H)⟩
 . have c' := of_decide_eq_false (Bool.eq_false_iff.mpr c)
   rw [hl] at c'
   refine ⟨_,rfl,Nat.zero_le _,fun l hl' => ?_⟩
   have g1 := same_new hl' (.lst [])
   have hS1 := hS.same g1
   refine ⟨a, l, _,rfl,rfl,hS1.sq, SqL.of upd_same, _,rfl,?_⟩
   refine ite2 (fun c2 => ?_) (fun c2 => ?_)
   . exact q 0 _ g1
   . have hne : ns ≠ [] := fun z => c2 (by rw [z]; rfl)
     have hpos : (0 : Int) < ((ns.map V.int).length : Int) := by rw [hl]; have := List.length_pos_iff.mpr hne; omega
     have m0 := Int.emod_nonneg k (show ((ns.map V.int).length : Int) ≠ 0 by omega)
     have m1 := Int.emod_lt_of_pos k hpos
     obtain ⟨v, hv⟩ := atI_ints (ns := ns) m0 (by rw [hl] at m1 ⊢; exact m1)
     exact ⟨_,rfl,_,rfl,_,rfl,a, _,rfl,.inl hS1.sq, _,_,rfl,rfl,hpos, a, _,_,_,rfl,rfl,hS1.sq, hv, _,_,rfl,rfl,.inr ⟨by decide, by decide⟩, _,rfl,_,_,rfl,rfl,q _ _ g1⟩
def sp_mixed (K : PySem.W.Frag) : Sp := fun vs H Q _ => ∃ (a : Addr) (ns : List Int) (k m : Int), vs = [.ref a, .int k, .int m] /\ Scr K H a ns /\ 0 <= k /\ 0 < m /\ ∀ (r : Int) (H' : Hp), 0 <= r -> r < m -> Same H H' -> Q (.int r) H'
theorem ok_law_mixed (T : Txt K mg) : FnOk P w K mg base (CXr P w) 2 T.law_mixed.a T.law_mixed.d ["_law_script", "_law_k", "_law_many"] (sp_mixed K) := by
 refine T.law_mixed.F.okN sc_law_mixed (fun vs H Q E h => ?_) (fun cdv A outer s H vs Q E hr h => ?_)
 . obtain ⟨a, ns, k, m, rfl,_⟩ := h; rfl
 obtain ⟨a, ns, k, m, rfl,hS, h0, hm, q⟩ := h
 refine ⟨_,(pss_cons (ps_set (i := 3) sc_law_mixed.nd rfl (by first|exact .inl rfl|exact .inr rfl) (pe_op op_mod (pe_op op_add (pe_op op_add (pe_op op_mul (pe_call (ok_law_cell_at T) (hr.mono (by decide)) rfl T.law_cell_at.m T.law_cell_at.F.kp T.law_cell_at.b .nil passN (pa_cons (pv 0) (pa_cons (pv 1) pa_nil))) pe_int) (pe_op op_mul pe_int (pv 1))) pe_int) pe_int)) (pss_one (ps_ret (pe_op op_mod (pe_op op_mod (pe_op op_mod (pe_op op_pow (pv 3) pe_int) pe_int) pe_int) (pv 2))))), ?_⟩
 refine ⟨_,rfl,_,rfl,a, ns, k, rfl,hS, h0, fun r H1 g1 => ?_⟩
 refine ⟨_,_,rfl,rfl,.inr ⟨by decide, by decide⟩, _,rfl,_,_,rfl,rfl,.inl ⟨by decide, by decide⟩, _,_,rfl,rfl,_,_,rfl,rfl,_,_,rfl,rfl,(by show (0 : Int) < 2147483647; decide), ?_⟩
 have l1 := Int.emod_nonneg (r * 1103515245 + 7919 * k + 12345) (show (2147483647 : Int) ≠ 0 by decide)
 have l2 := Int.emod_lt_of_pos (r * 1103515245 + 7919 * k + 12345) (show (0 : Int) < 2147483647 by decide)
 refine ⟨_,rfl,_,_,rfl,rfl,⟨by decide, by decide, ?_⟩, _,_,rfl,rfl,(by show (0 : Int) < 2147483647; decide), _,_,rfl,rfl,(by show (0 : Int) < 999983; decide), _,rfl,_,_,rfl,rfl,hm, ?_⟩
 . exact Nat.lt_of_lt_of_le (show _ < 2147483647 by omega) (by decide)
 exact q _ H1 (Int.emod_nonneg _ (by omega)) (Int.emod_lt_of_pos _ hm) g1
def sp_draw (K : PySem.W.Frag) : Sp := fun vs H Q _ => ∃ (a t : Addr) (ns : List Int) (n : Nat) (m : Int), vs = [.ref a, .ref t, .int m] /\ Scr K H a ns /\ H t = some (.lst (zeros n)) /\ n < 5000 /\ 0 < m /\
 ∀ (r : Int) (H' : Hp), 0 <= r -> r < m -> SameX t H H' -> H' t = some (.lst (zeros (n + 1))) -> Q (.int r) H'
theorem ok_law_draw (T : Txt K mg) : FnOk P w K mg base (CXr P w) 3 T.law_draw.a T.law_draw.d ["_law_script", "_law_town", "_law_many"] (sp_draw K) := by
 refine T.law_draw.F.okN sc_law_draw (fun vs H Q E h => ?_) (fun cdv A outer s H vs Q E hr h => ?_)
 . obtain ⟨a, t, ns, n, m, rfl,_⟩ := h; rfl
 obtain ⟨a, t, ns, n, m, rfl,hS, ht, hn, hm, q⟩ := h
 refine ⟨_,(pss_cons (ps_expr (pe_bm PySem.F.plainAttrs_list PySem.F.slot_list_append PySem.F.type_list_append mt_append (pv 1) (pa_cons pe_int pa_nil))) (pss_one (ps_ret (pe_call (ok_law_mixed T) (hr.mono (by decide)) rfl T.law_mixed.m T.law_mixed.F.kp T.law_mixed.b .nil passN (pa_cons (pv 0) (pa_cons (pe_callB call_len_seq rfl T.n_len bt_len (pa_cons (pv 1) pa_nil)) (pa_cons (pv 2) pa_nil))))))), ?_⟩
 refine ⟨_,rfl,.inl ⟨rfl,_,SqL.of ht⟩, t, _,_,rfl,rfl,ht, (by rw [zeros_len]; exact Nat.lt_of_lt_of_le hn (by decide)), ?_⟩
 rw [zeros_succ]
 have gx : SameX t H (upd H t (.lst (zeros (n + 1)))) := (SameX.refl t H).write _
 have hS1 := gx.scr ht hS
 refine ⟨_,rfl,_,rfl,t, _,rfl,.inl (SqL.of upd_same), _,rfl,a, ns, _,m, rfl,hS1, by omega, hm, fun r H' l1 l2 g => ?_⟩
 exact q r H' l1 l2 (gx.trans (g.x t)) (g _ _ upd_same)
def sp_pick (K : PySem.W.Frag) : Sp := fun vs H Q _ => ∃ (a t p : Addr) (ns : List Int) (n : Nat) (xs : List V), vs = [.ref a, .ref t, .ref p] /\ Scr K H a ns /\ H t = some (.lst (zeros n)) /\ n < 5000 /\ H p = some (.lst xs) /\ p ≠ t /\ xs ≠ [] /\
 ∀ (v : V) (H' : Hp), v ∈ xs -> SameX t H H' -> H' t = some (.lst (zeros (n + 1))) -> Q v H'
theorem ok_law_pick (T : Txt K mg) : FnOk P w K mg base (CXr P w) 4 T.law_pick.a T.law_pick.d ["_law_script", "_law_town", "_law_some_here"] (sp_pick K) := by
 refine T.law_pick.F.okN sc_law_pick (fun vs H Q E h => ?_) (fun cdv A outer s H vs Q E hr h => ?_)
 . obtain ⟨a, t, p, ns, n, xs, rfl,_⟩ := h; rfl
 obtain ⟨a, t, p, ns, n, xs, rfl,hS, ht, hn, hp, hpt, hx, q⟩ := h
 refine ⟨_,(pss_one (ps_ret (pe_ix ix_list (pv 2) (pe_call (ok_law_draw T) (hr.mono (by decide)) rfl T.law_draw.m T.law_draw.F.kp T.law_draw.b .nil passN (pa_cons (pv 0) (pa_cons (pv 1) (pa_cons (pe_callB call_len_seq rfl T.n_len bt_len (pa_cons (pv 2) pa_nil)) pa_nil)))) (fun _ _ => rfl)))), ?_⟩
 have hpos := List.length_pos_iff.mpr hx
 refine ⟨_,rfl,_,rfl,_,rfl,_,rfl,p, _,rfl,.inl (SqL.of hp), a, t, ns, n, _,rfl,hS, ht, hn, by omega, fun r H' l1 l2 g ht' => ?_⟩
 have hr' : r.toNat < xs.length := by omega
 exact ⟨p, xs, r, xs[r.toNat], rfl,rfl,SqL.of (g p _ hpt hp), atI_int l1 (by simp [hr']), q _ H' (List.getElem_mem hr') g ht'⟩
def sp_world (K : PySem.W.Frag) : Sp := fun vs H Q _ => ∃ (a t : Addr) (ns : List Int) (n : Nat) (most wide : Int), vs = [.ref a, .ref t, .int most, .int wide] /\ Scr K H a ns /\ H t = some (.lst (zeros n)) /\ n < 4000 /\ 1 <= most /\ most <= 10 /\ 1 <= wide /\ wide <= 99 /\
 ∀ (W : Wd) (v : V) (n' : Nat) (H' : Hp), W.Ok -> (W.bs.length : Int) <= most -> (∀ p ∈ W.bs, p.2 <= p.1 + wide - 1) -> Rep H' v (encW W) -> SameX t H H' -> H' t = some (.lst (zeros n')) -> n' <= n + 24 -> Q v H'
theorem ok_law_world (T : Txt K mg) : FnOk P w K mg base (CXr P w) 5 T.law_world.a T.law_world.d ["_law_script", "_law_town", "_law_most", "_law_wide"] (sp_world K) := by
 refine T.law_world.F.okN sc_law_world (fun vs H Q E h => ?_) (fun cdv A outer s H vs Q E hr h => ?_)
 . obtain ⟨a, t, ns, n, most, wide, rfl,_⟩ := h; rfl
 obtain ⟨a, t, ns, n, most, wide, rfl,hS, ht, hn, hm1, hm2, hw1, hw2, q⟩ := h
 refine ⟨_,(pss_cons (ps_set (i := 4) sc_law_world.nd rfl (by first|exact .inl rfl|exact .inr rfl) (pe_tup pa_nil)) (pss_cons (ps_set (i := 5) sc_law_world.nd rfl (by first|exact .inl rfl|exact .inr rfl) (pe_call (ok_law_pick T) (hr.mono (by decide)) rfl T.law_pick.m T.law_pick.F.kp T.law_pick.b .nil passN (pa_cons (pv 0) (pa_cons (pv 1) (pa_cons (pe_lst (pa_cons pe_int (pa_cons pe_int (pa_cons pe_int (pa_cons pe_int pa_nil))))) pa_nil))))) (pss_cons (ps_for PassesOwn.never rfl (pi_range1 rfl T.n_range (pa_cons (pe_op op_add pe_int (pe_call (ok_law_draw T) (hr.mono (by decide)) rfl T.law_draw.m T.law_draw.F.kp T.law_draw.b .nil passN (pa_cons (pv 0) (pa_cons (pv 1) (pa_cons (pv 2) pa_nil))))) pa_nil)) (pg_name (i := 6) sc_law_world.nd rfl (by first|exact .inl rfl|exact .inr rfl)) (pss_cons (ps_set (i := 7) sc_law_world.nd rfl (by first|exact .inl rfl|exact .inr rfl) (pe_op op_add pe_int (pe_call (ok_law_draw T) (hr.mono (by decide)) rfl T.law_draw.m T.law_draw.F.kp T.law_draw.b .nil passN (pa_cons (pv 0) (pa_cons (pv 1) (pa_cons (pv 5) pa_nil)))))) (pss_one (ps_set (i := 4) sc_law_world.nd rfl (by first|exact .inl rfl|exact .inr rfl) (pe_op op_catA (pv 4) (pe_tup (pa_cons (pe_tup (pa_cons (pv 7) (pa_cons (pe_callB (call_min2 rfl) rfl T.n_min bt_min (pa_cons pe_int (pa_cons (pe_op op_add (pv 7) (pe_call (ok_law_draw T) (hr.mono (by decide)) rfl T.law_draw.m T.law_draw.F.kp T.law_draw.b .nil passN (pa_cons (pv 0) (pa_cons (pv 1) (pa_cons (pv 3) pa_nil))))) pa_nil))) pa_nil))) pa_nil))))))) (pss_one (ps_ret (pe_tup (pa_cons (pe_op op_add pe_int (pe_call (ok_law_draw T) (hr.mono (by decide)) rfl T.law_draw.m T.law_draw.F.kp T.law_draw.b .nil passN (pa_cons (pv 0) (pa_cons (pv 1) (pa_cons pe_int pa_nil))))) (pa_cons (pv 4) pa_nil)))))))), ?_⟩
 refine ⟨by show 0 <= sizeLine; decide, fun m0 hm0 => ?_⟩
 have g0 := same_new hm0 (.tup [])
 have hS0 := hS.same g0
 have t0 := g0 _ _ ht
 have hm00 : upd H m0 (.tup []) m0 = some (.tup []) := upd_same
 generalize upd H m0 (.tup []) = H0 at *
 refine ⟨_,rfl,_,rfl,(by show 4 <= sizeLine; decide), fun p hp => ?_⟩
 have hpt : p ≠ t := fun z => by rw [z, t0] at hp; cases hp
 have g1 := same_new hp (.lst [.int 4, .int 9, .int 30, .int 90])
 refine ⟨a, t, p, ns, n, _,rfl,hS0.same g1, g1 _ _ t0, by omega, upd_same, hpt, by simp, fun v H2 hv g2 t2 => ?_⟩
 obtain ⟨top', rfl,htop1, htop2⟩ : ∃ z : Int, v = .int z /\ 1 <= z /\ z <= 90 := by
  simp only [List.mem_cons, List.not_mem_nil, or_false] at hv
  rcases hv with rfl | rfl | rfl | rfl
  . exact ⟨4, rfl,by omega, by omega⟩
  . exact ⟨9, rfl,by omega, by omega⟩
  . exact ⟨30, rfl,by omega, by omega⟩
  . exact ⟨90, rfl,by omega, by omega⟩
 have gx2 : SameX t H0 H2 := (g1.x t).trans g2
 have hS2 := gx2.scr t0 hS0
 have m02 : m0 ≠ t := fun z => by rw [z, t0] at hm00; cases hm00
 have hm2' := gx2 _ _ m02 hm00
 refine ⟨_,rfl,_,rfl,_,rfl,a, t, ns, n + 1, most, rfl,hS2, t2, by omega, by omega, fun r H3 r0 r1 g3 t3 => ?_⟩
 have hS3 := g3.scr t2 hS2
 have gx3 : SameX t H H3 := ((g0.x t).trans gx2).trans g3
 refine ⟨_,_,rfl,rfl,1 + r, rfl,by omega, by omega, for_range (n := (1 + r).toNat) (fun i σ H4 => ∃ (n2 : Nat) (m : Addr) (ws : List V) (bl : List (Int × Int)) (x y : Option V), σ = [some (.ref a), some (.ref t), some (.int most), some (.int wide), some (.ref m), some (.int top'), x, y] /\
     SameX t H H4 /\ H4 t = some (.lst (zeros n2)) /\ n2 <= n + 2 + 2 * i /\ H4 m = some (.tup ws) /\ Reps H4 ws (bl.map encB) /\ bl.length = i /\ ∀ p ∈ bl, 1 <= p.1 /\ p.1 <= p.2 /\ p.2 <= 99 /\ p.2 <= p.1 + wide - 1) ?_ ?_ ?_⟩
 . exact ⟨n + 2, m0, [], [], none, none, rfl,gx3, t3, by omega, g3 _ _ m02 hm2', .nil, rfl,fun p hp => nomatch hp⟩
 . rintro i σ H4 hi ⟨n2, m, ws, bl, x, y, rfl,g4, t4, hn2, hm4, rs, hbl, hb⟩
   have hi10 : i < 10 := by omega
   have hS4 := g4.scr ht hS
   refine ⟨_,rfl,_,rfl,_,rfl,a, t, ns, n2, top', rfl,hS4, t4, by omega, by omega, fun r1 H5 a1 a2 g5 t5 => ?_⟩
   have hS5 := g5.scr t4 hS4
   refine ⟨_,_,rfl,rfl,?_⟩
   refine ⟨_,rfl,_,rfl,_,rfl,_,rfl,_,rfl,_,rfl,a, t, ns, n2 + 1, wide, rfl,hS5, t5, by omega, by omega, fun r2 H6 b1 b2 g6 t6 => ?_⟩
   refine ⟨_,_,rfl,rfl,_,_,rfl,(by show 2 <= sizeLine; decide), fun p3 hp3 => ?_⟩
   have mt : m ≠ t := fun z => by rw [z, t4] at hm4; cases hm4
   have ts6 : TSame H4 H6 := (g5.ts t4).trans (g6.ts t5)
   have k3 := same_new hp3 (.tup [.int (1 + r1), .int (if 1 + r1 + r2 < 99 then 1 + r1 + r2 else 99)])
   have e3 : upd H6 p3 (.tup [.int (1 + r1), .int (if 1 + r1 + r2 < 99 then 1 + r1 + r2 else 99)]) p3 = some (.tup [.int (1 + r1), .int (if 1 + r1 + r2 < 99 then 1 + r1 + r2 else 99)]) := upd_same
   generalize upd H6 p3 (.tup [.int (1 + r1), .int (if 1 + r1 + r2 < 99 then 1 + r1 + r2 else 99)]) = H7 at *
   refine ⟨by show 1 <= sizeLine; decide, fun p4 hp4 => ?_⟩
   have k4 := same_new hp4 (.tup [.ref p3])
   have e4 : upd H7 p4 (.tup [.ref p3]) p4 = some (.tup [.ref p3]) := upd_same
   generalize upd H7 p4 (.tup [.ref p3]) = H8 at *
   have k34 := k3.trans k4
   have hm8 := k34 _ _ (ts6 _ _ hm4)
   have wl := rs.length
   rw [List.length_map, hbl] at wl
   refine ⟨m, p4, ws, [.ref p3], rfl,rfl,hm8, e4, Nat.le_trans (show ws.length + 1 <= 100 by omega) (by decide), fun p5 H9 g9 h9 => ?_⟩
   have ts9 : TSame H4 H9 := (ts6.trans k34.ts).trans g9.ts
   refine ⟨n2 + 2, p5, ws ++ [.ref p3], bl ++ [(1 + r1, if 1 + r1 + r2 < 99 then 1 + r1 + r2 else 99)], _,_,rfl,?_,g9 _ _ (k34 _ _ t6), by omega, h9, ?_,by simp [hbl], fun p hp => ?_⟩
   . exact ((g4.trans g5).trans g6).trans ((k34.trans g9).x t)
   . rw [List.map_append]
     refine (rs.tmono ts9 (all_encB bl)).append (Reps.one (.tup (g9 _ _ (k4 _ _ e3)) (Reps.ints (ns := [_,_]))))
   . rcases List.mem_append.mp hp with hp | hp
     . exact hb p hp
     . have e := List.mem_singleton.mp hp
       subst e
       dsimp only
       split <;> omega
 . rintro σ H4 ⟨n2, m, ws, bl, x, y, rfl,g4, t4, hn2, hm4, rs, hbl, hb⟩
   have hS4 := g4.scr ht hS
   have hbl' : bl.length = (1 + r).toNat := hbl
   refine ⟨_,rfl,_,rfl,a, t, ns, n2, 4, rfl,hS4, t4, by omega, by decide, fun r3 H5 c1 c2 g5 t5 => ?_⟩
   refine ⟨_,_,rfl,rfl,_,rfl,by show 2 <= sizeLine; decide, fun p2 hp2 => ?_⟩
   have k2 := same_new hp2 (.tup [.int (1 + r3), .ref m])
   have ts : TSame H4 (upd H5 p2 (.tup [.int (1 + r3), .ref m])) := (g5.ts t4).trans k2.ts
   refine q ⟨1 + r3, bl⟩ _ n2.succ _ ⟨by show 1 <= 1 + r3; omega, by show 1 + r3 <= 4; omega, by show 1 <= bl.length; omega, by show bl.length <= 10; omega, fun p hp => ?_⟩ (by show (bl.length : Int) <= most; omega) (fun p hp => (hb p hp).2.2.2) ?_ ((g4.trans g5).new hp2 _) (k2 _ _ t5) (by omega)
   . have := hb p hp
     exact ⟨this.1, this.2.1, this.2.2.1⟩
   . exact .tup upd_same (.cons (.int _) (.cons (.tup (ts _ _ hm4) (rs.tmono ts (all_encB bl))) .nil))
def InB (W : Wd) (ls : List Int) : Prop := ls.length = W.bs.length /\ ∀ (i : Nat) (p : Int × Int) (x : Int), W.bs[i]? = some p -> ls[i]? = some x -> p.1 <= x /\ x <= p.2
theorem InB.l10 {W : Wd} {ls : List Int} (h : InB W ls) (hok : W.Ok) : ls.length <= 10 := by rw [h.1]; exact hok.l10
theorem agree2 {x y : V} {r : St} : ∀ (k : Nat) (v : V), (none :: none :: r : St)[k]? = some (some v) -> (((none :: none :: r : St).set 0 (some x)).set 1 (some y))[k]? = some (some v)
 | 0, v, h => by cases h
 | 1, v, h => by cases h
 | k + 2, v, h => h
end
end Be
set_option Elab.async false
set_option linter.all false
namespace Be
theorem set_perm : ∀ {l : List Int} {i : Nat} {x v : Int}, l[i]? = some x -> ∃ r, l.Perm (x :: r) /\ (l.set i v).Perm (v :: r)
 | [], i, x, v, h => by simp at h
 | y :: l, 0, x, v, h => by
  have : y = x := by simpa using h
  subst this
  exact ⟨l, List.Perm.refl _,List.Perm.refl _⟩
 | y :: l, i + 1, x, v, h => by
  obtain ⟨r, p1, p2⟩ := set_perm (l := l) (i := i) (x := x) (v := v) (by simpa using h)
  refine ⟨y :: r, (p1.cons y).trans (List.Perm.swap x y r), ?_⟩
  rw [List.set_cons_succ]
  exact (p2.cons y).trans (List.Perm.swap v y r)
end Be
set_option Elab.async false
set_option linter.all false
namespace Be
end Be
set_option Elab.async false
set_option linter.all false
namespace Be
end Be
set_option Elab.async false
set_option linter.all false
set_option maxRecDepth 100000
namespace BE
open PySem PySem.W PyProof.Rows
def ev {α : Type} (lt : Nat -> Nat -> Bool) : KasT α -> α
 | .ret a => a
 | .ask i j k => ev lt (k (lt i j))
theorem ev_bind {α β : Type} (lt : Nat -> Nat -> Bool) (f : α -> KasT β) : ∀ t : KasT α, ev lt (t.bind f) = ev lt (f (ev lt t))
 | .ret _ => rfl
 | .ask i j k => ev_bind lt f (k (lt i j))
section
variable (key : Nat -> Int)
def kl (i j : Nat) : Bool := decide (key i < key j)
def ky (p : Array Nat) (i : Nat) : Int := key (p.getD i 0)
def Up (p : Array Nat) (m : Nat) : Prop := ∀ i j, i <= j -> j < m -> ky key p i <= ky key p j
def Dn (p : Array Nat) (m : Nat) : Prop := ∀ i j, i <= j -> j < m -> ky key p j <= ky key p i
variable {key}
theorem ky_congr {p q : Array Nat} {i j : Nat} (h : p[i]? = q[j]?) : ky key p i = ky key q j := by
 unfold ky
 rw [Array.getD_eq_getD_getElem?, Array.getD_eq_getD_getElem?, h]
theorem kl_true {p : Array Nat} {i j : Nat} (h : kl key (p.getD i 0) (p.getD j 0) = true) : ky key p i < ky key p j := of_decide_eq_true h
theorem kl_false {p : Array Nat} {i j : Nat} (h : kl key (p.getD i 0) (p.getD j 0) = false) : ky key p j <= ky key p i := by
 have := of_decide_eq_false h
 unfold ky
 omega
theorem Up.snoc {p : Array Nat} {n : Nat} (h : Up key p n) (h1 : 1 <= n) (hl : ky key p (n - 1) <= ky key p n) : Up key p (n + 1) := fun i j hij hj => by
 by_cases c : j < n
 . exact h i j hij c
 . have e : j = n := by omega
   subst e
   by_cases d : i = j
   . subst d; exact Int.le_refl _
   . have := h i (j - 1) (by omega) (by omega)
     omega
theorem Dn.snoc {p : Array Nat} {n : Nat} (h : Dn key p n) (h1 : 1 <= n) (hl : ky key p n <= ky key p (n - 1)) : Dn key p (n + 1) := fun i j hij hj => by
 by_cases c : j < n
 . exact h i j hij c
 . have e : j = n := by omega
   subst e
   by_cases d : i = j
   . subst d; exact Int.le_refl _
   . have := h i (j - 1) (by omega) (by omega)
     omega
theorem ev_asc {p : Array Nat} : ∀ (f n : Nat), 1 <= n -> Up key p n -> ∃ m, ev (kl key) (kas_asc p f n) = m /\ n <= m /\ m <= n + f /\ Up key p m /\ (m < n + f -> ky key p m < ky key p (m - 1))
 | 0, n, h1, hu => ⟨n, rfl,Nat.le_refl _,Nat.le_refl _,hu, fun h => by omega⟩
 | f + 1, n, h1, hu => by
  show ∃ m, ev (kl key) (if kl key (p.getD n 0) (p.getD (n - 1) 0) = true then .ret n else kas_asc p f (n + 1)) = m /\ _
  cases c : kl key (p.getD n 0) (p.getD (n - 1) 0) with
  | true => exact ⟨n, rfl,Nat.le_refl _,by omega, hu, fun _ => kl_true c⟩
  | false =>
   obtain ⟨m, e, a, b, u, l⟩ := ev_asc f (n + 1) (by omega) (hu.snoc h1 (kl_false c))
   exact ⟨m, e, by omega, by omega, u, fun h => l (by omega)⟩
theorem rev_ky {p : Array Nat} {i j : Nat} (hj : j <= p.size) (k : Nat) : ky key (kas_rev p i j) k = if i <= k /\ k < j then ky key p (i + j - 1 - k) else ky key p k := by
 have h := getElem?_mirror_all (xs := p) (i := i) hj k
 split at h
 . rename_i c
   rw [if_pos c]
   exact ky_congr h
 . rename_i c
   rw [if_neg c]
   exact ky_congr h
theorem rev_size (p : Array Nat) (i j : Nat) : (kas_rev p i j).size = p.size := mirror_size _ _ _ _
theorem rev_perm (p : Array Nat) (i j : Nat) : (kas_rev p i j).Perm p := mirror_perm _ _ _ _
theorem rev_eq {p : Array Nat} {i j : Nat} (hj : j <= p.size) (h : ∀ a b, i <= a -> a < j -> i <= b -> b < j -> ky key p a = ky key p b) (k : Nat) : ky key (kas_rev p i j) k = ky key p k := by
 rw [rev_ky hj]
 split
 . exact h _ _ (by omega) (by omega) (by omega) (by omega)
 . rfl
theorem Dn.rev {p : Array Nat} {n : Nat} (hn : n <= p.size) (h : Dn key p n) : Up key (kas_rev p 0 n) n := fun i j hij hj => by
 rw [rev_ky hn, rev_ky hn, if_pos (by omega), if_pos (by omega)]
 exact h _ _ (by omega) (by omega)
theorem Dn.congr {p q : Array Nat} {n : Nat} (h : Dn key p n) (e : ∀ k, ky key q k = ky key p k) : Dn key q n := fun i j hij hj => by rw [e, e]; exact h i j hij hj
def Eqs (key : Nat -> Int) (p : Array Nat) (n q : Nat) : Prop := q + 1 <= n /\ ∀ a b, n - (q + 1) <= a -> a < n -> n - (q + 1) <= b -> b < n -> ky key p a = ky key p b
theorem ev_desc : ∀ (f : Nat) (p : Array Nat) (n q : Nat), 1 <= n -> n + f <= p.size -> Dn key p n -> Eqs key p n q -> ∃ p' m r, ev (kl key) (kas_desc f p n q) = (p', m, r) /\ p'.Perm p /\ n <= m /\ m <= n + f /\ Dn key p' m /\ Eqs key p' m r
 | 0, p, n, q, h1, hz, hd, he => ⟨p, n, q, rfl,Array.Perm.refl _,Nat.le_refl _,Nat.le_refl _,hd, he⟩
 | f + 1, p, n, q, h1, hz, hd, he => by
  show ∃ p' m r, ev (kl key) (if kl key (p.getD n 0) (p.getD (n - 1) 0) = true then (if q > 0 then kas_desc f (kas_rev p (n - (q + 1)) n) (n + 1) 0 else kas_desc f p (n + 1) 0)
   else .ask (p.getD (n - 1) 0) (p.getD n 0) fun d => if d = true then .ret (p, n, q) else kas_desc f p (n + 1) (q + 1)) = _ /\ _
  have one : ∀ (x : Array Nat), Eqs key x (n + 1) 0 := fun x => ⟨by omega, fun a b a1 a2 b1 b2 => by
   have : a = b := by omega
   rw [this]⟩
  cases c : kl key (p.getD n 0) (p.getD (n - 1) 0) with
  | true =>
   rw [if_pos rfl]
   have hl := kl_true c
   by_cases hq : q > 0
   . rw [if_pos hq]
     have re := rev_eq (p := p) (i := n - (q + 1)) (j := n) (by omega) he.2
     have hd' : Dn key (kas_rev p (n - (q + 1)) n) (n + 1) := (hd.snoc h1 (by omega)).congr re
     obtain ⟨p', m, r, e, pm, a, b, d, q'⟩ := ev_desc f (kas_rev p (n - (q + 1)) n) (n + 1) 0 (by omega) (by rw [rev_size]; omega) hd' (one _)
     exact ⟨p', m, r, e, pm.trans (rev_perm _ _ _), by omega, by omega, d, q'⟩
   . rw [if_neg hq]
     obtain ⟨p', m, r, e, pm, a, b, d, q'⟩ := ev_desc f p (n + 1) 0 (by omega) (by omega) (hd.snoc h1 (by omega)) (one _)
     exact ⟨p', m, r, e, pm, by omega, by omega, d, q'⟩
  | false =>
   rw [if_neg (by simp)]
   show ∃ p' m r, ev (kl key) (if kl key (p.getD (n - 1) 0) (p.getD n 0) = true then .ret (p, n, q) else kas_desc f p (n + 1) (q + 1)) = _ /\ _
   have l1 := kl_false c
   cases c2 : kl key (p.getD (n - 1) 0) (p.getD n 0) with
   | true => exact ⟨p, n, q, rfl,Array.Perm.refl _,Nat.le_refl _,by omega, hd, he⟩
   | false =>
    have l2 := kl_false c2
    have heq : Eqs key p (n + 1) (q + 1) := ⟨by have := he.1; omega, fun a b a1 a2 b1 b2 => by
     have h0 := he.1
     have last : ∀ x, n + 1 - (q + 1 + 1) <= x -> x < n + 1 -> ky key p x = ky key p (n - 1) := fun x x1 x2 => by
      by_cases z : x < n
      . exact he.2 _ _ (by omega) z (by omega) (by omega)
      . have : x = n := by omega
        subst this
        omega
     rw [last a a1 a2, last b b1 b2]⟩
    obtain ⟨p', m, r, e, pm, a, b, d, q'⟩ := ev_desc f p (n + 1) (q + 1) (by omega) (by omega) (hd.snoc h1 (by omega)) heq
    exact ⟨p', m, r, e, pm, by omega, by omega, d, q'⟩
theorem ev_tail3 {p : Array Nat} {n nrem : Nat} (h1 : 1 <= n) (hn : n <= nrem) (hz : nrem <= p.size) (hd : Dn key p n) : ∃ m q, ev (kl key) (kas_tail3 n nrem p) = (m, q) /\ q.Perm p /\ 1 <= m /\ m <= nrem /\ Up key q m := by
 unfold kas_tail3
 rw [ev_bind]
 obtain ⟨m, e, a, b, u, _⟩ := ev_asc (p := kas_rev p 0 n) (nrem - n) n h1 (hd.rev (by omega))
 rw [e]
 exact ⟨m, _,rfl,rev_perm _ _ _,by omega, by omega, u⟩
theorem ev_descPart {p : Array Nat} {n nrem : Nat} (h1 : 1 <= n) (hn : n + 1 <= nrem) (hz : nrem <= p.size) (hd : Dn key p (n + 1)) : ∃ m q, ev (kl key) (kas_descPart n nrem p) = (m, q) /\ q.Perm p /\ 1 <= m /\ m <= nrem /\ Up key q m := by
 unfold kas_descPart
 rw [ev_bind]
 obtain ⟨p', m, r, e, pm, a, b, d, q'⟩ := ev_desc (nrem - (n + 1)) p (n + 1) 0 (by omega) (by omega) hd ⟨by omega, fun a b a1 a2 b1 b2 => by
  have : a = b := by omega
  rw [this]⟩
 rw [e]
 have sz : p'.size = p.size := pm.size_eq
 dsimp only
 split
 . have re := rev_eq (p := p') (i := m - (r + 1)) (j := m) (by omega) q'.2
   obtain ⟨m2, q2, e2, pm2, x1, x2, u⟩ := ev_tail3 (p := kas_rev p' (m - (r + 1)) m) (n := m) (nrem := nrem) (by omega) (by omega) (by rw [rev_size]; omega) (d.congr re)
   exact ⟨m2, q2, e2, (pm2.trans (rev_perm _ _ _)).trans pm, x1, x2, u⟩
 . obtain ⟨m2, q2, e2, pm2, x1, x2, u⟩ := ev_tail3 (p := p') (n := m) (nrem := nrem) (by omega) (by omega) (by omega) d
   exact ⟨m2, q2, e2, pm2.trans pm, x1, x2, u⟩
theorem ev_count {p : Array Nat} {n : Nat} (h2 : 2 <= n) (hz : n <= p.size) : ∃ m q, ev (kl key) (kas_count n p) = (m, q) /\ q.Perm p /\ 1 <= m /\ m <= n /\ Up key q m := by
 unfold kas_count
 rw [ev_bind]
 obtain ⟨m, e, a, b, u, l⟩ := ev_asc (p := p) (key := key) (n - 1) 1 (Nat.le_refl _) (fun i j hij hj => by
  have : i = j := by omega
  rw [this]; exact Int.le_refl _)
 rw [e]
 by_cases c : (m == n) = true
 . rw [if_pos c]
   exact ⟨m, p, rfl,Array.Perm.refl _,a, by omega, u⟩
 . rw [if_neg c]
   have hmn : m < n := by
    have : m ≠ n := by simpa using c
    omega
   have hl := l (by omega)
   by_cases c1 : m > 1
   . rw [if_pos c1]
     show ∃ m' q, ev (kl key) (if kl key (p.getD 0 0) (p.getD (m - 1) 0) = true then .ret (m, p) else kas_descPart m n (kas_rev p 0 m)) = _ /\ _
     cases c2 : kl key (p.getD 0 0) (p.getD (m - 1) 0) with
     | true => exact ⟨m, p, rfl,Array.Perm.refl _,a, by omega, u⟩
     | false =>
      have l2 := kl_false c2
      have eqs : ∀ x y, 0 <= x -> x < m -> 0 <= y -> y < m -> ky key p x = ky key p y := fun x y _ hx _ hy => by
       have a1 := u 0 x (by omega) hx
       have a2 := u x (m - 1) (by omega) (by omega)
       have a3 := u 0 y (by omega) hy
       have a4 := u y (m - 1) (by omega) (by omega)
       omega
      have re := rev_eq (p := p) (i := 0) (j := m) (by omega) eqs
      have hd : Dn key p (m + 1) := Dn.snoc (fun i j hij hj => by rw [eqs i j (by omega) (by omega) (by omega) hj]; exact Int.le_refl _) (by omega) (by omega)
      obtain ⟨m2, q2, e2, pm2, x1, x2, u2⟩ := ev_descPart (p := kas_rev p 0 m) (n := m) (nrem := n) (by omega) (by omega) (by rw [rev_size]; omega) (hd.congr re)
      exact ⟨m2, q2, e2, pm2.trans (rev_perm _ _ _), x1, x2, u2⟩
   . rw [if_neg c1]
     have em : m = 1 := by omega
     subst em
     have hd : Dn key p (1 + 1) := Dn.snoc (fun i j hij hj => by
      have : i = j := by omega
      rw [this]; exact Int.le_refl _) (by omega) (by omega)
     exact ev_descPart (p := p) (n := 1) (nrem := n) (by omega) (by omega) hz hd
theorem ev_place {p : Array Nat} {k : Nat} (hu : Up key p k) : ∀ (f l r : Nat), l <= r -> r <= k -> r - l <= f -> (∀ i, i < l -> ky key p i <= ky key p k) -> (∀ i, r <= i -> i < k -> ky key p k < ky key p i) ->
    ∃ x, ev (kl key) (kas_place p k f l r) = x /\ x <= k /\ (∀ i, i < x -> ky key p i <= ky key p k) /\ ∀ i, x <= i -> i < k -> ky key p k < ky key p i
 | 0, l, r, hlr, hr, hf, h1, h2 => ⟨l, rfl,by omega, h1, fun i a b => h2 i (by omega) b⟩
 | f + 1, l, r, hlr, hr, hf, h1, h2 => by
  unfold kas_place
  by_cases c : l >= r
  . rw [if_pos c]
    exact ⟨l, rfl,by omega, h1, fun i a b => h2 i (by omega) b⟩
  . rw [if_neg c]
    show ∃ x, ev (kl key) (if kl key (p.getD k 0) (p.getD ((l + r) / 2) 0) = true then kas_place p k f l ((l + r) / 2) else kas_place p k f ((l + r) / 2 + 1) r) = x /\ _
    cases c2 : kl key (p.getD k 0) (p.getD ((l + r) / 2) 0) with
    | true =>
     have hl := kl_true c2
     exact ev_place hu f l ((l + r) / 2) (by omega) (by omega) (by omega) h1 fun i a b => by
      have := hu ((l + r) / 2) i a b
      omega
    | false =>
     have hl := kl_false c2
     exact ev_place hu f ((l + r) / 2 + 1) r (by omega) (by omega) (by omega) (fun i a => by
      have := hu i ((l + r) / 2) (by omega) (by omega)
      omega) h2
theorem ev_bin : ∀ (f : Nat) (p : Array Nat) (k : Nat), k + f <= p.size -> Up key p k -> ∃ q, ev (kl key) (kas_bin f p k) = q /\ q.Perm p /\ Up key q (k + f)
 | 0, p, k, _,hu => ⟨p, rfl,Array.Perm.refl _,hu⟩
 | f + 1, p, k, hz, hu => by
  unfold kas_bin
  rw [ev_bind]
  obtain ⟨l, e, hl, h1, h2⟩ := ev_place hu k 0 k (by omega) (Nat.le_refl _) (by omega) (fun i hi => by omega) fun i a b => by omega
  rw [e]
  have gb : ∀ i, ky key (bubble p k (k - l)) i = if i = l then ky key p k else if l < i /\ i <= k then ky key p (i - 1) else ky key p i := fun i => by
   have h := getElem?_bubble (xs := p) (src := k) (by omega) (k - l) (by omega) i
   rw [show k - (k - l) = l by omega] at h
   split at h
   . rename_i c; rw [if_pos c]; exact ky_congr h
   . rename_i c
     rw [if_neg c]
     split at h
     . rename_i c2; rw [if_pos c2]; exact ky_congr h
     . rename_i c2; rw [if_neg c2]; exact ky_congr h
  have hu' : Up key (bubble p k (k - l)) (k + 1) := fun i j hij hj => by
   rw [gb, gb]
   by_cases ci : i = l
   . rw [if_pos ci]
     by_cases cj : j = l
     . rw [if_pos cj]; exact Int.le_refl _
     . rw [if_neg cj, if_pos (by omega)]
       have := h2 (j - 1) (by omega) (by omega)
       omega
   . rw [if_neg ci]
     by_cases cj : j = l
     . rw [if_pos cj, if_neg (by omega)]
       exact h1 i (by omega)
     . rw [if_neg cj]
       by_cases di : l < i /\ i <= k
       . rw [if_pos di, if_pos (by omega)]
         exact hu _ _ (by omega) (by omega)
       . rw [if_neg di]
         by_cases dj : l < j /\ j <= k
         . rw [if_pos dj]
           exact hu _ _ (by omega) (by omega)
         . rw [if_neg dj]
           exact hu _ _ hij (by omega)
  obtain ⟨q, e2, pm, u⟩ := ev_bin f (bubble p k (k - l)) (k + 1) (by rw [bubble_size]; omega) hu'
  exact ⟨q, e2, pm.trans (bubble_perm _ _ _), by rw [show k + (f + 1) = k + 1 + f by omega]; exact u⟩
theorem ev_sort {n : Nat} (h2 : 2 <= n) : ∃ q, ev (kl key) (kas_sort n) = q /\ q.Perm (List.toArray (List.range n)) /\ Up key q n := by
 unfold kas_sort
 rw [ev_bind]
 obtain ⟨m, q, e, pm, m1, m2, u⟩ := ev_count (key := key) (p := List.toArray (List.range n)) h2 (by simp)
 have sz : q.size = n := by rw [pm.size_eq]; simp
 rw [e]
 dsimp only
 by_cases c : m < n
 . rw [if_pos c, Nat.max_eq_left m1]
   obtain ⟨q2, e2, pm2, u2⟩ := ev_bin (n - m) q m (by omega) u
   exact ⟨q2, e2, pm2.trans pm, by rw [show m + (n - m) = n by omega] at u2; exact u2⟩
 . rw [if_neg c]
   have : m = n := by omega
   subst this
   exact ⟨q, rfl,pm, u⟩
end
def AllP {α : Type} (n : Nat) (P : α -> Prop) : KasT α -> Prop
 | .ret a => P a
 | .ask i j k => i < n /\ j < n /\ ∀ b, AllP n P (k b)
theorem AllP.bind {α β : Type} {n : Nat} {P : α -> Prop} {R : β -> Prop} {f : α -> KasT β} (hf : ∀ a, P a -> AllP n R (f a)) : ∀ {t : KasT α}, AllP n P t -> AllP n R (t.bind f)
 | .ret a, h => hf a h
 | .ask i j k, h => ⟨h.1, h.2.1, fun b => AllP.bind hf (h.2.2 b)⟩
theorem AllP.wp {α : Type} {n : Nat} {lt : Nat -> Nat -> Bool} {cmp : Nat -> Nat -> (Bool -> Shared -> Prop) -> Shared -> Prop} {P : α -> Prop} {Q : α -> Shared -> Prop} {s : Shared} (hc : ∀ i j (C : Bool -> Shared -> Prop), i < n -> j < n -> C (lt i j) s -> cmp i j C s) : ∀ t : KasT α, AllP n P t -> Q (ev lt t) s -> t.kasWp cmp Q s
 | .ret _,_,h => h
 | .ask i j k, a, h => hc i j _ a.1 a.2.1 (AllP.wp hc (k (lt i j)) (a.2.2 _) h)
def InN (n : Nat) (p : Array Nat) : Prop := ∀ x ∈ p.toList, x < n
theorem InN.at {n : Nat} {p : Array Nat} (h : InN n p) (h0 : 0 < n) (i : Nat) : p.getD i 0 < n := by
 rw [Array.getD_eq_getD_getElem?]
 cases e : p[i]? with
 | none => exact h0
 | some x => exact h x (Array.mem_toList_iff.mpr (Array.mem_of_getElem? e))
theorem InN.perm {n : Nat} {p q : Array Nat} (h : InN n p) (e : q.Perm p) : InN n q := fun x hx => h x ((Array.perm_iff_toList_perm.mp e).mem_iff.mp hx)
theorem ok_asc {n : Nat} {p : Array Nat} (h : InN n p) (h0 : 0 < n) : ∀ f m, AllP n (fun _ => True) (kas_asc p f m)
 | 0, _ => trivial
 | f + 1, m => ⟨h.at h0 _,h.at h0 _,fun b => by
  cases b with
  | true => exact trivial
  | false => exact ok_asc h h0 f (m + 1)⟩
theorem ok_desc {n : Nat} (h0 : 0 < n) : ∀ f (p : Array Nat) m q, InN n p -> AllP n (fun r => InN n r.1) (kas_desc f p m q)
 | 0, p, m, q, h => h
 | f + 1, p, m, q, h => ⟨h.at h0 _,h.at h0 _,fun b => by
  cases b with
  | true =>
   dsimp only
   rw [if_pos rfl]
   split
   . exact ok_desc h0 f _ _ _ (h.perm (rev_perm _ _ _))
   . exact ok_desc h0 f _ _ _ h
  | false =>
   dsimp only
   rw [if_neg Bool.false_ne_true]
   refine ⟨h.at h0 _,h.at h0 _,fun b => ?_⟩
   cases b with
   | true => exact h
   | false => exact ok_desc h0 f _ _ _ h⟩
theorem ok_tail3 {n : Nat} (h0 : 0 < n) {m r : Nat} {p : Array Nat} (h : InN n p) : AllP n (fun (r : Nat × Array Nat) => InN n r.2) (kas_tail3 m r p) :=
 AllP.bind (P := fun _ => True) (R := fun (r : Nat × Array Nat) => InN n r.2) (fun a _ => show AllP n (fun r : Nat × Array Nat => InN n r.2) (.ret (a, kas_rev p 0 m)) from h.perm (rev_perm _ _ _)) (ok_asc (h.perm (rev_perm _ _ _)) h0 _ _)
theorem ok_descPart {n : Nat} (h0 : 0 < n) {m r : Nat} {p : Array Nat} (h : InN n p) : AllP n (fun r => InN n r.2) (kas_descPart m r p) :=
 AllP.bind (fun a ha => by
  split
  . exact ok_tail3 h0 (InN.perm ha (rev_perm _ _ _))
  . exact ok_tail3 h0 ha) (ok_desc h0 _ _ _ _ h)
theorem ok_count {n : Nat} (h0 : 0 < n) {r : Nat} {p : Array Nat} (h : InN n p) : AllP n (fun r => InN n r.2) (kas_count r p) :=
 AllP.bind (fun a _ => by
  split
  . exact h
  . split
    . refine ⟨h.at h0 _,h.at h0 _,fun b => ?_⟩
      cases b with
      | true => exact h
      | false => exact ok_descPart h0 (h.perm (rev_perm _ _ _))
    . exact ok_descPart h0 h) (ok_asc h h0 _ _)
theorem ok_place {n : Nat} (h0 : 0 < n) {p : Array Nat} (h : InN n p) (k : Nat) : ∀ f l r, AllP n (fun _ => True) (kas_place p k f l r)
 | 0, _,_ => trivial
 | f + 1, l, r => by
  unfold kas_place
  split
  . exact trivial
  . refine ⟨h.at h0 _,h.at h0 _,fun b => ?_⟩
    cases b with
    | true => exact ok_place h0 h k f _ _
    | false => exact ok_place h0 h k f _ _
theorem ok_bin {n : Nat} (h0 : 0 < n) : ∀ f (p : Array Nat) k, InN n p -> AllP n (fun q => InN n q) (kas_bin f p k)
 | 0, p, _,h => h
 | f + 1, p, k, h => by
  unfold kas_bin
  exact AllP.bind (fun _ _ => ok_bin h0 f _ _ (h.perm (bubble_perm _ _ _))) (ok_place h0 h k _ _ _)
theorem ok_sort {n : Nat} (h0 : 0 < n) : AllP n (fun q => InN n q) (kas_sort n) :=
 AllP.bind (fun a ha => by
  split
  . exact ok_bin h0 _ _ _ ha
  . exact ha) (ok_count h0 fun x hx => by simpa using hx)
end BE
set_option Elab.async false
set_option linter.all false
set_option maxRecDepth 100000
namespace BE
open PySem PySem.W PySem.Spec PyProof.Rows
def kP (p : Int × Int) : Int := p.1 * 100000 + p.2
def RgP (p : Int × Int) : Prop := 0 <= p.2 /\ p.2 < 100000
def PT (h : Heap) (vs : List Value) (ps : List (Int × Int)) : Prop := vs.length = ps.length /\ ∀ (i : Nat) (p : Int × Int), ps[i]? = some p -> ∃ q o t u n, vs[i]? = some (.ref q) /\ h.get? q = some o /\ o.cls = .type "tuple" /\ o.data = .seq #[.int p.1 t, .int p.2 u] n
def keyAt (ps : List (Int × Int)) (i : Nat) : Int := kP (ps.getD i (0, 0))
theorem PT.mv {h h' : Heap} {vs : List Value} {ps : List (Int × Int)} (x : PT h vs ps) (e : ∀ q o, h.get? q = some o -> o.cls = .type "tuple" -> h'.get? q = some o) : PT h' vs ps := ⟨x.1, fun i p hp => by
 obtain ⟨q, o, t, u, n, h1, h2, h3, h4⟩ := x.2 i p hp
 exact ⟨q, o, t, u, n, h1, e q o h2 h3, h3, h4⟩⟩
theorem pt_firsts {h : Heap} : ∀ {vs : List Value} {ps : List (Int × Int)}, PT h vs ps -> ∃ fs : List Value, KatTups h vs fs /\ fs.length = vs.length /\ ∀ f ∈ fs, ∃ x t, f = .int x t
 | [], ps, x => ⟨[], trivial, rfl,fun f hf => by cases hf⟩
 | v :: vs, [], x => by have := x.1; simp at this
 | v :: vs, p :: ps, x => by
  obtain ⟨q, o, t, u, n, h1, h2, h3, h4⟩ := x.2 0 p rfl
  have ev : v = .ref q := by simpa using h1
  subst ev
  obtain ⟨fs, k, l, a⟩ := pt_firsts (h := h) (vs := vs) (ps := ps) ⟨by have := x.1; simpa using this, fun i p' hp => by
   obtain ⟨q, o, t, u, n, h1, r⟩ := x.2 (i + 1) p' (by simpa using hp)
   exact ⟨q, o, t, u, n, by simpa using h1, r⟩⟩
  refine ⟨.int p.1 t :: fs, KatTups.cons h2 h3 h4 rfl k, by rw [List.length_cons, List.length_cons, l], fun f hf => ?_⟩
  rcases List.mem_cons.mp hf with rfl | hf
  . exact ⟨_,_,rfl⟩
  . exact a f hf
section
variable {prog : Program} {w : World} {A : Around} {E : Value -> Shared -> Prop} {s : Shared}
theorem pair_lt {vs : List Value} {ps : List (Int × Int)} {i j : Nat} {C : Bool -> Shared -> Prop} (x : PT s.heap vs ps) (hr : ∀ p ∈ ps, RgP p) (hi : i < vs.length) (hj : j < vs.length) (hC : C (kl (keyAt ps) i j) s) :
    kas_ask prog w A (tuples' true) vs i j C s := by
 have hi' : i < ps.length := by rw [<- x.1]; exact hi
 have hj' : j < ps.length := by rw [<- x.1]; exact hj
 obtain ⟨q1, o1, t1, u1, n1, a1, b1, _,d1⟩ := x.2 i _ (List.getElem?_eq_getElem hi')
 obtain ⟨q2, o2, t2, u2, n2, a2, b2, _,d2⟩ := x.2 j _ (List.getElem?_eq_getElem hj')
 have r1 := hr _ (List.getElem_mem hi')
 have r2 := hr _ (List.getElem_mem hj')
 have k1 : keyAt ps i = ps[i].1 * 100000 + ps[i].2 := by unfold keyAt kP; rw [List.getD_eq_getElem?_getD, List.getElem?_eq_getElem hi']; rfl
 have k2 : keyAt ps j = ps[j].1 * 100000 + ps[j].2 := by unfold keyAt kP; rw [List.getD_eq_getElem?_getD, List.getElem?_eq_getElem hj']; rfl
 have e1 : vs.getD i Value.none = .ref q1 := by rw [List.getD_eq_getElem?_getD, a1]; rfl
 have e2 : vs.getD j Value.none = .ref q2 := by rw [List.getD_eq_getElem?_getD, a2]; rfl
 unfold kas_ask
 rw [e1, e2]
 unfold kl at hC
 rw [k1, k2] at hC
 generalize ps[i] = p1 at *
 generalize ps[j] = p2 at *
 unfold RgP at r1 r2
 refine kat_lt b1 d1 b2 d2 (kat_cons (wpAny_eqBool_int (kat_go (fun c => kat_yes (kat_cons (wpAny_eqBool_int (kat_go (fun c2 => kat_yes (kat_nil ?_)) (fun c2 => kat_no (kat_one _ _ (lt_int ?_))))))) (fun c => kat_no (oneLt_int ?_)))))
 . have h1 : p1.1 = p2.1 := beq_iff_eq.mp c
   have h2 : p1.2 = p2.2 := beq_iff_eq.mp c2
   rw [h1, h2] at hC
   rw [decide_eq_false (by omega)] at hC
   exact hC
 . have h1 : p1.1 = p2.1 := beq_iff_eq.mp c
   have h2 : p1.2 ≠ p2.2 := fun z => by rw [z, beq_self_eq_true] at c2; cases c2
   have e : decide (p1.2 < p2.2) = decide (p1.1 * 100000 + p1.2 < p2.1 * 100000 + p2.2) := by
    rw [h1]
    exact decide_eq_decide.mpr ⟨fun h => by omega, fun h => by omega⟩
   rw [e]; exact hC
 . have h1 : p1.1 ≠ p2.1 := fun z => by rw [z, beq_self_eq_true] at c; cases c
   have e : decide (p1.1 < p2.1) = decide (p1.1 * 100000 + p1.2 < p2.1 * 100000 + p2.2) := decide_eq_decide.mpr ⟨fun h => by omega, fun h => by omega⟩
   rw [e]; exact hC
theorem few_out : ∀ {vs : List Value}, vs.length < 2 -> (vs.toArray.zip vs.toArray).map (·.2) = List.toArray ((List.range vs.length).map fun i => vs.getD i Value.none)
 | [], _ => by simp
 | [v], _ => by simp
 | _ :: _ :: _,h => absurd h (by simp only [List.length_cons]; omega)
theorem few_pw {n : Nat} {R : Nat -> Nat -> Prop} (h : n < 2) : (List.range n).Pairwise R := by
 match n, h with
 | 0, _ => exact .nil
 | 1, _ => exact List.pairwise_singleton _ _
theorem sortP_tree {a : Addr} {vs : List Value} {ps : List (Int × Int)} {n : Nat} {P : PySem.Fin -> Shared -> Prop} (ho : s.heap.get? a = some (seqObj "list" vs.toArray n)) (x : PT s.heap vs ps) (hr : ∀ p ∈ ps, RgP p) (h64 : vs.length < 64)
    (q : ∀ ix : List Nat, ix.Perm (List.range vs.length) -> ix.Pairwise (fun i j => keyAt ps i <= keyAt ps j) -> P (.done (.ret .none)) { s with heap := sortedHeap s.heap a vs (List.toArray (ix.map fun i => vs.getD i Value.none)) }) :
    wpAny (model prog w) A (Builtin.«list.sort» ⟨[.ref a], []⟩) P E s := by
 rw [list_sort_plain]; have alt : a < s.heap.objs.size := Heap.lt_size ho
 refine wpAny_bind (listItems_at ho rfl (wpAny_bind (listUpdate_at ho rfl ?_)))
 obtain ⟨e1, b1⟩ : ∃ e1, (s.heap.update a (Obj.mapSeq fun _ => #[])).get? a = some (seqObj "list" #[] e1) := ⟨_,get?_update_seq ho (fun _ => #[])⟩
 refine wpAny_bind (seqEpoch_at b1 rfl (wpAny_bind (wpAny_newTuple (wpAny_bind (wpAny_newList (wpAny_holding ?_))))))
 have b6 : (((s.heap.update a (Obj.mapSeq fun _ => #[])).push (seqObj "tuple" vs.toArray 0)).push (seqObj "list" #[] 0)).get? a = some (seqObj "list" #[] e1) := Heap.get?_push_of_some _ (Heap.get?_push_of_some _ b1)
 have x6 : PT (((s.heap.update a (Obj.mapSeq fun _ => #[])).push (seqObj "tuple" vs.toArray 0)).push (seqObj "list" #[] 0)) vs ps := x.mv fun b o e hc => by
  have ne : b ≠ a := fun z => by
   rw [z, ho] at e
   cases e
   exact absurd (Value.type.inj hc) (by decide)
  exact Heap.get?_push_of_some _ (Heap.get?_push_of_some _ (by rw [Heap.get?_update_ne _ _ _ _ ne]; exact e))
 show wpAny (model prog w) A _ P E { s with heap := ((s.heap.update a (Obj.mapSeq fun _ => #[])).push (seqObj "tuple" vs.toArray 0)).push (seqObj "list" #[] 0) }
 dsimp only
 have hsz : vs.toArray.size = vs.length := by simp
 by_cases h2 : vs.toArray.size < 2
 . rw [if_pos h2, if_pos h2]
   refine wpAny_bind (wpAny_pure ?_); rw [StateT.run_pure]; refine wpAny_bind (wpAny_pure ?_)
   dsimp only
   refine wpAny_bind (seqEpoch_at b6 rfl (wpAny_bind (listUpdate_at b6 rfl ?_ (hsz2 := by rw [Array.size_map]; show (pairsOf vs).size <= _; rw [pairsOf_size, sizeLine_eq]; omega))))
   simp only [bne_self_eq_false, Bool.false_eq_true, if_false]
   have eo : (arrOf (SortSt.mk' general' (vs.toArray.zip vs.toArray) #[] 7 none)).map (·.2) = List.toArray ((List.range vs.length).map fun i => vs.getD i Value.none) := by
    have ea : arrOf (SortSt.mk' general' (vs.toArray.zip vs.toArray) #[] 7 none) = vs.toArray.zip vs.toArray := rfl
    rw [ea]
    exact few_out (by omega)
   have fin := q (List.range vs.length) (List.Perm.refl _) (few_pw (by omega))
   rw [<- eo] at fin
   exact wpAny_pure fin
 . rw [if_neg h2, if_neg h2]
   have h2' : 2 <= vs.length := by omega
   obtain ⟨fs, kt, fl, fi⟩ := pt_firsts x6
   refine wpAny_bind (kat_kind (T := .type "int") kt (by omega) (fun v hv => ?_) rfl ?_)
   . obtain ⟨y, t, rfl⟩ := fi v hv
     exact Looks.of_pure rfl
   show wpAny _ _ _ _ _ _
   have kx : (Value.type "int" != Value.type "tuple") = true := by rfl
   rw [kx]
   generalize hS : ({ s with heap := ((s.heap.update a (Obj.mapSeq fun _ => #[])).push (seqObj "tuple" vs.toArray 0)).push (seqObj "list" #[] 0) } : Shared) = S at *
   have xS : PT S.heap vs ps := by rw [<- hS]; exact x6
   refine wpAny_bind (wpAny_mono (kat_run (κ := tuples' true) (ks := vs) (vs := vs) (Q := fun st' s' => s' = S /\ failedOf st' = none /\ ∃ p : Array Nat, arrOf st' = p.map (kas_item (vs.toArray.zip vs.toArray)) /\ p = ev (kl (keyAt ps)) (kas_sort vs.length))
    (G := fun p s' => s' = S /\ p = ev (kl (keyAt ps)) (kas_sort vs.length)) rfl h2' h64 (fun p st' s' _ e f g => ⟨g.1, f, p, e, g.2⟩)
    (AllP.wp (fun i j C hi hj hC => pair_lt xS hr hi hj hC) _ (ok_sort (by omega)) ⟨rfl,rfl⟩)) (fun r s' hq => ?_) fun _ _ e => e)
   obtain ⟨⟨⟩, st'⟩ := r
   obtain ⟨rfl,hf, p, hp, ep⟩ := hq
   obtain ⟨p2, e2, pm, up⟩ := ev_sort (key := keyAt ps) h2'
   have epp : p = p2 := ep.trans e2
   subst epp
   have pml : p.toList.Perm (List.range vs.length) := by
    have := Array.perm_iff_toList_perm.mp pm
    simpa using this
   have psz : p.size = vs.length := by rw [pm.size_eq]; simp
   have sn := kat_snds (ks := vs) (vs := vs) rfl hp
   subst hS
   dsimp only
   refine wpAny_bind (seqEpoch_at b6 rfl (wpAny_bind (listUpdate_at b6 rfl ?_ (hsz2 := by show ((arrOf st').map (·.2)).size <= _; rw [sn, List.size_toArray, List.length_map, pml.length_eq, List.length_range, sizeLine_eq]; omega))))
   rw [show failedOf (st' : SortSt) = none from hf]
   simp only [bne_self_eq_false, Bool.false_eq_true, if_false]
   have pw : p.toList.Pairwise (fun i j => keyAt ps i <= keyAt ps j) := by
    rw [List.pairwise_iff_getElem]
    intro i j hi hj hij
    have := up i j (by omega) (by rw [Array.length_toList] at hj; omega)
    unfold ky at this
    rw [Array.length_toList] at hi hj
    rw [Array.getD_eq_getD_getElem?, Array.getD_eq_getD_getElem?, Array.getElem?_eq_getElem hi, Array.getElem?_eq_getElem hj] at this
    exact this
   have fin := q p.toList pml pw
   rw [<- sn] at fin
   exact wpAny_pure fin
theorem sortedP {l : Addr} {vs : List Value} {ps : List (Int × Int)} {Q : Value -> Shared -> Prop} (hl : s.heap.IsList l vs.toArray) (x : PT s.heap vs ps) (hr : ∀ p ∈ ps, RgP p) (h64 : vs.length < 64)
    (q : ∀ (h1 : Heap) (ix : List Nat), (∀ b u, s.heap.get? b = some u -> h1.get? b = some u) -> ix.Perm (List.range vs.length) -> ix.Pairwise (fun i j => keyAt ps i <= keyAt ps j) ->
     Q (.ref h1.objs.size) { s with heap := sortedHeap (h1.push (seqObj "list" vs.toArray 0)) h1.objs.size vs (List.toArray (ix.map fun i => vs.getD i Value.none)) }) :
    wpAny (model prog w) A (call (.builtin "sorted") [.ref l]) Q E s := by
 obtain ⟨ob, ho, hc, n, hd⟩ := hl
 refine Calls.call_function_entry kind_sorted plain_sorted entry_sorted (args_sorted1 _) ?_
 unfold Builtin.«sorted»; refine wpAny_bind (m := checkCount "sorted" 1 1 _) (wpAny_pure ?_)
 refine wpAny_bind (wpAny_collect_seq l (.inl rfl) ho hc hd (fun h1 hk => wpAny_bind (wpAny_newList ?_)) (by rw [sizeLine_eq, List.size_toArray]; omega))
 have hL : (h1.push (seqObj "list" vs.toArray 0)).get? h1.objs.size = some (seqObj "list" vs.toArray 0) := Heap.get?_push_size _ rfl
 have x1 : PT (h1.push (seqObj "list" vs.toArray 0)) vs ps := x.mv fun b o e _ => Heap.get?_push_of_some _ (hk b o e)
 refine wpAny_bind (wpAny_holding (wpAny_call_entry slot_list_sort ⟨_,hL, rfl⟩ entry_list_sort (sortP_tree hL x1 hr h64 fun ix a1 a2 => ⟨_,rfl,?_⟩) (args_list_sort _)))
 exact wpAny_pure ⟨_,rfl,q h1 ix hk a1 a2⟩
end
end BE
namespace L2
open PySem PySem.SeqAt PySem.Spec PyProof.Rows
def PairsIn (H : Hp) (ws : List V) (ps : List (Int × Int)) : Prop := ws.length = ps.length /\ ∀ (i : Nat) (p : Int × Int), ps[i]? = some p -> ∃ q, ws[i]? = some (.ref q) /\ H q = some (.tup [.int p.1, .int p.2])
def leP (p q : Int × Int) : Prop := BE.kP p <= BE.kP q
section
variable {X : Cx}
def rSortP : List V -> Hp -> VK -> Prop := fun xs H Q => ∃ (a : Addr) (ws : List V) (ps : List (Int × Int)), xs = [.ref a] /\ H a = some (.lst ws) /\ PairsIn H ws ps /\ (∀ p ∈ ps, BE.RgP p) /\ ps.length < 64 /\
 ∀ (l : Addr) (ws' : List V) (ps' : List (Int × Int)), H l = none -> ps'.Perm ps -> ps'.Pairwise leP -> PairsIn H ws' ps' -> Q (.ref l) (upd H l (.lst ws'))
theorem vals_pick {ws : List V} {us : List Value} (r : Vals ws us) : ∀ (ix : List Nat), (∀ i ∈ ix, i < ws.length) -> Vals (ix.map fun i => ws.getD i .non) (ix.map fun i => us.getD i Value.none)
 | [], _ => .nil
 | i :: ix, h => by
  have hi := h i (by simp)
  obtain ⟨u, hu, ru⟩ := r.get (List.getElem?_eq_getElem hi)
  refine .cons ?_ (vals_pick r ix fun j hj => h j (by simp [hj]))
  show RelV (ws.getD i .non) (us.getD i Value.none)
  rw [List.getD_eq_getElem?_getD, List.getElem?_eq_getElem hi, List.getD_eq_getElem?_getD, hu]
  exact ru
theorem call_sortP : CallR X (.builtin "sorted") rSortP := by
 intro pins s σ H xs us Q I r h
 obtain ⟨a, ws, ps, rfl,ha, hp, hr, h64, q⟩ := h
 obtain ⟨u, rfl,rfl⟩ := vals1 r
 obtain ⟨z, its, n, rv, hl, e⟩ := I.lstM ha
 have x : BE.PT s.heap its ps := ⟨by rw [<- hl]; exact hp.1, fun i p hi => by
  obtain ⟨q, hq, hQ⟩ := hp.2 i p hi
  obtain ⟨u, hu, ru⟩ := rv.get hq
  cases ru
  obtain ⟨ts, rt, ⟨o, ho, hc, m, hd⟩, _⟩ := I.tuple (SqT.of hQ)
  cases rt with
  | cons r1 rt =>
   cases rt with
   | cons r2 rt =>
    cases rt
    obtain ⟨t1, rfl⟩ := r1
    obtain ⟨t2, rfl⟩ := r2
    exact ⟨q, o, t1, t2, m, hu, ho, hc, hd⟩⟩
 refine BE.sortedP (⟨_,e, rfl,n, rfl⟩ : s.heap.IsList a its.toArray) x hr (by rw [<- hl, hp.1]; exact h64) fun h1 ix hk a1 a2 => ?_
 rw [<- hl] at a1
 have lt : ∀ i ∈ ix, i < ws.length := fun i hi => by
  have := a1.mem_iff.mp hi
  simpa using this
 obtain ⟨c, hc⟩ := sortedHeap_at (h := h1.push (seqObj "list" its.toArray 0)) (a := h1.objs.size) (vs := its) (n := 0) (out := List.toArray (ix.map fun i => its.getD i Value.none)) (Heap.get?_push_size _ rfl)
 have I1 : Inv X pins σ H { s with heap := h1 } := I.kept (t' := s.toks) hk
 have lx : ix.length = ws.length := by rw [a1.length_eq, List.length_range]
 have pp : (ix.map fun i => ps.getD i (0, 0)).Perm ps := by
  have h1 := a1.map fun i => ps.getD i (0, 0)
  rw [hp.1] at h1
  have h2 : (List.range ps.length).map (fun i => ps.getD i (0, 0)) = ps := by
   apply List.ext_getElem
   . simp
   . intro i k1 k2
     simp [List.getD_eq_getElem?_getD, k2]
  rw [h2] at h1
  exact h1
 refine ⟨.ref h1.objs.size, _,I1.laid (o := .lst (ix.map fun i => ws.getD i .non)) (t' := s.toks) (BE.sortedS_kept fun _ _ e => e) (Nat.le_refl _) ?_,rfl,
  q _ (ix.map fun i => ws.getD i .non) (ix.map fun i => ps.getD i (0, 0)) (I1.hok.fresh (Nat.le_refl _)) pp (List.pairwise_map.mpr a2) ⟨by rw [List.length_map, List.length_map], fun i p hi => ?_⟩⟩
 . refine ⟨by rw [List.length_map, lx]; exact z, _,c, vals_pick rv ix lt, hc⟩
 . rw [List.getElem?_map] at hi
   cases ei : ix[i]? with
   | none => rw [ei] at hi; cases hi
   | some k =>
    rw [ei] at hi
    have hk' : k < ws.length := lt k (List.mem_of_getElem? ei)
    have hkp : k < ps.length := by rw [<- hp.1]; exact hk'
    obtain ⟨q', hq', hQ'⟩ := hp.2 k _ (List.getElem?_eq_getElem hkp)
    have ep : ps[k] = p := by
     have : (ps.getD k (0, 0)) = p := Option.some.inj hi
     rw [List.getD_eq_getElem?_getD, List.getElem?_eq_getElem hkp] at this
     exact this
    refine ⟨q', ?_,by rw [<- ep]; exact hQ'⟩
    rw [List.getElem?_map, ei]
    show some (ws.getD k .non) = _
    rw [List.getD_eq_getElem?_getD, hq']; rfl
end
end L2
set_option Elab.async false
set_option linter.all false
set_option maxRecDepth 100000
namespace BE
open PySem PySem.W PySem.Spec PyProof.Rows
section
variable {prog : Program} {w : World} {A : Around} {E : Value -> Shared -> Prop} {s : Shared}
variable {I : Addr} {fp wr : List Addr} {n : Nat} {P : Nat -> Value -> Prop} {St : Nat -> Heap -> Prop} {R : Result -> Shared -> Prop}
end
end BE
namespace L2
open PySem PySem.SeqAt PySem.Spec PyProof.Rows
section
variable {X : Cx}
end
end L2
set_option Elab.async false
set_option linter.all false
set_option maxRecDepth 100000
namespace BE
open PySem PySem.W PySem.Spec PyProof.Rows
section
variable {prog : Program} {w : World} {A : Around} {E : Value -> Shared -> Prop} {s : Shared}
end
end BE
namespace L2
open PySem PySem.SeqAt PySem.Spec PyProof.Rows
section
variable {X : Cx}
end
end L2
set_option Elab.async false
set_option linter.all false
set_option maxRecDepth 100000
namespace BE
open PySem PySem.W PySem.Spec PyProof.Rows
open Builtin
theorem noFill_tuple_mul : fillsNumberSlot (.type "tuple") "mul" = pure false :=
 PySem.fillsNumberSlot_seq (id := "tuple.__mul__") (r := some (.builtin "tuple.__rmul__")) F.slot_tuple_mul.lookup (by decide +kernel) F.slot_tuple_rmul.lookup (by decide +kernel)
theorem repeat_tuple : seqRepeat? (.type "tuple") = pure (some (.builtin "tuple.__mul__")) := by
 unfold seqRepeat?
 rw [PySem.seqSlot_of (T := "tuple") (name := "__mul__") (id := "tuple.__mul__") F.slot_tuple_mul.lookup (by decide +kernel), PySem.seqSlot_of (T := "tuple") (name := "__rmul__") (id := "tuple.__rmul__") F.slot_tuple_rmul.lookup (by decide +kernel)]
 rfl
theorem int_rmul_tuple (a : Int) (t : Tok) (l : Addr) (o : Obj) (hc : o.cls = .type "tuple") (items : Array Value) (n : Nat) (hd : o.data = .seq items n) :
    Meets (Builtin.«int.__rmul__» ⟨[.int a t, .ref l], []⟩) (fun _ R s => s.heap.get? l = some o /\ R (.ok (.ret Value.notImplemented)) s) :=
 .of_wp fun prog w A R s h => by
  obtain ⟨hp, g, d, tk, os⟩ := s; obtain ⟨hl, h⟩ := h
  obtain ⟨oc, od, odt, osl⟩ := o
  simp only at hc hd
  subst hc hd
  wp_walk; exact ⟨_,rfl,h⟩
section
variable {prog : Program} {w : World} {A : Around} {E : Value -> Shared -> Prop} {s : Shared}
theorem tuple_mul_tree {a : Addr} {o : Obj} {its : List Value} {n : Nat} {x : Int} {u : Tok} {P : PySem.Fin -> Shared -> Prop} (ho : s.heap.get? a = some o) (hd : o.data = .seq its.toArray n) (h1 : 2 <= x) (h2 : x < 2 ^ 63) (hne : its.toArray.isEmpty = false) (hz : its.toArray.size * x.toNat <= sizeLine)
    (h : P (.done (.ret (.ref s.heap.objs.size))) { s with heap := s.heap.push { cls := .type "tuple", data := .seq (List.replicate x.toNat its).flatten.toArray } }) :
    wpAny (model prog w) A (Builtin.«tuple.__mul__» ⟨[.ref a, .int x u], []⟩) P E s := by
 have hnew : List.foldl (fun x1 x2 => x1 ++ x2) #[] (List.replicate x.toNat its.toArray) = (List.replicate x.toNat its).flatten.toArray := by
  have := L2.foldl_rep its x.toNat []
  rw [List.nil_append] at this
  exact this
 show wpAny _ _ (asIndex (.int x u) >>= _) _ _ s
 refine wpAny_bind ?_
 show wpAny _ _ (pure x) _ _ s
 refine wpAny_pure ?_
 have c1 : (decide (x < -(2 ^ 63)) || decide (x >= 2 ^ 63)) = false := by
  rw [decide_eq_false (by omega), decide_eq_false (by omega)]; rfl
 simp only [c1, Bool.false_eq_true, if_false]
 refine wpAny_bind (wpAny_tupleItemsOf ho hd ?_)
 have c2 : (its.toArray.isEmpty || x == 1) = false := by rw [hne]; simp; omega
 simp only [c2, Bool.false_eq_true, if_false]
 have c3 : (decide (x <= 0) || its.toArray.isEmpty) = false := by rw [hne, decide_eq_false (by omega)]; rfl
 simp only [c3, Bool.false_eq_true, if_false]
 have sl : sizeLine = 16777216 := sizeLine_eq
 have ex : (x.toNat : Int) = x := by omega
 have hz' : (its.toArray.size : Int) * x <= 16777216 := by
  have h0 : ((its.toArray.size * x.toNat : Nat) : Int) <= 16777216 := by omega
  rw [Int.natCast_mul, ex] at h0
  exact h0
 have c4 : ¬ ((its.toArray.size : Int) * x > (2 ^ 63 - 1) / 8) := by omega
 simp only [c4, if_false]
 have c5 : Builtin.Tuple.tupleTooMany ((its.toArray.size : Int) * x) = false := by unfold Builtin.Tuple.tupleTooMany; exact decide_eq_false (by omega)
 simp only [c5, Bool.false_eq_true, if_false]
 refine wpAny_bind ?_
 unfold Builtin.Tuple.tupleExact
 rw [hnew]
 refine wpAny_newObj_type (wpAny_pure h) (hd := ?_)
 show (List.replicate x.toNat its).flatten.toArray.size <= sizeLine
 rw [List.size_toArray, L2.len_rep, Nat.mul_comm, <- List.size_toArray]
 exact hz
end
end BE
namespace L2
open PySem PySem.SeqAt PySem.Spec PyProof.Rows
section
variable {X : Cx}
def rRepT : R2 := fun x y H Q => ∃ a k xs, x = .ref a /\ y = .int k /\ H a = some (.tup xs) /\ xs ≠ [] /\ 2 <= k /\ k < 2 ^ 63 /\ xs.length * k.toNat <= sizeLine /\
 ∀ p, H p = none -> Q (.ref p) (upd H p (.tup (List.replicate k.toNat xs).flatten))
theorem op_repT : OpR X (binaryOp .Mult) rRepT := by
 intro pins s σ H x y v u Q I rx ry h
 obtain ⟨a, k, xs, rfl,rfl,hH, hne, h1, h2, hz, q⟩ := h
 cases rx
 obtain ⟨t, rfl⟩ := ry
 obtain ⟨its, r, ⟨o, ho, hc, n, hd⟩, hz2⟩ := I.tuple (SqT.of hH)
 have hl := r.length
 have hlen : its.toArray.size * k.toNat <= sizeLine := by rw [List.size_toArray, <- hl]; exact hz
 have hemp : its.toArray.isEmpty = false := by
  cases its with
  | nil => simp at hl; exact absurd hl hne
  | cons a r' => rfl
 refine wpAny_binaryOp_repeat_ref (T := "tuple") (U := "int") (by decide) ⟨_,ho, hc⟩ (fun s' => typeIs_int s' k t) BE.noFill_tuple_mul F.fills_int_mul F.slot_int_rmul BE.repeat_tuple F.slot_int_index.lookup
  (call_meets F.slot_int_rmul (typeIs_int s k t) F.entry_int_rmul (F.args_int_rmul_2 _ _) (BE.int_rmul_tuple k t a o hc _ _ hd)
   ⟨ho, rfl,⟨_,ho, hc⟩, wpAny_call_entry F.slot_tuple_mul ⟨_,ho, hc⟩ F.entry_tuple_mul (BE.tuple_mul_tree ho hd h1 h2 hemp hlen ⟨_,rfl,?_⟩) (F.args_tuple_mul_2 _ _)⟩)
 refine ⟨.ref s.heap.objs.size, _,I.laid (t' := s.toks) (o := .tup (List.replicate k.toNat xs).flatten) (fun b ob q => Heap.get?_push_of_some _ q) (Nat.le_refl _) ?_,rfl,q _ (I.hok.fresh (Nat.le_refl _))⟩
 exact ⟨by rw [len_rep, Nat.mul_comm]; exact hz, _,r.rep k.toNat, TupP.new _ _⟩
end
end L2
set_option Elab.async false
set_option linter.all false
set_option maxRecDepth 100000
namespace L2
open PySem PySem.Spec PyProof.Rows
section
variable {X : Cx}
end
end L2
set_option Elab.async false
set_option linter.all false
set_option maxRecDepth 100000
namespace L2
open PySem PySem.Spec PyProof.Rows
theorem turn_enumL {P : Program} {w : World} {K : PySem.W.Frag} {es : List Expr} {ek : Nat} {pos : Pos} (a it e : Addr) (hei : e ≠ it) : Turn P w K (.Tuple es ek pos) (ItL K a) [it, e] e (fun i h => (∃ old, IsEnum h e it i old) /\ h.IsListIter it a i) where
 mem := by simp
 obj := fun i h st b hb => by
  obtain ⟨⟨old, he⟩, o, ho, hc, hd⟩ := st
  have hb' : b = it \/ b = e := by simpa using hb
  rcases hb' with rfl | rfl
  . exact ⟨o, ho, fun v z => by rw [hd] at z; cases z⟩
  . exact ⟨_,he, fun v z => by
      have z' : Data.fields _ = Data.cell v := z
      cases z'⟩
 keep := fun i h h' st k => by
  obtain ⟨⟨old, he⟩, st⟩ := st
  exact ⟨⟨old, k e (by simp) _ he⟩, st.at fun o q => k it (by simp) o q⟩
 item := by
  intro X hP hw hK hc i pins s σ H E I hf st hg
  subst hP hw hK
  obtain ⟨⟨old, he⟩, st⟩ := st
  obtain ⟨xs, x, hq, hx⟩ := hg
  obtain ⟨its, rv, p, hz⟩ := I.list hq
  obtain ⟨u, hu, ru⟩ := rv.get hx
  have f1 := hf it (by simp)
  have f2 := hf e (by simp)
  have p' : s.heap.IsList a its.toArray := p.isList
  have ha : a ≠ it := fun z => by
   obtain ⟨o, ho, hcl, _⟩ := st
   obtain ⟨o', ho', hcl', _⟩ := p'
   rw [z, ho] at ho'; cases ho'; rw [hcl] at hcl'; exact absurd (Value.type.inj hcl') (by decide)
  have hae : e ∉ [it, a] := fun z => by
   have z' : e = it \/ e = a := by simpa using z
   rcases z' with z' | z'
   . exact hei z'
   . obtain ⟨o', ho', hcl', _⟩ := p'
     rw [<- z', he] at ho'; cases ho'; exact absurd (Value.type.inj hcl') (by decide)
  have hlt : i < its.toArray.size := by
   have := (List.getElem?_eq_some_iff.mp hu).1
   simpa using this
  refine wpAny_pyNext_enum_itemD (Draws.list (A := X.A.in1) (I.ok.hd hc) it a ha its.toArray) he ⟨st, p'⟩ hlt hei hae fun y h1 tk hy ho st1 hT hsz hk => ?_
  have ey : y = u := by
   have hy' : its.toArray[i]? = some y := hy
   rw [List.getElem?_toArray] at hy'
   rw [hu] at hy'; cases hy'; rfl
  subst ey
  refine ⟨_,rfl,wpAny_letOwnedTupleGo_enum ho fun h2 he2 sb2 => ?_⟩
  have neT : s.heap.objs.size ≠ e := Nat.ne_of_gt (Heap.lt_size he)
  have hT2 : h2.get? s.heap.objs.size = some { cls := .type "tuple", data := .seq #[.int i tk, y] } := (sb2.2 _ neT).trans hT
  have fr : H s.heap.objs.size = none := I.hok.fresh (Nat.le_refl _)
  have I2 : Inv X pins σ (upd H s.heap.objs.size (.tup [.int i, x])) { s with heap := h2, toks := tk + 1 } :=
   I.turned2 (it := it) (e := e) (fun b q h1' h2' r => (sb2.2 b h2').trans (hk b q h2' h1' r)) f1 f2 (Nat.le_refl _) (tup2_ok hT2 ru)
  refine ⟨.ref s.heap.objs.size, _,I2, rfl,⟨_,x, fr, rfl,rfl,fun ys hy => by rw [I.list_inj hy hq]; exact hx⟩, ⟨⟨y, ?_⟩, ?_⟩, fun b hb => ?_⟩
  . have := he2
    rw [show ((i + 1 : Nat) : Int) = (i : Int) + 1 from by omega]
    exact this
  . exact st1.1.at fun o q => (sb2.2 it (Ne.symm hei)).trans q
  . have hn := (hf b hb).1
    have hb' : b ≠ s.heap.objs.size := fun z => by
     have hlt' : b < s.heap.objs.size := by
      have hb2 : b = it \/ b = e := by simpa using hb
      rcases hb2 with rfl | rfl
      . obtain ⟨o, ho, _⟩ := st; exact Heap.lt_size ho
      . exact Heap.lt_size he
     exact absurd z (Nat.ne_of_lt hlt')
    rw [upd_ne hb']
    exact hn
 done := by
  intro X hP hw hK hc i pins s σ H E I hf st hg
  subst hP hw hK
  obtain ⟨⟨old, he⟩, st⟩ := st
  obtain ⟨xs, hq, hx⟩ := hg
  obtain ⟨its, rv, p, hz⟩ := I.list hq
  have f1 := hf it (by simp)
  have p' : s.heap.IsList a its.toArray := p.isList
  have hT : s.TypeIs (.ref e) "enumerate" := ⟨_,he, rfl⟩
  unfold pyNext
  refine wpAny_bind (wpAny_attempt (wpAny_callSpecial?_slot (name := Str.ofString "__next__") hT F.slot_enumerate_next (wpAny_call_entry F.slot_enumerate_next hT F.entry_enumerate_next ?_ (F.args_enumerate_next_1 _))))
  show wpAny _ _ (field (.ref e) 2 >>= _) _ _ _
  refine wpAny_bind (wpAny_field he rfl (x := .ref it) rfl ?_)
  refine wpAny_bind (wpAny_nextOf_list_end (A := X.A.in1) (I.ok.hd hc) st p' (by simp; have := rv.length; omega) fun h1 ex hb hx' => ?_)
  obtain ⟨o, ho, hcl⟩ := hx'
  refine wpAny_bind (wpAny_isInstance (T := "StopIteration") (b := true) ⟨o, ho, hcl⟩ isSubtype_stop ?_)
  exact wpAny_pure ⟨rfl,I.turned (t' := s.toks) (fun b q hb' r => hb b q hb' r) f1.1 f1.2.1 f1.2.2.2.1 f1.2.2.2.2.1 f1.2.2.2.2.2⟩
 self := fun _ _ _ _ _ st h => let ⟨⟨_,he⟩, _⟩ := st; wpAny_pyIter_enum he h
section
variable {X : Cx} {es : List Expr} {ek : Nat} {tpos : Pos}
def iEnumL (K : PySem.W.Frag) (ta : TA) : TI := fun σ H R => ta σ H fun vs H1 => ∃ a xs, vs = [.ref a] /\ SqL K H1 a xs /\ R (ItL K a) H1
theorem pi_enumL {x : Expr} {ta : TA} {p pos : Pos} (hg : Gl X "enumerate") (hm : X.mg "enumerate" = none) (ha : PA X [x] ta) (hs : starEach [x] X.env = [(false, eval x X.env)] := by rfl) :
    PI X (.Tuple es ek tpos) (.Call (.Name "enumerate" p) [x] [] pos) (iEnumL X.K ta) := by
 intro pins s σ H R I h
 refine Call_ (ld_blt I hg hm boot_enumerate (PyProof.Rows.callWith_type1 (thn (ha pos pins s σ H _ I h) fun us s1 ⟨vs, H1, I1, r1, q1⟩ => ?_) hs rfl))
 obtain ⟨a, xs, e, hq, q⟩ := q1
 subst e
 cases r1 with
 | cons r rr =>
  cases rr
  cases r
  obtain ⟨its, rv, pt, hz⟩ := I1.list hq
  refine call_enumerate_list pt.isList fun h' he hit hsz hk => ?_
  refine wpAny_pyIter_enum he ?_
  have hne : s1.heap.objs.size + 1 ≠ s1.heap.objs.size := Nat.succ_ne_self _
  refine ⟨s1.heap.objs.size + 1, [s1.heap.objs.size, s1.heap.objs.size + 1], _,_,H1, rfl,I1.kept (t' := s1.toks) hk, turn_enumL a s1.heap.objs.size (s1.heap.objs.size + 1) hne, ⟨⟨_,he⟩, hit⟩, fun b hb => ?_,q⟩
  have hb' : b = s1.heap.objs.size \/ b = s1.heap.objs.size + 1 := by simpa using hb
  rcases hb' with rfl | rfl
  . exact I1.fpOk (Nat.le_refl _) (I1.hok.fresh (Nat.le_refl _))
  . exact I1.fpOk (Nat.le_succ _) (I1.hok.fresh (Nat.le_succ _))
end
theorem for_enumL {K : PySem.W.Frag} {a : Addr} {xs : List V} {g : TG} {tb : TS} {D : Ends} {σ : St} {H : Hp} (Pv : Nat -> St -> Hp -> Prop) (h0 : Pv 0 σ H) (hl : ∀ i σ H, i <= xs.length -> Pv i σ H -> SqL K H a xs)
    (hs : ∀ i v p σ H, xs[i]? = some v -> H p = none -> Pv i σ H -> g (.ref p) σ (upd H p (.tup [.int i, v])) fun σ2 H2 => tb { D with nx := Pv (i + 1), ct := Pv (i + 1), bk := D.nx } σ2 H2) (hd : ∀ σ H, Pv xs.length σ H -> D.nx σ H) :
    ∃ W : Nat -> Nat -> St -> Hp -> Prop, (∃ m, W 0 m σ H) /\ ∀ i m σ H, W i m σ H ->
     ((ItL K a).stop i H /\ D.nx σ H) \/ ((ItL K a).go i H /\ ∃ N : St -> Hp -> Prop, (∀ σ' H', N σ' H' -> ∃ m', m' < m /\ W (i + 1) m' σ' H') /\ ∀ x H', (ItL K a).yld i H x H' -> g x σ H' fun σ2 H2 => tb { D with nx := N, ct := N, bk := D.nx } σ2 H2) := by
 refine ⟨fun i m σ H => m = xs.length - i /\ i <= xs.length /\ Pv i σ H, ⟨xs.length, by simp, Nat.zero_le _,h0⟩, ?_⟩
 rintro i m σ H ⟨rfl,hi, p⟩
 have q := hl i σ H hi p
 by_cases hlt : i < xs.length
 . refine .inr ⟨⟨xs, xs[i], q, by simp [hlt]⟩, Pv (i + 1), fun σ' H' p' => ⟨xs.length - (i + 1), by omega, rfl,hlt, p'⟩, fun x H' y => ?_⟩
   obtain ⟨b, v, hb, e1, e2, y⟩ := y
   subst e1 e2
   exact hs i v b σ _ (y xs q) hb p
 . have e : i = xs.length := by omega
   subst e
   exact .inl ⟨⟨xs, q, Nat.le_refl _⟩, hd σ H p⟩
theorem comp_enumLR {g : TG} {tt : TT} {te : TE} {τ : St} {D : Addr} {H1 : Hp} {R : Hp -> Prop} {K : PySem.W.Frag} {a : Addr} {xs : List V} (Pv : Nat -> List V -> Hp -> Prop) (h0 : Pv 0 [] (upd H1 D (.lst []))) (hl : ∀ i ys H, i <= xs.length -> Pv i ys H -> SqL K H a xs)
    (hs : ∀ i ys v p H, xs[i]? = some v -> H p = none -> Pv i ys H -> turnC g tt te τ D ys (Pv (i + 1)) (.ref p) (upd H p (.tup [.int i, v]))) (hd : ∀ ys H, Pv xs.length ys H -> R H) :
    ∃ W : Nat -> Nat -> List V -> Hp -> Prop, (∃ m, W 0 m [] (upd H1 D (.lst []))) /\ ∀ i m ys H, W i m ys H -> ((ItL K a).stop i H /\ R H) \/ ((ItL K a).go i H /\ ∃ N : List V -> Hp -> Prop, (∀ ys' H', N ys' H' -> ∃ m', m' < m /\ W (i + 1) m' ys' H') /\ ∀ x H', (ItL K a).yld i H x H' -> turnC g tt te τ D ys N x H') := by
 refine ⟨fun i m ys H => m = xs.length - i /\ i <= xs.length /\ Pv i ys H, ⟨xs.length, by simp, Nat.zero_le _,h0⟩, ?_⟩
 rintro i m ys H ⟨rfl,hi, p⟩
 have q := hl i ys H hi p
 by_cases hlt : i < xs.length
 . refine .inr ⟨⟨xs, xs[i], q, by simp [hlt]⟩, Pv (i + 1), fun ys' H' p' => ⟨xs.length - (i + 1), by omega, rfl,hlt, p'⟩, fun x H' y => ?_⟩
   obtain ⟨b, v, hb, e1, e2, y⟩ := y
   subst e1 e2
   exact hs i ys v b _ (y xs q) hb p
 . have e : i = xs.length := by omega
   subst e
   exact .inl ⟨⟨xs, q, Nat.le_refl _⟩, hd ys H p⟩
end L2
set_option Elab.async false
set_option linter.all false
set_option maxRecDepth 100000
namespace Be.G
open PySem L2
theorem lay_ints : ∀ xs : List Int, PyData.canLayAll0 (xs.map PyData.int) = true
 | [] => rfl
 | x :: xs => by rw [List.map_cons, PyData.canLayAll0, lay_ints xs]; rfl
theorem dep_ints : ∀ xs : List Int, PyData.depthAll (xs.map PyData.int) <= 10
 | [] => Nat.zero_le _
 | x :: xs => by
  have h2 := dep_ints xs
  rw [List.map_cons, PyData.depthAll]
  have h1 : (PyData.int x).depth <= 10 := by simp [PyData.depth]
  omega
theorem ixN_of {n : Nat} {k : Int} (h0 : 0 <= k) (h1 : k < (n : Int)) : ixN n k = some k.toNat := by
 unfold ixN
 rw [if_pos h0, if_pos h1]
section
variable {P : Program} {w : World} {K : PySem.W.Frag} {mg : Str -> Option Value} {base : Heap}
def sp_whole : Sp := fun vs H Q _ => ∃ (i lo hi : Int), vs = [.int i, .int lo, .int hi] /\ lo <= i /\ i <= hi /\ Q (.bl true) H
theorem ok_is_whole_within (T : Txt K mg) : FnOk P w K mg base (CXr P w) 1 T.is_whole_within.a T.is_whole_within.d ["thing", "least", "most"] sp_whole := by
 refine T.is_whole_within.F.okN sc_is_whole_within (fun vs H Q E h => ?_) (fun cdv A outer s H vs Q E hr h => ?_)
 . obtain ⟨i, lo, hi, rfl,_⟩ := h; rfl
 obtain ⟨i, lo, hi, rfl,h1, h2, q⟩ := h
 refine ⟨_,(pss_cons (ps_if (PW.pt (pw_or (pt_not (pt_val (pe_callB (call_isi kit_int) rfl T.n_isinstance bt_isinstance (pa_cons (pv 0) (pa_cons (pe_bltn (v := .ty "int") rfl T.n_int bt_int rfl) pa_nil))))) (pw_or1 (pt_val (pe_callB (call_isi kit_bool) rfl T.n_isinstance bt_isinstance (pa_cons (pv 0) (pa_cons (pe_bltn (v := .ty "bool") rfl T.n_bool bt_bool rfl) pa_nil))))))) (pss_one (ps_ret pe_bl)) pss_nil) (pss_one (ps_ret (pe_chain op_le op_le (pv 1) (pv 0) (pv 2))))), ?_⟩
 refine ⟨_,rfl,.int i, _,rfl,.int i, _,rfl,iteF ⟨_,rfl,_,_,rfl,.int i, _,rfl,iteF ?_⟩⟩
 refine ⟨_,rfl,_,rfl,_,_,rfl,rfl,_,rfl,if_t (decide_eq_true h1) ⟨_,rfl,_,_,rfl,rfl,?_⟩⟩
 rw [<- decide_eq_true h2] at q
 exact q
theorem two_len (x y : V) : decide (V.int (([x, y] : List V).length : Int) = V.int 2) = true := rfl
def sp_pairG : Sp := fun vs H Q _ => ∃ (a : Addr) (x y : V) (ds : List PyData), vs = [.ref a] /\ H a = some (.tup [x, y]) /\ Rep H (.ref a) (.tuple ds) /\ Q (.bl true) H
theorem ok_is_pair (T : Txt K mg) : FnOk P w K mg base (CXr P w) 1 T.is_pair.a T.is_pair.d ["thing"] sp_pairG := by
 refine T.is_pair.F.okN sc_is_pair (fun vs H Q E h => ?_) (fun cdv A outer s H vs Q E hr h => ?_)
 . obtain ⟨a, x, y, ds, rfl,_⟩ := h; rfl
 obtain ⟨a, x, y, ds, rfl,ha, r, q⟩ := h
 refine ⟨_,(pss_one (ps_ret (pe_and (pe_callB (call_isi kit_tuple) rfl T.n_isinstance bt_isinstance (pa_cons (pv 0) (pa_cons (pe_bltn (v := .ty "tuple") rfl T.n_tuple bt_tuple rfl) pa_nil))) (pe_one (pe_cmpR op_eq (pe_callB call_len_seq rfl T.n_len bt_len (pa_cons (pv 0) pa_nil)) pe_int (nomark _)))))), ?_⟩
 refine ⟨_,rfl,.ref a, _,rfl,r, _,rfl,iteT ⟨_,rfl,a, _,rfl,.inr (SqT.of ha), rfl,?_⟩⟩
 rw [two_len]
 exact q
def sp_bow : Sp := fun vs H Q _ => ∃ (v : V) (p : Int × Int), vs = [v] /\ Rep H v (encB p) /\ 1 <= p.1 /\ p.1 <= p.2 /\ p.2 <= 99 /\ Q (.bl true) H
theorem ok_are_bounds_of_work (T : Txt K mg) : FnOk P w K mg base (CXr P w) 2 T.are_bounds_of_work.a T.are_bounds_of_work.d ["thing"] sp_bow := by
 refine T.are_bounds_of_work.F.okN sc_are_bounds_of_work (fun vs H Q E h => ?_) (fun cdv A outer s H vs Q E hr h => ?_)
 . obtain ⟨v, p, rfl,_⟩ := h; rfl
 obtain ⟨v, p, rfl,r, b1, b2, b3, q⟩ := h
 refine ⟨_,(pss_cons (ps_if (PW.pt (pw_or (pt_not (pt_val (pe_call (ok_is_pair T) (hr.mono (by decide)) rfl T.is_pair.m T.is_pair.F.kp T.is_pair.b .nil passN (pa_cons (pv 0) pa_nil)))) (pw_or1 (pt_not (pt_val (pe_call (ok_is_whole_within T) (hr.mono (by decide)) rfl T.is_whole_within.m T.is_whole_within.F.kp T.is_whole_within.b .nil passN (pa_cons (pe_ix ix_tup (pv 0) pe_int (fun _ _ => rfl)) (pa_cons pe_int (pa_cons (pe_glob (v := .int 99) rfl T.c_MOST_LENGTH.choose_spec ⟨_,rfl⟩) pa_nil))))))))) (pss_one (ps_ret pe_bl)) pss_nil) (pss_one (ps_ret (pe_call (ok_is_whole_within T) (hr.mono (by decide)) rfl T.is_whole_within.m T.is_whole_within.F.kp T.is_whole_within.b .nil passN (pa_cons (pe_ix ix_tup (pv 0) pe_int (fun _ _ => rfl)) (pa_cons (pe_ix ix_tup (pv 0) pe_int (fun _ _ => rfl)) (pa_cons (pe_glob (v := .int 99) rfl T.c_MOST_LENGTH.choose_spec ⟨_,rfl⟩) pa_nil))))))), ?_⟩
 obtain ⟨a, rfl,ha⟩ := pair_inv r
 refine ⟨_,rfl,a, _,_,_,rfl,ha, r, _,rfl,iteF ⟨_,rfl,a, _,_,_,rfl,rfl,SqT.of ha, rfl,p.1, 1, 99, rfl,b1, by omega, _,rfl,iteF ?_⟩⟩
 exact ⟨_,rfl,a, _,_,_,rfl,rfl,SqT.of ha, rfl,_,rfl,a, _,_,_,rfl,rfl,SqT.of ha, rfl,p.2, p.1, 99, rfl,b2, b3, q⟩
theorem all_trues (n : Nat) : (List.replicate n true).all id = true := by simp
theorem trues_snoc (n : Nat) : (List.replicate n true).map V.bl ++ [.bl true] = (List.replicate (n + 1) true).map V.bl := by rw [List.replicate_succ', List.map_append]; rfl
theorem trues_fit {n : Nat} (h : n <= 100) : ((List.replicate n true).map V.bl).length < sizeLine := by
 rw [List.length_map, List.length_replicate]
 exact Nat.lt_of_le_of_lt h (by decide)
def sp_arb : Sp := fun vs H Q _ => ∃ (v : V) (bs : List (Int × Int)), vs = [v] /\ Rep H v (.tuple (bs.map encB)) /\ 1 <= bs.length /\ bs.length <= 10 /\ (∀ p ∈ bs, 1 <= p.1 /\ p.1 <= p.2 /\ p.2 <= 99) /\ ∀ H', Same H H' -> Q (.bl true) H'
theorem ok_are_bounds (T : Txt K mg) : FnOk P w K mg base (CXr P w) 3 T.are_bounds.a T.are_bounds.d ["thing"] sp_arb := by
 refine T.are_bounds.F.okN sc_are_bounds (fun vs H Q E h => ?_) (fun cdv A outer s H vs Q E hr h => ?_)
 . obtain ⟨v, bs, rfl,_⟩ := h; rfl
 obtain ⟨v, bs, rfl,r, l1, l2, hb, q⟩ := h
 refine ⟨_,(pss_cons (ps_if (PW.pt (pw_or (pt_not (pt_val (pe_callB (call_isi kit_tuple) rfl T.n_isinstance bt_isinstance (pa_cons (pv 0) (pa_cons (pe_bltn (v := .ty "tuple") rfl T.n_tuple bt_tuple rfl) pa_nil))))) (pw_or1 (pt_not (pt_chain op_le op_le pe_int (pe_callB call_len_seq rfl T.n_len bt_len (pa_cons (pv 0) pa_nil)) (pe_glob (v := .int 10) rfl T.c_MOST_WORKS.choose_spec ⟨_,rfl⟩)))))) (pss_one (ps_ret pe_bl)) pss_nil) (pss_one (ps_ret (pe_callB (call_allL rfl) rfl T.n_all bt_all (pa_cons (pe_comp (NB := ["part"]) (js := [none]) rfl (blkOk_of rfl (by decide +kernel) rfl (by decide +kernel) (by decide +kernel) (by with_unfolding_all rfl) (by with_unfolding_all rfl) (by with_unfolding_all rfl) (by with_unfolding_all rfl)) (pi_tup (pv 0)) (fun _ _ _ _ => (pg_name (i := 0) (show (["part"] : List Str).Nodup by decide +kernel) rfl (by first|exact .inl rfl|exact .inr rfl))) (fun _ _ _ _ => pf_nil) (fun _ _ _ _ => (pe_call (ok_are_bounds_of_work T) (hr.mono (by decide)) rfl T.are_bounds_of_work.m T.are_bounds_of_work.F.kp T.are_bounds_of_work.b .nil passN (pa_cons (pv 0) pa_nil)))) pa_nil))))), ?_⟩
 obtain ⟨a, vs, rfl,ha, rs⟩ := r.tup_inv
 have hl := rs.length
 rw [List.length_map] at hl
 refine ⟨_,rfl,.ref a, _,rfl,r, _,rfl,iteF ⟨_,rfl,a, _,rfl,.inr (SqT.of ha), _,_,rfl,rfl,_,rfl,if_t (decide_eq_true (by omega)) ⟨_,_,rfl,rfl,_,rfl,?_⟩⟩⟩
 refine if_f (by rw [decide_eq_true (show (vs.length : Int) <= 10 by omega)]; rfl) ?_
 refine ⟨_,rfl,a, rfl,⟨_,SqT.of ha⟩, fun D hD => ?_⟩
 refine comp_tupR (K := K) (a := a) (xs := vs) (fun i ys H2 => Same H H2 /\ H2 D = some (.lst ys) /\ ys = (List.replicate i true).map V.bl) ⟨same_new hD _,upd_same, rfl⟩ (fun i ys H2 _ hP => SqT.of (hP.1 _ _ ha)) (fun i ys x H2 hx hP => ?_) (fun ys H2 hP => ?_)
 . obtain ⟨g, hD2, rfl⟩ := hP
   have hi : i < vs.length := (List.getElem?_eq_some_iff.mp hx).1
   obtain ⟨d, hd, rx⟩ := (rs.mono g).get' hx
   rw [List.getElem?_map, List.getElem?_eq_getElem (by omega)] at hd
   obtain rfl := Option.some.inj hd
   have b := hb _ (List.getElem_mem (show i < bs.length by omega))
   exact ⟨agree0, iteT ⟨_,rfl,x, _,rfl,rx, b.1, b.2.1, b.2.2, hD2, trues_fit (by omega), g.write hD _,upd_same, trues_snoc i⟩⟩
 . obtain ⟨g, hD2, rfl⟩ := hP
   refine ⟨D, _,rfl,hD2, ?_⟩
   rw [all_trues]
   exact q H2 g
def sp_isw : Sp := fun vs H Q _ => ∃ (v : V) (W : Wd), vs = [v] /\ Rep H v (encW W) /\ W.Ok /\ ∀ H', Same H H' -> Q (.bl true) H'
theorem ok_is_world (T : Txt K mg) : FnOk P w K mg base (CXr P w) 4 T.is_world.a T.is_world.d ["thing"] sp_isw := by
 refine T.is_world.F.okN sc_is_world (fun vs H Q E h => ?_) (fun cdv A outer s H vs Q E hr h => ?_)
 . obtain ⟨v, W, rfl,_⟩ := h; rfl
 obtain ⟨v, W, rfl,hW, hok, q⟩ := h
 refine ⟨_,(pss_one (ps_ret (pe_and (pe_call (ok_is_pair T) (hr.mono (by decide)) rfl T.is_pair.m T.is_pair.F.kp T.is_pair.b .nil passN (pa_cons (pv 0) pa_nil)) (pe_and (pe_call (ok_is_whole_within T) (hr.mono (by decide)) rfl T.is_whole_within.m T.is_whole_within.F.kp T.is_whole_within.b .nil passN (pa_cons (pe_ix ix_tup (pv 0) pe_int (fun _ _ => rfl)) (pa_cons pe_int (pa_cons (pe_glob (v := .int 4) rfl T.c_MOST_BENCHES.choose_spec ⟨_,rfl⟩) pa_nil)))) (pe_one (pe_call (ok_are_bounds T) (hr.mono (by decide)) rfl T.are_bounds.m T.are_bounds.F.kp T.are_bounds.b .nil passN (pa_cons (pe_ix ix_tup (pv 0) pe_int (fun _ _ => rfl)) pa_nil))))))), ?_⟩
 obtain ⟨a, us, rfl,ha, rs⟩ := hW.tup_inv
 cases rs with
 | cons r1 rs =>
  cases rs with
  | cons r2 rs =>
   cases rs
   cases r1.int_inv
   exact ⟨_,rfl,a, _,_,_,rfl,ha, hW, _,rfl,iteT ⟨_,rfl,a, _,_,_,rfl,rfl,SqT.of ha, rfl,W.b, 1, 4, rfl,hok.b1, hok.b4, _,rfl,iteT ⟨_,rfl,a, _,_,_,rfl,rfl,SqT.of ha, rfl,_,W.bs, rfl,r2, hok.l1, hok.l10, hok.bd, q⟩⟩⟩
def sp_cw : Sp := fun vs H Q _ => ∃ (v : V) (W : Wd), vs = [v] /\ Rep H v (encW W) /\ W.Ok /\ ∀ H', Same H H' -> Q .non H'
theorem ok_check_world (T : Txt K mg) : FnOk P w K mg base (CXr P w) 5 T.check_world.a T.check_world.d ["world"] sp_cw := by
 refine T.check_world.F.okN sc_check_world (fun vs H Q E h => ?_) (fun cdv A outer s H vs Q E hr h => ?_)
 . obtain ⟨v, W, rfl,_⟩ := h; rfl
 obtain ⟨v, W, rfl,hW, hok, q⟩ := h
 refine ⟨_,(pss_one (ps_if (pt_not (pt_val (pe_call (ok_is_world T) (hr.mono (by decide)) rfl T.is_world.m T.is_world.F.kp T.is_world.b .nil passN (pa_cons (pv 0) pa_nil)))) pss_any pss_nil)), ?_⟩
 exact ⟨_,rfl,v, W, rfl,hW, hok, fun H' g => ⟨_,rfl,iteF (q H' g)⟩⟩
def sp_hmbn : Sp := fun vs H Q _ => ∃ (v : V) (W : Wd), vs = [v] /\ Rep H v (encW W) /\ Q (.int W.b) H
theorem ok_how_many_benches (T : Txt K mg) : FnOk P w K mg base (CXr P w) 1 T.how_many_benches.a T.how_many_benches.d ["world"] sp_hmbn := by
 refine T.how_many_benches.F.okN sc_how_many_benches (fun vs H Q E h => ?_) (fun cdv A outer s H vs Q E hr h => ?_)
 . obtain ⟨v, W, rfl,_⟩ := h; rfl
 obtain ⟨v, W, rfl,hW, q⟩ := h
 refine ⟨_,(pss_one (ps_ret (pe_ix ix_tup (pv 0) pe_int (fun _ _ => rfl)))), ?_⟩
 obtain ⟨a, p, vs, A⟩ := atW hW
 obtain rfl := A.v
 exact ⟨_,rfl,a, _,_,_,rfl,rfl,SqT.of A.a, rfl,q⟩
def sp_hmw : Sp := fun vs H Q _ => ∃ (v : V) (W : Wd), vs = [v] /\ Rep H v (encW W) /\ Q (.int W.bs.length) H
theorem ok_how_many_works (T : Txt K mg) : FnOk P w K mg base (CXr P w) 1 T.how_many_works.a T.how_many_works.d ["world"] sp_hmw := by
 refine T.how_many_works.F.okN sc_how_many_works (fun vs H Q E h => ?_) (fun cdv A outer s H vs Q E hr h => ?_)
 . obtain ⟨v, W, rfl,_⟩ := h; rfl
 obtain ⟨v, W, rfl,hW, q⟩ := h
 refine ⟨_,(pss_one (ps_ret (pe_callB call_len_seq rfl T.n_len bt_len (pa_cons (pe_ix ix_tup (pv 0) pe_int (fun _ _ => rfl)) pa_nil)))), ?_⟩
 obtain ⟨a, p, vs, A⟩ := atW hW
 obtain rfl := A.v
 rw [<- A.len] at q
 exact ⟨_,rfl,a, _,_,_,rfl,rfl,SqT.of A.a, rfl,p, _,rfl,.inr (SqT.of A.p), q⟩
def sp_arl : Sp := fun vs H Q _ => ∃ (v : V) (t : Addr) (W : Wd) (ls : List Int), vs = [v, .ref t] /\ Rep H v (encW W) /\ W.Ok /\ H t = some (.tup (ls.map V.int)) /\ InB W ls /\ ∀ H', Same H H' -> Q (.bl true) H'
theorem ok_are_lengths (T : Txt K mg) : FnOk P w K mg base (CXr P w) 2 T.are_lengths.a T.are_lengths.d ["world", "thing"] sp_arl := by
 refine T.are_lengths.F.okN sc_are_lengths (fun vs H Q E h => ?_) (fun cdv A outer s H vs Q E hr h => ?_)
 . obtain ⟨v, t, W, ls, rfl,_⟩ := h; rfl
 obtain ⟨v, t, W, ls, rfl,hW, hok, ht, hin, q⟩ := h
 refine ⟨_,(pss_cons (ps_if (PW.pt (pw_or (pt_not (pt_val (pe_callB (call_isi kit_tuple) rfl T.n_isinstance bt_isinstance (pa_cons (pv 1) (pa_cons (pe_bltn (v := .ty "tuple") rfl T.n_tuple bt_tuple rfl) pa_nil))))) (pw_or1 (pt_cmpR op_ne (pe_callB call_len_seq rfl T.n_len bt_len (pa_cons (pv 1) pa_nil)) (pe_call (ok_how_many_works T) (hr.mono (by decide)) rfl T.how_many_works.m T.how_many_works.F.kp T.how_many_works.b .nil passN (pa_cons (pv 0) pa_nil)) (nomark _))))) (pss_one (ps_ret pe_bl)) pss_nil) (pss_one (ps_ret (pe_callB (call_allL rfl) rfl T.n_all bt_all (pa_cons (pe_comp (NB := ["part", "bounds"]) (js := [none, none]) rfl (blkOk_of rfl (by decide +kernel) rfl (by decide +kernel) (by decide +kernel) (by with_unfolding_all rfl) (by with_unfolding_all rfl) (by with_unfolding_all rfl) (by with_unfolding_all rfl)) (pi_zipK true true rfl T.n_zip (pa_cons (pv 1) (pa_cons (pe_ix ix_tup (pv 0) pe_int (fun _ _ => rfl)) pa_nil))) (fun _ _ _ _ => (b_pg_tup K (n := 2) rfl (pgs_cons (pg_name (i := 0) (show (["part", "bounds"] : List Str).Nodup by decide +kernel) rfl (by first|exact .inl rfl|exact .inr rfl)) (pgs_cons (pg_name (i := 1) (show (["part", "bounds"] : List Str).Nodup by decide +kernel) rfl (by first|exact .inl rfl|exact .inr rfl)) pgs_nil)))) (fun _ _ _ _ => pf_nil) (fun _ _ _ _ => (pe_call (ok_is_whole_within T) (hr.mono (by decide)) rfl T.is_whole_within.m T.is_whole_within.F.kp T.is_whole_within.b .nil passN (pa_cons (pv 0) (pa_cons (pe_ix (b_ix_tup K) (pv 1) pe_int (fun _ _ => rfl)) (pa_cons (pe_ix (b_ix_tup K) (pv 1) pe_int (fun _ _ => rfl)) pa_nil)))))) pa_nil))))), ?_⟩
 have l10 := hok.l10
 have rt : Rep H (.ref t) (.tuple (ls.map .int)) := .tup ht Reps.ints
 refine ⟨_,rfl,.ref t, _,rfl,rt, _,rfl,iteF ⟨_,rfl,t, _,rfl,.inr (SqT.of ht), _,rfl,v, W, rfl,hW, rfl,_,rfl,?_⟩⟩
 have el : (!decide (V.int ((ls.map V.int).length : Int) = V.int (W.bs.length : Int))) = false := by rw [List.length_map, hin.1]; simp
 refine if_f el ?_
 obtain ⟨ca, cp, cvs, AW⟩ := atW hW
 obtain rfl := AW.v
 refine ⟨_,rfl,_,rfl,ca, _,_,_,rfl,rfl,SqT.of AW.a, rfl,t, cp, _,_,rfl,SqT.of ht, SqT.of AW.p, fun D hD => ?_⟩
 refine comp_zipK (k1 := true) (k2 := true) (K := K) (a := t) (b := cp) (xs := ls.map V.int) (ys := cvs) (fun i ys H2 => Same H H2 /\ H2 D = some (.lst ys) /\ ys = (List.replicate i true).map V.bl) ⟨same_new hD _,upd_same, rfl⟩ (fun i ys H2 hP => ⟨SqT.of (hP.1 _ _ ht), SqT.of (hP.1 _ _ AW.p)⟩) (fun i ys x y p H2 hx hy hp hP => ?_) (fun ys H2 hP => ?_)
 . obtain ⟨g, hD2, rfl⟩ := hP
   have hi : i < W.bs.length := by rw [<- AW.len]; exact (List.getElem?_eq_some_iff.mp hy).1
   obtain ⟨q', hq', hqt⟩ := AW.it i _ (List.getElem?_eq_getElem hi)
   rw [hy] at hq'
   obtain rfl := Option.some.inj hq'
   rw [List.getElem?_map, List.getElem?_eq_getElem (by rw [hin.1]; exact hi)] at hx
   obtain rfl := Option.some.inj hx
   have b := hin.2 i _ _ (List.getElem?_eq_getElem hi) (List.getElem?_eq_getElem (by rw [hin.1]; exact hi))
   have hil : i < ls.length := by rw [hin.1]; exact hi
   have gp := same_new hp (.tup [.int ls[i], .ref q'])
   have hq2 := gp _ _ (g _ _ hqt)
   refine ⟨p, _,rfl,SqT.of upd_same, rfl,_,_,rfl,_,_,rfl,rfl,agree2, iteT ⟨_,rfl,_,rfl,q', _,_,_,rfl,rfl,SqT.of hq2, rfl,_,rfl,q', _,_,_,rfl,rfl,SqT.of hq2, rfl,_,_,_,rfl,b.1, b.2, gp _ _ hD2, trues_fit (by omega), (g.trans gp).write hD _,upd_same, trues_snoc i⟩⟩
 . obtain ⟨g, hD2, rfl⟩ := hP
   refine ⟨D, _,rfl,hD2, ?_⟩
   rw [all_trues]
   exact q H2 g
def sp_cl : Sp := fun vs H Q _ => ∃ (v : V) (t : Addr) (W : Wd) (ls : List Int), vs = [v, .ref t] /\ Rep H v (encW W) /\ W.Ok /\ H t = some (.tup (ls.map V.int)) /\ InB W ls /\ ∀ H', Same H H' -> Q .non H'
theorem ok_check_lengths (T : Txt K mg) : FnOk P w K mg base (CXr P w) 6 T.check_lengths.a T.check_lengths.d ["world", "lengths"] sp_cl := by
 refine T.check_lengths.F.okN sc_check_lengths (fun vs H Q E h => ?_) (fun cdv A outer s H vs Q E hr h => ?_)
 . obtain ⟨v, t, W, ls, rfl,_⟩ := h; rfl
 obtain ⟨v, t, W, ls, rfl,hW, hok, ht, hin, q⟩ := h
 refine ⟨_,(pss_cons (ps_expr (pe_call (ok_check_world T) (hr.mono (by decide)) rfl T.check_world.m T.check_world.F.kp T.check_world.b .nil passN (pa_cons (pv 0) pa_nil))) (pss_one (ps_if (pt_not (pt_val (pe_call (ok_are_lengths T) (hr.mono (by decide)) rfl T.are_lengths.m T.are_lengths.F.kp T.are_lengths.b .nil passN (pa_cons (pv 0) (pa_cons (pv 1) pa_nil))))) pss_any pss_nil))), ?_⟩
 exact ⟨_,rfl,v, W, rfl,hW, hok, fun H1 g1 => ⟨_,rfl,_,rfl,v, t, W, ls, rfl,hW.mono g1, hok, g1 _ _ ht, hin, fun H2 g2 => ⟨_,rfl,iteF (q H2 (g1.trans g2))⟩⟩⟩
def encT (t : Tk) : PyData := .tuple [.int t.1, .int t.2.1, .int t.2.2]
theorem all_encT (ts : List Tk) : immut.all (ts.map encT) = true := by
 induction ts with
 | nil => rfl
 | cons p r ih =>
  rw [List.map_cons]
  show (immut (encT p) && immut.all (r.map encT)) = true
  rw [ih]; rfl
theorem rep_zero (n : Nat) : (List.replicate n [V.int 0]).flatten = (zf n).map V.int := by
 rw [List.flatten_replicate_singleton]; unfold zf; rw [List.map_replicate]
theorem int_at {ls : List Int} {i : Nat} {x : V} (h : (ls.map V.int)[i]? = some x) : ∃ y : Int, ls[i]? = some y /\ x = .int y := by
 rw [List.getElem?_map] at h
 cases e : ls[i]? with
 | none => rw [e] at h; cases h
 | some y => rw [e] at h; exact ⟨y, rfl,(Option.some.inj h).symm⟩
theorem take_snoc {α : Type} {l : List α} {i : Nat} {x : α} (h : l[i]? = some x) : l.take (i + 1) = l.take i ++ [x] := by
 rw [List.take_add_one, h]; rfl
theorem ix_pl {f : List Int} (h : f ≠ []) : ixN (f.map V.int).length (pl f : Int) = some (pl f) := by
 have := pl_lt h
 exact ixN_of (Int.natCast_nonneg _) (by rw [List.length_map]; omega)
theorem at_pl {f : List Int} (h : f ≠ []) : atI (f.map V.int) (pl f : Int) = some (.int (mn f)) := atI_nat (by rw [List.getElem?_map, pl_get h]; rfl)
def sp_tu : Sp := fun vs H Q _ => ∃ (v : V) (t : Addr) (W : Wd) (ls : List Int), vs = [v, .ref t] /\ Rep H v (encW W) /\ W.Ok /\ H t = some (.tup (ls.map V.int)) /\ ls.length <= 10 /\
 ∀ (l : Addr) (ws : List V) (H' : Hp), Same H H' -> H l = none -> H' l = some (.lst ws) -> Reps H' ws ((tk (zf W.b.toNat) ls).map encT) -> Q (.ref l) H'
set_option maxHeartbeats 1000000 in
theorem ok_taken_up (T : Txt K mg) : FnOk P w K mg base (CXr P w) 2 T.taken_up.a T.taken_up.d ["world", "lengths"] sp_tu := by
 refine T.taken_up.F.okN sc_taken_up (fun vs H Q E h => ?_) (fun cdv A outer s H vs Q E hr h => ?_)
 . obtain ⟨v, t, W, ls, rfl,_⟩ := h; rfl
 obtain ⟨v, t, W, ls, rfl,hW, hok, ht, hl10, q⟩ := h
 refine ⟨_,(pss_cons (ps_set (i := 2) sc_taken_up.nd rfl (by first|exact .inl rfl|exact .inr rfl) (pe_op op_rep (pe_lst (pa_cons pe_int pa_nil)) (pe_call (ok_how_many_benches T) (hr.mono (by decide)) rfl T.how_many_benches.m T.how_many_benches.F.kp T.how_many_benches.b .nil passN (pa_cons (pv 0) pa_nil)))) (pss_cons (ps_set (i := 3) sc_taken_up.nd rfl (by first|exact .inl rfl|exact .inr rfl) (pe_lst pa_nil)) (pss_cons (ps_for PassesOwn.never rfl (pi_tup (pv 1)) (pg_name (i := 4) sc_taken_up.nd rfl (by first|exact .inl rfl|exact .inr rfl)) (pss_cons (ps_set (i := 5) sc_taken_up.nd rfl (by first|exact .inl rfl|exact .inr rfl) (pe_bm PySem.F.plainAttrs_list PySem.F.slot_list_index PySem.F.type_list_index mt_indexI (pv 2) (pa_cons (pe_callB (call_minL rfl) rfl T.n_min bt_min (pa_cons (pv 2) pa_nil)) pa_nil))) (pss_cons (ps_set (i := 6) sc_taken_up.nd rfl (by first|exact .inl rfl|exact .inr rfl) (pe_ix ix_list (pv 2) (pv 5) (fun _ _ => rfl))) (pss_cons (ps_asg (pe_op op_add (pv 6) (pv 4)) (pg_sub (pv 2) (pv 5) set_list)) (pss_one (ps_expr (pe_bm PySem.F.plainAttrs_list PySem.F.slot_list_append PySem.F.type_list_append mt_append (pv 3) (pa_cons (pe_tup (pa_cons (pv 5) (pa_cons (pv 6) (pa_cons (pe_op op_add (pv 6) (pv 4)) pa_nil)))) pa_nil)))))))) (pss_one (ps_ret (pv 3)))))), ?_⟩
 have b1 := hok.b1
 have b4 := hok.b4
 refine ⟨by show 1 <= sizeLine; decide, fun l0 hl0 => ?_⟩
 have g0 := same_new hl0 (.lst [.int 0])
 refine ⟨_,rfl,v, W, rfl,hW.mono g0, l0, _,_,rfl,rfl,upd_same, by omega, by omega, Nat.le_trans (show 1 * W.b.toNat <= 100 by omega) (by decide), fun f hf => ?_⟩
 have g1 := g0.trans (same_new hf (.lst (List.replicate W.b.toNat [V.int 0]).flatten))
 have hf1 : upd (upd H l0 (.lst [.int 0])) f (.lst (List.replicate W.b.toNat [V.int 0]).flatten) f = some (.lst ((zf W.b.toNat).map V.int)) := by rw [upd_same, rep_zero]
 have ff : H f = none := g0.free hf
 generalize upd (upd H l0 (.lst [.int 0])) f (.lst (List.replicate W.b.toNat [V.int 0]).flatten) = H1 at *
 refine ⟨Nat.zero_le _,fun d hd => ?_⟩
 have g2 := same_new hd (.lst [])
 have fd : H d = none := g1.free hd
 have hfd : f ≠ d := fun z => by rw [z, hd] at hf1; cases hf1
 refine ⟨_,rfl,t, rfl,⟨_,SqT.of (g2 _ _ (g1 _ _ ht))⟩, for_tup (K := K) (a := t) (xs := ls.map V.int) (fun i σ H2 => ∃ (ws : List V) (x4 x5 x6 : Option V), σ = [some v, some (.ref t), some (.ref f), some (.ref d), x4, x5, x6] /\ Same H H2 /\ H2 f = some (.lst ((fr (zf W.b.toNat) (ls.take i)).map V.int)) /\ H2 d = some (.lst ws) /\ Reps H2 ws ((tk (zf W.b.toNat) (ls.take i)).map encT)) ?_ ?_ ?_ ?_⟩
 . exact ⟨[], none, none, none, rfl,g1.trans g2, g2 _ _ hf1, upd_same, .nil⟩
 . rintro i σ H2 _ ⟨ws, x4, x5, x6, rfl,g, _⟩
   exact SqT.of (g _ _ ht)
 . rintro i u σ H2 hu ⟨ws, x4, x5, x6, rfl,g, hf2, hd2, rs⟩
   obtain ⟨x, hx, rfl⟩ := int_at hu
   have hfne : fr (zf W.b.toNat) (ls.take i) ≠ [] := fr_ne (zf_ne (by omega))
   have ef : fr (zf W.b.toNat) (ls.take (i + 1)) = nxt (fr (zf W.b.toNat) (ls.take i)) x := by rw [take_snoc hx, fr_snoc]
   have et := tk_snoc (zf W.b.toNat) (ls.take i) x
   rw [<- take_snoc hx] at et
   have hi : i < ls.length := (List.getElem?_eq_some_iff.mp hx).1
   have wl := rs.length
   rw [List.length_map, tk_len, List.length_take] at wl
   generalize fr (zf W.b.toNat) (ls.take i) = F at *
   refine ⟨_,rfl,.inl ⟨rfl,_,SqL.of hf2⟩, _,rfl,f, F, rfl,hf2, hfne, fun M hM hMl => ?_⟩
   obtain rfl := mn_eq hM hMl
   refine ⟨f, F, _,pl F, rfl,rfl,hf2, pl_get hfne, pl_first, ?_⟩
   refine ⟨_,rfl,_,rfl,f, _,_,_,rfl,rfl,SqL.of hf2, at_pl hfne, ?_⟩
   refine ⟨_,rfl,_,rfl,_,_,rfl,rfl,_,rfl,_,rfl,f, _,_,_,rfl,rfl,hf2, ix_pl hfne, ?_⟩
   have hdn : d ≠ f := Ne.symm hfd
   have hd3 : upd H2 f (.lst ((F.map V.int).set (pl F) (.int (mn F + x)))) d = some (.lst ws) := by rw [upd_ne hdn]; exact hd2
   have hf3 : upd H2 f (.lst ((F.map V.int).set (pl F) (.int (mn F + x)))) f = some (.lst ((nxt F x).map V.int)) := by rw [upd_same]; unfold nxt; rw [List.map_set]
   have ts3 : TSame H2 (upd H2 f (.lst ((F.map V.int).set (pl F) (.int (mn F + x))))) := TSame.lst hf2 _
   have gf : Same H (upd H2 f (.lst ((F.map V.int).set (pl F) (.int (mn F + x))))) := g.write ff _
   generalize upd H2 f (.lst ((F.map V.int).set (pl F) (.int (mn F + x)))) = H3 at *
   refine ⟨_,rfl,.inl ⟨rfl,_,SqL.of hd3⟩, _,rfl,_,rfl,_,rfl,_,rfl,_,_,rfl,rfl,by show 3 <= sizeLine; decide, fun p hp => ?_⟩
   have kp := same_new hp (.tup [.int (pl F), .int (mn F), .int (mn F + x)])
   have hd4 := kp _ _ hd3
   refine ⟨d, ws, .ref p, rfl,rfl,hd4, Nat.lt_of_lt_of_le (show ws.length < 100 by omega) (by decide), ?_⟩
   refine ⟨ws ++ [.ref p], _,_,_,rfl,(gf.trans kp).write fd _,?_,upd_same, ?_⟩
   . rw [upd_ne hfd, ef]; exact kp _ _ hf3
   . rw [et, List.map_append]
     have ts : TSame H2 (upd (upd H3 p (.tup [.int (pl F), .int (mn F), .int (mn F + x)])) d (.lst (ws ++ [.ref p]))) := (ts3.trans kp.ts).trans (TSame.lst hd4 _)
     refine (rs.tmono ts (all_encT _)).append (Reps.one (.tup ?_ (Reps.ints (ns := [_,_,_]))))
     rw [upd_ne (ne_of (upd_same (H := H3) (a := p)) hd4 (by intro z; cases z)), upd_same]
     rfl
 . rintro σ H2 ⟨ws, x4, x5, x6, rfl,g, hf2, hd2, rs⟩
   rw [List.length_map, List.take_length] at rs
   exact ⟨_,rfl,q d ws H2 g fd hd2 rs⟩
theorem tk_at {H : Hp} {ws : List V} {ts : List Tk} {i : Nat} {u : V} (rs : Reps H ws (ts.map encT)) (h : ws[i]? = some u) : ∃ (t : Tk) (p : Addr), ts[i]? = some t /\ u = .ref p /\ H p = some (.tup [.int t.1, .int t.2.1, .int t.2.2]) := by
 obtain ⟨d, hd, r⟩ := rs.get' h
 rw [List.getElem?_map] at hd
 cases e : ts[i]? with
 | none => rw [e] at hd; cases hd
 | some t =>
  rw [e] at hd
  obtain rfl := Option.some.inj hd
  obtain ⟨p, vs, rfl,hp, rv⟩ := r.tup_inv
  have ev : vs = [.int t.1, .int t.2.1, .int t.2.2] := Reps.ints_inv (ns := [t.1, t.2.1, t.2.2]) rv
  subst ev
  exact ⟨t, p, rfl,rfl,hp⟩
theorem map_snocI {α : Type} {l : List α} {i : Nat} {x : α} (h : l[i]? = some x) (f : α -> Int) : ((l.take i).map f).map V.int ++ [.int (f x)] = ((l.take (i + 1)).map f).map V.int := by
 rw [take_snoc h, List.map_append, List.map_append]; rfl
def sp_ends : Sp := fun vs H Q _ => ∃ (t : Addr) (b : Nat) (ls : List Int), vs = [.int b, .ref t] /\ 0 < b /\ b <= 4 /\ H t = some (.tup (ls.map V.int)) /\ ls.length <= 10 /\ ∀ (l : Addr) (H' : Hp), Same H H' -> H l = none -> H' l = some (.lst ((ens b ls).map V.int)) -> Q (.ref l) H'
set_option maxHeartbeats 1000000 in
theorem ok_law_ends (T : Txt K mg) : FnOk P w K mg base (CXr P w) 1 T.law_ends.a T.law_ends.d ["_law_many", "_law_some_here"] sp_ends := by
 refine T.law_ends.F.okN sc_law_ends (fun vs H Q E h => ?_) (fun cdv A outer s H vs Q E hr h => ?_)
 . obtain ⟨t, b, ls, rfl,_⟩ := h; rfl
 obtain ⟨t, b, ls, rfl,hb, hb4, ht, hl10, q⟩ := h
 refine ⟨_,(pss_cons (ps_par (i := 2) (j := 3) rfl sc_law_ends.nd rfl rfl (by decide) rfl rfl (pa_cons (pe_op op_rep (pe_lst (pa_cons pe_int pa_nil)) (pv 0)) (pa_cons (pe_lst pa_nil) pa_nil)) (by with_unfolding_all rfl)) (pss_cons (ps_for PassesOwn.never rfl (pi_tup (pv 1)) (pg_name (i := 4) sc_law_ends.nd rfl (by first|exact .inl rfl|exact .inr rfl)) (pss_cons (ps_set (i := 5) sc_law_ends.nd rfl (by first|exact .inl rfl|exact .inr rfl) (pe_bm PySem.F.plainAttrs_list PySem.F.slot_list_index PySem.F.type_list_index mt_indexI (pv 2) (pa_cons (pe_callB (call_minL rfl) rfl T.n_min bt_min (pa_cons (pv 2) pa_nil)) pa_nil))) (pss_cons (ps_asg (pe_op op_add (pe_ix ix_list (pv 2) (pv 5) (fun _ _ => rfl)) (pv 4)) (pg_sub (pv 2) (pv 5) set_list)) (pss_one (ps_expr (pe_bm PySem.F.plainAttrs_list PySem.F.slot_list_append PySem.F.type_list_append mt_append (pv 3) (pa_cons (pe_ix ix_list (pv 2) (pv 5) (fun _ _ => rfl)) pa_nil))))))) (pss_one (ps_ret (pv 3))))), ?_⟩
 have b1 : 0 < b := hb
 refine ⟨by show 1 <= sizeLine; decide, fun l0 hl0 => ?_⟩
 have g0 := same_new hl0 (.lst [.int 0])
 have eb : ((b : Nat) : Int).toNat = b := Int.toNat_natCast b
 refine ⟨_,rfl,l0, _,_,rfl,rfl,upd_same, by omega, by omega, Nat.le_trans (show 1 * ((b : Nat) : Int).toNat <= 100 by omega) (by decide), fun f hf => ?_⟩
 have g1 := g0.trans (same_new hf (.lst (List.replicate ((b : Nat) : Int).toNat [V.int 0]).flatten))
 have hf1 : upd (upd H l0 (.lst [.int 0])) f (.lst (List.replicate ((b : Nat) : Int).toNat [V.int 0]).flatten) f = some (.lst ((zf b).map V.int)) := by rw [upd_same, rep_zero, eb]
 have ff : H f = none := g0.free hf
 generalize upd (upd H l0 (.lst [.int 0])) f (.lst (List.replicate ((b : Nat) : Int).toNat [V.int 0]).flatten) = H1 at *
 refine ⟨Nat.zero_le _,fun d hd => ?_⟩
 have g2 := same_new hd (.lst [])
 have fd : H d = none := g1.free hd
 have hfd : f ≠ d := fun z => by rw [z, hd] at hf1; cases hf1
 refine ⟨_,_,rfl,_,rfl,t, rfl,⟨_,SqT.of (g2 _ _ (g1 _ _ ht))⟩, for_tup (K := K) (a := t) (xs := ls.map V.int) (fun i σ H2 => ∃ (x4 x5 : Option V), σ = [some (.int b), some (.ref t), some (.ref f), some (.ref d), x4, x5] /\ Same H H2 /\ H2 f = some (.lst ((fr (zf b) (ls.take i)).map V.int)) /\ H2 d = some (.lst (((tk (zf b) (ls.take i)).map fun t => t.2.2).map V.int))) ?_ ?_ ?_ ?_⟩
 . exact ⟨none, none, rfl,g1.trans g2, g2 _ _ hf1, upd_same⟩
 . rintro i σ H2 _ ⟨x4, x5, rfl,g, _⟩
   exact SqT.of (g _ _ ht)
 . rintro i u σ H2 hu ⟨x4, x5, rfl,g, hf2, hd2⟩
   obtain ⟨x, hx, rfl⟩ := int_at hu
   have hfne : fr (zf b) (ls.take i) ≠ [] := fr_ne (zf_ne (by omega))
   have ef : fr (zf b) (ls.take (i + 1)) = nxt (fr (zf b) (ls.take i)) x := by rw [take_snoc hx, fr_snoc]
   have et := tk_snoc (zf b) (ls.take i) x
   rw [<- take_snoc hx] at et
   have hi : i < ls.length := (List.getElem?_eq_some_iff.mp hx).1
   have tl := tk_len (zf b) (ls.take i)
   rw [List.length_take] at tl
   generalize fr (zf b) (ls.take i) = F at *
   refine ⟨_,rfl,.inl ⟨rfl,_,SqL.of hf2⟩, _,rfl,f, F, rfl,hf2, hfne, fun M hM hMl => ?_⟩
   obtain rfl := mn_eq hM hMl
   refine ⟨f, F, _,pl F, rfl,rfl,hf2, pl_get hfne, pl_first, ?_⟩
   refine ⟨_,rfl,_,rfl,f, _,_,_,rfl,rfl,SqL.of hf2, at_pl hfne, _,rfl,_,_,rfl,rfl,_,rfl,_,rfl,f, _,_,_,rfl,rfl,hf2, ix_pl hfne, ?_⟩
   have hdn : d ≠ f := Ne.symm hfd
   have hd3 : upd H2 f (.lst ((F.map V.int).set (pl F) (.int (mn F + x)))) d = some (.lst (((tk (zf b) (ls.take i)).map fun t => t.2.2).map V.int)) := by rw [upd_ne hdn]; exact hd2
   have hf3 : upd H2 f (.lst ((F.map V.int).set (pl F) (.int (mn F + x)))) f = some (.lst ((nxt F x).map V.int)) := by rw [upd_same]; unfold nxt; rw [List.map_set]
   have gf : Same H (upd H2 f (.lst ((F.map V.int).set (pl F) (.int (mn F + x))))) := g.write ff _
   generalize upd H2 f (.lst ((F.map V.int).set (pl F) (.int (mn F + x)))) = H3 at *
   have at3 : atI ((nxt F x).map V.int) (pl F : Int) = some (.int (mn F + x)) := atI_nat (by rw [List.getElem?_map]; unfold nxt; rw [List.getElem?_set_self (pl_lt hfne)]; rfl)
   refine ⟨_,rfl,.inl ⟨rfl,_,SqL.of hd3⟩, _,rfl,_,rfl,f, _,_,_,rfl,rfl,SqL.of hf3, at3, d, _,_,rfl,rfl,hd3, ?_,?_⟩
   . rw [List.length_map, List.length_map]
     exact Nat.lt_of_lt_of_le (show _ < 100 by omega) (by decide)
   refine ⟨_,_,rfl,gf.write fd _,?_,?_⟩
   . rw [upd_ne hfd, ef]; exact hf3
   . rw [upd_same, et, List.map_append, List.map_append]; rfl
 . rintro σ H2 ⟨x4, x5, rfl,g, hf2, hd2⟩
   rw [List.length_map, List.take_length] at hd2
   exact ⟨_,rfl,q d H2 g fd hd2⟩
end
end Be.G
set_option Elab.async false
set_option linter.all false
set_option maxRecDepth 100000
namespace Be
open PySem L2
def wholeIn (d : PyData) (lo hi : Int) : Bool := match d with
 | .int i => decide (lo <= i) && decide (i <= hi)
 | _ => false
def isPairD : PyData -> Bool
 | .tuple ds => decide (ds.length = 2)
 | _ => false
def bowD : PyData -> Bool
 | .tuple [.int i, b] => wholeIn (.int i) 1 99 && wholeIn b i 99
 | _ => false
def arBD : PyData -> Bool
 | .tuple ds => decide (1 <= ds.length) && decide (ds.length <= 10) && ds.all bowD
 | _ => false
def isWD : PyData -> Bool
 | .tuple [b, x] => wholeIn b 1 4 && arBD x
 | _ => false
theorem pair_of {d : PyData} (h : isPairD d = true) : ∃ x y, d = .tuple [x, y] := by
 cases d with
 | tuple ds =>
  have := of_decide_eq_true (show decide (ds.length = 2) = true from h)
  match ds, this with
  | [x, y], _ => exact ⟨x, y, rfl⟩
 | _ => cases h
theorem bow_no {d : PyData} (h : isPairD d = false) : bowD d = false := by
 unfold bowD
 split
 . cases h
 . rfl
theorem isW_no {d : PyData} (h : isPairD d = false) : isWD d = false := by
 unfold isWD
 split
 . cases h
 . rfl
section
variable {P : Program} {w : World} {K : PySem.W.Frag} {mg : Str -> Option Value} {base : Heap}
def sp_whole : Sp := fun vs H Q _ => ∃ (v : V) (d : PyData) (lo hi : Int), vs = [v, .int lo, .int hi] /\ Rep H v d /\ Q (.bl (wholeIn d lo hi)) H
theorem ok_is_whole_within (T : Txt K mg) : FnOk P w K mg base (CXr P w) 1 T.is_whole_within.a T.is_whole_within.d ["thing", "least", "most"] sp_whole := by
 refine T.is_whole_within.F.okN sc_is_whole_within (fun vs H Q E h => ?_) (fun cdv A outer s H vs Q E hr h => ?_)
 . obtain ⟨v, d, lo, hi, rfl,_⟩ := h; rfl
 obtain ⟨v, d, lo, hi, rfl,hd, q⟩ := h
 refine ⟨_,(pss_cons (ps_if (PW.pt (pw_or (pt_not (pt_val (pe_callB (call_isi kit_int) rfl T.n_isinstance bt_isinstance (pa_cons (pv 0) (pa_cons (pe_bltn (v := .ty "int") rfl T.n_int bt_int rfl) pa_nil))))) (pw_or1 (pt_val (pe_callB (call_isi kit_bool) rfl T.n_isinstance bt_isinstance (pa_cons (pv 0) (pa_cons (pe_bltn (v := .ty "bool") rfl T.n_bool bt_bool rfl) pa_nil))))))) (pss_one (ps_ret pe_bl)) pss_nil) (pss_one (ps_ret (pe_chain op_le op_le (pv 1) (pv 0) (pv 2))))), ?_⟩
 refine ⟨_,rfl,v, d, rfl,hd, _,rfl,?_⟩
 cases hd with
 | non => exact iteT (iteT q)
 | str x => exact iteT (iteT q)
 | lst e r => exact iteT (iteT q)
 | tup e r => exact iteT (iteT q)
 | bl b => exact iteF ⟨_,rfl,_,_,rfl,.bl b, _,rfl,iteT q⟩
 | int i =>
  refine iteF ⟨_,rfl,_,_,rfl,.int i, _,rfl,iteF ?_⟩
  refine ⟨_,rfl,_,rfl,_,_,rfl,rfl,_,rfl,?_⟩
  refine ite2 (fun c => ?_) (fun c => ?_)
  . refine ⟨_,rfl,_,_,rfl,rfl,?_⟩
    have e : wholeIn (.int i) lo hi = decide (i <= hi) := by show (decide (lo <= i) && decide (i <= hi)) = _; rw [c]; rfl
    rw [e] at q
    exact q
  . have e : wholeIn (.int i) lo hi = false := by show (decide (lo <= i) && decide (i <= hi)) = _; rw [Bool.eq_false_iff.mpr c]; rfl
    rw [e] at q
    exact q
def sp_pair : Sp := fun vs H Q _ => ∃ (v : V) (d : PyData), vs = [v] /\ Rep H v d /\ Q (.bl (isPairD d)) H
theorem ok_is_pair (T : Txt K mg) : FnOk P w K mg base (CXr P w) 1 T.is_pair.a T.is_pair.d ["thing"] sp_pair := by
 refine T.is_pair.F.okN sc_is_pair (fun vs H Q E h => ?_) (fun cdv A outer s H vs Q E hr h => ?_)
 . obtain ⟨v, d, rfl,_⟩ := h; rfl
 obtain ⟨v, d, rfl,hd, q⟩ := h
 refine ⟨_,(pss_one (ps_ret (pe_and (pe_callB (call_isi kit_tuple) rfl T.n_isinstance bt_isinstance (pa_cons (pv 0) (pa_cons (pe_bltn (v := .ty "tuple") rfl T.n_tuple bt_tuple rfl) pa_nil))) (pe_one (pe_cmpR op_eq (pe_callB call_len_seq rfl T.n_len bt_len (pa_cons (pv 0) pa_nil)) pe_int (nomark _)))))), ?_⟩
 refine ⟨_,rfl,v, d, rfl,hd, _,rfl,?_⟩
 cases hd with
 | non => exact iteF q
 | str x => exact iteF q
 | bl b => exact iteF q
 | int i => exact iteF q
 | lst e r => exact iteF q
 | @tup a vs ds e r =>
  refine iteT ⟨_,rfl,a, _,rfl,.inr (SqT.of e), rfl,?_⟩
  have z : decide (V.int (vs.length : Int) = V.int 2) = isPairD (.tuple ds) := by
   show _ = decide (ds.length = 2)
   rw [r.length]
   by_cases h2 : ds.length = 2
   . rw [h2]; rfl
   . rw [decide_eq_false h2, decide_eq_false]
     intro z
     have := V.int.inj z
     omega
  rw [z]
  exact q
def sp_bow : Sp := fun vs H Q _ => ∃ (v : V) (d : PyData), vs = [v] /\ Rep H v d /\ Q (.bl (bowD d)) H
theorem ok_are_bounds_of_work (T : Txt K mg) : FnOk P w K mg base (CXr P w) 2 T.are_bounds_of_work.a T.are_bounds_of_work.d ["thing"] sp_bow := by
 refine T.are_bounds_of_work.F.okN sc_are_bounds_of_work (fun vs H Q E h => ?_) (fun cdv A outer s H vs Q E hr h => ?_)
 . obtain ⟨v, d, rfl,_⟩ := h; rfl
 obtain ⟨v, d, rfl,hd, q⟩ := h
 refine ⟨_,(pss_cons (ps_if (PW.pt (pw_or (pt_not (pt_val (pe_call (ok_is_pair T) (hr.mono (by decide)) rfl T.is_pair.m T.is_pair.F.kp T.is_pair.b .nil passN (pa_cons (pv 0) pa_nil)))) (pw_or1 (pt_not (pt_val (pe_call (ok_is_whole_within T) (hr.mono (by decide)) rfl T.is_whole_within.m T.is_whole_within.F.kp T.is_whole_within.b .nil passN (pa_cons (pe_ix ix_tup (pv 0) pe_int (fun _ _ => rfl)) (pa_cons pe_int (pa_cons (pe_glob (v := .int 99) rfl T.c_MOST_LENGTH.choose_spec ⟨_,rfl⟩) pa_nil))))))))) (pss_one (ps_ret pe_bl)) pss_nil) (pss_one (ps_ret (pe_call (ok_is_whole_within T) (hr.mono (by decide)) rfl T.is_whole_within.m T.is_whole_within.F.kp T.is_whole_within.b .nil passN (pa_cons (pe_ix ix_tup (pv 0) pe_int (fun _ _ => rfl)) (pa_cons (pe_ix ix_tup (pv 0) pe_int (fun _ _ => rfl)) (pa_cons (pe_glob (v := .int 99) rfl T.c_MOST_LENGTH.choose_spec ⟨_,rfl⟩) pa_nil))))))), ?_⟩
 refine ⟨_,rfl,v, d, rfl,hd, _,rfl,?_⟩
 cases hp : isPairD d with
 | false =>
  rw [bow_no hp] at q
  exact iteT (iteT q)
 | true =>
  obtain ⟨x, y, rfl⟩ := pair_of hp
  obtain ⟨a, vs, rfl,ha, rs⟩ := hd.tup_inv
  cases rs with
  | @cons v1 _ _ _ r1 rs =>
   cases rs with
   | @cons v2 _ _ _ r2 rs =>
    cases rs
    refine iteF ⟨_,rfl,a, _,_,_,rfl,rfl,SqT.of ha, rfl,_,x, 1, 99, rfl,r1, _,rfl,?_⟩
    cases hx : wholeIn x 1 99 with
    | false =>
     have e : bowD (.tuple [x, y]) = false := by
      cases x with
      | int i => show (wholeIn (.int i) 1 99 && _) = false; rw [hx]; rfl
      | _ => rfl
     rw [e] at q
     exact iteT q
    | true =>
     cases r1 with
     | int i =>
      refine iteF ?_
      refine ⟨_,rfl,a, _,_,_,rfl,rfl,SqT.of ha, rfl,_,rfl,a, _,_,_,rfl,rfl,SqT.of ha, rfl,v2, y, i, 99, rfl,r2, ?_⟩
      have e : bowD (.tuple [.int i, y]) = wholeIn y i 99 := by show (wholeIn (.int i) 1 99 && _) = _; rw [hx]; rfl
      rw [e] at q
      exact q
     | _ => cases hx
def sp_arb : Sp := fun vs H Q _ => ∃ (v : V) (d : PyData), vs = [v] /\ Rep H v d /\ ∀ H', Same H H' -> Q (.bl (arBD d)) H'
theorem ok_are_bounds (T : Txt K mg) : FnOk P w K mg base (CXr P w) 3 T.are_bounds.a T.are_bounds.d ["thing"] sp_arb := by
 refine T.are_bounds.F.okN sc_are_bounds (fun vs H Q E h => ?_) (fun cdv A outer s H vs Q E hr h => ?_)
 . obtain ⟨v, d, rfl,_⟩ := h; rfl
 obtain ⟨v, d, rfl,hd, q⟩ := h
 refine ⟨_,(pss_cons (ps_if (PW.pt (pw_or (pt_not (pt_val (pe_callB (call_isi kit_tuple) rfl T.n_isinstance bt_isinstance (pa_cons (pv 0) (pa_cons (pe_bltn (v := .ty "tuple") rfl T.n_tuple bt_tuple rfl) pa_nil))))) (pw_or1 (pt_not (pt_chain op_le op_le pe_int (pe_callB call_len_seq rfl T.n_len bt_len (pa_cons (pv 0) pa_nil)) (pe_glob (v := .int 10) rfl T.c_MOST_WORKS.choose_spec ⟨_,rfl⟩)))))) (pss_one (ps_ret pe_bl)) pss_nil) (pss_one (ps_ret (pe_callB (call_allL rfl) rfl T.n_all bt_all (pa_cons (pe_comp (NB := ["part"]) (js := [none]) rfl (blkOk_of rfl (by decide +kernel) rfl (by decide +kernel) (by decide +kernel) (by with_unfolding_all rfl) (by with_unfolding_all rfl) (by with_unfolding_all rfl) (by with_unfolding_all rfl)) (pi_tup (pv 0)) (fun _ _ _ _ => (pg_name (i := 0) (show (["part"] : List Str).Nodup by decide +kernel) rfl (by first|exact .inl rfl|exact .inr rfl))) (fun _ _ _ _ => pf_nil) (fun _ _ _ _ => (pe_call (ok_are_bounds_of_work T) (hr.mono (by decide)) rfl T.are_bounds_of_work.m T.are_bounds_of_work.F.kp T.are_bounds_of_work.b .nil passN (pa_cons (pv 0) pa_nil)))) pa_nil))))), ?_⟩
 refine ⟨_,rfl,v, d, rfl,hd, _,rfl,?_⟩
 cases hd with
 | non => exact iteT (iteT (q H (Same.refl H)))
 | str x => exact iteT (iteT (q H (Same.refl H)))
 | bl b => exact iteT (iteT (q H (Same.refl H)))
 | int i => exact iteT (iteT (q H (Same.refl H)))
 | lst e r => exact iteT (iteT (q H (Same.refl H)))
 | @tup a vs ds e r =>
  have hl := r.length
  refine iteF ⟨_,rfl,a, _,rfl,.inr (SqT.of e), _,_,rfl,rfl,_,rfl,?_⟩
  refine ite2 (fun c1 => ?_) (fun c1 => ?_)
  . have c1' : 1 <= (vs.length : Int) := of_decide_eq_true c1
    refine ⟨_,_,rfl,rfl,_,rfl,?_⟩
    refine ite2 (fun c2 => ?_) (fun c2 => ?_)
    . have c2' : ¬ ((vs.length : Int) <= 10) := by simpa using c2
      have no : arBD (.tuple ds) = false := by
       show (_ && decide (ds.length <= 10) && _) = false
       rw [decide_eq_false (show ¬ ds.length <= 10 by omega)]; simp
      rw [no] at q
      exact q H (Same.refl H)
    . have c2' : (vs.length : Int) <= 10 := by simpa using c2
      have yes : arBD (.tuple ds) = ds.all bowD := by
       show (decide (1 <= ds.length) && decide (ds.length <= 10) && ds.all bowD) = _
       rw [decide_eq_true (show 1 <= ds.length by omega), decide_eq_true (show ds.length <= 10 by omega)]; rfl
      rw [yes] at q
      refine ⟨_,rfl,a, rfl,⟨_,SqT.of e⟩, fun D hD => ?_⟩
      refine comp_tup (K := K) (a := a) (xs := vs) (Q := fun x H1 => rAll [x] H1 Q) (fun i ys H2 => Same H H2 /\ H2 D = some (.lst ys) /\ ys = ((ds.take i).map bowD).map V.bl) ⟨same_new hD _,upd_same, rfl⟩ (fun i ys H2 _ hP => SqT.of (hP.1 _ _ e)) (fun i ys x H2 hx hP => ?_) (fun ys H2 hP => ?_)
      . obtain ⟨g, hD2, rfl⟩ := hP
        obtain ⟨d, hd, rx⟩ := (r.mono g).get' hx
        have hi : i < ds.length := (List.getElem?_eq_some_iff.mp hd).1
        refine ⟨agree0, iteT ⟨_,rfl,x, d, rfl,rx, hD2, ?_,g.write hD _,upd_same, ?_⟩⟩
        . rw [List.length_map, List.length_map]
          have := List.length_take_le i ds
          exact Nat.lt_of_lt_of_le (show _ < 100 by omega) (by decide)
        . rw [List.take_add_one, hd, List.map_append, List.map_append]; rfl
      . obtain ⟨g, hD2, rfl⟩ := hP
        rw [hl, List.take_length] at hD2
        refine ⟨D, _,rfl,hD2, ?_⟩
        rw [List.all_map]
        exact q H2 g
  . refine ⟨_,rfl,iteT ?_⟩
    have c1' : ¬ (1 <= (vs.length : Int)) := of_decide_eq_false (Bool.eq_false_iff.mpr c1)
    have no : arBD (.tuple ds) = false := by
     show (decide (1 <= ds.length) && _ && _) = false
     rw [decide_eq_false (show ¬ 1 <= ds.length by omega)]; simp
    rw [no] at q
    exact q H (Same.refl H)
def sp_isw : Sp := fun vs H Q _ => ∃ (v : V) (d : PyData), vs = [v] /\ Rep H v d /\ ∀ H', Same H H' -> Q (.bl (isWD d)) H'
theorem ok_is_world (T : Txt K mg) : FnOk P w K mg base (CXr P w) 4 T.is_world.a T.is_world.d ["thing"] sp_isw := by
 refine T.is_world.F.okN sc_is_world (fun vs H Q E h => ?_) (fun cdv A outer s H vs Q E hr h => ?_)
 . obtain ⟨v, d, rfl,_⟩ := h; rfl
 obtain ⟨v, d, rfl,hd, q⟩ := h
 refine ⟨_,(pss_one (ps_ret (pe_and (pe_call (ok_is_pair T) (hr.mono (by decide)) rfl T.is_pair.m T.is_pair.F.kp T.is_pair.b .nil passN (pa_cons (pv 0) pa_nil)) (pe_and (pe_call (ok_is_whole_within T) (hr.mono (by decide)) rfl T.is_whole_within.m T.is_whole_within.F.kp T.is_whole_within.b .nil passN (pa_cons (pe_ix ix_tup (pv 0) pe_int (fun _ _ => rfl)) (pa_cons pe_int (pa_cons (pe_glob (v := .int 4) rfl T.c_MOST_BENCHES.choose_spec ⟨_,rfl⟩) pa_nil)))) (pe_one (pe_call (ok_are_bounds T) (hr.mono (by decide)) rfl T.are_bounds.m T.are_bounds.F.kp T.are_bounds.b .nil passN (pa_cons (pe_ix ix_tup (pv 0) pe_int (fun _ _ => rfl)) pa_nil))))))), ?_⟩
 refine ⟨_,rfl,v, d, rfl,hd, _,rfl,?_⟩
 cases hp : isPairD d with
 | false =>
  rw [isW_no hp] at q
  exact iteF (q H (Same.refl H))
 | true =>
  obtain ⟨x, y, rfl⟩ := pair_of hp
  obtain ⟨a, vs, rfl,ha, rs⟩ := hd.tup_inv
  cases rs with
  | @cons v1 _ _ _ r1 rs =>
   cases rs with
   | @cons v2 _ _ _ r2 rs =>
    cases rs
    refine iteT ⟨_,rfl,a, _,_,_,rfl,rfl,SqT.of ha, rfl,v1, x, 1, 4, rfl,r1, _,rfl,?_⟩
    cases hx : wholeIn x 1 4 with
    | false =>
     have e : isWD (.tuple [x, y]) = false := by show (wholeIn x 1 4 && _) = false; rw [hx]; rfl
     rw [e] at q
     exact iteF (q H (Same.refl H))
    | true =>
     have e : isWD (.tuple [x, y]) = arBD y := by show (wholeIn x 1 4 && _) = _; rw [hx]; rfl
     rw [e] at q
     exact iteT ⟨_,rfl,a, _,_,_,rfl,rfl,SqT.of ha, rfl,v2, y, rfl,r2, fun H' g => q H' g⟩
def sp_cw (T : Txt K mg) : Sp := fun vs H Q E => ∃ (v : V) (d : PyData), vs = [v] /\ Rep H v d /\ (isWD d = true -> ∀ H', Same H H' -> Q .non H') /\ (isWD d = false -> ∀ H', Same H H' -> E (.ref T.e_NoWorld.C) none H')
theorem ok_check_world (T : Txt K mg) : FnOk P w K mg base (CXr P w) 5 T.check_world.a T.check_world.d ["world"] (sp_cw T) := by
 refine T.check_world.F.okR sc_check_world (fun vs H Q E h => ?_) (fun cdv A outer s H vs Q E hr h => ?_)
 . obtain ⟨v, d, rfl,_⟩ := h; rfl
 obtain ⟨v, d, rfl,hd, q1, q2⟩ := h
 refine ⟨_,(pss_one (ps_if (pt_not (pt_val (pe_call (ok_is_world T) (hr.mono (by decide)) rfl T.is_world.m T.is_world.F.kp T.is_world.b .nil passN (pa_cons (pv 0) pa_nil)))) (pss_one (ps_raise T.e_NoWorld.m T.e_NoWorld.q PySem.F.excBase_ValueError hr.hd pe_str rfl)) pss_nil)), ?_⟩
 refine ⟨_,rfl,v, d, rfl,hd, fun H' g => ⟨_,rfl,?_⟩⟩
 cases hw : isWD d with
 | true => exact iteF (q1 hw H' g)
 | false => exact iteT ⟨by show 1 <= sizeLine; decide, q2 hw H' g⟩
end
end Be
set_option Elab.async false
set_option linter.all false
set_option maxRecDepth 100000
namespace Be
open PySem L2
section
variable {P : Program} {w : World} {K : PySem.W.Frag} {mg : Str -> Option Value} {base : Heap}
def sp_running (K : PySem.W.Frag) : Sp := fun vs H Q _ => ∃ (v : V) (p : Addr) (W : Wd) (o : List Int), vs = [v, .ref p] /\ Rep H v (encW W) /\ W.Ok /\ (SqL K H p (o.map V.int) \/ SqT K H p (o.map V.int)) /\ o.length <= 100 /\
 ∀ (r : Addr) (H' : Hp), Same H H' -> H r = none -> H' r = some (.lst ((runM W o).map V.int)) -> Q (.ref r) H'
theorem run_pre (o : List Int) (i : Nat) : ((upto (i + 1)).filter fun x => decide (x ∉ o)) = ((upto i).filter fun x => decide (x ∉ o)) ++ (if (i : Int) ∈ o then [] else [(i : Int)]) := by
 rw [upto_succ, List.filter_append]
 by_cases h : (i : Int) ∈ o <;> simp [h]
end
end Be
set_option Elab.async false
set_option linter.all false
set_option maxRecDepth 100000
namespace L2
open PySem PySem.Spec PyProof.Rows
section
variable {κ : Type} [DecidableEq κ]
def valV (kvs : List (κ × V)) (k : κ) : Option V := (kvs.find? fun kv => decide (kv.1 = k)).map (·.2)
def putK (kvs : List (κ × V)) (k : κ) (v : V) : List (κ × V) :=
 if (kvs.any fun kv => decide (kv.1 = k)) = true then kvs.map (fun kv => if kv.1 = k then (kv.1, v) else kv) else kvs ++ [(k, v)]
theorem valV_pos {p : κ × V} {r : List (κ × V)} {k : κ} (e : p.1 = k) : valV (p :: r) k = some p.2 := by simp [valV, List.find?_cons, e]
theorem valV_neg {p : κ × V} {r : List (κ × V)} {k : κ} (e : ¬ p.1 = k) : valV (p :: r) k = valV r k := by simp [valV, List.find?_cons, e]
theorem valV_any (k : κ) : ∀ kvs : List (κ × V), (kvs.any fun kv => decide (kv.1 = k)) = (valV kvs k).isSome
 | [] => rfl
 | p :: r => by
  rw [List.any_cons]
  by_cases e : p.1 = k
  . simp only [valV_pos e, decide_eq_true e, Bool.true_or, Option.isSome_some]
  . rw [valV_neg e, decide_eq_false e, Bool.false_or]; exact valV_any k r
theorem length_putK (kvs : List (κ × V)) (k : κ) (v : V) : (putK kvs k v).length <= kvs.length + 1 := by
 unfold putK
 split
 . rw [List.length_map]; omega
 . rw [List.length_append, List.length_cons, List.length_nil]; omega
theorem putK_new {kvs : List (κ × V)} {k : κ} (v : V) (h : valV kvs k = none) : putK kvs k v = kvs ++ [(k, v)] := by
 unfold putK
 rw [valV_any, h]
 exact if_neg (by decide)
theorem RelO.isSome_eq {o : Option V} {u : Option Value} (r : RelO o u) : o.isSome = u.isSome := by
 cases o with
 | none => cases u with
  | none => rfl
  | some _ => exact (show False from r).elim
 | some _ => cases u with
  | none => exact (show False from r).elim
  | some _ => rfl
theorem RelO.getD {o : Option V} {u : Option Value} {d : V} {d' : Value} (r : RelO o u) (rd : RelV d d') : RelV (o.getD d) (u.getD d') := by
 cases o with
 | none => cases u with
  | none => exact rd
  | some _ => exact (show False from r).elim
 | some _ => cases u with
  | none => exact (show False from r).elim
  | some _ => exact r
theorem KV.val {kvs : List (κ × V)} {vs : List (κ × Value)} (r : KV kvs vs) (k : κ) : RelO (valV kvs k) (valueAt vs k) := by
 unfold KV at r
 induction r with
 | nil => exact True.intro
 | @cons p q ps qs h t ih =>
  obtain ⟨h1, h2⟩ := h
  by_cases e : p.1 = k
  . have e' : q.1 = k := h1.symm.trans e
    have b : valueAt (q :: qs) k = some q.2 := by simp [valueAt, List.find?_cons, e']
    rw [valV_pos e, b]; exact h2
  . have e' : ¬ q.1 = k := fun z => e (h1.trans z)
    have b : valueAt (q :: qs) k = valueAt qs k := by simp [valueAt, List.find?_cons, e']
    rw [valV_neg e, b]; exact ih
theorem KV.any {kvs : List (κ × V)} {vs : List (κ × Value)} (r : KV kvs vs) (k : κ) : (kvs.any fun kv => decide (kv.1 = k)) = vs.any fun kv => decide (kv.1 = k) := by
 unfold KV at r
 induction r with
 | nil => rfl
 | cons h t ih => rw [List.any_cons, List.any_cons, ih, h.1]
theorem KV.repl {kvs : List (κ × V)} {vs : List (κ × Value)} (r : KV kvs vs) (k : κ) {y : V} {u : Value} (ry : RelV y u) :
    KV (kvs.map fun kv => if kv.1 = k then (kv.1, y) else kv) (vs.map fun kv => if kv.1 = k then (kv.1, u) else kv) := by
 unfold KV at r ⊢
 induction r with
 | nil => exact .nil
 | @cons p q ps qs h t ih =>
  rw [List.map_cons, List.map_cons]
  refine .cons ?_ ih
  obtain ⟨h1, h2⟩ := h
  by_cases e : p.1 = k
  . rw [if_pos e, if_pos (h1.symm.trans e)]; exact ⟨h1, ry⟩
  . rw [if_neg e, if_neg (fun z => e (h1.trans z))]; exact ⟨h1, h2⟩
theorem KV.put {kvs : List (κ × V)} {vs : List (κ × Value)} (r : KV kvs vs) (k : κ) {y : V} {u : Value} (ry : RelV y u) : KV (putK kvs k y) (stored vs k u) := by
 unfold putK stored
 rw [r.any k]
 by_cases e : (vs.any fun kv => decide (kv.1 = k)) = true
 . rw [if_pos e, if_pos e]; exact r.repl k ry
 . rw [if_neg e, if_neg e]; exact Paired.snoc r ⟨rfl,ry⟩
theorem KV.length {kvs : List (κ × V)} {vs : List (κ × Value)} (r : KV kvs vs) : kvs.length = vs.length := Paired.length r
end
theorem kV_is {P : Program} {w : World} {k : Key} {u : Value} (r : RelV (kV k) u) : (mixKind P w).is k u = true := by
 cases k with
 | inl i => obtain ⟨t, e⟩ := (show ∃ t, u = Value.int i t from r); subst e; exact mixKind_int P w i t
 | inr x => obtain ⟨t, e⟩ := (show ∃ t, u = Value.str x t from r); subst e; exact mixKind_str P w x t
theorem items_are {P : Program} {w : World} : ∀ {ks : List Key} {us : List Value}, Vals (ks.map kV) us -> ItemsAre (mixKind P w) ks us
 | [], _,r => by rw [List.map_nil] at r; cases r; exact .nil
 | k :: ks, _,r => by
  rw [List.map_cons] at r
  cases r with
  | cons h t => exact .cons (kV_is h) (items_are t)
abbrev KT (H : Hp) : List (List Key × V) -> List (List Key × Addr × Value) -> Prop := Paired fun p q => p.1 = q.1 /\ H q.2.1 = some (.tup (p.1.map kV)) /\ RelV p.2 q.2.2
theorem KT.val {H : Hp} {kvs : List (List Key × V)} {xs : List (List Key × Addr × Value)} (r : KT H kvs xs) (k : List Key) : RelO (valV kvs k) ((atKey xs k).map (·.2)) := by
 induction r with
 | nil => exact True.intro
 | @cons p q ps qs h t ih =>
  obtain ⟨h1, _,h2⟩ := h
  by_cases e : p.1 = k
  . have e' : q.1 = k := h1.symm.trans e
    have b : atKey (q :: qs) k = some q.2 := by simp [atKey, List.find?_cons, e']
    rw [valV_pos e, b]; exact h2
  . have e' : ¬ q.1 = k := fun z => e (h1.trans z)
    have b : atKey (q :: qs) k = atKey qs k := by simp [atKey, List.find?_cons, e']
    rw [valV_neg e, b]; exact ih
theorem KT.repl {H : Hp} {kvs : List (List Key × V)} {xs : List (List Key × Addr × Value)} (r : KT H kvs xs) (k : List Key) {y : V} {u : Value} (ry : RelV y u) :
    KT H (kvs.map fun kv => if kv.1 = k then (kv.1, y) else kv) (xs.map (putAt k u)) := by
 induction r with
 | nil => exact .nil
 | @cons p q ps qs h t ih =>
  rw [List.map_cons, List.map_cons]
  refine .cons ?_ ih
  obtain ⟨h1, h2, h3⟩ := h
  unfold putAt
  by_cases e : p.1 = k
  . rw [if_pos e, if_pos (h1.symm.trans e)]; exact ⟨h1, h2, ry⟩
  . rw [if_neg e, if_neg (fun z => e (h1.trans z))]; exact ⟨h1, h2, h3⟩
theorem KT.put {H : Hp} {kvs : List (List Key × V)} {xs : List (List Key × Addr × Value)} (r : KT H kvs xs) (k : List Key) {b : Addr} {y : V} {u : Value} (hb : H b = some (.tup (k.map kV))) (ry : RelV y u) :
    KT H (putK kvs k y) (storedH xs k b u) := by
 have e : (kvs.any fun kv => decide (kv.1 = k)) = (atKey xs k).isSome := by
  rw [valV_any, (r.val k).isSome_eq, Option.isSome_map]
 unfold putK storedH
 rw [e]
 by_cases q : (atKey xs k).isSome = true
 . rw [if_pos q, if_pos q]; exact r.repl k ry
 . rw [if_neg q, if_neg q]; exact Paired.snoc r ⟨rfl,hb, ry⟩
theorem KT.keeps {H H' : Hp} {kvs : List (List Key × V)} {xs : List (List Key × Addr × Value)} (r : KT H kvs xs) (ht : ∀ b ys, H b = some (.tup ys) -> H' b = some (.tup ys)) : KT H' kvs xs :=
 Paired.mapP r fun _ _ z => ⟨z.1, ht _ _ z.2.1, z.2.2⟩
section
variable {P : Program} {w : World} {H : Hp} {h : Heap} {a : Addr}
theorem rd_of {u : HO} (ok : HOk P w H h) (e : Rd H a u) : ObjOk P w H h a u := e.ok ok
theorem dk_rd {kvs : List (Key × V)} (ok : HOk P w H h) (e : Rd H a (.dK kvs)) : kvs.length <= sizeLine /\ (a == sysModules) = false /\ ∃ vs, KV kvs vs /\ h.DictOf (mixKind P w) a vs :=
 show ObjOk P w H h a (.dK kvs) from rd_of ok e
theorem dk_of {kvs : List (Key × V)} (ok : HOk P w H h) (e : H a = some (.dK kvs)) : kvs.length <= sizeLine /\ (a == sysModules) = false /\ ∃ vs, KV kvs vs /\ h.DictOf (mixKind P w) a vs := dk_rd ok (.inl e)
theorem key_of {ks : List Key} (ok : HOk P w H h) (e : H a = some (.tup (ks.map kV))) : (tupleKind (mixKind P w)).is h ks a := by
 obtain ⟨_,its, r, o, h1, h2, _,n, h3⟩ := (show ObjOk P w H h a (.tup (ks.map kV)) from ok a _ e)
 exact ⟨o, its.toArray, n, h1, h2, h3, by simpa using items_are r⟩
theorem dt_rd {kvs : List (List Key × V)} (ok : HOk P w H h) (e : Rd H a (.dT kvs)) : kvs.length <= sizeLine /\ (a == sysModules) = false /\
    ∃ xs, KT H kvs xs /\ h.DictOfH (tupleKind (mixKind P w)) a xs := by
 obtain ⟨z, y, xs, r, o, es, ep, h1, h2, h3, h4, h5⟩ := (show ObjOk P w H h a (.dT kvs) from rd_of ok e)
 refine ⟨z, y, xs, r, o, es, ep, h1, h2, h3, h4, fun x hx => ?_,h5⟩
 have all : ∀ {l : List (List Key × V)} {m : List (List Key × Addr × Value)}, KT H l m -> ∀ x ∈ m, (tupleKind (mixKind P w)).is h x.1 x.2.1 := by
  intro l m q
  induction q with
  | nil => intro x hx; exact nomatch hx
  | @cons p q ps qs hq t ih =>
   intro x hx
   rcases List.mem_cons.mp hx with e | hx
   . subst e
     exact key_of ok (by rw [<- hq.1]; exact hq.2.1)
   . exact ih x hx
 exact all r x hx
theorem dt_of {kvs : List (List Key × V)} (ok : HOk P w H h) (e : H a = some (.dT kvs)) : kvs.length <= sizeLine /\ (a == sysModules) = false /\
    ∃ xs, KT H kvs xs /\ h.DictOfH (tupleKind (mixKind P w)) a xs := dt_rd ok (.inl e)
end
def DGet (H : Hp) (a : Addr) (y : V) (r : Option V) : Prop :=
 (∃ kvs k, Rd H a (.dK kvs) /\ y = kV k /\ r = valV kvs k) \/ ∃ kvs k b, Rd H a (.dT kvs) /\ y = .ref b /\ H b = some (.tup (k.map kV)) /\ r = valV kvs k
def DPut (H : Hp) (a : Addr) (y v : V) (H' : Hp) : Prop :=
 (∃ kvs k, H a = some (.dK kvs) /\ y = kV k /\ kvs.length < sizeLine /\ H' = upd H a (.dK (putK kvs k v))) \/
 ∃ kvs k b, H a = some (.dT kvs) /\ y = .ref b /\ H b = some (.tup (k.map kV)) /\ kvs.length < sizeLine /\ H' = upd H a (.dT (putK kvs k v))
theorem DGet.k {H : Hp} {a : Addr} {kvs : List (Key × V)} {k : Key} (e : H a = some (.dK kvs)) : DGet H a (kV k) (valV kvs k) := .inl ⟨kvs, k, .inl e, rfl,rfl⟩
theorem DGet.t {H : Hp} {a b : Addr} {kvs : List (List Key × V)} {k : List Key} (e : H a = some (.dT kvs)) (eb : H b = some (.tup (k.map kV))) : DGet H a (.ref b) (valV kvs k) := .inr ⟨kvs, k, b, .inl e, rfl,eb, rfl⟩
theorem DPut.k {H : Hp} {a : Addr} {kvs : List (Key × V)} {k : Key} {v : V} (e : H a = some (.dK kvs)) (hl : kvs.length < sizeLine) : DPut H a (kV k) v (upd H a (.dK (putK kvs k v))) := .inl ⟨kvs, k, e, rfl,hl, rfl⟩
theorem DPut.t {H : Hp} {a b : Addr} {kvs : List (List Key × V)} {k : List Key} {v : V} (e : H a = some (.dT kvs)) (eb : H b = some (.tup (k.map kV))) (hl : kvs.length < sizeLine) :
    DPut H a (.ref b) v (upd H a (.dT (putK kvs k v))) := .inr ⟨kvs, k, b, e, rfl,eb, hl, rfl⟩
section
variable {X : Cx} {pins : List (Addr × Obj)} {σ : St} {H : Hp} {s : Shared} {a : Addr} {y v : V} {u r : Value} {o : Option V} {A : Around} {E : Value -> Shared -> Prop}
theorem Inv.big (I : Inv X pins σ H s) : sysModules < s.heap.objs.size := by
 have h : mainGlobals < s.heap.objs.size := (I.mod.glob.keeps I.bk).lt
 exact Nat.lt_trans (by decide) h
theorem d_getItem {Q : Value -> Shared -> Prop} (hu : A.units + 1 < cLine) (I : Inv X pins σ H s) (g : DGet H a y (some v)) (ry : RelV y u) (h : ∀ w' s', Inv X pins σ H s' -> RelV v w' -> Q w' s') :
    wpAny (model X.prog X.w) A (getItem (.ref a) u) Q E s := by
 rcases g with ⟨kvs, k, e, ey, l⟩ | ⟨kvs, k, b, e, ey, eb, l⟩
 . subst ey
   obtain ⟨z, hd, vs, rel, dd⟩ := dk_rd I.hok e
   obtain ⟨w', hw, rw'⟩ := RelO.some_of (v := v) (o := valueAt vs k) (by rw [l]; exact rel.val k)
   exact wpAny_getItem_of (kV_is ry) dd.mapOf hw (h w' _ (I.tok _) rw')
 . subst ey
   cases (show u = Value.ref b from ry)
   obtain ⟨z, hd, xs, rel, dd⟩ := dt_rd I.hok e
   obtain ⟨w', hw, rw'⟩ := RelO.some_of (v := v) (o := (atKey xs k).map (·.2)) (by rw [l]; exact rel.val k)
   obtain ⟨p, hp, hp2⟩ := Option.map_eq_some_iff.mp hw
   refine wpAny_getItem_heap (tupleKind_room_in1 hu) (key_of I.hok eb) dd hp ?_
   rw [hp2]
   exact h w' _ (I.tok _) rw'
theorem d_in {Q : Value -> Shared -> Prop} (hu : A.units + 1 < cLine) (I : Inv X pins σ H s) (g : DGet H a y o) (ry : RelV y u) (h : ∀ s', Inv X pins σ H s' -> Q (.bool o.isSome) s') :
    wpAny (model X.prog X.w) A (compareOp .In u (.ref a)) Q E s := by
 rcases g with ⟨kvs, k, e, ey, l⟩ | ⟨kvs, k, b, e, ey, eb, l⟩
 . subst ey
   obtain ⟨z, hd, vs, rel, dd⟩ := dk_rd I.hok e
   refine wpAny_in_of (kV_is ry) hd dd.mapOf ?_
   rw [<- (rel.val k).isSome_eq, <- l]
   exact h _ (I.tok _)
 . subst ey
   cases (show u = Value.ref b from ry)
   obtain ⟨z, hd, xs, rel, dd⟩ := dt_rd I.hok e
   refine wpAny_in_heap (tupleKind_room_in1 hu) (key_of I.hok eb) hd dd ?_
   have q := (rel.val k).isSome_eq
   rw [Option.isSome_map] at q
   rw [<- q, <- l]
   exact h _ (I.tok _)
theorem d_write {h' : Heap} {t' : Nat} {ob : HO} (I : Inv X pins σ H s) (mu : Mut (H a)) (hs : Heap.SameBut a s.heap h') (he : ∃ q, h'.get? a = some q) (new : ObjOk X.prog X.w (upd H a ob) h' a ob) :
    Inv X pins σ (upd H a ob) { s with heap := h', toks := t' } :=
 I.write (x := a) (e := a) mu (.inl rfl) (fun b q hb z => (hs.2 b hb).trans z) he new
theorem dk_new {P : Program} {w : World} {H' : Hp} {h' : Heap} {kvs : List (Key × V)} {vs : List (Key × Value)} (z : kvs.length <= sizeLine) (hd : (a == sysModules) = false) (rel : KV kvs vs) (dd : h'.DictOf (mixKind P w) a vs) :
    ObjOk P w H' h' a (.dK kvs) := ⟨z, hd, vs, rel, dd⟩
theorem d_setItem {H' : Hp} {Q : Unit -> Shared -> Prop} (hu : A.units + 1 < cLine) (I : Inv X pins σ H s) (g : DPut H a y v H') (ry : RelV y u) (rv : RelV v r) (h : ∀ s', Inv X pins σ H' s' -> Q () s') :
    wpAny (model X.prog X.w) A (setItem (.ref a) u r) Q E s := by
 rcases g with ⟨kvs, k, e, ey, l, eH⟩ | ⟨kvs, k, b, e, ey, eb, l, eH⟩
 . subst ey eH
   obtain ⟨z, hd, vs, rel, dd⟩ := dk_of I.hok e
   have hz : vs.length <= sizeLine := by rw [<- rel.length]; exact z
   have hl : (putK kvs k v).length <= sizeLine := by have := length_putK kvs k v; omega
   refine wpAny_setItem_pairs (hsz := hz) (kV_is ry) dd fun h' dd' hs => h _ ?_
   have he : ∃ q, h'.get? a = some q := let ⟨q, _,_,hq, _⟩ := dd'; ⟨q, hq⟩
   exact d_write I (by rw [e]; exact True.intro) hs he (dk_new hl hd (rel.put k rv) dd')
 . subst ey eH
   cases (show u = Value.ref b from ry)
   obtain ⟨z, hd, xs, rel, dd⟩ := dt_of I.hok e
   have hz : xs.length <= sizeLine := by rw [<- Paired.length rel]; exact z
   have hl : (putK kvs k v).length <= sizeLine := by have := length_putK kvs k v; omega
   refine wpAny_setItem_heap (hsz := hz) (tupleKind_room_in1 hu) (key_of I.hok eb) dd fun h' dd' hs => h _ ?_
   obtain ⟨q, es, ep, hq, h2, h3, h4, _,h5⟩ := dd'
   refine d_write I (by rw [e]; exact True.intro) hs ⟨q, hq⟩ ⟨hl, hd, _,(rel.put k eb rv).keeps fun c ys ec => ?_,q, es, ep, hq, h2, h3, h4, h5⟩
   rw [upd_ne (ne_of ec e (fun z => nomatch z))]
   exact ec
end
section
variable {X : Cx} {pins : List (Addr × Obj)} {σ : St} {H : Hp} {s : Shared} {a : Addr} {kvs : List (Key × V)} {k : Key} {u : Value} {A : Around} {E : Value -> Shared -> Prop}
end
def NoSl (i : Expr) : Prop := ∀ ov iv, subscripted i false ov iv = operate [ov, iv] (getItem ov iv)
theorem subD_of {prog : Program} {w : World} {A : Around} {E : Value -> Shared -> Prop} {s : Shared} {env : Env} {value slice : Expr} {pos : Pos} {T id : String} {Q : Value -> Shared -> Prop}
    (hl : typeLookup (.type T) "__getitem__" = pure (some (.builtin id))) (hs : NoSl slice)
    (h : wpAny (model prog w) A (eval value env) (fun o s₁ => wpAny (model prog w) A (eval slice env) (fun i s₂ => s₂.TypeIs o T /\ wpAny (model prog w) A (getItem o i) Q E s₂) E s₁) E s) :
    wpAny (model prog w) A (eval (.Subscript value slice pos) env) Q E s := by
 refine Subscript_ (wpAny_mono h (fun o s₁ h₁ => wpAny_mono h₁ (fun i s₂ h₂ => ?_) fun _ _ x => x) fun _ _ x => x)
 obtain ⟨hT, h₂⟩ := h₂
 unfold subscriptTail
 refine wpAny_bind ?_
 rw [getitemInPython_of_ne hT.not_modules]
 refine wpAny_bind (wpAny_specialOf hT hl ?_)
 have fin : wpAny (model prog w) A (subscripted slice false o i) (fun r s₃ => wpAny (model prog w) A (letTemporaryGo value o r >>= fun _ => pure r) Q E s₃) E s₂ := by
  rw [hs o i]
  exact wpAny_operating (wpAny_mono h₂ (fun r s₃ h₃ => wpAny_bind (wpAny_letTemporaryGo (wpAny_pure h₃))) fun _ _ x => x)
 first
  | exact wpAny_pure (wpAny_bind fin)
  | exact wpAny_bind (wpAny_pure (wpAny_bind fin))
  | exact wpAny_bind fin
theorem dict_typeIs {X : Cx} {pins : List (Addr × Obj)} {σ : St} {H : Hp} {s : Shared} {a : Addr} {y : V} {o : Option V} (I : Inv X pins σ H s) (g : DGet H a y o) : s.TypeIs (.ref a) "dict" := by
 rcases g with ⟨kvs, k, e, _,_⟩ | ⟨kvs, k, b, e, _,_,_⟩
 . obtain ⟨_,_,vs, _,dd⟩ := dk_rd I.hok e
   exact dd.typeIs
 . obtain ⟨_,_,xs, _,dd⟩ := dt_rd I.hok e
   exact dd.typeIs
def tDGet (td ty : TE) : TE := fun σ H Q => td σ H fun x H1 => ty σ H1 fun y H2 => ∃ a v, x = .ref a /\ DGet H2 a y (some v) /\ Q v H2
def tDIn (ty td : TE) : TE := fun σ H Q => ty σ H fun y H1 => td σ H1 fun x H2 => ∃ a o, x = .ref a /\ DGet H2 a y o /\ Q (.bl o.isSome) H2
def sDPut (td ty tv : TE) : TS := fun D σ H => tv σ H fun v H1 => td σ H1 fun x H2 => ty σ H2 fun y H3 => ∃ a H4, x = .ref a /\ DPut H3 a y v H4 /\ D.nx σ H4
section
variable {X : Cx} {o i e value : Expr} {pos pos' tpos : Pos} {td ty tv : TE}
theorem pe_dget (hu : X.A.units + 1 < cLine) (ho : PE X o td) (hi : PE X i ty) (hs : NoSl i) : PE X (.Subscript o i pos) (tDGet td ty) := by
 intro pins s σ H Q I h
 refine subD_of PySem.F.slot_dict_getitem.lookup hs (thn (ho pins s σ H _ I h) fun u s1 ⟨x, H1, I1, rx, q1⟩ => thn (hi pins s1 σ H1 _ I1 q1) fun iv s2 ⟨y, H2, I2, ry, a, v, ex, g, q2⟩ => ?_)
 subst ex
 obtain rfl : u = Value.ref a := rx
 exact ⟨dict_typeIs I2 g, d_getItem hu I2 g ry fun w' s3 I3 rw' => ⟨v, H2, I3, rw', q2⟩⟩
theorem pc_din (hu : X.A.units + 1 < cLine) (hi : PE X i ty) (ho : PE X o td) : PC X .In i o (tDIn ty td) := by
 intro pins s σ H Q I h
 refine thn (hi pins s σ H _ I h) fun iv s1 ⟨y, H1, I1, ry, q1⟩ => thn (ho pins s1 σ H1 _ I1 q1) fun u s2 ⟨x, H2, I2, rx, a, ov, ex, g, q2⟩ => ?_
 subst ex
 obtain rfl : u = Value.ref a := rx
 exact d_in hu I2 g ry fun s3 I3 => ⟨.bl ov.isSome, H2, I3, rfl,q2⟩
theorem ps_dput (hu : X.A.units + 1 < cLine) (ho : PE X o td) (hi : PE X i ty) (hv : PE X value tv) (hs : swapsWith value (some (.Subscript o i pos')) pos.line X.env = pure false) :
    PS X (.Assign [.Subscript o i pos'] value pos) (sDPut td ty tv) := by
 intro pins s σ H D I h
 refine wpAny_Assign_Subscript (thn (hv pins s σ H _ I h) fun r s1 ⟨v, H1, I1, rv, q1⟩ => thn (ho pins s1 σ H1 _ I1 q1) fun u s2 ⟨x, H2, I2, rx, q2⟩ => thn (hi pins s2 σ H2 _ I2 q2) fun iv s3 ⟨y, H3, I3, ry, a, H4, ex, g, q3⟩ => ?_) hs
 subst ex
 obtain rfl : u = Value.ref a := rx
 exact d_setItem hu I3 g ry rv fun s4 I4 => ⟨σ, H4, I4, q3⟩
end
theorem dk_empty {P : Program} {w : World} {H : Hp} (h : Heap) (hb : sysModules < h.objs.size) : ObjOk P w H (h.push { cls := .type "dict", data := .dict #[] }) h.objs.size (.dK []) :=
 ⟨Nat.zero_le _,beq_eq_false_iff_ne.mpr (Ne.symm (Nat.ne_of_lt hb)), [], .nil, Heap.DictOf.new h⟩
theorem dt_empty {P : Program} {w : World} {H : Hp} (h : Heap) (hb : sysModules < h.objs.size) : ObjOk P w H (h.push { cls := .type "dict", data := .dict #[] }) h.objs.size (.dT []) :=
 ⟨Nat.zero_le _,beq_eq_false_iff_ne.mpr (Ne.symm (Nat.ne_of_lt hb)), [], .nil, _,#[], 0, Heap.get?_push_size _ rfl,⟨rfl,rfl,rfl⟩, rfl,rfl,List.nodup_nil⟩
def tDNewK : TE := fun _ H Q => ∀ p, H p = none -> Q (.ref p) (upd H p (.dK []))
def tDNewT : TE := fun _ H Q => ∀ p, H p = none -> Q (.ref p) (upd H p (.dT []))
section
variable {X : Cx} {pos : Pos}
theorem pe_dnewK : PE X (.Dict [] [] pos) tDNewK := fun pins s σ H Q I h =>
 wpAny_Dict_empty ⟨.ref s.heap.objs.size, _,I.laid (a := s.heap.objs.size) (o := .dK []) (t' := s.toks) (fun _ _ q => Heap.get?_push_of_some _ q) (Nat.le_refl _) (dk_empty s.heap I.big), rfl,h _ (I.hok.fresh (Nat.le_refl _))⟩
theorem pe_dnewT : PE X (.Dict [] [] pos) tDNewT := fun pins s σ H Q I h =>
 wpAny_Dict_empty ⟨.ref s.heap.objs.size, _,I.laid (a := s.heap.objs.size) (o := .dT []) (t' := s.toks) (fun _ _ q => Heap.get?_push_of_some _ q) (Nat.le_refl _) (dt_empty s.heap I.big), rfl,h _ (I.hok.fresh (Nat.le_refl _))⟩
end
structure M2 (X : Cx) (o : Expr) (m : Str) (apos : Pos) (e f : Expr) (cpos : Pos) : Prop where
 base : attributeBase o m X.env (eval o X.env) = eval o X.env
 few : ((backTo cpos (starEach [e, f] X.env)).all (fun x => !x.1) && (backToKw cpos (keywordEach [] X.env)).all (fun x => x.1.isSome)
  && decide (([e, f] : List Expr).length + ([] : List Keyword).length + (if ([] : List Keyword).isEmpty then 0 else 1) < 30)) = true
 line : (apos.endLine == cpos.line) = true
 trees : backTo cpos (starEach [e, f] X.env) = [(false, eval e X.env), (false, eval f X.env)]
def IsD (H : Hp) (a : Addr) : Prop := (∃ kvs, Rd H a (.dK kvs)) \/ ∃ kvs, Rd H a (.dT kvs)
theorem isD_at {X : Cx} {pins : List (Addr × Obj)} {σ : St} {H : Hp} {s : Shared} {a : Addr} (I : Inv X pins σ H s) (d : IsD H a) :
    s.TypeIs (.ref a) "dict" /\ (∀ b, Value.ref a = .ref b -> ∃ ob, s.heap.get? b = some ob /\ ob.dict = none) /\ (a == sysModules) = false := by
 rcases d with ⟨kvs, e⟩ | ⟨kvs, e⟩
 . obtain ⟨_,hd, vs, _,dd⟩ := dk_rd I.hok e
   refine ⟨dd.typeIs, fun b q => ?_,hd⟩
   cases q
   obtain ⟨ob, _,_,h1, h2, _⟩ := dd
   exact ⟨ob, h1, h2.2.1⟩
 . obtain ⟨_,hd, xs, _,dd⟩ := dt_rd I.hok e
   refine ⟨dd.typeIs, fun b q => ?_,hd⟩
   cases q
   obtain ⟨ob, _,_,h1, h2, _⟩ := dd
   exact ⟨ob, h1, h2.2.1⟩
section
variable {X : Cx} {pins : List (Addr × Obj)} {σ : St} {H : Hp} {s : Shared} {a : Addr} {y d : V} {u r : Value} {o : Option V} {A : Around} {E : Value -> Shared -> Prop}
theorem d_get2 {Q : Value -> Shared -> Prop} (hu : A.units + 1 < cLine) (I : Inv X pins σ H s) (g : DGet H a y o) (ry : RelV y u) (rd : RelV d r) (h : ∀ w' s', Inv X pins σ H s' -> RelV (o.getD d) w' -> Q w' s') :
    wpAny (model X.prog X.w) A (call (.builtin "dict.get") [.ref a, u, r]) Q E s := by
 rcases g with ⟨kvs, k, e, ey, l⟩ | ⟨kvs, k, b, e, ey, eb, l⟩
 . subst ey
   obtain ⟨z, hd, vs, rel, dd⟩ := dk_rd I.hok e
   refine call_meetsIn PySem.F.slot_dict_get dd.typeIs PySem.F.entry_dict_get (PySem.F.args_dict_get_3 _ _ _) (meets_dict_get_default (mixKind X.prog X.w) a (kV_is ry) hd r) ⟨_,dd.mapOf, h _ _ (I.tok _) ?_⟩
   rw [l]
   exact (rel.val k).getD rd
 . subst ey
   cases (show u = Value.ref b from ry)
   obtain ⟨z, hd, xs, rel, dd⟩ := dt_rd I.hok e
   refine call_meetsIn PySem.F.slot_dict_get dd.typeIs PySem.F.entry_dict_get (PySem.F.args_dict_get_3 _ _ _) (meetsH_dict_get_default (tupleKind (mixKind X.prog X.w)) a b hd r) ⟨tupleKind_room_in1 hu, k, xs, key_of I.hok eb, dd, h _ _ (I.tok _) ?_⟩
   rw [l]
   exact (rel.val k).getD rd
end
def tDGet2 (td ty tx : TE) : TE := fun σ H Q => td σ H fun x H1 => ∃ a, x = .ref a /\ IsD H1 a /\ ty σ H1 fun y H2 => tx σ H2 fun z H3 => ∃ o, DGet H3 a y o /\ Q (o.getD z) H3
section
variable {X : Cx} {o e f : Expr} {apos cpos : Pos} {td ty tx : TE}
theorem pe_dget2 (hu : X.A.units + 1 < cLine) (ho : PE X o td) (he : PE X e ty) (hf : PE X f tx) (m : M2 X o "get" apos e f cpos) : PE X (.Call (.Attribute o "get" apos) [e, f] [] cpos) (tDGet2 td ty tx) := by
 intro pins s σ H Q I h
 refine wpAny_Call_method m.base m.few m.line PySem.F.plainAttrs_dict PySem.F.slot_dict_get PySem.F.type_dict_get (thn (ho pins s σ H _ I h) fun u s1 ⟨x, H1, I1, rx, a, ex, d, q1⟩ => ?_)
 subst ex
 obtain rfl : u = Value.ref a := rx
 obtain ⟨t1, t2, _⟩ := isD_at I1 d
 refine ⟨t1, t2, ?_⟩
 rw [m.trees]
 refine Calls.callWith_builtin rfl (Calls.evalArgs_plain (Calls.spliced_cons (thn (he pins s1 σ H1 _ I1 q1) fun iv s2 ⟨y, H2, I2, ry, q2⟩ =>
  Calls.spliced_cons (thn (hf pins s2 σ H2 _ I2 q2) fun fv s3 ⟨z, H3, I3, rz, ov, g, q3⟩ => Calls.spliced_nil ?_))))
 exact d_get2 hu I3 g ry rz fun w' s4 I4 rw' => ⟨_,H3, I4, rw', q3⟩
end
section
variable {X : Cx} {pins : List (Addr × Obj)} {σ : St} {H : Hp} {s : Shared} {a : Addr} {kvs : List (Key × V)} {A : Around} {E : Value -> Shared -> Prop}
end
section
variable {X : Cx} {pins : List (Addr × Obj)} {σ : St} {H : Hp} {s : Shared} {a : Addr} {y : V} {u : Value} {A : Around} {E : Value -> Shared -> Prop}
end
end L2
set_option Elab.async false
set_option linter.all false
set_option maxRecDepth 100000
namespace Be
open PySem L2
def ordGo (W : Wd) : List PyData -> Nat -> List Int -> Bool
 | [], _,_ => true
 | d :: r, i, seen => match d with
  | .int x => decide (0 <= x) && decide (x < (began W i : Int)) && decide (x ∉ seen) && ordGo W r (i + 1) (seen ++ [x])
  | _ => false
def ordD (W : Wd) : PyData -> Bool
 | .tuple ds => ordGo W ds 0 []
 | _ => false
def seenK (seen : List Int) : List (Key × V) := seen.map fun x => (Sum.inl x, V.bl true)
theorem valV_seen (x : Int) : ∀ seen : List Int, (valV (seenK seen) (Sum.inl x : Key)).isSome = decide (x ∈ seen)
 | [] => by simp [seenK, valV]
 | y :: r => by
  have ih := valV_seen x r
  by_cases h : y = x
  . subst h
    rw [show seenK (y :: r) = ((Sum.inl y : Key), V.bl true) :: seenK r from rfl,valV_pos rfl]
    simp
  . rw [show seenK (y :: r) = ((Sum.inl y : Key), V.bl true) :: seenK r from rfl,valV_neg (fun z => h (Sum.inl.inj z)), ih]
    have h2 : ¬ x = y := fun z => h z.symm
    simp [h2]
section
variable {P : Program} {w : World} {K : PySem.W.Frag} {mg : Str -> Option Value} {base : Heap}
def sp_hmw : Sp := fun vs H Q _ => ∃ (v : V) (W : Wd), vs = [v] /\ Rep H v (encW W) /\ Q (.int W.bs.length) H
theorem ok_how_many_works (T : Txt K mg) : FnOk P w K mg base (CXr P w) 1 T.how_many_works.a T.how_many_works.d ["world"] sp_hmw := by
 refine T.how_many_works.F.okN sc_how_many_works (fun vs H Q E h => ?_) (fun cdv A outer s H vs Q E hr h => ?_)
 . obtain ⟨v, W, rfl,_⟩ := h; rfl
 obtain ⟨v, W, rfl,hW, q⟩ := h
 obtain ⟨a, p, vs, AW⟩ := atW hW
 obtain rfl := AW.v
 refine ⟨_,(pss_one (ps_ret (pe_callB call_len_seq rfl T.n_len bt_len (pa_cons (pe_ix ix_tup (pv 0) pe_int (fun _ _ => rfl)) pa_nil)))), ?_⟩
 refine ⟨_,rfl,a, _,_,_,rfl,rfl,SqT.of AW.a, rfl,p, _,rfl,.inr (SqT.of AW.p), ?_⟩
 rw [AW.len]
 exact q
def sp_hmbn : Sp := fun vs H Q _ => ∃ (v : V) (W : Wd), vs = [v] /\ Rep H v (encW W) /\ Q (.int W.b) H
theorem ok_how_many_benches (T : Txt K mg) : FnOk P w K mg base (CXr P w) 1 T.how_many_benches.a T.how_many_benches.d ["world"] sp_hmbn := by
 refine T.how_many_benches.F.okN sc_how_many_benches (fun vs H Q E h => ?_) (fun cdv A outer s H vs Q E hr h => ?_)
 . obtain ⟨v, W, rfl,_⟩ := h; rfl
 obtain ⟨v, W, rfl,hW, q⟩ := h
 obtain ⟨a, p, vs, AW⟩ := atW hW
 obtain rfl := AW.v
 refine ⟨_,(pss_one (ps_ret (pe_ix ix_tup (pv 0) pe_int (fun _ _ => rfl)))), ?_⟩
 exact ⟨_,rfl,a, _,_,_,rfl,rfl,SqT.of AW.a, rfl,q⟩
def sp_hmb : Sp := fun vs H Q _ => ∃ (v : V) (W : Wd) (n : Nat), vs = [v, .int n] /\ Rep H v (encW W) /\ 0 <= W.b /\ Q (.int (began W n : Int)) H
theorem ok_how_many_began (T : Txt K mg) : FnOk P w K mg base (CXr P w) 2 T.how_many_began.a T.how_many_began.d ["world", "ends"] sp_hmb := by
 refine T.how_many_began.F.okN sc_how_many_began (fun vs H Q E h => ?_) (fun cdv A outer s H vs Q E hr h => ?_)
 . obtain ⟨v, W, n, rfl,_⟩ := h; rfl
 obtain ⟨v, W, n, rfl,hW, hb, q⟩ := h
 obtain ⟨a, p, vs, AW⟩ := atW hW
 obtain rfl := AW.v
 refine ⟨_,(pss_one (ps_ret (pe_callB (call_min2 rfl) rfl T.n_min bt_min (pa_cons (pe_op op_add (pe_call (ok_how_many_benches T) (hr.mono (by decide)) rfl T.how_many_benches.m T.how_many_benches.F.kp T.how_many_benches.b .nil passN (pa_cons (pv 0) pa_nil)) (pv 1)) (pa_cons (pe_call (ok_how_many_works T) (hr.mono (by decide)) rfl T.how_many_works.m T.how_many_works.F.kp T.how_many_works.b .nil passN (pa_cons (pv 0) pa_nil)) pa_nil))))), ?_⟩
 refine ⟨_,rfl,.ref a, W, rfl,hW, _,rfl,_,_,rfl,rfl,_,rfl,.ref a, W, rfl,hW, _,_,rfl,?_⟩
 have e : (if (W.bs.length : Int) < W.b + (n : Int) then (W.bs.length : Int) else W.b + (n : Int)) = (began W n : Int) := by
  unfold began
  split <;> omega
 rw [e]
 exact q
def sp_least : Sp := fun vs H Q _ => ∃ (v : V) (W : Wd) (x : Int), vs = [v, .int x] /\ Rep H v (encW W) /\ 0 <= x /\ x < (W.bs.length : Int) /\ Q (.int (bnd W x).1) H
def sp_greatest : Sp := fun vs H Q _ => ∃ (v : V) (W : Wd) (x : Int), vs = [v, .int x] /\ Rep H v (encW W) /\ 0 <= x /\ x < (W.bs.length : Int) /\ Q (.int (bnd W x).2) H
theorem bnd_get {W : Wd} {x : Int} (h0 : 0 <= x) (h1 : x < (W.bs.length : Int)) : W.bs[x.toNat]? = some (bnd W x) := by
 unfold bnd
 rw [List.getD_eq_getElem?_getD, List.getElem?_eq_getElem (show x.toNat < W.bs.length by omega)]
 rfl
theorem atW_ix {H : Hp} {v : V} {W : Wd} {a p : Addr} {vs : List V} (A : AtW H v W a p vs) {x : Int} (h0 : 0 <= x) (h1 : x < (W.bs.length : Int)) : ∃ q, atI vs x = some (.ref q) /\ H q = some (.tup [.int (bnd W x).1, .int (bnd W x).2]) := by
 obtain ⟨q, hq, e⟩ := A.it _ _ (bnd_get h0 h1)
 refine ⟨q, ?_,e⟩
 have ex : x = ((x.toNat : Nat) : Int) := by omega
 rw [ex]
 exact atI_nat hq
theorem ok_least_length (T : Txt K mg) : FnOk P w K mg base (CXr P w) 1 T.least_length.a T.least_length.d ["world", "work"] sp_least := by
 refine T.least_length.F.okN sc_least_length (fun vs H Q E h => ?_) (fun cdv A outer s H vs Q E hr h => ?_)
 . obtain ⟨v, W, x, rfl,_⟩ := h; rfl
 obtain ⟨v, W, x, rfl,hW, h0, h1, q⟩ := h
 obtain ⟨a, p, vs, AW⟩ := atW hW
 obtain rfl := AW.v
 obtain ⟨b, hb, eb⟩ := atW_ix AW h0 h1
 refine ⟨_,(pss_one (ps_ret (pe_ix ix_tup (pe_ix ix_tup (pe_ix ix_tup (pv 0) pe_int (fun _ _ => rfl)) (pv 1) (fun _ _ => rfl)) pe_int (fun _ _ => rfl)))), ?_⟩
 exact ⟨_,rfl,a, _,_,_,rfl,rfl,SqT.of AW.a, rfl,_,rfl,p, _,_,_,rfl,rfl,SqT.of AW.p, hb, b, _,_,_,rfl,rfl,SqT.of eb, rfl,q⟩
theorem ok_greatest_length (T : Txt K mg) : FnOk P w K mg base (CXr P w) 1 T.greatest_length.a T.greatest_length.d ["world", "work"] sp_greatest := by
 refine T.greatest_length.F.okN sc_greatest_length (fun vs H Q E h => ?_) (fun cdv A outer s H vs Q E hr h => ?_)
 . obtain ⟨v, W, x, rfl,_⟩ := h; rfl
 obtain ⟨v, W, x, rfl,hW, h0, h1, q⟩ := h
 obtain ⟨a, p, vs, AW⟩ := atW hW
 obtain rfl := AW.v
 obtain ⟨b, hb, eb⟩ := atW_ix AW h0 h1
 refine ⟨_,(pss_one (ps_ret (pe_ix ix_tup (pe_ix ix_tup (pe_ix ix_tup (pv 0) pe_int (fun _ _ => rfl)) (pv 1) (fun _ _ => rfl)) pe_int (fun _ _ => rfl)))), ?_⟩
 exact ⟨_,rfl,a, _,_,_,rfl,rfl,SqT.of AW.a, rfl,_,rfl,p, _,_,_,rfl,rfl,SqT.of AW.p, hb, b, _,_,_,rfl,rfl,SqT.of eb, rfl,q⟩
def sp_bev : Sp := fun vs H Q _ => ∃ (v : V) (W : Wd) (x : Int), vs = [v, .int x] /\ Rep H v (encW W) /\ Q (.int (bg W x)) H
theorem ok_begin_event (T : Txt K mg) : FnOk P w K mg base (CXr P w) 2 T.begin_event.a T.begin_event.d ["world", "work"] sp_bev := by
 refine T.begin_event.F.okN sc_begin_event (fun vs H Q E h => ?_) (fun cdv A outer s H vs Q E hr h => ?_)
 . obtain ⟨v, W, x, rfl,_⟩ := h; rfl
 obtain ⟨v, W, x, rfl,hW, q⟩ := h
 obtain ⟨a, p, vs, AW⟩ := atW hW
 obtain rfl := AW.v
 refine ⟨_,(pss_one (ps_ret (pe_callB (call_max2 rfl) rfl T.n_max bt_max (pa_cons pe_int (pa_cons (pe_op op_add (pe_op op_sub (pv 1) (pe_call (ok_how_many_benches T) (hr.mono (by decide)) rfl T.how_many_benches.m T.how_many_benches.F.kp T.how_many_benches.b .nil passN (pa_cons (pv 0) pa_nil))) pe_int) pa_nil))))), ?_⟩
 refine ⟨_,rfl,_,rfl,.ref a, W, rfl,hW, _,_,rfl,rfl,_,_,rfl,rfl,_,_,rfl,?_⟩
 have e : (if x - W.b + 1 > 0 then x - W.b + 1 else 0) = bg W x := by
  unfold bg
  split <;> split <;> omega
 rw [e]
 exact q
theorem ok_running (T : Txt K mg) : FnOk P w K mg base (CXr P w) 3 T.running.a T.running.d ["world", "order"] (sp_running K) := by
 refine T.running.F.okN sc_running (fun vs H Q E h => ?_) (fun cdv A outer s H vs Q E hr h => ?_)
 . obtain ⟨v, p, W, o, rfl,_⟩ := h; rfl
 obtain ⟨v, p, W, o, rfl,hW, hok, ho, hlen, q⟩ := h
 refine ⟨_,(pss_one (ps_ret (pe_comp (NB := ["work", "order"]) (js := [none, some 1]) rfl (blkOk_of rfl (by decide +kernel) rfl (by decide +kernel) (by decide +kernel) (by with_unfolding_all rfl) (by with_unfolding_all rfl) (by with_unfolding_all rfl) (by with_unfolding_all rfl)) (pi_range1 rfl T.n_range (pa_cons (pe_call (ok_how_many_began T) (hr.mono (by decide)) rfl T.how_many_began.m T.how_many_began.F.kp T.how_many_began.b .nil passN (pa_cons (pv 0) (pa_cons (pe_callB call_len_seq rfl T.n_len bt_len (pa_cons (pv 1) pa_nil)) pa_nil))) pa_nil)) (fun _ _ _ _ => (pg_name (i := 0) (show (["work", "order"] : List Str).Nodup by decide +kernel) rfl (by first|exact .inl rfl|exact .inr rfl))) (fun _ _ _ _ => (pf_one (pt_cmpR (b_op_notIn_seq K) (pv 0) (pv 1) (by with_unfolding_all rfl)))) (fun _ _ _ _ => (pv 0))))), ?_⟩
 have e1 : (o.map V.int).length = o.length := List.length_map _
 have l10 := hok.l10
 have b1 := hok.b1
 refine ⟨_,rfl,_,rfl,p, _,rfl,ho, v, W, _,rfl,hW, by omega, ?_⟩
 have hbe := began_le W (o.map V.int).length
 have hbe2 := began_le W o.length
 refine ⟨_,rfl,by omega, by omega, fun D hD => ?_⟩
 rw [Int.toNat_natCast, e1]
 refine comp_range (fun i ys H2 => Same H H2 /\ H2 D = some (.lst ys) /\ ys = ((upto i).filter fun x => decide (x ∉ o)).map V.int) ⟨same_new hD _,upd_same, rfl⟩ (fun i ys H2 hi hP => ?_) (fun ys H2 hP => ?_)
 . obtain ⟨g, hD2, rfl⟩ := hP
   refine ⟨agree0, _,rfl,_,rfl,p, _,rfl,SqTL.same g ho, rfl,flat_ints o, _,rfl,?_⟩
   by_cases hm : (0 + (i : Int)) ∈ o
   . refine if_f (show (!inV (.int (0 + (i : Int))) (o.map V.int)) = false by rw [inV_ints, decide_eq_true hm]; rfl) ⟨g, hD2, ?_⟩
     rw [run_pre, if_pos (by simpa using hm), List.append_nil]
   . refine if_t (show (!inV (.int (0 + (i : Int))) (o.map V.int)) = true by rw [inV_ints, decide_eq_false hm]; rfl) ?_
     have ez : (((upto (i + 1)).filter fun x => decide (x ∉ o)).map V.int) = ((upto i).filter fun x => decide (x ∉ o)).map V.int ++ [V.int (0 + (i : Int))] := by
      rw [run_pre, if_neg (by simpa using hm), List.map_append]; simp
     refine ⟨_,rfl,hD2, ?_,?_,?_,?_⟩
     . rw [List.length_map]
       have := List.length_filter_le (fun x => decide (x ∉ o)) (upto i)
       rw [upto_len] at this
       exact Nat.lt_of_lt_of_le (show _ < 100 by omega) (by decide)
     . exact g.write hD _
     . exact upd_same
     . exact ez.symm
 . obtain ⟨g, hD2, rfl⟩ := hP
   exact q D H2 g hD hD2
def sp_iso : Sp := fun vs H Q _ => ∃ (v t : V) (W : Wd) (d : PyData), vs = [v, t] /\ Rep H v (encW W) /\ W.Ok /\ Rep H t d /\ (∀ ds, d = .tuple ds -> ds.length <= 1000) /\ ∀ H', Same H H' -> Q (.bl (ordD W d)) H'
theorem ok_is_order (T : Txt K mg) : FnOk P w K mg base (CXr P w) 3 T.is_order.a T.is_order.d ["world", "thing"] sp_iso := by
 refine T.is_order.F.okN sc_is_order (fun vs H Q E h => ?_) (fun cdv A outer s H vs Q E hr h => ?_)
 . obtain ⟨v, t, W, d, rfl,_⟩ := h; rfl
 obtain ⟨v, t, W, d, rfl,hW, hok, hd, hln, q⟩ := h
 refine ⟨_,(pss_cons (ps_if (pt_not (pt_val (pe_callB (call_isi kit_tuple) rfl T.n_isinstance bt_isinstance (pa_cons (pv 1) (pa_cons (pe_bltn (v := .ty "tuple") rfl T.n_tuple bt_tuple rfl) pa_nil))))) (pss_one (ps_ret pe_bl)) pss_nil) (pss_cons (ps_set (i := 2) sc_is_order.nd rfl (by first|exact .inl rfl|exact .inr rfl) pe_dnewK) (pss_cons (ps_for PassesOwn.never rfl (pi_enumT rfl T.n_enumerate (pa_cons (pv 1) pa_nil)) (pg_tup rfl (pgs_cons (pg_name (i := 3) sc_is_order.nd rfl (by first|exact .inl rfl|exact .inr rfl)) (pgs_cons (pg_name (i := 4) sc_is_order.nd rfl (by first|exact .inl rfl|exact .inr rfl)) pgs_nil))) (pss_cons (ps_if (PW.pt (pw_or (pt_not (pt_val (pe_call (ok_is_whole_within T) (hr.mono (by decide)) rfl T.is_whole_within.m T.is_whole_within.F.kp T.is_whole_within.b .nil passN (pa_cons (pv 4) (pa_cons pe_int (pa_cons (pe_op op_sub (pe_call (ok_how_many_began T) (hr.mono (by decide)) rfl T.how_many_began.m T.how_many_began.F.kp T.how_many_began.b .nil passN (pa_cons (pv 0) (pa_cons (pv 3) pa_nil))) pe_int) pa_nil)))))) (pw_or1 (pt_cmp (pc_din (hu_of hr) (pv 4) (pv 2)))))) (pss_one (ps_ret pe_bl)) pss_nil) (pss_one (ps_dput (hu_of hr) (pv 2) (pv 4) pe_bl rfl)))) (pss_one (ps_ret pe_bl))))), ?_⟩
 refine ⟨_,rfl,t, d, rfl,hd, _,rfl,?_⟩
 cases hd with
 | non => exact iteT (q H (Same.refl H))
 | str x => exact iteT (q H (Same.refl H))
 | bl b => exact iteT (q H (Same.refl H))
 | int i => exact iteT (q H (Same.refl H))
 | lst e r => exact iteT (q H (Same.refl H))
 | @tup a vs ds e r =>
  have hl := r.length
  have hln' := hln ds rfl
  refine iteF (fun D hD => ?_)
  have nD : ∀ b o, H b = some o -> b ≠ D := fun b o z => ne_of_none z hD
  refine ⟨_,rfl,a, vs, rfl,SqT.of (same_new hD _ _ _ e), for_enumT (K := K) (a := a) (xs := vs) (fun i σ H2 => ∃ (seen : List Int) (x y : Option V), σ = [some v, some (.ref a), some (.ref D), x, y] /\ Same H H2 /\ H2 D = some (.dK (seenK seen)) /\ seen.length = i /\ ordGo W ds 0 [] = ordGo W (ds.drop i) i seen) ?_ ?_ ?_ ?_⟩
  . exact ⟨[], none, none, rfl,same_new hD _,upd_same, rfl,rfl⟩
  . rintro i σ H2 _ ⟨seen, x, y, rfl,g, _⟩
    exact SqT.of (g _ _ e)
  . rintro i u p σ H2 hu hp ⟨seen, x, y, rfl,g, hD2, hs, ho⟩
    obtain ⟨d, hd, ru⟩ := (r.mono g).get' hu
    have hi : i < ds.length := (List.getElem?_eq_some_iff.mp hd).1
    have hdrop : ds.drop i = d :: ds.drop (i + 1) := by
     have := List.drop_eq_getElem_cons hi
     rw [this]
     congr 1
     exact (List.getElem?_eq_some_iff.mp hd).2
    rw [hdrop] at ho
    have g2 := same_new hp (.tup [.int i, u])
    have gg := g.trans g2
    refine ⟨p, _,rfl,SqT.of upd_same, rfl,_,_,rfl,_,_,rfl,rfl,?_⟩
    refine ⟨_,rfl,_,rfl,_,rfl,v, W, i, rfl,hW.mono gg, by have := hok.b1; omega, _,_,rfl,rfl,u, d, 0, _,rfl,ru.mono g2, _,rfl,?_⟩
    cases hw : wholeIn d 0 ((began W i : Int) - 1) with
    | false =>
     have no : ordGo W (d :: ds.drop (i + 1)) i seen = false := by
      unfold ordGo
      cases d with
      | int z =>
       show (decide (0 <= z) && decide (z < (began W i : Int)) && _ && _) = false
       have hw' : (decide (0 <= z) && decide (z <= (began W i : Int) - 1)) = false := hw
       have ez : decide (z < (began W i : Int)) = decide (z <= (began W i : Int) - 1) := by
        by_cases hz : z < (began W i : Int)
        . rw [decide_eq_true hz, decide_eq_true (by omega)]
        . rw [decide_eq_false hz, decide_eq_false (by omega)]
       rw [ez, hw']; rfl
      | _ => rfl
     have e0 : ordD W (.tuple ds) = false := by show ordGo W ds 0 [] = false; rw [ho]; exact no
     rw [e0] at q
     exact iteT (iteT (q _ gg))
    | true =>
     cases ru with
     | int z =>
      have hw' : (decide (0 <= z) && decide (z <= (began W i : Int) - 1)) = true := hw
      rw [Bool.and_eq_true] at hw'
      have z0 := of_decide_eq_true hw'.1
      have z1 := of_decide_eq_true hw'.2
      refine iteF ⟨_,rfl,_,rfl,D, _,rfl,DGet.k (k := Sum.inl z) (g2 _ _ hD2), _,rfl,?_⟩
      rw [valV_seen]
      have step : ordGo W (.int z :: ds.drop (i + 1)) i seen = (decide (z ∉ seen) && ordGo W (ds.drop (i + 1)) (i + 1) (seen ++ [z])) := by
       show (decide (0 <= z) && decide (z < (began W i : Int)) && decide (z ∉ seen) && _) = _
       rw [decide_eq_true z0, decide_eq_true (show z < (began W i : Int) by omega)]; rfl
      rw [step] at ho
      by_cases hm : z ∈ seen
      . have e0 : ordD W (.tuple ds) = false := by show ordGo W ds 0 [] = false; rw [ho, decide_eq_false (by simpa using hm)]; rfl
        rw [e0] at q
        rw [decide_eq_true hm]
        exact iteT (q _ gg)
      . rw [decide_eq_false hm]
        refine iteF ⟨_,rfl,_,rfl,D, _,rfl,DPut.k (k := Sum.inl z) (g2 _ _ hD2) ?_,?_⟩
        . show (seenK seen).length < sizeLine
          unfold seenK
          rw [List.length_map]
          exact Nat.lt_of_lt_of_le (show seen.length < 2000 by omega) (by decide)
        . refine ⟨seen ++ [z], _,_,rfl,?_,?_,by simp [hs], ?_⟩
          . exact gg.write hD _
          . rw [upd_same]
            have nn : valV (seenK seen) (Sum.inl z : Key) = none := by
             have := valV_seen z seen
             rw [decide_eq_false hm] at this
             exact Option.isNone_iff_eq_none.mp (by simpa using this)
            rw [putK_new _ nn]
            unfold seenK
            rw [List.map_append]
            rfl
          . rw [ho, decide_eq_true hm]; rfl
     | _ => cases hw
  . rintro σ H2 ⟨seen, x, y, rfl,g, hD2, hs, ho⟩
    rw [hl, List.drop_length] at ho
    have e0 : ordD W (.tuple ds) = true := ho
    rw [e0] at q
    exact q _ g
end
end Be
set_option Elab.async false
set_option linter.all false
set_option maxRecDepth 100000
namespace L2
open PySem PySem.Spec PyProof.Rows
theorem PS.nox {X : Cx} {st : Stmt} {t : TS} (h : PS X.nox st t) : PS X st t := fun pins s σ H D I hw =>
 wpAny_mono (h pins s σ H D (I.wish _) hw) (fun f s' q => q.unwish) fun _ _ z => z.elim
end L2
namespace Be
open PySem L2
def encR (r : Ru) : PyData := .tuple [.int r.1, .int r.2.1, .int r.2.2]
theorem all_encR (rs : List Ru) : immut.all (rs.map encR) = true := by
 induction rs with
 | nil => rfl
 | cons p r ih =>
  rw [List.map_cons]
  show (immut (encR p) && immut.all (r.map encR)) = true
  rw [ih]; rfl
theorem whole_of {d : PyData} {lo hi : Int} (h : wholeIn d lo hi = true) : ∃ i, d = .int i /\ lo <= i /\ i <= hi := by
 cases d with
 | int i =>
  have h' : (decide (lo <= i) && decide (i <= hi)) = true := h
  rw [Bool.and_eq_true] at h'
  exact ⟨i, rfl,of_decide_eq_true h'.1, of_decide_eq_true h'.2⟩
 | _ => cases h
theorem bow_of {d : PyData} (h : bowD d = true) : ∃ p : Int × Int, d = encB p /\ 1 <= p.1 /\ p.1 <= p.2 /\ p.2 <= 99 := by
 unfold bowD at h
 split at h
 . rename_i i b
   rw [Bool.and_eq_true] at h
   obtain ⟨j, e, h1, h2⟩ := whole_of h.1
   cases e
   obtain ⟨k, e, h3, h4⟩ := whole_of h.2
   subst e
   exact ⟨(i, k), rfl,h1, h3, h4⟩
 . cases h
theorem bows_of : ∀ {ds : List PyData}, ds.all bowD = true -> ∃ bs : List (Int × Int), ds = bs.map encB /\ ∀ p ∈ bs, 1 <= p.1 /\ p.1 <= p.2 /\ p.2 <= 99
 | [], _ => ⟨[], rfl,fun _ z => nomatch z⟩
 | d :: r, h => by
  rw [List.all_cons, Bool.and_eq_true] at h
  obtain ⟨p, rfl,hp⟩ := bow_of h.1
  obtain ⟨bs, rfl,hb⟩ := bows_of h.2
  refine ⟨p :: bs, rfl,fun x hx => ?_⟩
  rcases List.mem_cons.mp hx with rfl | hx
  . exact hp
  . exact hb x hx
theorem isW_of {d : PyData} (h : isWD d = true) : ∃ W : Wd, W.Ok /\ d = encW W := by
 unfold isWD at h
 split at h
 . rename_i b x
   rw [Bool.and_eq_true] at h
   obtain ⟨i, rfl,h1, h2⟩ := whole_of h.1
   have h' := h.2
   unfold arBD at h'
   split at h'
   . rename_i ds
     rw [Bool.and_eq_true, Bool.and_eq_true] at h'
     obtain ⟨bs, rfl,hb⟩ := bows_of h'.2
     have l1 := of_decide_eq_true h'.1.1
     have l2 := of_decide_eq_true h'.1.2
     rw [List.length_map] at l1 l2
     exact ⟨⟨i, bs⟩, ⟨h1, h2, l1, l2, hb⟩, rfl⟩
   . cases h'
 . cases h
theorem wholeIn_of {i lo hi : Int} (h1 : lo <= i) (h2 : i <= hi) : wholeIn (.int i) lo hi = true := by
 show (decide (lo <= i) && decide (i <= hi)) = true
 rw [decide_eq_true h1, decide_eq_true h2]; rfl
theorem bow_enc {p : Int × Int} (h : 1 <= p.1 /\ p.1 <= p.2 /\ p.2 <= 99) : bowD (encB p) = true := by
 show (wholeIn (.int p.1) 1 99 && wholeIn (.int p.2) p.1 99) = true
 rw [wholeIn_of h.1 (by omega), wholeIn_of h.2.1 h.2.2]; rfl
theorem isW_enc {W : Wd} (h : W.Ok) : isWD (encW W) = true := by
 show (wholeIn (.int W.b) 1 4 && (decide (1 <= (W.bs.map encB).length) && decide ((W.bs.map encB).length <= 10) && (W.bs.map encB).all bowD)) = true
 rw [wholeIn_of h.b1 h.b4, List.length_map, decide_eq_true h.l1, decide_eq_true h.l10]
 show (W.bs.map encB).all bowD = true
 rw [List.all_eq_true]
 intro d hd
 obtain ⟨p, hp, rfl⟩ := List.mem_map.mp hd
 exact bow_enc (h.bd p hp)
theorem ordGo_iff (W : Wd) : ∀ (ds : List PyData) (seen : List Int), VO W seen -> (ordGo W ds seen.length seen = true ↔ ∃ o, ds = o.map PyData.int /\ VO W (seen ++ o))
 | [], seen, h => ⟨fun _ => ⟨[], rfl,by rw [List.append_nil]; exact h⟩, fun _ => rfl⟩
 | d :: r, seen, h => by
  constructor
  . intro e
    unfold ordGo at e
    cases d with
    | int x =>
     have e' : (decide (0 <= x) && decide (x < (began W seen.length : Int)) && decide (x ∉ seen) && ordGo W r (seen.length + 1) (seen ++ [x])) = true := e
     rw [Bool.and_eq_true, Bool.and_eq_true, Bool.and_eq_true] at e'
     obtain ⟨⟨⟨a, b⟩, c⟩, f⟩ := e'
     have hx : x ∈ runM W seen := mem_run.mpr ⟨⟨of_decide_eq_true a, of_decide_eq_true b⟩, of_decide_eq_true c⟩
     have f' : ordGo W r (seen ++ [x]).length (seen ++ [x]) = true := by rw [List.length_append]; exact f
     obtain ⟨o, rfl,ho⟩ := (ordGo_iff W r (seen ++ [x]) (h.snoc hx)).mp f'
     exact ⟨x :: o, rfl,by rw [List.append_assoc] at ho; exact ho⟩
    | _ => cases e
  . rintro ⟨o, e, ho⟩
    cases o with
    | nil => cases e
    | cons x o =>
     rw [List.map_cons] at e
     injection e with e1 e2
     subst e1 e2
     have at1 := ho.at_ seen.length x (by rw [List.getElem?_append_right (Nat.le_refl _), Nat.sub_self]; rfl)
     have nm : x ∉ seen := fun z => by
      have := (List.nodup_append.mp ho.nd).2.2 x z x List.mem_cons_self
      exact this rfl
     have hx : x ∈ runM W seen := mem_run.mpr ⟨at1, nm⟩
     have ih := (ordGo_iff W (o.map PyData.int) (seen ++ [x]) (h.snoc hx)).mpr ⟨o, rfl,by rw [List.append_assoc]; exact ho⟩
     rw [List.length_append] at ih
     show (decide (0 <= x) && decide (x < (began W seen.length : Int)) && decide (x ∉ seen) && ordGo W (o.map PyData.int) (seen.length + 1) (seen ++ [x])) = true
     rw [decide_eq_true at1.1, decide_eq_true at1.2, decide_eq_true nm]
     exact ih
theorem ord_of {W : Wd} {d : PyData} (h : ordD W d = true) : ∃ o, d = encO o /\ VO W o := by
 unfold ordD at h
 split at h
 . rename_i ds
   obtain ⟨o, rfl,ho⟩ := (ordGo_iff W ds [] (VO.nil W)).mp h
   exact ⟨o, rfl,ho⟩
 . cases h
theorem ord_enc {W : Wd} {o : List Int} (h : VO W o) : ordD W (encO o) = true := (ordGo_iff W (o.map .int) [] (VO.nil W)).mpr ⟨o, rfl,h⟩
section
variable {P : Program} {w : World} {K : PySem.W.Frag} {mg : Str -> Option Value} {base : Heap}
def sp_co (T : Txt K mg) : Sp := fun vs H Q E => ∃ (v t : V) (d dt : PyData), vs = [v, t] /\ Rep H v d /\ Rep H t dt /\ (∀ ds, dt = .tuple ds -> ds.length <= 1000) /\ (isWD d = false -> ∀ H', Same H H' -> E (.ref T.e_NoWorld.C) none H') /\
 ∀ W : Wd, W.Ok -> d = encW W -> (ordD W dt = false -> ∀ H', Same H H' -> E (.ref T.e_NoOrder.C) none H') /\ (ordD W dt = true -> ∀ H', Same H H' -> Q .non H')
theorem ok_check_order (T : Txt K mg) : FnOk P w K mg base (CXr P w) 6 T.check_order.a T.check_order.d ["world", "order"] (sp_co T) := by
 refine T.check_order.F.okR sc_check_order (fun vs H Q E h => ?_) (fun cdv A outer s H vs Q E hr h => ?_)
 . obtain ⟨v, t, d, dt, rfl,_⟩ := h; rfl
 obtain ⟨v, t, d, dt, rfl,hd, ht, hl, q1, q2⟩ := h
 refine ⟨_,(pss_cons (ps_expr (pe_call (ok_check_world T) (hr.mono (by decide)) rfl T.check_world.m T.check_world.F.kp T.check_world.b .nil passR (pa_cons (pv 0) pa_nil))) (pss_one (ps_if (pt_not (pt_val (pe_call (ok_is_order T) (hr.mono (by decide)) rfl T.is_order.m T.is_order.F.kp T.is_order.b .nil passN (pa_cons (pv 0) (pa_cons (pv 1) pa_nil))))) (pss_one (ps_raise T.e_NoOrder.m T.e_NoOrder.q PySem.F.excBase_ValueError hr.hd pe_str rfl)) pss_nil))), ?_⟩
 refine ⟨_,rfl,v, d, rfl,hd, fun hw H1 g1 => ?_,fun hw H1 g1 => q1 hw H1 g1⟩
 obtain ⟨W, hok, rfl⟩ := isW_of hw
 obtain ⟨qn, qy⟩ := q2 W hok rfl
 refine ⟨_,rfl,_,rfl,v, t, W, dt, rfl,hd.mono g1, hok, ht.mono g1, hl, fun H2 g2 => ⟨_,rfl,?_⟩⟩
 cases ho : ordD W dt with
 | true => exact iteF (qy ho H2 (g1.trans g2))
 | false => exact iteT ⟨by show 1 <= sizeLine; decide, qn ho H2 (g1.trans g2)⟩
def sp_roe (K : PySem.W.Frag) : Sp := fun vs H Q _ => ∃ (v : V) (W : Wd) (x e : Int), vs = [v, .int x, .int e] /\ Rep H v (encW W) /\ 0 <= x /\ x < (W.bs.length : Int) /\
 ∀ (r : Addr) (H' : Hp) (ws : List V), Same H H' -> H r = none -> H' r = some (.lst ws) -> Reps H' ws (([(e, bg W x, (bnd W x).2), (bg W x, e, -(bnd W x).1), (e - 1, e, 0)] : List Ru).map encR) -> Q (.ref r) H'
theorem rep3 {H : Hp} {p : Addr} {a b c : Int} (h : H p = some (.tup [.int a, .int b, .int c])) : Rep H (.ref p) (encR (a, b, c)) := .tup h (Reps.ints (ns := [a, b, c]))
theorem ok_rules_of_ended (T : Txt K mg) : FnOk P w K mg base (CXr P w) 3 T.rules_of_ended.a T.rules_of_ended.d ["world", "work", "end"] (sp_roe K) := by
 refine T.rules_of_ended.F.okN sc_rules_of_ended (fun vs H Q E h => ?_) (fun cdv A outer s H vs Q E hr h => ?_)
 . obtain ⟨v, W, x, e, rfl,_⟩ := h; rfl
 obtain ⟨v, W, x, e, rfl,hW, h0, h1, q⟩ := h
 refine ⟨_,(pss_cons (ps_set (i := 3) sc_rules_of_ended.nd rfl (by first|exact .inl rfl|exact .inr rfl) (pe_call (ok_begin_event T) (hr.mono (by decide)) rfl T.begin_event.m T.begin_event.F.kp T.begin_event.b .nil passN (pa_cons (pv 0) (pa_cons (pv 1) pa_nil)))) (pss_one (ps_ret (pe_lst (pa_cons (pe_tup (pa_cons (pv 2) (pa_cons (pv 3) (pa_cons (pe_call (ok_greatest_length T) (hr.mono (by decide)) rfl T.greatest_length.m T.greatest_length.F.kp T.greatest_length.b .nil passN (pa_cons (pv 0) (pa_cons (pv 1) pa_nil))) pa_nil)))) (pa_cons (pe_tup (pa_cons (pv 3) (pa_cons (pv 2) (pa_cons (pe_un un_neg (pe_call (ok_least_length T) (hr.mono (by decide)) rfl T.least_length.m T.least_length.F.kp T.least_length.b .nil passN (pa_cons (pv 0) (pa_cons (pv 1) pa_nil)))) pa_nil)))) (pa_cons (pe_tup (pa_cons (pe_op op_sub (pv 2) pe_int) (pa_cons (pv 2) (pa_cons pe_int pa_nil)))) pa_nil))))))), ?_⟩
 refine ⟨_,rfl,_,rfl,v, W, x, rfl,hW, ?_⟩
 refine ⟨_,rfl,_,rfl,_,rfl,_,rfl,v, W, x, rfl,hW, h0, h1, by show 3 <= sizeLine; decide, fun p1 hp1 => ?_⟩
 have g1 := same_new hp1 (.tup [.int e, .int (bg W x), .int (bnd W x).2])
 refine ⟨_,rfl,_,rfl,_,rfl,_,rfl,v, W, x, rfl,hW.mono g1, h0, h1, _,rfl,by show 3 <= sizeLine; decide, fun p2 hp2 => ?_⟩
 have g2 := same_new hp2 (.tup [.int (bg W x), .int e, .int (-(bnd W x).1)])
 refine ⟨_,rfl,_,_,rfl,rfl,_,rfl,by show 3 <= sizeLine; decide, fun p3 hp3 => ?_⟩
 have g3 := same_new hp3 (.tup [.int (e - 1), .int e, .int 0])
 refine ⟨by show 3 <= sizeLine; decide, fun r hr' => ?_⟩
 have g4 := same_new hr' (.lst [.ref p1, .ref p2, .ref p3])
 refine q r _ _ (((g1.trans g2).trans g3).trans g4) ?_ upd_same ?_
 . exact ((g1.trans g2).trans g3).free hr'
 . exact .cons (rep3 (g4 _ _ (g3 _ _ (g2 _ _ upd_same)))) (.cons (rep3 (g4 _ _ (g3 _ _ upd_same))) (.cons (rep3 (g4 _ _ upd_same)) .nil))
def sp_ror (K : PySem.W.Frag) : Sp := fun vs H Q _ => ∃ (v : V) (W : Wd) (x : Int) (n : Nat), vs = [v, .int x, .int n] /\ Rep H v (encW W) /\ 0 <= x /\ x < (W.bs.length : Int) /\
 ∀ (u : V) (H' : Hp), Same H H' -> Rep H' u (encR (ruleR W n x)) -> Q u H'
theorem ok_rule_of_running (T : Txt K mg) : FnOk P w K mg base (CXr P w) 3 T.rule_of_running.a T.rule_of_running.d ["world", "work", "last"] (sp_ror K) := by
 refine T.rule_of_running.F.okN sc_rule_of_running (fun vs H Q E h => ?_) (fun cdv A outer s H vs Q E hr h => ?_)
 . obtain ⟨v, W, x, n, rfl,_⟩ := h; rfl
 obtain ⟨v, W, x, n, rfl,hW, h0, h1, q⟩ := h
 refine ⟨_,(pss_one (ps_ret (pe_tup (pa_cons (pv 2) (pa_cons (pe_call (ok_begin_event T) (hr.mono (by decide)) rfl T.begin_event.m T.begin_event.F.kp T.begin_event.b .nil passN (pa_cons (pv 0) (pa_cons (pv 1) pa_nil))) (pa_cons (pe_call (ok_greatest_length T) (hr.mono (by decide)) rfl T.greatest_length.m T.greatest_length.F.kp T.greatest_length.b .nil passN (pa_cons (pv 0) (pa_cons (pv 1) pa_nil))) pa_nil)))))), ?_⟩
 refine ⟨_,rfl,_,rfl,_,rfl,v, W, x, rfl,hW, _,rfl,_,rfl,v, W, x, rfl,hW, h0, h1, by show 3 <= sizeLine; decide, fun p hp => ?_⟩
 exact q _ _ (same_new hp _) (rep3 upd_same)
end
end Be
set_option Elab.async false
set_option linter.all false
set_option maxRecDepth 100000
namespace L2
open PySem PySem.Spec PySem.W PyProof.Rows Builtin Builtin.ObjectAttr Builtin.Getset_descriptor
section
variable {prog : Program} {w : World} {A : Around} {E : Value -> Shared -> Prop} {h : Heap} {g : Array GenState} {d : Drawn} {t : Nat} {os : OsState} {K : PySem.W.Frag} {a C : Addr} {o : Obj} {vs : Array Value}
end
end L2
set_option Elab.async false
set_option linter.all false
set_option maxRecDepth 100000
namespace L2
open PySem PySem.Spec PyProof.Rows
section
variable {M : Model} {A : Around} {E : Value -> Shared -> Prop} {h : Heap} {g : Array GenState} {d : Drawn} {t : Nat} {os : OsState}
variable {nm q nm2 q2 : Str} {C N D N2 : Addr} {bs bm bs2 bm2 : List Value} {hdct hdct2 : Bool} {sn sn2 : List Str} {sub sub2 : List Value} {ab ab2 : Bool} {col col2 : Option Bool} {dd dd2 : Option Addr} {k0 k1 k2 k3 k5 j0 j1 j2 j3 j5 : Option Value} {newId newId2 : String}
end
section
variable {P : Program} {w : World} {K : PySem.W.Frag} {mg : Str -> Option Value} {base : Heap}
end
section
variable {X : Cx} {k : Nat} {f : Addr} {fd : FuncData} {ps : List Str} {sp : Sp} {x : Str} {p pos : Pos} {e : Expr} {es : List Expr} {t : TA}
end
section
variable {X : Cx} {pins : List (Addr × Obj)} {σ : St} {H : Hp} {s : Shared}
end
end L2
set_option Elab.async false
set_option linter.all false
set_option maxRecDepth 100000
namespace L2
open PySem PySem.Spec PyProof.Rows
section
variable {P : Program} {w : World} {K : PySem.W.Frag} {mg : Str -> Option Value} {base : Heap} {N : List Str} {qual : Str} {scope : Scope} {f : Addr} {cd : Value} {A : Around} {outer : List Env} {s : Shared} {H : Hp} {E : XK}
end
end L2
set_option Elab.async false
set_option linter.all false
set_option maxRecDepth 100000
namespace L2
open PySem PySem.Spec PyProof.Rows
section
variable {X : Cx} {CX : CXT}
end
section
variable {P : Program} {w : World} {K : PySem.W.Frag} {mg : Str -> Option Value} {base : Heap}
end
end L2
set_option Elab.async false
set_option linter.all false
set_option maxRecDepth 100000
namespace Be.G
open PySem L2
section
variable {P : Program} {w : World} {K : PySem.W.Frag} {mg : Str -> Option Value} {base : Heap}
def enp (ls : List Int) : List (Int × Int) := (List.range ls.length).map fun (k : Nat) => (ls.getD k 0, (k : Int))
theorem enp_len (ls : List Int) : (enp ls).length = ls.length := by unfold enp; rw [List.length_map, List.length_range]
theorem enp_at {ls : List Int} {i : Nat} {x : Int} (h : ls[i]? = some x) : (enp ls)[i]? = some (x, (i : Int)) := by
 have hi := (List.getElem?_eq_some_iff.mp h).1
 unfold enp
 rw [List.getElem?_map, List.getElem?_range hi]
 show some (ls.getD i 0, (i : Int)) = _
 rw [List.getD_eq_getElem?_getD, h]; rfl
theorem enp_mem {ls : List Int} {p : Int × Int} (h : p ∈ enp ls) : 0 <= p.2 /\ p.2 < (ls.length : Int) /\ p.1 = ls.getD p.2.toNat 0 := by
 obtain ⟨k, hk, rfl⟩ := List.mem_map.mp h
 have := List.mem_range.mp hk
 refine ⟨by show (0 : Int) <= (k : Int); omega, by show (k : Int) < _; omega, ?_⟩
 show ls.getD k 0 = ls.getD ((k : Int)).toNat 0
 rw [Int.toNat_natCast]
theorem enp_rg {ls : List Int} (h10 : ls.length <= 10) {ps : List (Int × Int)} (pm : ps.Perm (enp ls)) : ∀ p ∈ ps, BE.RgP p := fun p hp => by
 have := enp_mem (pm.mem_iff.mp hp)
 exact ⟨this.1, by omega⟩
theorem _root_.L2.PairsIn.ts {H H' : Hp} {ws : List V} {ps : List (Int × Int)} (x : PairsIn H ws ps) (g : TSame H H') : PairsIn H' ws ps := ⟨x.1, fun i p hp => by
 obtain ⟨q, h1, h2⟩ := x.2 i p hp
 exact ⟨q, h1, g _ _ h2⟩⟩
theorem _root_.L2.PairsIn.snoc {H : Hp} {ws : List V} {ps : List (Int × Int)} {q : Addr} {p : Int × Int} (x : PairsIn H ws ps) (h : H q = some (.tup [.int p.1, .int p.2])) : PairsIn H (ws ++ [.ref q]) (ps ++ [p]) := by
 refine ⟨by simp [x.1], fun i p' hp => ?_⟩
 by_cases c : i < ps.length
 . rw [List.getElem?_append_left c] at hp
   obtain ⟨q', h1, h2⟩ := x.2 i p' hp
   exact ⟨q', by rw [List.getElem?_append_left (by rw [x.1]; exact c)]; exact h1, h2⟩
 . have hl := (List.getElem?_eq_some_iff.mp hp).1
   rw [List.length_append] at hl
   simp only [List.length_cons, List.length_nil] at hl
   have e : i = ps.length := by omega
   subst e
   rw [List.getElem?_append_right (Nat.le_refl _), Nat.sub_self] at hp
   have : p = p' := by simpa using hp
   subst this
   exact ⟨q, by rw [List.getElem?_append_right (by rw [x.1]; exact Nat.le_refl _), x.1, Nat.sub_self]; rfl,h⟩
theorem _root_.L2.PairsIn.at {H : Hp} {ws : List V} {ps : List (Int × Int)} (x : PairsIn H ws ps) {i : Nat} {u : V} (h : ws[i]? = some u) : ∃ (p : Int × Int) (q : Addr), ps[i]? = some p /\ u = .ref q /\ H q = some (.tup [.int p.1, .int p.2]) := by
 have hi := (List.getElem?_eq_some_iff.mp h).1
 have hp : i < ps.length := by rw [<- x.1]; exact hi
 obtain ⟨q, h1, h2⟩ := x.2 i _ (List.getElem?_eq_getElem hp)
 rw [h] at h1
 exact ⟨_,q, List.getElem?_eq_getElem hp, Option.some.inj h1, h2⟩
theorem sortP_one {a b : List (Int × Int)} (p : a.Perm b) (ha : a.Pairwise leP) (hb : b.Pairwise leP) (hr : ∀ x ∈ a, BE.RgP x) : a = b := by
 refine List.Perm.eq_of_pairwise (fun x y hx hy h1 h2 => ?_) ha hb p
 have r1 := hr x hx
 have r2 := hr y (p.mem_iff.mpr hy)
 unfold leP BE.kP at h1 h2
 unfold BE.RgP at r1 r2
 have e1 : x.1 = y.1 := by omega
 have e2 : x.2 = y.2 := by omega
 exact Prod.ext e1 e2
def sp_played : Sp := fun vs H Q _ => ∃ (v : V) (t : Addr) (W : Wd) (ls : List Int), vs = [v, .ref t] /\ Rep H v (encW W) /\ W.Ok /\ H t = some (.tup (ls.map V.int)) /\ InB W ls /\
 ∀ (p a l : Addr) (ps : List (Int × Int)) (H' : Hp), Same H H' -> ps.Perm (enp (ens W.b.toNat ls)) -> ps.Pairwise leP -> H' p = some (.tup [.ref a, .ref l]) -> H' a = some (.tup ((ps.map fun p => p.2).map V.int)) -> H' l = some (.lst ((ps.map fun p => p.1).map V.int)) -> Q (.ref p) H'
set_option maxHeartbeats 1000000 in
theorem ok_played (T : Txt K mg) : FnOk P w K mg base (CXr P w) 7 T.played.a T.played.d ["world", "lengths"] sp_played := by
 refine T.played.F.okN sc_played (fun vs H Q E h => ?_) (fun cdv A outer s H vs Q E hr h => ?_)
 . obtain ⟨v, t, W, ls, rfl,_⟩ := h; rfl
 obtain ⟨v, t, W, ls, rfl,hW, hok, ht, hin, q⟩ := h
 refine ⟨_,(pss_cons (ps_expr (pe_call (ok_check_lengths T) (hr.mono (by decide)) rfl T.check_lengths.m T.check_lengths.F.kp T.check_lengths.b .nil passN (pa_cons (pv 0) (pa_cons (pv 1) pa_nil)))) (pss_cons (ps_set (i := 2) sc_played.nd rfl (by first|exact .inl rfl|exact .inr rfl) (pe_callB call_sortP rfl T.n_sorted bt_sorted (pa_cons (pe_comp (NB := ["work", "part"]) (js := [none, none]) rfl (blkOk_of rfl (by decide +kernel) rfl (by decide +kernel) (by decide +kernel) (by with_unfolding_all rfl) (by with_unfolding_all rfl) (by with_unfolding_all rfl) (by with_unfolding_all rfl)) (pi_enumL rfl T.n_enumerate (pa_cons (pe_call (ok_taken_up T) (hr.mono (by decide)) rfl T.taken_up.m T.taken_up.F.kp T.taken_up.b .nil passN (pa_cons (pv 0) (pa_cons (pv 1) pa_nil))) pa_nil)) (fun _ _ _ _ => (b_pg_tup K (n := 2) rfl (pgs_cons (pg_name (i := 0) (show (["work", "part"] : List Str).Nodup by decide +kernel) rfl (by first|exact .inl rfl|exact .inr rfl)) (pgs_cons (pg_name (i := 1) (show (["work", "part"] : List Str).Nodup by decide +kernel) rfl (by first|exact .inl rfl|exact .inr rfl)) pgs_nil)))) (fun _ _ _ _ => pf_nil) (fun _ _ _ _ => (pe_tup (pa_cons (pe_ix (b_ix_tup K) (pv 1) pe_int (fun _ _ => rfl)) (pa_cons (pv 0) pa_nil))))) pa_nil))) (pss_one (ps_ret (pe_tup (pa_cons (pe_callTy call_tuple_of rfl T.n_tuple bt_tuple (pa_cons (pe_comp (NB := ["moment", "work"]) (js := [none, none]) rfl (blkOk_of rfl (by decide +kernel) rfl (by decide +kernel) (by decide +kernel) (by with_unfolding_all rfl) (by with_unfolding_all rfl) (by with_unfolding_all rfl) (by with_unfolding_all rfl)) (pi_list (pv 2)) (fun _ _ _ _ => (b_pg_tup K (n := 2) rfl (pgs_cons (pg_name (i := 0) (show (["moment", "work"] : List Str).Nodup by decide +kernel) rfl (by first|exact .inl rfl|exact .inr rfl)) (pgs_cons (pg_name (i := 1) (show (["moment", "work"] : List Str).Nodup by decide +kernel) rfl (by first|exact .inl rfl|exact .inr rfl)) pgs_nil)))) (fun _ _ _ _ => pf_nil) (fun _ _ _ _ => (pv 1))) pa_nil)) (pa_cons (pe_comp (NB := ["moment", "work"]) (js := [none, none]) rfl (blkOk_of rfl (by decide +kernel) rfl (by decide +kernel) (by decide +kernel) (by with_unfolding_all rfl) (by with_unfolding_all rfl) (by with_unfolding_all rfl) (by with_unfolding_all rfl)) (pi_list (pv 2)) (fun _ _ _ _ => (b_pg_tup K (n := 2) rfl (pgs_cons (pg_name (i := 0) (show (["moment", "work"] : List Str).Nodup by decide +kernel) rfl (by first|exact .inl rfl|exact .inr rfl)) (pgs_cons (pg_name (i := 1) (show (["moment", "work"] : List Str).Nodup by decide +kernel) rfl (by first|exact .inl rfl|exact .inr rfl)) pgs_nil)))) (fun _ _ _ _ => pf_nil) (fun _ _ _ _ => (pv 0))) pa_nil))))))), ?_⟩
 have hl10 := hin.l10 hok
 refine ⟨_,rfl,_,rfl,v, t, W, ls, rfl,hW, hok, ht, hin, fun H1 g1 => ?_⟩
 refine ⟨_,rfl,_,rfl,v, t, W, ls, rfl,hW.mono g1, hok, g1 _ _ ht, hl10, fun le ws H2 g2 fle hle rs => ?_⟩
 have el := ens_len W.b.toNat ls
 refine ⟨le, _,rfl,SqL.of hle, fun D hD => ?_⟩
 refine comp_enumLR (K := K) (a := le) (xs := ws) (fun i ys H3 => Same H2 H3 /\ H3 D = some (.lst ys) /\ PairsIn H3 ys ((enp (ens W.b.toNat ls)).take i)) ⟨same_new hD _,upd_same, rfl,fun i p hp => by simp at hp⟩ (fun i ys H3 _ hP => SqL.of (hP.1 _ _ hle)) (fun i ys v p H3 hv hp hP => ?_) (fun ys H3 hP => ?_)
 . obtain ⟨g, hD2, pin⟩ := hP
   obtain ⟨t3, q3, ht3, rfl,hq3⟩ := tk_at (rs.mono g) hv
   have hx : (ens W.b.toNat ls)[i]? = some t3.2.2 := by unfold ens; rw [List.getElem?_map, ht3]; rfl
   have hi : i < ls.length := by rw [<- el]; exact (List.getElem?_eq_some_iff.mp hx).1
   have gp := same_new hp (.tup [.int i, .ref q3])
   have wl := pin.1
   rw [List.length_take, enp_len] at wl
   refine ⟨p, _,rfl,SqT.of upd_same, rfl,_,_,rfl,_,_,rfl,rfl,agree2, iteT ⟨_,rfl,q3, _,_,_,rfl,rfl,SqT.of (gp _ _ hq3), rfl,_,rfl,by show 2 <= sizeLine; decide, fun pe hpe => ?_⟩⟩
   have ge := same_new hpe (.tup [.int t3.2.2, .int i])
   have g3 := g.trans (gp.trans ge)
   refine ⟨(gp.trans ge) _ _ hD2, Nat.lt_of_lt_of_le (show ys.length < 100 by omega) (by decide), g3.write hD _,upd_same, ?_⟩
   rw [take_snoc (enp_at hx)]
   have ts := (gp.trans ge).ts.trans (TSame.lst ((gp.trans ge) _ _ hD2) (.lst (ys ++ [.ref pe])))
   refine (pin.ts ts).snoc ?_
   exact (TSame.lst ((gp.trans ge) _ _ hD2) (.lst (ys ++ [.ref pe]))) _ _ upd_same
 . obtain ⟨g, hD2, pin⟩ := hP
   have wl := rs.length
   rw [List.length_map, tk_len] at wl
   rw [wl, List.take_of_length_le (by rw [enp_len, el]; exact Nat.le_refl _)] at pin
   refine ⟨D, ys, enp (ens W.b.toNat ls), rfl,hD2, pin, enp_rg (by rw [el]; exact hl10) (List.Perm.refl _), by rw [enp_len, el]; omega, fun l ws' ps' hl pm pw pin' => ?_⟩
   have gl := same_new hl (.lst ws')
   have pin2 := pin'.ts gl.ts
   have hl2 : upd H3 l (.lst ws') l = some (.lst ws') := upd_same
   generalize upd H3 l (.lst ws') = H5 at *
   have plen : ps'.length = ls.length := by rw [pm.length_eq, enp_len, el]
   refine ⟨_,rfl,l, rfl,⟨_,SqL.of hl2⟩, fun D2 hD2 => ?_⟩
   refine comp_listR (K := K) (a := l) (xs := ws') (fun i ys H4 => Same H5 H4 /\ H4 D2 = some (.lst ys) /\ ys = ((ps'.take i).map fun p => p.2).map V.int) ⟨same_new hD2 _,upd_same, rfl⟩ (fun i ys H4 _ hP => SqL.of (hP.1 _ _ hl2)) (fun i ys y H4 hy hP => ?_) (fun ys H4 hP => ?_)
   . obtain ⟨g4, hz, rfl⟩ := hP
     obtain ⟨pp, qq, hpp, rfl,hq⟩ := (pin2.ts g4.ts).at hy
     refine ⟨qq, _,rfl,SqT.of hq, rfl,_,_,rfl,_,_,rfl,rfl,agree2, iteT ⟨_,rfl,hz, ?_,g4.write hD2 _,upd_same, map_snocI hpp _⟩⟩
     rw [List.length_map, List.length_map]
     have := List.length_take_le' i ps'
     exact Nat.lt_of_lt_of_le (show _ < 100 by omega) (by decide)
   obtain ⟨gA, hz, rfl⟩ := hP
   rw [pin'.1, List.take_length] at hz
   refine ⟨D2, _,rfl,.inl ⟨SqL.of hz, fun pt hpt => ?_⟩⟩
   have gB := gA.trans (same_new hpt (.tup ((ps'.map fun p => p.2).map V.int)))
   have ept : upd H4 pt (.tup ((ps'.map fun p => p.2).map V.int)) pt = some (.tup ((ps'.map fun p => p.2).map V.int)) := upd_same
   generalize upd H4 pt (.tup ((ps'.map fun p => p.2).map V.int)) = H6 at *
   have hl6 := gB _ _ hl2
   have pin6 := pin2.ts gB.ts
   refine ⟨_,rfl,l, rfl,⟨_,SqL.of hl6⟩, fun D3 hD3 => ?_⟩
   refine comp_listR (K := K) (a := l) (xs := ws') (fun i ys H4 => Same H6 H4 /\ H4 D3 = some (.lst ys) /\ ys = ((ps'.take i).map fun p => p.1).map V.int) ⟨same_new hD3 _,upd_same, rfl⟩ (fun i ys H4 _ hP => SqL.of (hP.1 _ _ hl6)) (fun i ys y H4 hy hP => ?_) (fun ys H4 hP => ?_)
   . obtain ⟨g4, hz, rfl⟩ := hP
     obtain ⟨pp, qq, hpp, rfl,hq⟩ := (pin6.ts g4.ts).at hy
     refine ⟨qq, _,rfl,SqT.of hq, rfl,_,_,rfl,_,_,rfl,rfl,agree2, iteT ⟨_,rfl,hz, ?_,g4.write hD3 _,upd_same, map_snocI hpp _⟩⟩
     rw [List.length_map, List.length_map]
     have := List.length_take_le' i ps'
     exact Nat.lt_of_lt_of_le (show _ < 100 by omega) (by decide)
   obtain ⟨gC, hz3, rfl⟩ := hP
   rw [pin'.1, List.take_length] at hz3
   refine ⟨by show 2 <= sizeLine; decide, fun pr hpr => ?_⟩
   have gD := same_new hpr (.tup [.ref pt, .ref D3])
   exact q pr pt D3 ps' _ (g1.trans (g2.trans (g.trans (gl.trans (gB.trans (gC.trans gD)))))) pm pw upd_same (gD _ _ (gC _ _ ept)) (gD _ _ hz3)
end
end Be.G
set_option Elab.async false
set_option linter.all false
set_option maxRecDepth 100000
namespace Be.G
open PySem L2
section
variable {P : Program} {w : World} {K : PySem.W.Frag} {mg : Str -> Option Value} {base : Heap}
def sp_lord : Sp := fun vs H Q _ => ∃ (v : V) (t : Addr) (W : Wd) (l0 : List Int), vs = [v, .ref t] /\ Rep H v (encW W) /\ W.Ok /\ H t = some (.tup (l0.map V.int)) /\ InB W l0 /\ ∀ (l : Addr) (ps : List (Int × Int)) (H' : Hp), Same H H' -> ps.Perm (enp (ens W.b.toNat l0)) -> ps.Pairwise leP -> H' l = some (.tup ((ps.map fun p => p.2).map V.int)) -> Q (.ref l) H'
theorem ok_law_order (T : Txt K mg) : FnOk P w K mg base (CXr P w) 2 T.law_order.a T.law_order.d ["_law_world_here", "_law_some_here"] sp_lord := by
 refine T.law_order.F.okN sc_law_order (fun vs H Q E h => ?_) (fun cdv A outer s H vs Q E hr h => ?_)
 . obtain ⟨v, t, W, l0, rfl,_⟩ := h; rfl
 obtain ⟨v, t, W, l0, rfl,hW, hok, ht, hin, q⟩ := h
 refine ⟨_,(pss_cons (ps_set (i := 2) sc_law_order.nd rfl (by first|exact .inl rfl|exact .inr rfl) (pe_callB call_sortP rfl T.n_sorted bt_sorted (pa_cons (pe_comp (NB := ["_law_work", "_law_end"]) (js := [none, none]) rfl (blkOk_of rfl (by decide +kernel) rfl (by decide +kernel) (by decide +kernel) (by with_unfolding_all rfl) (by with_unfolding_all rfl) (by with_unfolding_all rfl) (by with_unfolding_all rfl)) (pi_enumL rfl T.n_enumerate (pa_cons (pe_call (ok_law_ends T) (hr.mono (by decide)) rfl T.law_ends.m T.law_ends.F.kp T.law_ends.b .nil passN (pa_cons (pe_ix ix_tup (pv 0) pe_int (fun _ _ => rfl)) (pa_cons (pv 1) pa_nil))) pa_nil)) (fun _ _ _ _ => (b_pg_tup K (n := 2) rfl (pgs_cons (pg_name (i := 0) (show (["_law_work", "_law_end"] : List Str).Nodup by decide +kernel) rfl (by first|exact .inl rfl|exact .inr rfl)) (pgs_cons (pg_name (i := 1) (show (["_law_work", "_law_end"] : List Str).Nodup by decide +kernel) rfl (by first|exact .inl rfl|exact .inr rfl)) pgs_nil)))) (fun _ _ _ _ => pf_nil) (fun _ _ _ _ => (pe_tup (pa_cons (pv 1) (pa_cons (pv 0) pa_nil))))) pa_nil))) (pss_one (ps_ret (pe_callTy call_tuple_of rfl T.n_tuple bt_tuple (pa_cons (pe_comp (NB := ["_law_end", "_law_work"]) (js := [none, none]) rfl (blkOk_of rfl (by decide +kernel) rfl (by decide +kernel) (by decide +kernel) (by with_unfolding_all rfl) (by with_unfolding_all rfl) (by with_unfolding_all rfl) (by with_unfolding_all rfl)) (pi_list (pv 2)) (fun _ _ _ _ => (b_pg_tup K (n := 2) rfl (pgs_cons (pg_name (i := 0) (show (["_law_end", "_law_work"] : List Str).Nodup by decide +kernel) rfl (by first|exact .inl rfl|exact .inr rfl)) (pgs_cons (pg_name (i := 1) (show (["_law_end", "_law_work"] : List Str).Nodup by decide +kernel) rfl (by first|exact .inl rfl|exact .inr rfl)) pgs_nil)))) (fun _ _ _ _ => pf_nil) (fun _ _ _ _ => (pv 1))) pa_nil))))), ?_⟩
 have b1 := hok.b1
 have b4 := hok.b4
 have h010 := hin.l10 hok
 obtain ⟨ca, cp, cvs, AW⟩ := atW hW
 obtain rfl := AW.v
 refine ⟨_,rfl,ca, _,_,_,rfl,rfl,SqT.of AW.a, rfl,_,rfl,t, W.b.toNat, l0, by rw [Int.toNat_of_nonneg (by omega)]; rfl,by omega, by omega, ht, h010, fun le H1 g1 _ hle => ?_⟩
 have hl10 : (ens W.b.toNat l0).length <= 10 := by rw [ens_len]; exact h010
 generalize ens W.b.toNat l0 = ls at *
 refine ⟨le, _,rfl,SqL.of hle, fun D hD => ?_⟩
 refine comp_enumLR (K := K) (a := le) (xs := ls.map V.int) (fun i ys H2 => Same H1 H2 /\ H2 D = some (.lst ys) /\ PairsIn H2 ys ((enp ls).take i)) ⟨same_new hD _,upd_same, rfl,fun i p hp => by simp at hp⟩ (fun i ys H2 _ hP => SqL.of (hP.1 _ _ hle)) (fun i ys v p H2 hv hp hP => ?_) (fun ys H2 hP => ?_)
 . obtain ⟨g, hD2, pin⟩ := hP
   obtain ⟨x, hx, rfl⟩ := int_at hv
   have hi : i < ls.length := (List.getElem?_eq_some_iff.mp hx).1
   have gp := same_new hp (.tup [.int i, .int x])
   have wl := pin.1
   rw [List.length_take, enp_len] at wl
   refine ⟨p, _,rfl,SqT.of upd_same, rfl,_,_,rfl,_,_,rfl,rfl,agree2, iteT ⟨_,rfl,_,rfl,by show 2 <= sizeLine; decide, fun pe hpe => ?_⟩⟩
   have ge := same_new hpe (.tup [.int x, .int i])
   have g3 := g.trans (gp.trans ge)
   refine ⟨(gp.trans ge) _ _ hD2, Nat.lt_of_lt_of_le (show ys.length < 100 by omega) (by decide), g3.write hD _,upd_same, ?_⟩
   rw [take_snoc (enp_at hx)]
   have ts : TSame H2 (upd (upd (upd H2 p (.tup [.int i, .int x])) pe (.tup [.int x, .int i])) D (.lst (ys ++ [.ref pe]))) := (gp.trans ge).ts.trans (TSame.lst ((gp.trans ge) _ _ hD2) _)
   refine (pin.ts ts).snoc ?_
   rw [upd_ne (fun z => by rw [z, gp _ _ hD2] at hpe; cases hpe), upd_same]
 . obtain ⟨g, hD2, pin⟩ := hP
   rw [List.length_map, List.take_of_length_le (by rw [enp_len]; exact Nat.le_refl _)] at pin
   refine ⟨D, ys, enp ls, rfl,hD2, pin, enp_rg hl10 (List.Perm.refl _), by rw [enp_len]; omega, fun l ws' ps' hl pm pw pin' => ?_⟩
   have gl := same_new hl (.lst ws')
   have pin2 := pin'.ts gl.ts
   have hl2 : upd H2 l (.lst ws') l = some (.lst ws') := upd_same
   generalize upd H2 l (.lst ws') = H3 at *
   have plen : ps'.length = ls.length := by rw [pm.length_eq, enp_len]
   refine ⟨_,rfl,l, rfl,⟨_,SqL.of hl2⟩, fun D2 hD2' => ?_⟩
   refine comp_listR (K := K) (a := l) (xs := ws') (fun i ys H4 => Same H3 H4 /\ H4 D2 = some (.lst ys) /\ ys = ((ps'.take i).map fun p => p.2).map V.int) ⟨same_new hD2' _,upd_same, rfl⟩ (fun i ys H4 _ hP => SqL.of (hP.1 _ _ hl2)) (fun i ys y H4 hy hP => ?_) (fun ys H4 hP => ?_)
   . obtain ⟨g4, hz, rfl⟩ := hP
     obtain ⟨pp, qq, hpp, rfl,hq⟩ := (pin2.ts g4.ts).at hy
     refine ⟨qq, _,rfl,SqT.of hq, rfl,_,_,rfl,_,_,rfl,rfl,agree2, iteT ⟨_,rfl,hz, ?_,g4.write hD2' _,upd_same, map_snocI hpp _⟩⟩
     rw [List.length_map, List.length_map]
     have := List.length_take_le' i ps'
     exact Nat.lt_of_lt_of_le (show _ < 100 by omega) (by decide)
   . obtain ⟨g4, hz, rfl⟩ := hP
     rw [pin'.1, List.take_length] at hz
     refine ⟨D2, _,rfl,.inl ⟨SqL.of hz, fun pt hpt => ?_⟩⟩
     exact q pt ps' _ (g1.trans (g.trans (gl.trans (g4.trans (same_new hpt _))))) pm pw upd_same
end
end Be.G
set_option Elab.async false
set_option linter.all false
namespace Be
def fn (r : List Int) (i : Nat) : Int := r.getD i 0
def FeasF (rs : List Ru) (f : Nat -> Int) : Prop := ∀ r ∈ rs, f r.1.toNat - f r.2.1.toNat <= r.2.2
def NN (n : Nat) (f : Nat -> Int) : Prop := ∀ v, v < n -> 0 <= f v
def InR (rs : List Ru) (n : Nat) : Prop := ∀ r ∈ rs, (0 <= r.1 /\ r.1 < (n : Int)) /\ (0 <= r.2.1 /\ r.2.1 < (n : Int))
def mxI (i j : Int) : Int := if j > i then j else i
def stepP (row : List Int) (r : Ru) : List Int := row.set r.2.1.toNat (mxI (fn row r.2.1.toNat) (fn row r.1.toNat - r.2.2))
def pass (rs : List Ru) (row : List Int) : List Int := rs.foldl stepP row
def earlyM (rs : List Ru) : Nat -> List Int -> Option (List Int)
 | 0, _ => none
 | t + 1, row => if pass rs row = row then some row else earlyM rs t (pass rs row)
theorem fn_set (row : List Int) (k i : Nat) (v : Int) : fn (row.set k v) i = if i = k /\ k < row.length then v else fn row i := by
 unfold fn
 rw [List.getD_eq_getElem?_getD, List.getD_eq_getElem?_getD, List.getElem?_set]
 by_cases h : k = i
 . subst h
   by_cases hl : k < row.length
   . rw [if_pos rfl,if_pos hl, if_pos ⟨rfl,hl⟩]; rfl
   . rw [if_pos rfl,if_neg hl, if_neg (fun z => hl z.2), List.getElem?_eq_none (by omega)]
 . rw [if_neg h, if_neg (fun z => h z.1.symm)]
theorem step_len (row : List Int) (r : Ru) : (stepP row r).length = row.length := by unfold stepP; rw [List.length_set]
theorem pass_len (rs : List Ru) : ∀ row, (pass rs row).length = row.length := by
 induction rs with
 | nil => intro row; rfl
 | cons r rs ih => intro row; show (pass rs (stepP row r)).length = _; rw [ih, step_len]
theorem step_ge (row : List Int) (r : Ru) (i : Nat) : fn row i <= fn (stepP row r) i := by
 unfold stepP
 rw [fn_set]
 split
 . rename_i h
   rw [h.1]
   unfold mxI
   split <;> omega
 . exact Int.le_refl _
theorem pass_ge (rs : List Ru) : ∀ (row : List Int) (i : Nat), fn row i <= fn (pass rs row) i := by
 induction rs with
 | nil => intro row i; exact Int.le_refl _
 | cons r rs ih => intro row i; exact Int.le_trans (step_ge row r i) (ih (stepP row r) i)
theorem step_le {row : List Int} {r : Ru} {f : Nat -> Int} (h : f r.1.toNat - f r.2.1.toNat <= r.2.2) (h1 : r.1.toNat < row.length) (hr : ∀ i, i < row.length -> fn row i <= f i) : ∀ i, i < (stepP row r).length -> fn (stepP row r) i <= f i := by
 intro i hi
 rw [step_len] at hi
 unfold stepP
 rw [fn_set]
 split
 . rename_i z
   obtain ⟨z1, z2⟩ := z
   have a := hr _ z2
   have b := hr _ h1
   rw [z1]
   unfold mxI
   split <;> omega
 . exact hr i hi
theorem pass_le {f : Nat -> Int} (rs : List Ru) : ∀ (row : List Int), FeasF rs f -> InR rs row.length -> (∀ i, i < row.length -> fn row i <= f i) -> ∀ i, i < row.length -> fn (pass rs row) i <= f i := by
 induction rs with
 | nil => intro row _ _ h; exact h
 | cons r rs ih =>
  intro row hf hi h
  have h1 := hi r List.mem_cons_self
  have z := ih (stepP row r) (fun q hq => hf q (List.mem_cons_of_mem _ hq)) (by rw [step_len]; exact fun q hq => hi q (List.mem_cons_of_mem _ hq)) (step_le (hf r List.mem_cons_self) (by omega) h)
  rw [step_len] at z
  exact z
theorem pass_hit (rs : List Ru) : ∀ (row : List Int), InR rs row.length -> ∀ r ∈ rs, fn row r.1.toNat - r.2.2 <= fn (pass rs row) r.2.1.toNat := by
 induction rs with
 | nil => intro row _ r hr; cases hr
 | cons q rs ih =>
  intro row hi r hr
  have hq := hi q List.mem_cons_self
  rcases List.mem_cons.mp hr with rfl | hr
  . refine Int.le_trans ?_ (pass_ge rs (stepP row r) _)
    unfold stepP
    rw [fn_set, if_pos ⟨rfl,by omega⟩]
    unfold mxI
    split <;> omega
  . have a := ih (stepP row q) (by rw [step_len]; exact fun x hx => hi x (List.mem_cons_of_mem _ hx)) r hr
    have b := step_ge row q r.1.toNat
    show _ <= fn (pass rs (stepP row q)) _
    omega
theorem fix_feas {rs : List Ru} {row : List Int} (hi : InR rs row.length) (h : pass rs row = row) : FeasF rs (fn row) := fun r hr => by
 have := pass_hit rs row hi r hr
 rw [h] at this
 omega
def ssum : Nat -> (Nat -> Int) -> Int
 | 0, _ => 0
 | n + 1, f => ssum n f + f n
theorem ssum_nn {f : Nat -> Int} : ∀ n, NN n f -> 0 <= ssum n f
 | 0, _ => Int.le_refl _
 | n + 1, h => by
  have a := ssum_nn n (fun v hv => h v (by omega))
  have b := h n (by omega)
  show 0 <= ssum n f + f n
  omega
theorem ssum_le {f g : Nat -> Int} : ∀ n, (∀ v, v < n -> f v <= g v) -> ssum n f <= ssum n g
 | 0, _ => Int.le_refl _
 | n + 1, h => by
  have a := ssum_le n (fun v hv => h v (by omega))
  have b := h n (by omega)
  show ssum n f + f n <= ssum n g + g n
  omega
theorem ssum_lt {f g : Nat -> Int} : ∀ n, (∀ v, v < n -> f v <= g v) -> (∃ v, v < n /\ f v < g v) -> ssum n f < ssum n g
 | 0, _,⟨v, hv, _⟩ => by omega
 | n + 1, h, ⟨v, hv, hl⟩ => by
  have b := h n (by omega)
  show ssum n f + f n < ssum n g + g n
  by_cases e : v = n
  . subst e
    have a := ssum_le v (fun u hu => h u (by omega))
    omega
  . have a := ssum_lt n (fun u hu => h u (by omega)) ⟨v, by omega, hl⟩
    omega
def cnt : Nat -> (Nat -> Bool) -> Nat
 | 0, _ => 0
 | n + 1, p => cnt n p + (if p n then 1 else 0)
theorem cnt_len (p : Nat -> Bool) : ∀ n, cnt n p <= n
 | 0 => Nat.le_refl _
 | n + 1 => by
  have := cnt_len p n
  show cnt n p + (if p n then 1 else 0) <= n + 1
  split <;> omega
theorem cnt_le {p q : Nat -> Bool} : ∀ n, (∀ v, v < n -> p v = true -> q v = true) -> cnt n p <= cnt n q
 | 0, _ => Nat.le_refl _
 | n + 1, h => by
  have a := cnt_le n (fun v hv => h v (by omega))
  have b := h n (by omega)
  show cnt n p + (if p n then 1 else 0) <= cnt n q + (if q n then 1 else 0)
  cases hp : p n
  . simp; split <;> omega
  . rw [b hp]; simp; omega
theorem cnt_lt {p q : Nat -> Bool} : ∀ n, (∀ v, v < n -> p v = true -> q v = true) -> (∃ v, v < n /\ p v = false /\ q v = true) -> cnt n p + 1 <= cnt n q
 | 0, _,⟨v, hv, _⟩ => by omega
 | n + 1, h, ⟨v, hv, hp, hq⟩ => by
  show cnt n p + (if p n then 1 else 0) + 1 <= cnt n q + (if q n then 1 else 0)
  by_cases e : v = n
  . subst e
    have a := cnt_le v (fun u hu => h u (by omega))
    rw [hp, hq]; simp; omega
  . have a := cnt_lt n (fun u hu => h u (by omega)) ⟨v, by omega, hp, hq⟩
    have b := h n (by omega)
    cases hp : p n
    . simp; split <;> omega
    . rw [b hp]; simp; omega
theorem cnt_all {p : Nat -> Bool} : ∀ n, (∀ v, v < n -> p v = true) -> cnt n p = n
 | 0, _ => rfl
 | n + 1, h => by
  show cnt n p + (if p n then 1 else 0) = n + 1
  rw [cnt_all n (fun v hv => h v (by omega)), h n (by omega)]; rfl
theorem cnt_full {p : Nat -> Bool} : ∀ n, n <= cnt n p -> ∀ v, v < n -> p v = true
 | 0, _,v, hv => by omega
 | n + 1, h, v, hv => by
  have h' : n + 1 <= cnt n p + (if p n then 1 else 0) := h
  have l := cnt_len p n
  cases hp : p n
  . rw [hp] at h'; simp at h'; omega
  . by_cases e : v = n
    . rw [e]; exact hp
    . rw [hp] at h'; simp at h'; exact cnt_full n (by omega) v (by omega)
structure Least (rs : List Ru) (n : Nat) (L : Nat -> Int) : Prop where
 fe : FeasF rs L
 nn : NN n L
 le : ∀ M, FeasF rs M -> NN n M -> ssum n L <= ssum n M
theorem exists_least (rs : List Ru) (n : Nat) : ∀ (k : Nat) (x : Nat -> Int), FeasF rs x -> NN n x -> (ssum n x).toNat <= k -> ∃ L, Least rs n L
 | 0, x, hf, hn, hk => ⟨x, hf, hn, fun M _ hM => by have := ssum_nn n hM; have := ssum_nn n hn; omega⟩
 | k + 1, x, hf, hn, hk => by
  by_cases h : ∃ M, FeasF rs M /\ NN n M /\ ssum n M < ssum n x
  . obtain ⟨M, a, b, c⟩ := h
    have := ssum_nn n b
    exact exists_least rs n k M a b (by omega)
  . exact ⟨x, hf, hn, fun M a b => by
      by_cases c : ssum n M < ssum n x
      . exact absurd ⟨M, a, b, c⟩ h
      . omega⟩
theorem settle {rs : List Ru} {n : Nat} {L : Nat -> Int} (hL : Least rs n L) {row : List Int} (hl : row.length = n) (hi : InR rs n) (h0 : ∀ v, v < n -> 0 <= fn row v) (hle : ∀ v, v < n -> fn row v <= L v)
    (hne : ∃ v, v < n /\ fn row v ≠ L v) : ∃ v, v < n /\ fn row v ≠ L v /\ fn (pass rs row) v = L v := by
 apply Classical.byContradiction
 intro hno
 have hno' : ∀ v, v < n -> fn row v ≠ L v -> fn (pass rs row) v ≠ L v := fun v a b c => hno ⟨v, a, b, c⟩
 have hp := pass_le rs row hL.fe (by rw [hl]; exact hi) (by rw [hl]; exact hle)
 rw [hl] at hp
 have hh := pass_hit rs row (by rw [hl]; exact hi)
 let M : Nat -> Int := fun v => if fn row v = L v then L v else L v - 1
 have m1 : ∀ v, fn row v = L v -> M v = L v := fun v e => if_pos e
 have m2 : ∀ v, fn row v ≠ L v -> M v = L v - 1 := fun v e => if_neg e
 have hM : FeasF rs M := fun r hr => by
  have f := hL.fe r hr
  have ir := hi r hr
  have h1 := hh r hr
  have hb := hp r.2.1.toNat (by omega)
  by_cases a : fn row r.1.toNat = L r.1.toNat
  . by_cases b : fn row r.2.1.toNat = L r.2.1.toNat
    . rw [m1 _ a, m1 _ b]; exact f
    . rw [m1 _ a, m2 _ b]
      have := hno' r.2.1.toNat (by omega) b
      omega
  . by_cases b : fn row r.2.1.toNat = L r.2.1.toNat
    . rw [m2 _ a, m1 _ b]; omega
    . rw [m2 _ a, m2 _ b]; omega
 have hN : NN n M := fun v hv => by
  have a := h0 v hv
  have b := hle v hv
  by_cases e : fn row v = L v
  . rw [m1 _ e]; omega
  . rw [m2 _ e]; omega
 have l := hL.le M hM hN
 obtain ⟨v, hv, hne⟩ := hne
 have := ssum_lt (f := M) (g := L) n (fun u hu => by
  by_cases e : fn row u = L u
  . rw [m1 _ e]; omega
  . rw [m2 _ e]; omega) ⟨v, hv, by rw [m2 _ hne]; omega⟩
 omega
def sett (L : Nat -> Int) (row : List Int) : Nat -> Bool := fun v => decide (fn row v = L v)
theorem settle_cnt {rs : List Ru} {n : Nat} {L : Nat -> Int} (hL : Least rs n L) {row : List Int} (hl : row.length = n) (hi : InR rs n) (h0 : ∀ v, v < n -> 0 <= fn row v) (hle : ∀ v, v < n -> fn row v <= L v)
    (hne : ∃ v, v < n /\ fn row v ≠ L v) : cnt n (sett L row) + 1 <= cnt n (sett L (pass rs row)) := by
 obtain ⟨v, hv, a, b⟩ := settle hL hl hi h0 hle hne
 have hp := pass_le rs row hL.fe (by rw [hl]; exact hi) (by rw [hl]; exact hle)
 rw [hl] at hp
 refine cnt_lt n (fun u hu e => ?_) ⟨v, hv, decide_eq_false a, decide_eq_true b⟩
 have e' := of_decide_eq_true e
 have g := pass_ge rs row u
 have := hp u hu
 exact decide_eq_true (by omega)
theorem eq_of_fn {x y : List Int} (hl : x.length = y.length) (h : ∀ v, v < x.length -> fn x v = fn y v) : x = y := by
 refine List.ext_getElem hl fun i h1 h2 => ?_
 have := h i h1
 unfold fn at this
 rw [List.getD_eq_getElem?_getD, List.getD_eq_getElem?_getD, List.getElem?_eq_getElem h1, List.getElem?_eq_getElem h2] at this
 exact this
theorem conv {rs : List Ru} {n : Nat} {L : Nat -> Int} (hL : Least rs n L) (hi : InR rs n) : ∀ (t : Nat) (row : List Int), row.length = n -> (∀ v, v < n -> 0 <= fn row v) -> (∀ v, v < n -> fn row v <= L v) -> n + 1 <= t + cnt n (sett L row) -> ∃ r, earlyM rs t row = some r
 | 0, row, hl, _,_,hc => by have := cnt_len (sett L row) n; omega
 | t + 1, row, hl, h0, hle, hc => by
  have hp := pass_le rs row hL.fe (by rw [hl]; exact hi) (by rw [hl]; exact hle)
  rw [hl] at hp
  unfold earlyM
  by_cases e : pass rs row = row
  . rw [if_pos e]; exact ⟨row, rfl⟩
  . rw [if_neg e]
    have hne : ∃ v, v < n /\ fn row v ≠ L v := by
     apply Classical.byContradiction
     intro hno
     refine e (eq_of_fn (pass_len rs row) fun v hv => ?_)
     rw [pass_len, hl] at hv
     have a := hp v hv
     have b := pass_ge rs row v
     have c : fn row v = L v := Classical.byContradiction fun z => hno ⟨v, hv, z⟩
     omega
    have hc2 := settle_cnt hL hl hi h0 hle hne
    exact conv hL hi t (pass rs row) (by rw [pass_len]; exact hl) (fun v hv => Int.le_trans (h0 v hv) (pass_ge rs row v)) hp (by omega)
theorem early_props {rs : List Ru} {n : Nat} (hi : InR rs n) : ∀ (t : Nat) (row r : List Int), row.length = n -> earlyM rs t row = some r -> r.length = n /\ pass rs r = r /\ (∀ v, fn row v <= fn r v) /\ ∀ f, FeasF rs f -> (∀ v, v < n -> fn row v <= f v) -> ∀ v, v < n -> fn r v <= f v
 | 0, row, r, hl, h => by cases h
 | t + 1, row, r, hl, h => by
  unfold earlyM at h
  by_cases e : pass rs row = row
  . rw [if_pos e] at h
    cases h
    exact ⟨hl, e, fun v => Int.le_refl _,fun f _ hf => hf⟩
  . rw [if_neg e] at h
    obtain ⟨a, b, c, d⟩ := early_props hi t (pass rs row) r (by rw [pass_len]; exact hl) h
    refine ⟨a, b, fun v => Int.le_trans (pass_ge rs row v) (c v), fun f hf hle => d f hf ?_⟩
    have := pass_le rs row hf (by rw [hl]; exact hi) (by rw [hl]; exact hle)
    rw [hl] at this
    exact this
def gain : List Ru -> Int
 | [] => 0
 | r :: rs => (if r.2.2 < 0 then -r.2.2 else 0) + gain rs
theorem gain_app : ∀ a b, gain (a ++ b) = gain a + gain b
 | [], b => by show gain b = 0 + gain b; omega
 | r :: a, b => by
  show (if r.2.2 < 0 then -r.2.2 else 0) + gain (a ++ b) = (if r.2.2 < 0 then -r.2.2 else 0) + gain a + gain b
  rw [gain_app a b]; omega
theorem pass_bound : ∀ (rs : List Ru) (row : List Int) (c : Int), 0 <= c -> (∀ v, fn row v <= c) -> ∀ v, fn (pass rs row) v <= c + gain rs
 | [], row, c, _,h, v => by have := h v; show fn row v <= c + 0; omega
 | r :: rs, row, c, hc, h, v => by
  have z := pass_bound rs (stepP row r) (c + (if r.2.2 < 0 then -r.2.2 else 0)) (by split <;> omega) (fun u => by
   have a := h u
   have b := h r.1.toNat
   have d := h r.2.1.toNat
   unfold stepP
   rw [fn_set]
   split
   . unfold mxI; split <;> split <;> omega
   . split <;> omega) v
  show fn (pass rs (stepP row r)) v <= c + ((if r.2.2 < 0 then -r.2.2 else 0) + gain rs)
  omega
theorem early_bound {rs : List Ru} {n : Nat} (hi : InR rs n) (hg : gain rs <= 990) {r : List Int} (hL : Least rs n (fn r)) (hfix : pass rs r = r) (hrl : r.length = n) : ∀ (t : Nat) (row : List Int) (c : Int), row.length = n -> earlyM rs t row = some r -> 0 <= c -> (∀ v, fn row v <= c) -> (∀ v, v < n -> 0 <= fn row v) ->
    ∀ v, fn r v <= c + 990 * ((n : Int) - (cnt n (sett (fn r) row) : Int))
 | 0, row, c, hl, h, _,_,_ => by cases h
 | t + 1, row, c, hl, h, hc, hb, h0 => by
  intro v
  have ep := (early_props hi (t + 1) row r hl h).2.2.1
  unfold earlyM at h
  by_cases e : pass rs row = row
  . rw [if_pos e] at h
    cases h
    have := hb v
    have := cnt_len (sett (fn r) r) n
    omega
  . rw [if_neg e] at h
    have hne : ∃ v, v < n /\ fn row v ≠ fn r v := by
     apply Classical.byContradiction
     intro hno
     have : row = r := eq_of_fn (by rw [hl, hrl]) fun v hv => Classical.byContradiction fun z => hno ⟨v, by omega, z⟩
     rw [this] at e
     exact e hfix
    have hc2 := settle_cnt hL hl hi h0 (fun v _ => ep v) hne
    have pb := pass_bound rs row c hc hb
    have z := early_bound hi hg hL hfix hrl t (pass rs row) (c + 990) (by rw [pass_len]; exact hl) h (by omega) (fun u => by have := pb u; omega) (fun u hu => Int.le_trans (h0 u hu) (pass_ge rs row u)) v
    omega
theorem bnd_mem {W : Wd} {x : Int} (h0 : 0 <= x) (h1 : x < (W.bs.length : Int)) : bnd W x ∈ W.bs := by
 unfold bnd
 rw [List.getD_eq_getElem?_getD, List.getElem?_eq_getElem (show x.toNat < W.bs.length by omega)]
 exact List.getElem_mem _
theorem mem_pre {W : Wd} {o : List Int} {r : Ru} : ∀ {i : Nat}, r ∈ rulesPre W o i -> ∃ j, j < i /\ r ∈ rule3 W j (o.getD j 0)
 | i, h => by
  unfold rulesPre at h
  obtain ⟨j, hj, hr⟩ := List.mem_flatMap.mp h
  exact ⟨j, List.mem_range.mp hj, hr⟩
theorem VO.getD {W : Wd} {o : List Int} (h : VO W o) {j : Nat} (hj : j < o.length) : 0 <= o.getD j 0 /\ o.getD j 0 < (began W j : Int) := by
 rw [List.getD_eq_getElem?_getD, List.getElem?_eq_getElem hj]
 exact h.at_ j _ (List.getElem?_eq_getElem hj)
theorem bg_le {W : Wd} {n : Nat} {x : Int} (hok : W.Ok) (h0 : 0 <= x) (h : x < (began W n : Int)) : 0 <= bg W x /\ bg W x <= n := by
 have b1 := hok.b1
 unfold bg
 unfold began at h
 split <;> omega
theorem inR {W : Wd} {o : List Int} (hok : W.Ok) (vo : VO W o) : InR (rulesM W o) (o.length + 1) := fun r hr => by
 unfold rulesM at hr
 rcases List.mem_append.mp hr with hr | hr
 . obtain ⟨j, hj, hr⟩ := mem_pre hr
   have g := vo.getD hj
   have b := bg_le hok g.1 g.2
   unfold rule3 at hr
   simp only [List.mem_cons, List.not_mem_nil, or_false] at hr
   rcases hr with rfl | rfl | rfl
   . dsimp only; omega
   . dsimp only; omega
   . dsimp only; omega
 . obtain ⟨x, hx, rfl⟩ := List.mem_map.mp hr
   obtain ⟨⟨x0, x1⟩, _⟩ := mem_run.mp hx
   have b := bg_le hok x0 x1
   unfold ruleR
   dsimp only
   omega
theorem gain_pre {W : Wd} {o : List Int} (hok : W.Ok) (vo : VO W o) : ∀ i, i <= o.length -> gain (rulesPre W o i) <= 99 * (i : Int)
 | 0, _ => Int.le_refl _
 | i + 1, hi => by
  have ih := gain_pre hok vo i (by omega)
  have g := vo.getD (j := i) (by omega)
  have l := began_le W i
  have m := hok.bd _ (bnd_mem g.1 (by omega : o.getD i 0 < (W.bs.length : Int)))
  rw [rulesPre_succ, gain_app]
  have e : gain (rule3 W i (o.getD i 0)) <= 99 := by
   unfold rule3
   simp only [gain]
   split <;> split <;> split <;> omega
  omega
theorem gain_run {W : Wd} (hok : W.Ok) (n : Nat) : ∀ xs : List Int, (∀ x ∈ xs, 0 <= x /\ x < (W.bs.length : Int)) -> gain (xs.map (ruleR W n)) = 0
 | [], _ => rfl
 | x :: xs, h => by
  have a := h x List.mem_cons_self
  have m := hok.bd _ (bnd_mem a.1 a.2)
  rw [List.map_cons, gain, gain_run hok n xs fun y hy => h y (List.mem_cons_of_mem _ hy)]
  unfold ruleR
  dsimp only
  split <;> omega
theorem gain_rules {W : Wd} {o : List Int} (hok : W.Ok) (vo : VO W o) : gain (rulesM W o) <= 990 := by
 have a := gain_pre hok vo o.length (Nat.le_refl _)
 have l := vo.len
 have l10 := hok.l10
 unfold rulesM
 rw [gain_app, gain_run hok _ _ fun x hx => by
  obtain ⟨⟨x0, x1⟩, _⟩ := mem_run.mp hx
  have := began_le W o.length
  omega]
 omega
theorem chain_rule {W : Wd} {o : List Int} {k : Nat} (h : k < o.length) : ((k : Int), (k : Int) + 1, (0 : Int)) ∈ rulesM W o := by
 unfold rulesM rulesPre
 refine List.mem_append_left _ (List.mem_flatMap.mpr ⟨k, List.mem_range.mpr h, ?_⟩)
 unfold rule3
 simp
theorem rises {W : Wd} {o : List Int} {f : Nat -> Int} (h : FeasF (rulesM W o) f) : ∀ v, v <= o.length -> f 0 <= f v
 | 0, _ => Int.le_refl _
 | v + 1, hv => by
  have a := rises h v (by omega)
  have b := h _ (chain_rule (k := v) (by omega))
  dsimp only at b
  rw [Int.toNat_natCast, show ((v : Int) + 1).toNat = v + 1 by omega] at b
  omega
def zrow (n : Nat) : List Int := List.replicate n 0
theorem fn_zrow (n v : Nat) : fn (zrow n) v = 0 := by
 unfold fn zrow
 rw [List.getD_eq_getElem?_getD, List.getElem?_replicate]
 split <;> rfl
theorem zrow_len (n : Nat) : (zrow n).length = n := List.length_replicate ..
def early (W : Wd) (o : List Int) : Option (List Int) := earlyM (rulesM W o) (o.length + 2) (zrow (o.length + 1))
structure IsEarly (W : Wd) (o : List Int) (r : List Int) : Prop where
 len : r.length = o.length + 1
 fe : FeasF (rulesM W o) (fn r)
 nn : ∀ v, 0 <= fn r v
 z : fn r 0 = 0
 le : ∀ f, FeasF (rulesM W o) f -> NN (o.length + 1) f -> ∀ v, v < o.length + 1 -> fn r v <= f v
 top : ∀ v, fn r v <= 9900
theorem early_some {W : Wd} {o r : List Int} (hok : W.Ok) (vo : VO W o) (h : early W o = some r) : IsEarly W o r := by
 have hi := inR hok vo
 unfold early at h
 obtain ⟨a, b, c, d⟩ := early_props hi _ _ r (zrow_len _) h
 have fe : FeasF (rulesM W o) (fn r) := fix_feas (by rw [a]; exact hi) b
 have nn : ∀ v, 0 <= fn r v := fun v => by have := c v; rw [fn_zrow] at this; exact this
 have le : ∀ f, FeasF (rulesM W o) f -> NN (o.length + 1) f -> ∀ v, v < o.length + 1 -> fn r v <= f v := fun f hf hn => d f hf fun v hv => by rw [fn_zrow]; exact hn v hv
 have z : fn r 0 = 0 := by
  have x := le (fun v => fn r v - fn r 0) (fun q hq => by have := fe q hq; dsimp only; omega) (fun v hv => by have := rises fe v (by omega); dsimp only; omega) 0 (by omega)
  have := nn 0
  omega
 refine ⟨a, fe, nn, z, le, fun v => ?_⟩
 have hL : Least (rulesM W o) (o.length + 1) (fn r) := ⟨fe, fun v _ => nn v, fun M hM hN => ssum_le _ (le M hM hN)⟩
 have t := early_bound hi (gain_rules hok vo) hL b a _ _ 0 (zrow_len _) h (Int.le_refl _) (fun v => by rw [fn_zrow]; exact Int.le_refl _) (fun v _ => by rw [fn_zrow]; exact Int.le_refl _) v
 have c1 : 1 <= cnt (o.length + 1) (sett (fn r) (zrow (o.length + 1))) := by
  have := cnt_lt (p := fun _ => false) (q := sett (fn r) (zrow (o.length + 1))) (o.length + 1) (fun _ _ z => by cases z) ⟨0, by omega, rfl,decide_eq_true (by rw [fn_zrow, z])⟩
  omega
 have l := vo.len
 have l10 := hok.l10
 omega
theorem early_none {W : Wd} {o : List Int} (hok : W.Ok) (vo : VO W o) {f : Nat -> Int} (hf : FeasF (rulesM W o) f) (hn : NN (o.length + 1) f) : ∃ r, early W o = some r := by
 obtain ⟨L, hL⟩ := exists_least (rulesM W o) (o.length + 1) _ f hf hn (Nat.le_refl _)
 exact conv hL (inR hok vo) _ _ (zrow_len _) (fun v _ => by rw [fn_zrow]; exact Int.le_refl _) (fun v hv => by rw [fn_zrow]; exact hL.nn v hv) (by omega)
end Be
set_option Elab.async false
set_option linter.all false
namespace Be
abbrev OI := Option Int
abbrev SW := List OI × List OI
def ge (l : List OI) (v : Nat) : OI := l.getD v none
def less : OI -> Int -> Bool
 | none, _ => true
 | some z, y => decide (y < z)
def stepW (s : SW) (k : Nat) (r : Ru) : SW := match ge s.1 r.1.toNat with
 | none => s
 | some y => if less (ge s.1 r.2.1.toNat) (y + r.2.2) = true then (s.1.set r.2.1.toNat (some (y + r.2.2)), s.2.set r.2.1.toNat (some (k : Int))) else s
def pw (rs : List Ru) : Nat -> SW -> SW
 | 0, s => s
 | j + 1, s => stepW (pw rs j s) j (rs.getD j (0, 0, 0))
def rnd (rs : List Ru) : Nat -> SW -> SW
 | 0, s => s
 | k + 1, s => pw rs rs.length (rnd rs k s)
def initW (n goal : Nat) : SW := ((List.replicate n none).set goal (some 0), List.replicate n none)
theorem ge_set (l : List OI) (k i : Nat) (v : OI) : ge (l.set k v) i = if i = k /\ k < l.length then v else ge l i := by
 unfold ge
 rw [List.getD_eq_getElem?_getD, List.getD_eq_getElem?_getD, List.getElem?_set]
 by_cases h : k = i
 . subst h
   by_cases hl : k < l.length
   . rw [if_pos rfl,if_pos hl, if_pos ⟨rfl,hl⟩]; rfl
   . rw [if_pos rfl,if_neg hl, if_neg (fun z => hl z.2), List.getElem?_eq_none (by omega)]
 . rw [if_neg h, if_neg (fun z => h z.1.symm)]
theorem stepW_len (s : SW) (k : Nat) (r : Ru) : (stepW s k r).1.length = s.1.length /\ (stepW s k r).2.length = s.2.length := by
 unfold stepW
 split
 . exact ⟨rfl,rfl⟩
 . split
   . exact ⟨List.length_set .., List.length_set ..⟩
   . exact ⟨rfl,rfl⟩
theorem pw_len (rs : List Ru) (s : SW) : ∀ j, (pw rs j s).1.length = s.1.length /\ (pw rs j s).2.length = s.2.length
 | 0 => ⟨rfl,rfl⟩
 | j + 1 => by
  have a := pw_len rs s j
  have b := stepW_len (pw rs j s) j (rs.getD j (0, 0, 0))
  exact ⟨b.1.trans a.1, b.2.trans a.2⟩
theorem rnd_len (rs : List Ru) (s : SW) : ∀ k, (rnd rs k s).1.length = s.1.length /\ (rnd rs k s).2.length = s.2.length
 | 0 => ⟨rfl,rfl⟩
 | k + 1 => by
  have a := rnd_len rs s k
  have b := pw_len rs (rnd rs k s) rs.length
  exact ⟨b.1.trans a.1, b.2.trans a.2⟩
theorem init_len (n goal : Nat) : (initW n goal).1.length = n /\ (initW n goal).2.length = n := by
 unfold initW
 exact ⟨by rw [List.length_set, List.length_replicate], List.length_replicate ..⟩
theorem getD_mem {rs : List Ru} {j : Nat} (h : j < rs.length) : rs.getD j (0, 0, 0) ∈ rs := by
 rw [List.getD_eq_getElem?_getD, List.getElem?_eq_getElem h]
 exact List.getElem_mem h
theorem stepW_dec {s : SW} {k : Nat} {r : Ru} {v : Nat} {y : Int} (h : ge s.1 v = some y) : ∃ y', y' <= y /\ ge (stepW s k r).1 v = some y' := by
 unfold stepW
 split
 . exact ⟨y, Int.le_refl _,h⟩
 . rename_i y1 _
   split
   . rename_i hl
     by_cases e : v = r.2.1.toNat /\ r.2.1.toNat < s.1.length
     . refine ⟨y1 + r.2.2, ?_,by rw [ge_set, if_pos e]⟩
       rw [<- e.1, h] at hl
       have := of_decide_eq_true (show decide (y1 + r.2.2 < y) = true from hl)
       omega
     . exact ⟨y, Int.le_refl _,by rw [ge_set, if_neg e]; exact h⟩
   . exact ⟨y, Int.le_refl _,h⟩
theorem pw_dec {rs : List Ru} {s : SW} {v : Nat} : ∀ {y : Int} (j : Nat), ge s.1 v = some y -> ∃ y', y' <= y /\ ge (pw rs j s).1 v = some y'
 | y, 0, h => ⟨y, Int.le_refl _,h⟩
 | y, j + 1, h => by
  obtain ⟨y1, l1, h1⟩ := pw_dec (rs := rs) j h
  obtain ⟨y2, l2, h2⟩ := stepW_dec (k := j) (r := rs.getD j (0, 0, 0)) h1
  exact ⟨y2, Int.le_trans l2 l1, h2⟩
theorem stepW_hit {s : SW} {k : Nat} {r : Ru} {y : Int} (h : ge s.1 r.1.toNat = some y) (hl : r.2.1.toNat < s.1.length) : ∃ y', y' <= y + r.2.2 /\ ge (stepW s k r).1 r.2.1.toNat = some y' := by
 unfold stepW
 rw [h]
 dsimp only
 split
 . exact ⟨y + r.2.2, Int.le_refl _,by rw [ge_set, if_pos ⟨rfl,hl⟩]⟩
 . rename_i hn
   cases e : ge s.1 r.2.1.toNat with
   | none => rw [e] at hn; exact absurd rfl hn
   | some z =>
    rw [e] at hn
    refine ⟨z, ?_,rfl⟩
    have : ¬ (y + r.2.2 < z) := fun q => hn (decide_eq_true q)
    omega
def Low (f : Nat -> Int) (goal : Nat) (l : List OI) : Prop := ∀ v y, ge l v = some y -> f goal - f v <= y
theorem stepW_low {f : Nat -> Int} {goal : Nat} {s : SW} {k : Nat} {r : Ru} (hf : f r.1.toNat - f r.2.1.toNat <= r.2.2) (h : Low f goal s.1) : Low f goal (stepW s k r).1 := by
 unfold stepW
 split
 . exact h
 . rename_i y1 h1
   split
   . intro v y hy
     rw [ge_set] at hy
     by_cases e : v = r.2.1.toNat /\ r.2.1.toNat < s.1.length
     . rw [if_pos e] at hy
       cases hy
       have := h _ _ h1
       rw [e.1]
       omega
     . rw [if_neg e] at hy
       exact h v y hy
   . exact h
theorem pw_low {f : Nat -> Int} {goal : Nat} {rs : List Ru} (hf : FeasF rs f) {s : SW} (h : Low f goal s.1) : ∀ j, j <= rs.length -> Low f goal (pw rs j s).1
 | 0, _ => h
 | j + 1, hj => stepW_low (hf _ (getD_mem (by omega))) (pw_low hf h j (by omega))
theorem rnd_low {f : Nat -> Int} {goal : Nat} {rs : List Ru} (hf : FeasF rs f) {s : SW} (h : Low f goal s.1) : ∀ k, Low f goal (rnd rs k s).1
 | 0 => h
 | k + 1 => pw_low hf (rnd_low hf h k) _ (Nat.le_refl _)
theorem init_low (f : Nat -> Int) (n goal : Nat) : Low f goal (initW n goal).1 := fun v y h => by
 unfold initW at h
 dsimp only at h
 rw [ge_set] at h
 split at h
 . rename_i e
   cases h
   rw [e.1]
   omega
 . unfold ge at h
   rw [List.getD_eq_getElem?_getD, List.getElem?_replicate] at h
   split at h <;> cases h
theorem rule_chain {W : Wd} {o : List Int} : ∀ {i k : Nat}, k < i -> i <= o.length -> (rulesPre W o i).getD (3 * k + 2) (0, 0, 0) = ((k : Int), (k : Int) + 1, 0)
 | 0, k, h, _ => by omega
 | i + 1, k, h, hi => by
  rw [rulesPre_succ, List.getD_eq_getElem?_getD]
  by_cases e : k < i
  . rw [List.getElem?_append_left (by rw [rulesPre_len]; omega), <- List.getD_eq_getElem?_getD]
    exact rule_chain e (by omega)
  . have : k = i := by omega
    subst this
    rw [List.getElem?_append_right (by rw [rulesPre_len]; omega), rulesPre_len, show 3 * k + 2 - 3 * k = 2 by omega]
    rfl
theorem rule_chain' {W : Wd} {o : List Int} {k : Nat} (h : k < o.length) : (rulesM W o).getD (3 * k + 2) (0, 0, 0) = ((k : Int), (k : Int) + 1, 0) := by
 unfold rulesM
 rw [List.getD_eq_getElem?_getD, List.getElem?_append_left (by rw [rulesPre_len]; omega), <- List.getD_eq_getElem?_getD]
 exact rule_chain h (Nat.le_refl _)
theorem first_round {W : Wd} {o : List Int} {s : SW} (hl : s.1.length = o.length + 1) (h0 : ∃ y, y <= 0 /\ ge s.1 0 = some y) : ∀ j v, 3 * v <= j -> v <= o.length -> ∃ y, y <= 0 /\ ge (pw (rulesM W o) j s).1 v = some y
 | 0, v, h, _ => by
  have : v = 0 := by omega
  subst this
  exact h0
 | j + 1, v, h, hv => by
  by_cases e : 3 * v <= j
  . obtain ⟨y, l, g⟩ := first_round hl h0 j v e hv
    obtain ⟨y', l', g'⟩ := stepW_dec (k := j) (r := (rulesM W o).getD j (0, 0, 0)) g
    exact ⟨y', by omega, g'⟩
  . obtain ⟨u, rfl⟩ : ∃ u, v = u + 1 := ⟨v - 1, by omega⟩
    have ej : j = 3 * u + 2 := by omega
    obtain ⟨y, l, g⟩ := first_round (W := W) hl h0 j u (by omega) (by omega)
    have hr := rule_chain' (W := W) (o := o) (k := u) (by omega)
    show ∃ y, y <= 0 /\ ge (stepW (pw (rulesM W o) j s) j ((rulesM W o).getD j (0, 0, 0))).1 (u + 1) = some y
    have hr' : (rulesM W o).getD j (0, 0, 0) = ((u : Int), (u : Int) + 1, 0) := by rw [ej]; exact hr
    rw [hr']
    obtain ⟨y', l', g'⟩ := stepW_hit (s := pw (rulesM W o) j s) (k := j) (r := ((u : Int), (u : Int) + 1, 0)) (y := y) (by show ge _ ((u : Int)).toNat = _; rw [Int.toNat_natCast]; exact g) (by show ((u : Int) + 1).toNat < _; rw [(pw_len _ _ _).1, hl]; omega)
    refine ⟨y', by dsimp only at l'; omega, ?_⟩
    have : ((u : Int) + 1).toNat = u + 1 := by omega
    dsimp only at g'
    rw [this] at g'
    exact g'
def Rel (n : Nat) (l : List OI) (row : List Int) : Prop := ∀ v, v < n -> ∃ y, ge l v = some y /\ fn row v <= -y
theorem rel_step {n : Nat} {s : SW} {row : List Int} {k : Nat} {r : Ru} (hs : s.1.length = n) (hr : row.length = n) (h1 : r.1.toNat < n) (h2 : r.2.1.toNat < n) (h : Rel n s.1 row) : Rel n (stepW s k r).1 (stepP row r) := fun v hv => by
 obtain ⟨y, hy, ly⟩ := h v hv
 unfold stepP
 rw [fn_set]
 by_cases e : v = r.2.1.toNat /\ r.2.1.toNat < row.length
 . rw [if_pos e]
   obtain ⟨y1, hy1, ly1⟩ := h r.1.toNat h1
   obtain ⟨y2, l2, g2⟩ := stepW_hit (k := k) hy1 (by omega)
   obtain ⟨y3, l3, g3⟩ := stepW_dec (k := k) (r := r) hy
   rw [e.1] at g3
   rw [g2] at g3
   cases g3
   refine ⟨y2, by rw [e.1]; exact g2, ?_⟩
   rw [<- e.1]
   unfold mxI
   split <;> omega
 . rw [if_neg e]
   obtain ⟨y3, l3, g3⟩ := stepW_dec (k := k) (r := r) hy
   exact ⟨y3, g3, by omega⟩
theorem pass_snoc {rs : List Ru} {row : List Int} {j : Nat} (h : j < rs.length) : pass (rs.take (j + 1)) row = stepP (pass (rs.take j) row) (rs.getD j (0, 0, 0)) := by
 unfold pass
 rw [List.take_add_one, List.getElem?_eq_getElem h, List.foldl_append, List.getD_eq_getElem?_getD, List.getElem?_eq_getElem h]
 rfl
theorem rel_pw {n : Nat} {rs : List Ru} (hi : InR rs n) {s : SW} {row : List Int} (hs : s.1.length = n) (hr : row.length = n) (h : Rel n s.1 row) : ∀ j, j <= rs.length -> Rel n (pw rs j s).1 (pass (rs.take j) row)
 | 0, _ => h
 | j + 1, hj => by
  have ih := rel_pw hi hs hr h j (by omega)
  have ir := hi _ (getD_mem (rs := rs) (j := j) (by omega))
  rw [pass_snoc (by omega)]
  exact rel_step (by rw [(pw_len _ _ _).1]; exact hs) (by rw [pass_len]; exact hr) (by omega) (by omega) ih
def passK (rs : List Ru) : Nat -> List Int -> List Int
 | 0, row => row
 | k + 1, row => pass rs (passK rs k row)
theorem passK_len (rs : List Ru) (row : List Int) : ∀ k, (passK rs k row).length = row.length
 | 0 => rfl
 | k + 1 => by show (pass rs _).length = _; rw [pass_len, passK_len rs row k]
theorem rel_rnd {n : Nat} {rs : List Ru} (hi : InR rs n) {s : SW} {row : List Int} (hs : s.1.length = n) (hr : row.length = n) (h : Rel n s.1 row) : ∀ k, Rel n (rnd rs k s).1 (passK rs k row)
 | 0 => h
 | k + 1 => by
  have ih := rel_rnd hi hs hr h k
  have z := rel_pw hi (by rw [(rnd_len rs s k).1]; exact hs) (by rw [passK_len]; exact hr) ih rs.length (Nat.le_refl _)
  rw [List.take_length] at z
  exact z
def walks0 (W : Wd) (o : List Int) : SW := rnd (rulesM W o) (o.length + 1) (initW (o.length + 1) 0)
theorem walks0_rel {W : Wd} {o : List Int} (hok : W.Ok) (vo : VO W o) : Rel (o.length + 1) (walks0 W o).1 (passK (rulesM W o) o.length (zrow (o.length + 1))) := by
 have i1 := (init_len (o.length + 1) 0).1
 have f : Rel (o.length + 1) (rnd (rulesM W o) 1 (initW (o.length + 1) 0)).1 (zrow (o.length + 1)) := fun v hv => by
  obtain ⟨y, l, g⟩ := first_round (W := W) (o := o) (s := initW (o.length + 1) 0) i1 ⟨0, Int.le_refl _,by
   unfold initW
   dsimp only
   rw [ge_set, if_pos ⟨rfl,by rw [List.length_replicate]; omega⟩]⟩ (rulesM W o).length v (by
    unfold rulesM
    rw [List.length_append, rulesPre_len]
    omega) (by omega)
  exact ⟨y, g, by rw [fn_zrow]; omega⟩
 have l1 : (rnd (rulesM W o) 1 (initW (o.length + 1) 0)).1.length = o.length + 1 := by rw [(rnd_len _ _ _).1]; exact i1
 have z := rel_rnd (inR hok vo) l1 (zrow_len _) f o.length
 have e : ∀ (s : SW) (k : Nat), rnd (rulesM W o) k (rnd (rulesM W o) 1 s) = rnd (rulesM W o) (k + 1) s := fun s k => by
  induction k with
  | zero => rfl
  | succ k ih => show pw _ _ (rnd _ k (rnd _ 1 s)) = pw _ _ (rnd _ (k + 1) s); rw [ih]
 rw [e] at z
 exact z
def eM (W : Wd) (o : List Int) : List Int := (walks0 W o).1.map fun x => -(x.getD 0)
theorem walks0_len (W : Wd) (o : List Int) : (walks0 W o).1.length = o.length + 1 := by
 unfold walks0
 rw [(rnd_len _ _ _).1]
 exact (init_len _ _).1
theorem eM_len (W : Wd) (o : List Int) : (eM W o).length = o.length + 1 := by
 unfold eM
 rw [List.length_map, walks0_len]
theorem fn_eM {W : Wd} {o : List Int} {v : Nat} (hv : v < o.length + 1) {y : Int} (h : ge (walks0 W o).1 v = some y) : fn (eM W o) v = -y := by
 unfold fn eM
 unfold ge at h
 have hl : v < (walks0 W o).1.length := by rw [walks0_len]; exact hv
 rw [List.getD_eq_getElem?_getD, List.getElem?_eq_getElem hl] at h
 rw [List.getD_eq_getElem?_getD, List.getElem?_map, List.getElem?_eq_getElem hl]
 have h' : (walks0 W o).1[v] = some y := h
 show -((walks0 W o).1[v].getD 0) = -y
 rw [h']
 rfl
theorem eM_none {W : Wd} {o : List Int} (hok : W.Ok) (vo : VO W o) (h : early W o = none) : ¬ FeasF (rulesM W o) (fn (eM W o)) := fun hf => by
 have g : FeasF (rulesM W o) (fun v => fn (eM W o) v - fn (eM W o) 0) := fun r hr => by have := hf r hr; dsimp only; omega
 obtain ⟨r, hr⟩ := early_none hok vo g fun v hv => by have := rises hf v (by omega); omega
 rw [h] at hr
 cases hr
end Be
set_option Elab.async false
set_option linter.all false
namespace Be
theorem rises2 {W : Wd} {o : List Int} {f : Nat -> Int} (h : FeasF (rulesM W o) f) {k : Nat} : ∀ v, k <= v -> v <= o.length -> f k <= f v
 | 0, hk, _ => by rw [show k = 0 by omega]; exact Int.le_refl _
 | v + 1, hk, hv => by
  by_cases e : k = v + 1
  . rw [e]; exact Int.le_refl _
  . have a := rises2 h (k := k) v (by omega) (by omega)
    have b := h _ (chain_rule (k := v) (by omega))
    dsimp only at b
    rw [Int.toNat_natCast, show ((v : Int) + 1).toNat = v + 1 by omega] at b
    omega
theorem mem_rule3 {W : Wd} {o : List Int} {j : Nat} (h : j < o.length) {r : Ru} (hr : r ∈ rule3 W j (o.getD j 0)) : r ∈ rulesM W o := by
 unfold rulesM rulesPre
 exact List.mem_append_left _ (List.mem_flatMap.mpr ⟨j, List.mem_range.mpr h, hr⟩)
theorem mem_ruleR {W : Wd} {o : List Int} {y : Int} (h : y ∈ runM W o) : ruleR W o.length y ∈ rulesM W o := List.mem_append_right _ (List.mem_map_of_mem h)
theorem began_mono (W : Wd) (hok : W.Ok) {i j : Nat} (h : i <= j) : began W i <= began W j := by unfold began; omega
theorem bnd_ok {W : Wd} (hok : W.Ok) {x : Int} (h0 : 0 <= x) (h1 : x < (W.bs.length : Int)) : 1 <= (bnd W x).1 /\ (bnd W x).1 <= (bnd W x).2 /\ (bnd W x).2 <= 99 := hok.bd _ (bnd_mem h0 h1)
theorem VO.take {W : Wd} {o : List Int} (vo : VO W o) (k : Nat) : VO W (o.take k) := ⟨vo.nd.sublist (List.take_sublist k o), fun i x e => by
 have hi : i < (o.take k).length := (List.getElem?_eq_some_iff.mp e).1
 rw [List.length_take] at hi
 rw [List.getElem?_take_of_lt (by omega)] at e
 exact vo.at_ i x e⟩
theorem early_take {W : Wd} {o r : List Int} (hok : W.Ok) (vo : VO W o) (h : early W o = some r) (k : Nat) (hk : k <= o.length) : ∃ r', early W (o.take k) = some r' := by
 have E := early_some hok vo h
 have tl : (o.take k).length = k := by rw [List.length_take]; omega
 refine early_none hok (vo.take k) (f := fn r) (fun q hq => ?_) (fun v _ => E.nn v)
 unfold rulesM at hq
 rcases List.mem_append.mp hq with hq | hq
 . obtain ⟨j, hj, hq⟩ := mem_pre hq
   rw [tl] at hj
   have e : (o.take k).getD j 0 = o.getD j 0 := by
    rw [List.getD_eq_getElem?_getD, List.getD_eq_getElem?_getD, List.getElem?_take_of_lt hj]
   rw [e] at hq
   exact E.fe q (mem_rule3 (by omega) hq)
 . obtain ⟨y, hy, rfl⟩ := List.mem_map.mp hq
   obtain ⟨⟨y0, y1⟩, yn⟩ := mem_run.mp hy
   rw [tl] at y1
   unfold ruleR
   dsimp only
   rw [tl, Int.toNat_natCast]
   by_cases hm : y ∈ o
   . obtain ⟨j, hj, ej⟩ := List.getElem_of_mem hm
     have jk : k <= j := by
      apply Classical.byContradiction
      intro z
      exact yn (by rw [<- ej]; exact List.mem_take_iff_getElem.mpr ⟨j, by omega, rfl⟩)
     have ed : o.getD j 0 = y := by rw [List.getD_eq_getElem?_getD, List.getElem?_eq_getElem hj]; exact ej
     have a := E.fe ((j : Int) + 1, bg W y, (bnd W y).2) (mem_rule3 hj (by rw [ed]; unfold rule3; simp))
     dsimp only at a
     rw [show ((j : Int) + 1).toNat = j + 1 by omega] at a
     have b := rises2 E.fe (k := k) (j + 1) (by omega) (by omega)
     omega
   . have a := E.fe _ (mem_ruleR (W := W) (o := o) (y := y) (mem_run.mpr ⟨⟨y0, by have := began_mono W hok hk; omega⟩, hm⟩))
     unfold ruleR at a
     dsimp only at a
     rw [Int.toNat_natCast] at a
     have b := rises2 E.fe (k := k) o.length hk (Nat.le_refl _)
     omega
end Be
set_option Elab.async false
set_option linter.all false
namespace Be
theorem nxt_ge {f : List Int} {x : Int} (hx : 0 <= x) (hne : f ≠ []) : ∀ y ∈ nxt f x, mn f <= y := fun y hy => by
 unfold nxt at hy
 rcases List.mem_or_eq_of_mem_set hy with h | h
 . exact mn_le h
 . omega
theorem mn_nxt {f : List Int} {x : Int} (hx : 0 <= x) (hne : f ≠ []) : mn f <= mn (nxt f x) := nxt_ge hx hne _ (mn_mem (nxt_ne hne))
theorem fr_ge : ∀ {ls f : List Int}, (∀ x ∈ ls, 0 <= x) -> f ≠ [] -> ∀ y ∈ fr f ls, mn f <= y
 | [], f, _,_,y, hy => mn_le hy
 | x :: ls, f, h, hne, y, hy => by
  have a := fr_ge (ls := ls) (f := nxt f x) (fun z hz => h z (by simp [hz])) (nxt_ne hne) y hy
  have b := mn_nxt (h x (by simp)) hne
  omega
theorem bg_ge : ∀ {ls f : List Int}, (∀ x ∈ ls, 0 <= x) -> f ≠ [] -> ∀ y ∈ (tk f ls).map (fun t => t.2.1), mn f <= y
 | [], f, _,_,y, hy => by simp [tk] at hy
 | x :: ls, f, h, hne, y, hy => by
  rcases List.mem_cons.mp (show y ∈ mn f :: (tk (nxt f x) ls).map (fun t => t.2.1) from hy) with e | hy
  . omega
  have a := bg_ge (ls := ls) (f := nxt f x) (fun z hz => h z (by simp [hz])) (nxt_ne hne) y hy
  have b := mn_nxt (h x (by simp)) hne
  omega
theorem bg_rise : ∀ {ls f : List Int}, (∀ x ∈ ls, 0 <= x) -> f ≠ [] -> ((tk f ls).map (fun t => t.2.1)).Pairwise (· <= ·) /\ ∀ a ∈ (tk f ls).map (fun t => t.2.1), ∀ y ∈ fr f ls, a <= y
 | [], f, _,_ => ⟨by simp [tk], by simp [tk]⟩
 | x :: ls, f, h, hne => by
  have h' : ∀ z ∈ ls, 0 <= z := fun z hz => h z (by simp [hz])
  obtain ⟨p, q⟩ := bg_rise (ls := ls) (f := nxt f x) h' (nxt_ne hne)
  have b := mn_nxt (h x (by simp)) hne
  refine ⟨?_,fun a ha y hy => ?_⟩
  . show (mn f :: (tk (nxt f x) ls).map (fun t => t.2.1)).Pairwise (· <= ·)
    rw [List.pairwise_cons]
    exact ⟨fun y hy => by have := bg_ge h' (nxt_ne hne) y hy; omega, p⟩
  . rcases List.mem_cons.mp (show a ∈ mn f :: (tk (nxt f x) ls).map (fun t => t.2.1) from ha) with e | ha
    . have := fr_ge h' (nxt_ne hne) y hy
      omega
    . exact q a ha y hy
theorem bg_perm : ∀ {ls f : List Int}, f ≠ [] -> ((tk f ls).map (fun t => t.2.1) ++ fr f ls).Perm (f ++ (tk f ls).map (fun t => t.2.2))
 | [], f, _ => by show ([] ++ f).Perm (f ++ []); rw [List.append_nil]; exact List.Perm.refl _
 | x :: ls, f, hne => by
  have ih := bg_perm (ls := ls) (f := nxt f x) (nxt_ne hne)
  obtain ⟨r, p1, p2⟩ := set_perm (v := mn f + x) (pl_get hne)
  show (mn f :: ((tk (nxt f x) ls).map (fun t => t.2.1) ++ fr (nxt f x) ls)).Perm (f ++ (mn f + x) :: (tk (nxt f x) ls).map (fun t => t.2.2))
  refine (ih.cons (mn f)).trans ?_
  refine (((show (nxt f x).Perm ((mn f + x) :: r) from p2).append_right _).cons (mn f)).trans ?_
  refine List.Perm.trans ?_ (p1.symm.append_right _)
  show (mn f :: (mn f + x) :: (r ++ (tk (nxt f x) ls).map (fun t => t.2.2))).Perm (mn f :: (r ++ (mn f + x) :: (tk (nxt f x) ls).map (fun t => t.2.2)))
  exact (List.perm_middle.symm).cons _
theorem sorted_pre {A F C : List Int} (p : (A ++ F).Perm C) (hA : A.Pairwise (· <= ·)) (hC : C.Pairwise (· <= ·)) (h : ∀ a ∈ A, ∀ y ∈ F, a <= y) : C.take A.length = A := by
 have hs : (F.mergeSort fun a b => decide (a <= b)).Pairwise (· <= ·) := (List.pairwise_mergeSort (le := fun a b : Int => decide (a <= b)) (fun a b c h1 h2 => by simp at h1 h2 ⊢; omega) (fun a b => by simp; omega) F).imp fun h => by simpa using h
 have pm := List.mergeSort_perm F fun a b => decide (a <= b)
 have e : C = A ++ F.mergeSort fun a b => decide (a <= b) := by
  refine sorted_one (p.symm.trans ((pm.symm).append_left A)) hC ?_
  rw [List.pairwise_append]
  exact ⟨hA, hs, fun a ha y hy => h a ha y (pm.mem_iff.mp hy)⟩
 rw [e, List.take_left]
theorem bg_sorted {b : Nat} {ls S : List Int} (hb : 0 < b) (hl : ∀ x ∈ ls, 1 <= x) (pS : S.Perm (ens b ls)) (so : S.Pairwise (· <= ·)) : bgs b ls = (zf b ++ S).take ls.length := by
 have h0 : ∀ x ∈ ls, 0 <= x := fun x hx => by have := hl x hx; omega
 obtain ⟨r1, r2⟩ := bg_rise h0 (zf_ne hb)
 have S0 : ∀ y ∈ S, 0 <= y := fun y hy => by
  obtain ⟨t, ht, rfl⟩ := List.mem_map.mp (pS.mem_iff.mp hy)
  have := bg_perm (ls := ls) (zf_ne hb)
  have m : t.2.2 ∈ (tk (zf b) ls).map (fun t => t.2.1) ++ fr (zf b) ls := this.mem_iff.mpr (List.mem_append_right _ (List.mem_map_of_mem ht))
  have z0 : mn (zf b) = 0 := by have := (zf_bd b _ (mn_mem (zf_ne hb))); omega
  rcases List.mem_append.mp m with m | m
  . have := bg_ge h0 (zf_ne hb) _ m; omega
  . have := fr_ge h0 (zf_ne hb) _ m; omega
 have e := sorted_pre (A := (tk (zf b) ls).map (fun t => t.2.1)) (F := fr (zf b) ls) (C := zf b ++ S) ((bg_perm (zf_ne hb)).trans (pS.symm.append_left _)) r1 (by
  rw [List.pairwise_append]
  refine ⟨?_,so, fun a ha y hy => by have := zf_bd b a ha; have := S0 y hy; omega⟩
  exact List.pairwise_replicate.mpr (.inr (Int.le_refl _))) r2
 rw [List.length_map, tk_len] at e
 exact e.symm
theorem en_at : ∀ {ls f : List Int} {k : Nat}, k < ls.length -> ((tk f ls).map (fun t => t.2.2)).getD k 0 = ((tk f ls).map (fun t => t.2.1)).getD k 0 + ls.getD k 0
 | x :: ls, f, 0, _ => rfl
 | x :: ls, f, k + 1, h => en_at (ls := ls) (f := nxt f x) (k := k) (by simp at h; omega)
def pairsE (b : Nat) (ls : List Int) : List (Int × Int) := (List.range ls.length).map fun (k : Nat) => ((ens b ls).getD k 0, (k : Int))
structure Played (W : Wd) (ls : List Int) (ps : List (Int × Int)) : Prop where
 len : ls.length = W.bs.length
 bd : ∀ k, k < ls.length -> (bnd W (k : Int)).1 <= ls.getD k 0 /\ ls.getD k 0 <= (bnd W (k : Int)).2
 pm : ps.Perm (pairsE W.b.toNat ls)
 so : ps.Pairwise fun p q => p.1 <= q.1
section
variable {W : Wd} {ls : List Int} {ps : List (Int × Int)}
theorem pE_fst (b : Nat) (ls : List Int) : (pairsE b ls).map (fun p => p.1) = ens b ls := by
 unfold pairsE
 rw [List.map_map]
 apply List.ext_getElem?
 intro i
 rw [List.getElem?_map]
 by_cases h : i < ls.length
 . rw [List.getElem?_range h, List.getElem?_eq_getElem (by rw [ens_len]; exact h)]
   show some ((ens b ls).getD i 0) = _
   rw [List.getD_eq_getElem?_getD, List.getElem?_eq_getElem (by rw [ens_len]; exact h)]
   rfl
 . rw [List.getElem?_eq_none (by rw [List.length_range]; omega), List.getElem?_eq_none (by rw [ens_len]; omega)]
   rfl
theorem Played.plen (h : Played W ls ps) : ps.length = W.bs.length := by
 rw [h.pm.length_eq, <- h.len]; unfold pairsE; rw [List.length_map, List.length_range]
theorem Played.pos (h : Played W ls ps) (hok : W.Ok) : ∀ x ∈ ls, 1 <= x := fun x hx => by
 obtain ⟨k, hk, e⟩ := List.getElem_of_mem hx
 have a := h.bd k hk
 have b := bnd_ok hok (x := (k : Int)) (by omega) (by rw [<- h.len]; omega)
 rw [List.getD_eq_getElem?_getD, List.getElem?_eq_getElem hk] at a
 have e2 : (some ls[k]).getD 0 = ls[k] := rfl
 rw [e2, e] at a
 omega
theorem Played.S (h : Played W ls ps) : (ps.map (fun p => p.1)).Perm (ens W.b.toNat ls) := by
 have := h.pm.map (fun p => p.1)
 rw [pE_fst] at this
 exact this
theorem Played.rise (h : Played W ls ps) : (ps.map (fun p => p.1)).Pairwise (· <= ·) := by rw [List.pairwise_map]; exact h.so
theorem Played.at (h : Played W ls ps) {j : Nat} {p : Int × Int} (e : ps[j]? = some p) : 0 <= p.2 /\ p.2 < (W.bs.length : Int) /\ p.1 = (ens W.b.toNat ls).getD p.2.toNat 0 := by
 obtain ⟨k, hk, rfl⟩ := List.mem_map.mp (h.pm.mem_iff.mp (List.mem_of_getElem? e))
 have := List.mem_range.mp hk
 rw [h.len] at this
 exact ⟨Int.natCast_nonneg _,by omega, rfl⟩
def evs (ps : List (Int × Int)) : List Int := 0 :: ps.map (fun p => p.1)
theorem Played.begin (h : Played W ls ps) (hok : W.Ok) {x : Nat} (hx : x < ls.length) : (bgs W.b.toNat ls).getD x 0 = fn (evs ps) (bg W (x : Int)).toNat := by
 have b1 := hok.b1
 rw [bg_sorted (by omega) (h.pos hok) h.S h.rise]
 unfold fn evs bg
 rw [List.getD_eq_getElem?_getD, List.getElem?_take_of_lt hx]
 by_cases c : (x : Int) < W.b
 . rw [if_pos c, List.getElem?_append_left (by rw [zf_len]; omega)]
   show ((List.replicate W.b.toNat (0 : Int))[x]?).getD 0 = 0
   rw [List.getElem?_replicate, if_pos (by omega)]; rfl
 . rw [if_neg c, List.getElem?_append_right (by rw [zf_len]; omega), zf_len]
   have e : ((x : Int) - W.b + 1).toNat = (x - W.b.toNat) + 1 := by omega
   rw [e, List.getD_cons_succ, List.getD_eq_getElem?_getD]
theorem Played.end_ (h : Played W ls ps) (hok : W.Ok) {j : Nat} {p : Int × Int} (e : ps[j]? = some p) : fn (evs ps) (j + 1) = fn (evs ps) (bg W p.2).toNat + ls.getD p.2.toNat 0 /\ fn (evs ps) (j + 1) = p.1 := by
 obtain ⟨a, b, c⟩ := h.at e
 have hx : p.2.toNat < ls.length := by rw [h.len]; omega
 have d := h.begin hok hx
 have en := en_at (f := zf W.b.toNat) hx
 have e2 : ((p.2.toNat : Nat) : Int) = p.2 := by omega
 rw [e2] at d
 have f1 : fn (evs ps) (j + 1) = p.1 := by
  unfold fn evs
  rw [List.getD_cons_succ, List.getD_eq_getElem?_getD, List.getElem?_map, e]; rfl
 refine ⟨?_,f1⟩
 rw [f1, c, <- d]
 exact en
theorem Played.up (h : Played W ls ps) {i j : Nat} (hij : i <= j) (hj : j < ps.length) : fn (evs ps) (i + 1) <= fn (evs ps) (j + 1) := by
 unfold fn evs
 rw [List.getD_cons_succ, List.getD_cons_succ, List.getD_eq_getElem?_getD, List.getD_eq_getElem?_getD, List.getElem?_eq_getElem (by rw [List.length_map]; omega), List.getElem?_eq_getElem (by rw [List.length_map]; omega)]
 show (ps.map fun p => p.1)[i]'_ <= (ps.map fun p => p.1)[j]'_
 rcases Nat.lt_or_ge i j with c | c
 . exact List.pairwise_iff_getElem.mp h.rise i j _ _ c
 . have : i = j := by omega
   subst this
   exact Int.le_refl _
theorem Played.nn (h : Played W ls ps) (hok : W.Ok) : ∀ v, 0 <= fn (evs ps) v := fun v => by
 rcases v with _ | v
 . exact Int.le_refl _
 by_cases c : v < ps.length
 . have b1 := hok.b1
   have S0 : ∀ y ∈ ps.map (fun p => p.1), 0 <= y := fun y hy => by
    obtain ⟨t, ht, rfl⟩ := List.mem_map.mp (h.S.mem_iff.mp hy)
    have hb : 0 < W.b.toNat := by omega
    have h0 : ∀ x ∈ ls, 0 <= x := fun x hx => by have := h.pos hok x hx; omega
    have m : t.2.2 ∈ (tk (zf W.b.toNat) ls).map (fun t => t.2.1) ++ fr (zf W.b.toNat) ls := (bg_perm (ls := ls) (zf_ne hb)).mem_iff.mpr (List.mem_append_right _ (List.mem_map_of_mem ht))
    have z0 : mn (zf W.b.toNat) = 0 := by have := (zf_bd W.b.toNat _ (mn_mem (zf_ne hb))); omega
    rcases List.mem_append.mp m with m | m
    . have := bg_ge h0 (zf_ne hb) _ m; omega
    . have := fr_ge h0 (zf_ne hb) _ m; omega
   unfold fn evs
   rw [List.getD_cons_succ, List.getD_eq_getElem?_getD, List.getElem?_eq_getElem (by rw [List.length_map]; exact c)]
   exact S0 _ (List.getElem_mem _)
 . unfold fn evs
   rw [List.getD_cons_succ, List.getD_eq_getElem?_getD, List.getElem?_eq_none (by rw [List.length_map]; omega)]
   exact Int.le_refl _
theorem at_snd {j : Nat} {x : Int} (e : (ps.map (fun p => p.2))[j]? = some x) : ∃ p, ps[j]? = some p /\ p.2 = x := by
 rw [List.getElem?_map] at e
 cases h : ps[j]? with
 | none => rw [h] at e; cases e
 | some p => rw [h] at e; exact ⟨p, rfl,Option.some.inj e⟩
theorem Played.vo (h : Played W ls ps) (hok : W.Ok) : VO W (ps.map (fun p => p.2)) := by
 refine ⟨?_,fun i x e => ?_⟩
 . have p2 := h.pm.map (fun p => p.2)
   have e : (pairsE W.b.toNat ls).map (fun p => p.2) = upto ls.length := by unfold pairsE upto; rw [List.map_map]; rfl
   rw [e] at p2
   exact p2.nodup_iff.mpr (upto_nodup _)
 . obtain ⟨p, hp, rfl⟩ := at_snd e
   obtain ⟨a, b, c⟩ := h.at hp
   have hi : i < ps.length := (List.getElem?_eq_some_iff.mp hp).1
   refine ⟨a, ?_⟩
   have b1 := hok.b1
   have key : p.2 < (i : Int) + W.b := by
    rcases Int.lt_or_le p.2 ((i : Int) + W.b) with c | c
    . exact c
    exfalso
    have f := (h.end_ hok hp).1
    have hx : p.2.toNat < ls.length := by rw [h.len]; omega
    have l := h.bd p.2.toNat hx
    have bo := bnd_ok hok (x := p.2) a b
    have e2 : ((p.2.toNat : Nat) : Int) = p.2 := by omega
    rw [e2] at l
    have ebg : (bg W p.2).toNat = (p.2 - W.b).toNat + 1 := by unfold bg; rw [if_neg (by omega)]; omega
    rw [ebg] at f
    have u := h.up (i := i) (j := (p.2 - W.b).toNat) (by omega) (by rw [h.plen]; omega)
    omega
   unfold began
   omega
theorem Played.feas (h : Played W ls ps) (hok : W.Ok) : FeasF (rulesM W (ps.map (fun p => p.2))) (fn (evs ps)) := by
 intro r hr
 rcases List.mem_append.mp hr with hr | hr
 . obtain ⟨j, hj, hr⟩ := mem_pre hr
   rw [List.length_map] at hj
   have hp : ps[j]? = some ps[j] := List.getElem?_eq_getElem hj
   have eo : (ps.map (fun p => p.2)).getD j 0 = ps[j].2 := by rw [List.getD_eq_getElem?_getD, List.getElem?_map, hp]; rfl
   rw [eo] at hr
   generalize ps[j] = p at *
   obtain ⟨a, b, c⟩ := h.at hp
   have f := (h.end_ hok hp).1
   have hx : p.2.toNat < ls.length := by rw [h.len]; omega
   have l := h.bd p.2.toNat hx
   have e2 : ((p.2.toNat : Nat) : Int) = p.2 := by omega
   rw [e2] at l
   have ej : ((j : Int) + 1).toNat = j + 1 := by omega
   unfold rule3 at hr
   simp only [List.mem_cons, List.not_mem_nil, or_false] at hr
   rcases hr with rfl | rfl | rfl
   . show fn (evs ps) ((j : Int) + 1).toNat - fn (evs ps) (bg W p.2).toNat <= (bnd W p.2).2
     rw [ej]; omega
   . show fn (evs ps) (bg W p.2).toNat - fn (evs ps) ((j : Int) + 1).toNat <= -(bnd W p.2).1
     rw [ej]; omega
   . show fn (evs ps) (j : Int).toNat - fn (evs ps) ((j : Int) + 1).toNat <= 0
     rw [ej, Int.toNat_natCast]
     rcases j with _ | j
     . have := h.nn hok (0 + 1)
       have z : fn (evs ps) 0 = 0 := rfl
       omega
     . have := h.up (i := j) (j := j + 1) (by omega) hj
       omega
 . exfalso
   obtain ⟨x, hx, rfl⟩ := List.mem_map.mp hr
   obtain ⟨⟨x0, x1⟩, xn⟩ := mem_run.mp hx
   have bl := began_le W (ps.map (fun p => p.2)).length
   refine xn ?_
   have p2 := h.pm.map (fun p => p.2)
   have e : (pairsE W.b.toNat ls).map (fun p => p.2) = upto ls.length := by unfold pairsE upto; rw [List.map_map]; rfl
   rw [e] at p2
   exact p2.mem_iff.mpr (mem_upto.mpr ⟨x0, by rw [h.len]; omega⟩)
theorem Played.early (h : Played W ls ps) (hok : W.Ok) (k : Nat) : VO W ((ps.map (fun p => p.2)).take k) /\ ∃ r, early W ((ps.map (fun p => p.2)).take k) = some r := by
 have vo := h.vo hok
 obtain ⟨r, hr⟩ := early_none hok vo (h.feas hok) (fun v _ => h.nn hok v)
 refine ⟨vo.take k, ?_⟩
 by_cases c : k <= (ps.map (fun p => p.2)).length
 . exact early_take hok vo hr k c
 . rw [List.take_of_length_le (by omega)]
   exact ⟨r, hr⟩
end
end Be
set_option Elab.async false
set_option linter.all false
namespace Be
structure FeasG (rs : List Ru) (g : Nat) (f : Nat -> Int) : Prop where
 fe : FeasF rs f
 z : f g = 0
theorem FeasG.of {rs : List Ru} {f : Nat -> Int} (h : FeasF rs f) (g : Nat) : FeasG rs g (fun v => f v - f g) := ⟨fun r hr => by have := h r hr; show f r.1.toNat - f g - (f r.2.1.toNat - f g) <= r.2.2; omega, by show f g - f g = 0; omega⟩
structure LeastG (rs : List Ru) (n g : Nat) (L : Nat -> Int) : Prop where
 fe : FeasG rs g L
 le : ∀ M, FeasG rs g M -> ssum n L <= ssum n M
theorem exists_leastG (rs : List Ru) (n g : Nat) (B : Int) (hB : ∀ f, FeasG rs g f -> B <= ssum n f) : ∀ (k : Nat) (x : Nat -> Int), FeasG rs g x -> (ssum n x - B).toNat <= k -> ∃ L, LeastG rs n g L
 | 0, x, hx, hk => ⟨x, hx, fun M hM => by have := hB M hM; have := hB x hx; omega⟩
 | k + 1, x, hx, hk => by
  by_cases h : ∃ M, FeasG rs g M /\ ssum n M < ssum n x
  . obtain ⟨M, a, c⟩ := h
    have := hB M a
    exact exists_leastG rs n g B hB k M a (by omega)
  . exact ⟨x, hx, fun M a => by
      by_cases c : ssum n M < ssum n x
      . exact absurd ⟨M, a, c⟩ h
      . omega⟩
theorem ssum_ge {f : Nat -> Int} {c : Int} : ∀ n : Nat, (∀ v, v < n -> c <= f v) -> (n : Int) * c <= ssum n f
 | 0, _ => by show ((0 : Nat) : Int) * c <= 0; simp
 | n + 1, h => by
  have a := ssum_ge n (fun v hv => h v (by omega))
  have b := h n (by omega)
  show ((n + 1 : Nat) : Int) * c <= ssum n f + f n
  rw [Int.natCast_succ, Int.add_mul, Int.one_mul]
  omega
theorem from0 {W : Wd} {o : List Int} (hok : W.Ok) (vo : VO W o) {f : Nat -> Int} (hf : FeasF (rulesM W o) f) : ∀ v, v <= o.length -> f v - f 0 <= 99 * (v : Int) := by
 intro v
 induction v using Nat.strongRecOn with
 | _ v ih =>
  intro hv
  cases v with
  | zero => omega
  | succ j =>
   have hj : j < o.length := by omega
   have g := vo.getD hj
   have b := bg_le hok g.1 g.2
   have bl := began_le W j
   have m := bnd_ok hok g.1 (by omega : o.getD j 0 < (W.bs.length : Int))
   have a := hf ((j : Int) + 1, bg W (o.getD j 0), (bnd W (o.getD j 0)).2) (mem_rule3 hj (by unfold rule3; simp))
   dsimp only at a
   rw [show ((j : Int) + 1).toNat = j + 1 by omega] at a
   have c := ih (bg W (o.getD j 0)).toNat (by omega) (by omega)
   omega
theorem leastG {W : Wd} {o r : List Int} (hok : W.Ok) (vo : VO W o) (h : early W o = some r) {g : Nat} (hg : g < o.length + 1) : ∃ L, LeastG (rulesM W o) (o.length + 1) g L := by
 have E := early_some hok vo h
 refine exists_leastG _ _ g (((o.length + 1 : Nat) : Int) * (-(99 * (g : Int)))) (fun f hf => ssum_ge _ fun v hv => ?_) _ _ (FeasG.of E.fe g) (Nat.le_refl _)
 have a := from0 hok vo hf.fe g (by omega)
 have b := rises hf.fe v (by omega)
 have z := hf.z
 omega
theorem pw_hit {rs : List Ru} {n : Nat} (hi : InR rs n) {s : SW} (hs : s.1.length = n) {j : Nat} (hj : j < rs.length) {y : Int} (h : ge s.1 (rs.getD j (0, 0, 0)).1.toNat = some y) : ∃ y', y' <= y + (rs.getD j (0, 0, 0)).2.2 /\ ge (pw rs rs.length s).1 (rs.getD j (0, 0, 0)).2.1.toNat = some y' := by
 obtain ⟨y1, l1, h1⟩ := pw_dec (rs := rs) j h
 have ir := hi _ (getD_mem hj)
 obtain ⟨y2, l2, h2⟩ := stepW_hit (s := pw rs j s) (k := j) (r := rs.getD j (0, 0, 0)) h1 (by rw [(pw_len rs s j).1, hs]; omega)
 have on : ∀ m, ∃ y', y' <= y + (rs.getD j (0, 0, 0)).2.2 /\ ge (pw rs (j + 1 + m) s).1 (rs.getD j (0, 0, 0)).2.1.toNat = some y' := by
  intro m
  induction m with
  | zero => exact ⟨y2, by omega, h2⟩
  | succ m ih =>
   obtain ⟨y3, l3, h3⟩ := ih
   obtain ⟨y4, l4, h4⟩ := stepW_dec (k := j + 1 + m) (r := rs.getD (j + 1 + m) (0, 0, 0)) h3
   exact ⟨y4, by omega, h4⟩
 have := on (rs.length - (j + 1))
 rwa [show j + 1 + (rs.length - (j + 1)) = rs.length by omega] at this
def settG (L : Nat -> Int) (l : List OI) : Nat -> Bool := fun v => decide (ge l v = some (-(L v)))
def LowG (L : Nat -> Int) (l : List OI) : Prop := ∀ v y, ge l v = some y -> -(L v) <= y
theorem low_of {rs : List Ru} {g : Nat} {L : Nat -> Int} (hL : FeasG rs g L) {l : List OI} (h : Low L g l) : LowG L l := fun v y e => by
 have := h v y e
 rw [hL.z] at this
 omega
theorem settleG {rs : List Ru} {n g : Nat} {L : Nat -> Int} (hL : LeastG rs n g L) (hi : InR rs n) {s : SW} (hs : s.1.length = n) (hg : ge s.1 g = some 0) (lo : Low L g s.1) (hne : ∃ v, v < n /\ settG L s.1 v = false) :
    cnt n (settG L s.1) + 1 <= cnt n (settG L (pw rs rs.length s).1) := by
 have lo1 := low_of hL.fe lo
 have lo2 := low_of hL.fe (pw_low hL.fe.fe lo rs.length (Nat.le_refl _))
 have stay : ∀ v, v < n -> settG L s.1 v = true -> settG L (pw rs rs.length s).1 v = true := fun v hv e => by
  obtain ⟨y', l', h'⟩ := pw_dec (rs := rs) rs.length (of_decide_eq_true e)
  have := lo2 v y' h'
  have : y' = -(L v) := by omega
  subst this
  exact decide_eq_true h'
 refine cnt_lt n stay ?_
 apply Classical.byContradiction
 intro hno
 have hno' : ∀ v, v < n -> settG L s.1 v = false -> settG L (pw rs rs.length s).1 v = false := fun v hv e => by
  cases c : settG L (pw rs rs.length s).1 v with
  | false => rfl
  | true => exact absurd ⟨v, hv, e, c⟩ hno
 let M : Nat -> Int := fun v => if settG L s.1 v = true then L v else L v - 1
 have m1 : ∀ v, settG L s.1 v = true -> M v = L v := fun v e => if_pos e
 have m2 : ∀ v, settG L s.1 v = false -> M v = L v - 1 := fun v e => if_neg (by rw [e]; simp)
 have hM : FeasG rs g M := by
  refine ⟨fun r hr => ?_,?_⟩
  . have f := hL.fe.fe r hr
    have ir := hi r hr
    obtain ⟨j, hj, ej⟩ := List.getElem_of_mem hr
    have eg : rs.getD j (0, 0, 0) = r := by rw [List.getD_eq_getElem?_getD, List.getElem?_eq_getElem hj]; exact ej
    cases a : settG L s.1 r.1.toNat with
    | false =>
     rw [m2 _ a]
     cases b : settG L s.1 r.2.1.toNat with
     | false => rw [m2 _ b]; omega
     | true => rw [m1 _ b]; omega
    | true =>
     rw [m1 _ a]
     cases b : settG L s.1 r.2.1.toNat with
     | true => rw [m1 _ b]; exact f
     | false =>
      rw [m2 _ b]
      obtain ⟨y', l', h'⟩ := pw_hit hi hs hj (y := -(L r.1.toNat)) (by rw [eg]; exact of_decide_eq_true a)
      rw [eg] at l' h'
      have c := of_decide_eq_false (hno' _ (by omega) b)
      have d := lo2 _ _ h'
      have : y' ≠ -(L r.2.1.toNat) := fun z => c (by rw [z] at h'; exact h')
      omega
  . rw [m1 g (decide_eq_true (by rw [hg, hL.fe.z]; rfl))]
    exact hL.fe.z
 have l := hL.le M hM
 obtain ⟨v, hv, hne⟩ := hne
 have := ssum_lt (f := M) (g := L) n (fun u hu => by
  cases e : settG L s.1 u with
  | true => rw [m1 _ e]; omega
  | false => rw [m2 _ e]; omega) ⟨v, hv, by rw [m2 _ hne]; omega⟩
 omega
theorem goal0 {rs : List Ru} {g : Nat} {L : Nat -> Int} (hL : FeasF rs L) {n : Nat} (hg : g < n) : ∀ k, ge (rnd rs k (initW n g)).1 g = some 0
 | 0 => by
  show ge (initW n g).1 g = some 0
  unfold initW
  dsimp only
  rw [ge_set, if_pos ⟨rfl,by rw [List.length_replicate]; exact hg⟩]
 | k + 1 => by
  obtain ⟨y, l, h⟩ := pw_dec (rs := rs) rs.length (goal0 hL hg k)
  have lo := rnd_low hL (init_low L n g) (k + 1)
  have := lo g y h
  have : y = 0 := by omega
  subst this
  exact h
theorem rounds {rs : List Ru} {n g : Nat} {L : Nat -> Int} (hL : LeastG rs n g L) (hi : InR rs n) (hg : g < n) : ∀ k, min n (k + 1) <= cnt n (settG L (rnd rs k (initW n g)).1)
 | 0 => by
  have := cnt_lt (p := fun _ => false) (q := settG L (rnd rs 0 (initW n g)).1) n (fun _ _ z => by cases z) ⟨g, hg, rfl,decide_eq_true (by rw [goal0 hL.fe.fe hg 0, hL.fe.z]; rfl)⟩
  omega
 | k + 1 => by
  have ih := rounds hL hi hg k
  have sl : (rnd rs k (initW n g)).1.length = n := (rnd_len rs (initW n g) k).1.trans (init_len n g).1
  have lo := rnd_low hL.fe.fe (init_low L n g) k
  by_cases h : ∃ v, v < n /\ settG L (rnd rs k (initW n g)).1 v = false
  . have := settleG hL hi sl (goal0 hL.fe.fe hg k) lo h
    show min n (k + 1 + 1) <= cnt n (settG L (pw rs rs.length (rnd rs k (initW n g))).1)
    omega
  . have all : ∀ v, v < n -> settG L (rnd rs k (initW n g)).1 v = true := fun v hv => by
      cases c : settG L (rnd rs k (initW n g)).1 v with
      | true => rfl
      | false => exact absurd ⟨v, hv, c⟩ h
    have lo2 := low_of hL.fe (rnd_low hL.fe.fe (init_low L n g) (k + 1))
    have : cnt n (settG L (rnd rs (k + 1) (initW n g)).1) = n := cnt_all n fun v hv => by
     obtain ⟨y', l', h'⟩ := pw_dec (rs := rs) rs.length (of_decide_eq_true (all v hv))
     have := lo2 v y' h'
     have : y' = -(L v) := by omega
     subst this
     exact decide_eq_true h'
    omega
theorem final {rs : List Ru} {n g : Nat} {L : Nat -> Int} (hL : LeastG rs n g L) (hi : InR rs n) (hg : g < n) {v : Nat} (hv : v < n) : ge (rnd rs n (initW n g)).1 v = some (-(L v)) := by
 have := rounds hL hi hg n
 have c := cnt_len (settG L (rnd rs n (initW n g)).1) n
 exact of_decide_eq_true (cnt_full (p := settG L (rnd rs n (initW n g)).1) n (by omega) v hv)
end Be
set_option Elab.async false
set_option linter.all false
namespace Be
end Be
set_option Elab.async false
set_option linter.all false
namespace Be
end Be
set_option Elab.async false
set_option linter.all false
namespace Be
section
variable {W : Wd} {o : List Int} {f : Nat -> Int}
end
end Be
set_option Elab.async false
set_option linter.all false
namespace Be
def extL (p : Int × Int) (r : List Int) : List (List Int) := (List.range (p.2 + 1 - p.1).toNat).map fun (k : Nat) => r ++ [p.1 + (k : Int)]
def stepL (rows : List (List Int)) (p : Int × Int) : List (List Int) := rows.flatMap (extL p)
def allL (bs : List (Int × Int)) : List (List Int) := bs.foldl stepL [[]]
theorem allL_snoc (bs : List (Int × Int)) (p : Int × Int) : allL (bs ++ [p]) = stepL (allL bs) p := by
 unfold allL; rw [List.foldl_append]; rfl
theorem mem_extL {p : Int × Int} {r l : List Int} : l ∈ extL p r ↔ ∃ x, p.1 <= x /\ x <= p.2 /\ l = r ++ [x] := by
 unfold extL
 rw [List.mem_map]
 constructor
 . rintro ⟨k, hk, rfl⟩
   have := List.mem_range.mp hk
   exact ⟨_,by omega, by omega, rfl⟩
 . rintro ⟨x, h1, h2, rfl⟩
   exact ⟨(x - p.1).toNat, List.mem_range.mpr (by omega), by congr 2; omega⟩
theorem mem_fold : ∀ {bs : List (Int × Int)} {rows : List (List Int)} {l : List Int}, l ∈ bs.foldl stepL rows ↔ ∃ r ∈ rows, ∃ t : List Int, l = r ++ t /\ t.length = bs.length /\ ∀ (k : Nat) (p : Int × Int) (x : Int), bs[k]? = some p -> t[k]? = some x -> p.1 <= x /\ x <= p.2
 | [], rows, l => by
  constructor
  . intro h
    exact ⟨l, h, [], (List.append_nil l).symm, rfl,fun k p x h => by simp at h⟩
  . rintro ⟨r, hr, t, rfl,ht, _⟩
    have : t = [] := List.length_eq_zero_iff.mp ht
    rw [this, List.append_nil]; exact hr
 | p :: bs, rows, l => by
  show l ∈ bs.foldl stepL (stepL rows p) ↔ _
  rw [mem_fold (bs := bs)]
  constructor
  . rintro ⟨r, hr, t, rfl,ht, hb⟩
    obtain ⟨r0, hr0, hx⟩ := List.mem_flatMap.mp hr
    obtain ⟨x, h1, h2, rfl⟩ := mem_extL.mp hx
    refine ⟨r0, hr0, x :: t, by rw [List.append_assoc]; rfl,by rw [List.length_cons, List.length_cons, ht], fun k q y hq hy => ?_⟩
    cases k with
    | zero => cases hq; cases hy; exact ⟨h1, h2⟩
    | succ k => exact hb k q y hq hy
  . rintro ⟨r, hr, t, rfl,ht, hb⟩
    cases t with
    | nil => simp at ht
    | cons x t =>
     have b0 := hb 0 p x rfl rfl
     refine ⟨r ++ [x], List.mem_flatMap.mpr ⟨r, hr, mem_extL.mpr ⟨x, b0.1, b0.2, rfl⟩⟩, t, by rw [List.append_assoc]; rfl,by simpa using ht, fun k q y hq hy => hb (k + 1) q y hq hy⟩
theorem mem_allL {bs : List (Int × Int)} {l : List Int} : l ∈ allL bs ↔ l.length = bs.length /\ ∀ (k : Nat) (p : Int × Int) (x : Int), bs[k]? = some p -> l[k]? = some x -> p.1 <= x /\ x <= p.2 := by
 unfold allL
 rw [mem_fold]
 constructor
 . rintro ⟨r, hr, t, rfl,ht, hb⟩
   have : r = [] := by simpa using hr
   subst this
   exact ⟨ht, hb⟩
 . rintro ⟨h1, h2⟩
   exact ⟨[], by simp, l, rfl,h1, h2⟩
theorem row_len {bs : List (Int × Int)} {l : List Int} (h : l ∈ allL bs) : l.length = bs.length := (mem_allL.mp h).1
section
variable {W : Wd} {o r : List Int}
end
end Be
set_option Elab.async false
set_option linter.all false
set_option maxRecDepth 100000
namespace L2
open PySem PySem.Spec PyProof.Rows
section
variable {M : Model} {A : Around} {E : Value -> Shared -> Prop} {s : Shared}
end
section
variable {X : Cx} {pins : List (Addr × Obj)} {σ : St} {H : Hp} {s : Shared}
end
end L2
set_option Elab.async false
set_option linter.all false
set_option maxRecDepth 100000
namespace L2
open PySem PySem.Spec PyProof.Rows
theorem vals_runI (lo : Int) : ∀ (us : List Value) (k : Nat), (∀ j v, us[j]? = some v -> ∃ t, v = Value.int (lo + ((k + j : Nat) : Int)) t) -> Vals ((List.range' k us.length).map fun (j : Nat) => V.int (lo + (j : Int))) us
 | [], _,_ => .nil
 | u :: us, k, h => by
  obtain ⟨t, e⟩ := h 0 u rfl
  rw [List.length_cons, List.range'_succ, List.map_cons]
  refine .cons ⟨t, by rw [e]; rfl⟩ (vals_runI lo us (k + 1) fun j v q => ?_)
  obtain ⟨t', e'⟩ := h (j + 1) v (by simpa using q)
  exact ⟨t', by rw [e', show k + (j + 1) = k + 1 + j by omega]⟩
section
variable {X : Cx}
def rRng2 : List V -> Hp -> VK -> Prop := fun xs H Q => ∃ lo hi : Int, xs = [.int lo, .int hi] /\ ∀ r, H r = none -> Q (.ref r) (upd H r (.rng lo hi))
theorem call_rng2 : CallR X (.type "range") rRng2 := by
 intro pins s σ H xs us Q I rs h
 obtain ⟨lo, hi, rfl,q⟩ := h
 cases rs with
 | cons r1 rs =>
  cases rs with
  | cons r2 rs =>
   cases rs
   obtain ⟨t, rfl⟩ := r1
   obtain ⟨t', rfl⟩ := r2
   refine call_range_2 ⟨.ref s.heap.objs.size, _,I.laid (o := .rng lo hi) (t' := _) (fun b o e => Heap.get?_push_of_some _ e) (Nat.le_refl _) ?_,rfl,q _ (I.hok.fresh (Nat.le_refl _))⟩
   exact ⟨_,_,_,Heap.get?_push_size _ rfl⟩
def rListR2 : List V -> Hp -> VK -> Prop := fun xs H Q => ∃ (p : Addr) (lo hi : Int), xs = [.ref p] /\ H p = some (.rng lo hi) /\ 0 <= lo /\ lo <= hi /\ hi <= 1000 /\ ∀ l, H l = none -> Q (.ref l) (upd H l (.lst ((List.range (hi - lo).toNat).map fun (j : Nat) => V.int (lo + (j : Int)))))
theorem call_listR2 (hc : X.calm = true) : CallR X (.type "list") rListR2 := by
 intro pins s σ H xs us Q I rs h
 obtain ⟨p, lo, hi, rfl,hp, h0, h1, h2, q⟩ := h
 obtain ⟨u, rfl,ru⟩ := vals1 rs
 cases ru
 obtain ⟨t, u, v, e⟩ := I.hok p _ hp
 have e1 : Builtin.Range.rangeSize lo hi 1 = (((hi - lo).toNat : Nat) : Int) := by rw [rangeSize_one]; split <;> omega
 refine call_list_range (n := (hi - lo).toNat) (I.ok.hd hc) e (small_one (by omega) (by omega) (by omega) (by omega)) e1 (by omega) fun h' tk acc c' kp hl it => ?_
 have hv : Vals ((List.range (hi - lo).toNat).map fun (j : Nat) => V.int (lo + (j : Int))) acc.toList := by
  have z := vals_runI lo acc.toList 0 fun j v q => by
   obtain ⟨t, e⟩ := it.2 j v (by rw [<- Array.getElem?_toList]; exact q)
   exact ⟨t, by rw [e]; congr 1; (try push_cast); (try omega)⟩
  have hs : acc.toList.length = (hi - lo).toNat := by rw [Array.length_toList]; exact it.1
  rw [hs, <- List.range_eq_range'] at z
  exact z
 refine ⟨.ref s.heap.objs.size, _,I.laid (o := .lst ((List.range (hi - lo).toNat).map fun (j : Nat) => V.int (lo + (j : Int)))) (t' := tk) kp (Nat.le_refl _) ?_,rfl,q _ (I.hok.fresh (Nat.le_refl _))⟩
 refine ⟨?_,acc.toList, c', hv, ?_⟩
 . rw [List.length_map, List.length_range]
   exact Nat.le_trans (show _ <= 1000 by omega) (by decide)
 . exact hl
end
end L2
set_option Elab.async false
set_option linter.all false
set_option maxRecDepth 100000
namespace BE
open PySem PySem.Spec PyProof.Rows
theorem len_dict : typeLookup (.type "dict") "__len__" = pure (some (.builtin "dict.__len__")) := by rw [typeLookup_type, builtinLookup_eq_fast]; kernel_rfl
section
variable {prog : Program} {w : World} {A : Around} {E : Value -> Shared -> Prop} {s : Shared}
theorem hint_dict {x : Addr} {Q : Bool -> Shared -> Prop} (hT : s.TypeIs (.ref x) "dict") (h : Q false s) : wpAny (model prog w) A (Builtin.List.listLengthHint (.ref x)) Q E s := by
 unfold Builtin.List.listLengthHint
 refine wpAny_bind (wpAny_specialOf hT len_dict ?_)
 generalize hid : ("dict.__len__" : String) = id0
 wp_delta
 rw [show splitId id0 = some ("dict", "__len__") from by subst hid; decide +kernel]
 subst hid
 refine wpAny_bind (wpAny_isInstance (T := "dict") (b := true) hT (by rw [isSubtype_type]; kernel_rfl) ?_)
 refine wpAny_ite_split (fun hab => absurd hab (by decide)) (fun _ => ?_)
 refine wpAny_ite_split (fun _ => ?_) (fun hab => absurd (by decide +kernel) hab)
 refine wpAny_bind (wpAny_typeOf hT ?_)
 exact wpAny_pure h
end
end BE
set_option Elab.async false
set_option linter.all false
set_option maxRecDepth 100000
namespace BE
open PySem PySem.Spec PyProof.Rows
section
variable {prog : Program} {w : World} {A : Around} {E : Value -> Shared -> Prop} {s : Shared} {κ : Type} [DecidableEq κ] {knd : KeyKind prog w κ}
end
end BE
namespace L2
open PySem PySem.Spec PyProof.Rows
section
variable {X : Cx} {tg : Expr}
end
end L2
set_option Elab.async false
set_option linter.all false
set_option maxRecDepth 100000
namespace Be.G
open PySem L2
end Be.G
namespace Be
open PySem L2
def RowsT (H : Hp) (ws : List V) (rs : List (List Int)) : Prop := ws.length = rs.length /\ ∀ (i : Nat) (r : List Int), rs[i]? = some r -> ∃ q, ws[i]? = some (.ref q) /\ H q = some (.tup (r.map V.int))
theorem RowsT.nil {H : Hp} : RowsT H [] [] := ⟨rfl,fun i r h => by simp at h⟩
theorem RowsT.ts {H H' : Hp} {ws : List V} {rs : List (List Int)} (x : RowsT H ws rs) (g : TSame H H') : RowsT H' ws rs := ⟨x.1, fun i p hp => by
 obtain ⟨q, h1, h2⟩ := x.2 i p hp
 exact ⟨q, h1, g _ _ h2⟩⟩
theorem RowsT.append {H : Hp} {ws us : List V} {rs ss : List (List Int)} (x : RowsT H ws rs) (y : RowsT H us ss) : RowsT H (ws ++ us) (rs ++ ss) := by
 refine ⟨by rw [List.length_append, List.length_append, x.1, y.1], fun i r h => ?_⟩
 by_cases c : i < rs.length
 . rw [List.getElem?_append_left c] at h
   obtain ⟨q, h1, h2⟩ := x.2 i r h
   exact ⟨q, by rw [List.getElem?_append_left (by rw [x.1]; exact c)]; exact h1, h2⟩
 . rw [List.getElem?_append_right (by omega)] at h
   obtain ⟨q, h1, h2⟩ := y.2 _ r h
   exact ⟨q, by rw [List.getElem?_append_right (by rw [x.1]; omega), x.1]; exact h1, h2⟩
theorem RowsT.one {H : Hp} {q : Addr} {r : List Int} (h : H q = some (.tup (r.map V.int))) : RowsT H [.ref q] [r] := ⟨rfl,fun i p hp => by
 cases i with
 | zero => cases hp; exact ⟨q, rfl,h⟩
 | succ i => simp at hp⟩
theorem RowsT.snoc {H : Hp} {ws : List V} {rs : List (List Int)} {q : Addr} {r : List Int} (x : RowsT H ws rs) (h : H q = some (.tup (r.map V.int))) : RowsT H (ws ++ [.ref q]) (rs ++ [r]) := x.append (RowsT.one h)
theorem RowsT.at {H : Hp} {ws : List V} {rs : List (List Int)} (x : RowsT H ws rs) {i : Nat} {u : V} (h : ws[i]? = some u) : ∃ (r : List Int) (q : Addr), rs[i]? = some r /\ u = .ref q /\ H q = some (.tup (r.map V.int)) := by
 have hi : i < rs.length := by rw [<- x.1]; exact (List.getElem?_eq_some_iff.mp h).1
 obtain ⟨q, h1, h2⟩ := x.2 i _ (List.getElem?_eq_getElem hi)
 rw [h] at h1
 exact ⟨_,q, List.getElem?_eq_getElem hi, Option.some.inj h1, h2⟩
theorem ext_99 {p : Int × Int} (h : 1 <= p.1 /\ p.1 <= p.2 /\ p.2 <= 99) (r : List Int) : (extL p r).length <= 99 := by
 unfold extL; rw [List.length_map, List.length_range]; omega
theorem ext_n (p : Int × Int) (r : List Int) : (extL p r).length = (p.2 + 1 - p.1).toNat := by unfold extL; rw [List.length_map, List.length_range]
theorem step_take (rows : List (List Int)) (p : Int × Int) (j : Nat) : (stepL (rows.take j) p).length <= (stepL rows p).length := by
 have e : stepL rows p = stepL (rows.take j) p ++ stepL (rows.drop j) p := by
  unfold stepL
  rw [<- List.flatMap_append, List.take_append_drop]
 rw [e, List.length_append]; omega
theorem step_n (p : Int × Int) : ∀ rows : List (List Int), (stepL rows p).length = rows.length * (p.2 + 1 - p.1).toNat
 | [] => by simp [stepL]
 | r :: rows => by
  show (extL p r ++ stepL rows p).length = _
  rw [List.length_append, ext_n, step_n p rows, List.length_cons, Nat.succ_mul]; omega
theorem all_n {bs : List (Int × Int)} {i : Nat} {p : Int × Int} (h : bs[i]? = some p) : (allL (bs.take (i + 1))).length = (allL (bs.take i)).length * (p.2 + 1 - p.1).toNat := by
 rw [show bs.take (i + 1) = bs.take i ++ [p] by rw [List.take_add_one, h]; rfl,allL_snoc, step_n]
theorem all_pos {W : Wd} (hok : W.Ok) : ∀ i, 0 < (allL (W.bs.take i)).length
 | 0 => by rw [List.take_zero]; decide
 | i + 1 => by
  by_cases h : i < W.bs.length
  . have e := all_n (List.getElem?_eq_getElem h)
    have b := hok.bd _ (List.getElem_mem h)
    rw [e]
    exact Nat.mul_pos (all_pos hok i) (by omega)
  . have := all_pos hok i
    rw [List.take_of_length_le (by omega)] at this ⊢
    exact this
theorem all_up {W : Wd} (hok : W.Ok) (i : Nat) : (allL (W.bs.take i)).length <= (allL (W.bs.take (i + 1))).length := by
 by_cases h : i < W.bs.length
 . have e := all_n (List.getElem?_eq_getElem h)
   have b := hok.bd _ (List.getElem_mem h)
   rw [e]
   exact Nat.le_mul_of_pos_right _ (by omega)
 . rw [List.take_of_length_le (by omega), List.take_of_length_le (by omega)]; exact Nat.le_refl _
theorem all_mono {W : Wd} (hok : W.Ok) {i : Nat} : ∀ k, (allL (W.bs.take i)).length <= (allL (W.bs.take (i + k))).length
 | 0 => Nat.le_refl _
 | k + 1 => Nat.le_trans (all_mono hok k) (all_up hok (i + k))
theorem all_le {W : Wd} (hok : W.Ok) {n : Nat} (h : (allL W.bs).length <= n) (i : Nat) : (allL (W.bs.take i)).length <= n := by
 have := all_mono hok (i := i) W.bs.length
 rw [List.take_of_length_le (l := W.bs) (i := i + W.bs.length) (by omega)] at this
 omega
noncomputable def ordF (W : Wd) (ls : List Int) : List Int := Classical.epsilon fun o => ∃ ps : List (Int × Int), ps.Perm (G.enp (ens W.b.toNat ls)) /\ ps.Pairwise leP /\ o = ps.map fun p => p.2
theorem ordF_eq {W : Wd} {ls : List Int} {ps : List (Int × Int)} (h10 : ls.length <= 10) (pm : ps.Perm (G.enp (ens W.b.toNat ls))) (pw : ps.Pairwise leP) : (ps.map fun p => p.2) = ordF W ls := by
 obtain ⟨qs, qm, qw, e⟩ := Classical.epsilon_spec (p := fun o => ∃ ps : List (Int × Int), ps.Perm (G.enp (ens W.b.toNat ls)) /\ ps.Pairwise leP /\ o = ps.map fun p => p.2) ⟨_,ps, pm, pw, rfl⟩
 have : ordF W ls = qs.map fun p => p.2 := e
 rw [this, G.sortP_one (pm.trans qm.symm) pw qw (G.enp_rg (by rw [ens_len]; exact h10) pm)]
noncomputable def rowsF (W : Wd) (o : List Int) : List (List Int) := (allL W.bs).filter fun ls => decide ((ordF W ls).take o.length = o)
noncomputable def nextF (W : Wd) (o : List Int) (ls : List Int) : List Int := ((ordF W ls).drop o.length).take 1
theorem inB_all {W : Wd} {ls : List Int} (h : ls ∈ allL W.bs) : InB W ls := ⟨(mem_allL.mp h).1, fun k p x hp hx => (mem_allL.mp h).2 k p x hp hx⟩
theorem reps_rowsT {H : Hp} : ∀ {ws : List V} {rs : List (List Int)}, RowsT H ws rs -> Reps H ws (rs.map fun r => .tuple (r.map .int))
 | [], [], _ => .nil
 | [], r :: rs, h => by have := h.1; simp at this
 | w :: ws, [], h => by have := h.1; simp at this
 | w :: ws, r :: rs, h => by
  obtain ⟨q, e, hq⟩ := h.2 0 r rfl
  have ew : w = .ref q := Option.some.inj e
  subst ew
  exact .cons (.tup hq Reps.ints) (reps_rowsT ⟨by have := h.1; simpa using this, fun i r' hr => h.2 (i + 1) r' hr⟩)
theorem sh_trs : ∀ rs : List (List Int), PyData.canLayAll0 (rs.map fun r => .tuple (r.map .int)) = true /\ PyData.depthAll (rs.map fun r => .tuple (r.map .int)) <= 12
 | [] => ⟨rfl,Nat.zero_le _⟩
 | r :: rs => by
  obtain ⟨a, b⟩ := sh_trs rs
  have := G.dep_ints r
  refine ⟨?_,?_⟩
  . rw [List.map_cons, PyData.canLayAll0, a, PyData.canLay0, G.lay_ints]; rfl
  . rw [List.map_cons, PyData.depthAll, PyData.depth]; omega
theorem sh_tr (rs : List (List Int)) : SeqAt.shaped (.list (rs.map fun r => .tuple (r.map .int))) = true := by
 obtain ⟨a, b⟩ := sh_trs rs
 unfold SeqAt.shaped
 rw [PyData.canLay0, a, Bool.true_and, PyData.depth]
 exact decide_eq_true (by omega)
theorem encW_inj {W W' : Wd} (e : encW W = encW W') : W = W' := by
 obtain ⟨b, bs⟩ := W
 obtain ⟨b', bs'⟩ := W'
 unfold encW at e
 injection e with e
 injection e with e1 e2
 injection e1 with e1
 injection e2 with e2 _
 injection e2 with e2
 have hm : ∀ (x y : List (Int × Int)), x.map encB = y.map encB -> x = y := by
  intro x
  induction x with
  | nil => intro y h; cases y with | nil => rfl | cons a r => cases h
  | cons a r ih =>
   intro y h
   cases y with
   | nil => cases h
   | cons c t =>
    rw [List.map_cons, List.map_cons] at h
    injection h with h1 h2
    unfold encB at h1
    injection h1 with h1
    injection h1 with h3 h4
    injection h3 with h3
    injection h4 with h4 _
    injection h4 with h4
    rw [ih t h2, show a = c from Prod.ext h3 h4]
 exact congr (congrArg Wd.mk e1) (hm _ _ e2)
section
variable {P : Program} {w : World} {K : PySem.W.Frag} {mg : Str -> Option Value} {base : Heap}
def sp_all : Sp := fun vs H Q _ => ∃ (v : V) (W : Wd), vs = [v] /\ Rep H v (encW W) /\ W.Ok /\ (∀ i, (allL (W.bs.take i)).length <= 1000) /\ ∀ (l : Addr) (ws : List V) (H' : Hp), Same H H' -> H l = none -> H' l = some (.lst ws) -> RowsT H' ws (allL W.bs) -> Q (.ref l) H'
set_option maxHeartbeats 1000000 in
theorem ok_law_all (T : Txt K mg) : FnOk P w K mg base (CXr P w) 1 T.law_all.a T.law_all.d ["_law_world_here"] sp_all := by
 refine T.law_all.F.okN sc_law_all (fun vs H Q E h => ?_) (fun cdv A outer s H vs Q E hr h => ?_)
 . obtain ⟨v, W, rfl,_⟩ := h; rfl
 obtain ⟨v, W, rfl,hW, hok, hN, q⟩ := h
 have l10 := hok.l10
 refine ⟨_,(pss_cons (ps_set (i := 1) sc_law_all.nd rfl (by first|exact .inl rfl|exact .inr rfl) (pe_lst (pa_cons (pe_tup pa_nil) pa_nil))) (pss_cons (ps_for PassesOwn.never rfl (pi_tup (pe_ix ix_tup (pv 0) pe_int (fun _ _ => rfl))) (pg_tup rfl (pgs_cons (pg_name (i := 2) sc_law_all.nd rfl (by first|exact .inl rfl|exact .inr rfl)) (pgs_cons (pg_name (i := 3) sc_law_all.nd rfl (by first|exact .inl rfl|exact .inr rfl)) pgs_nil))) (pss_cons (ps_set (i := 4) sc_law_all.nd rfl (by first|exact .inl rfl|exact .inr rfl) (pe_lst pa_nil)) (pss_cons (ps_for PassesOwn.never rfl (pi_list (pv 1)) (pg_name (i := 5) sc_law_all.nd rfl (by first|exact .inl rfl|exact .inr rfl)) (pss_one (ps_expr (pe_bm PySem.F.plainAttrs_list PySem.F.slot_list_extend PySem.F.type_list_extend mt_extend (pv 4) (pa_cons (pe_comp (NB := ["_law_one", "_law_row"]) (js := [none, some 5]) rfl (blkOk_of rfl (by decide +kernel) rfl (by decide +kernel) (by decide +kernel) (by with_unfolding_all rfl) (by with_unfolding_all rfl) (by with_unfolding_all rfl) (by with_unfolding_all rfl)) (pi_range2 rfl T.n_range (pa_cons (pv 2) (pa_cons (pe_op op_add (pv 3) pe_int) pa_nil))) (fun _ _ _ _ => (pg_name (i := 0) (show (["_law_one", "_law_row"] : List Str).Nodup by decide +kernel) rfl (by first|exact .inl rfl|exact .inr rfl))) (fun _ _ _ _ => pf_nil) (fun _ _ _ _ => (pe_op op_catA (pv 1) (pe_tup (pa_cons (pv 0) pa_nil))))) pa_nil))))) (pss_one (ps_set (i := 1) sc_law_all.nd rfl (by first|exact .inl rfl|exact .inr rfl) (pv 4)))))) (pss_one (ps_ret (pv 1))))), ?_⟩
 obtain ⟨ca, cp, cvs, AW⟩ := atW hW
 obtain rfl := AW.v
 refine ⟨by show 0 <= sizeLine; decide, fun e0 he0 => ?_⟩
 have g0 := same_new he0 (.tup [])
 refine ⟨by show 1 <= sizeLine; decide, fun f0 hf0 => ?_⟩
 have g01 := same_new hf0 (.lst [.ref e0])
 have ff0 : H f0 = none := g0.free hf0
 have hf1 : upd (upd H e0 (.tup [])) f0 (.lst [.ref e0]) f0 = some (.lst [.ref e0]) := upd_same
 have he1 : upd (upd H e0 (.tup [])) f0 (.lst [.ref e0]) e0 = some (.tup (([] : List Int).map V.int)) := g01 _ _ upd_same
 have g1 := g0.trans g01
 generalize upd (upd H e0 (.tup [])) f0 (.lst [.ref e0]) = H1 at *
 refine ⟨_,rfl,ca, _,_,_,rfl,rfl,SqT.of (g1 _ _ AW.a), rfl,cp, rfl,⟨_,SqT.of (g1 _ _ AW.p)⟩, for_tup (K := K) (a := cp) (xs := cvs) (fun i σ H2 => ∃ (f : Addr) (ws : List V) (x2 x3 x4 x5 : Option V), σ = [some (.ref ca), some (.ref f), x2, x3, x4, x5] /\ Same H H2 /\ H f = none /\ H2 f = some (.lst ws) /\ RowsT H2 ws (allL (W.bs.take i))) ?_ ?_ ?_ ?_⟩
 . exact ⟨f0, _,none, none, none, none, rfl,g1, ff0, hf1, RowsT.one he1⟩
 . rintro i σ H2 _ ⟨f, ws, x2, x3, x4, x5, rfl,g, _⟩
   exact SqT.of (g _ _ AW.p)
 . rintro i u σ H2 hu ⟨f, ws, x2, x3, x4, x5, rfl,g, ff, hf, rt⟩
   have hi : i < W.bs.length := by rw [<- AW.len]; exact (List.getElem?_eq_some_iff.mp hu).1
   obtain ⟨q', hq', hqt⟩ := AW.it i _ (List.getElem?_eq_getElem hi)
   rw [hu] at hq'
   obtain rfl := Option.some.inj hq'
   have bp := hok.bd _ (List.getElem_mem hi)
   have et : W.bs.take (i + 1) = W.bs.take i ++ [W.bs[i]] := G.take_snoc (List.getElem?_eq_getElem hi)
   generalize W.bs[i] = pp at *
   refine ⟨q', _,rfl,SqT.of (g _ _ hqt), rfl,_,_,rfl,_,_,rfl,rfl,?_⟩
   refine ⟨Nat.zero_le _,fun l hl => ?_⟩
   have k0 := same_new hl (.lst [])
   have fl : H l = none := g.free hl
   have lf : l ≠ f := fun z => by rw [z, hf] at hl; cases hl
   have hl1 : upd H2 l (.lst []) l = some (.lst []) := upd_same
   have hf1' := k0 _ _ hf
   have rt1 := rt.ts k0.ts
   have gl := g.trans k0
   have wl := rt.1
   have rl := hN i
   have rn := hN (i + 1)
   rw [et, allL_snoc] at rn
   generalize upd H2 l (.lst []) = H3 at *
   refine ⟨_,rfl,f, rfl,⟨_,SqL.of hf1'⟩, for_list (K := K) (a := f) (xs := ws) (fun j σ H4 => ∃ (us : List V) (z : Option V), σ = [some (.ref ca), some (.ref f), some (.int pp.1), some (.int pp.2), some (.ref l), z] /\ Same H H4 /\ H4 f = some (.lst ws) /\ RowsT H4 ws (allL (W.bs.take i)) /\ H4 l = some (.lst us) /\ RowsT H4 us (((allL (W.bs.take i)).take j).flatMap (extL pp))) ?_ ?_ ?_ ?_⟩
   . exact ⟨[], _,rfl,gl, hf1', rt1, hl1, RowsT.nil⟩
   . rintro j σ H4 _ ⟨us, z, rfl,g4, hf4, _⟩
     exact SqL.of hf4
   . rintro j u σ H4 hu ⟨us, z, rfl,g4, hf4, rt4, hl4, ru4⟩
     obtain ⟨row, qr, hrow, rfl,hqr⟩ := rt4.at hu
     have hra := row_len (List.mem_of_getElem? hrow)
     rw [List.length_take] at hra
     have hj : j < ws.length := (List.getElem?_eq_some_iff.mp hu).1
     refine ⟨_,rfl,.inl ⟨rfl,_,SqL.of hl4⟩, _,rfl,_,rfl,_,_,rfl,rfl,pp.1, pp.2 + 1, rfl,⟨by first | decide | omega, by first | decide | omega, by first | omega | decide, by first | omega | decide⟩, fun D hD => ?_⟩
     have Dl : D ≠ l := fun z => by rw [z, hl4] at hD; cases hD
     refine comp_rangeR (n := (pp.2 + 1 - pp.1).toNat) (fun m ys H5 => Same H4 H5 /\ H5 D = some (.lst ys) /\ RowsT H5 ys ((extL pp row).take m)) ⟨same_new hD _,upd_same, by rw [List.take_zero]; exact RowsT.nil⟩ (fun m ys H5 hm hP => ?_) (fun ys H5 hP => ?_)
     . obtain ⟨g5, hD5, ry⟩ := hP
       have yl := ry.1
       rw [List.length_take] at yl
       have e3 := ext_99 bp row
       have em : (extL pp row)[m]? = some (row ++ [pp.1 + (m : Int)]) := by unfold extL; rw [List.getElem?_map, List.getElem?_range hm]; rfl
       refine ⟨agree0, iteT ⟨_,rfl,_,rfl,by show 1 <= sizeLine; decide, fun p1 hp1 => ?_⟩⟩
       have kp := same_new hp1 (.tup [.int (pp.1 + (m : Int))])
       have e1 : upd H5 p1 (.tup [.int (pp.1 + (m : Int))]) p1 = some (.tup [.int (pp.1 + (m : Int))]) := upd_same
       generalize upd H5 p1 (.tup [.int (pp.1 + (m : Int))]) = H6 at *
       refine ⟨qr, p1, _,_,rfl,rfl,kp _ _ (g5 _ _ hqr), e1, ?_,fun p2 H7 g7 h7 => ?_⟩
       . rw [List.length_map]
         exact Nat.le_trans (show _ + 1 <= 100 by omega) (by decide)
       have k7 := kp.trans g7
       have hD7 := k7 _ _ hD5
       refine ⟨hD7, Nat.lt_of_lt_of_le (show ys.length < 100 by omega) (by decide), (g5.trans k7).write hD _,upd_same, ?_⟩
       rw [G.take_snoc em]
       refine RowsT.snoc (ry.ts (k7.ts.trans (TSame.lst hD7 _))) ?_
       refine (TSame.lst hD7 _) _ _ ?_
       rw [h7, List.map_append]
       rfl
     obtain ⟨g5, hD5, ry⟩ := hP
     have el : (extL pp row).length = (pp.2 + 1 - pp.1).toNat := by unfold extL; rw [List.length_map, List.length_range]
     rw [List.take_of_length_le (by omega)] at ry
     have hl5 := g5 _ _ hl4
     have ul := ru4.1
     have ul4 : us.length <= 1000 := by
      have : us.length = (stepL ((allL (W.bs.take i)).take j) pp).length := ul
      have := step_take (allL (W.bs.take i)) pp j
      omega
     have yl := ry.1
     have e3 := ext_99 bp row
     refine ⟨l, D, us, ys, rfl,rfl,hl5, hD5, Nat.le_trans (show _ <= 2000 by omega) (by decide), ?_⟩
     have tsl : TSame H5 (upd H5 l (.lst (us ++ ys))) := TSame.lst hl5 _
     refine ⟨us ++ ys, _,rfl,(g4.trans g5).write fl _,by rw [upd_ne (Ne.symm lf)]; exact g5 _ _ hf4, (rt4.ts g5.ts).ts tsl, upd_same, ?_⟩
     rw [G.take_snoc hrow, List.flatMap_append, List.flatMap_cons, List.flatMap_nil, List.append_nil]
     exact ((ru4.ts g5.ts).ts tsl).append (ry.ts tsl)
   . rintro σ H4 ⟨us, z, rfl,g4, hf4, rt4, hl4, ru4⟩
     rw [rt.1, List.take_length] at ru4
     refine ⟨_,rfl,l, us, _,_,_,_,rfl,g4, fl, hl4, ?_⟩
     rw [et, allL_snoc]
     exact ru4
 . rintro σ H2 ⟨f, ws, x2, x3, x4, x5, rfl,g, ff, hf, rt⟩
   rw [AW.len, List.take_length] at rt
   exact ⟨_,rfl,q f ws H2 g ff hf rt⟩
def sp_hml : Sp := fun vs H Q _ => ∃ (v : V) (W : Wd), vs = [v] /\ Rep H v (encW W) /\ W.Ok /\ ∀ H', Same H H' -> Q (.int (allL W.bs).length) H'
theorem ok_how_many_lengths (T : Txt K mg) : FnOk P w K mg base (CXr P w) 6 T.how_many_lengths.a T.how_many_lengths.d ["world"] sp_hml := by
 refine T.how_many_lengths.F.okN sc_how_many_lengths (fun vs H Q E h => ?_) (fun cdv A outer s H vs Q E hr h => ?_)
 . obtain ⟨v, W, rfl,_⟩ := h; rfl
 obtain ⟨v, W, rfl,hW, hok, q⟩ := h
 refine ⟨_,(pss_cons (ps_expr (pe_call (ok_check_world T) (hr.mono (by decide)) rfl T.check_world.m T.check_world.F.kp T.check_world.b .nil passN (pa_cons (pv 0) pa_nil))) (pss_cons (ps_set (i := 1) sc_how_many_lengths.nd rfl (by first|exact .inl rfl|exact .inr rfl) pe_int) (pss_cons (ps_for PassesOwn.never rfl (pi_range1 rfl T.n_range (pa_cons (pe_call (ok_how_many_works T) (hr.mono (by decide)) rfl T.how_many_works.m T.how_many_works.F.kp T.how_many_works.b .nil passN (pa_cons (pv 0) pa_nil)) pa_nil)) (pg_name (i := 2) sc_how_many_lengths.nd rfl (by first|exact .inl rfl|exact .inr rfl)) (pss_one (ps_set (i := 1) sc_how_many_lengths.nd rfl (by first|exact .inl rfl|exact .inr rfl) (pe_op op_mul (pv 1) (pe_op op_add (pe_op op_sub (pe_call (ok_greatest_length T) (hr.mono (by decide)) rfl T.greatest_length.m T.greatest_length.F.kp T.greatest_length.b .nil passN (pa_cons (pv 0) (pa_cons (pv 2) pa_nil))) (pe_call (ok_least_length T) (hr.mono (by decide)) rfl T.least_length.m T.least_length.F.kp T.least_length.b .nil passN (pa_cons (pv 0) (pa_cons (pv 2) pa_nil)))) pe_int))))) (pss_one (ps_ret (pv 1)))))), ?_⟩
 have l10 := hok.l10
 refine ⟨_,rfl,v, encW W, rfl,hW, fun _ H1 g1 => ?_,fun z => by rw [isW_enc hok] at z; cases z⟩
 have hW1 := hW.mono g1
 refine ⟨_,rfl,v, W, rfl,hW1, _,rfl,by omega, by omega, ?_⟩
 rw [Int.toNat_natCast]
 refine for_range (n := W.bs.length) (fun i σ H2 => ∃ x2 : Option V, σ = [some v, some (.int (allL (W.bs.take i)).length), x2] /\ H2 = H1 /\ (allL (W.bs.take i)).length <= 99 ^ i) ⟨none, rfl,rfl,by rw [List.take_zero]; decide⟩ ?_ ?_
 . rintro i σ H2 hi ⟨x2, rfl,rfl,h99⟩
   have hx := List.getElem?_eq_getElem hi
   have b := hok.bd _ (List.getElem_mem hi)
   have eb : bnd W (0 + (i : Int)) = W.bs[i] := by
    unfold bnd
    rw [show (0 + (i : Int)).toNat = i by omega, List.getD_eq_getElem?_getD, hx]; rfl
   have en := all_n hx
   have p99 : (99 : Nat) ^ i <= 99 ^ 10 := Nat.pow_le_pow_right (by decide) (by omega)
   have c99 : (99 : Nat) ^ 10 < 2 ^ 70 := by decide
   refine ⟨_,rfl,_,rfl,_,rfl,v, W, 0 + (i : Int), rfl,hW1, by omega, by omega, _,rfl,_,rfl,v, W, 0 + (i : Int), rfl,hW1, by omega, by omega, _,_,rfl,rfl,_,_,rfl,rfl,_,_,rfl,rfl,?_,?_⟩
   . refine .inr ⟨?_,?_⟩ <;> rw [eb] <;> omega
   . refine ⟨some (.int (0 + (i : Int))), ?_,rfl,?_⟩
     . rw [eb, en]
       have : (((allL (W.bs.take i)).length : Nat) : Int) * ((W.bs[i]).2 - (W.bs[i]).1 + 1) = (((allL (W.bs.take i)).length * ((W.bs[i]).2 + 1 - (W.bs[i]).1).toNat : Nat) : Int) := by
        rw [Int.natCast_mul, show ((((W.bs[i]).2 + 1 - (W.bs[i]).1).toNat : Nat) : Int) = (W.bs[i]).2 - (W.bs[i]).1 + 1 by omega]
       exact congrArg (fun z : Int => [some v, some (V.int z), some (V.int (0 + (i : Int)))]) this
     . rw [en, Nat.pow_succ]
       exact Nat.mul_le_mul h99 (by omega)
 . rintro σ H2 ⟨x2, rfl,rfl,_⟩
   rw [List.take_length]
   exact ⟨_,rfl,q _ g1⟩
def sp_cmany : Sp := fun vs H Q _ => ∃ (v : V) (W : Wd), vs = [v] /\ Rep H v (encW W) /\ W.Ok /\ (allL W.bs).length <= 600 /\ ∀ H', Same H H' -> Q .non H'
theorem ok_check_many (T : Txt K mg) : FnOk P w K mg base (CXr P w) 7 T.check_many.a T.check_many.d ["world"] sp_cmany := by
 refine T.check_many.F.okN sc_check_many (fun vs H Q E h => ?_) (fun cdv A outer s H vs Q E hr h => ?_)
 . obtain ⟨v, W, rfl,_⟩ := h; rfl
 obtain ⟨v, W, rfl,hW, hok, hN, q⟩ := h
 refine ⟨_,(pss_one (ps_if (pt_cmpR op_gt (pe_call (ok_how_many_lengths T) (hr.mono (by decide)) rfl T.how_many_lengths.m T.how_many_lengths.F.kp T.how_many_lengths.b .nil passN (pa_cons (pv 0) pa_nil)) (pe_glob (v := .int 600) rfl T.c_MOST_LENGTHS_GONE_THROUGH.choose_spec ⟨_,rfl⟩) (nomark _)) pss_any pss_nil)), ?_⟩
 refine ⟨_,rfl,v, W, rfl,hW, hok, fun H1 g1 => ⟨_,_,rfl,rfl,_,rfl,if_f (decide_eq_false (by omega)) (q H1 g1)⟩⟩
def sp_alll : Sp := fun vs H Q _ => ∃ (v : V) (W : Wd), vs = [v] /\ Rep H v (encW W) /\ W.Ok /\ (∀ i, (allL (W.bs.take i)).length <= 1000) /\ ∀ (l : Addr) (ws : List V) (H' : Hp), Same H H' -> H l = none -> H' l = some (.lst ws) -> RowsT H' ws (allL W.bs) -> Q (.ref l) H'
set_option maxHeartbeats 1000000 in
theorem ok_all_lengths (T : Txt K mg) : FnOk P w K mg base (CXr P w) 2 T.all_lengths.a T.all_lengths.d ["world"] sp_alll := by
 refine T.all_lengths.F.okN sc_all_lengths (fun vs H Q E h => ?_) (fun cdv A outer s H vs Q E hr h => ?_)
 . obtain ⟨v, W, rfl,_⟩ := h; rfl
 obtain ⟨v, W, rfl,hW, hok, hN, q⟩ := h
 refine ⟨_,(pss_cons (ps_set (i := 1) sc_all_lengths.nd rfl (by first|exact .inl rfl|exact .inr rfl) (pe_lst (pa_cons (pe_tup pa_nil) pa_nil))) (pss_cons (ps_for PassesOwn.never rfl (pi_range1 rfl T.n_range (pa_cons (pe_call (ok_how_many_works T) (hr.mono (by decide)) rfl T.how_many_works.m T.how_many_works.F.kp T.how_many_works.b .nil passN (pa_cons (pv 0) pa_nil)) pa_nil)) (pg_name (i := 2) sc_all_lengths.nd rfl (by first|exact .inl rfl|exact .inr rfl)) (pss_cons (ps_set (i := 3) sc_all_lengths.nd rfl (by first|exact .inl rfl|exact .inr rfl) (pe_callTy (call_listR2 rfl) rfl T.n_list bt_list (pa_cons (pe_callTy call_rng2 rfl T.n_range bt_range (pa_cons (pe_call (ok_least_length T) (hr.mono (by decide)) rfl T.least_length.m T.least_length.F.kp T.least_length.b .nil passN (pa_cons (pv 0) (pa_cons (pv 2) pa_nil))) (pa_cons (pe_op op_add (pe_call (ok_greatest_length T) (hr.mono (by decide)) rfl T.greatest_length.m T.greatest_length.F.kp T.greatest_length.b .nil passN (pa_cons (pv 0) (pa_cons (pv 2) pa_nil))) pe_int) pa_nil))) pa_nil))) (pss_cons (ps_set (i := 4) sc_all_lengths.nd rfl (by first|exact .inl rfl|exact .inr rfl) (pe_lst pa_nil)) (pss_cons (ps_for PassesOwn.never rfl (pi_list (pv 1)) (pg_name (i := 5) sc_all_lengths.nd rfl (by first|exact .inl rfl|exact .inr rfl)) (pss_one (ps_expr (pe_bm PySem.F.plainAttrs_list PySem.F.slot_list_extend PySem.F.type_list_extend mt_extend (pv 4) (pa_cons (pe_comp (NB := ["length", "lengths"]) (js := [none, some 5]) rfl (blkOk_of rfl (by decide +kernel) rfl (by decide +kernel) (by decide +kernel) (by with_unfolding_all rfl) (by with_unfolding_all rfl) (by with_unfolding_all rfl) (by with_unfolding_all rfl)) (pi_list (pv 3)) (fun _ _ _ _ => (pg_name (i := 0) (show (["length", "lengths"] : List Str).Nodup by decide +kernel) rfl (by first|exact .inl rfl|exact .inr rfl))) (fun _ _ _ _ => pf_nil) (fun _ _ _ _ => (pe_op op_catA (pv 1) (pe_tup (pa_cons (pv 0) pa_nil))))) pa_nil))))) (pss_one (ps_set (i := 1) sc_all_lengths.nd rfl (by first|exact .inl rfl|exact .inr rfl) (pv 4))))))) (pss_one (ps_ret (pv 1))))), ?_⟩
 have l10 := hok.l10
 refine ⟨by show 0 <= sizeLine; decide, fun e0 he0 => ?_⟩
 have g0 := same_new he0 (.tup [])
 refine ⟨by show 1 <= sizeLine; decide, fun f0 hf0 => ?_⟩
 have g01 := same_new hf0 (.lst [.ref e0])
 have ff0 : H f0 = none := g0.free hf0
 have hf1 : upd (upd H e0 (.tup [])) f0 (.lst [.ref e0]) f0 = some (.lst [.ref e0]) := upd_same
 have he1 : upd (upd H e0 (.tup [])) f0 (.lst [.ref e0]) e0 = some (.tup (([] : List Int).map V.int)) := g01 _ _ upd_same
 have g1 := g0.trans g01
 generalize upd (upd H e0 (.tup [])) f0 (.lst [.ref e0]) = H1 at *
 refine ⟨_,rfl,v, W, rfl,hW.mono g1, _,rfl,by omega, by omega, ?_⟩
 rw [Int.toNat_natCast]
 refine for_range (n := W.bs.length) (fun i σ H2 => ∃ (f : Addr) (ws : List V) (x2 x3 x4 x5 : Option V), σ = [some v, some (.ref f), x2, x3, x4, x5] /\ Same H H2 /\ H f = none /\ H2 f = some (.lst ws) /\ RowsT H2 ws (allL (W.bs.take i))) ?_ ?_ ?_
 . exact ⟨f0, _,none, none, none, none, rfl,g1, ff0, hf1, RowsT.one he1⟩
 . rintro i σ H2 hi ⟨f, ws, x2, x3, x4, x5, rfl,g, ff, hf, rt⟩
   have bp := hok.bd _ (List.getElem_mem hi)
   have et : W.bs.take (i + 1) = W.bs.take i ++ [W.bs[i]] := G.take_snoc (List.getElem?_eq_getElem hi)
   have eb : bnd W (0 + (i : Int)) = W.bs[i] := by
    unfold bnd
    rw [show (0 + (i : Int)).toNat = i by omega, List.getD_eq_getElem?_getD, List.getElem?_eq_getElem hi]; rfl
   generalize W.bs[i] = pp at *
   have hW2 := hW.mono g
   refine ⟨_,rfl,_,rfl,v, W, 0 + (i : Int), rfl,hW2, by omega, by omega, _,rfl,_,rfl,v, W, 0 + (i : Int), rfl,hW2, by omega, by omega, _,_,rfl,rfl,?_⟩
   rw [eb]
   refine ⟨pp.1, pp.2 + 1, rfl,fun rg hrg => ?_⟩
   have kr := same_new hrg (.rng pp.1 (pp.2 + 1))
   refine ⟨rg, pp.1, pp.2 + 1, rfl,upd_same, by omega, by omega, by omega, fun lw hlw => ?_⟩
   have kw := same_new hlw (.lst ((List.range (pp.2 + 1 - pp.1).toNat).map fun (j : Nat) => V.int (pp.1 + (j : Int))))
   have elw : upd (upd H2 rg (.rng pp.1 (pp.2 + 1))) lw (.lst ((List.range (pp.2 + 1 - pp.1).toNat).map fun (j : Nat) => V.int (pp.1 + (j : Int)))) lw = some (.lst ((List.range (pp.2 + 1 - pp.1).toNat).map fun (j : Nat) => V.int (pp.1 + (j : Int)))) := upd_same
   have krw := kr.trans kw
   generalize upd (upd H2 rg (.rng pp.1 (pp.2 + 1))) lw (.lst ((List.range (pp.2 + 1 - pp.1).toNat).map fun (j : Nat) => V.int (pp.1 + (j : Int)))) = HW at *
   refine ⟨Nat.zero_le _,fun l hl => ?_⟩
   have k0 := krw.trans (same_new hl (.lst []))
   have fl : H l = none := (g.trans krw).free hl
   have lf : l ≠ f := fun z => by rw [z, krw _ _ hf] at hl; cases hl
   have lwl : lw ≠ l := fun z => by rw [<- z, elw] at hl; cases hl
   have hl1 : upd HW l (.lst []) l = some (.lst []) := upd_same
   have hf1' := k0 _ _ hf
   have elw' : upd HW l (.lst []) lw = some (.lst ((List.range (pp.2 + 1 - pp.1).toNat).map fun (j : Nat) => V.int (pp.1 + (j : Int)))) := same_new hl (.lst []) _ _ elw
   have rt1 := rt.ts k0.ts
   have gl := g.trans k0
   have wl := rt.1
   have rl := hN i
   have rn := hN (i + 1)
   rw [et, allL_snoc] at rn
   generalize upd HW l (.lst []) = H3 at *
   refine ⟨_,rfl,f, rfl,⟨_,SqL.of hf1'⟩, for_list (K := K) (a := f) (xs := ws) (fun j σ H4 => ∃ (us : List V) (z : Option V), σ = [some v, some (.ref f), some (.int (0 + (i : Int))), some (.ref lw), some (.ref l), z] /\ Same H H4 /\ H4 f = some (.lst ws) /\ H4 lw = some (.lst ((List.range (pp.2 + 1 - pp.1).toNat).map fun (j : Nat) => V.int (pp.1 + (j : Int)))) /\ RowsT H4 ws (allL (W.bs.take i)) /\ H4 l = some (.lst us) /\ RowsT H4 us (stepL ((allL (W.bs.take i)).take j) pp)) ?_ ?_ ?_ ?_⟩
   . exact ⟨[], _,rfl,gl, hf1', elw', rt1, hl1, RowsT.nil⟩
   . rintro j σ H4 _ ⟨us, z, rfl,g4, hf4, _⟩
     exact SqL.of hf4
   . rintro j u σ H4 hu ⟨us, z, rfl,g4, hf4, hlw4, rt4, hl4, ru4⟩
     obtain ⟨row, qr, hrow, rfl,hqr⟩ := rt4.at hu
     have hra := row_len (List.mem_of_getElem? hrow)
     rw [List.length_take] at hra
     have hj : j < ws.length := (List.getElem?_eq_some_iff.mp hu).1
     refine ⟨_,rfl,.inl ⟨rfl,_,SqL.of hl4⟩, _,rfl,lw, rfl,⟨_,SqL.of hlw4⟩, fun D hD => ?_⟩
     have Dl : D ≠ l := fun z => by rw [z, hl4] at hD; cases hD
     have e3 := ext_99 bp row
     refine comp_listR (K := K) (a := lw) (xs := (List.range (pp.2 + 1 - pp.1).toNat).map fun (j : Nat) => V.int (pp.1 + (j : Int))) (fun m ys H5 => Same H4 H5 /\ H5 D = some (.lst ys) /\ RowsT H5 ys ((extL pp row).take m)) ⟨same_new hD _,upd_same, by rw [List.take_zero]; exact RowsT.nil⟩ (fun m ys H5 _ hP => SqL.of (hP.1 _ _ hlw4)) (fun m ys y H5 hy hP => ?_) (fun ys H5 hP => ?_)
     . obtain ⟨g5, hD5, ry⟩ := hP
       have hm : m < (pp.2 + 1 - pp.1).toNat := by
        have := (List.getElem?_eq_some_iff.mp hy).1
        rw [List.length_map, List.length_range] at this
        exact this
       rw [List.getElem?_map, List.getElem?_range hm] at hy
       obtain rfl := Option.some.inj hy
       have yl := ry.1
       rw [List.length_take] at yl
       have em : (extL pp row)[m]? = some (row ++ [pp.1 + (m : Int)]) := by unfold extL; rw [List.getElem?_map, List.getElem?_range hm]; rfl
       refine ⟨agree0, iteT ⟨_,rfl,_,rfl,by show 1 <= sizeLine; decide, fun p1 hp1 => ?_⟩⟩
       have kp := same_new hp1 (.tup [.int (pp.1 + (m : Int))])
       have e1 : upd H5 p1 (.tup [.int (pp.1 + (m : Int))]) p1 = some (.tup [.int (pp.1 + (m : Int))]) := upd_same
       generalize upd H5 p1 (.tup [.int (pp.1 + (m : Int))]) = H6 at *
       refine ⟨qr, p1, _,_,rfl,rfl,kp _ _ (g5 _ _ hqr), e1, ?_,fun p2 H7 g7 h7 => ?_⟩
       . rw [List.length_map]
         exact Nat.le_trans (show _ + 1 <= 100 by omega) (by decide)
       have k7 := kp.trans g7
       have hD7 := k7 _ _ hD5
       refine ⟨hD7, Nat.lt_of_lt_of_le (show ys.length < 100 by omega) (by decide), (g5.trans k7).write hD _,upd_same, ?_⟩
       rw [G.take_snoc em]
       refine RowsT.snoc (ry.ts (k7.ts.trans (TSame.lst hD7 _))) ?_
       refine (TSame.lst hD7 _) _ _ ?_
       rw [h7, List.map_append]
       rfl
     obtain ⟨g5, hD5, ry⟩ := hP
     rw [List.length_map, List.length_range, <- ext_n pp row, List.take_length] at ry
     have hl5 := g5 _ _ hl4
     have ul := ru4.1
     have ul4 : us.length <= 1000 := by
      have : us.length = (stepL ((allL (W.bs.take i)).take j) pp).length := ul
      have := step_take (allL (W.bs.take i)) pp j
      omega
     have yl := ry.1
     refine ⟨l, D, us, ys, rfl,rfl,hl5, hD5, Nat.le_trans (show _ <= 2000 by omega) (by decide), ?_⟩
     have tsl : TSame H5 (upd H5 l (.lst (us ++ ys))) := TSame.lst hl5 _
     refine ⟨us ++ ys, _,rfl,(g4.trans g5).write fl _,by rw [upd_ne (Ne.symm lf)]; exact g5 _ _ hf4, by rw [upd_ne lwl]; exact g5 _ _ hlw4, (rt4.ts g5.ts).ts tsl, upd_same, ?_⟩
     unfold stepL
     rw [G.take_snoc hrow, List.flatMap_append, List.flatMap_cons, List.flatMap_nil, List.append_nil]
     exact ((ru4.ts g5.ts).ts tsl).append (ry.ts tsl)
   . rintro σ H4 ⟨us, z, rfl,g4, hf4, hlw4, rt4, hl4, ru4⟩
     rw [rt.1, List.take_length] at ru4
     refine ⟨_,rfl,l, us, _,_,_,_,rfl,g4, fl, hl4, ?_⟩
     rw [et, allL_snoc]
     exact ru4
 . rintro σ H2 ⟨f, ws, x2, x3, x4, x5, rfl,g, ff, hf, rt⟩
   rw [List.take_length] at rt
   exact ⟨_,rfl,q f ws H2 g ff hf rt⟩
end
end Be
set_option Elab.async false
set_option linter.all false
set_option maxRecDepth 100000
namespace BE
open PySem PySem.Spec PyProof.Rows
section
variable {prog : Program} {w : World} {A : Around} {E : Value -> Shared -> Prop} {s : Shared}
theorem next_item {it d : Addr} {i ep : Nat} {es : Array DictEntry} {o : Obj} {e : DictEntry} {Q : Option Value -> Shared -> Prop}
    (hit : s.heap.IsKeyIter it d i es.size ep) (ho : s.heap.get? d = some o) (hd : o.data = .dict es ep) (he : es[i]? = some e)
    (q : ∀ h' : Heap, h'.IsKeyIter it d (i + 1) es.size ep -> Heap.SameBut it s.heap h' -> Q (some e.key) { s with heap := h' }) :
    wpAny (model prog w) A (pyNext (.ref it)) Q E s := by
 have hT : s.TypeIs (.ref it) "dict_keyiterator" := hit.typeIs
 obtain ⟨oi, hoi, hci, hdi⟩ := hit
 unfold pyNext
 refine wpAny_bind (wpAny_attempt (wpAny_callSpecial?_slot hT F.slot_dict_keyiterator_next (wpAny_call_entry F.slot_dict_keyiterator_next hT F.entry_dict_keyiterator_next ?_ (F.args_dict_keyiterator_next_1 _))))
 unfold Builtin.«dict_keyiterator.__next__»
 wp_delta
 refine wpAny_bind (wpAny_pure ?_)
 refine wpAny_bind ?_
 wp_delta
 refine wpAny_bind ?_
 wp_delta
 refine wpAny_bind (wpAny_typeNameOfWhole_keyiter hT ?_)
 refine wpAny_pure ?_
 refine wpAny_bind (wpAny_fieldsOf hoi hdi ?_)
 have ow : Builtin.Dict_items.ownsTuple "dict_keyiterator" = false := by decide
 have hn : (Value.ref d == Value.none) = false := by simp
 rw [ow]
 simp only [Bool.false_eq_true, if_false, List.drop_zero]
 show wpAny (model prog w) A.in1 (if (Value.ref d == Value.none) = true then _ else _) _ _ _
 rw [hn]
 simp only [Bool.false_eq_true, if_false]
 refine wpAny_bind (wpAny_pure ?_)
 refine wpAny_bind (wpAny_dictEntries ho hd ?_)
 simp only [bne_self_eq_false, Bool.false_eq_true, if_false]
 refine wpAny_bind (wpAny_pure ?_)
 refine wpAny_bind (wpAny_dictEpoch ho hd ?_)
 simp only [bne_self_eq_false, Bool.false_eq_true, if_false]
 refine wpAny_pure ?_
 have hi : ¬ ((i : Int) < 0) := by omega
 simp only [hi, if_false, Int.toNat_natCast, he]
 refine wpAny_bind ?_
 wp_delta
 refine wpAny_bind (wpAny_typeNameOfWhole_keyiter hT ?_)
 refine wpAny_pure ?_
 rw [ow]
 simp only [Bool.false_eq_true, if_false]
 refine wpAny_bind (wpAny_isOneOf_keyiter hT ?_)
 rw [if_neg (by decide)]
 refine wpAny_bind (wpAny_setField hoi hdi (by show 1 < 4; omega) ?_)
 have hb := Heap.SameBut.update s.heap it (Obj.mapFields fun x => x.setIfInBounds (0 + 1) (rawInt ((i : Int) + 1)))
 have hk : (s.heap.update it (Obj.mapFields fun x => x.setIfInBounds (0 + 1) (rawInt ((i : Int) + 1)))).IsKeyIter it d (i + 1) es.size ep :=
  ⟨_,Heap.get?_update_self _ hoi (Obj.isFreed_of_fields (Obj.data_mapFields hdi _)), (Obj.cls_mapFields _ _).trans hci, (Obj.data_mapFields hdi _).trans rfl⟩
 generalize s.heap.update it (Obj.mapFields fun x => x.setIfInBounds (0 + 1) (rawInt ((i : Int) + 1))) = h' at *
 refine wpAny_bind (wpAny_holding ?_)
 wp_delta
 have hT' : Shared.TypeIs { s with heap := h' } (.ref it) "dict_keyiterator" := hk.typeIs (s := { s with heap := h' })
 refine wpAny_bind (wpAny_isOneOf_keyiter hT' ?_)
 rw [if_pos (by decide)]
 refine wpAny_pure ?_
 exact wpAny_pure ⟨_,rfl,wpAny_pure (q h' hk hb)⟩
theorem next_end {it d : Addr} {i ep : Nat} {es : Array DictEntry} {o : Obj} {Q : Option Value -> Shared -> Prop} (hh : A.handled = none)
    (hit : s.heap.IsKeyIter it d i es.size ep) (ho : s.heap.get? d = some o) (hd : o.data = .dict es ep) (he : es[i]? = none)
    (q : ∀ h' : Heap, Heap.ExtBut it s.heap h' -> Q none { s with heap := h' }) :
    wpAny (model prog w) A (pyNext (.ref it)) Q E s := by
 have hT : s.TypeIs (.ref it) "dict_keyiterator" := hit.typeIs
 obtain ⟨oi, hoi, hci, hdi⟩ := hit
 unfold pyNext
 refine wpAny_bind (wpAny_attempt (wpAny_callSpecial?_slot hT F.slot_dict_keyiterator_next (wpAny_call_entry F.slot_dict_keyiterator_next hT F.entry_dict_keyiterator_next ?_ (F.args_dict_keyiterator_next_1 _))))
 unfold Builtin.«dict_keyiterator.__next__»
 wp_delta
 refine wpAny_bind (wpAny_pure ?_)
 refine wpAny_bind ?_
 wp_delta
 refine wpAny_bind ?_
 wp_delta
 refine wpAny_bind (wpAny_typeNameOfWhole_keyiter hT ?_)
 refine wpAny_pure ?_
 refine wpAny_bind (wpAny_fieldsOf hoi hdi ?_)
 have ow : Builtin.Dict_items.ownsTuple "dict_keyiterator" = false := by decide
 have hn : (Value.ref d == Value.none) = false := by simp
 rw [ow]
 simp only [Bool.false_eq_true, if_false, List.drop_zero]
 show wpAny (model prog w) A.in1 (if (Value.ref d == Value.none) = true then _ else _) _ _ _
 rw [hn]
 simp only [Bool.false_eq_true, if_false]
 refine wpAny_bind (wpAny_pure ?_)
 refine wpAny_bind (wpAny_dictEntries ho hd ?_)
 simp only [bne_self_eq_false, Bool.false_eq_true, if_false]
 refine wpAny_bind (wpAny_pure ?_)
 refine wpAny_bind (wpAny_dictEpoch ho hd ?_)
 simp only [bne_self_eq_false, Bool.false_eq_true, if_false]
 refine wpAny_pure ?_
 have hi : ¬ ((i : Int) < 0) := by omega
 simp only [hi, if_false, Int.toNat_natCast, he]
 refine wpAny_bind ?_
 wp_delta
 refine wpAny_bind (wpAny_typeNameOfWhole_keyiter hT ?_)
 refine wpAny_pure ?_
 rw [ow]
 simp only [Bool.false_eq_true, if_false]
 refine wpAny_bind (wpAny_setField hoi hdi (by show 0 < 4; omega) ?_)
 have hb := (Heap.SameBut.update s.heap it (Obj.mapFields fun x => x.setIfInBounds 0 Value.none)).extBut
 generalize s.heap.update it (Obj.mapFields fun x => x.setIfInBounds 0 Value.none) = h' at *
 refine wpAny_bind ?_
 unfold newExc
 refine wpAny_bind (wpAny_newObj_type ?_)
 refine wpAny_bind (wpAny_of_eq rfl ?_)
 refine wpAny_newObj_type ?_ (sizeOk_excFields _ _ _ _ _ _ _ _)
 unfold raiseNew
 refine wpAny_bind (wpAny_handled ?_)
 rw [show A.in1.handled = none from hh]
 refine wpAny_throw ?_
 refine wpAny_bind (wpAny_isInstance ⟨_,Heap.get?_push_size _ rfl,rfl⟩ isSubtype_stop ?_)
 exact wpAny_pure (q _ ((hb.push _).push _))
theorem iter_dict {d : Addr} {ep : Nat} {es : Array DictEntry} {o : Obj} {Q : Value -> Shared -> Prop} (hs : (d == sysModules) = false) (ho : s.heap.get? d = some o) (hx : o.ExactDict) (hd : o.data = .dict es ep)
    (q : Q (.ref s.heap.objs.size) { s with heap := s.heap.push { cls := .type "dict_keyiterator", data := .fields #[.ref d, .int 0 0, .int es.size 0, .int ep 0] } }) : wpAny (model prog w) A (pyIter (.ref d)) Q E s := by
 have hT : s.TypeIs (.ref d) "dict" := ⟨o, ho, hx.1⟩
 refine wpAny_pyIter_slot hT F.slot_dict_iter (wpAny_call_entry F.slot_dict_iter hT F.entry_dict_iter ?_ (F.args_dict_iter_1 _))
 unfold Builtin.«dict.__iter__»
 unfold Builtin.Dict.dictSlotNone
 refine wpAny_bind (wpAny_bind (wpAny_notOrdered_dict hT ?_))
 refine wpAny_bind (wpAny_pure ?_)
 refine wpAny_pure ?_
 refine wpAny_bind (wpAny_pure ?_)
 refine wpAny_bind ?_
 unfold Builtin.Dict.showsAll
 rw [hs]
 simp only [Bool.false_eq_true, if_false]
 refine wpAny_pure ?_
 refine wpAny_bind (wpAny_dictEntries ho hd (wpAny_bind (wpAny_dictEpoch ho hd (wpAny_bind (wpAny_newObj_type ?_)))))
 exact wpAny_pure ⟨_,rfl,"dict_keyiterator", _,⟨_,Heap.get?_push_size _ rfl,rfl⟩, F.slot_dict_keyiterator_next.lookup, q⟩
def AnyD (h : Heap) (d : Addr) (es : Array DictEntry) (ep : Nat) : Prop := ∃ o, h.get? d = some o /\ o.ExactDict /\ o.data = .dict es ep
theorem walks_dict (hh : A.handled = none) (I d : Addr) (hne : d ≠ I) (es : Array DictEntry) (ep : Nat) : Walks prog w A I [I, d] [I] es.size (fun i v => ∃ e, es[i]? = some e /\ v = e.key) fun i h => h.IsKeyIter I d i es.size ep /\ AnyD h d es ep where
 sub := fun b hb => by simp at hb; simp [hb]
 frame := fun i h h' st k => ⟨st.1.at fun o e => k I (by simp) o e, let ⟨o, ho, r⟩ := st.2; ⟨o, k d (by simp) o ho, r⟩⟩
 item := fun i s Q E hi st q => by
  obtain ⟨o, ho, hx, hd⟩ := st.2
  have he : es[i]? = some es[i] := Array.getElem?_eq_getElem hi
  refine next_item st.1 ho hd he fun h' st' sb => ?_
  refine q _ h' s.toks ⟨_,he, rfl⟩ ⟨st', o, (sb.2 d hne).trans ho, hx, hd⟩ fun b o hb e => (sb.2 b (by simpa using hb)).trans e
 done := fun s Q E st q => by
  obtain ⟨o, ho, hx, hd⟩ := st.2
  exact next_end hh st.1 ho hd (Array.getElem?_eq_none (Nat.le_refl _)) fun h' eb => q h' s.toks fun b o hb e => eb b o (by simpa using hb) e
 self := fun i s Q E st q => wpAny_pyIter_keyiter st.1 q
theorem src_dict {d : Addr} {es : Array DictEntry} {ep : Nat} (hs : (d == sysModules) = false) : W.KdlSrc prog w "dict" d d es.size (fun i v => ∃ e, es[i]? = some e /\ v = e.key) (fun h => AnyD h d es ep) where
 type := fun s ⟨o, ho, hx, _⟩ => ⟨o, ho, hx.1⟩
 there := fun h ⟨o, ho, _⟩ => ⟨Heap.lt_size ho, Heap.lt_size ho⟩
 keep := fun h h' ⟨o, ho, r⟩ k => ⟨o, k d (.inl rfl) o ho, r⟩
 notList := by decide
 notTuple := by decide
 hint := fun A E s Q ⟨o, ho, hx, _⟩ q => hint_dict ⟨o, ho, hx.1⟩ q
 iter := fun A s hh ok => by
  obtain ⟨o, ho, hx, hd⟩ := id ok
  refine ⟨_,_,fun E Q q => iter_dict hs ho hx hd q, walks_dict hh s.heap.objs.size d (Nat.ne_of_lt (Heap.lt_size ho)) es ep, ⟨_,Heap.get?_push_size _ rfl,rfl,rfl⟩, o, Heap.get?_push_of_some _ ho, hx, hd⟩
end
end BE
set_option Elab.async false
set_option linter.all false
set_option maxRecDepth 100000
namespace BE
open PySem PySem.W PySem.Spec PyProof.Rows
def kT : List Int -> Int
 | [] => 0
 | x :: xs => x * 1000 ^ xs.length + kT xs
def RgT (m : Nat) (k : List Int) : Prop := k.length = m /\ 1 <= m /\ ∀ x ∈ k, 0 <= x /\ x < 1000
theorem kT_rg : ∀ {k : List Int}, (∀ x ∈ k, 0 <= x /\ x < 1000) -> 0 <= kT k /\ kT k < 1000 ^ k.length
 | [], _ => ⟨Int.le_refl _,by decide⟩
 | x :: xs, h => by
  have ih := kT_rg (k := xs) fun y hy => h y (List.mem_cons_of_mem _ hy)
  have hx := h x List.mem_cons_self
  show 0 <= x * 1000 ^ xs.length + kT xs /\ x * 1000 ^ xs.length + kT xs < 1000 ^ (xs.length + 1)
  rw [Int.pow_succ]
  generalize (1000 : Int) ^ xs.length = B at *
  have h0 : 0 <= B := by omega
  have h1 : 0 <= x * B := Int.mul_nonneg hx.1 h0
  have h2 : x * B <= 999 * B := Int.mul_le_mul_of_nonneg_right (by omega) h0
  constructor <;> omega
theorem kT_lt {x y : Int} {xs ys : List Int} (hl : xs.length = ys.length) (hx : ∀ z ∈ xs, 0 <= z /\ z < 1000) (hy : ∀ z ∈ ys, 0 <= z /\ z < 1000) (h : x < y) : kT (x :: xs) < kT (y :: ys) := by
 have a := kT_rg hx
 have b := kT_rg hy
 show x * 1000 ^ xs.length + kT xs < y * 1000 ^ ys.length + kT ys
 rw [<- hl] at b ⊢
 generalize (1000 : Int) ^ xs.length = B at *
 have h0 : 0 <= B := by omega
 have h2 : (x + 1) * B <= y * B := Int.mul_le_mul_of_nonneg_right (by omega) h0
 rw [Int.add_mul] at h2
 omega
theorem kT_cons {x : Int} {xs ys : List Int} (hl : xs.length = ys.length) : decide (kT (x :: xs) < kT (x :: ys)) = decide (kT xs < kT ys) := by
 show decide (x * 1000 ^ xs.length + kT xs < x * 1000 ^ ys.length + kT ys) = _
 rw [hl]
 generalize x * (1000 : Int) ^ ys.length = B
 exact decide_eq_decide.mpr ⟨fun h => by omega, fun h => by omega⟩
def IV : List Value -> List Int -> Prop
 | [], [] => True
 | u :: us, x :: xs => (∃ t, u = .int x t) /\ IV us xs
 | _,_ => False
theorem IV.len : ∀ {us : List Value} {xs : List Int}, IV us xs -> us.length = xs.length
 | [], [], _ => rfl
 | u :: us, x :: xs, h => by rw [List.length_cons, List.length_cons, IV.len h.2]
 | [], _ :: _,h => h.elim
 | _ :: _,[], h => h.elim
def TT (h : Heap) (vs : List Value) (ps : List (List Int)) : Prop := vs.length = ps.length /\ ∀ (i : Nat) (p : List Int), ps[i]? = some p -> ∃ q o us n, vs[i]? = some (.ref q) /\ h.get? q = some o /\ o.cls = .type "tuple" /\ o.data = .seq us n /\ IV us.toList p
def keyT (ps : List (List Int)) (i : Nat) : Int := kT (ps.getD i [])
theorem TT.mv {h h' : Heap} {vs : List Value} {ps : List (List Int)} (x : TT h vs ps) (e : ∀ q o, h.get? q = some o -> o.cls = .type "tuple" -> h'.get? q = some o) : TT h' vs ps := ⟨x.1, fun i p hp => by
 obtain ⟨q, o, us, n, h1, h2, h3, h4⟩ := x.2 i p hp
 exact ⟨q, o, us, n, h1, e q o h2 h3, h3, h4⟩⟩
theorem tt_firsts {h : Heap} {m : Nat} : ∀ {vs : List Value} {ps : List (List Int)}, (∀ p ∈ ps, RgT m p) -> TT h vs ps -> ∃ fs : List Value, KatTups h vs fs /\ fs.length = vs.length /\ ∀ f ∈ fs, ∃ x t, f = .int x t
 | [], ps, _,x => ⟨[], trivial, rfl,fun f hf => by cases hf⟩
 | v :: vs, [], _,x => by have := x.1; simp at this
 | v :: vs, p :: ps, hr, x => by
  obtain ⟨q, o, us, n, h1, h2, h3, h4, h5⟩ := x.2 0 p rfl
  have ev : v = .ref q := by simpa using h1
  subst ev
  obtain ⟨fs, k, l, a⟩ := tt_firsts (h := h) (m := m) (vs := vs) (ps := ps) (fun p hp => hr p (List.mem_cons_of_mem _ hp)) ⟨by have := x.1; simpa using this, fun i p' hp => by
   obtain ⟨q, o, us, n, h1, r⟩ := x.2 (i + 1) p' (by simpa using hp)
   exact ⟨q, o, us, n, by simpa using h1, r⟩⟩
  have rp := hr p List.mem_cons_self
  obtain ⟨u0, t0, hu0⟩ : ∃ y t, us[0]? = some (.int y t) := by
   cases p with
   | nil => have := rp.1; have := rp.2.1; simp at *; omega
   | cons y ys =>
    cases hu : us.toList with
    | nil => rw [hu] at h5; exact h5.elim
    | cons u us' =>
     rw [hu] at h5
     obtain ⟨t, rfl⟩ := h5.1
     refine ⟨y, t, ?_⟩
     rw [<- Array.getElem?_toList, hu]; rfl
  refine ⟨.int u0 t0 :: fs, KatTups.cons h2 h3 h4 hu0 k, by rw [List.length_cons, List.length_cons, l], fun f hf => ?_⟩
  rcases List.mem_cons.mp hf with rfl | hf
  . exact ⟨_,_,rfl⟩
  . exact a f hf
section
variable {prog : Program} {w : World} {A : Around} {E : Value -> Shared -> Prop} {s : Shared}
theorem lex_t {C : Bool -> Shared -> Prop} : ∀ {xs ys : List Int} {us vs : List Value} {i : Nat}, xs.length = ys.length -> (∀ z ∈ xs, 0 <= z /\ z < 1000) -> (∀ z ∈ ys, 0 <= z /\ z < 1000) -> IV us xs -> IV vs ys -> C (decide (kT xs < kT ys)) s -> KatLex prog w A true false C (us.zip vs) i s
 | [], [], [], [], i, _,_,_,_,_,h => kat_nil h
 | x :: xs, y :: ys, u :: us, v :: vs, i, hl, hx, hy, hu, hv, h => by
  obtain ⟨⟨t1, rfl⟩, hu⟩ := hu
  obtain ⟨⟨t2, rfl⟩, hv⟩ := hv
  have hl' : xs.length = ys.length := by simpa using hl
  have hx' : ∀ z ∈ xs, 0 <= z /\ z < 1000 := fun z hz => hx z (List.mem_cons_of_mem _ hz)
  have hy' : ∀ z ∈ ys, 0 <= z /\ z < 1000 := fun z hz => hy z (List.mem_cons_of_mem _ hz)
  refine kat_cons (wpAny_eqBool_int (kat_go (fun c => kat_yes ?_) (fun c => kat_no ?_)))
  . have e : x = y := beq_iff_eq.mp c
    subst e
    rw [kT_cons hl'] at h
    exact lex_t hl' hx' hy' hu hv h
  . have ne : x ≠ y := fun z => by rw [z, beq_self_eq_true] at c; cases c
    have e : decide (x < y) = decide (kT (x :: xs) < kT (y :: ys)) := by
     by_cases d : x < y
     . rw [decide_eq_true d, decide_eq_true (kT_lt hl' hx' hy' d)]
     . rw [decide_eq_false d, decide_eq_false (Int.lt_asymm (kT_lt hl'.symm hy' hx' (by omega)))]
    rw [<- e] at h
    cases i with
    | zero => exact oneLt_int h
    | succ n => exact kat_one _ _ (lt_int h)
 | [], [], _ :: _,_,_,_,_,_,h, _,_ => h.elim
 | [], [], [], _ :: _,_,_,_,_,_,h, _ => h.elim
 | _ :: _,_,[], _,_,_,_,_,h, _,_ => h.elim
 | _,_ :: _,_,[], _,_,_,_,_,h, _ => h.elim
 | [], _ :: _,_,_,_,hl, _,_,_,_,_ => by simp at hl
 | _ :: _,[], _,_,_,hl, _,_,_,_,_ => by simp at hl
theorem tup_lt {vs : List Value} {ps : List (List Int)} {i j m : Nat} {C : Bool -> Shared -> Prop} (x : TT s.heap vs ps) (hr : ∀ p ∈ ps, RgT m p) (hi : i < vs.length) (hj : j < vs.length) (hC : C (kl (keyT ps) i j) s) :
    kas_ask prog w A (tuples' true) vs i j C s := by
 have hi' : i < ps.length := by rw [<- x.1]; exact hi
 have hj' : j < ps.length := by rw [<- x.1]; exact hj
 obtain ⟨q1, o1, us1, n1, a1, b1, _,d1, v1⟩ := x.2 i _ (List.getElem?_eq_getElem hi')
 obtain ⟨q2, o2, us2, n2, a2, b2, _,d2, v2⟩ := x.2 j _ (List.getElem?_eq_getElem hj')
 have r1 := hr _ (List.getElem_mem hi')
 have r2 := hr _ (List.getElem_mem hj')
 have k1 : keyT ps i = kT ps[i] := by unfold keyT; rw [List.getD_eq_getElem?_getD, List.getElem?_eq_getElem hi']; rfl
 have k2 : keyT ps j = kT ps[j] := by unfold keyT; rw [List.getD_eq_getElem?_getD, List.getElem?_eq_getElem hj']; rfl
 have e1 : vs.getD i Value.none = .ref q1 := by rw [List.getD_eq_getElem?_getD, a1]; rfl
 have e2 : vs.getD j Value.none = .ref q2 := by rw [List.getD_eq_getElem?_getD, a2]; rfl
 unfold kas_ask
 rw [e1, e2]
 unfold kl at hC
 rw [k1, k2] at hC
 refine kat_lt b1 d1 b2 d2 ?_
 have l1 := v1.len
 have l2 := v2.len
 rw [Array.length_toList] at l1 l2
 rw [decide_eq_false (show ¬ us1.size < us2.size by rw [l1, l2, r1.1, r2.1]; omega)]
 exact lex_t (r1.1.trans r2.1.symm) r1.2.2 r2.2.2 v1 v2 hC
theorem sortT_tree {a : Addr} {vs : List Value} {ps : List (List Int)} {n m : Nat} {P : PySem.Fin -> Shared -> Prop} (ho : s.heap.get? a = some (seqObj "list" vs.toArray n)) (x : TT s.heap vs ps) (hr : ∀ p ∈ ps, RgT m p) (h64 : vs.length < 64)
    (q : ∀ ix : List Nat, ix.Perm (List.range vs.length) -> ix.Pairwise (fun i j => keyT ps i <= keyT ps j) -> P (.done (.ret .none)) { s with heap := sortedHeap s.heap a vs (List.toArray (ix.map fun i => vs.getD i Value.none)) }) :
    wpAny (model prog w) A (Builtin.«list.sort» ⟨[.ref a], []⟩) P E s := by
 rw [list_sort_plain]; have alt : a < s.heap.objs.size := Heap.lt_size ho
 refine wpAny_bind (listItems_at ho rfl (wpAny_bind (listUpdate_at ho rfl ?_)))
 obtain ⟨e1, b1⟩ : ∃ e1, (s.heap.update a (Obj.mapSeq fun _ => #[])).get? a = some (seqObj "list" #[] e1) := ⟨_,get?_update_seq ho (fun _ => #[])⟩
 refine wpAny_bind (seqEpoch_at b1 rfl (wpAny_bind (wpAny_newTuple (wpAny_bind (wpAny_newList (wpAny_holding ?_))))))
 have b6 : (((s.heap.update a (Obj.mapSeq fun _ => #[])).push (seqObj "tuple" vs.toArray 0)).push (seqObj "list" #[] 0)).get? a = some (seqObj "list" #[] e1) := Heap.get?_push_of_some _ (Heap.get?_push_of_some _ b1)
 have x6 : TT (((s.heap.update a (Obj.mapSeq fun _ => #[])).push (seqObj "tuple" vs.toArray 0)).push (seqObj "list" #[] 0)) vs ps := x.mv fun b o e hc => by
  have ne : b ≠ a := fun z => by
   rw [z, ho] at e
   cases e
   exact absurd (Value.type.inj hc) (by decide)
  exact Heap.get?_push_of_some _ (Heap.get?_push_of_some _ (by rw [Heap.get?_update_ne _ _ _ _ ne]; exact e))
 show wpAny (model prog w) A _ P E { s with heap := ((s.heap.update a (Obj.mapSeq fun _ => #[])).push (seqObj "tuple" vs.toArray 0)).push (seqObj "list" #[] 0) }
 dsimp only
 have hsz : vs.toArray.size = vs.length := by simp
 by_cases h2 : vs.toArray.size < 2
 . rw [if_pos h2, if_pos h2]
   refine wpAny_bind (wpAny_pure ?_); rw [StateT.run_pure]; refine wpAny_bind (wpAny_pure ?_)
   dsimp only
   refine wpAny_bind (seqEpoch_at b6 rfl (wpAny_bind (listUpdate_at b6 rfl ?_ (hsz2 := by rw [Array.size_map]; show (pairsOf vs).size <= _; rw [pairsOf_size, sizeLine_eq]; omega))))
   simp only [bne_self_eq_false, Bool.false_eq_true, if_false]
   have eo : (arrOf (SortSt.mk' general' (vs.toArray.zip vs.toArray) #[] 7 none)).map (·.2) = List.toArray ((List.range vs.length).map fun i => vs.getD i Value.none) := by
    have ea : arrOf (SortSt.mk' general' (vs.toArray.zip vs.toArray) #[] 7 none) = vs.toArray.zip vs.toArray := rfl
    rw [ea]
    exact few_out (by omega)
   have fin := q (List.range vs.length) (List.Perm.refl _) (few_pw (by omega))
   rw [<- eo] at fin
   exact wpAny_pure fin
 . rw [if_neg h2, if_neg h2]
   have h2' : 2 <= vs.length := by omega
   obtain ⟨fs, kt, fl, fi⟩ := tt_firsts hr x6
   refine wpAny_bind (kat_kind (T := .type "int") kt (by omega) (fun v hv => ?_) rfl ?_)
   . obtain ⟨y, t, rfl⟩ := fi v hv
     exact Looks.of_pure rfl
   show wpAny _ _ _ _ _ _
   have kx : (Value.type "int" != Value.type "tuple") = true := by rfl
   rw [kx]
   generalize hS : ({ s with heap := ((s.heap.update a (Obj.mapSeq fun _ => #[])).push (seqObj "tuple" vs.toArray 0)).push (seqObj "list" #[] 0) } : Shared) = S at *
   have xS : TT S.heap vs ps := by rw [<- hS]; exact x6
   refine wpAny_bind (wpAny_mono (kat_run (κ := tuples' true) (ks := vs) (vs := vs) (Q := fun st' s' => s' = S /\ failedOf st' = none /\ ∃ p : Array Nat, arrOf st' = p.map (kas_item (vs.toArray.zip vs.toArray)) /\ p = ev (kl (keyT ps)) (kas_sort vs.length))
    (G := fun p s' => s' = S /\ p = ev (kl (keyT ps)) (kas_sort vs.length)) rfl h2' h64 (fun p st' s' _ e f g => ⟨g.1, f, p, e, g.2⟩)
    (AllP.wp (fun i j C hi hj hC => tup_lt xS hr hi hj hC) _ (ok_sort (by omega)) ⟨rfl,rfl⟩)) (fun r s' hq => ?_) fun _ _ e => e)
   obtain ⟨⟨⟩, st'⟩ := r
   obtain ⟨rfl,hf, p, hp, ep⟩ := hq
   obtain ⟨p2, e2, pm, up⟩ := ev_sort (key := keyT ps) h2'
   have epp : p = p2 := ep.trans e2
   subst epp
   have pml : p.toList.Perm (List.range vs.length) := by
    have := Array.perm_iff_toList_perm.mp pm
    simpa using this
   have psz : p.size = vs.length := by rw [pm.size_eq]; simp
   have sn := kat_snds (ks := vs) (vs := vs) rfl hp
   subst hS
   dsimp only
   refine wpAny_bind (seqEpoch_at b6 rfl (wpAny_bind (listUpdate_at b6 rfl ?_ (hsz2 := by show ((arrOf st').map (·.2)).size <= _; rw [sn, List.size_toArray, List.length_map, pml.length_eq, List.length_range, sizeLine_eq]; omega))))
   rw [show failedOf (st' : SortSt) = none from hf]
   simp only [bne_self_eq_false, Bool.false_eq_true, if_false]
   have pw : p.toList.Pairwise (fun i j => keyT ps i <= keyT ps j) := by
    rw [List.pairwise_iff_getElem]
    intro i j hi hj hij
    have := up i j (by omega) (by rw [Array.length_toList] at hj; omega)
    unfold ky at this
    rw [Array.length_toList] at hi hj
    rw [Array.getD_eq_getD_getElem?, Array.getD_eq_getD_getElem?, Array.getElem?_eq_getElem hi, Array.getElem?_eq_getElem hj] at this
    exact this
   have fin := q p.toList pml pw
   rw [<- sn] at fin
   exact wpAny_pure fin
theorem sortedT {v : Value} {vs : List Value} {ps : List (List Int)} {m : Nat} {Q : Value -> Shared -> Prop} (x : TT s.heap vs ps) (hr : ∀ p ∈ ps, RgT m p) (h64 : vs.length < 64)
    (hc : ∀ R : List Value -> Shared -> Prop, (∀ (h1 : Heap) (tk : Nat), (∀ b u, s.heap.get? b = some u -> h1.get? b = some u) -> R vs { s with heap := h1, toks := tk }) -> wpAny (model prog w) A.in1 (collect v) R E s)
    (q : ∀ (h1 : Heap) (tk : Nat) (ix : List Nat), (∀ b u, s.heap.get? b = some u -> h1.get? b = some u) -> ix.Perm (List.range vs.length) -> ix.Pairwise (fun i j => keyT ps i <= keyT ps j) ->
     Q (.ref h1.objs.size) { s with heap := sortedHeap (h1.push (seqObj "list" vs.toArray 0)) h1.objs.size vs (List.toArray (ix.map fun i => vs.getD i Value.none)), toks := tk }) :
    wpAny (model prog w) A (call (.builtin "sorted") [v]) Q E s := by
 refine Calls.call_function_entry kind_sorted plain_sorted entry_sorted (args_sorted1 _) ?_
 unfold Builtin.«sorted»; refine wpAny_bind (m := checkCount "sorted" 1 1 _) (wpAny_pure ?_)
 refine wpAny_bind (hc _ (fun h1 tk hk => wpAny_bind (wpAny_newList ?_ (by rw [sizeLine_eq]; omega))))
 have hL : (h1.push (seqObj "list" vs.toArray 0)).get? h1.objs.size = some (seqObj "list" vs.toArray 0) := Heap.get?_push_size _ rfl
 have x1 : TT (h1.push (seqObj "list" vs.toArray 0)) vs ps := x.mv fun b o e _ => Heap.get?_push_of_some _ (hk b o e)
 refine wpAny_bind (wpAny_holding (wpAny_call_entry slot_list_sort ⟨_,hL, rfl⟩ entry_list_sort (sortT_tree (s := { s with heap := h1.push (seqObj "list" vs.toArray 0), toks := tk }) hL x1 hr h64 fun ix a1 a2 => ⟨_,rfl,?_⟩) (args_list_sort _)))
 exact wpAny_pure ⟨_,rfl,q h1 tk ix hk a1 a2⟩
end
end BE
namespace L2
open PySem PySem.SeqAt PySem.Spec PyProof.Rows
def TupsIn (H : Hp) (ws : List V) (ks : List (List Int)) : Prop := ws.length = ks.length /\ ∀ (i : Nat) (k : List Int), ks[i]? = some k -> ∃ q, ws[i]? = some (.ref q) /\ H q = some (.tup (k.map V.int))
def leT (p q : List Int) : Prop := BE.kT p <= BE.kT q
theorem iv_of : ∀ {k : List Int} {us : List Value}, Vals (k.map V.int) us -> BE.IV us k
 | [], us, r => by cases r; exact trivial
 | x :: k, us, r => by
  cases r with
  | cons h t => exact ⟨h, iv_of t⟩
section
variable {X : Cx}
def rSortD : List V -> Hp -> VK -> Prop := fun xs H Q => ∃ (a : Addr) (kvs : List (List Key × V)) (m : Nat) (ks : List (List Int)), xs = [.ref a] /\ H a = some (.dT kvs) /\ kvs.map (·.1) = ks.map (fun k => k.map Sum.inl) /\ (∀ k ∈ ks, BE.RgT m k) /\ ks.length < 64 /\
 ∀ (l : Addr) (ws' : List V) (ks' : List (List Int)), H l = none -> ks'.Perm ks -> ks'.Pairwise leT -> TupsIn H ws' ks' -> Q (.ref l) (upd H l (.lst ws'))
theorem kt_at {H : Hp} {kvs : List (List Key × V)} {xs : List (List Key × Addr × Value)} (r : KT H kvs xs) : ∀ {i : Nat} {kv : List Key × V}, kvs[i]? = some kv -> ∃ x, xs[i]? = some x /\ H x.2.1 = some (.tup (kv.1.map kV)) := by
 induction r with
 | nil => intro i kv h; simp at h
 | @cons p q ps qs h t ih =>
  intro i kv hk
  cases i with
  | zero =>
   have e : p = kv := by simpa using hk
   subst e
   exact ⟨q, rfl,h.2.1⟩
  | succ n => exact ih (by simpa using hk)
theorem kt_len {H : Hp} {kvs : List (List Key × V)} {xs : List (List Key × Addr × Value)} (r : KT H kvs xs) : kvs.length = xs.length := by
 induction r with
 | nil => rfl
 | cons _ _ ih => rw [List.length_cons, List.length_cons, ih]
theorem call_sortD (hc : X.calm = true) : CallR X (.builtin "sorted") rSortD := by
 intro pins s σ H xs us Q I r h
 obtain ⟨a, kvs, m, ks, rfl,ha, hks, hr, h64, q⟩ := h
 obtain ⟨u, rfl,rfl⟩ := vals1 r
 obtain ⟨z, hn, es0, rel, o, es, ep, ho, hx, hd, hes, _,_⟩ := dt_of I.hok ha
 have kl : kvs.length = ks.length := by have := congrArg List.length hks; simpa using this
 have xl := kt_len rel
 let its : List Value := es0.map fun x => Value.ref x.2.1
 let ws : List V := es0.map fun x => V.ref x.2.1
 have hits : es.toList.map (·.key) = its := by rw [hes, List.map_map]; rfl
 have tin : TupsIn H ws ks := ⟨by rw [List.length_map]; omega, fun i k hi => by
  have : (kvs.map (·.1))[i]? = some (k.map Sum.inl) := by rw [hks, List.getElem?_map, hi]; rfl
  rw [List.getElem?_map] at this
  obtain ⟨kv, hkv, e⟩ := Option.map_eq_some_iff.mp this
  obtain ⟨x, hx', hq⟩ := kt_at rel hkv
  refine ⟨x.2.1, by rw [List.getElem?_map, hx']; rfl,?_⟩
  rw [hq, e, List.map_map]; rfl⟩
 have rv : Vals ws its := by
  have : ∀ l : List (List Key × Addr × Value), Vals (l.map fun x => V.ref x.2.1) (l.map fun x => Value.ref x.2.1) := by
   intro l
   induction l with
   | nil => exact .nil
   | cons y l ih => exact .cons rfl ih
  exact this es0
 have hl : ws.length = its.length := by rw [List.length_map, List.length_map]
 have x : BE.TT s.heap its ks := ⟨by rw [<- hl]; exact tin.1, fun i p hi => by
  obtain ⟨q, hq, hQ⟩ := tin.2 i p hi
  obtain ⟨u, hu, ru⟩ := rv.get hq
  cases ru
  obtain ⟨ts, rt, ⟨o, ho, hc, m, hd⟩, _⟩ := I.tuple (SqT.of hQ)
  exact ⟨q, o, _,m, hu, ho, hc, hd, by simpa using iv_of rt⟩⟩
 have szs : es.size = es0.length := by rw [<- Array.length_toList, hes, List.length_map]
 refine BE.sortedT x hr (by rw [<- hl, tin.1]; exact h64) (fun R hR => ?_) fun h1 tk ix hk a1 a2 => ?_
 . refine PySem.W.kdu_collect (BE.src_dict (es := es) (ep := ep) hn) (I.ok.hd hc) ⟨o, ho, hx, hd⟩ (by rw [szs, sizeLine_eq]; omega) fun h' tk acc kp it => ?_
   have e : acc.toList = its := by
    rw [<- hits]
    apply List.ext_getElem?
    intro j
    rw [Array.getElem?_toList, List.getElem?_map, Array.getElem?_toList]
    cases h : acc[j]? with
    | none =>
     rw [Array.getElem?_eq_none (show es.size <= j by rw [<- it.1]; exact Array.getElem?_eq_none_iff.mp h)]; rfl
    | some v =>
     obtain ⟨e, he, rfl⟩ := it.2 j v h
     rw [he]; rfl
   rw [e]
   exact hR h' tk kp
 rw [<- hl] at a1
 have lt : ∀ i ∈ ix, i < ws.length := fun i hi => by
  have := a1.mem_iff.mp hi
  simpa using this
 obtain ⟨c, hc⟩ := sortedHeap_at (h := h1.push (seqObj "list" its.toArray 0)) (a := h1.objs.size) (vs := its) (n := 0) (out := List.toArray (ix.map fun i => its.getD i Value.none)) (Heap.get?_push_size _ rfl)
 have I1 : Inv X pins σ H { s with heap := h1, toks := tk } := I.kept (t' := tk) hk
 have lx : ix.length = ws.length := by rw [a1.length_eq, List.length_range]
 have pp : (ix.map fun i => ks.getD i []).Perm ks := by
  have h1 := a1.map fun i => ks.getD i []
  rw [tin.1] at h1
  have h2 : (List.range ks.length).map (fun i => ks.getD i []) = ks := by
   apply List.ext_getElem
   . simp
   . intro i k1 k2
     simp [List.getD_eq_getElem?_getD, k2]
  rw [h2] at h1
  exact h1
 have zs : ws.length <= sizeLine := by rw [tin.1, sizeLine_eq]; omega
 refine ⟨.ref h1.objs.size, _,I1.laid (o := .lst (ix.map fun i => ws.getD i .non)) (t' := tk) (BE.sortedS_kept fun _ _ e => e) (Nat.le_refl _) ?_,rfl,
  q _ (ix.map fun i => ws.getD i .non) (ix.map fun i => ks.getD i []) (I1.hok.fresh (Nat.le_refl _)) pp (List.pairwise_map.mpr a2) ⟨by rw [List.length_map, List.length_map], fun i p hi => ?_⟩⟩
 . refine ⟨by rw [List.length_map, lx]; exact zs, _,c, vals_pick rv ix lt, hc⟩
 . rw [List.getElem?_map] at hi
   cases ei : ix[i]? with
   | none => rw [ei] at hi; cases hi
   | some k =>
    rw [ei] at hi
    have hk' : k < ws.length := lt k (List.mem_of_getElem? ei)
    have hkp : k < ks.length := by rw [<- tin.1]; exact hk'
    obtain ⟨q', hq', hQ'⟩ := tin.2 k _ (List.getElem?_eq_getElem hkp)
    have ep : ks[k] = p := by
     have : (ks.getD k []) = p := Option.some.inj hi
     rw [List.getD_eq_getElem?_getD, List.getElem?_eq_getElem hkp] at this
     exact this
    refine ⟨q', ?_,by rw [<- ep]; exact hQ'⟩
    rw [List.getElem?_map, ei]
    show some (ws.getD k .non) = _
    rw [List.getD_eq_getElem?_getD, hq']; rfl
end
end L2
set_option Elab.async false
set_option linter.all false
set_option maxRecDepth 100000
namespace Be
open PySem L2
theorem played_of {W : Wd} {ls : List Int} {ps : List (Int × Int)} (hin : InB W ls) (h10 : ls.length <= 10) (pm : ps.Perm (G.enp (ens W.b.toNat ls))) (pw : ps.Pairwise leP) : Played W ls ps := by
 have e : G.enp (ens W.b.toNat ls) = pairsE W.b.toNat ls := by unfold G.enp pairsE; rw [ens_len]
 have rg := G.enp_rg (by rw [ens_len]; exact h10) pm
 refine ⟨hin.1, fun k hk => ?_,e ▸ pm, List.Pairwise.imp_of_mem (fun {a b} ha hb h => ?_) pw⟩
 . have hk' : k < W.bs.length := by rw [<- hin.1]; exact hk
   have c := hin.2 k _ _ (List.getElem?_eq_getElem hk') (List.getElem?_eq_getElem hk)
   unfold bnd
   rw [Int.toNat_natCast, List.getD_eq_getElem?_getD, List.getElem?_eq_getElem hk', List.getD_eq_getElem?_getD, List.getElem?_eq_getElem hk]
   exact c
 . have r1 := rg a ha
   have r2 := rg b hb
   unfold leP BE.kP at h
   unfold BE.RgP at r1 r2
   omega
theorem ordF_spec {W : Wd} {ls : List Int} (hok : W.Ok) (hin : InB W ls) : ∃ ps : List (Int × Int), ps.Perm (G.enp (ens W.b.toNat ls)) /\ ps.Pairwise leP /\ ordF W ls = ps.map fun p => p.2 := by
 have h10 := hin.l10 hok
 let qs := (G.enp (ens W.b.toNat ls)).mergeSort fun p q => decide (BE.kP p <= BE.kP q)
 have pm : qs.Perm (G.enp (ens W.b.toNat ls)) := List.mergeSort_perm _ _
 have pw : qs.Pairwise leP := by
  have := List.pairwise_mergeSort (le := fun p q : Int × Int => decide (BE.kP p <= BE.kP q)) (fun a b c h1 h2 => decide_eq_true (Int.le_trans (of_decide_eq_true h1) (of_decide_eq_true h2))) (fun a b => by
   rcases Int.le_total (BE.kP a) (BE.kP b) with h | h
   . rw [decide_eq_true h]; rfl
   . rw [decide_eq_true h, Bool.or_true]) (G.enp (ens W.b.toNat ls))
  exact this.imp fun h => of_decide_eq_true h
 exact ⟨qs, pm, pw, (ordF_eq h10 pm pw).symm⟩
theorem ordF_mem {W : Wd} {ls : List Int} (hok : W.Ok) (hin : InB W ls) : (ordF W ls).length = W.bs.length /\ ∀ x ∈ ordF W ls, 0 <= x /\ x < (W.bs.length : Int) := by
 obtain ⟨ps, pm, pw, e⟩ := ordF_spec hok hin
 have h10 := hin.l10 hok
 have pl := played_of hin h10 pm pw
 refine ⟨by rw [e, List.length_map, pl.plen], fun x hx => ?_⟩
 rw [e] at hx
 exact (pl.vo hok).lt hx
section
variable {α κ : Type} [DecidableEq α] [DecidableEq κ]
def hmn (F : List α) (x : α) : Nat := (F.filter fun y => decide (y = x)).length
theorem hmn_snoc (F : List α) (x y : α) : hmn (F ++ [x]) y = hmn F y + if x = y then 1 else 0 := by
 unfold hmn
 rw [List.filter_append, List.length_append, List.filter_cons]
 by_cases c : x = y
 . rw [if_pos (decide_eq_true c), if_pos c]; rfl
 . rw [if_neg (by rw [decide_eq_false c]; decide), if_neg c]; rfl
theorem hmn_pos {F : List α} {x : α} (h : x ∈ F) : 0 < hmn F x := by
 unfold hmn
 exact List.length_pos_of_mem (List.mem_filter.mpr ⟨h, decide_eq_true rfl⟩)
theorem hmn_zero {F : List α} {x : α} (h : x ∉ F) : hmn F x = 0 := by
 unfold hmn
 rw [List.length_eq_zero_iff]
 exact List.filter_eq_nil_iff.mpr fun y hy z => h (of_decide_eq_true z ▸ hy)
theorem hmn_le (F : List α) (x : α) : hmn F x <= F.length := List.length_filter_le _ _
def bkG (f : α -> κ) (F dd : List α) : List (κ × V) := dd.map fun x => (f x, V.int ((hmn F x : Nat) : Int))
theorem bkG_len (f : α -> κ) (F dd : List α) : (bkG f F dd).length = dd.length := List.length_map _
theorem bkG_keys (f : α -> κ) (F dd : List α) : (bkG f F dd).map (·.1) = dd.map f := by unfold bkG; rw [List.map_map]; rfl
theorem bkG_val {f : α -> κ} (inj : ∀ x y, f x = f y -> x = y) (F : List α) (x : α) : ∀ dd : List α, valV (bkG f F dd) (f x) = if x ∈ dd then some (V.int ((hmn F x : Nat) : Int)) else none
 | [] => rfl
 | y :: dd => by
  show valV ((f y, V.int ((hmn F y : Nat) : Int)) :: bkG f F dd) (f x) = _
  by_cases c : y = x
  . rw [valV_pos (by rw [c]), if_pos (by rw [c]; exact List.mem_cons_self), c]
  . rw [valV_neg (fun z => c (inj _ _ z)), bkG_val inj F x dd]
    by_cases d : x ∈ dd
    . rw [if_pos d, if_pos (List.mem_cons_of_mem _ d)]
    . rw [if_neg d, if_neg (fun z => by rcases List.mem_cons.mp z with e | e; exact c e.symm; exact d e)]
theorem bkG_put {f : α -> κ} (inj : ∀ x y, f x = f y -> x = y) {F dd : List α} {x : α} : putK (bkG f F dd) (f x) (V.int (((hmn F x : Nat) : Int) + 1)) = bkG f (F ++ [x]) (if x ∈ dd then dd else dd ++ [x]) := by
 have hv := bkG_val inj F x dd
 unfold putK
 rw [valV_any]
 by_cases c : x ∈ dd
 . rw [if_pos c] at hv
   rw [hv, if_pos (show (some (V.int ((hmn F x : Nat) : Int))).isSome = true from rfl), if_pos c]
   unfold bkG
   rw [List.map_map]
   refine List.map_congr_left fun y _ => ?_
   show (if f y = f x then _ else _) = _
   rw [hmn_snoc]
   by_cases d : y = x
   . subst d; rw [if_pos rfl,if_pos rfl]; rfl
   . rw [if_neg (fun z => d (inj _ _ z)), if_neg (Ne.symm d)]; rfl
 . rw [if_neg c] at hv
   rw [hv, if_neg (show ¬ ((none : Option V).isSome = true) by decide), if_neg c]
   unfold bkG
   rw [List.map_append]
   congr 1
   . refine List.map_congr_left fun y hy => ?_
     rw [hmn_snoc, if_neg (fun z : x = y => c (z ▸ hy))]; rfl
   . show [(f x, _)] = [(f x, _)]
     rw [hmn_snoc, if_pos rfl]; rfl
theorem ddG_nd {dd : List α} {x : α} (h : dd.Nodup) : (if x ∈ dd then dd else dd ++ [x]).Nodup := by
 by_cases c : x ∈ dd
 . rw [if_pos c]; exact h
 . rw [if_neg c, List.nodup_append]
   exact ⟨h, by simp, fun a ha b hb e => by rw [List.mem_singleton] at hb; subst e; subst hb; exact c ha⟩
theorem ddG_mem {F dd : List α} {x : α} (h : ∀ y, y ∈ dd ↔ y ∈ F) (y : α) : y ∈ (if x ∈ dd then dd else dd ++ [x]) ↔ y ∈ F ++ [x] := by
 rw [List.mem_append, List.mem_singleton]
 by_cases c : x ∈ dd
 . rw [if_pos c]
   exact ⟨fun z => .inl ((h y).mp z), fun z => z.elim (fun z => (h y).mpr z) (fun z => z ▸ c)⟩
 . rw [if_neg c, List.mem_append, List.mem_singleton, h]
end
def oK (o : List Int) : List Key := o.map Sum.inl
theorem oK_inj (x y : List Int) (h : oK x = oK y) : x = y := by
 unfold oK at h
 exact (List.map_inj_right fun a b e => Sum.inl.inj e).mp h
theorem oK_tup (o : List Int) : (oK o).map kV = o.map V.int := by unfold oK; rw [List.map_map]; rfl
noncomputable def OF (W : Wd) : List (List Int) := (allL W.bs).map (ordF W)
theorem of_len (W : Wd) : (OF W).length = (allL W.bs).length := List.length_map _
def FewO (W : Wd) : Prop := ∀ ks : List (List Int), ks.Nodup -> (∀ k ∈ ks, k ∈ OF W) -> ks.length < 64
noncomputable def shF (W : Wd) (k : List Int) : Nat × Nat := (hmn (OF W) k / Nat.gcd (hmn (OF W) k) (allL W.bs).length, (allL W.bs).length / Nat.gcd (hmn (OF W) k) (allL W.bs).length)
def ChIn (H : Hp) (ws : List V) (L : List (List Int × Nat × Nat)) : Prop := ws.length = L.length /\ ∀ (i : Nat) (k : List Int) (p q : Nat), L[i]? = some (k, p, q) -> ∃ a b c, ws[i]? = some (.ref a) /\ H a = some (.tup [.ref b, .ref c]) /\ H b = some (.tup (k.map V.int)) /\ H c = some (.tup [.int (p : Int), .int (q : Int)])
theorem ChIn.ts {H H' : Hp} {ws : List V} {L : List (List Int × Nat × Nat)} (x : ChIn H ws L) (g : TSame H H') : ChIn H' ws L := ⟨x.1, fun i k p q hp => by
 obtain ⟨a, b, c, h1, h2, h3, h4⟩ := x.2 i k p q hp
 exact ⟨a, b, c, h1, g _ _ h2, g _ _ h3, g _ _ h4⟩⟩
theorem ChIn.nil {H : Hp} : ChIn H [] [] := ⟨rfl,fun i k p q h => by simp at h⟩
theorem ChIn.snoc {H : Hp} {ws : List V} {L : List (List Int × Nat × Nat)} (x : ChIn H ws L) {a b c : Addr} {k : List Int} {p q : Nat} (h2 : H a = some (.tup [.ref b, .ref c])) (h3 : H b = some (.tup (k.map V.int))) (h4 : H c = some (.tup [.int (p : Int), .int (q : Int)])) : ChIn H (ws ++ [.ref a]) (L ++ [(k, p, q)]) := by
 refine ⟨by rw [List.length_append, List.length_append, x.1]; rfl,fun i k' p' q' h => ?_⟩
 by_cases hi : i < L.length
 . rw [List.getElem?_append_left hi] at h
   obtain ⟨a', b', c', h1, r⟩ := x.2 i k' p' q' h
   exact ⟨a', b', c', by rw [List.getElem?_append_left (by rw [x.1]; exact hi)]; exact h1, r⟩
 . rw [List.getElem?_append_right (by omega)] at h
   have hz : i - L.length = 0 := by
    have := (List.getElem?_eq_some_iff.mp h).1
    simp at this; omega
   rw [hz] at h
   obtain ⟨rfl,e⟩ := Prod.mk.inj (Option.some.inj h)
   obtain ⟨rfl,rfl⟩ := Prod.mk.inj e
   exact ⟨a, b, c, by rw [List.getElem?_append_right (by rw [x.1]; omega), x.1, hz]; rfl,h2, h3, h4⟩
section
variable {P : Program} {w : World} {K : PySem.W.Frag} {mg : Str -> Option Value} {base : Heap}
def sp_gd : Sp := fun vs H Q _ => ∃ (x y : Nat), vs = [.int (x : Int), .int (y : Int)] /\ Q (.int ((Nat.gcd x y : Nat) : Int)) H
theorem ok_greatest_divisor (T : Txt K mg) : FnOk P w K mg base (CXr P w) 1 T.greatest_divisor.a T.greatest_divisor.d ["one", "other"] sp_gd := by
 refine T.greatest_divisor.F.okN sc_greatest_divisor (fun vs H Q E h => ?_) (fun cdv A outer s H vs Q E hr h => ?_)
 . obtain ⟨x, y, rfl,_⟩ := h; rfl
 obtain ⟨x, y, rfl,q⟩ := h
 refine ⟨_,(pss_cons (ps_while PassesOwn.never (pt_cmpR op_ne (pv 1) pe_int (nomark _)) (pss_cons (ps_set (i := 2) sc_greatest_divisor.nd rfl (by first|exact .inl rfl|exact .inr rfl) (pe_op op_mod (pv 0) (pv 1))) (pss_cons (ps_set (i := 0) sc_greatest_divisor.nd rfl (by first|exact .inl rfl|exact .inr rfl) (pv 1)) (pss_one (ps_set (i := 1) sc_greatest_divisor.nd rfl (by first|exact .inl rfl|exact .inr rfl) (pv 2)))))) (pss_one (ps_ret (pv 0)))), ?_⟩
 refine ⟨fun m σ H' => ∃ (x' y' : Nat) (z : Option V), σ = [some (.int (x' : Int)), some (.int (y' : Int)), z] /\ H' = H /\ m = y' /\ Nat.gcd x' y' = Nat.gcd x y, ⟨y, x, y, none, rfl,rfl,rfl,rfl⟩, ?_⟩
 rintro m σ H' ⟨x', y', z, rfl,rfl,em, e⟩
 refine ⟨_,rfl,rfl,_,rfl,?_⟩
 by_cases c : y' = 0
 . subst c
   refine if_f rfl ⟨_,rfl,?_⟩
   rw [Nat.gcd_zero_right] at e
   rw [e]; exact q
 . refine if_t (show (!decide (V.int (y' : Int) = V.int 0)) = true by rw [decide_eq_false (fun z => c (by have := V.int.inj z; omega))]; rfl) ?_
   refine ⟨_,fun σ' H' h => h, _,rfl,_,rfl,_,_,rfl,rfl,by show (0 : Int) < (y' : Int); omega, _,rfl,_,rfl,x' % y', by rw [em]; exact Nat.mod_lt _ (by omega), y', x' % y', some (V.int ((x' : Int) % (y' : Int))), ?_,rfl,rfl,?_⟩
   . show _ = [some (V.int (y' : Int)), some (V.int ((x' % y' : Nat) : Int)), some (V.int ((x' : Int) % (y' : Int)))]
     rw [Int.natCast_emod]; rfl
   . rw [<- e, Nat.gcd_comm x' y', Nat.gcd_rec y' x', Nat.gcd_comm]
def sp_share : Sp := fun vs H Q _ => ∃ (x y : Nat), vs = [.int (x : Int), .int (y : Int)] /\ 0 < x /\ x < 1000000 /\ ∀ p, H p = none -> Q (.ref p) (upd H p (.tup [.int ((x / Nat.gcd x y : Nat) : Int), .int ((y / Nat.gcd x y : Nat) : Int)]))
theorem ok_share (T : Txt K mg) : FnOk P w K mg base (CXr P w) 2 T.share.a T.share.d ["part", "whole"] sp_share := by
 refine T.share.F.okN sc_share (fun vs H Q E h => ?_) (fun cdv A outer s H vs Q E hr h => ?_)
 . obtain ⟨x, y, rfl,_⟩ := h; rfl
 obtain ⟨x, y, rfl,hx, hz, q⟩ := h
 refine ⟨_,(pss_cons (ps_set (i := 2) sc_share.nd rfl (by first|exact .inl rfl|exact .inr rfl) (pe_call (ok_greatest_divisor T) (hr.mono (by decide)) rfl T.greatest_divisor.m T.greatest_divisor.F.kp T.greatest_divisor.b .nil passN (pa_cons (pv 0) (pa_cons (pv 1) pa_nil)))) (pss_one (ps_ret (pe_tup (pa_cons (pe_op op_fdiv (pv 0) (pv 2)) (pa_cons (pe_op op_fdiv (pv 1) (pv 2)) pa_nil)))))), ?_⟩
 have g0 : 0 < Nat.gcd x y := Nat.gcd_pos_of_pos_left y hx
 have g1 : Nat.gcd x y <= x := Nat.gcd_le_left y hx
 refine ⟨_,rfl,_,rfl,x, y, rfl,_,rfl,_,rfl,_,_,rfl,rfl,⟨by omega, by omega⟩, _,rfl,_,rfl,_,_,rfl,rfl,⟨by omega, by omega⟩, by show 2 <= sizeLine; decide, fun p hp => ?_⟩
 show Q (.ref p) (upd H p (.tup [.int ((x : Int) / ((Nat.gcd x y : Nat) : Int)), .int ((y : Int) / ((Nat.gcd x y : Nat) : Int))]))
 rw [<- Int.natCast_ediv, <- Int.natCast_ediv]
 exact q p hp
def sp_ch : Sp := fun vs H Q _ => ∃ (v : V) (W : Wd), vs = [v] /\ Rep H v (encW W) /\ W.Ok /\ (allL W.bs).length <= 600 /\ FewO W /\ ∀ (l : Addr) (ws : List V) (ks : List (List Int)) (H' : Hp), Same H H' -> H l = none -> ks.Nodup -> (∀ k, k ∈ ks ↔ k ∈ OF W) -> ks.Pairwise leT -> H' l = some (.lst ws) -> ChIn H' ws (ks.map fun k => (k, shF W k)) -> Q (.ref l) H'
set_option maxHeartbeats 1000000 in
theorem ok_chances (T : Txt K mg) : FnOk P w K mg base (CXr P w) 8 T.chances.a T.chances.d ["world"] sp_ch := by
 refine T.chances.F.okN sc_chances (fun vs H Q E h => ?_) (fun cdv A outer s H vs Q E hr h => ?_)
 . obtain ⟨v, W, rfl,_⟩ := h; rfl
 obtain ⟨v, W, rfl,hW, hok, hN, few, q⟩ := h
 refine ⟨_,(pss_cons (ps_expr (pe_call (ok_check_many T) (hr.mono (by decide)) rfl T.check_many.m T.check_many.F.kp T.check_many.b .nil passN (pa_cons (pv 0) pa_nil))) (pss_cons (ps_set (i := 1) sc_chances.nd rfl (by first|exact .inl rfl|exact .inr rfl) pe_dnewT) (pss_cons (ps_for PassesOwn.never rfl (pi_list (pe_call (ok_all_lengths T) (hr.mono (by decide)) rfl T.all_lengths.m T.all_lengths.F.kp T.all_lengths.b .nil passN (pa_cons (pv 0) pa_nil))) (pg_name (i := 2) sc_chances.nd rfl (by first|exact .inl rfl|exact .inr rfl)) (pss_cons (ps_set (i := 3) sc_chances.nd rfl (by first|exact .inl rfl|exact .inr rfl) (pe_ix ix_tup (pe_call (G.ok_played T) (hr.mono (by decide)) rfl T.played.m T.played.F.kp T.played.b .nil passN (pa_cons (pv 0) (pa_cons (pv 2) pa_nil))) pe_int (fun _ _ => rfl))) (pss_one (ps_dput (hu_of hr) (pv 1) (pv 3) (pe_op op_add (pe_dget2 (hu_of hr) (pv 1) (pv 3) pe_int ⟨rfl,rfl,rfl,rfl⟩) pe_int) rfl)))) (pss_one (ps_ret (pe_comp (NB := ["order", "counts", "world"]) (js := [none, some 1, some 0]) rfl (blkOk_of rfl (by decide +kernel) rfl (by decide +kernel) (by decide +kernel) (by with_unfolding_all rfl) (by with_unfolding_all rfl) (by with_unfolding_all rfl) (by with_unfolding_all rfl)) (pi_list (pe_callB (call_sortD rfl) rfl T.n_sorted bt_sorted (pa_cons (pv 1) pa_nil))) (fun _ _ _ _ => (pg_name (i := 0) (show (["order", "counts", "world"] : List Str).Nodup by decide +kernel) rfl (by first|exact .inl rfl|exact .inr rfl))) (fun _ _ _ _ => pf_nil) (fun _ _ _ _ => (pe_tup (pa_cons (pv 0) (pa_cons (pe_call (ok_share T) (hr.mono (by decide)) rfl T.share.m T.share.F.kp T.share.b .nil passN (pa_cons (pe_dget (hu_of hr) (pv 1) (pv 0) (fun _ _ => rfl)) (pa_cons (pe_call (ok_how_many_lengths T) (hr.mono (by decide)) rfl T.how_many_lengths.m T.how_many_lengths.F.kp T.how_many_lengths.b .nil passN (pa_cons (pv 2) pa_nil)) pa_nil))) pa_nil)))))))))), ?_⟩
 have l1 := hok.l1
 have l10 := hok.l10
 refine ⟨_,rfl,v, W, rfl,hW, hok, hN, fun H1 g1 => ?_⟩
 refine fun d hd => ?_
 have fd : H d = none := g1.free hd
 have gd := same_new hd (.dT [])
 have hd0 : upd H1 d (.dT []) d = some (.dT (bkG oK [] [])) := upd_same
 generalize upd H1 d (.dT []) = H2 at *
 have g2 := g1.trans gd
 refine ⟨_,rfl,v, W, rfl,hW.mono g2, hok, all_le hok (by omega), fun la wa H3 g3 fla hla rta => ?_⟩
 have dla : la ≠ d := fun z => by rw [z, hd0] at fla; cases fla
 have wl := rta.1
 refine ⟨la, rfl,⟨_,SqL.of hla⟩, for_list (K := K) (a := la) (xs := wa) (fun i σ H4 => ∃ (x2 x3 : Option V) (dd : List (List Int)), σ = [some v, some (.ref d), x2, x3] /\ Same H H4 /\ H4 la = some (.lst wa) /\ RowsT H4 wa (allL W.bs) /\ H4 d = some (.dT (bkG oK ((OF W).take i) dd)) /\ dd.Nodup /\ ∀ y, y ∈ dd ↔ y ∈ (OF W).take i) ⟨none, none, [], rfl,g2.trans g3, hla, rta, g3 _ _ hd0, List.nodup_nil, fun y => Iff.rfl⟩ ?_ ?_ ?_⟩
 . rintro i σ H4 _ ⟨x2, x3, dd, rfl,_,h4, _⟩
   exact SqL.of h4
 . rintro i u σ H4 hu ⟨x2, x3, dd, rfl,g4, hla4, rt4, hd4, nd, dm⟩
   obtain ⟨ls, qr, hls, rfl,hqr⟩ := rt4.at hu
   have hin := inB_all (List.mem_of_getElem? hls)
   have h10 := hin.l10 hok
   have hO : (OF W)[i]? = some (ordF W ls) := by unfold OF; rw [List.getElem?_map, hls]; rfl
   have ddF := few dd nd fun k hk => List.mem_of_mem_take ((dm k).mp hk)
   refine ⟨_,rfl,_,rfl,v, qr, W, ls, rfl,hW.mono g4, hok, hqr, hin, fun pp a l ps H5 g5 pm pw hpp ha hl => ?_⟩
   rw [ordF_eq h10 pm pw] at ha
   have ha' : H5 a = some (.tup ((oK (ordF W ls)).map kV)) := by rw [oK_tup]; exact ha
   have hd5 := g5 _ _ hd4
   rw [G.take_snoc hO]
   refine ⟨pp, _,_,_,rfl,rfl,SqT.of hpp, rfl,?_⟩
   generalize (OF W).take i = F at *
   have ev : (valV (bkG oK F dd) (oK (ordF W ls))).getD (.int 0) = .int ((hmn F (ordF W ls) : Nat) : Int) := by
    rw [bkG_val oK_inj]
    by_cases c : ordF W ls ∈ dd
    . rw [if_pos c]; rfl
    . rw [if_neg c, hmn_zero (fun z => c ((dm _).mpr z))]; rfl
   refine ⟨_,rfl,d, rfl,.inr ⟨_,.inl hd5⟩, _,rfl,_,DGet.t hd5 ha', _,1, ev, rfl,_,rfl,_,rfl,d, _,rfl,DPut.t hd5 ha' (by rw [bkG_len]; exact Nat.lt_of_lt_of_le (show _ < 1000 by omega) (by decide)), ?_⟩
   have ts : TSame H5 (upd H5 d (.dT (putK (bkG oK F dd) (oK (ordF W ls)) (.int (((hmn F (ordF W ls) : Nat) : Int) + 1))))) := fun b ys hb => by
    rw [upd_ne (fun z => by rw [z, hd5] at hb; cases hb)]; exact hb
   exact ⟨_,_,_,rfl,(g4.trans g5).write fd _,by rw [upd_ne dla]; exact g5 _ _ hla4, (rt4.ts g5.ts).ts ts, by rw [upd_same, bkG_put oK_inj], ddG_nd nd, ddG_mem dm⟩
 rintro σ H4 ⟨x2, x3, dd, rfl,g4, hla4, rt4, hd4, nd, dm⟩
 have eO : (OF W).take wa.length = OF W := by rw [wl, <- of_len, List.take_length]
 rw [eO] at hd4 dm
 have ddF := few dd nd fun k hk => (dm k).mp hk
 have rg : ∀ k ∈ dd, BE.RgT W.bs.length k := fun k hk => by
  obtain ⟨ls, hls, rfl⟩ := List.mem_map.mp ((dm k).mp hk)
  have om := ordF_mem hok (inB_all hls)
  exact ⟨om.1, l1, fun x hx => by have := om.2 x hx; omega⟩
 refine ⟨_,rfl,d, _,W.bs.length, dd, rfl,hd4, bkG_keys oK _ _,rg, ddF, fun l ws ks hl pm pw tin => ?_⟩
 have kl := same_new hl (.lst ws)
 have el : upd H4 l (.lst ws) l = some (.lst ws) := upd_same
 have hd5 := kl _ _ hd4
 have rk : RowsT (upd H4 l (.lst ws)) ws ks := RowsT.ts ⟨tin.1, tin.2⟩ kl.ts
 have g5 := g4.trans kl
 generalize upd H4 l (.lst ws) = H5 at *
 have kd : ∀ k, k ∈ ks ↔ k ∈ OF W := fun k => (pm.mem_iff).trans (dm k)
 have kn : ks.Nodup := (pm.nodup_iff).mpr nd
 have kln : ks.length = dd.length := pm.length_eq
 refine ⟨l, rfl,⟨_,SqL.of el⟩, fun D hD => ?_⟩
 have wk := rk.1
 refine comp_listR (K := K) (a := l) (xs := ws) (fun i ys H6 => Same H5 H6 /\ H6 D = some (.lst ys) /\ ChIn H6 ys ((ks.take i).map fun k => (k, shF W k))) ⟨same_new hD _,upd_same, ChIn.nil⟩ (fun i ys H6 _ hP => SqL.of (hP.1 _ _ el)) (fun i ys y H6 hy hP => ?_) (fun ys H6 hP => ?_)
 . obtain ⟨g6, hD6, ci⟩ := hP
   obtain ⟨k, qr, hk, rfl,hqr⟩ := (rk.ts g6.ts).at hy
   have hi : i < ws.length := (List.getElem?_eq_some_iff.mp hy).1
   have hkm := List.mem_of_getElem? hk
   have hkO := (kd k).mp hkm
   have cl := ci.1
   rw [List.length_map, List.length_take] at cl
   have c0 := hmn_pos hkO
   have c1 := hmn_le (OF W) k
   rw [of_len] at c1
   have hqr' : H6 qr = some (.tup ((oK k).map kV)) := by rw [oK_tup]; exact hqr
   have hget : DGet H6 d (.ref qr) (some (.int ((hmn (OF W) k : Nat) : Int))) := by
    have := DGet.t (g6 _ _ hd5) hqr'
    rw [bkG_val oK_inj, if_pos (pm.mem_iff.mp hkm)] at this
    exact this
   refine ⟨agree0, iteT ⟨_,rfl,_,rfl,_,rfl,d, _,rfl,hget, _,rfl,v, W, rfl,(hW.mono g5).mono g6, hok, fun H7 g7 => ?_⟩⟩
   refine ⟨hmn (OF W) k, (allL W.bs).length, rfl,c0, by omega, fun ps hps => ?_⟩
   have ks1 := same_new hps (.tup [.int ((hmn (OF W) k / Nat.gcd (hmn (OF W) k) (allL W.bs).length : Nat) : Int), .int (((allL W.bs).length / Nat.gcd (hmn (OF W) k) (allL W.bs).length : Nat) : Int)])
   have es1 : upd H7 ps (.tup [.int ((hmn (OF W) k / Nat.gcd (hmn (OF W) k) (allL W.bs).length : Nat) : Int), .int (((allL W.bs).length / Nat.gcd (hmn (OF W) k) (allL W.bs).length : Nat) : Int)]) ps = some (.tup [.int ((shF W k).1 : Int), .int ((shF W k).2 : Int)]) := upd_same
   generalize upd H7 ps (.tup [.int ((hmn (OF W) k / Nat.gcd (hmn (OF W) k) (allL W.bs).length : Nat) : Int), .int (((allL W.bs).length / Nat.gcd (hmn (OF W) k) (allL W.bs).length : Nat) : Int)]) = H8 at *
   refine ⟨by show 2 <= sizeLine; decide, fun pe hpe => ?_⟩
   have ke := same_new hpe (.tup [.ref qr, .ref ps])
   have ee : upd H8 pe (.tup [.ref qr, .ref ps]) pe = some (.tup [.ref qr, .ref ps]) := upd_same
   have es2 := ke _ _ es1
   generalize upd H8 pe (.tup [.ref qr, .ref ps]) = H9 at *
   have g69 := g7.trans (ks1.trans ke)
   have hD9 := g69 _ _ hD6
   refine ⟨hD9, Nat.lt_of_lt_of_le (show ys.length < 100 by omega) (by decide), (g6.trans g69).write hD _,upd_same, ?_⟩
   rw [G.take_snoc hk, List.map_append]
   have ts := TSame.lst hD9 (.lst (ys ++ [.ref pe]))
   exact (ci.ts (g69.ts.trans ts)).snoc (ts _ _ ee) (ts _ _ (g69 _ _ hqr)) (ts _ _ es2)
 . obtain ⟨g6, hD6, ci⟩ := hP
   rw [wk, List.take_length] at ci
   exact q D ys ks H6 (g5.trans g6) (g5.free hD) kn kd pw hD6 ci
end
end Be
set_option Elab.async false
set_option linter.all false
set_option maxRecDepth 100000
namespace Be
open PySem L2 BE
theorem all_256 {W : Wd} (hok : W.Ok) (hw : ∀ p ∈ W.bs, p.2 <= p.1 + 4 - 1) : ∀ i, (allL (W.bs.take i)).length <= 4 ^ i
 | 0 => by rw [List.take_zero]; exact Nat.le_refl _
 | i + 1 => by
  have ih := all_256 hok hw i
  cases e : W.bs[i]? with
  | none =>
   have : W.bs.length <= i := List.getElem?_eq_none_iff.mp e
   rw [List.take_of_length_le (by omega)]
   rw [List.take_of_length_le this] at ih
   exact Nat.le_trans ih (Nat.pow_le_pow_right (by decide) (by omega))
  | some p =>
   rw [all_n e, Nat.pow_succ]
   have := hw p (List.mem_of_getElem? e)
   exact Nat.mul_le_mul ih (by omega)
theorem all_few {W : Wd} (hok : W.Ok) (hl : (W.bs.length : Int) <= 4) (hw : ∀ p ∈ W.bs, p.2 <= p.1 + 4 - 1) : (allL W.bs).length <= 256 := by
 have := all_256 hok hw W.bs.length
 rw [List.take_length] at this
 exact Nat.le_trans this (Nat.pow_le_pow_right (by decide) (show W.bs.length <= 4 by omega))
theorem ord_vo {W : Wd} {k : List Int} (hok : W.Ok) (h : k ∈ OF W) : VO W k /\ (early W k).isSome = true := by
 obtain ⟨ls, hls, rfl⟩ := List.mem_map.mp h
 have hin := inB_all hls
 obtain ⟨ps, pm, pw, e⟩ := ordF_spec hok hin
 obtain ⟨vo, r, he⟩ := (played_of hin (hin.l10 hok) pm pw).early hok (ps.map fun p => p.2).length
 rw [List.take_length, <- e] at vo he
 exact ⟨vo, by rw [he]; rfl⟩
theorem nodup_leG {α : Type} [DecidableEq α] : ∀ {l1 l2 : List α}, l1.Nodup -> (∀ x ∈ l1, x ∈ l2) -> l1.length <= l2.length
 | [], _,_,_ => Nat.zero_le _
 | x :: l1, l2, nd, sub => by
  have nd' := List.nodup_cons.mp nd
  have hx : x ∈ l2 := sub x List.mem_cons_self
  have := nodup_leG (l1 := l1) (l2 := l2.erase x) nd'.2 fun y hy => (List.mem_erase_of_ne (fun e => nd'.1 (by rw [<- e]; exact hy))).mpr (sub y (List.mem_cons_of_mem _ hy))
  rw [List.length_erase_of_mem hx] at this
  have := List.length_pos_of_mem hx
  rw [List.length_cons]; omega
def pmN (n : Nat) : List (List Int) := (allL (List.replicate n (0, (n : Int) - 1))).filter fun k => decide k.Nodup
theorem pmN_few : (List.range 5).all (fun n => decide ((pmN n).length < 64)) = true := by decide +kernel
theorem few4 {W : Wd} (hok : W.Ok) (hl : (W.bs.length : Int) <= 4) : FewO W := fun ks nd sub => by
 have a := nodup_leG (l2 := pmN W.bs.length) nd fun k hk => by
  have hk := sub k hk
  have vo := (ord_vo hok hk).1
  obtain ⟨ls, hls, rfl⟩ := List.mem_map.mp hk
  obtain ⟨e, m⟩ := ordF_mem hok (inB_all hls)
  refine List.mem_filter.mpr ⟨mem_allL.mpr ⟨by rw [List.length_replicate]; exact e, fun j p x hp hx => ?_⟩, decide_eq_true vo.nd⟩
  have hx := m x (List.mem_of_getElem? hx)
  have hp := List.eq_of_mem_replicate (List.mem_of_getElem? hp)
  subst hp
  show 0 <= x /\ x <= (W.bs.length : Int) - 1
  omega
 have b := of_decide_eq_true (List.all_eq_true.mp pmN_few W.bs.length (List.mem_range.mpr (by omega)))
 omega
theorem of_rg {W : Wd} {k : List Int} (hok : W.Ok) (h : k ∈ OF W) : BE.RgT W.bs.length k := by
 obtain ⟨ls, hls, rfl⟩ := List.mem_map.mp h
 have l1 := hok.l1
 have l10 := hok.l10
 have om := ordF_mem hok (inB_all hls)
 exact ⟨om.1, l1, fun x hx => by have := om.2 x hx; omega⟩
theorem kT_inj : ∀ {p q : List Int}, p.length = q.length -> (∀ z ∈ p, 0 <= z /\ z < 1000) -> (∀ z ∈ q, 0 <= z /\ z < 1000) -> BE.kT p = BE.kT q -> p = q
 | [], [], _,_,_,_ => rfl
 | [], _ :: _,h, _,_,_ => by simp at h
 | _ :: _,[], h, _,_,_ => by simp at h
 | x :: xs, y :: ys, hl, hx, hy, h => by
  have hl' : xs.length = ys.length := by simpa using hl
  have hx' : ∀ z ∈ xs, 0 <= z /\ z < 1000 := fun z hz => hx z (List.mem_cons_of_mem _ hz)
  have hy' : ∀ z ∈ ys, 0 <= z /\ z < 1000 := fun z hz => hy z (List.mem_cons_of_mem _ hz)
  rcases Int.lt_trichotomy x y with c | c | c
  . have := BE.kT_lt hl' hx' hy' c; omega
  . subst c
    have h : x * 1000 ^ xs.length + BE.kT xs = x * 1000 ^ ys.length + BE.kT ys := h
    rw [hl'] at h
    rw [kT_inj hl' hx' hy' (by omega)]
  . have := BE.kT_lt hl'.symm hy' hx' c; omega
theorem uniqT {m : Nat} : ∀ {a b : List (List Int)}, (∀ k ∈ a, BE.RgT m k) -> a.Nodup -> b.Nodup -> (∀ k, k ∈ a ↔ k ∈ b) -> a.Pairwise leT -> b.Pairwise leT -> a = b := by
 intro a b hr na nb hm pa pb
 have pm : a.Perm b := (List.perm_ext_iff_of_nodup na nb).mpr hm
 refine List.Perm.eq_of_pairwise (le := leT) (fun x y hx hy h1 h2 => ?_) pa pb pm
 have rx := hr x hx
 have ry := hr y ((hm y).mpr hy)
 unfold leT at h1 h2
 exact kT_inj (rx.1.trans ry.1.symm) rx.2.2 ry.2.2 (by omega)
theorem share_is (c n : Nat) : c / Nat.gcd c n * n = c * (n / Nat.gcd c n) := by
 have h1 := Nat.gcd_dvd_left c n
 have h2 := Nat.gcd_dvd_right c n
 generalize Nat.gcd c n = g at *
 obtain ⟨x, rfl⟩ := h1
 obtain ⟨y, rfl⟩ := h2
 rcases Nat.eq_zero_or_pos g with rfl | hg
 . simp
 . rw [Nat.mul_div_cancel_left _ hg, Nat.mul_div_cancel_left _ hg, Nat.mul_left_comm, Nat.mul_assoc]
theorem cop {c n d : Nat} (h : 0 < c) (hd : 2 <= d) (h1 : (c / Nat.gcd c n) % d = 0) (h2 : (n / Nat.gcd c n) % d = 0) : False := by
 have hg : 0 < Nat.gcd c n := Nat.gcd_pos_of_pos_left _ h
 have a := Nat.dvd_gcd (Nat.dvd_of_mod_eq_zero h1) (Nat.dvd_of_mod_eq_zero h2)
 rw [Nat.gcd_div (Nat.gcd_dvd_left c n) (Nat.gcd_dvd_right c n), Nat.div_self hg] at a
 have := Nat.le_of_dvd (by decide) a
 omega
theorem all_wide (bs : List (Int × Int)) : (allL (bs ++ [(1, 99), (1, 99), (1, 99)])).length = (allL bs).length * 99 * 99 * 99 := by
 unfold allL
 rw [List.foldl_append]
 show (stepL (stepL (stepL (bs.foldl stepL [[]]) (1, 99)) (1, 99)) (1, 99)).length = _
 rw [step_n, step_n, step_n]
 rfl
theorem ok_wide {W : Wd} (hok : W.Ok) (hl : (W.bs.length : Int) <= 4) : (Wd.mk W.b (W.bs ++ [(1, 99), (1, 99), (1, 99)])).Ok := by
 have b1 := hok.b1; have b4 := hok.b4; have l1 := hok.l1
 refine ⟨b1, b4, by show 1 <= (W.bs ++ _).length; rw [List.length_append]; omega, by show (W.bs ++ _).length <= 10; rw [List.length_append]; simp; omega, fun p hp => ?_⟩
 rcases List.mem_append.mp hp with hp | hp
 . exact hok.bd p hp
 . have : p = (1, 99) := by simpa using hp
   subst this
   decide
end Be
set_option Elab.async false
set_option linter.all false
set_option maxRecDepth 100000
namespace Be
open PySem L2
theorem int_at {o : List Int} {i : Nat} {u : V} (h : (o.map V.int)[i]? = some u) : ∃ x, u = .int x /\ o[i]? = some x /\ o.getD i 0 = x := by
 rw [List.getElem?_map] at h
 cases e : o[i]? with
 | none => rw [e] at h; cases h
 | some x =>
  rw [e] at h
  exact ⟨x, (Option.some.inj h).symm, rfl,by rw [List.getD_eq_getElem?_getD, e]; rfl⟩
section
variable {P : Program} {w : World} {K : PySem.W.Frag} {mg : Str -> Option Value} {base : Heap}
def sp_ru (T : Txt K mg) : Sp := fun vs H Q E => ∃ (v t : V) (d dt : PyData), vs = [v, t] /\ Rep H v d /\ Rep H t dt /\ (∀ ds, dt = .tuple ds -> ds.length <= 1000) /\ (isWD d = false -> ∀ H', Same H H' -> E (.ref T.e_NoWorld.C) none H') /\
 ∀ W : Wd, W.Ok -> d = encW W -> (ordD W dt = false -> ∀ H', Same H H' -> E (.ref T.e_NoOrder.C) none H') /\
  (∀ o, VO W o -> dt = encO o -> ∀ (r : Addr) (H' : Hp) (ws : List V), Same H H' -> H r = none -> H' r = some (.lst ws) -> Reps H' ws ((rulesM W o).map encR) -> Q (.ref r) H')
theorem ok_rules (T : Txt K mg) : FnOk P w K mg base (CXr P w) 7 T.rules.a T.rules.d ["world", "order"] (sp_ru T) := by
 refine T.rules.F.okR sc_rules (fun vs H Q E h => ?_) (fun cdv A outer s H vs Q E hr h => ?_)
 . obtain ⟨v, t, d, dt, rfl,_⟩ := h; rfl
 obtain ⟨v, t, d, dt, rfl,hd, ht, hln, q1, q2⟩ := h
 refine ⟨_,(pss_cons (ps_expr (pe_call (ok_check_order T) (hr.mono (by decide)) rfl T.check_order.m T.check_order.F.kp T.check_order.b .nil passR (pa_cons (pv 0) (pa_cons (pv 1) pa_nil)))) (pss_cons (ps_set (i := 2) sc_rules.nd rfl (by first|exact .inl rfl|exact .inr rfl) (pe_lst pa_nil)) (pss_cons (PS.nox (ps_for PassesOwn.never rfl (pi_enumT rfl T.n_enumerate (pa_cons (pv 1) pa_nil)) (pg_tup rfl (pgs_cons (pg_name (i := 3) sc_rules.nd rfl (by first|exact .inl rfl|exact .inr rfl)) (pgs_cons (pg_name (i := 4) sc_rules.nd rfl (by first|exact .inl rfl|exact .inr rfl)) pgs_nil))) (pss_one (ps_expr (pe_bm PySem.F.plainAttrs_list PySem.F.slot_list_extend PySem.F.type_list_extend mt_extend (pv 2) (pa_cons (pe_call (ok_rules_of_ended T) (hr.mono (by decide)) rfl T.rules_of_ended.m T.rules_of_ended.F.kp T.rules_of_ended.b .nil passN (pa_cons (pv 0) (pa_cons (pv 4) (pa_cons (pe_op op_add (pv 3) pe_int) pa_nil)))) pa_nil)))))) (pss_cons (PS.nox (ps_for PassesOwn.never rfl (pi_list (pe_call (ok_running T) (hr.mono (by decide)) rfl T.running.m T.running.F.kp T.running.b .nil passN (pa_cons (pv 0) (pa_cons (pv 1) pa_nil)))) (pg_name (i := 4) sc_rules.nd rfl (by first|exact .inl rfl|exact .inr rfl)) (pss_one (ps_expr (pe_bm PySem.F.plainAttrs_list PySem.F.slot_list_append PySem.F.type_list_append mt_append (pv 2) (pa_cons (pe_call (ok_rule_of_running T) (hr.mono (by decide)) rfl T.rule_of_running.m T.rule_of_running.F.kp T.rule_of_running.b .nil passN (pa_cons (pv 0) (pa_cons (pv 4) (pa_cons (pe_callB call_len_seq rfl T.n_len bt_len (pa_cons (pv 1) pa_nil)) pa_nil)))) pa_nil)))))) (pss_one (ps_ret (pv 2))))))), ?_⟩
 refine ⟨_,rfl,_,rfl,v, t, d, dt, rfl,hd, ht, hln, q1, fun W hok e => ⟨(q2 W hok e).1, fun hy H1 g1 => ?_⟩⟩
 subst e
 obtain ⟨o, rfl,vo⟩ := ord_of hy
 have q := (q2 W hok rfl).2 o vo rfl
 have l10 := hok.l10
 have vl := vo.len
 obtain ⟨po, rfl,hpo⟩ := seqO (K := K) ht
 refine ⟨Nat.zero_le _,fun l hl => ?_⟩
 have gl := g1.trans (same_new hl (.lst []))
 have fl : H l = none := g1.free hl
 refine ⟨_,rfl,po, _,rfl,SqT.of (gl _ _ hpo), for_enumT (K := K) (a := po) (xs := o.map V.int) (fun i σ H2 => ∃ (ws : List V) (x y : Option V), σ = [some v, some (.ref po), some (.ref l), x, y] /\ Same H H2 /\ H2 l = some (.lst ws) /\ Reps H2 ws ((rulesPre W o i).map encR)) ?_ ?_ ?_ ?_⟩
 . exact ⟨[], none, none, rfl,gl, upd_same, .nil⟩
 . rintro i σ H2 _ ⟨ws, x, y, rfl,g, _⟩
   exact SqT.of (g _ _ hpo)
 . rintro i u p σ H2 hu hp ⟨ws, x, y, rfl,g, hl2, rs⟩
   obtain ⟨z, rfl,hz, hzd⟩ := int_at hu
   have hi : i < o.length := (List.getElem?_eq_some_iff.mp hz).1
   have zb := vo.lt (List.mem_of_getElem? hz)
   have g2 := same_new hp (.tup [.int i, .int z])
   have gg := g.trans g2
   refine ⟨p, _,rfl,SqT.of upd_same, rfl,_,_,rfl,_,_,rfl,rfl,?_⟩
   refine ⟨_,rfl,.inl ⟨rfl,_,SqL.of (g2 _ _ hl2)⟩, _,rfl,_,rfl,_,rfl,_,_,rfl,rfl,v, W, z, (i : Int) + 1, rfl,hd.mono gg, zb.1, zb.2, fun r H3 w3 g3 fr3 hr3 rs3 => ?_⟩
   have hl3 : H3 l = some (.lst ws) := g3 _ _ (g2 _ _ hl2)
   refine ⟨l, r, ws, w3, rfl,rfl,hl3, hr3, ?_,?_⟩
   . rw [rs.length, rs3.length, List.length_map, List.length_map, rulesPre_len]
     exact Nat.le_trans (show 3 * i + 3 <= 100 by omega) (by decide)
   refine ⟨ws ++ w3, _,_,rfl,(gg.trans g3).write fl _,upd_same, ?_⟩
   rw [rulesPre_succ, List.map_append, hzd]
   have ts : TSame H3 (upd H3 l (.lst (ws ++ w3))) := TSame.lst hl3 _
   have e3 : ([((i : Int) + 1, bg W z, (bnd W z).2), (bg W z, (i : Int) + 1, -(bnd W z).1), ((i : Int) + 1 - 1, (i : Int) + 1, 0)] : List Ru) = rule3 W i z := by
    unfold rule3
    rw [show (i : Int) + 1 - 1 = i by omega]
   rw [e3] at rs3
   exact ((rs.mono (g2.trans g3)).tmono ts (all_encR _)).append (rs3.tmono ts (all_encR _))
 . rintro σ H2 ⟨ws, x, y, rfl,g, hl2, rs⟩
   rw [List.length_map] at rs
   refine ⟨_,rfl,_,rfl,v, po, W, o, rfl,hd.mono g, hok, .inr (SqT.of (g _ _ hpo)), by omega, fun r H3 g3 fr3 hr3 => ?_⟩
   have hrl : r ≠ l := fun z => by rw [z, hl2] at fr3; cases fr3
   have fr : H r = none := g.free fr3
   have rl := run_len W o
   refine ⟨r, rfl,⟨_,SqL.of hr3⟩, for_list (K := K) (a := r) (xs := (runM W o).map V.int) (fun i σ H4 => ∃ (ws : List V) (x y : Option V), σ = [some v, some (.ref po), some (.ref l), x, y] /\ Same H H4 /\ H4 l = some (.lst ws) /\ H4 r = some (.lst ((runM W o).map V.int)) /\ Reps H4 ws ((rulesPre W o o.length ++ ((runM W o).take i).map (ruleR W o.length)).map encR)) ?_ ?_ ?_ ?_⟩
   . refine ⟨ws, x, y, rfl,g.trans g3, g3 _ _ hl2, hr3, ?_⟩
     show Reps H3 ws ((rulesPre W o o.length ++ []).map encR)
     rw [List.append_nil]
     exact rs.mono g3
   . rintro i σ H4 _ ⟨ws, x, y, rfl,g4, hl4, hr4, _⟩
     exact SqL.of hr4
   . rintro i u σ H4 hu ⟨ws, x, y, rfl,g4, hl4, hr4, rs4⟩
     obtain ⟨z, rfl,hz, hzd⟩ := int_at hu
     have zr := mem_run.mp (List.mem_of_getElem? hz)
     have zb : 0 <= z /\ z < (W.bs.length : Int) := by have := began_le W o.length; omega
     have hi : i < (runM W o).length := (List.getElem?_eq_some_iff.mp hz).1
     refine ⟨_,rfl,.inl ⟨rfl,_,SqL.of hl4⟩, _,rfl,_,rfl,_,rfl,po, _,rfl,.inr (SqT.of (g4 _ _ hpo)), v, W, z, _,rfl,hd.mono g4, zb.1, zb.2, fun u5 H5 g5 ru5 => ?_⟩
     have hl5 := g5 _ _ hl4
     refine ⟨l, ws, u5, rfl,rfl,hl5, ?_,?_⟩
     . rw [rs4.length, List.length_map, List.length_append, rulesPre_len, List.length_map, List.length_take]
       exact Nat.lt_of_lt_of_le (show _ < 100 by omega) (by decide)
     rw [List.length_map] at ru5
     have ts : TSame H5 (upd H5 l (.lst (ws ++ [u5]))) := TSame.lst hl5 _
     refine ⟨ws ++ [u5], _,_,rfl,(g4.trans g5).write fl _,upd_same, ?_,?_⟩
     . rw [upd_ne hrl]; exact g5 _ _ hr4
     . rw [List.take_add_one, hz]
       show Reps _ _ ((rulesPre W o o.length ++ ((runM W o).take i ++ [z]).map (ruleR W o.length)).map encR)
       rw [show (rulesPre W o o.length ++ ((runM W o).take i ++ [z]).map (ruleR W o.length)).map encR = (rulesPre W o o.length ++ ((runM W o).take i).map (ruleR W o.length)).map encR ++ [encR (ruleR W o.length z)] by simp]
       exact ((rs4.mono g5).tmono ts (all_encR _)).append (Reps.one (ru5.tmono ts (by rfl)))
   . rintro σ H4 ⟨ws, x, y, rfl,g4, hl4, hr4, rs4⟩
     rw [List.length_map, List.take_length] at rs4
     exact ⟨_,rfl,q l H4 ws g4 fl hl4 rs4⟩
end
end Be
set_option Elab.async false
set_option linter.all false
set_option maxRecDepth 100000
namespace Be
open PySem L2
theorem encO_inj : ∀ {o o' : List Int}, encO o = encO o' -> o = o' := by
 intro o o' e
 unfold encO at e
 injection e with e
 exact (List.map_inj_right fun x y h => by injection h).mp e
def feasB (rs : List Ru) (row : List Int) : Bool := rs.all fun r => decide (fn row r.1.toNat - fn row r.2.1.toNat <= r.2.2)
theorem feasB_iff {rs : List Ru} {row : List Int} : feasB rs row = true ↔ FeasF rs (fn row) := by
 unfold feasB FeasF
 rw [List.all_eq_true]
 exact ⟨fun h r hr => of_decide_eq_true (h r hr), fun h r hr => decide_eq_true (h r hr)⟩
theorem rep3_inv {H : Hp} {v : V} {r : Ru} (h : Rep H v (encR r)) : ∃ p, v = .ref p /\ H p = some (.tup [.int r.1, .int r.2.1, .int r.2.2]) := by
 obtain ⟨q, vs, rfl,hq, rs⟩ := h.tup_inv
 have e : vs = [.int r.1, .int r.2.1, .int r.2.2] := Reps.ints_inv (ns := [r.1, r.2.1, r.2.2]) rs
 subst e
 exact ⟨q, rfl,hq⟩
theorem rule_at {H : Hp} {ws : List V} {rs : List Ru} (h : Reps H ws (rs.map encR)) {i : Nat} {x : V} (hx : ws[i]? = some x) : ∃ r p, rs[i]? = some r /\ r ∈ rs /\ x = .ref p /\ H p = some (.tup [.int r.1, .int r.2.1, .int r.2.2]) := by
 obtain ⟨d, hd, rx⟩ := h.get' hx
 rw [List.getElem?_map] at hd
 cases e : rs[i]? with
 | none => rw [e] at hd; cases hd
 | some r =>
  rw [e] at hd
  obtain rfl := Option.some.inj hd
  obtain ⟨p, rfl,hp⟩ := rep3_inv rx
  exact ⟨r, p, rfl,List.mem_of_getElem? e, rfl,hp⟩
theorem atI_row {row : List Int} {k : Int} (h0 : 0 <= k) (h1 : k < (row.length : Int)) : atI (row.map V.int) k = some (.int (fn row k.toNat)) := by
 have ex : k = ((k.toNat : Nat) : Int) := by omega
 have hl : k.toNat < row.length := by omega
 rw [ex]
 refine atI_nat ?_
 rw [List.getElem?_map, List.getElem?_eq_getElem hl]
 unfold fn
 rw [List.getD_eq_getElem?_getD, Int.toNat_natCast, List.getElem?_eq_getElem hl]
 rfl
theorem map_snoc {α β γ : Type} {xs : List α} {i : Nat} {x : α} (h : xs[i]? = some x) (f : α -> β) (g : β -> γ) : ((xs.take (i + 1)).map f).map g = ((xs.take i).map f).map g ++ [g (f x)] := by
 rw [List.take_add_one, h, List.map_append, List.map_append]; rfl
theorem rules_len {W : Wd} {o : List Int} (hok : W.Ok) (vo : VO W o) : (rulesM W o).length <= 60 := by
 have := run_len W o
 have := vo.len
 have := hok.l10
 unfold rulesM
 rw [List.length_append, rulesPre_len, List.length_map]
 omega
section
variable {P : Program} {w : World} {K : PySem.W.Frag} {mg : Str -> Option Value} {base : Heap}
def sp_holds : Sp := fun vs H Q _ => ∃ (p l : Addr) (a b c : Int) (row : List Int), vs = [.ref p, .ref l] /\ H p = some (.tup [.int a, .int b, .int c]) /\ H l = some (.lst (row.map V.int)) /\ 0 <= a /\ a < (row.length : Int) /\ 0 <= b /\ b < (row.length : Int) /\
 Q (.bl (decide (fn row a.toNat - fn row b.toNat <= c))) H
theorem ok_holds (T : Txt K mg) : FnOk P w K mg base (CXr P w) 1 T.holds.a T.holds.d ["rule", "event_moments"] sp_holds := by
 refine T.holds.F.okN sc_holds (fun vs H Q E h => ?_) (fun cdv A outer s H vs Q E hr h => ?_)
 . obtain ⟨p, l, a, b, c, row, rfl,_⟩ := h; rfl
 obtain ⟨p, l, a, b, c, row, rfl,hp, hl, a0, a1, b0, b1, q⟩ := h
 refine ⟨_,(pss_one (ps_ret (pe_cmpR op_le (pe_op op_sub (pe_ix ix_list (pv 1) (pe_ix ix_tup (pv 0) pe_int (fun _ _ => rfl)) (fun _ _ => rfl)) (pe_ix ix_list (pv 1) (pe_ix ix_tup (pv 0) pe_int (fun _ _ => rfl)) (fun _ _ => rfl))) (pe_ix ix_tup (pv 0) pe_int (fun _ _ => rfl)) (nomark _)))), ?_⟩
 exact ⟨_,rfl,_,rfl,p, _,_,_,rfl,rfl,SqT.of hp, rfl,l, _,_,_,rfl,rfl,SqL.of hl, atI_row a0 a1, _,rfl,_,rfl,p, _,_,_,rfl,rfl,SqT.of hp, rfl,l, _,_,_,rfl,rfl,SqL.of hl, atI_row b0 b1, _,_,rfl,rfl,_,rfl,p, _,_,_,rfl,rfl,SqT.of hp, rfl,_,_,rfl,rfl,q⟩
end
end Be
set_option Elab.async false
set_option linter.all false
set_option maxRecDepth 100000
namespace Be
open PySem L2
theorem ixN_of {n : Nat} {k : Int} (h0 : 0 <= k) (h1 : k < (n : Int)) : ixN n k = some k.toNat := by
 unfold ixN
 rw [if_pos h0, if_pos h1]
section
variable {P : Program} {w : World} {K : PySem.W.Frag} {mg : Str -> Option Value} {base : Heap}
end
end Be
set_option Elab.async false
set_option linter.all false
namespace Be
theorem walks0_some {W : Wd} {o : List Int} (v : Nat) (hv : v < o.length + 1) : ∃ y, ge (walks0 W o).1 v = some y := by
 have i1 := (init_len (o.length + 1) 0).1
 have f : ∀ k, ∃ y, ge (rnd (rulesM W o) (k + 1) (initW (o.length + 1) 0)).1 v = some y := by
  intro k
  induction k with
  | zero =>
   obtain ⟨y, _,g⟩ := first_round (W := W) (o := o) (s := initW (o.length + 1) 0) i1 ⟨0, Int.le_refl _,by
    unfold initW
    dsimp only
    rw [ge_set, if_pos ⟨rfl,by rw [List.length_replicate]; exact Nat.succ_pos _⟩]⟩ (rulesM W o).length v (by
     unfold rulesM
     rw [List.length_append, rulesPre_len]
     exact Nat.le_trans (Nat.mul_le_mul_left 3 (Nat.le_of_lt_succ hv)) (Nat.le_add_right _ _)) (Nat.le_of_lt_succ hv)
   exact ⟨y, g⟩
  | succ k ih =>
   obtain ⟨y, hy⟩ := ih
   obtain ⟨y', _,h'⟩ := pw_dec (rs := rulesM W o) (rulesM W o).length hy
   exact ⟨y', h'⟩
 exact f o.length
theorem eM_someB {W : Wd} {o r : List Int} (hok : W.Ok) (vo : VO W o) (h : early W o = some r) : eM W o = r := by
 have E := early_some hok vo h
 obtain ⟨L, hL⟩ := leastG hok vo h (g := 0) (Nat.succ_pos _)
 have up : ∀ v, v < o.length + 1 -> fn r v <= L v := E.le L hL.fe.fe fun v hv => by
  have a := rises hL.fe.fe v (Nat.le_of_lt_succ hv)
  rw [hL.fe.z] at a
  exact a
 have s1 := hL.le (fn r) ⟨E.fe, E.z⟩
 refine eq_of_fn (by rw [eM_len, E.len]) fun v hv => ?_
 rw [eM_len] at hv
 rw [fn_eM hv (final hL (inR hok vo) (Nat.succ_pos _) hv), Int.neg_neg]
 apply Classical.byContradiction
 intro ne
 have := ssum_lt (f := fn r) (g := L) (o.length + 1) up ⟨v, hv, Int.lt_iff_le_and_ne.mpr ⟨up v hv, fun z => ne z.symm⟩⟩
 exact absurd s1 (Int.not_le.mpr this)
end Be
set_option Elab.async false
set_option linter.all false
set_option maxRecDepth 100000
namespace Be
open PySem L2
def oV : OI -> V
 | none => .non
 | some i => .int i
theorem atI_o {l : List OI} {k : Int} (h0 : 0 <= k) (h1 : k < (l.length : Int)) : atI (l.map oV) k = some (oV (ge l k.toNat)) := by
 have ex : k = ((k.toNat : Nat) : Int) := by omega
 have hl : k.toNat < l.length := by omega
 rw [ex]
 refine atI_nat ?_
 rw [List.getElem?_map, List.getElem?_eq_getElem hl]
 unfold ge
 rw [List.getD_eq_getElem?_getD, Int.toNat_natCast, List.getElem?_eq_getElem hl]
 rfl
theorem o_at {l : List OI} {i : Nat} {u : V} (h : (l.map oV)[i]? = some u) : l[i]? = some (ge l i) /\ u = oV (ge l i) := by
 rw [List.getElem?_map] at h
 unfold ge
 rw [List.getD_eq_getElem?_getD]
 cases e : l[i]? with
 | none => rw [e] at h; cases h
 | some x => rw [e] at h; exact ⟨rfl,(Option.some.inj h).symm⟩
theorem rep_non (n : Nat) : (List.replicate n [V.non]).flatten = (List.replicate n (none : OI)).map oV := by
 rw [List.flatten_replicate_singleton, List.map_replicate]; rfl
def SameB (m f : Addr) (H H' : Hp) : Prop := ∀ b o, b ≠ m -> b ≠ f -> H b = some o -> H' b = some o
theorem SameB.ts {m f : Addr} {H H' : Hp} {xs ys : List V} (g : SameB m f H H') (hm : H m = some (.lst xs)) (hf : H f = some (.lst ys)) : TSame H H' := fun b zs q => g b _ (ne_of q hm (by intro z; cases z)) (ne_of q hf (by intro z; cases z)) q
section
variable {P : Program} {w : World} {K : PySem.W.Frag} {mg : Str -> Option Value} {base : Heap}
def sp_shorten : Sp := fun vs H Q _ => ∃ (a m f : Addr) (ws : List V) (rs : List Ru) (n : Nat) (s : SW), vs = [.ref a, .ref m, .ref f] /\ H a = some (.lst ws) /\ Reps H ws (rs.map encR) /\ InR rs n /\ s.1.length = n /\ s.2.length = n /\ H m = some (.lst (s.1.map oV)) /\ H f = some (.lst (s.2.map oV)) /\ m ≠ f /\ a ≠ m /\ a ≠ f /\
 ∀ H', SameB m f H H' -> H' m = some (.lst ((pw rs rs.length s).1.map oV)) -> H' f = some (.lst ((pw rs rs.length s).2.map oV)) -> Q .non H'
set_option maxHeartbeats 1000000 in
theorem ok_shorten_walks (T : Txt K mg) : FnOk P w K mg base (CXr P w) 1 T.shorten_walks.a T.shorten_walks.d ["told", "mosts", "firsts"] sp_shorten := by
 refine T.shorten_walks.F.okN sc_shorten_walks (fun vs H Q E h => ?_) (fun cdv A outer s H vs Q E hr h => ?_)
 . obtain ⟨a, m, f, ws, rs, n, s, rfl,_⟩ := h; rfl
 obtain ⟨a, m, f, ws, rs, n, s0, rfl,ha, hrs, hi, hs1, hs2, hm, hf, hmf, ham, haf, q⟩ := h
 refine ⟨_,(pss_one (ps_for PassesOwn.never rfl (pi_enumL rfl T.n_enumerate (pa_cons (pv 0) pa_nil)) (pg_tup rfl (pgs_cons (pg_name (i := 3) sc_shorten_walks.nd rfl (by first|exact .inl rfl|exact .inr rfl)) (pgs_cons (pg_name (i := 4) sc_shorten_walks.nd rfl (by first|exact .inl rfl|exact .inr rfl)) pgs_nil))) (pss_cons (ps_set (i := 5) sc_shorten_walks.nd rfl (by first|exact .inl rfl|exact .inr rfl) (pe_ix ix_list (pv 1) (pe_ix ix_tup (pv 4) pe_int (fun _ _ => rfl)) (fun _ _ => rfl))) (pss_one (ps_if (PW.pt (pw_and (pt_cmpR op_notN (pv 5) pe_non (nomark _)) (pw_and1 (PW.pt (pw_or (pt_cmpR op_isN (pe_ix ix_list (pv 1) (pe_ix ix_tup (pv 4) pe_int (fun _ _ => rfl)) (fun _ _ => rfl)) pe_non (nomark _)) (pw_or1 (pt_cmpR op_lt (pe_op op_add (pv 5) (pe_ix ix_tup (pv 4) pe_int (fun _ _ => rfl))) (pe_ix ix_list (pv 1) (pe_ix ix_tup (pv 4) pe_int (fun _ _ => rfl)) (fun _ _ => rfl)) (nomark _)))))))) (pss_cons (ps_asg (pe_op op_add (pv 5) (pe_ix ix_tup (pv 4) pe_int (fun _ _ => rfl))) (pg_sub (pv 1) (pe_ix ix_tup (pv 4) pe_int (fun _ _ => rfl)) set_list)) (pss_one (ps_asg (pv 3) (pg_sub (pv 2) (pe_ix ix_tup (pv 4) pe_int (fun _ _ => rfl)) set_list)))) pss_nil))))), ?_⟩
 have hle := hrs.length
 rw [List.length_map] at hle
 refine ⟨_,rfl,a, _,rfl,SqL.of ha, for_enumL (K := K) (a := a) (xs := ws) (fun j σ H2 => ∃ (x3 x4 x5 : Option V), σ = [some (.ref a), some (.ref m), some (.ref f), x3, x4, x5] /\ SameB m f H H2 /\ H2 m = some (.lst ((pw rs j s0).1.map oV)) /\ H2 f = some (.lst ((pw rs j s0).2.map oV))) ?_ ?_ ?_ ?_⟩
 . exact ⟨none, none, none, rfl,fun _ _ _ _ z => z, hm, hf⟩
 . rintro j σ H2 _ ⟨x3, x4, x5, rfl,g, _⟩
   exact SqL.of (g _ _ ham haf ha)
 . rintro j v p σ H2 hv hp ⟨x3, x4, x5, rfl,g, hm2, hf2⟩
   have gp := same_new hp (.tup [.int j, v])
   have g3 : SameB m f H (upd H2 p (.tup [.int j, v])) := fun b o n1 n2 hb => gp _ _ (g b o n1 n2 hb)
   have hm3 := gp _ _ hm2
   have hf3 := gp _ _ hf2
   obtain ⟨ru, pr, hru, hmem, rfl,hpr⟩ := rule_at (hrs.tmono (g3.ts hm hf) (all_encR rs)) hv
   have ir := hi ru hmem
   have l1 : (pw rs j s0).1.length = n := by rw [(pw_len rs s0 j).1]; exact hs1
   have l2 : (pw rs j s0).2.length = n := by rw [(pw_len rs s0 j).2]; exact hs2
   have eg : rs.getD j (0, 0, 0) = ru := by rw [List.getD_eq_getElem?_getD, hru]; rfl
   have en : pw rs (j + 1) s0 = stepW (pw rs j s0) j ru := by show stepW (pw rs j s0) j (rs.getD j (0, 0, 0)) = _; rw [eg]
   have pe : ∃ q, q = p := ⟨p, rfl⟩
   generalize hH3 : upd H2 p (.tup [.int j, .ref pr]) = H3 at *
   have hpt : H3 p = some (.tup [.int j, .ref pr]) := by rw [<- hH3, upd_same]
   refine ⟨p, _,rfl,SqT.of hpt, rfl,_,_,rfl,_,_,rfl,rfl,?_⟩
   refine ⟨_,rfl,_,rfl,pr, _,_,_,rfl,rfl,SqT.of hpr, rfl,m, _,_,_,rfl,rfl,SqL.of hm3, atI_o ir.1.1 (by rw [l1]; exact ir.1.2), ?_⟩
   refine ⟨_,rfl,rfl,_,rfl,?_⟩
   cases hy : ge (pw rs j s0).1 ru.1.toNat with
   | none =>
    have es : pw rs (j + 1) s0 = pw rs j s0 := by rw [en]; unfold stepW; rw [hy]
    refine iteF (iteF ⟨_,_,_,rfl,g3, ?_,?_⟩)
    . rw [es]; exact hm3
    . rw [es]; exact hf3
   | some y =>
    refine iteT ⟨_,rfl,_,rfl,pr, _,_,_,rfl,rfl,SqT.of hpr, rfl,m, _,_,_,rfl,rfl,SqL.of hm3, atI_o ir.2.1 (by rw [l1]; exact ir.2.2), rfl,_,rfl,?_⟩
    cases hz : ge (pw rs j s0).1 ru.2.1.toNat with
    | none =>
     have es : pw rs (j + 1) s0 = ((pw rs j s0).1.set ru.2.1.toNat (some (y + ru.2.2)), (pw rs j s0).2.set ru.2.1.toNat (some (j : Int))) := by
      rw [en]; unfold stepW; rw [hy]; dsimp only; rw [hz]; rfl
     refine iteT (iteT ?_)
     refine ⟨_,rfl,_,rfl,pr, _,_,_,rfl,rfl,SqT.of hpr, rfl,y, _,rfl,rfl,_,rfl,_,rfl,pr, _,_,_,rfl,rfl,SqT.of hpr, rfl,m, _,_,_,rfl,rfl,hm3, ixN_of ir.2.1 (by rw [List.length_map, l1]; exact ir.2.2), ?_⟩
     have npm : pr ≠ m := fun e => by rw [e, hm3] at hpr; cases hpr
     refine ⟨_,rfl,_,rfl,_,rfl,pr, _,_,_,rfl,rfl,SqT.of (by rw [upd_ne npm]; exact hpr), rfl,f, _,_,_,rfl,rfl,(by rw [upd_ne (Ne.symm hmf)]; exact hf3), ixN_of ir.2.1 (by rw [List.length_map, l2]; exact ir.2.2), ?_⟩
     refine ⟨_,_,_,rfl,fun b o n1 n2 hb => ?_,?_,?_⟩
     . rw [upd_ne n2, upd_ne n1]; exact g3 b o n1 n2 hb
     . rw [upd_ne hmf, upd_same, es, List.map_set]; rfl
     . rw [upd_same, es, List.map_set]; rfl
    | some z =>
     refine iteF ⟨_,rfl,_,rfl,pr, _,_,_,rfl,rfl,SqT.of hpr, rfl,y, _,rfl,rfl,_,rfl,_,rfl,pr, _,_,_,rfl,rfl,SqT.of hpr, rfl,m, _,_,_,rfl,rfl,SqL.of hm3, atI_o ir.2.1 (by rw [l1]; exact ir.2.2), _,z, rfl,congrArg oV hz, _,rfl,?_⟩
     by_cases hlt : y + ru.2.2 < z
     . have es : pw rs (j + 1) s0 = ((pw rs j s0).1.set ru.2.1.toNat (some (y + ru.2.2)), (pw rs j s0).2.set ru.2.1.toNat (some (j : Int))) := by
         rw [en]; unfold stepW; rw [hy]; dsimp only; rw [hz, if_pos (show less (some z) (y + ru.2.2) = true from decide_eq_true hlt)]
       refine if_t (decide_eq_true hlt) ?_
       refine ⟨_,rfl,_,rfl,pr, _,_,_,rfl,rfl,SqT.of hpr, rfl,y, _,rfl,rfl,_,rfl,_,rfl,pr, _,_,_,rfl,rfl,SqT.of hpr, rfl,m, _,_,_,rfl,rfl,hm3, ixN_of ir.2.1 (by rw [List.length_map, l1]; exact ir.2.2), ?_⟩
       have npm : pr ≠ m := fun e => by rw [e, hm3] at hpr; cases hpr
       refine ⟨_,rfl,_,rfl,_,rfl,pr, _,_,_,rfl,rfl,SqT.of (by rw [upd_ne npm]; exact hpr), rfl,f, _,_,_,rfl,rfl,(by rw [upd_ne (Ne.symm hmf)]; exact hf3), ixN_of ir.2.1 (by rw [List.length_map, l2]; exact ir.2.2), ?_⟩
       refine ⟨_,_,_,rfl,fun b o n1 n2 hb => ?_,?_,?_⟩
       . rw [upd_ne n2, upd_ne n1]; exact g3 b o n1 n2 hb
       . rw [upd_ne hmf, upd_same, es, List.map_set]; rfl
       . rw [upd_same, es, List.map_set]; rfl
     . have es : pw rs (j + 1) s0 = pw rs j s0 := by
         rw [en]; unfold stepW; rw [hy]; dsimp only; rw [hz, if_neg (show ¬ less (some z) (y + ru.2.2) = true from fun q => hlt (of_decide_eq_true q))]
       refine if_f (decide_eq_false hlt) ⟨_,_,_,rfl,g3, ?_,?_⟩
       . rw [es]; exact hm3
       . rw [es]; exact hf3
 . rintro σ H2 ⟨x3, x4, x5, rfl,g, hm2, hf2⟩
   rw [hle] at hm2 hf2
   exact q H2 g hm2 hf2
def sp_short : Sp := fun vs H Q _ => ∃ (a : Addr) (ws : List V) (rs : List Ru) (n goal : Nat), vs = [.ref a, .int n, .int goal] /\ H a = some (.lst ws) /\ Reps H ws (rs.map encR) /\ InR rs n /\ n <= 100 /\ goal < n /\
 ∀ (p m f : Addr) (H' : Hp), Same H H' -> H' p = some (.tup [.ref m, .ref f]) -> H' m = some (.lst ((rnd rs n (initW n goal)).1.map oV)) -> H' f = some (.lst ((rnd rs n (initW n goal)).2.map oV)) -> Q (.ref p) H'
theorem ok_shortest_walks (T : Txt K mg) : FnOk P w K mg base (CXr P w) 2 T.shortest_walks.a T.shortest_walks.d ["told", "events", "goal"] sp_short := by
 refine T.shortest_walks.F.okN sc_shortest_walks (fun vs H Q E h => ?_) (fun cdv A outer s H vs Q E hr h => ?_)
 . obtain ⟨a, ws, rs, n, goal, rfl,_⟩ := h; rfl
 obtain ⟨a, ws, rs, n, goal, rfl,ha, hrs, hi, hn, hg, q⟩ := h
 refine ⟨_,(pss_cons (ps_set (i := 3) sc_shortest_walks.nd rfl (by first|exact .inl rfl|exact .inr rfl) (pe_op op_rep (pe_lst (pa_cons pe_non pa_nil)) (pv 1))) (pss_cons (ps_set (i := 4) sc_shortest_walks.nd rfl (by first|exact .inl rfl|exact .inr rfl) (pe_op op_rep (pe_lst (pa_cons pe_non pa_nil)) (pv 1))) (pss_cons (ps_asg pe_int (pg_sub (pv 3) (pv 2) set_list)) (pss_cons (ps_for PassesOwn.never rfl (pi_range1 rfl T.n_range (pa_cons (pv 1) pa_nil)) (pg_name (i := 5) sc_shortest_walks.nd rfl (by first|exact .inl rfl|exact .inr rfl)) (pss_one (ps_expr (pe_call (ok_shorten_walks T) (hr.mono (by decide)) rfl T.shorten_walks.m T.shorten_walks.F.kp T.shorten_walks.b .nil passN (pa_cons (pv 0) (pa_cons (pv 3) (pa_cons (pv 4) pa_nil))))))) (pss_one (ps_ret (pe_tup (pa_cons (pv 3) (pa_cons (pv 4) pa_nil))))))))), ?_⟩
 have hlen : ∀ k : Nat, ([V.non] : List V).length * (k : Int).toNat = k := fun k => by rw [Int.toNat_natCast]; exact Nat.one_mul _
 refine ⟨by show 1 <= sizeLine; decide, fun l0 hl0 => ?_⟩
 have g0 := same_new hl0 (.lst [.non])
 refine ⟨_,rfl,l0, _,_,rfl,rfl,upd_same, by omega, by omega, by rw [hlen]; exact Nat.le_trans hn (by decide), fun m hm => ?_⟩
 have g1 := g0.trans (same_new hm (.lst (List.replicate (n : Int).toNat [V.non]).flatten))
 have hm1 : upd (upd H l0 (.lst [.non])) m (.lst (List.replicate (n : Int).toNat [V.non]).flatten) m = some (.lst ((List.replicate n (none : OI)).map oV)) := by rw [upd_same, rep_non, Int.toNat_natCast]
 have fm : H m = none := g0.free hm
 generalize upd (upd H l0 (.lst [.non])) m (.lst (List.replicate (n : Int).toNat [V.non]).flatten) = H1 at *
 refine ⟨by show 1 <= sizeLine; decide, fun l2 hl2 => ?_⟩
 have g2 := same_new hl2 (.lst [.non])
 refine ⟨_,rfl,l2, _,_,rfl,rfl,upd_same, by omega, by omega, by rw [hlen]; exact Nat.le_trans hn (by decide), fun f hf => ?_⟩
 have g3 := g2.trans (same_new hf (.lst (List.replicate (n : Int).toNat [V.non]).flatten))
 have hf3 : upd (upd H1 l2 (.lst [.non])) f (.lst (List.replicate (n : Int).toNat [V.non]).flatten) f = some (.lst ((List.replicate n (none : OI)).map oV)) := by rw [upd_same, rep_non, Int.toNat_natCast]
 have ff1 : H1 f = none := g2.free hf
 have ff : H f = none := g1.free ff1
 generalize upd (upd H1 l2 (.lst [.non])) f (.lst (List.replicate (n : Int).toNat [V.non]).flatten) = H3 at *
 have hm3 := g3 _ _ hm1
 have hmf : m ≠ f := fun z => by rw [z, ff1] at hm1; cases hm1
 refine ⟨_,rfl,_,rfl,m, _,_,_,rfl,rfl,hm3, ixN_of (Int.natCast_nonneg _) (by rw [List.length_map, List.length_replicate]; omega), ?_⟩
 have ham : a ≠ m := fun z => by rw [z, fm] at ha; cases ha
 have haf : a ≠ f := fun z => by rw [z, ff] at ha; cases ha
 refine ⟨_,rfl,_,rfl,by omega, by omega, for_range (n := (n : Int).toNat) (fun k σ H2 => ∃ (x5 : Option V), σ = [some (.ref a), some (.int n), some (.int goal), some (.ref m), some (.ref f), x5] /\ Same H H2 /\ H2 m = some (.lst ((rnd rs k (initW n goal)).1.map oV)) /\ H2 f = some (.lst ((rnd rs k (initW n goal)).2.map oV))) ?_ ?_ ?_⟩
 . refine ⟨none, rfl,(g1.trans g3).write fm _,?_,?_⟩
   . rw [upd_same, Int.toNat_natCast]
     show _ = some (HO.lst (((List.replicate n (none : OI)).set goal (some 0)).map oV))
     rw [List.map_set]; rfl
   . rw [upd_ne (Ne.symm hmf)]; exact hf3
 . rintro k σ H2 hk ⟨x5, rfl,g, hm2, hf2⟩
   have rl := rnd_len rs (initW n goal) k
   have il := init_len n goal
   refine ⟨_,rfl,_,rfl,_,rfl,a, m, f, ws, rs, n, rnd rs k (initW n goal), rfl,g _ _ ha, hrs.mono g, hi, rl.1.trans il.1, rl.2.trans il.2, hm2, hf2, hmf, ham, haf, fun H' gb hm' hf' => ?_⟩
   refine ⟨_,rfl,fun b o hb => ?_,hm', hf'⟩
   exact gb b o (fun z => by rw [z, fm] at hb; cases hb) (fun z => by rw [z, ff] at hb; cases hb) (g b o hb)
 . rintro σ H2 ⟨x5, rfl,g, hm2, hf2⟩
   rw [Int.toNat_natCast] at hm2 hf2
   refine ⟨_,rfl,_,rfl,by show 2 <= sizeLine; decide, fun p hp => ?_⟩
   have gp := same_new hp (.tup [.ref m, .ref f])
   exact q p m f _ (g.trans gp) upd_same (gp _ _ hm2) (gp _ _ hf2)
def negs (l : List OI) : List Int := l.map fun x => -(x.getD 0)
def sp_em : Sp := fun vs H Q _ => ∃ (a : Addr) (ws : List V) (rs : List Ru) (n : Nat), vs = [.ref a, .int n] /\ H a = some (.lst ws) /\ Reps H ws (rs.map encR) /\ InR rs n /\ n <= 100 /\ 0 < n /\ (∀ v, v < n -> ∃ y, ge (rnd rs n (initW n 0)).1 v = some y) /\
 ∀ (l : Addr) (H' : Hp), Same H H' -> H l = none -> H' l = some (.lst ((negs (rnd rs n (initW n 0)).1).map V.int)) -> Q (.ref l) H'
theorem ok_earliest_moments (T : Txt K mg) : FnOk P w K mg base (CXr P w) 3 T.earliest_moments.a T.earliest_moments.d ["told", "events"] sp_em := by
 refine T.earliest_moments.F.okN sc_earliest_moments (fun vs H Q E h => ?_) (fun cdv A outer s H vs Q E hr h => ?_)
 . obtain ⟨a, ws, rs, n, rfl,_⟩ := h; rfl
 obtain ⟨a, ws, rs, n, rfl,ha, hrs, hi, hn, hn0, hall, q⟩ := h
 refine ⟨_,(pss_one (ps_ret (pe_comp (NB := ["most"]) (js := [none]) rfl (blkOk_of rfl (by decide +kernel) rfl (by decide +kernel) (by decide +kernel) (by with_unfolding_all rfl) (by with_unfolding_all rfl) (by with_unfolding_all rfl) (by with_unfolding_all rfl)) (pi_list (pe_ix ix_tup (pe_call (ok_shortest_walks T) (hr.mono (by decide)) rfl T.shortest_walks.m T.shortest_walks.F.kp T.shortest_walks.b .nil passN (pa_cons (pv 0) (pa_cons (pv 1) (pa_cons pe_int pa_nil)))) pe_int (fun _ _ => rfl))) (fun _ _ _ _ => (pg_name (i := 0) (show (["most"] : List Str).Nodup by decide +kernel) rfl (by first|exact .inl rfl|exact .inr rfl))) (fun _ _ _ _ => pf_nil) (fun _ _ _ _ => (pe_un un_neg (pv 0)))))), ?_⟩
 refine ⟨_,rfl,_,rfl,a, ws, rs, n, 0, rfl,ha, hrs, hi, hn, hn0, fun p m f H1 g1 hp hm hf => ?_⟩
 refine ⟨p, _,_,_,rfl,rfl,SqT.of hp, rfl,m, rfl,⟨_,SqL.of hm⟩, fun D hD => ?_⟩
 have ll : (rnd rs n (initW n 0)).1.length = n := (rnd_len rs (initW n 0) n).1.trans (init_len n 0).1
 refine comp_listR (K := K) (a := m) (xs := (rnd rs n (initW n 0)).1.map oV) (fun i ys H2 => Same H1 H2 /\ H2 D = some (.lst ys) /\ ys = (negs ((rnd rs n (initW n 0)).1.take i)).map V.int) ⟨same_new hD _,upd_same, rfl⟩ (fun i ys H2 _ hP => SqL.of (hP.1 _ _ hm)) (fun i ys y H2 hy hP => ?_) (fun ys H2 hP => ?_)
 . obtain ⟨g, hD2, rfl⟩ := hP
   obtain ⟨hx, rfl⟩ := o_at hy
   have hil : i < n := by
    have := (List.getElem?_eq_some_iff.mp hx).1
    omega
   obtain ⟨z, hz⟩ := hall i hil
   rw [hz] at hx ⊢
   refine ⟨agree0, iteT ⟨_,rfl,_,rfl,hD2, ?_,g.write hD _,upd_same, ?_⟩⟩
   . unfold negs
     rw [List.length_map, List.length_map, List.length_take]
     exact Nat.lt_of_lt_of_le (show _ < 200 by omega) (by decide)
   . unfold negs
     exact (map_snoc hx _ _).symm
 . obtain ⟨g, hD2, rfl⟩ := hP
   rw [List.length_map, List.take_length] at hD2
   exact q D H2 (g1.trans g) (g1.free hD) hD2
def sp_could : Sp := fun vs H Q _ => ∃ (v t : V) (W : Wd) (o : List Int), vs = [v, t] /\ Rep H v (encW W) /\ W.Ok /\ Rep H t (encO o) /\ VO W o /\ ∀ H', Same H H' -> Q (.bl (early W o).isSome) H'
theorem could_is {W : Wd} {o : List Int} (hok : W.Ok) (vo : VO W o) : feasB (rulesM W o) (eM W o) = (early W o).isSome := by
 cases e : early W o with
 | some r =>
  rw [eM_someB hok vo e]
  exact feasB_iff.mpr (early_some hok vo e).fe
 | none => exact Bool.eq_false_iff.mpr fun z => eM_none hok vo e (feasB_iff.mp z)
theorem enc_short {W : Wd} {o : List Int} (hok : W.Ok) (vo : VO W o) : ∀ ds, encO o = .tuple ds -> ds.length <= 1000 := fun ds z => by
 have := hok.l10
 have := vo.len
 unfold encO at z
 injection z with z
 rw [<- z, List.length_map]
 omega
set_option maxHeartbeats 1000000 in
theorem ok_could (T : Txt K mg) : FnOk P w K mg base (CXr P w) 8 T.could.a T.could.d ["world", "order"] sp_could := by
 refine T.could.F.okN sc_could (fun vs H Q E h => ?_) (fun cdv A outer s H vs Q E hr h => ?_)
 . obtain ⟨v, t, W, o, rfl,_⟩ := h; rfl
 obtain ⟨v, t, W, o, rfl,hW, hok, ho, vo, q⟩ := h
 refine ⟨_,(pss_cons (ps_set (i := 2) sc_could.nd rfl (by first|exact .inl rfl|exact .inr rfl) (pe_call (ok_rules T) (hr.mono (by decide)) rfl T.rules.m T.rules.F.kp T.rules.b .nil passN (pa_cons (pv 0) (pa_cons (pv 1) pa_nil)))) (pss_cons (ps_set (i := 3) sc_could.nd rfl (by first|exact .inl rfl|exact .inr rfl) (pe_call (ok_earliest_moments T) (hr.mono (by decide)) rfl T.earliest_moments.m T.earliest_moments.F.kp T.earliest_moments.b .nil passN (pa_cons (pv 2) (pa_cons (pe_op op_add (pe_callB call_len_seq rfl T.n_len bt_len (pa_cons (pv 1) pa_nil)) pe_int) pa_nil)))) (pss_one (ps_ret (pe_callB (call_allL rfl) rfl T.n_all bt_all (pa_cons (pe_comp (NB := ["rule", "earliest"]) (js := [none, some 3]) rfl (blkOk_of rfl (by decide +kernel) rfl (by decide +kernel) (by decide +kernel) (by with_unfolding_all rfl) (by with_unfolding_all rfl) (by with_unfolding_all rfl) (by with_unfolding_all rfl)) (pi_list (pv 2)) (fun _ _ _ _ => (pg_name (i := 0) (show (["rule", "earliest"] : List Str).Nodup by decide +kernel) rfl (by first|exact .inl rfl|exact .inr rfl))) (fun _ _ _ _ => pf_nil) (fun _ _ _ _ => (pe_call (ok_holds T) (hr.mono (by decide)) rfl T.holds.m T.holds.F.kp T.holds.b .nil passN (pa_cons (pv 0) (pa_cons (pv 1) pa_nil))))) pa_nil)))))), ?_⟩
 have l10 := hok.l10
 have vl := vo.len
 refine ⟨_,rfl,_,rfl,v, t, encW W, encO o, rfl,hW, ho, enc_short hok vo, fun z => ?_,fun W' hok' e => ⟨fun z => ?_,fun o' vo' e2 rr H1 ws g1 fr1 hr1 rs1 => ?_⟩⟩
 . rw [isW_enc hok] at z; cases z
 . obtain rfl := encW_inj e
   rw [ord_enc vo] at z; cases z
 obtain rfl := encW_inj e
 obtain rfl := encO_inj e2
 obtain ⟨po, rfl,hpo⟩ := seqO (K := K) ho
 have hle := rs1.length
 rw [List.length_map] at hle
 have hrl := rules_len hok vo
 refine ⟨_,rfl,_,rfl,po, _,rfl,.inr (SqT.of (g1 _ _ hpo)), _,_,rfl,rfl,rr, ws, rulesM W o, o.length + 1, by rw [List.length_map]; rfl,hr1, rs1, inR hok vo, by omega, by omega, fun v hv => ?_,fun l H2 g2 fl hl2 => ?_⟩
 . obtain ⟨y, hy⟩ := walks0_some (W := W) (o := o) v hv
   exact ⟨y, hy⟩
 have hE : H2 l = some (.lst ((eM W o).map V.int)) := hl2
 have hr2 := g2 _ _ hr1
 have rs2 := rs1.mono g2
 refine ⟨_,rfl,rr, rfl,⟨_,SqL.of hr2⟩, fun D hD => ?_⟩
 refine comp_listR (K := K) (a := rr) (xs := ws) (fun i ys H5 => Same H2 H5 /\ H5 D = some (.lst ys) /\ ys = (((rulesM W o).take i).map (fun r => decide (fn (eM W o) r.1.toNat - fn (eM W o) r.2.1.toNat <= r.2.2))).map V.bl) ⟨same_new hD _,upd_same, rfl⟩ (fun i ys H5 _ hP => SqL.of (hP.1 _ _ hr2)) (fun i ys y H5 hy hP => ?_) (fun ys H5 hP => ?_)
 . obtain ⟨g5, hD5, rfl⟩ := hP
   obtain ⟨ru, p, hru, hmem, rfl,hp⟩ := rule_at (rs2.mono g5) hy
   have ir := inR hok vo ru hmem
   have il := eM_len W o
   refine ⟨agree0, iteT ⟨_,rfl,_,rfl,p, l, ru.1, ru.2.1, ru.2.2, eM W o, rfl,hp, g5 _ _ hE, ir.1.1, by rw [il]; exact ir.1.2, ir.2.1, by rw [il]; exact ir.2.2, hD5, ?_,g5.write hD _,upd_same, (map_snoc hru _ _).symm⟩⟩
   rw [List.length_map, List.length_map]
   have := List.length_take_le' i (rulesM W o)
   exact Nat.lt_of_lt_of_le (show _ < 100 by omega) (by decide)
 . obtain ⟨g5, hD5, rfl⟩ := hP
   rw [hle, List.take_length] at hD5
   refine ⟨D, _,rfl,hD5, ?_⟩
   rw [List.all_map]
   rw [<- could_is hok vo] at q
   exact q H5 (g1.trans (g2.trans g5))
end
end Be
set_option Elab.async false
set_option linter.all false
namespace BE
open PySem PySem.SetTable
def Ris (xs : Array Nat) : Prop := ∀ i j (hi : i < xs.size) (hj : j < xs.size), i < j -> xs[i] < xs[j]
theorem below_go {xs : Array Nat} (hr : Ris xs) (j : Nat) : ∀ (f lo hi : Nat), hi - lo <= f -> lo <= hi -> hi <= xs.size -> (∀ i (h : i < xs.size), i < lo -> xs[i] < j) -> (∀ i (h : i < xs.size), hi <= i -> j <= xs[i]) ->
    below.go xs j f lo hi <= xs.size /\ (∀ i (h : i < xs.size), i < below.go xs j f lo hi -> xs[i] < j) /\ (∀ i (h : i < xs.size), below.go xs j f lo hi <= i -> j <= xs[i])
 | 0, lo, hi, hf, hl, hz, h1, h2 => by
  have : lo = hi := by omega
  subst this
  exact ⟨hz, h1, h2⟩
 | f + 1, lo, hi, hf, hl, hz, h1, h2 => by
  unfold below.go
  by_cases c : lo < hi
  . rw [if_pos c]
    have hm : (lo + hi) / 2 < xs.size := by omega
    have eg : xs.getD ((lo + hi) / 2) j = xs[(lo + hi) / 2] := by rw [Array.getD_eq_getD_getElem?, Array.getElem?_eq_getElem hm]; rfl
    dsimp only
    rw [eg]
    by_cases d : xs[(lo + hi) / 2] < j
    . rw [if_pos d]
      refine below_go hr j f _ _ (by omega) (by omega) hz (fun i h hi' => ?_) h2
      rcases Nat.lt_or_ge i ((lo + hi) / 2) with e | e
      . exact Nat.lt_trans (hr i _ h hm e) d
      . have : i = (lo + hi) / 2 := by omega
        subst this; exact d
    . rw [if_neg d]
      refine below_go hr j f _ _ (by omega) (by omega) (by omega) h1 fun i h hi' => ?_
      rcases Nat.lt_or_ge ((lo + hi) / 2) i with e | e
      . have := hr _ i hm h e
        omega
      . have : i = (lo + hi) / 2 := by omega
        subst this; omega
  . rw [if_neg c]
    have : lo = hi := by omega
    subst this
    exact ⟨hz, h1, h2⟩
theorem below_is {xs : Array Nat} (hr : Ris xs) (j : Nat) : below xs j <= xs.size /\ (∀ i (h : i < xs.size), i < below xs j -> xs[i] < j) /\ (∀ i (h : i < xs.size), below xs j <= i -> j <= xs[i]) :=
 below_go hr j xs.size 0 xs.size (by omega) (Nat.zero_le _) (Nat.le_refl _) (fun i h z => absurd z (Nat.not_lt_zero _)) fun i h z => absurd h (by omega)
theorem below_at {xs : Array Nat} (hr : Ris xs) {i : Nat} (hi : i < xs.size) : below xs xs[i] = i := by
 obtain ⟨h0, h1, h2⟩ := below_is hr xs[i]
 rcases Nat.lt_trichotomy (below xs xs[i]) i with h | h | h
 . have a := h2 (below xs xs[i]) (by omega) (Nat.le_refl _)
   have b := hr _ i (by omega) hi h
   omega
 . exact h
 . have := h1 i hi h
   omega
theorem below_get {xs : Array Nat} (hr : Ris xs) (j : Nat) : xs[below xs j]? = some j ↔ j ∈ xs.toList := by
 constructor
 . intro h
   exact List.mem_of_getElem? (by rw [Array.getElem?_toList]; exact h)
 . intro h
   obtain ⟨i, hi, e⟩ := List.mem_iff_getElem.mp h
   have hi' : i < xs.size := by rw [Array.length_toList] at hi; exact hi
   have e' : xs[i] = j := by rw [<- e, Array.getElem_toList]
   rw [<- e', below_at hr hi', Array.getElem?_eq_getElem hi']
def adv (M : Nat) (p : Probe) : Probe := if p.more > 0 then { p with j := p.j + 1, more := p.more - 1 } else { p with j := (leap M p.i p.perturb).1, more := runEnd M (leap M p.i p.perturb).1 - (leap M p.i p.perturb).1, i := (leap M p.i p.perturb).1, perturb := (leap M p.i p.perturb).2 }
theorem advance_is (t : SetTable) (p : Probe) : t.advance p = adv t.mask p := by
 unfold SetTable.advance adv
 split <;> rfl
def start (M : Nat) (h : Int) : Probe := { j := bits h % (M + 1), more := runEnd M (bits h % (M + 1)) - bits h % (M + 1), i := bits h % (M + 1), perturb := bits h, dummy := none }
theorem start_is (t : SetTable) (h : Int) : t.probeStart h = start t.mask h := rfl
def stepN (M : Nat) : Nat -> Probe -> Probe
 | 0, p => p
 | n + 1, p => stepN M n (adv M p)
theorem stepN_succ (M : Nat) : ∀ (n : Nat) (p : Probe), stepN M (n + 1) p = adv M (stepN M n p)
 | 0, p => rfl
 | n + 1, p => stepN_succ M n (adv M p)
theorem stepN_add (M : Nat) : ∀ (a b : Nat) (p : Probe), stepN M (a + b) p = stepN M b (stepN M a p)
 | 0, b, p => by rw [Nat.zero_add]; rfl
 | a + 1, b, p => by rw [show a + 1 + b = (a + b) + 1 by omega]; exact stepN_add M a b (adv M p)
def js (M : Nat) (h : Int) (n : Nat) : Nat := (stepN M n (start M h)).j
structure Hd (M : Nat) (p : Probe) (i q : Nat) : Prop where
 j : p.j = i
 i_ : p.i = i
 pe : p.perturb = q
 mo : p.more = runEnd M i - i
theorem more_le (M i : Nat) : runEnd M i - i <= 9 := by unfold runEnd; split <;> omega
theorem run_next (M : Nat) : ∀ (k : Nat) (p : Probe), p.more = k -> Hd M (stepN M (k + 1) p) (leap M p.i p.perturb).1 (leap M p.i p.perturb).2
 | 0, p, h => by
  show Hd M (adv M p) _ _
  unfold adv
  rw [if_neg (by omega)]
  exact ⟨rfl,rfl,rfl,rfl⟩
 | k + 1, p, h => by
  show Hd M (stepN M (k + 1) (adv M p)) _ _
  have e : adv M p = { p with j := p.j + 1, more := p.more - 1 } := by unfold adv; rw [if_pos (by omega)]
  have := run_next M k (adv M p) (by rw [e]; show p.more - 1 = k; omega)
  rw [e] at this ⊢
  exact this
def hdI (M : Nat) (h : Int) : Nat -> Nat × Nat
 | 0 => (bits h % (M + 1), bits h)
 | r + 1 => leap M (hdI M h r).1 (hdI M h r).2
theorem head_at (M : Nat) (h : Int) : ∀ r : Nat, ∃ n, n <= 10 * r /\ Hd M (stepN M n (start M h)) (hdI M h r).1 (hdI M h r).2
 | 0 => ⟨0, Nat.le_refl _,rfl,rfl,rfl,rfl⟩
 | r + 1 => by
  obtain ⟨n, hn, hd⟩ := head_at M h r
  have a := run_next M _ (stepN M n (start M h)) rfl
  have ml := more_le M (hdI M h r).1
  refine ⟨n + ((stepN M n (start M h)).more + 1), by rw [hd.mo]; omega, ?_⟩
  rw [stepN_add]
  rw [hd.i_,hd.pe] at a
  exact a
theorem pert_at (M : Nat) (h : Int) : ∀ r : Nat, (hdI M h r).2 = bits h / 32 ^ r
 | 0 => by show bits h = _; rw [Nat.pow_zero, Nat.div_one]
 | r + 1 => by
  show (hdI M h r).2 / 32 = _
  rw [pert_at M h r, Nat.div_div_eq_div_mul, Nat.pow_succ]
theorem bits_lt (h : Int) : bits h < 2 ^ 64 := by
 unfold bits
 have a := Int.emod_nonneg h (show (2 ^ 64 : Int) ≠ 0 by decide)
 have b := Int.emod_lt_of_pos h (show (0 : Int) < 2 ^ 64 by decide)
 omega
theorem pert_zero (M : Nat) (h : Int) {r : Nat} (hr : 13 <= r) : (hdI M h r).2 = 0 := by
 rw [pert_at]
 refine Nat.div_eq_of_lt (Nat.lt_of_lt_of_le (bits_lt h) ?_)
 have : 32 ^ 13 <= 32 ^ r := Nat.pow_le_pow_right (by decide) hr
 exact Nat.le_trans (by decide) this
def lcg (m i : Nat) : Nat := (i * 5 + 1) % m
def orb (m : Nat) : Nat -> Nat -> Nat
 | 0, i => i
 | n + 1, i => orb m n (lcg m i)
theorem orb_succ (m : Nat) : ∀ (n i : Nat), orb m (n + 1) i = lcg m (orb m n i)
 | 0, i => rfl
 | n + 1, i => orb_succ m n (lcg m i)
theorem orb_add (m : Nat) : ∀ (a b i : Nat), orb m (a + b) i = orb m b (orb m a i)
 | 0, b, i => by rw [Nat.zero_add]; rfl
 | a + 1, b, i => by rw [show a + 1 + b = (a + b) + 1 by omega]; exact orb_add m a b (lcg m i)
def Full (m : Nat) : Prop := orb m m 0 = 0 /\ ∀ j, j < m -> ∃ n, n < m /\ orb m n 0 = j
def orbL (m : Nat) : Nat -> Nat -> List Nat
 | 0, _ => []
 | n + 1, i => i :: orbL m n (lcg m i)
theorem orbL_get (m : Nat) : ∀ (n i k : Nat), k < n -> (orbL m n i)[k]? = some (orb m k i)
 | 0, _,_,h => absurd h (Nat.not_lt_zero _)
 | n + 1, i, 0, _ => rfl
 | n + 1, i, k + 1, h => orbL_get m n (lcg m i) k (by omega)
theorem full_of {m : Nat} (h0 : orb m m 0 = 0) (h1 : (List.range m).all (fun j => (orbL m m 0).contains j) = true) : Full m := by
 refine ⟨h0, fun j hj => ?_⟩
 have a := List.all_eq_true.mp h1 j (List.mem_range.mpr hj)
 rw [List.contains_iff_mem] at a
 obtain ⟨k, hk, e⟩ := List.mem_iff_getElem.mp a
 have hl : (orbL m m 0).length = m := by
  have : ∀ n i, (orbL m n i).length = n := by
   intro n
   induction n with
   | zero => intro i; rfl
   | succ n ih => intro i; show (orbL m n _).length + 1 = _; rw [ih]
  exact this m 0
 have := orbL_get m m 0 k (by omega)
 rw [List.getElem?_eq_getElem hk, e] at this
 exact ⟨k, by omega, (Option.some.inj this).symm⟩
theorem Full.from {m : Nat} (f : Full m) {i j : Nat} (hi : i < m) (hj : j < m) : ∃ n, n < m /\ orb m n i = j := by
 obtain ⟨a, ha, ea⟩ := f.2 i hi
 obtain ⟨b, hb, eb⟩ := f.2 j hj
 rcases Nat.lt_or_ge b a with c | c
 . refine ⟨m - a + b, by omega, ?_⟩
   rw [<- ea, <- orb_add, show a + (m - a + b) = m + b by omega, orb_add, f.1]
   exact eb
 . refine ⟨b - a, by omega, ?_⟩
   rw [<- ea, <- orb_add, show a + (b - a) = b by omega]
   exact eb
theorem full8 : Full 8 := full_of (by decide +kernel) (by decide +kernel)
theorem full32 : Full 32 := full_of (by decide +kernel) (by decide +kernel)
theorem full128 : Full 128 := full_of (by decide +kernel) (by decide +kernel)
theorem full512 : Full 512 := full_of (by decide +kernel) (by decide +kernel)
theorem hd_lt (M : Nat) (h : Int) : ∀ r : Nat, (hdI M h r).1 < M + 1
 | 0 => Nat.mod_lt _ (by omega)
 | r + 1 => Nat.mod_lt _ (by omega)
theorem hd_orb (M : Nat) (h : Int) {r : Nat} (hr : 13 <= r) : ∀ n, (hdI M h (r + n)).1 = orb (M + 1) n (hdI M h r).1
 | 0 => rfl
 | n + 1 => by
  rw [orb_succ, <- hd_orb M h hr n]
  show ((hdI M h (r + n)).1 * 5 + 1 + (hdI M h (r + n)).2 / 32) % (M + 1) = _
  rw [pert_zero M h (by omega)]
  rfl
theorem js_all {M : Nat} (f : Full (M + 1)) (h : Int) {j : Nat} (hj : j < M + 1) : ∃ n, n < 10 * turns M /\ js M h n = j := by
 obtain ⟨k, hk, ek⟩ := f.from (hd_lt M h 13) hj
 obtain ⟨n, hn, hd⟩ := head_at M h (13 + k)
 refine ⟨n, by unfold turns; omega, ?_⟩
 unfold js
 rw [hd.j, hd_orb M h (Nat.le_refl _) k]
 exact ek
structure Tab (t : SetTable) : Prop where
 ri : Ris t.place
 du : t.dummies = #[]
 le : ∀ j ∈ t.place.toList, j < t.mask + 1
theorem has_nil (j : Nat) : has #[] j = false := by
 unfold has
 show ((#[] : Array Nat)[_]? == some j) = false
 rw [Array.getElem?_empty]
 rfl
theorem slot_in {t : SetTable} (T : Tab t) {j : Nat} (h : j ∈ t.place.toList) : t.slot j = .live (below t.place j) := by
 unfold SetTable.slot
 dsimp only
 rw [(below_get T.ri j).mpr h]
 rw [if_pos (by exact beq_self_eq_true _)]
theorem slot_out {t : SetTable} (T : Tab t) {j : Nat} (h : j ∉ t.place.toList) : t.slot j = .empty := by
 unfold SetTable.slot
 dsimp only
 rw [if_neg (fun e => h ((below_get T.ri j).mp (beq_iff_eq.mp e))), T.du, has_nil]
 rfl
theorem go_step {t : SetTable} (T : Tab t) {hs : Nat -> Int} {h : Int} {g : Nat} {p : Probe} (c : p.j ∈ t.place.toList) (e : (hs (below t.place p.j) == h) = false) : probe.go t hs h (g + 1) p = probe.go t hs h g (adv t.mask p) := by
 conv => lhs; unfold probe.go
 rw [slot_in T c]
 dsimp only
 rw [if_neg (by rw [e]; exact Bool.false_ne_true), advance_is]
theorem adv_dummy {M : Nat} {p : Probe} (h : p.dummy = none) : (adv M p).dummy = none := by unfold adv; split <;> exact h
theorem go_on {t : SetTable} (T : Tab t) {hs : Nat -> Int} {h : Int} : ∀ (n f : Nat) (p : Probe), n <= f ->
    (∀ m, m < n -> (stepN t.mask m p).j ∈ t.place.toList /\ (hs (below t.place (stepN t.mask m p).j) == h) = false) -> probe.go t hs h f p = probe.go t hs h (f - n) (stepN t.mask n p)
 | 0, f, p, _,_ => rfl
 | n + 1, f, p, hf, hm => by
  obtain ⟨g, rfl⟩ : ∃ g, f = g + 1 := ⟨f - 1, by omega⟩
  have ce := hm 0 (by omega)
  rw [go_step (p := p) T ce.1 ce.2, go_on T n g (adv t.mask p) (by omega) fun m h' => hm (m + 1) (by omega), show g + 1 - (n + 1) = g - n by omega]
  rfl
theorem step_dummy {M : Nat} : ∀ (n : Nat) {p : Probe}, p.dummy = none -> (stepN M n p).dummy = none
 | 0, p, h => h
 | n + 1, p, h => step_dummy n (adv_dummy h)
theorem go_empty {t : SetTable} (T : Tab t) {hs : Nat -> Int} {h : Int} {n f : Nat} {p : Probe} (hd : p.dummy = none) (hf : n < f)
    (hm : ∀ m, m < n -> (stepN t.mask m p).j ∈ t.place.toList /\ (hs (below t.place (stepN t.mask m p).j) == h) = false) (c : (stepN t.mask n p).j ∉ t.place.toList) : probe.go t hs h f p = some (.empty (stepN t.mask n p).j none) := by
 rw [go_on T n f p (by omega) hm]
 obtain ⟨g, hg⟩ : ∃ g, f - n = g + 1 := ⟨f - n - 1, by omega⟩
 rw [hg]
 unfold probe.go
 rw [slot_out T c]
 dsimp only
 rw [step_dummy n hd]
theorem go_cand {t : SetTable} (T : Tab t) {hs : Nat -> Int} {h : Int} {n f : Nat} {p : Probe} (hf : n < f)
    (hm : ∀ m, m < n -> (stepN t.mask m p).j ∈ t.place.toList /\ (hs (below t.place (stepN t.mask m p).j) == h) = false) (c : (stepN t.mask n p).j ∈ t.place.toList) (e : (hs (below t.place (stepN t.mask n p).j) == h) = true) :
    probe.go t hs h f p = some (.candidate (stepN t.mask n p).j (below t.place (stepN t.mask n p).j) (stepN t.mask (n + 1) p)) := by
 rw [go_on T n f p (by omega) hm, stepN_succ]
 obtain ⟨g, hg⟩ : ∃ g, f - n = g + 1 := ⟨f - n - 1, by omega⟩
 rw [hg]
 unfold probe.go
 rw [slot_in T c]
 dsimp only
 rw [if_pos e, advance_is]
theorem first_free {t : SetTable} (T : Tab t) (F : Full (t.mask + 1)) (hz : t.place.size < t.mask + 1) (h : Int) : ∃ n, n < 10 * turns t.mask /\ js t.mask h n ∉ t.place.toList /\ ∀ m, m < n -> js t.mask h m ∈ t.place.toList := by
 have ex : ∃ j, j < t.mask + 1 /\ j ∉ t.place.toList := by
  apply Classical.byContradiction
  intro c
  have all : ∀ j ∈ List.range (t.mask + 1), j ∈ t.place.toList := fun j hj => by
   apply Classical.byContradiction
   intro d
   exact c ⟨j, List.mem_range.mp hj, d⟩
  have nle : ∀ (l k : List Nat), l.Nodup -> (∀ x ∈ l, x ∈ k) -> l.length <= k.length := by
   intro l
   induction l with
   | nil => intro k _ _; exact Nat.zero_le _
   | cons x r ih =>
    intro k nd hk
    have hx := hk x List.mem_cons_self
    have nd' := List.nodup_cons.mp nd
    have := ih (k.erase x) nd'.2 fun y hy => (List.mem_erase_of_ne (fun e : y = x => nd'.1 (by rw [<- e]; exact hy))).mpr (hk y (List.mem_cons_of_mem _ hy))
    rw [List.length_erase_of_mem hx] at this
    have pos := List.length_pos_of_mem hx
    rw [List.length_cons]
    omega
  have := nle _ _ List.nodup_range all
  rw [List.length_range, Array.length_toList] at this
  omega
 obtain ⟨j, hj, hn⟩ := ex
 obtain ⟨n, hn', e⟩ := js_all F h hj
 have : ∀ k, (∃ n, n < k /\ js t.mask h n ∉ t.place.toList) -> ∃ n, n < k /\ js t.mask h n ∉ t.place.toList /\ ∀ m, m < n -> js t.mask h m ∈ t.place.toList := by
  intro k
  induction k with
  | zero => rintro ⟨n, hn, _⟩; omega
  | succ k ih =>
   rintro ⟨n, hn, hc⟩
   by_cases d : ∃ n, n < k /\ js t.mask h n ∉ t.place.toList
   . obtain ⟨n', a, b, c⟩ := ih d
     exact ⟨n', by omega, b, c⟩
   . have hnk : n = k := by
       apply Classical.byContradiction
       intro z
       exact d ⟨n, by omega, hc⟩
     refine ⟨n, hn, hc, fun m hm => ?_⟩
     apply Classical.byContradiction
     intro z
     exact d ⟨m, by omega, z⟩
 exact this _ ⟨n, hn', by rw [e]; exact hn⟩
end BE
set_option Elab.async false
set_option linter.all false
namespace BE
open PySem PySem.SetTable
def nR (M : Nat) (h : Int) : Nat -> Nat
 | 0 => 0
 | r + 1 => nR M h r + (runEnd M (hdI M h r).1 - (hdI M h r).1 + 1)
theorem in_run (M : Nat) : ∀ (k : Nat) (p : Probe), k <= p.more -> (stepN M k p).j = p.j + k /\ (stepN M k p).i = p.i /\ (stepN M k p).perturb = p.perturb /\ (stepN M k p).more = p.more - k
 | 0, p, _ => ⟨rfl,rfl,rfl,rfl⟩
 | k + 1, p, h => by
  have e : adv M p = { p with j := p.j + 1, more := p.more - 1 } := by unfold adv; rw [if_pos (by omega)]
  obtain ⟨a, b, c, d⟩ := in_run M k (adv M p) (by rw [e]; show k <= p.more - 1; omega)
  rw [e] at a b c d
  show (stepN M k (adv M p)).j = _ /\ (stepN M k (adv M p)).i = _ /\ (stepN M k (adv M p)).perturb = _ /\ (stepN M k (adv M p)).more = _
  rw [e]
  refine ⟨by rw [a]; show p.j + 1 + k = _; omega, b, c, by rw [d]; show p.more - 1 - k = _; omega⟩
theorem head_nR (M : Nat) (h : Int) : ∀ r : Nat, Hd M (stepN M (nR M h r) (start M h)) (hdI M h r).1 (hdI M h r).2
 | 0 => ⟨rfl,rfl,rfl,rfl⟩
 | r + 1 => by
  have hd := head_nR M h r
  have a := run_next M _ (stepN M (nR M h r) (start M h)) rfl
  show Hd M (stepN M (nR M h r + (runEnd M (hdI M h r).1 - (hdI M h r).1 + 1)) (start M h)) _ _
  rw [stepN_add]
  rw [hd.i_,hd.pe, hd.mo] at a
  exact a
theorem js_run (M : Nat) (h : Int) (r : Nat) {k : Nat} (hk : k <= runEnd M (hdI M h r).1 - (hdI M h r).1) : js M h (nR M h r + k) = (hdI M h r).1 + k := by
 have hd := head_nR M h r
 unfold js
 rw [stepN_add, (in_run M k _ (by rw [hd.mo]; exact hk)).1, hd.j]
theorem runEnd_ge (M i : Nat) : i <= runEnd M i := by unfold runEnd; split <;> omega
theorem run_lt {M i : Nat} (h : i < M + 1) : runEnd M i < M + 1 := by unfold runEnd; split <;> omega
theorem nR_mono (M : Nat) (h : Int) {r : Nat} : ∀ {r2 : Nat}, r < r2 -> nR M h r + (runEnd M (hdI M h r).1 - (hdI M h r).1 + 1) <= nR M h r2
 | 0, c => absurd c (Nat.not_lt_zero _)
 | r2 + 1, c => by
  show _ <= nR M h r2 + (_ + 1)
  rcases Nat.lt_or_ge r r2 with d | d
  . have := nR_mono M h d
    omega
  . have : r = r2 := by omega
    subst this
    exact Nat.le_refl _
theorem run_of (M : Nat) (h : Int) : ∀ n : Nat, ∃ r k, k <= runEnd M (hdI M h r).1 - (hdI M h r).1 /\ n = nR M h r + k
 | 0 => ⟨0, 0, Nat.zero_le _,rfl⟩
 | n + 1 => by
  obtain ⟨r, k, hk, e⟩ := run_of M h n
  rcases Nat.lt_or_ge k (runEnd M (hdI M h r).1 - (hdI M h r).1) with c | c
  . exact ⟨r, k + 1, by omega, by omega⟩
  . exact ⟨r + 1, 0, Nat.zero_le _,by show n + 1 = nR M h r + (_ + 1) + 0; omega⟩
theorem free_is {M : Nat} {owner : Array (Option Nat)} {h : Int} : ∀ (f r : Nat), (∃ r' k, r <= r' /\ r' < r + f /\ k <= runEnd M (hdI M h r').1 - (hdI M h r').1 /\ (owner.getD ((hdI M h r').1 + k) (some 0)).isNone = true) ->
    ∃ r' k, r <= r' /\ k <= runEnd M (hdI M h r').1 - (hdI M h r').1 /\ layClean.free M owner f (hdI M h r).1 (hdI M h r).2 = some ((hdI M h r').1 + k) /\ (owner.getD ((hdI M h r').1 + k) (some 0)).isNone = true /\
     (∀ r2 k2, r <= r2 -> r2 < r' -> k2 <= runEnd M (hdI M h r2).1 - (hdI M h r2).1 -> (owner.getD ((hdI M h r2).1 + k2) (some 0)).isNone = false) /\ ∀ k2, k2 < k -> (owner.getD ((hdI M h r').1 + k2) (some 0)).isNone = false
 | 0, r, ⟨r', k, h1, h2, _⟩ => by omega
 | f + 1, r, ⟨r', k, h1, h2, h3, h4⟩ => by
  unfold layClean.free
  cases e : (List.range (runEnd M (hdI M h r).1 + 1 - (hdI M h r).1)).find? fun k => (owner.getD ((hdI M h r).1 + k) (some 0)).isNone with
  | some k0 =>
   have hp := List.find?_some e
   have hm := List.mem_range.mp (List.mem_of_find?_eq_some e)
   have ge := runEnd_ge M (hdI M h r).1
   refine ⟨r, k0, Nat.le_refl _,by omega, rfl,hp, fun r2 k2 a b => by omega, fun k2 hk2 => ?_⟩
   obtain ⟨_,as, bs, eq, hn⟩ := List.find?_eq_some_iff_append.mp e
   have hl : as = List.range k0 := by
    have e1 : (List.range (runEnd M (hdI M h r).1 + 1 - (hdI M h r).1))[as.length]? = some k0 := by rw [eq, List.getElem?_append_right (Nat.le_refl _), Nat.sub_self]; rfl
    have al : as.length = k0 := by
     obtain ⟨hlt, e2⟩ := List.getElem?_eq_some_iff.mp e1
     rw [List.getElem_range] at e2
     exact e2
    have e3 : (List.range (runEnd M (hdI M h r).1 + 1 - (hdI M h r).1)).take k0 = as := by rw [eq, <- al, List.take_left]
    rw [<- e3, List.take_range, Nat.min_eq_left (by omega)]
   have := hn k2 (by rw [hl]; exact List.mem_range.mpr hk2)
   cases x : (owner.getD ((hdI M h r).1 + k2) (some 0)).isNone with
   | false => rfl
   | true => rw [x] at this; cases this
  | none =>
   have hn := List.find?_eq_none.mp e
   have ge := runEnd_ge M (hdI M h r).1
   have no : ∀ k2, k2 <= runEnd M (hdI M h r).1 - (hdI M h r).1 -> (owner.getD ((hdI M h r).1 + k2) (some 0)).isNone = false := fun k2 hk2 => by
    have := hn k2 (List.mem_range.mpr (by omega))
    exact Bool.eq_false_iff.mpr this
   have hr : r < r' := by
    rcases Nat.lt_or_ge r r' with c | c
    . exact c
    . have : r' = r := by omega
      subst this
      rw [no k h3] at h4
      cases h4
   obtain ⟨r3, k3, a, b, c, d, e1, e2⟩ := free_is (owner := owner) (h := h) f (r + 1) ⟨r', k, by omega, by omega, h3, h4⟩
   refine ⟨r3, k3, by omega, b, c, d, fun r2 k2 a1 a2 a3 => ?_,e2⟩
   rcases Nat.lt_or_ge r r2 with x | x
   . exact e1 r2 k2 (by omega) a2 a3
   . have : r2 = r := by omega
     subst this
     exact no k2 a3
structure Laid (M : Nat) (hs : List Int) (owner : Array (Option Nat)) (k : Nat) (sl : Nat -> Nat) : Prop where
 sz : owner.size = M + 1
 kl : k <= hs.length
 lt : ∀ i, i < k -> sl i < M + 1
 at_ : ∀ i, i < k -> owner[sl i]? = some (some i)
 own : ∀ j i, owner[j]? = some (some i) -> i < k /\ sl i = j
 rch : ∀ i h, i < k -> hs[i]? = some h -> ∃ n, js M h n = sl i /\ ∀ m, m < n -> ∃ i', owner[js M h m]? = some (some i')
theorem getD_none {owner : Array (Option Nat)} {j : Nat} : (owner.getD j (some 0)).isNone = true ↔ owner[j]? = some none := by
 rw [Array.getD_eq_getD_getElem?]
 cases e : owner[j]? with
 | none => simp
 | some x => cases x <;> simp
theorem getD_some {owner : Array (Option Nat)} {j : Nat} (hj : j < owner.size) : (owner.getD j (some 0)).isNone = false ↔ ∃ i, owner[j]? = some (some i) := by
 rw [Array.getD_eq_getD_getElem?, Array.getElem?_eq_getElem hj]
 cases e : owner[j] with
 | none => simp
 | some x => simp
theorem Laid.next {M : Nat} (F : Full (M + 1)) {hs : List Int} {owner : Array (Option Nat)} {k : Nat} {sl : Nat -> Nat} (L : Laid M hs owner k sl) (hk : k < M + 1) {h : Int} (hh : hs[k]? = some h) :
    ∃ j, layClean.free M owner (turns M) (bits h % (M + 1)) (bits h) = some j /\ Laid M hs (owner.setIfInBounds j (some k)) (k + 1) (fun i => if i = k then j else sl i) := by
 have ex : ∃ j, j < M + 1 /\ owner[j]? = some none := by
  apply Classical.byContradiction
  intro c
  have all : ∀ j, j < M + 1 -> ∃ i, i < k /\ sl i = j := fun j hj => by
   have hjs : j < owner.size := by rw [L.sz]; exact hj
   cases e : owner[j] with
   | none => exact absurd ⟨j, hj, by rw [Array.getElem?_eq_getElem hjs, e]⟩ c
   | some i => exact ⟨i, L.own j i (by rw [Array.getElem?_eq_getElem hjs, e])⟩
  have sub : ∀ j ∈ List.range (M + 1), j ∈ (List.range k).map sl := fun j hj => by
   obtain ⟨i, hi, e⟩ := all j (List.mem_range.mp hj)
   exact List.mem_map.mpr ⟨i, List.mem_range.mpr hi, e⟩
  have nle : ∀ (l k : List Nat), l.Nodup -> (∀ x ∈ l, x ∈ k) -> l.length <= k.length := by
   intro l
   induction l with
   | nil => intro k _ _; exact Nat.zero_le _
   | cons x r ih =>
    intro k nd hk
    have hx := hk x List.mem_cons_self
    have nd' := List.nodup_cons.mp nd
    have := ih (k.erase x) nd'.2 fun y hy => (List.mem_erase_of_ne (fun e : y = x => nd'.1 (by rw [<- e]; exact hy))).mpr (hk y (List.mem_cons_of_mem _ hy))
    rw [List.length_erase_of_mem hx] at this
    have pos := List.length_pos_of_mem hx
    rw [List.length_cons]
    omega
  have := nle _ _ List.nodup_range sub
  rw [List.length_range, List.length_map, List.length_range] at this
  omega
 obtain ⟨j0, hj0, e0⟩ := ex
 obtain ⟨c, hc, ec⟩ := F.from (hd_lt M h 13) hj0
 obtain ⟨r, kk, _,hkk, ef, hn, h1, h2⟩ := free_is (M := M) (owner := owner) (h := h) (turns M) 0 ⟨13 + c, 0, by omega, by unfold turns; omega, Nat.zero_le _,by
  rw [Nat.add_zero, hd_orb M h (Nat.le_refl _) c, ec]
  exact getD_none.mpr e0⟩
 have ef : layClean.free M owner (turns M) (bits h % (M + 1)) (bits h) = some ((hdI M h r).1 + kk) := ef
 refine ⟨_,ef, ?_⟩
 have hjn := getD_none.mp hn
 have jlt : (hdI M h r).1 + kk < owner.size := (Array.getElem?_eq_some_iff.mp hjn).1
 have ejs : js M h (nR M h r + kk) = (hdI M h r).1 + kk := js_run M h r hkk
 generalize hJ : (hdI M h r).1 + kk = J at *
 have jsl : ∀ m, js M h m < M + 1 \/ True := fun _ => .inr trivial
 have ne : ∀ i, i < k -> sl i ≠ J := fun i hi z => by
  have := L.at_ i hi
  rw [z, hjn] at this
  cases this
 have getS : ∀ j, (owner.setIfInBounds J (some k))[j]? = if j = J then some (some k) else owner[j]? := fun j => by
  rw [Array.getElem?_setIfInBounds]
  by_cases c : J = j
  . rw [if_pos c, if_pos c.symm, if_pos jlt]
  . rw [if_neg c, if_neg (fun z => c z.symm)]
 refine ⟨by rw [Array.size_setIfInBounds, L.sz], by have := (List.getElem?_eq_some_iff.mp hh).1; omega, fun i hi => ?_,fun i hi => ?_,fun j i e => ?_,fun i h' hi e => ?_⟩
 . by_cases c : i = k
   . rw [if_pos c]; rw [<- L.sz]; exact jlt
   . rw [if_neg c]; exact L.lt i (by omega)
 . show (owner.setIfInBounds J (some k))[if i = k then J else sl i]? = _
   rw [getS]
   by_cases c : i = k
   . rw [if_pos c, if_pos rfl,c]
   . rw [if_neg c, if_neg (ne i (by omega))]
     exact L.at_ i (by omega)
 . rw [getS] at e
   by_cases c : j = J
   . rw [if_pos c] at e
     have : k = i := Option.some.inj (Option.some.inj e)
     subst this
     exact ⟨by omega, by rw [if_pos rfl]; exact c.symm⟩
   . rw [if_neg c] at e
     obtain ⟨a, b⟩ := L.own j i e
     exact ⟨by omega, by rw [if_neg (by omega)]; exact b⟩
 . have up : ∀ (j i' : Nat), owner[j]? = some (some i') -> ∃ i2, (owner.setIfInBounds J (some k))[j]? = some (some i2) := fun j i' e => by
     rw [getS]
     by_cases c : j = J
     . exact ⟨k, by rw [if_pos c]⟩
     . exact ⟨i', by rw [if_neg c]; exact e⟩
   by_cases c : i = k
   . subst c
     rw [hh] at e
     obtain rfl := Option.some.inj e
     refine ⟨nR M h r + kk, by rw [if_pos rfl]; exact ejs, fun m hm => ?_⟩
     obtain ⟨r2, k2, hk2, em⟩ := run_of M h m
     have hjm : js M h m = (hdI M h r2).1 + k2 := by rw [em]; exact js_run M h r2 hk2
     have bd : (hdI M h r2).1 + k2 < owner.size := by
      have a := run_lt (hd_lt M h r2)
      have b := runEnd_ge M (hdI M h r2).1
      rw [L.sz]
      omega
     have oc : (owner.getD ((hdI M h r2).1 + k2) (some 0)).isNone = false := by
      rcases Nat.lt_trichotomy r2 r with c | c | c
      . exact h1 r2 k2 (Nat.zero_le _) c hk2
      . subst c
        exact h2 k2 (by omega)
      . have := nR_mono M h c
        omega
     obtain ⟨i', e'⟩ := (getD_some bd).mp oc
     rw [hjm]
     exact up _ _ e'
   . obtain ⟨n, a, b⟩ := L.rch i h' (by omega) e
     refine ⟨n, by rw [if_neg c]; exact a, fun m hm => ?_⟩
     obtain ⟨i', e'⟩ := b m hm
     exact up _ _ e'
def stepL (M : Nat) (acc : Option (Array (Option Nat) × Nat)) (h : Int) : Option (Array (Option Nat) × Nat) := acc.bind fun a => (layClean.free M a.1 (turns M) (bits h % (M + 1)) (bits h)).bind fun j => some (a.1.setIfInBounds j (some a.2), a.2 + 1)
theorem layClean_is (M : Nat) (hs : Array Int) : layClean M hs = (hs.toList.foldl (stepL M) (some (Array.replicate (M + 1) none, 0))).map (·.1) := by
 unfold layClean
 rw [<- Array.foldl_toList]
 rfl
theorem fold_ok {M : Nat} (F : Full (M + 1)) {hs : List Int} (hl : hs.length <= M) : ∀ k, k <= hs.length -> ∃ owner sl, (hs.take k).foldl (stepL M) (some (Array.replicate (M + 1) none, 0)) = some (owner, k) /\ Laid M hs owner k sl
 | 0, _ => ⟨Array.replicate (M + 1) none, fun _ => 0, rfl,by rw [Array.size_replicate], Nat.zero_le _,fun i h => absurd h (Nat.not_lt_zero _), fun i h => absurd h (Nat.not_lt_zero _), (fun j i e => by
     rw [Array.getElem?_replicate] at e
     split at e <;> cases e), fun i h hi => absurd hi (Nat.not_lt_zero _)⟩
 | k + 1, hk => by
  obtain ⟨owner, sl, e, L⟩ := fold_ok F hl k (by omega)
  have hh := List.getElem?_eq_getElem (show k < hs.length by omega)
  obtain ⟨j, ej, L2⟩ := L.next F (by omega) hh
  refine ⟨_,_,?_,L2⟩
  rw [List.take_add_one, hh]
  show ((hs.take k) ++ [hs[k]]).foldl (stepL M) _ = _
  rw [List.foldl_append, e]
  show (layClean.free M owner (turns M) (bits hs[k] % (M + 1)) (bits hs[k])).bind _ = _
  rw [ej]
  rfl
def liveL (M : Nat) (owner : Array (Option Nat)) : List (Nat × Nat) := (List.range (M + 1)).filterMap fun j => (owner.getD j none).map (j, ·)
theorem mem_live {M : Nat} {owner : Array (Option Nat)} (hs : owner.size = M + 1) {j i : Nat} : (j, i) ∈ liveL M owner ↔ owner[j]? = some (some i) := by
 unfold liveL
 rw [List.mem_filterMap]
 constructor
 . rintro ⟨j', hj', e⟩
   have hj' := List.mem_range.mp hj'
   rw [Array.getD_eq_getD_getElem?, Array.getElem?_eq_getElem (by omega)] at e
   cases h : owner[j']'(by omega) with
   | none =>
    simp only [Option.getD_some] at e
    rw [h] at e
    cases e
   | some x =>
    simp only [Option.getD_some] at e
    rw [h] at e
    have e := Option.some.inj e
    injection e with e1 e2
    subst e1 e2
    rw [Array.getElem?_eq_getElem (by omega), h]
 . intro e
   obtain ⟨hlt, e2⟩ := Array.getElem?_eq_some_iff.mp e
   refine ⟨j, List.mem_range.mpr (by omega), ?_⟩
   rw [Array.getD_eq_getD_getElem?, e]
   rfl
theorem live_rise (M : Nat) (owner : Array (Option Nat)) : ((liveL M owner).map (·.1)).Pairwise (· < ·) := by
 unfold liveL
 have key : ∀ l : List Nat, l.Pairwise (· < ·) -> ((l.filterMap fun j => (owner.getD j none).map (j, ·)).map (·.1)).Pairwise (· < ·) /\ ∀ x ∈ (l.filterMap fun j => (owner.getD j none).map (j, ·)).map (·.1), x ∈ l := by
  intro l
  induction l with
  | nil => intro _; exact ⟨.nil, fun x hx => by cases hx⟩
  | cons a r ih =>
   intro h
   obtain ⟨h1, h2⟩ := List.pairwise_cons.mp h
   obtain ⟨i1, i2⟩ := ih h2
   rw [List.filterMap_cons]
   cases e : (owner.getD a none).map (a, ·) with
   | none => exact ⟨i1, fun x hx => List.mem_cons_of_mem _ (i2 x hx)⟩
   | some p =>
    have ep : p.1 = a := by
     obtain ⟨y, _,rfl⟩ := Option.map_eq_some_iff.mp e
     rfl
    rw [List.map_cons, ep]
    refine ⟨List.pairwise_cons.mpr ⟨fun b hb => h1 b (i2 b hb), i1⟩, fun x hx => ?_⟩
    rcases List.mem_cons.mp hx with rfl | hx
    . exact List.mem_cons_self
    . exact List.mem_cons_of_mem _ (i2 x hx)
 exact (key _ List.pairwise_lt_range).1
theorem ris_of {l : List Nat} (h : l.Pairwise (· < ·)) : Ris l.toArray := fun i j hi hj hij => by
 have := (List.pairwise_iff_getElem.mp h) i j (by simpa using hi) (by simpa using hj) hij
 simpa using this
def Rch (t : SetTable) (hs : List Int) : Prop := hs.length = t.place.size /\ ∀ (i : Nat) (h : Int) (j : Nat), hs[i]? = some h -> t.place[i]? = some j -> ∃ n, js t.mask h n = j /\ ∀ m, m < n -> js t.mask h m ∈ t.place.toList
theorem filterMap_at {α β : Type} {f : α -> Option β} : ∀ {l : List α}, (∀ a ∈ l, (f a).isSome = true) -> ∀ (i : Nat), (l.filterMap f)[i]? = (l[i]?).bind f /\ (l.filterMap f).length = l.length
 | [], _,i => ⟨by simp, rfl⟩
 | a :: r, h, i => by
  obtain ⟨b, hb⟩ := Option.isSome_iff_exists.mp (h a List.mem_cons_self)
  have ih := fun i => filterMap_at (l := r) (fun x hx => h x (List.mem_cons_of_mem _ hx)) i
  rw [List.filterMap_cons, hb]
  refine ⟨?_,by show _ + 1 = _ + 1; rw [(ih 0).2]⟩
  cases i with
  | zero => show some b = _; exact hb.symm
  | succ i => exact (ih i).1
theorem relay_ok {t : SetTable} {hs : Array Int} {wanted : Nat} (F : Full (sizeAbove wanted - 1 + 1)) (hl : hs.size <= sizeAbove wanted - 1) :
    ∃ t' order, t.relaid hs wanted = some (t', order) /\ Tab t' /\ t'.mask = sizeAbove wanted - 1 /\ t'.led = t.led /\ t'.plain = t.plain /\ order.toList.Perm (List.range hs.size) /\ Rch t' (order.toList.filterMap fun i => hs[i]?) := by
 generalize hM : sizeAbove wanted - 1 = M at *
 obtain ⟨owner, sl, e, L⟩ := fold_ok F (hs := hs.toList) (by rw [Array.length_toList]; exact hl) hs.toList.length (Nat.le_refl _)
 rw [List.take_length] at e
 have ln : hs.toList.length = hs.size := Array.length_toList
 have ec : layClean M hs = some owner := by rw [layClean_is, e]; rfl
 refine ⟨{ mask := M, place := ((liveL M owner).map (·.1)).toArray, dummies := #[], finger := t.finger, led := t.led, moves := t.movedTo M, plain := t.plain }, ((liveL M owner).map (·.2)).toArray, ?_,?_,rfl,rfl,rfl,?_,?_⟩
 . unfold SetTable.relaid SetTable.laid
   rw [hM, ec]
   rfl
 . refine ⟨ris_of (live_rise M owner), rfl,fun j hj => ?_⟩
   have hj : j ∈ (liveL M owner).map (·.1) := by simpa using hj
   obtain ⟨p, hp, rfl⟩ := List.mem_map.mp hj
   have := (mem_live L.sz).mp (show (p.1, p.2) ∈ _ from hp)
   have := (Array.getElem?_eq_some_iff.mp this).1
   rw [L.sz] at this
   exact this
 . show ((liveL M owner).map (·.2)).toArray.toList.Perm _
   rw [List.toList_toArray]
   have nd : ((liveL M owner).map (·.2)).Nodup := by
    refine List.pairwise_map.mpr ?_
    have h := List.pairwise_map.mp (live_rise M owner)
    refine List.Pairwise.imp_of_mem (fun {a b} ha hb hab z => ?_) h
    have h1 := L.own _ _ ((mem_live L.sz).mp (show (a.1, a.2) ∈ _ from ha))
    have h2 := L.own _ _ ((mem_live L.sz).mp (show (b.1, b.2) ∈ _ from hb))
    have : a.1 = b.1 := by rw [<- h1.2, <- h2.2, z]
    omega
   refine (List.perm_ext_iff_of_nodup nd List.nodup_range).mpr fun i => ?_
   rw [List.mem_range]
   constructor
   . intro hi
     obtain ⟨p, hp, rfl⟩ := List.mem_map.mp hi
     have := (L.own _ _ ((mem_live L.sz).mp (show (p.1, p.2) ∈ _ from hp))).1
     omega
   . intro hi
     exact List.mem_map.mpr ⟨(sl i, i), (mem_live L.sz).mpr (L.at_ i (by omega)), rfl⟩
 . have allS : ∀ a ∈ (liveL M owner).map (·.2), (hs[a]?).isSome = true := fun a ha => by
     obtain ⟨p, hp, rfl⟩ := List.mem_map.mp ha
     have := (L.own _ _ ((mem_live L.sz).mp (show (p.1, p.2) ∈ _ from hp))).1
     rw [Array.getElem?_eq_getElem (by omega)]; rfl
   show Rch _ (((liveL M owner).map (·.2)).toArray.toList.filterMap fun i => hs[i]?)
   rw [List.toList_toArray]
   refine ⟨?_,fun i h j e1 e2 => ?_⟩
   . rw [(filterMap_at allS 0).2, List.length_map]
     show _ = ((liveL M owner).map (·.1)).toArray.size
     rw [List.size_toArray, List.length_map]
   . rw [(filterMap_at allS i).1] at e1
     have e2 : ((liveL M owner).map (·.1)).toArray[i]? = some j := e2
     rw [List.getElem?_toArray] at e2
     rw [List.getElem?_map] at e1 e2
     cases ep : (liveL M owner)[i]? with
     | none => rw [ep] at e2; cases e2
     | some p =>
      rw [ep] at e1 e2
      have e2 : p.1 = j := Option.some.inj e2
      have e1 : hs[p.2]? = some h := e1
      have hp := (mem_live L.sz).mp (show (p.1, p.2) ∈ _ from List.mem_of_getElem? ep)
      obtain ⟨hk, hsl⟩ := L.own _ _ hp
      obtain ⟨n, a, b⟩ := L.rch p.2 h hk (by rw [Array.getElem?_toList]; exact e1)
      refine ⟨n, by show js M h n = j; rw [a, hsl, e2], fun m hm => ?_⟩
      obtain ⟨i', e'⟩ := b m hm
      show js M h m ∈ ((liveL M owner).map (·.1)).toArray.toList
      rw [List.toList_toArray]
      exact List.mem_map.mpr ⟨(js M h m, i'), (mem_live L.sz).mpr e', rfl⟩
end BE
set_option Elab.async false
set_option linter.all false
namespace BE
open PySem PySem.SetTable
def insL {α : Type} (l : List α) (p : Nat) (x : α) : List α := l.take p ++ x :: l.drop p
theorem insL_at {α : Type} {l : List α} {p : Nat} (hp : p <= l.length) {x : α} (i : Nat) : (insL l p x)[i]? = if i < p then l[i]? else if i = p then some x else l[i - 1]? := by
 unfold insL
 by_cases c : i < p
 . rw [if_pos c, List.getElem?_append_left (by rw [List.length_take]; omega), List.getElem?_take_of_lt c]
 . rw [if_neg c, List.getElem?_append_right (by rw [List.length_take]; omega), List.length_take, Nat.min_eq_left hp]
   by_cases d : i = p
   . rw [if_pos d, d, Nat.sub_self]; rfl
   . rw [if_neg d]
     obtain ⟨k, hk⟩ : ∃ k, i - p = k + 1 := ⟨i - p - 1, by omega⟩
     rw [hk, List.getElem?_cons_succ, List.getElem?_drop, show p + k = i - 1 by omega]
theorem put_ok {t : SetTable} (T : Tab t) {hs : List Int} (R : Rch t hs) {h : Int} {n : Nat} (hj : js t.mask h n ∉ t.place.toList) (hm : ∀ m, m < n -> js t.mask h m ∈ t.place.toList) (hlt : js t.mask h n < t.mask + 1) :
    ∃ t' p, t.put (js t.mask h n) = (t', p) /\ p <= t.place.size /\ Tab t' /\ t'.mask = t.mask /\ t'.led = t.led /\ t'.plain = t.plain /\ t'.moves = t.moves /\ t'.place.size = t.place.size + 1 /\ Rch t' (insL hs p h) := by
 generalize hJ : js t.mask h n = J at *
 obtain ⟨b0, b1, b2⟩ := below_is T.ri J
 have el : (insertAt t.place (below t.place J) J).toList = insL t.place.toList (below t.place J) J := by
  rw [SetTable.toList_insertAt]
  unfold insL
  simp
 have pl : t.place.toList.length = t.place.size := Array.length_toList
 have at_ : ∀ i, (insertAt t.place (below t.place J) J)[i]? = if i < below t.place J then t.place[i]? else if i = below t.place J then some J else t.place[i - 1]? := fun i => by
  rw [<- Array.getElem?_toList, el, insL_at (by omega), Array.getElem?_toList, Array.getElem?_toList]
 have sz : (insertAt t.place (below t.place J) J).size = t.place.size + 1 := by
  rw [<- Array.length_toList, el]
  unfold insL
  rw [List.length_append, List.length_cons, List.length_take, List.length_drop, pl]
  omega
 have memN : ∀ x, x ∈ (insertAt t.place (below t.place J) J).toList ↔ x = J \/ x ∈ t.place.toList := fun x => by
  rw [el]
  unfold insL
  rw [List.mem_append, List.mem_cons]
  constructor
  . rintro (h | h | h)
    . exact .inr (List.mem_of_mem_take h)
    . exact .inl h
    . exact .inr (List.mem_of_mem_drop h)
  . rintro (h | h)
    . exact .inr (.inl h)
    . have := List.take_append_drop (below t.place J) t.place.toList
      rw [<- this] at h
      rcases List.mem_append.mp h with h | h
      . exact .inl h
      . exact .inr (.inr h)
 refine ⟨{ t with place := insertAt t.place (below t.place J) J }, below t.place J, ?_,b0, ⟨?_,T.du, fun j hj' => ?_⟩, rfl,rfl,rfl,rfl,sz, ?_,?_⟩
 . unfold SetTable.put
   dsimp only
   rw [T.du, has_nil]
   rfl
 . intro i k hi hk hik
   have hi' : i < t.place.size + 1 := by rw [<- sz]; exact hi
   have hk' : k < t.place.size + 1 := by rw [<- sz]; exact hk
   have gi := at_ i
   have gk := at_ k
   rw [Array.getElem?_eq_getElem hi] at gi
   rw [Array.getElem?_eq_getElem hk] at gk
   show (insertAt t.place (below t.place J) J)[i] < (insertAt t.place (below t.place J) J)[k]
   have ne : ∀ (q : Nat) (hq : q < t.place.size), t.place[q] ≠ J := fun q hq z => hj (by rw [<- z]; exact Array.getElem_mem_toList hq)
   by_cases c1 : i < below t.place J
   . rw [if_pos c1, Array.getElem?_eq_getElem (by omega)] at gi
     have gi := Option.some.inj gi
     rw [gi]
     by_cases c2 : k < below t.place J
     . rw [if_pos c2, Array.getElem?_eq_getElem (by omega)] at gk
       rw [Option.some.inj gk]
       exact T.ri i k (by omega) (by omega) hik
     . rw [if_neg c2] at gk
       by_cases c3 : k = below t.place J
       . rw [if_pos c3] at gk
         rw [Option.some.inj gk]
         exact b1 i (by omega) c1
       . rw [if_neg c3, Array.getElem?_eq_getElem (by omega)] at gk
         rw [Option.some.inj gk]
         exact T.ri i (k - 1) (by omega) (by omega) (by omega)
   . rw [if_neg c1] at gi
     by_cases c4 : i = below t.place J
     . rw [if_pos c4] at gi
       rw [Option.some.inj gi]
       rw [if_neg (by omega), if_neg (by omega), Array.getElem?_eq_getElem (by omega)] at gk
       rw [Option.some.inj gk]
       have a := b2 (k - 1) (by omega) (by omega)
       have b := ne (k - 1) (by omega)
       omega
     . rw [if_neg c4, Array.getElem?_eq_getElem (by omega)] at gi
       rw [Option.some.inj gi]
       rw [if_neg (by omega), if_neg (by omega), Array.getElem?_eq_getElem (by omega)] at gk
       rw [Option.some.inj gk]
       exact T.ri (i - 1) (k - 1) (by omega) (by omega) (by omega)
 . rcases (memN j).mp hj' with rfl | hj'
   . exact hlt
   . exact T.le j hj'
 . show (insL hs (below t.place J) h).length = (insertAt t.place (below t.place J) J).size
   rw [sz]
   unfold insL
   rw [List.length_append, List.length_cons, List.length_take, List.length_drop]
   have := R.1
   omega
 . intro i h' j e1 e2
   have e2 : (insertAt t.place (below t.place J) J)[i]? = some j := e2
   have hl := R.1
   rw [insL_at (by omega)] at e1
   rw [at_] at e2
   have up : ∀ (i2 : Nat), hs[i2]? = some h' -> t.place[i2]? = some j -> ∃ n, js t.mask h' n = j /\ ∀ m, m < n -> js t.mask h' m ∈ (insertAt t.place (below t.place J) J).toList := fun i2 a b => by
    obtain ⟨n, x, y⟩ := R.2 i2 h' j a b
    exact ⟨n, x, fun m hm => (memN _).mpr (.inr (y m hm))⟩
   by_cases c : i < below t.place J
   . rw [if_pos c] at e1 e2
     exact up i e1 e2
   . rw [if_neg c] at e1 e2
     by_cases d : i = below t.place J
     . rw [if_pos d] at e1 e2
       obtain rfl := Option.some.inj e1
       obtain rfl := Option.some.inj e2
       exact ⟨n, hJ, fun m h0 => (memN _).mpr (.inr (hm m h0))⟩
     . rw [if_neg d] at e1 e2
       exact up (i - 1) e1 e2
end BE
set_option Elab.async false
set_option linter.all false
set_option maxRecDepth 100000
namespace BE
open PySem
def lOf (m : Nat) : List Nat := (List.range 8).filter fun j => m.testBit j
def Tb (l : Bool) (m : Nat) : SetTable := ⟨7, (lOf m).toArray, #[], 0, l, 0, true⟩
end BE
set_option Elab.async false
set_option linter.all false
set_option maxRecDepth 100000
namespace BE
open PySem
theorem out_perm {α : Type} {l : List α} {i : Nat} (h : i < l.length) : ([l[i]] ++ l.eraseIdx i).Perm l := by
 rw [List.eraseIdx_eq_take_drop_succ]
 have e : l = l.take i ++ l[i] :: l.drop (i + 1) := by rw [List.getElem_cons_drop, List.take_append_drop]
 exact (List.perm_middle (a := l[i]) (l₁ := l.take i) (l₂ := l.drop (i + 1))).symm.trans (by rw [<- e])
theorem pick_perm {α : Type} (next : Nat -> Nat) : ∀ (f k : Nat) (left : List α) (out : Array α), f = left.length -> (pickOrder.go next f k left out).toList.Perm (out.toList ++ left)
 | 0, k, left, out, h => by
  have : left = [] := List.length_eq_zero_iff.mp h.symm
  subst this
  show out.toList.Perm (out.toList ++ [])
  rw [List.append_nil]
 | f + 1, k, left, out, h => by
  have hl : next k % left.length < left.length := Nat.mod_lt _ (by omega)
  unfold pickOrder.go
  rw [List.getElem?_eq_getElem hl]
  refine (pick_perm next f (k + 1) _ _ (by rw [List.length_eraseIdx, if_pos hl]; omega)).trans ?_
  rw [Array.toList_push, List.append_assoc]
  refine List.Perm.append_left _ ?_
  exact out_perm hl
theorem pick_all {α : Type} (next : Nat -> Nat) (es : Array α) : (pickOrder next es).toList.Perm es.toList := by
 have := pick_perm next es.size 0 es.toList #[] (by rw [Array.length_toList])
 show (pickOrder.go next es.size 0 es.toList #[]).toList.Perm es.toList
 simpa using this
end BE
set_option Elab.async false
set_option linter.all false
set_option maxRecDepth 100000
namespace BE
open PySem PySem.Spec PyProof.Rows
def byText (w : World) : Bool := w.params.followText "set-order"
section
variable {prog : Program} {w : World} {A : Around} {E : Value -> Shared -> Prop} {s : Shared}
variable {R : Result -> Shared -> Prop} {I : Addr} {fp wr : List Addr} {G : Array GenState -> Array GenState -> Prop} {n : Nat} {P : Nat -> Value -> Prop} {St : Nat -> Shared -> Prop}
end
end BE
set_option Elab.async false
set_option linter.all false
set_option maxRecDepth 100000
namespace BE
open PySem PySem.Spec PyProof.Rows
theorem sit_next : Slot "set_iterator" "__next__" "set_iterator.__next__" := .of (owner := "set_iterator") (n := "__next__") (by rw [typeLookup_type, builtinLookup_eq_fast]; kernel_rfl) (by decide +kernel) (by decide +kernel) (by decide +kernel) (by first | exact .inl (by decide +kernel) | exact .inr (by decide +kernel)) (by rw [isSubtype_type]; kernel_rfl)
theorem sit_iter : Slot "set_iterator" "__iter__" "set_iterator.__iter__" := .of (owner := "set_iterator") (n := "__iter__") (by rw [typeLookup_type, builtinLookup_eq_fast]; kernel_rfl) (by decide +kernel) (by decide +kernel) (by decide +kernel) (by first | exact .inl (by decide +kernel) | exact .inr (by decide +kernel)) (by rw [isSubtype_type]; kernel_rfl)
theorem ent_next : entryFor table "set_iterator.__next__" = some Builtin.«set_iterator.__next__» := entryFor_of_tree (by kernel_rfl)
theorem ent_iter : entryFor table "set_iterator.__iter__" = some Builtin.«dict_keyiterator.__iter__» := entryFor_alias (id' := "dict_keyiterator.__iter__") (by kernel_rfl) rfl (by decide +kernel) (by kernel_rfl)
theorem ent_set_iter : entryFor table "set.__iter__" = some Builtin.«frozenset.__iter__» := entryFor_alias (id' := "frozenset.__iter__") (by kernel_rfl) rfl (by decide +kernel) (by kernel_rfl)
theorem own_sit : Manifest.owners.lookup (String.ofList ['r', 'o', 't', 'a', 'r', 'e', 't', 'i', '_', 't', 'e', 's'].reverse) = some Manifest.sig_set_iterator := by kernel_rfl
theorem args_next (a : Value) : argsOk "set_iterator.__next__" ⟨[a], []⟩ := by unfold argsOk; rw [signature?_of (id := "set_iterator.__next__") (n := ['_', '_', 't', 'x', 'e', 'n', '_', '_']) (o := ['r', 'o', 't', 'a', 'r', 'e', 't', 'i', '_', 't', 'e', 's']) (by kernel_rfl) own_sit]; kernel_rfl
theorem args_iter (a : Value) : argsOk "set_iterator.__iter__" ⟨[a], []⟩ := by unfold argsOk; rw [signature?_of (id := "set_iterator.__iter__") (n := ['_', '_', 'r', 'e', 't', 'i', '_', '_']) (o := ['r', 'o', 't', 'a', 'r', 'e', 't', 'i', '_', 't', 'e', 's']) (by kernel_rfl) own_sit]; kernel_rfl
theorem len_set : typeLookup (.type "set") "__len__" = pure (some (.builtin "set.__len__")) := by rw [typeLookup_type, builtinLookup_eq_fast]; kernel_rfl
def IsSit (h : Heap) (it a : Addr) (slot i n ep : Nat) : Prop := ∃ o, h.get? it = some o /\ o.cls = .type "set_iterator" /\ o.data = .fields #[.int slot 0, .int i 0, .ref a, .int n 0, .int ep 0]
theorem IsSit.typeIs {s : Shared} {it a : Addr} {slot i n ep : Nat} (x : IsSit s.heap it a slot i n ep) : s.TypeIs (.ref it) "set_iterator" := let ⟨o, h, c, _⟩ := x; ⟨o, h, c⟩
def seen (w : World) (a : Addr) (ep : Nat) (es : Array (Int × Value)) : Array (Int × Value) := if byText w then pickOrder (w.params.setOrder a ep) es else es
theorem seen_perm (w : World) (a : Addr) (ep : Nat) (es : Array (Int × Value)) : (seen w a ep es).toList.Perm es.toList := by
 unfold seen
 split
 . exact pick_all _ _
 . exact .rfl
theorem seen_size (w : World) (a : Addr) (ep : Nat) (es : Array (Int × Value)) : (seen w a ep es).size = es.size := by
 rw [<- Array.length_toList, (seen_perm w a ep es).length_eq, Array.length_toList]
section
variable {prog : Program} {w : World} {A : Around} {E : Value -> Shared -> Prop} {s : Shared}
theorem hint_set {x : Addr} {Q : Bool -> Shared -> Prop} (hT : s.TypeIs (.ref x) "set") (h : Q false s) : wpAny (model prog w) A (Builtin.List.listLengthHint (.ref x)) Q E s := by
 unfold Builtin.List.listLengthHint
 refine wpAny_bind (wpAny_specialOf hT len_set ?_)
 generalize hid : ("set.__len__" : String) = id0
 wp_delta
 rw [show splitId id0 = some ("set", "__len__") from by subst hid; decide +kernel]
 subst hid
 refine wpAny_bind (wpAny_isInstance (T := "set") (b := true) hT (by rw [isSubtype_type]; kernel_rfl) ?_)
 refine wpAny_ite_split (fun hab => absurd hab (by decide)) (fun _ => ?_)
 refine wpAny_ite_split (fun _ => ?_) (fun hab => absurd (by decide +kernel) hab)
 exact wpAny_bind (wpAny_typeOf hT (wpAny_pure h))
theorem sit_self {it a : Addr} {slot i n ep : Nat} {Q : Value -> Shared -> Prop} (hit : IsSit s.heap it a slot i n ep) (h : Q (.ref it) s) : wpAny (model prog w) A (pyIter (.ref it)) Q E s := by
 refine wpAny_pyIter_slot hit.typeIs sit_iter (wpAny_call_entry sit_iter hit.typeIs ent_iter ?_ (args_iter _))
 exact wpAny_bind (wpAny_pure (wpAny_pure ⟨_,rfl,"set_iterator", _,hit.typeIs, sit_next.lookup, h⟩))
theorem items_eq {α : Type} {l : List α} {f : α -> Value} {acc : Array Value} (h : ItemsOf (fun i v => ∃ e, l[i]? = some e /\ v = f e) acc l.length) : acc.toList = l.map f := by
 apply List.ext_getElem?
 intro i
 rcases Nat.lt_or_ge i acc.size with c | c
 . have hv : acc[i]? = some acc[i] := Array.getElem?_eq_getElem c
   obtain ⟨e, he, hve⟩ := h.2 i _ hv
   rw [Array.getElem?_toList, hv, List.getElem?_map, he, hve]; rfl
 . rw [Array.getElem?_toList, Array.getElem?_eq_none c, List.getElem?_map, List.getElem?_eq_none (by rw [<- h.1]; exact c)]; rfl
end
end BE
set_option Elab.async false
set_option linter.all false
set_option maxRecDepth 100000
namespace BE
open PySem PySem.SetTable PySem.Spec PyProof.Rows
section
variable {prog : Program} {w : World} {A : Around} {E : Value -> Shared -> Prop} {s : Shared}
abbrev tk (prog : Program) (w : World) : HeapKind prog w (List Int) := tupleKind (intKind prog w)
structure SH (prog : Program) (w : World) (h : Heap) (a : Addr) (es : Array (Int × Value)) (ep : Nat) (t : SetTable) (ks : List (List Int)) : Prop where
 ob : ∃ o, h.get? a = some o /\ o.ExactSet /\ o.data = .set es ep t
 T : Tab t
 ma : t.mask = 7 \/ t.mask = 31 \/ t.mask = 127 \/ t.mask = 511
 sz : t.place.size = es.size
 room : t.place.size * 5 < t.mask * 3
 led : t.led = !byText w
 pla : t.plain = true
 R : Rch t (es.toList.map (·.1))
 kl : ks.length = es.size
 el : ∀ (i : Nat) (k : List Int), ks[i]? = some k -> ∃ b : Addr, es[i]? = some ((tk prog w).hash k, Value.ref b) /\ (tk prog w).is h k b
 nd : ks.Nodup
theorem SH.F {h : Heap} {a : Addr} {es : Array (Int × Value)} {ep : Nat} {t : SetTable} {ks : List (List Int)} (S : SH prog w h a es ep t ks) : Full (t.mask + 1) := by
 rcases S.ma with e | e | e | e <;> rw [e]
 . exact full8
 . exact full32
 . exact full128
 . exact full512
theorem SH.odd {h : Heap} {a : Addr} {es : Array (Int × Value)} {ep : Nat} {t : SetTable} {ks : List (List Int)} (S : SH prog w h a es ep t ks) : t.mask % 2 = 1 := by
 rcases S.ma with e | e | e | e <;> rw [e]
theorem SH.m9 {h : Heap} {a : Addr} {es : Array (Int × Value)} {ep : Nat} {t : SetTable} {ks : List (List Int)} (S : SH prog w h a es ep t ks) : t.mask <= 511 := by
 rcases S.ma with e | e | e | e <;> rw [e] <;> decide
theorem SH.fits {h : Heap} {a : Addr} {es : Array (Int × Value)} {ep : Nat} {t : SetTable} {ks : List (List Int)} (S : SH prog w h a es ep t ks) : t.fits es.size = true := by
 unfold SetTable.fits SetTable.fill
 rw [S.T.du]
 have := S.room
 simp [S.sz]
 have := S.sz
 omega
theorem SH.at_slot {h : Heap} {a : Addr} {es : Array (Int × Value)} {ep : Nat} {t : SetTable} {ks : List (List Int)} (S : SH prog w h a es ep t ks) {j : Nat} (hj : j ∈ t.place.toList) :
    ∃ (k : List Int) (b : Addr), ks[below t.place j]? = some k /\ es[below t.place j]? = some ((tk prog w).hash k, Value.ref b) /\ (tk prog w).is h k b := by
 have e := (below_get S.T.ri j).mpr hj
 have hlt := (Array.getElem?_eq_some_iff.mp e).1
 have hk : below t.place j < ks.length := by rw [S.kl, <- S.sz]; exact hlt
 obtain ⟨b, h1, h2⟩ := S.el _ _ (List.getElem?_eq_getElem hk)
 exact ⟨_,b, List.getElem?_eq_getElem hk, h1, h2⟩
theorem items_ints {ks : List Int} {vs : List Value} (h : ItemsAre (intKind prog w) ks vs) : ∀ v ∈ vs, ∃ n t, v = .int n t := by
 induction h with
 | nil => intro v hv; cases hv
 | cons hk hs ih =>
  intro v hv
  rcases List.mem_cons.mp hv with rfl | hv
  . obtain ⟨t, rfl⟩ := Value.isInt_shape hk; exact ⟨_,t, rfl⟩
  . exact ih v hv
theorem for_yield {f : Value -> Option Bool × Unit -> Sem (ForInStep (Option Bool × Unit))} : ∀ (l : List Value), (∀ v ∈ l, ∀ R : ForInStep (Option Bool × Unit) -> Shared -> Prop, R (.yield (none, ())) s -> wpAny (model prog w) A (f v (none, ())) R E s) -> ∀ {Q : Option Bool × Unit -> Shared -> Prop}, Q (none, ()) s -> wpAny (model prog w) A (forIn l ((none : Option Bool), ()) f) Q E s
 | [], _,Q, h => by simp only [List.forIn_nil]; exact wpAny_pure h
 | v :: r, hf, Q, h => by
  simp only [List.forIn_cons]
  exact wpAny_bind (hf v List.mem_cons_self _ (for_yield r (fun x hx => hf x (List.mem_cons_of_mem _ hx)) h))
theorem class_no {a : Addr} {k : List Int} {Q : Bool -> Shared -> Prop} (hk : (tk prog w).is s.heap k a) (q : Q false s) : wpAny (model prog w) A (ofAClassStatement 8 (.ref a)) Q E s := by
 obtain ⟨o, items, n, ho, hc, hd, hi⟩ := hk
 have hT : s.TypeIs (.ref a) "tuple" := ⟨o, ho, hc⟩
 unfold ofAClassStatement
 refine wpAny_bind (wpAny_typeOf hT ?_)
 dsimp only
 refine wpAny_bind (wpAny_pure ?_)
 rw [if_neg (by decide)]
 refine wpAny_bind (wpAny_seqItems ho hd ?_)
 dsimp only
 refine wpAny_bind ?_
 rw [<- Array.forIn_toList]
 refine for_yield items.toList (fun v hv R h => ?_) (wpAny_pure q)
 obtain ⟨n, t, rfl⟩ := items_ints hi v hv
 refine wpAny_bind ?_
 unfold ofAClassStatement
 refine wpAny_pure ?_
 rw [if_neg (by decide)]
 exact wpAny_pure h
theorem byVal_yes {a : Addr} {k : List Int} {Q : Bool -> Shared -> Prop} (hk : (tk prog w).is s.heap k a) (q : Q true s) : wpAny (model prog w) A (hashByValue 8 (.ref a)) Q E s := by
 obtain ⟨o, items, n, ho, hc, hd, hi⟩ := hk
 have hT : s.TypeIs (.ref a) "tuple" := ⟨o, ho, hc⟩
 unfold hashByValue
 refine wpAny_bind (wpAny_specialOf hT F.slot_tuple_hash.lookup ?_)
 dsimp only
 refine wpAny_bind (wpAny_seqItems ho hd ?_)
 refine wpAny_bind ?_
 rw [<- Array.forIn_toList]
 refine for_yield _ (fun v hv R h => ?_) (wpAny_pure q)
 obtain ⟨n, t, rfl⟩ := items_ints hi v hv
 refine wpAny_bind ?_
 unfold hashByValue
 refine wpAny_pure ?_
 rw [if_neg (by decide)]
 exact wpAny_pure h
theorem seen_no {b : Addr} {k : List Int} (hb : (tk prog w).is s.heap k b) : ∀ (ys : List Value), (∀ y ∈ ys, ∃ k' b', y = Value.ref b' /\ (tk prog w).is s.heap k' b') -> ∀ {Q : Bool -> Shared -> Prop}, Q false s -> wpAny (model prog w) A (searchCouldBeSeen (.ref b) ys) Q E s := by
 intro ys hy Q q
 unfold searchCouldBeSeen
 refine wpAny_bind ?_
 refine for_yield ys (fun v hv R h => ?_) (wpAny_pure q)
 obtain ⟨k', b', rfl,hb'⟩ := hy v hv
 dsimp only
 refine wpAny_ite_split (fun _ => wpAny_pure h) (fun _ => ?_)
 refine wpAny_bind ((tk prog w).quiet hb ?_)
 rw [if_neg (by decide)]
 refine wpAny_bind ((tk prog w).quiet hb' ?_)
 rw [if_neg (by decide)]
 refine wpAny_bind (class_no hb ?_)
 rw [if_neg (by decide)]
 refine wpAny_bind (class_no hb' ?_)
 rw [if_neg (by decide)]
 exact wpAny_pure h
theorem search_ok {a b : Addr} {es : Array (Int × Value)} {ep : Nat} {t : SetTable} {ks : List (List Int)} {k : List Int} (S : SH prog w s.heap a es ep t ks) (hb : (tk prog w).is s.heap k b) (hu : A.units < cLine) {N : Nat} (hN : N < 10 * turns t.mask)
    (hm : ∀ m, m < N -> js t.mask ((tk prog w).hash k) m ∈ t.place.toList /\ ks[below t.place (js t.mask ((tk prog w).hash k) m)]? ≠ some k) {Q : SetFound -> Shared -> Prop}
    (q1 : js t.mask ((tk prog w).hash k) N ∉ t.place.toList -> Q (.free (js t.mask ((tk prog w).hash k) N) false) s)
    (q2 : js t.mask ((tk prog w).hash k) N ∈ t.place.toList -> ks[below t.place (js t.mask ((tk prog w).hash k) N)]? = some k -> Q (.there none) s)
    (hor : js t.mask ((tk prog w).hash k) N ∉ t.place.toList \/ ks[below t.place (js t.mask ((tk prog w).hash k) N)]? = some k) :
    ∀ (d c f : Nat) (st : Option Probe), N - c = d -> c <= N -> d < f -> st.getD (start t.mask ((tk prog w).hash k)) = stepN t.mask c (start t.mask ((tk prog w).hash k)) ->
     wpAny (model prog w) A (setSearchFrom a (.ref b) ((tk prog w).hash k) true f st) Q E s := by
 intro d
 induction d using Nat.strongRecOn with
 | ind d ih =>
  intro c f st hd hc hf hst
  obtain ⟨g, rfl⟩ : ∃ g, f = g + 1 := ⟨f - 1, by omega⟩
  obtain ⟨o, ho, hex, hda⟩ := S.ob
  unfold setSearchFrom
  refine wpAny_bind (wpAny_setState_of ho hda S.fits ?_)
  dsimp only
  rw [if_neg (by unfold SetTable.gaveWay; rw [S.odd]; decide)]
  generalize hP : t.probe _ _ _ = pr
  have hP : t.probe (fun i => (es[i]?.map (·.1)).getD 0) ((tk prog w).hash k) (st.getD (t.probeStart ((tk prog w).hash k))) = pr := hP
  rw [start_is, hst] at hP
  generalize hH : (tk prog w).hash k = hk at *
  have stj : ∀ m, (stepN t.mask m (stepN t.mask c (start t.mask hk))).j = js t.mask hk (c + m) := fun m => by rw [<- stepN_add]; rfl
  have hP : probe.go t (fun i => (es[i]?.map (·.1)).getD 0) hk (10 * turns t.mask) (stepN t.mask c (start t.mask hk)) = pr := hP
  have hd0 : (stepN t.mask c (start t.mask hk)).dummy = none := step_dummy c rfl
  have nx : ∀ n, (∃ m, m < n /\ ((es[below t.place (js t.mask hk (c + m))]?.map (·.1)).getD 0 == hk) = true) -> ∃ m, m < n /\ ((es[below t.place (js t.mask hk (c + m))]?.map (·.1)).getD 0 == hk) = true /\ ∀ m', m' < m -> ((es[below t.place (js t.mask hk (c + m'))]?.map (·.1)).getD 0 == hk) = false := by
   intro n
   induction n with
   | zero => rintro ⟨m, hm', _⟩; omega
   | succ n ihn =>
    rintro ⟨m, hm', hc'⟩
    by_cases d' : ∃ m, m < n /\ ((es[below t.place (js t.mask hk (c + m))]?.map (·.1)).getD 0 == hk) = true
    . obtain ⟨m2, a1, a2, a3⟩ := ihn d'
      exact ⟨m2, by omega, a2, a3⟩
    . refine ⟨m, hm', hc', fun m' h' => ?_⟩
      cases x : ((es[below t.place (js t.mask hk (c + m'))]?.map (·.1)).getD 0 == hk) with
      | false => rfl
      | true =>
       have : m = n := by
        apply Classical.byContradiction
        intro z
        exact d' ⟨m, by omega, hc'⟩
       exact absurd ⟨m', by omega, x⟩ d'
  have fin : ∀ {Z : Sem SetFound}, wpAny (model prog w) A Z Q E s -> wpAny (model prog w) A (if (!t.led) = true then (do
      let r <- searchCouldBeSeen (.ref b) ((es.filter (·.1 == hk)).toList.map (·.2))
      if r = true then (do
       unsupported "set:the-search-would-show-the-table"
       Z) else Z) else Z) Q E s := fun hZ => by
   refine wpAny_ite_split (fun _ => ?_) (fun _ => hZ)
   refine wpAny_bind (seen_no hb _ (fun y hy => ?_) ?_)
   . obtain ⟨e, he, rfl⟩ := List.mem_map.mp hy
     have he : e ∈ es.toList := by
      have := Array.mem_toList_iff.mp he
      rw [Array.mem_filter] at this
      exact Array.mem_toList_iff.mpr this.1
     obtain ⟨i, hi, ei⟩ := List.mem_iff_getElem.mp he
     have hi' : i < es.size := by rw [Array.length_toList] at hi; exact hi
     have hik : i < ks.length := by rw [S.kl]; exact hi'
     obtain ⟨b2, h1, h2⟩ := S.el i _ (List.getElem?_eq_getElem hik)
     rw [<- Array.getElem?_toList, List.getElem?_eq_getElem hi, ei] at h1
     exact ⟨_,b2, by rw [Option.some.inj h1], h2⟩
   . rw [if_neg (by decide)]
     exact hZ
  by_cases ev : ∃ m, m < N - c /\ ((es[below t.place (js t.mask hk (c + m))]?.map (·.1)).getD 0 == hk) = true
  . obtain ⟨m, hm1, hm2, hm3⟩ := nx _ ev
    obtain ⟨oc, nk⟩ := hm (c + m) (by omega)
    have gc := go_cand S.T (hs := fun i => (es[i]?.map (·.1)).getD 0) (h := hk) (n := m) (f := 10 * turns t.mask) (p := stepN t.mask c (start t.mask hk)) (by omega) (fun m' h' => by rw [stj]; exact ⟨(hm (c + m') (by omega)).1, hm3 m' h'⟩) (by rw [stj]; exact oc) (by rw [stj]; exact hm2)
    rw [hP] at gc
    subst gc
    dsimp only
    obtain ⟨k', b', e1, e2, e3⟩ := S.at_slot oc
    have kne : k' ≠ k := fun z => nk (by rw [e1, z])
    refine fin ?_
    simp only [stj]
    rw [e2]
    dsimp only
    refine wpAny_bind (wpAny_holding ((tk prog w).eqBool hu e3 hb ?_))
    rw [decide_eq_false kne]
    refine wpAny_bind (wpAny_setState_of ho hda S.fits ?_)
    dsimp only
    rw [if_neg (by decide)]
    have sm : t.sameMemory t.moves t.mask = some true := by unfold SetTable.sameMemory; rw [if_pos (beq_self_eq_true _)]
    rw [sm]
    dsimp only
    rw [if_pos rfl,slot_in S.T oc]
    dsimp only
    rw [e2]
    dsimp only
    refine wpAny_bind (wpAny_isSame_ref_self ?_)
    rw [if_pos rfl]
    refine wpAny_bind (wpAny_pure ?_)
    dsimp only
    rw [if_neg (by decide)]
    refine ih (N - (c + m + 1)) (by omega) (c + m + 1) g _ rfl (by omega) (by omega) ?_
    show stepN t.mask (m + 1) (stepN t.mask c (start t.mask hk)) = _
    rw [<- stepN_add]
    rfl
  . have no : ∀ m, m < N - c -> ((es[below t.place (js t.mask hk (c + m))]?.map (·.1)).getD 0 == hk) = false := fun m hm' => by
      cases x : ((es[below t.place (js t.mask hk (c + m))]?.map (·.1)).getD 0 == hk) with
      | false => rfl
      | true => exact absurd ⟨m, hm', x⟩ ev
    have ecN : c + (N - c) = N := by omega
    by_cases oc : js t.mask hk N ∈ t.place.toList
    . have hkN := hor.resolve_left (fun z => z oc)
      obtain ⟨k', b', e1, e2, e3⟩ := S.at_slot oc
      have kk : k' = k := by rw [e1] at hkN; exact Option.some.inj hkN
      subst kk
      have gc := go_cand S.T (hs := fun i => (es[i]?.map (·.1)).getD 0) (h := hk) (n := N - c) (f := 10 * turns t.mask) (p := stepN t.mask c (start t.mask hk)) (by omega) (fun m' h' => by rw [stj]; exact ⟨(hm (c + m') (by omega)).1, no m' h'⟩) (by rw [stj, ecN]; exact oc) (by rw [stj, ecN, e2]; show ((tk prog w).hash k' == hk) = true; rw [hH]; exact beq_self_eq_true _)
      rw [hP] at gc
      subst gc
      dsimp only
      refine fin ?_
      simp only [stj, ecN]
      rw [e2]
      dsimp only
      refine wpAny_bind (wpAny_holding ((tk prog w).eqBool hu e3 hb ?_))
      rw [decide_eq_true rfl]
      refine wpAny_bind (wpAny_setState_of ho hda S.fits ?_)
      dsimp only
      rw [if_pos (by decide)]
      exact wpAny_pure (q2 oc hkN)
    . have gc := go_empty S.T (hs := fun i => (es[i]?.map (·.1)).getD 0) (h := hk) (n := N - c) (f := 10 * turns t.mask) (p := stepN t.mask c (start t.mask hk)) hd0 (by omega) (fun m' h' => by rw [stj]; exact ⟨(hm (c + m') (by omega)).1, no m' h'⟩) (by rw [stj, ecN]; exact oc)
      rw [hP] at gc
      subst gc
      dsimp only
      rw [stj, ecN]
      exact wpAny_pure (q1 oc)
theorem least_of {P : Nat -> Prop} {n : Nat} (h : P n) : ∃ m, m <= n /\ P m /\ ∀ i, i < m -> ¬ P i := by
 induction n using Nat.strongRecOn with
 | ind n ih =>
  by_cases c : ∃ i, i < n /\ P i
  . obtain ⟨i, hi, hp⟩ := c
    obtain ⟨m, a, b, d⟩ := ih i hi hp
    exact ⟨m, by omega, b, d⟩
  . exact ⟨n, Nat.le_refl _,h, fun i hi hp => c ⟨i, hi, hp⟩⟩
theorem find_ok {a b : Addr} {es : Array (Int × Value)} {ep : Nat} {t : SetTable} {ks : List (List Int)} {k : List Int} (S : SH prog w s.heap a es ep t ks) (hb : (tk prog w).is s.heap k b) (hu : A.units < cLine) {Q : SetFound -> Shared -> Prop}
    (q1 : k ∉ ks -> ∀ n, n < 10 * turns t.mask -> js t.mask ((tk prog w).hash k) n ∉ t.place.toList -> (∀ m, m < n -> js t.mask ((tk prog w).hash k) m ∈ t.place.toList) -> Q (.free (js t.mask ((tk prog w).hash k) n) false) s) (q2 : k ∈ ks -> Q (.there none) s) :
    wpAny (model prog w) A (setSearch a (.ref b) ((tk prog w).hash k) (adding := true)) Q E s := by
 have room := S.room
 have m9 := S.m9
 obtain ⟨n0, h1, h2, h3⟩ := first_free S.T S.F (by omega) ((tk prog w).hash k)
 unfold setSearch
 by_cases c : k ∈ ks
 . obtain ⟨i, hi, ei⟩ := List.mem_iff_getElem.mp c
   have hik := List.getElem?_eq_getElem hi
   rw [ei] at hik
   obtain ⟨b2, e1, e2⟩ := S.el i k hik
   have hip : i < t.place.size := by rw [S.sz, <- S.kl]; exact hi
   have hpl := Array.getElem?_eq_getElem hip
   obtain ⟨n, hn, hocc⟩ := S.R.2 i ((tk prog w).hash k) t.place[i] (by rw [List.getElem?_map, Array.getElem?_toList, e1]; rfl) hpl
   obtain ⟨N, hNn, hN, hmin⟩ := least_of (P := fun m => js t.mask ((tk prog w).hash k) m = t.place[i]) hn
   have inP : t.place[i] ∈ t.place.toList := Array.getElem_mem_toList hip
   have bi : below t.place t.place[i] = i := below_at S.T.ri hip
   have occ : ∀ m, m < N -> js t.mask ((tk prog w).hash k) m ∈ t.place.toList := fun m hm => hocc m (by omega)
   have lt0 : N < n0 := by
    rcases Nat.lt_trichotomy N n0 with h | h | h
    . exact h
    . rw [<- h, hN] at h2; exact absurd inP h2
    . exact absurd (occ n0 h) h2
   refine search_ok S hb hu (N := N) (by omega) (fun m hm => ⟨occ m hm, fun z => ?_⟩) (fun z => absurd (by rw [hN]; exact inP) z) (fun _ _ => q2 c) (.inr (by rw [hN, bi]; exact hik)) N 0 100000 none (by omega) (Nat.zero_le _) (by have : turns t.mask = t.mask + 15 := rfl; omega) rfl
   have he := (below_get S.T.ri (js t.mask ((tk prog w).hash k) m)).mpr (occ m hm)
   have hbl := (Array.getElem?_eq_some_iff.mp he)
   obtain ⟨hb1, hb2⟩ := hbl
   have hbk : below t.place (js t.mask ((tk prog w).hash k) m) < ks.length := by rw [S.kl, <- S.sz]; exact hb1
   have : below t.place (js t.mask ((tk prog w).hash k) m) = i := by
    apply Classical.byContradiction
    intro hne
    rw [List.getElem?_eq_getElem hbk] at z
    have z := Option.some.inj z
    have nd := List.pairwise_iff_getElem.mp S.nd
    rcases Nat.lt_or_gt_of_ne hne with h | h
    . exact nd _ _ hbk hi h (by rw [z, ei])
    . exact nd _ _ hi hbk h (by rw [z, ei])
   refine hmin m hm ?_
   show js t.mask ((tk prog w).hash k) m = t.place[i]
   rw [<- hb2]
   simp only [this]
 . refine search_ok S hb hu (N := n0) h1 (fun m hm => ⟨h3 m hm, fun z => c (List.mem_of_getElem? z)⟩) (fun z => q1 c n0 h1 h2 h3) (fun z => absurd z h2) (.inl h2) n0 0 100000 none (by omega) (Nat.zero_le _) (by have : turns t.mask = t.mask + 15 := rfl; omega) rfl
end
end BE
set_option Elab.async false
set_option linter.all false
set_option maxRecDepth 100000
namespace BE
open PySem PySem.SetTable PySem.Spec PyProof.Rows
section
variable {prog : Program} {w : World} {A : Around} {E : Value -> Shared -> Prop} {s : Shared}
def Lo (B : Addr -> Prop) (es : Array (Int × Value)) : Prop := ∀ e ∈ es.toList, ∃ b : Addr, e.2 = .ref b /\ B b
def SHP (prog : Program) (w : World) (B : Addr -> Prop) (h : Heap) (a : Addr) (ks : List (List Int)) : Prop := ∃ es ep t ks', SH prog w h a es ep t ks' /\ ks'.Perm ks /\ Lo B es
theorem tk_mv {h h' : Heap} {k : List Int} {b : Addr} (x : (tk prog w).is h k b) (e : ∀ o, h.get? b = some o -> h'.get? b = some o) : (tk prog w).is h' k b := by
 obtain ⟨o, items, n, ho, hc, hd, hi⟩ := x
 exact ⟨o, items, n, e o ho, hc, hd, hi⟩
theorem tk_ne {h : Heap} {k : List Int} {a b : Addr} {o : Obj} {es : Array (Int × Value)} {ep : Nat} {t : SetTable} (x : (tk prog w).is h k b) (ho : h.get? a = some o) (hd : o.data = .set es ep t) : b ≠ a := by
 rintro rfl
 obtain ⟨o2, items, n, ho2, hc, hd2, hi⟩ := x
 rw [ho] at ho2
 obtain rfl := Option.some.inj ho2
 rw [hd] at hd2
 cases hd2
theorem SH.mv {B : Addr -> Prop} {h h' : Heap} {a : Addr} {es : Array (Int × Value)} {ep : Nat} {t : SetTable} {ks : List (List Int)} (S : SH prog w h a es ep t ks) (lo : Lo B es) (ea : ∀ o, h.get? a = some o -> h'.get? a = some o) (e : ∀ b o, B b -> h.get? b = some o -> h'.get? b = some o) : SH prog w h' a es ep t ks where
 ob := let ⟨o, ho, r⟩ := S.ob; ⟨o, ea o ho, r⟩
 T := S.T
 ma := S.ma
 sz := S.sz
 room := S.room
 led := S.led
 pla := S.pla
 R := S.R
 kl := S.kl
 el := fun i k hk => by
  obtain ⟨b, h1, h2⟩ := S.el i k hk
  obtain ⟨b', eb, hb⟩ := lo _ (List.mem_of_getElem? (by rw [Array.getElem?_toList]; exact h1))
  have : b = b' := by injection eb
  exact ⟨b, h1, tk_mv h2 fun o => e b o (by rw [this]; exact hb)⟩
 nd := S.nd
theorem SHP.mv {B : Addr -> Prop} {h h' : Heap} {a : Addr} {ks : List (List Int)} (S : SHP prog w B h a ks) (ea : ∀ o, h.get? a = some o -> h'.get? a = some o) (e : ∀ b o, B b -> h.get? b = some o -> h'.get? b = some o) : SHP prog w B h' a ks := let ⟨es, ep, t, ks', x, y, z⟩ := S; ⟨es, ep, t, ks', x.mv z ea e, y, z⟩
theorem fits_of {t : SetTable} {n : Nat} (T : Tab t) (hz : t.place.size = n) (hr : n <= t.mask) : t.fits n = true := by
 unfold SetTable.fits SetTable.fill
 rw [T.du]
 simp [hz]
 omega
theorem perm_at {l : List Nat} {n : Nat} (h : l.Perm (List.range n)) {α : Type} {xs : List α} (hx : xs.length = n) : (l.filterMap fun i => xs[i]?).Perm xs := by
 refine (h.filterMap _).trans (List.Perm.of_eq ?_)
 subst hx
 apply List.ext_getElem?
 intro i
 rw [(filterMap_at (fun a ha => ?_) i).1]
 . rcases Nat.lt_or_ge i xs.length with c | c
   . rw [List.getElem?_range c]; rfl
   . rw [List.getElem?_eq_none (by rw [List.length_range]; exact c), List.getElem?_eq_none c]; rfl
 . rw [List.getElem?_eq_getElem (List.mem_range.mp ha)]; rfl
theorem js_lt (M : Nat) (h : Int) (n : Nat) : js M h n < M + 1 := by
 obtain ⟨r, k, hk, rfl⟩ := run_of M h n
 rw [js_run M h r hk]
 have a := run_lt (hd_lt M h r)
 have b := runEnd_ge M (hdI M h r).1
 omega
theorem relay_w {a : Addr} {o : Obj} {es : Array (Int × Value)} {ep : Nat} {t : SetTable} {ks : List (List Int)} {wanted M : Nat} (hM : sizeAbove wanted = M + 1) (hM2 : M = 7 \/ M = 31 \/ M = 127 \/ M = 511)
    (ho : s.heap.get? a = some o) (hex : o.ExactSet) (hd : o.data = .set es ep t) (hf : t.fits es.size = true) (hr : es.size * 5 < M * 3) (hled : t.led = !byText w) (hpla : t.plain = true)
    (kl : ks.length = es.size) (el : ∀ (i : Nat) (k : List Int), ks[i]? = some k -> ∃ b : Addr, es[i]? = some ((tk prog w).hash k, Value.ref b) /\ (tk prog w).is s.heap k b) (nd : ks.Nodup) {Q : Unit -> Shared -> Prop}
    (q : ∀ h' es' t' ks', Heap.SameBut a s.heap h' -> SH prog w h' a es' (ep + 1) t' ks' -> ks'.Perm ks -> es'.toList.Perm es.toList -> Q () { s with heap := h' }) : wpAny (model prog w) A (setRelay a wanted) Q E s := by
 have M5 : M <= 511 := by rcases hM2 with e | e | e | e <;> omega
 have F : Full (sizeAbove wanted - 1 + 1) := by
  rw [hM]
  rcases hM2 with e | e | e | e <;> rw [e]
  . exact full8
  . exact full32
  . exact full128
  . exact full512
 obtain ⟨t', order, e1, T', m', l', p', pm, R'⟩ := relay_ok (t := t) (hs := es.map (·.1)) F (by rw [Array.size_map, hM]; omega)
 rw [Array.size_map] at pm
 have es' : (order.filterMap (es[·]?)).toList = order.toList.filterMap fun i => es.toList[i]? := by simp
 have ps : ((order.filterMap (es[·]?)).toList).Perm es.toList := by rw [es']; exact perm_at pm (Array.length_toList)
 have sz' : (order.filterMap (es[·]?)).size = es.size := by rw [<- Array.length_toList, ps.length_eq, Array.length_toList]
 have all1 : ∀ i ∈ order.toList, i < es.size := fun i hi => List.mem_range.mp (pm.mem_iff.mp hi)
 unfold setRelay
 refine wpAny_bind (wpAny_setState_of ho hd hf ?_)
 dsimp only
 rw [if_neg (by rw [hM]; show ¬ (M + 1 > 16777216); omega), e1]
 refine wpAny_bind ?_
 refine (?_ : wpAny _ A (if ((order.filterMap (es[·]?)).size != es.size) = true then _ else pure (order.filterMap (es[·]?), t')) _ E s)
 rw [if_neg (by rw [sz']; simp)]
 refine wpAny_pure ?_
 dsimp only
 refine wpAny_storeSet_of ho hd ?_ (by rw [sz']; show _ <= 16777216; omega)
 have g := Heap.get?_update_self (Obj.putSet (order.filterMap (es[·]?)) t') ho (by rw [putSet_of _ _ hd]; rfl)
 rw [putSet_of _ _ hd] at g
 refine q _ (order.filterMap (es[·]?)) t' (order.toList.filterMap fun i => ks[i]?) (Heap.SameBut.update s.heap a _) ⟨⟨_,g, hex, rfl⟩, T', ?_,?_,?_,l'.trans hled, p'.trans hpla, ?_,?_,fun i k hk => ?_,?_⟩ (perm_at pm kl) ps
 . rw [m', hM]; exact hM2
 . rw [sz', <- R'.1, (filterMap_at (fun i hi => ?_) 0).2, pm.length_eq, List.length_range]
   rw [Array.getElem?_map, Array.getElem?_eq_getElem (all1 i hi)]; rfl
 . have := R'.1
   rw [(filterMap_at (fun i hi => by rw [Array.getElem?_map, Array.getElem?_eq_getElem (all1 i hi)]; rfl) 0).2, pm.length_eq, List.length_range] at this
   rw [m', hM, <- this]; exact hr
 . have : (order.filterMap (es[·]?)).toList.map (·.1) = order.toList.filterMap fun i => (es.map (·.1))[i]? := by
     rw [es', List.map_filterMap]
     congr 1
     funext i
     simp
   rw [this]; exact R'
 . rw [(perm_at pm kl).length_eq, sz', kl]
 . have allk : ∀ i ∈ order.toList, (ks[i]?).isSome = true := fun i hi => by rw [List.getElem?_eq_getElem (by rw [kl]; exact all1 i hi)]; rfl
   have alle : ∀ i ∈ order.toList, (es.toList[i]?).isSome = true := fun i hi => by rw [Array.getElem?_toList, Array.getElem?_eq_getElem (all1 i hi)]; rfl
   rw [(filterMap_at allk i).1] at hk
   cases eo : order.toList[i]? with
   | none => rw [eo] at hk; cases hk
   | some j =>
    rw [eo] at hk
    obtain ⟨b, h1, h2⟩ := el j k hk
    refine ⟨b, ?_,tk_mv h2 fun o2 e => ?_⟩
    . rw [<- Array.getElem?_toList, es', (filterMap_at alle i).1, eo]
      show es.toList[j]? = _
      rw [Array.getElem?_toList]; exact h1
    . rw [(Heap.SameBut.update s.heap a _).2 b (tk_ne h2 ho hd)]; exact e
 . exact (perm_at pm kl).nodup_iff.mpr nd
theorem add_ok {B : Addr -> Prop} {a b : Addr} {ks : List (List Int)} {k : List Int} {Q : Bool -> Shared -> Prop} (hS : SHP prog w B s.heap a ks) (hbN : B b) (hb : (tk prog w).is s.heap k b) (hu : A.units < cLine) (hl : ks.length <= 300)
    (q : ∀ h' x, Heap.SameBut a s.heap h' -> SHP prog w B h' a (if k ∈ ks then ks else ks ++ [k]) -> Q x { s with heap := h' }) :
    wpAny (model prog w) A (setAddHashed a (.ref b) ((tk prog w).hash k)) Q E s := by
 obtain ⟨es, ep, t, ks1, S, pm, lo⟩ := hS
 obtain ⟨o, ho, hex, hd⟩ := S.ob
 have hl1 : es.size <= 300 := by rw [<- S.kl, pm.length_eq]; exact hl
 unfold setAddHashed setAddHashedIn
 refine wpAny_holding (wpAny_bind (wpAny_setState_of ho hd S.fits ?_))
 dsimp only
 rw [if_neg (by unfold byScan; exact Bool.false_ne_true)]
 refine wpAny_bind (find_ok S hb hu (fun hn n hlt hj hm => ?_) fun hin => ?_)
 . dsimp only
   refine wpAny_bind (wpAny_setState_of ho hd S.fits ?_)
   dsimp only
   have jlt : js t.mask ((tk prog w).hash k) n < t.mask + 1 := js_lt _ _ _
   obtain ⟨t', p, ep1, hp, T', m', l', p', mo', z', R'⟩ := put_ok S.T S.R hj hm jlt
   rw [ep1]
   dsimp only
   rw [if_pos (p'.trans S.pla)]
   refine wpAny_bind (byVal_yes hb ?_)
   rw [if_pos rfl]
   have hpe : p <= es.size := by rw [<- S.sz]; exact hp
   have tl : (SetTable.insertAt es p ((tk prog w).hash k, Value.ref b)).toList = insL es.toList p ((tk prog w).hash k, Value.ref b) := by
    rw [SetTable.toList_insertAt]
    unfold insL
    simp
   have zs : (SetTable.insertAt es p ((tk prog w).hash k, Value.ref b)).size = es.size + 1 := by
    rw [<- Array.length_toList, tl]
    unfold insL
    rw [List.length_append, List.length_cons, List.length_take, List.length_drop, Array.length_toList]
    omega
   refine wpAny_bind (wpAny_storeSet_of ho hd ?_ (by rw [zs]; show _ <= 16777216; omega))
   have g := Heap.get?_update_self (Obj.putSet (SetTable.insertAt es p ((tk prog w).hash k, Value.ref b)) t') ho (by rw [putSet_of _ _ hd]; rfl)
   have sb := Heap.SameBut.update s.heap a (Obj.putSet (SetTable.insertAt es p ((tk prog w).hash k, Value.ref b)) t')
   rw [putSet_of _ _ hd] at g
   generalize s.heap.update a (Obj.putSet (SetTable.insertAt es p ((tk prog w).hash k, Value.ref b)) t') = h1 at *
   have pk : (insL ks1 p k).Perm (ks1 ++ [k]) := by
    unfold insL
    refine List.perm_middle.trans ?_
    rw [List.take_append_drop]
    exact (List.perm_append_comm (l₁ := [k]) (l₂ := ks1))
   have nk : k ∉ ks1 := hn
   have pk2 : (insL ks1 p k).Perm (if k ∈ ks then ks else ks ++ [k]) := by
    rw [if_neg (fun z => nk (pm.mem_iff.mpr z))]
    exact pk.trans (pm.append_right _)
   have kl' : (insL ks1 p k).length = (SetTable.insertAt es p ((tk prog w).hash k, Value.ref b)).size := by
    rw [pk.length_eq, zs, List.length_append, S.kl]; rfl
   have el' : ∀ (i : Nat) (k' : List Int), (insL ks1 p k)[i]? = some k' -> ∃ b' : Addr, (SetTable.insertAt es p ((tk prog w).hash k, Value.ref b))[i]? = some ((tk prog w).hash k', Value.ref b') /\ (tk prog w).is h1 k' b' := fun i k' hk' => by
    have mvb : ∀ {k2 b2}, (tk prog w).is s.heap k2 b2 -> (tk prog w).is h1 k2 b2 := fun h2 => tk_mv h2 fun o2 e => by rw [sb.2 _ (tk_ne h2 ho hd)]; exact e
    rw [<- Array.getElem?_toList, tl, insL_at (by rw [Array.length_toList]; exact hpe)]
    rw [insL_at (by rw [S.kl]; exact hpe)] at hk'
    by_cases c : i < p
    . rw [if_pos c] at hk' ⊢
      obtain ⟨b2, x, y⟩ := S.el i k' hk'
      exact ⟨b2, by rw [Array.getElem?_toList]; exact x, mvb y⟩
    . rw [if_neg c] at hk' ⊢
      by_cases d : i = p
      . rw [if_pos d] at hk' ⊢
        obtain rfl := Option.some.inj hk'
        exact ⟨b, rfl,mvb hb⟩
      . rw [if_neg d] at hk' ⊢
        obtain ⟨b2, x, y⟩ := S.el (i - 1) k' hk'
        exact ⟨b2, by rw [Array.getElem?_toList]; exact x, mvb y⟩
   have nd' : (insL ks1 p k).Nodup := by
    refine pk.nodup_iff.mpr (List.nodup_append.mpr ⟨S.nd, by simp, fun x hx y hy => ?_⟩)
    rw [List.mem_singleton.mp hy]
    exact fun e => nk (e ▸ hx)
   have Rn : Rch t' ((SetTable.insertAt es p ((tk prog w).hash k, Value.ref b)).toList.map (·.1)) := by
    have : (SetTable.insertAt es p ((tk prog w).hash k, Value.ref b)).toList.map (·.1) = insL (es.toList.map (·.1)) p ((tk prog w).hash k) := by
     rw [tl]; unfold insL; rw [List.map_append, List.map_cons, List.map_take, List.map_drop]
    rw [this]; exact R'
   have lo' : Lo B (SetTable.insertAt es p ((tk prog w).hash k, Value.ref b)) := fun e he => by
    rw [tl] at he
    unfold insL at he
    rcases List.mem_append.mp he with he | he
    . exact lo e (List.mem_of_mem_take he)
    . rcases List.mem_cons.mp he with rfl | he
      . exact ⟨b, rfl,hbN⟩
      . exact lo e (List.mem_of_mem_drop he)
   have hsz := S.sz
   have room := S.room
   have tf : t'.tooFull = decide ((es.size + 1) * 5 >= t.mask * 3) := by
    unfold SetTable.tooFull SetTable.fill
    rw [T'.du, z', m', hsz]
    simp
   by_cases full : (es.size + 1) * 5 >= t.mask * 3
   . rw [tf, decide_eq_true full, Bool.and_true, if_pos (by decide)]
     have cs : ∃ M, sizeAbove (grown (es.size + 1)) = M + 1 /\ (M = 7 \/ M = 31 \/ M = 127 \/ M = 511) /\ (es.size + 1) * 5 < M * 3 := by
      rcases S.ma with e | e | e | e
      . have : es.size = 4 := by omega
        rw [this]; exact ⟨31, by decide, by decide, by decide⟩
      . have : es.size = 18 := by omega
        rw [this]; exact ⟨127, by decide, by decide, by decide⟩
      . have : es.size = 76 := by omega
        rw [this]; exact ⟨511, by decide, by decide, by decide⟩
      . omega
     obtain ⟨M, c1, c2, c3⟩ := cs
     refine wpAny_bind (relay_w (s := { s with heap := h1 }) c1 c2 g hex rfl (fits_of T' (by rw [z', zs, hsz]) (by rw [zs, m']; have := S.m9; rcases S.ma with e | e | e | e <;> omega)) (by rw [zs]; exact c3) (l'.trans S.led) (p'.trans S.pla) kl' el' nd' fun h2 es2 t2 ks2 sb2 S2 pm2 pe2 => ?_)
     refine wpAny_pure (q h2 true (sb.trans sb2) ⟨_,_,_,_,S2, pm2.trans pk2, fun e he => lo' e (pe2.mem_iff.mp he)⟩)
   . rw [tf, decide_eq_false full, Bool.and_false, if_neg (by decide)]
     refine wpAny_pure (q h1 true sb ⟨_,_,_,_,⟨⟨_,g, hex, rfl⟩, T', by rw [m']; exact S.ma, by rw [z', zs, hsz], by rw [z', m', hsz]; omega, l'.trans S.led, p'.trans S.pla, Rn, kl', el', nd'⟩, pk2, lo'⟩)
 . dsimp only
   refine wpAny_pure ?_
   have hin' : k ∈ ks := pm.mem_iff.mp hin
   exact q s.heap false (Heap.SameBut.refl a s.heap) (by rw [if_pos hin']; exact ⟨es, ep, t, ks1, S, pm, lo⟩)
end
end BE
set_option Elab.async false
set_option linter.all false
set_option maxRecDepth 100000
namespace BE
open PySem PySem.Spec PyProof.Rows
def freshO (w : World) : Obj := { cls := .type "set", dict := none, data := .set #[] 0 (Tb (!byText w) 0) }
section
variable {prog : Program} {w : World} {A : Around} {E : Value -> Shared -> Prop} {s : Shared}
theorem made (a : Value) {Q : Value -> Shared -> Prop} (q : Q (.ref s.heap.objs.size) { s with heap := s.heap.push (freshO w) }) :
    codeAny (model prog w) A (.call (.builtin "set.__new__") ⟨[.type "set", a], []⟩) (wants Q E) s := by
 refine codeAny_of_tree ?_
 show wpAny _ A.in1 (checkBuiltinCall "set.__new__" ⟨[.type "set", a], []⟩ >>= fun _ => again (.builtin "set.__new__" ⟨[.type "set", a], []⟩)) _ _ s
 refine wpAny_bind (wpAny_of_eq (F.newCall_set_1 a) (wpAny_pure ⟨plainId_quiet F.plain_set_new _,codeAny_builtin F.entry_set_new ?_⟩))
 rw [Around.under_plainId F.plain_set_new _]
 unfold Builtin.«set.__new__» Builtin.Frozenset.newClass
 have sub := sub_set_self
 obtain ⟨hp, g, d, tk, os⟩ := s
 dsimp only
 wp_walk
 refine wpAny_askSetting (wpAny_pure ?_)
 dsimp only
 simp only [newObj]
 exact wpAny_bind (wpAny_alloc (wpAny_pure (wpAny_pure q)))
end
end BE
set_option Elab.async false
set_option linter.all false
set_option maxRecDepth 100000
namespace BE
open PySem PySem.SetTable PySem.Spec PyProof.Rows
def metT (val : Nat -> List Int) : Nat -> List (List Int)
 | 0 => []
 | i + 1 => if val i ∈ metT val i then metT val i else metT val i ++ [val i]
theorem metT_mem (val : Nat -> List Int) {x : List Int} : ∀ n : Nat, x ∈ metT val n ↔ ∃ i < n, val i = x
 | 0 => ⟨(fun h => absurd h List.not_mem_nil), fun ⟨i, hi, _⟩ => absurd hi (Nat.not_lt_zero _)⟩
 | n + 1 => by
  have ih := metT_mem val (x := x) n
  show x ∈ (if val n ∈ metT val n then metT val n else metT val n ++ [val n]) ↔ _
  constructor
  . intro h
    by_cases c : val n ∈ metT val n
    . rw [if_pos c] at h
      obtain ⟨i, hi, e⟩ := ih.mp h
      exact ⟨i, by omega, e⟩
    . rw [if_neg c] at h
      rcases List.mem_append.mp h with h | h
      . obtain ⟨i, hi, e⟩ := ih.mp h
        exact ⟨i, by omega, e⟩
      . exact ⟨n, by omega, (List.mem_singleton.mp h).symm⟩
  . rintro ⟨i, hi, e⟩
    by_cases c : val n ∈ metT val n
    . rw [if_pos c]
      rcases Nat.lt_or_ge i n with d | d
      . exact ih.mpr ⟨i, d, e⟩
      . have : i = n := by omega
        rw [<- e, this]; exact c
    . rw [if_neg c]
      rcases Nat.lt_or_ge i n with d | d
      . exact List.mem_append_left _ (ih.mpr ⟨i, d, e⟩)
      . have : i = n := by omega
        rw [<- e, this]; exact List.mem_append_right _ List.mem_cons_self
theorem metT_le (val : Nat -> List Int) : ∀ n : Nat, (metT val n).length <= n
 | 0 => Nat.le_refl _
 | n + 1 => by
  have := metT_le val n
  show (if val n ∈ metT val n then metT val n else metT val n ++ [val n]).length <= _
  split
  . omega
  . rw [List.length_append]; simp; omega
theorem freshT {prog : Program} {w : World} {B : Addr -> Prop} {h : Heap} {a : Addr} (e : h.get? a = some (freshO w)) : SHP prog w B h a [] := by
 refine ⟨#[], 0, Tb (!byText w) 0, [], ⟨⟨_,e, ⟨rfl,rfl,rfl⟩, rfl⟩, ⟨?_,rfl,fun j hj => ?_⟩, .inl rfl,rfl,(by decide : (0 : Nat) * 5 < 7 * 3), rfl,rfl,⟨rfl,fun i h j e => ?_⟩, rfl,fun i k hk => ?_,List.nodup_nil⟩, .rfl,fun e he => by cases he⟩
 . intro i j hi
   exact absurd (show i < 0 from hi) (Nat.not_lt_zero _)
 . cases (show j ∈ ([] : List Nat) from hj)
 . simp at e
 . simp at hk
section
variable {prog : Program} {w : World} {A : Around} {E : Value -> Shared -> Prop} {s : Shared}
variable {R : Result -> Shared -> Prop} {I : Addr} {fp wr : List Addr} {G : Array GenState -> Array GenState -> Prop} {n : Nat} {P : Nat -> Value -> Prop} {St : Nat -> Shared -> Prop}
theorem setT_loop {B : Addr -> Prop} (W : WalksS prog w A.in1 I fp wr G n P St) (S : Addr) (hfp : S ∉ fp) (hB : ∀ b, B b -> b ≠ S /\ b ∉ wr) (val : Nat -> List Int) (bs : Nat -> Addr) (hv : ∀ i v, i < n -> P i v -> v = .ref (bs i)) (hbs : ∀ i, i < n -> B (bs i)) (hu : A.units + 5 < cLine) (hn : n <= 300) :
    ∀ (k i : Nat) (s : Shared), n - i = k -> i <= n -> St i s -> (∀ j, j < n -> (tk prog w).is s.heap (val j) (bs j)) -> SHP prog w B s.heap S (metT val i) ->
     (∀ s', Moved (S :: wr) G s s' -> SHP prog w B s'.heap S (metT val n) -> R (.ok (.ret .none)) s') -> codeAny (model prog w) A (.builtin "set.update.loop" ⟨[.ref S, .ref I], []⟩) R s := by
 have hwr : S ∉ wr := fun h => hfp (W.sub _ h)
 have more : ∀ b ∈ wr, b ∈ S :: wr := fun b h => List.mem_cons_of_mem _ h
 have low : ∀ {b : Addr}, B b -> b ∉ wr := fun hb => (hB _ hb).2
 intro k
 induction k with
 | zero =>
  intro i s hk hi st hb hS q
  obtain rfl : i = n := by omega
  refine codeAny_builtin F.entry_set_update_loop ?_
  rw [Around.under_plainId F.plain_set_update_loop _]
  show wpAny _ A.in1 (pyNext (.ref I) >>= fun _ => _) _ _ s
  refine wpAny_bind (W.done s _ _ st fun s1 mv => ?_)
  exact wpAny_pure (q s1 (mv.mono more) (hS.mv (fun o e => mv.heap S _ hwr e) fun b o h e => mv.heap b _ (low h) e))
 | succ k ih =>
  intro i s hk hi st hb hS q
  have hin : i < n := by omega
  refine codeAny_builtin F.entry_set_update_loop ?_
  rw [Around.under_plainId F.plain_set_update_loop _]
  show wpAny _ A.in1 (pyNext (.ref I) >>= fun _ => _) _ _ s
  refine wpAny_bind (W.item i s _ _ hin st fun v s1 hp st1 mv => ?_)
  obtain rfl := hv i v hin hp
  have hS1 : SHP prog w B s1.heap S (metT val i) := hS.mv (fun o e => mv.heap S _ hwr e) fun b o h e => mv.heap b _ (low h) e
  have hb1 : ∀ j, j < n -> (tk prog w).is s1.heap (val j) (bs j) := fun j hj => tk_mv (hb j hj) fun o e => mv.heap _ _ (low (hbs j hj)) e
  show wpAny _ A.in1 (holding [Value.ref (bs i)] (setAdd S (.ref (bs i))) >>= fun _ => _) _ _ s1
  refine wpAny_bind (wpAny_holding ?_)
  unfold setAdd
  refine wpAny_holding (wpAny_bind ((tk prog w).pyHash (k := val i) (show A.units + 1 < cLine by omega) (hb1 i hin) ?_))
  refine add_ok (s := { s1 with toks := s1.toks + (tk prog w).draws (val i) }) hS1 (hbs i hin) (hb1 i hin) (show A.units + 1 < cLine by omega) (Nat.le_trans (metT_le val i) (by omega)) fun h' b sb hS2 => ?_
  refine wpAny_pure ⟨plainId_quiet F.plain_set_update_loop _,ih (i + 1) _ (by omega) hin (W.frame _ s1 _ _ st1 (Nat.le_add_right _ _) fun c hc o e => ?_) (fun j hj => tk_mv (hb1 j hj) fun o e => ?_) hS2 fun s2 mv2 hS3 => ?_⟩
  . rw [sb.2 c (fun z => hfp (z ▸ hc))]; exact e
  . have := hbs j hj
    rw [sb.2 (bs j) (hB _ this).1]; exact e
  . refine q s2 (Moved.trans W.gtrans ((mv.mono more).then_heap (Nat.le_add_right _ _) fun c o hc e => ?_) mv2) hS3
    rw [sb.2 c (fun z => hc (z ▸ List.mem_cons_self))]; exact e
set_option maxHeartbeats 3200000 in
theorem setT_of {l : Addr} {its : Array Value} {val : Nat -> List Int} {bs : Nat -> Addr} {Q : Value -> Shared -> Prop} (hh : A.handled = none) (hl : s.heap.IsList l its) (hi : ∀ i, i < its.size -> its[i]? = some (.ref (bs i)) /\ (tk prog w).is s.heap (val i) (bs i)) (hf : its.size <= 300) (hu : A.units + 12 < cLine)
    (q : ∀ (h' : Heap) (tk : Nat), SHP prog w (fun b => ∃ j, j < its.size /\ b = bs j) h' s.heap.objs.size (metT val its.size) -> (∀ b o, s.heap.get? b = some o -> h'.get? b = some o) -> Q (.ref s.heap.objs.size) { s with heap := h', toks := tk }) :
    wpAny (model prog w) A (call (.type "set") [.ref l]) Q E s := by
 obtain ⟨c, tl, mro⟩ := F.called_set.mro
 have m1 := F.called_set.made
 have m2 := F.called_set.sub
 refine wpAny_call (codeAny_of_tree ?_)
 show wpAny _ _ (callAny (.type "set") _) _ _ _
 refine wpAny_pure ⟨Code.quiet_builtin _ (by decide +kernel), codeAny_builtin F.entry_type_call ?_⟩
 rw [Around.under_plain (weight_type_call_type "set" [.ref l] []) rfl]
 have m3 := F.called_set.notType
 have m4 := F.called_set.canCreate
 have m5 := F.typeCall_set_1 (.ref l)
 (repeat (any_goals (first | assumption | wp_step)))
 refine codeAny_mono (made (.ref l) (E := E) (Q := fun v s1 => v = .ref s.heap.objs.size /\ s1 = { s with heap := s.heap.push (freshO w) }) ⟨rfl,rfl⟩) fun r s1 hr => ?_
 cases r with
 | error e => exact hr
 | ok fl =>
  cases fl with
  | ret obj =>
   obtain ⟨rfl,rfl⟩ := hr
   have g1 : (s.heap.push (freshO w)).get? s.heap.objs.size = some (freshO w) := Heap.get?_push_size _ rfl
   have ty : Shared.TypeIs { s with heap := s.heap.push (freshO w) } (.ref s.heap.objs.size) "set" := ⟨_,g1, rfl⟩
   have m6 := F.called_set.init.lookup
   have m7 := F.called_set.init.bind (.ref s.heap.objs.size)
   (repeat (any_goals (first | assumption | wp_step)))
   refine codeAny_mono (codeAny_call_builtin (R := wants (fun r s2 => r = .none /\ ∃ h' tk, s2 = { s with heap := h', toks := tk } /\ SHP prog w (fun b => ∃ j, j < its.size /\ b = bs j) h' s.heap.objs.size (metT val its.size) /\ (∀ b o, s.heap.get? b = some o -> h'.get? b = some o)) E)
    F.called_set.init.plain F.entry_set_init (check_set_init_1 ty ?_)) fun r2 s2 hr2 => ?_
   . obtain ⟨ol, hol, hcl, nl, hdl⟩ := hl
     obtain ⟨ocls, odict, odata, oslots⟩ := ol
     simp only at hcl hdl
     subst hcl hdl
     have g2 : (s.heap.push (freshO w)).get? l = some { cls := .type "list", dict := odict, data := .seq its nl, slots := oslots } := Heap.get?_push_of_some _ hol
     have m8 := F.sub_list_set
     have m9 := F.sub_list_frozenset
     have m10 : (Value.type "list" == Value.type "dict") = false := by decide
     have l1 : (s.heap.push (freshO w)).IsList l its := ⟨_,g2, rfl,nl, rfl⟩
     unfold Builtin.«set.__init__» noKeywords Builtin.Frozenset.updateFrom
     generalize hPI : pyIter = PI
     wp_walk
     subst hPI
     refine wpAny_pyIter_list l1 (wpAny_bind (wpAny_runValue ?_))
     have ltl : l < s.heap.objs.size := Heap.lt_size hol
     have hh3 : A.in1.in1.in1.handled = none := by simp [hh]
     have ne1 : l ≠ (s.heap.push (freshO w)).objs.size := by rw [Heap.size_push]; exact Nat.ne_of_lt (Nat.lt_succ_of_lt ltl)
     have nf : s.heap.objs.size ∉ [(s.heap.push (freshO w)).objs.size, l] := by
      rw [Heap.size_push]
      simp only [List.mem_cons, List.not_mem_nil, or_false, not_or]
      exact ⟨Nat.ne_of_lt (Nat.lt_succ_self _), Nat.ne_of_gt ltl⟩
     have lo : ∀ i, i < its.size -> bs i < s.heap.objs.size := fun i h => let ⟨o, _,_,ho, _⟩ := (hi i h).2; Heap.lt_size ho
     refine setT_loop (B := fun b => ∃ j, j < its.size /\ b = bs j) ((Walks.list hh3 _ l ne1 its).toS) s.heap.objs.size nf (fun b hb => ?_) val bs (fun i v hiz hv => ?_) (fun i h => ⟨i, h, rfl⟩) (by show A.units + 1 + 1 + 5 < cLine; omega) hf (its.size - 0) 0 _ (by omega) (Nat.zero_le _)
      ⟨⟨_,Heap.get?_push_size _ rfl,rfl,rfl⟩, l1.push _⟩ (fun j hj => tk_mv (hi j hj).2 fun o e => Heap.get?_push_of_some _ (Heap.get?_push_of_some _ e)) (freshT (Heap.get?_push_of_some _ g1)) fun s3 mv hS => ?_
     . obtain ⟨j, hj, rfl⟩ := hb
       have := lo j hj
       refine ⟨Nat.ne_of_lt this, fun z => ?_⟩
       have z : bs j = (s.heap.push (freshO w)).objs.size := by simpa using z
       rw [Heap.size_push] at z
       rw [z] at this
       exact absurd this (Nat.not_lt.mpr (Nat.le_succ _))
     . have h1 := (hi i hiz).1
       have hv : its[i]? = some v := hv
       rw [hv] at h1
       exact Option.some.inj h1
     obtain ⟨h', g', d', tk', os'⟩ := s3
     have eg : g' = s.gens := mv.gens
     have ed : d' = s.drawn := mv.drawn
     have eo : os' = s.os := mv.os
     subst eg ed eo
     refine wpAny_pure ?_
     refine wpAny_pure ⟨rfl,h', tk', rfl,hS, fun b o e => ?_⟩
     have hb := Heap.lt_size e
     refine mv.heap b o ?_ (Heap.get?_push_of_some _ (Heap.get?_push_of_some _ e))
     rw [Heap.size_push]
     simp only [List.mem_cons, List.not_mem_nil, or_false, not_or]
     exact ⟨Nat.ne_of_lt hb, Nat.ne_of_lt (Nat.lt_succ_of_lt hb)⟩
   . cases r2 with
     | error e => exact hr2
     | ok fl2 =>
      cases fl2 with
      | ret r =>
       obtain ⟨rfl,h', tk, rfl,hS, hk⟩ := hr2
       (repeat (any_goals (first | assumption | wp_step)))
       exact q _ _ hS hk
      | _ => exact hr2.elim
  | _ => exact hr.elim
end
end BE
set_option Elab.async false
set_option linter.all false
set_option maxRecDepth 100000
namespace BE
open PySem PySem.SetTable PySem.Spec PyProof.Rows
structure ST (w : World) (h : Heap) (a : Addr) (es : Array (Int × Value)) (ep : Nat) (t : SetTable) : Prop where
 ob : ∃ o, h.get? a = some o /\ o.ExactSet /\ o.data = .set es ep t
 ri : Ris t.place
 sz : t.place.size = es.size
 ft : t.fits es.size = true
 led : t.led = !byText w
 pla : t.plain = true
theorem ST.mv {w : World} {h h' : Heap} {a : Addr} {es : Array (Int × Value)} {ep : Nat} {t : SetTable} (x : ST w h a es ep t) (e : ∀ o, h.get? a = some o -> h'.get? a = some o) : ST w h' a es ep t := ⟨let ⟨o, ho, r⟩ := x.ob; ⟨o, e o ho, r⟩, x.ri, x.sz, x.ft, x.led, x.pla⟩
theorem SH.st {prog : Program} {w : World} {h : Heap} {a : Addr} {es : Array (Int × Value)} {ep : Nat} {t : SetTable} {ks : List (List Int)} (S : SH prog w h a es ep t ks) : ST w h a es ep t := ⟨S.ob, S.T.ri, S.sz, S.fits, S.led, S.pla⟩
def stanT (t : SetTable) : Nat -> Nat
 | 0 => 0
 | i + 1 => t.place.getD i 0 + 1
def slotT (w : World) (t : SetTable) (i : Nat) : Nat := if byText w then 0 else stanT t i
theorem stan_below {t : SetTable} (hr : Ris t.place) {i : Nat} (hi : i <= t.place.size) : SetTable.below t.place (stanT t i) = i := by
 obtain ⟨b0, b1, b2⟩ := below_is hr (stanT t i)
 cases i with
 | zero =>
  rcases Nat.eq_zero_or_pos (SetTable.below t.place (stanT t 0)) with h | h
  . exact h
  . have := b1 0 (by omega) h
    exact absurd this (Nat.not_lt_zero _)
 | succ i =>
  have e : stanT t (i + 1) = t.place[i] + 1 := by show t.place.getD i 0 + 1 = _; rw [Array.getD_eq_getD_getElem?, Array.getElem?_eq_getElem hi]; rfl
  rcases Nat.lt_trichotomy (SetTable.below t.place (stanT t (i + 1))) (i + 1) with h | h | h
  . have := b2 i hi (by omega)
    omega
  . exact h
  . have a := b1 (i + 1) (by omega) h
    have b := hr i (i + 1) (by omega) (by omega) (by omega)
    omega
section
variable {prog : Program} {w : World} {A : Around} {E : Value -> Shared -> Prop} {s : Shared}
theorem set_nextT {a : Addr} {es : Array (Int × Value)} {ep i : Nat} {t : SetTable} {Q : Option (Value × Nat) -> Shared -> Prop} (hS : ST w s.heap a es ep t) (hi : i <= es.size)
    (q : Q (((seen w a ep es)[i]?).map fun e => (e.2, slotT w t (i + 1))) s) : wpAny (model prog w) A (setNext a (slotT w t i) i ep) Q E s := by
 obtain ⟨o, ho, hx, hd⟩ := hS.ob
 have hfi := hS.ft
 unfold setNext
 refine wpAny_bind (wpAny_setState_of ho hd hfi ?_)
 dsimp only
 unfold setsByText
 refine wpAny_bind (wpAny_bind (wpAny_askSetting (wpAny_pure ?_)))
 show wpAny _ _ (if byText w = true then _ else _) _ _ _
 unfold seen slotT at q
 unfold slotT
 by_cases c : byText w = true
 . rw [if_pos c] at q ⊢
   rw [if_pos c] at q
   simp only [bne_self_eq_false, Bool.false_eq_true, if_false]
   refine wpAny_bind ?_
   unfold setWalk
   refine wpAny_bind (wpAny_setState_of ho hd hfi ?_)
   dsimp only
   unfold setsByText
   refine wpAny_bind (wpAny_bind (wpAny_askSetting (wpAny_pure ?_)))
   show wpAny _ _ (if byText w = true then _ else _) _ _ _
   rw [if_pos c]
   refine wpAny_bind (wpAny_askSetting (wpAny_pure (wpAny_pure ?_)))
   rw [if_pos c]
   exact q
 . rw [if_neg c] at q ⊢
   rw [if_neg c] at q
   have c' : byText w = false := by simpa using c
   refine wpAny_ite_split (fun hab => absurd (show ((!t.plain) && decide (es.size > 1)) = true from hab) (by rw [hS.pla]; simp)) (fun _ => ?_)
   refine wpAny_bind ?_
   wp_delta
   refine wpAny_ite_split (fun hab => absurd (show ((!t.led) && !es.isEmpty) = true from hab) (by rw [hS.led, c']; simp)) (fun _ => ?_)
   refine wpAny_pure (wpAny_pure ?_)
   rw [if_neg c]
   show Q (match es[SetTable.below t.place (stanT t i)]?, t.place[SetTable.below t.place (stanT t i)]? with | some (_,x), some j => some (x, j + 1) | _,_ => none) s
   rw [stan_below hS.ri (by rw [hS.sz]; exact hi)]
   by_cases hl : i < es.size
   . have hl' : i < t.place.size := by rw [hS.sz]; exact hl
     rw [Array.getElem?_eq_getElem hl] at q ⊢
     rw [Array.getElem?_eq_getElem hl']
     have e : stanT t (i + 1) = t.place[i] + 1 := by show t.place.getD i 0 + 1 = _; rw [Array.getD_eq_getD_getElem?, Array.getElem?_eq_getElem hl']; rfl
     rw [e] at q
     exact q
   . rw [Array.getElem?_eq_none (by omega)] at q ⊢
     exact q
theorem set_iterT {a : Addr} {es : Array (Int × Value)} {ep : Nat} {t : SetTable} {Q : Value -> Shared -> Prop} (hS : ST w s.heap a es ep t)
    (q : Q (.ref s.heap.objs.size) { s with heap := s.heap.push { cls := .type "set_iterator", data := .fields #[.int 0 0, .int 0 0, .ref a, .int es.size 0, .int ep 0] } }) : wpAny (model prog w) A (pyIter (.ref a)) Q E s := by
 obtain ⟨o, ho, hx, hd⟩ := hS.ob
 have hfi := hS.ft
 have hT : s.TypeIs (.ref a) "set" := ⟨o, ho, hx.1⟩
 refine wpAny_pyIter_slot hT F.slot_set_iter (wpAny_call_entry F.slot_set_iter hT ent_set_iter ?_ (F.args_set_iter_1 _))
 unfold Builtin.«frozenset.__iter__»
 refine wpAny_bind ?_
 wp_delta
 refine wpAny_bind (wpAny_pure ?_)
 refine wpAny_pure ?_
 refine wpAny_bind ?_
 unfold Builtin.Frozenset.sizeOf
 refine wpAny_bind (wpAny_setEntries_of ho hd hfi (wpAny_pure ?_))
 refine wpAny_bind ?_
 unfold setDrawn setsByText
 refine wpAny_bind (wpAny_setState_of ho hd hfi (wpAny_bind (wpAny_bind (wpAny_askSetting (wpAny_pure (wpAny_pure ?_))))))
 refine wpAny_ite_split (fun hab => absurd (show ((!byText w) && ((!t.plain) && decide (es.size > 1))) = true from hab) (by rw [hS.pla]; simp)) (fun _ => ?_)
 refine wpAny_bind (wpAny_pure ?_)
 refine wpAny_bind (wpAny_setEpoch_of ho hd hfi (wpAny_bind (wpAny_newObj_type ?_)))
 exact wpAny_pure ⟨_,rfl,"set_iterator", _,⟨_,Heap.get?_push_size _ rfl,rfl⟩, sit_next.lookup, q⟩
theorem sit_itemT {it a : Addr} {es : Array (Int × Value)} {ep i : Nat} {t : SetTable} {e : Int × Value} {Q : Option Value -> Shared -> Prop} (hit : IsSit s.heap it a (slotT w t i) i es.size ep) (hS : ST w s.heap a es ep t) (he : (seen w a ep es)[i]? = some e)
    (q : ∀ h' : Heap, IsSit h' it a (slotT w t (i + 1)) (i + 1) es.size ep -> Heap.SameBut it s.heap h' -> Q (some e.2) { s with heap := h' }) : wpAny (model prog w) A (pyNext (.ref it)) Q E s := by
 have hT : s.TypeIs (.ref it) "set_iterator" := hit.typeIs
 obtain ⟨oi, hoi, hci, hdi⟩ := hit
 obtain ⟨o, ho, hx, hd⟩ := hS.ob
 have hfi := hS.ft
 have hi : i < es.size := by
  rcases Nat.lt_or_ge i es.size with h | h
  . exact h
  . rw [Array.getElem?_eq_none (by rw [seen_size]; exact h)] at he; cases he
 unfold pyNext
 refine wpAny_bind (wpAny_attempt (wpAny_callSpecial?_slot hT sit_next (wpAny_call_entry sit_next hT ent_next ?_ (args_next _))))
 unfold Builtin.«set_iterator.__next__»
 refine wpAny_bind (wpAny_pure ?_)
 refine wpAny_bind (wpAny_fieldsOf hoi hdi ?_)
 dsimp only
 refine wpAny_bind (wpAny_setEntries_of ho hd hfi ?_)
 simp only [bne_self_eq_false, Bool.false_eq_true, if_false, Int.toNat_natCast]
 refine wpAny_bind (set_nextT hS (Nat.le_of_lt hi) ?_)
 rw [he]
 dsimp only [Option.map]
 refine wpAny_bind (wpAny_setField hoi hdi (by show 0 < 5; omega) ?_)
 have b1 := Heap.SameBut.update s.heap it (Obj.mapFields fun x => x.setIfInBounds 0 (rawInt (slotT w t (i + 1))))
 have g1 := Heap.get?_update_self (Obj.mapFields fun x => x.setIfInBounds 0 (rawInt (slotT w t (i + 1)))) hoi (Obj.isFreed_of_fields (Obj.data_mapFields hdi _))
 have c1 := (Obj.cls_mapFields oi (fun x => x.setIfInBounds 0 (rawInt (slotT w t (i + 1))))).trans hci
 have d1 := Obj.data_mapFields hdi (fun x => x.setIfInBounds 0 (rawInt (slotT w t (i + 1))))
 generalize s.heap.update it (Obj.mapFields fun x => x.setIfInBounds 0 (rawInt (slotT w t (i + 1)))) = h1 at *
 generalize Obj.mapFields (fun x => x.setIfInBounds 0 (rawInt (slotT w t (i + 1)))) oi = o1 at *
 refine wpAny_bind (wpAny_setField (s := { s with heap := h1 }) g1 d1 (by show 1 < 5; omega) ?_)
 have b2 := Heap.SameBut.update h1 it (Obj.mapFields fun x => x.setIfInBounds 1 (rawInt ((i : Int) + 1)))
 refine wpAny_pure ⟨_,rfl,wpAny_pure (q _ ⟨_,Heap.get?_update_self _ g1 (Obj.isFreed_of_fields (Obj.data_mapFields d1 _)), (Obj.cls_mapFields _ _).trans c1, (Obj.data_mapFields d1 _).trans rfl⟩ (b1.trans b2))⟩
theorem sit_endT {it a : Addr} {es : Array (Int × Value)} {ep i : Nat} {t : SetTable} {Q : Option Value -> Shared -> Prop} (hh : A.handled = none) (hit : IsSit s.heap it a (slotT w t i) i es.size ep) (hS : ST w s.heap a es ep t) (hi : i <= es.size) (he : (seen w a ep es)[i]? = none)
    (q : ∀ h' : Heap, Heap.ExtBut it s.heap h' -> Q none { s with heap := h' }) : wpAny (model prog w) A (pyNext (.ref it)) Q E s := by
 have hT : s.TypeIs (.ref it) "set_iterator" := hit.typeIs
 obtain ⟨oi, hoi, hci, hdi⟩ := hit
 obtain ⟨o, ho, hx, hd⟩ := hS.ob
 have hfi := hS.ft
 unfold pyNext
 refine wpAny_bind (wpAny_attempt (wpAny_callSpecial?_slot hT sit_next (wpAny_call_entry sit_next hT ent_next ?_ (args_next _))))
 unfold Builtin.«set_iterator.__next__»
 refine wpAny_bind (wpAny_pure (wpAny_bind (wpAny_fieldsOf hoi hdi ?_)))
 dsimp only
 refine wpAny_bind (wpAny_setEntries_of ho hd hfi ?_)
 simp only [bne_self_eq_false, Bool.false_eq_true, if_false, Int.toNat_natCast]
 refine wpAny_bind (set_nextT hS hi ?_)
 rw [he]
 dsimp only [Option.map]
 refine wpAny_bind (wpAny_setField hoi hdi (by show 2 < 5; omega) ?_)
 have hb := (Heap.SameBut.update s.heap it (Obj.mapFields fun x => x.setIfInBounds 2 Value.none)).extBut
 generalize s.heap.update it (Obj.mapFields fun x => x.setIfInBounds 2 Value.none) = h' at *
 refine wpAny_bind ?_
 unfold newExc
 refine wpAny_bind (wpAny_newObj_type (wpAny_bind (wpAny_of_eq rfl ?_)))
 refine wpAny_newObj_type ?_ (sizeOk_excFields _ _ _ _ _ _ _ _)
 unfold raiseNew
 refine wpAny_bind (wpAny_handled ?_)
 rw [show A.in1.handled = none from hh]
 refine wpAny_throw (wpAny_bind (wpAny_isInstance ⟨_,Heap.get?_push_size _ rfl,rfl⟩ isSubtype_stop ?_))
 exact wpAny_pure (q _ ((hb.push _).push _))
theorem walks_setT (hh : A.handled = none) (I a : Addr) (hne : a ≠ I) (es : Array (Int × Value)) (ep : Nat) (t : SetTable) :
    Walks prog w A I [I, a] [I] es.size (fun i v => ∃ e, (seen w a ep es)[i]? = some e /\ v = e.2) fun i h => IsSit h I a (slotT w t i) i es.size ep /\ ST w h a es ep t where
 sub := fun b hb => by simp at hb; simp [hb]
 frame := fun i h h' st k => ⟨let ⟨o, ho, r⟩ := st.1; ⟨o, k I (by simp) o ho, r⟩, st.2.mv fun o e => k a (by simp) o e⟩
 item := fun i s Q E hi st q => by
  have hi' : i < (seen w a ep es).size := by rw [seen_size]; exact hi
  have he : (seen w a ep es)[i]? = some (seen w a ep es)[i] := Array.getElem?_eq_getElem hi'
  refine sit_itemT st.1 st.2 he fun h' st' sb => ?_
  refine q _ h' s.toks ⟨_,he, rfl⟩ ⟨st', st.2.mv fun o e => (sb.2 a hne).trans e⟩ fun b o hb e => (sb.2 b (by simpa using hb)).trans e
 done := fun s Q E st q => sit_endT hh st.1 st.2 (Nat.le_refl _) (Array.getElem?_eq_none (by rw [seen_size]; exact Nat.le_refl _)) fun h' eb => q h' s.toks fun b o hb e => eb b o (by simpa using hb) e
 self := fun i s Q E st q => sit_self st.1 q
theorem src_setT {a : Addr} {es : Array (Int × Value)} {ep : Nat} {t : SetTable} : W.KdlSrc prog w "set" a a es.size (fun i v => ∃ e, (seen w a ep es)[i]? = some e /\ v = e.2) (fun h => ST w h a es ep t) where
 type := fun s st => let ⟨o, ho, hx, _⟩ := st.ob; ⟨o, ho, hx.1⟩
 there := fun h st => let ⟨o, ho, _⟩ := st.ob; ⟨Heap.lt_size ho, Heap.lt_size ho⟩
 keep := fun h h' st k => st.mv fun o e => k a (.inl rfl) o e
 notList := by decide
 notTuple := by decide
 hint := fun A E s Q st q => let ⟨o, ho, hx, _⟩ := st.ob; hint_set ⟨o, ho, hx.1⟩ q
 iter := fun A s hh st => by
  obtain ⟨o, ho, hx, hd⟩ := st.ob
  have z : slotT w t 0 = 0 := by unfold slotT; split <;> rfl
  exact ⟨_,_,fun E Q q => set_iterT st q, walks_setT hh s.heap.objs.size a (Nat.ne_of_lt (Heap.lt_size ho)) es ep t, ⟨_,Heap.get?_push_size _ rfl,rfl,by rw [z]; rfl⟩, st.mv fun o e => Heap.get?_push_of_some _ e⟩
end
end BE
set_option Elab.async false
set_option linter.all false
set_option maxRecDepth 100000
namespace BE
open PySem PyProof.Rows
theorem bt_set : bootBuiltins "set" = some (.type "set") := by decide +kernel
end BE
namespace L2
open PySem PySem.Spec PyProof.Rows BE
section
variable {X : Cx}
end
end L2
set_option Elab.async false
set_option linter.all false
set_option maxRecDepth 100000
namespace L2
open PySem PySem.SeqAt PySem.Spec PyProof.Rows
theorem shI (ms : List Int) : SeqAt.shaped (.tuple (ms.map .int)) = true := by
 have dep : ∀ ms : List Int, PyData.depthAll (ms.map PyData.int) <= 10 := by
  intro ms
  induction ms with
  | nil => decide
  | cons m r ih => rw [List.map_cons, PyData.depthAll]; show max _ _ <= 10; simp [PyData.depth]; omega
 have lay : ∀ ms : List Int, PyData.canLayAll0 (ms.map PyData.int) = true := by
  intro ms
  induction ms with
  | nil => rfl
  | cons m r ih => rw [List.map_cons, PyData.canLayAll0, ih]; rfl
 have e1 := dep ms
 unfold SeqAt.shaped
 rw [PyData.canLay0, lay]
 have e : PyData.depth (.tuple (ms.map .int)) <= 20 := by rw [PyData.depth]; omega
 exact decide_eq_true (by omega)
theorem eqvI (ns ms : List Int) : PyData.eqv (.tuple (ns.map PyData.int)) (.tuple (ms.map PyData.int)) = decide (ns = ms) := by
 rw [<- SeqAt.same_eq_eqv _ _ (by simp only [SeqAt.noMix]; exact PySem.W.noMix_ints ns ms)]
 simp only [PySem.Spec.same]
 exact PySem.W.same_ints ns ms
theorem ints_inj : ∀ {a b : List Int}, a.map V.int = b.map V.int -> a = b
 | [], [], _ => rfl
 | [], _ :: _,h => by cases h
 | _ :: _,[], h => by cases h
 | x :: a, y :: b, h => by
  obtain ⟨h1, h2⟩ := List.cons.inj h
  injection h1 with h1
  rw [h1, ints_inj h2]
section
variable {X : Cx}
open Classical in
end
end L2
set_option Elab.async false
set_option linter.all false
set_option maxRecDepth 100000
namespace BE
open PySem PySem.SetTable PySem.Spec PyProof.Rows
def Side {α β : Type} (R : α -> β -> Prop) : List α -> List β -> Prop
 | [], [] => True
 | x :: xs, y :: ys => R x y /\ Side R xs ys
 | _,_ => False
theorem side_of {α β : Type} {R : α -> β -> Prop} : ∀ {xs : List α} {ys : List β}, xs.length = ys.length -> (∀ (i : Nat) (y : β), ys[i]? = some y -> ∃ x, xs[i]? = some x /\ R x y) -> Side R xs ys
 | [], [], _,_ => trivial
 | x :: xs, y :: ys, hl, h => by
  obtain ⟨x', e, r⟩ := h 0 y rfl
  obtain rfl : x = x' := by simpa using e
  exact ⟨r, side_of (by simpa using hl) fun i y hy => h (i + 1) y hy⟩
 | [], _ :: _,hl, _ => by simp at hl
 | _ :: _,[], hl, _ => by simp at hl
theorem side_at {α β : Type} {R : α -> β -> Prop} : ∀ {xs : List α} {ys : List β}, Side R xs ys -> xs.length = ys.length /\ ∀ (i : Nat) (y : β), ys[i]? = some y -> ∃ x, xs[i]? = some x /\ R x y
 | [], [], _ => ⟨rfl,fun i y h => by simp at h⟩
 | x :: xs, y :: ys, h => by
  obtain ⟨a, b⟩ := side_at h.2
  refine ⟨by simp [a], fun i y' hy => ?_⟩
  cases i with
  | zero =>
   obtain rfl : y = y' := by simpa using hy
   exact ⟨x, rfl,h.1⟩
  | succ i => exact b i y' hy
 | [], _ :: _,h => h.elim
 | _ :: _,[], h => h.elim
theorem side_perm {α β : Type} {R : α -> β -> Prop} {xs xs' : List α} (p : xs.Perm xs') : ∀ {ys : List β}, Side R xs ys -> ∃ ys', Side R xs' ys' /\ ys.Perm ys' := by
 induction p with
 | nil => intro ys h; exact ⟨ys, h, .rfl⟩
 | cons x p ih =>
  intro ys h
  cases ys with
  | nil => exact h.elim
  | cons y ys =>
   obtain ⟨zs, a, b⟩ := ih h.2
   exact ⟨y :: zs, ⟨h.1, a⟩, b.cons y⟩
 | swap x x' l =>
  intro ys h
  match ys, h with
  | y :: y' :: ys, h => exact ⟨y' :: y :: ys, ⟨h.2.1, h.1, h.2.2⟩, .swap _ _ _⟩
 | trans p1 p2 ih1 ih2 =>
  intro ys h
  obtain ⟨zs, a, b⟩ := ih1 h
  obtain ⟨zs', a', b'⟩ := ih2 a
  exact ⟨zs', a', b.trans b'⟩
theorem nodup_leT : ∀ {l ks : List (List Int)}, l.Nodup -> (∀ x ∈ l, x ∈ ks) -> l.length <= ks.length
 | [], ks, _,_ => Nat.zero_le _
 | x :: l, ks, nd, h => by
  have hx := h x List.mem_cons_self
  have nd' := List.nodup_cons.mp nd
  have := nodup_leT (l := l) (ks := ks.erase x) nd'.2 fun y hy => (List.mem_erase_of_ne (fun e : y = x => nd'.1 (by rw [<- e]; exact hy))).mpr (h y (List.mem_cons_of_mem _ hy))
  rw [List.length_erase_of_mem hx] at this
  have pos := List.length_pos_of_mem hx
  rw [List.length_cons]
  omega
theorem iv_is : ∀ {us : List Value} {k : List Int} {prog : Program} {w : World}, IV us k -> ItemsAre (intKind prog w) k us
 | [], [], _,_,_ => .nil
 | u :: us, x :: k, _,_,h => by
  obtain ⟨t, rfl⟩ := h.1
  exact .cons (intKind_is _ _ _ _) (iv_is h.2)
 | [], _ :: _,_,_,h => h.elim
 | _ :: _,[], _,_,h => h.elim
end BE
namespace L2
open PySem PySem.SeqAt PySem.Spec PyProof.Rows BE
section
variable {X : Cx}
def toV : Value -> V
 | .ref b => .ref b
 | _ => .non
theorem vals_refs : ∀ {l : List Value}, (∀ v ∈ l, ∃ b, v = .ref b) -> Vals (l.map toV) l
 | [], _ => .nil
 | v :: l, h => by
  obtain ⟨b, rfl⟩ := h v List.mem_cons_self
  exact .cons rfl (vals_refs fun x hx => h x (List.mem_cons_of_mem _ hx))
def rSortST : List V -> Hp -> VK -> Prop := fun xs H Q => ∃ (a : Addr) (ws : List V) (m : Nat) (ks : List (List Int)), xs = [.ref a] /\ H a = some (.lst ws) /\ TupsIn H ws ks /\ (∀ k ∈ ks, BE.RgT m k) /\ ks.length <= 300 /\ (∃ D : List (List Int), D.length < 64 /\ ∀ k ∈ ks, k ∈ D) /\
 ∀ (l : Addr) (ws' : List V) (ks' : List (List Int)), H l = none -> (∀ k, k ∈ ks' ↔ k ∈ ks) -> ks'.Nodup -> ks'.Pairwise leT -> TupsIn H ws' ks' -> Q (.ref l) (upd H l (.lst ws'))
theorem pe_sortsetT {e : Expr} {te : TE} {p1 p2 c1 c2 : Pos} (hc : X.calm = true) (hu : X.A.units + 65 < cLine) (hg1 : Gl X "sorted") (hm1 : X.mg "sorted" = none) (hg2 : Gl X "set") (hm2 : X.mg "set" = none) (ha : PE X e te)
    (hs : starEach [e] X.env = [(false, eval e X.env)] := by rfl) (hs1 : starEach [.Call (.Name "set" p2) [e] [] c2] X.env = [(false, eval (.Call (.Name "set" p2) [e] [] c2) X.env)] := by rfl) :
    PE X (.Call (.Name "sorted" p1) [.Call (.Name "set" p2) [e] [] c2] [] c1) (tCB rSortST (tCons te tNil)) := by
 intro pins s σ H Q I h
 refine wpAny_Call_Name_kw (ld_blt I hg1 hm1 (by decide +kernel : bootBuiltins "sorted" = some (.builtin "sorted")) ?_)
 refine PyProof.Rows.callWith_builtin1 ?_ hs1 rfl
 rw [hs1]
 refine Calls.spliced_cons ?_
 refine wpAny_Call_Name_kw (ld_blt I hg2 hm2 bt_set ?_)
 refine PyProof.Rows.callWith_type1 (thn (pa_cons ha pa_nil hs c2 pins s σ H _ I h) fun us s1 ⟨vs, H1, I1, r1, q1⟩ => ?_) hs rfl
 obtain ⟨a, ws, m, ks, rfl,hH, tin, hr, h300, ⟨D, hD, hDk⟩, q⟩ := q1
 obtain ⟨u, rfl,rfl⟩ := vals1 r1
 obtain ⟨z, its, n, rv, hl, he⟩ := I1.lstM hH
 have kl : its.length = ks.length := by rw [<- hl]; exact tin.1
 have atI : ∀ i, i < its.length -> ∃ b, its[i]? = some (.ref b) /\ H1 b = some (.tup ((ks.getD i []).map V.int)) := fun i hi => by
  have hk : ks[i]? = some ks[i] := List.getElem?_eq_getElem (by omega)
  obtain ⟨b, hb, hB⟩ := tin.2 i _ hk
  obtain ⟨u, hu', ru⟩ := rv.get hb
  cases ru
  exact ⟨b, hu', by rw [List.getD_eq_getElem?_getD, hk]; exact hB⟩
 have hsel : ∃ bs : Nat -> Addr, ∀ i, i < its.length -> its[i]? = some (.ref (bs i)) /\ H1 (bs i) = some (.tup ((ks.getD i []).map V.int)) :=
  ⟨fun i => if h : i < its.length then Classical.choose (atI i h) else 0, fun i h => by simp only [dif_pos h]; exact Classical.choose_spec (atI i h)⟩
 obtain ⟨bs, hbs⟩ := hsel
 have isT : ∀ {b : Addr} {k : List Int}, H1 b = some (.tup (k.map V.int)) -> (BE.tk X.prog X.w).is s1.heap k b := fun {b k} hb => by
  obtain ⟨ts, rt, ⟨o, ho, hc, m, hd⟩, _⟩ := I1.tuple (SqT.of hb)
  exact ⟨o, _,m, ho, hc, hd, BE.iv_is (by simpa using iv_of rt)⟩
 have hz : its.toArray.size = its.length := List.size_toArray
 refine BE.setT_of (val := fun i => ks.getD i []) (bs := bs) (I1.ok.hd hc) ⟨_,he, rfl,n, rfl⟩ (fun i hi => ?_) (by rw [hz]; omega) (by omega) fun h' tk hS hk => ?_
 . rw [hz] at hi
   exact ⟨by rw [List.getElem?_toArray]; exact (hbs i hi).1, isT (hbs i hi).2⟩
 refine Calls.spliced_nil ?_
 obtain ⟨es, ep, t, ks1, S, pm, lo⟩ := hS
 rw [hz] at pm lo
 have I2 : Inv X pins σ H1 { s1 with heap := h', toks := tk } := I1.kept hk
 have sd0 : BE.Side (fun (e : Int × Value) (k : List Int) => ∃ b, e.2 = .ref b /\ H1 b = some (.tup (k.map V.int))) es.toList ks1 := by
  refine BE.side_of (by rw [Array.length_toList]; exact S.kl.symm) fun i k hk1 => ?_
  obtain ⟨b, h1, h2⟩ := S.el i k hk1
  have h1' : es.toList[i]? = some ((BE.tk X.prog X.w).hash k, Value.ref b) := by rw [Array.getElem?_toList]; exact h1
  refine ⟨_,h1', b, rfl,?_⟩
  obtain ⟨b', eb, j, hj, ej⟩ := lo _ (List.mem_of_getElem? h1')
  have ebb : b = b' := by injection eb
  have hB := (hbs j hj).2
  rw [<- ej, <- ebb] at hB
  have kk := (BE.tk X.prog X.w).inj h2 (BE.tk_mv (isT hB) (hk b))
  rw [kk]; exact hB
 obtain ⟨ps, sd, pp1⟩ := BE.side_perm (BE.seen_perm X.w s1.heap.objs.size ep es).symm sd0
 obtain ⟨sl, sa⟩ := BE.side_at sd
 generalize hV : (BE.seen X.w s1.heap.objs.size ep es).toList.map (·.2) = vs
 have vl : vs.length = ps.length := by rw [<- hV, List.length_map]; exact sl
 have va : ∀ (i : Nat) (k : List Int), ps[i]? = some k -> ∃ b, vs[i]? = some (.ref b) /\ H1 b = some (.tup (k.map V.int)) := fun i k hk1 => by
  obtain ⟨e, he, b, hb, hB⟩ := sa i k hk1
  exact ⟨b, by rw [<- hV, List.getElem?_map, he]; exact congrArg some hb, hB⟩
 have pk : ∀ k, k ∈ ps ↔ k ∈ ks := fun k => by
  rw [<- pp1.mem_iff, pm.mem_iff, BE.metT_mem]
  constructor
  . rintro ⟨i, hi, rfl⟩
    rw [List.getD_eq_getElem?_getD, List.getElem?_eq_getElem (by omega : i < ks.length)]
    exact List.getElem_mem _
  . intro hk1
    obtain ⟨i, hi, ei⟩ := List.mem_iff_getElem.mp hk1
    exact ⟨i, by omega, by rw [List.getD_eq_getElem?_getD, List.getElem?_eq_getElem hi]; exact ei⟩
 have pnd : ps.Nodup := pp1.nodup_iff.mp S.nd
 have pl : ps.length < 64 := by
  exact Nat.lt_of_le_of_lt (BE.nodup_leT pnd fun x hx => hDk x ((pk x).mp hx)) hD
 have x : BE.TT h' vs ps := ⟨vl, fun i p hi => by
  obtain ⟨b, hb, hB⟩ := va i p hi
  obtain ⟨ts, rt, ⟨o, ho, hc, m, hd⟩, _⟩ := I2.tuple (SqT.of hB)
  exact ⟨b, o, _,m, hb, ho, hc, hd, by simpa using iv_of rt⟩⟩
 have sts := S.st
 refine BE.sortedT (s := { s1 with heap := h', toks := tk }) x (fun p hp => hr p ((pk p).mp hp)) (by omega) (fun R hR => ?_) fun h1 tk2 ix hk2 a1 a2 => ?_
 . refine PySem.W.kdu_collect (BE.src_setT (es := es) (ep := ep) (t := t)) (I2.ok.hd hc) sts (by rw [sizeLine_eq]; have := S.kl; have := pp1.length_eq; omega) fun h2 tk2 acc kp it => ?_
   have e : acc.toList = vs := by
    rw [<- hV]
    exact BE.items_eq (by
     rw [Array.length_toList, BE.seen_size]
     exact ⟨it.1, fun i v hv => by
      obtain ⟨e, he, hve⟩ := it.2 i v hv
      exact ⟨e, by rw [Array.getElem?_toList]; exact he, hve⟩⟩)
   rw [e]
   exact hR h2 tk2 kp
 have rv2 : Vals (vs.map toV) vs := vals_refs fun v hv => by
  obtain ⟨i, hi, rfl⟩ := List.mem_iff_getElem.mp hv
  obtain ⟨b, hb, _⟩ := va i _ (List.getElem?_eq_getElem (by omega))
  rw [List.getElem?_eq_getElem hi] at hb
  exact ⟨b, Option.some.inj hb⟩
 have tin2 : TupsIn H1 (vs.map toV) ps := ⟨by rw [List.length_map]; exact vl, fun i k hk1 => by
  obtain ⟨b, hb, hB⟩ := va i k hk1
  exact ⟨b, by rw [List.getElem?_map, hb]; rfl,hB⟩⟩
 generalize vs.map toV = wv at *
 have wl : wv.length = vs.length := tin2.1.trans vl.symm
 rw [<- wl] at a1
 have lt : ∀ i ∈ ix, i < wv.length := fun i hi => by
  have := a1.mem_iff.mp hi
  simpa using this
 obtain ⟨c, hc'⟩ := sortedHeap_at (h := h1.push (seqObj "list" vs.toArray 0)) (a := h1.objs.size) (vs := vs) (n := 0) (out := List.toArray (ix.map fun i => vs.getD i Value.none)) (Heap.get?_push_size _ rfl)
 have I3 : Inv X pins σ H1 { s1 with heap := h1, toks := tk2 } := I2.kept (t' := tk2) hk2
 have lx : ix.length = wv.length := by rw [a1.length_eq, List.length_range]
 have pp : (ix.map fun i => ps.getD i []).Perm ps := by
  have h1 := a1.map fun i => ps.getD i []
  rw [tin2.1] at h1
  have h2 : (List.range ps.length).map (fun i => ps.getD i []) = ps := by
   apply List.ext_getElem
   . simp
   . intro i k1 k2
     simp [List.getD_eq_getElem?_getD, k2]
  rw [h2] at h1
  exact h1
 have zs : wv.length <= sizeLine := by rw [tin2.1, sizeLine_eq]; omega
 refine ⟨.ref h1.objs.size, _,I3.laid (o := .lst (ix.map fun i => wv.getD i .non)) (t' := tk2) (BE.sortedS_kept fun _ _ e => e) (Nat.le_refl _) ?_,rfl,
  q _ (ix.map fun i => wv.getD i .non) (ix.map fun i => ps.getD i []) (I3.hok.fresh (Nat.le_refl _)) (fun k => pp.mem_iff.trans (pk k)) (pp.nodup_iff.mpr pnd) (List.pairwise_map.mpr a2) ⟨by rw [List.length_map, List.length_map], fun i p hi => ?_⟩⟩
 . refine ⟨by rw [List.length_map, lx]; exact zs, _,c, vals_pick rv2 ix lt, hc'⟩
 . rw [List.getElem?_map] at hi
   cases ei : ix[i]? with
   | none => rw [ei] at hi; cases hi
   | some k =>
    rw [ei] at hi
    have hk' : k < wv.length := lt k (List.mem_of_getElem? ei)
    have hkp : k < ps.length := by rw [<- tin2.1]; exact hk'
    obtain ⟨q', hq', hQ'⟩ := tin2.2 k _ (List.getElem?_eq_getElem hkp)
    have ep : ps[k] = p := by
     have : (ps.getD k []) = p := Option.some.inj hi
     rw [List.getD_eq_getElem?_getD, List.getElem?_eq_getElem hkp] at this
     exact this
    refine ⟨q', ?_,by rw [<- ep]; exact hQ'⟩
    rw [List.getElem?_map, ei]
    show some (wv.getD k .non) = _
    rw [List.getD_eq_getElem?_getD, hq']; rfl
end
end L2
set_option Elab.async false
set_option linter.all false
set_option maxRecDepth 100000
namespace L2
open PySem PySem.SeqAt PySem.Spec PyProof.Rows
section
variable {X : Cx}
end
end L2
set_option Elab.async false
set_option linter.all false
set_option maxRecDepth 100000
namespace L2
open PySem PySem.SeqAt PySem.Spec PyProof.Rows
section
variable {X : Cx}
def rCountT : V -> List V -> Hp -> VK -> Prop := fun x vs H Q => ∃ (l p : Addr) (ws : List V) (k : List Int) (ks : List (List Int)), x = .ref l /\ vs = [.ref p] /\ H p = some (.tup (k.map V.int)) /\ H l = some (.lst ws) /\ TupsIn H ws ks /\ Q (.int ((ks.filter fun y => decide (y = k)).length : Nat)) H
open Classical in
theorem cntT {H : Hp} {k : List Int} : ∀ {ws : List V} {ks : List (List Int)} {its : List Value}, TupsIn H ws ks -> Vals ws its -> its.countP (fun v => decide (∃ q, v = .ref q /\ H q = some (.tup (k.map V.int)))) = (ks.filter fun y => decide (y = k)).length
 | [], [], its, _,r => by cases r; rfl
 | [], _ :: _,its, t, _ => by have := t.1; simp at this
 | _ :: _,[], its, t, _ => by have := t.1; simp at this
 | w :: ws, y :: ks, its, t, r => by
  cases r with
  | cons h r =>
   obtain ⟨q, hq, hQ⟩ := t.2 0 y rfl
   obtain rfl : w = .ref q := by simpa using hq
   obtain rfl := h
   have ih := cntT (k := k) (ws := ws) (ks := ks) ⟨by have := t.1; simpa using this, fun i k' hk => t.2 (i + 1) k' hk⟩ r
   rw [List.countP_cons, ih, List.filter_cons]
   by_cases c : y = k
   . subst c
     rw [if_pos (decide_eq_true (⟨q, rfl,hQ⟩ : ∃ q', Value.ref q = .ref q' /\ H q' = some (.tup (y.map V.int)))), if_pos (decide_eq_true (rfl : y = y)), List.length_cons]
   . have no : ¬ ((decide (y = k)) = true) := by rw [decide_eq_false c]; exact Bool.false_ne_true
     rw [if_neg no, if_neg, Nat.add_zero]
     intro z
     obtain ⟨q', e, hQ'⟩ := of_decide_eq_true z
     injection e with e
     rw [<- e, hQ] at hQ'
     injection hQ' with hQ'
     injection hQ' with hQ'
     exact c (ints_inj hQ')
open Classical in
theorem mt_countT (hu : X.A.units + 65 < cLine) : MtM X "list.count" rCountT := by
 intro pins s σ H x vs v us Q I rx rv h
 obtain ⟨l, p, ws, k, ks, rfl,rfl,hp, hH, tin, q⟩ := h
 cases rx
 obtain ⟨u, rfl,ru⟩ := rv.one
 cases ru
 obtain ⟨z, its, n, r, hl, e⟩ := I.lstM hH
 have rk : Rep H (.ref p) (.tuple (k.map .int)) := .tup hp Reps.ints
 obtain ⟨as, za⟩ := rk.reads I.hok rfl
 refine call_meets F.slot_list_count ⟨_,e, rfl⟩ F.entry_list_count (F.args_list_count_2 _ _) (list_countAt l its.toArray n none #[] (.ref p) (fun v => decide (∃ q, v = .ref q /\ H q = some (.tup (k.map V.int))))) ⟨e, fun y hy => ?_,?_⟩
 . have hy' : y ∈ its := by simpa using hy
   obtain ⟨i, hi, ei⟩ := List.getElem_of_mem hy'
   have hik : i < ks.length := by rw [<- tin.1, hl]; exact hi
   obtain ⟨b, hb, hB⟩ := tin.2 i _ (List.getElem?_eq_getElem hik)
   obtain ⟨u, hu', ru⟩ := r.get hb
   rw [List.getElem?_eq_getElem hi, ei] at hu'
   obtain rfl := Option.some.inj hu'
   obtain rfl := ru
   have rk' : Rep H (.ref b) (.tuple ((ks[i]).map .int)) := .tup hB Reps.ints
   obtain ⟨bs, zb⟩ := rk'.reads I.hok rfl
   have x := PySem.W.keq_at (A := X.A) zb za (shI ks[i]) (shI k) (by show X.A.units + 1 + 64 < cLine; omega)
   rw [eqvI] at x
   have eb : decide (∃ q, Value.ref b = .ref q /\ H q = some (.tup (k.map V.int))) = decide (ks[i] = k) := by
    apply decide_eq_decide.mpr
    constructor
    . rintro ⟨q', e, hQ'⟩
      injection e with e
      rw [<- e, hB] at hQ'
      injection hQ' with hQ'
      injection hQ' with hQ'
      exact ints_inj hQ'
    . intro hkk
      exact ⟨b, rfl,by rw [<- hkk]; exact hB⟩
   show EqAt _ _ _ _ (decide (∃ q, Value.ref b = .ref q /\ H q = some (.tup (k.map V.int))))
   rw [eb]
   exact x
 . refine ⟨.int ((ks.filter fun y => decide (y = k)).length : Nat), H, I.tok _,⟨s.toks, ?_⟩, q⟩
   rw [show its.toArray.toList = its from rfl,cntT tin r]
end
end L2
set_option Elab.async false
set_option linter.all false
set_option maxRecDepth 100000
namespace Be
open PySem L2
theorem ChIn.at {H : Hp} {ws : List V} {ks : List (List Int)} {f : List Int -> Nat × Nat} {i : Nat} {y : V} (x : ChIn H ws (ks.map fun k => (k, f k))) (hy : ws[i]? = some y) : ∃ k a b c, ks[i]? = some k /\ y = .ref a /\ H a = some (.tup [.ref b, .ref c]) /\ H b = some (.tup (k.map V.int)) /\ H c = some (.tup [.int ((f k).1 : Int), .int ((f k).2 : Int)]) := by
 have hi : i < ks.length := by have := x.1; rw [List.length_map] at this; rw [<- this]; exact (List.getElem?_eq_some_iff.mp hy).1
 obtain ⟨a, b, c, h1, h2, h3, h4⟩ := x.2 i ks[i] (f ks[i]).1 (f ks[i]).2 (by rw [List.getElem?_map, List.getElem?_eq_getElem hi]; rfl)
 rw [hy] at h1
 exact ⟨_,a, b, c, List.getElem?_eq_getElem hi, Option.some.inj h1, h2, h3, h4⟩
section
variable {P : Program} {w : World} {K : PySem.W.Frag} {mg : Str -> Option Value} {base : Heap}
def sp_law (K : PySem.W.Frag) : Sp := fun vs H Q _ => ∃ (a : Addr) (ns : List Int), vs = [.ref a] /\ Scr K H a ns /\ ∀ H', Q (.bl true) H'
set_option maxHeartbeats 4000000 in
theorem ok_law (T : Txt K mg) : FnOk P w K mg base (CXr P w) 9 T.law.a T.law.d ["_law_script"] (sp_law K) := by
 refine T.law.F.okN sc_law (fun vs H Q E h => ?_) (fun cdv A outer s H vs Q E hr h => ?_)
 . obtain ⟨a, ns, rfl,_⟩ := h; rfl
 obtain ⟨a, ns, rfl,hS, q⟩ := h
 have hu64 : (A.deeper (PyProof.Rows.envOfC "law" (defScope (top 58)) s.heap.objs.size T.law.a cdv)).units + 64 < cLine := by have := hr.un; omega
 have hu65 : (A.deeper (PyProof.Rows.envOfC "law" (defScope (top 58)) s.heap.objs.size T.law.a cdv)).units + 65 < cLine := by have := hr.un; omega
 refine ⟨_,(pss_cons (ps_set (i := 1) sc_law.nd rfl (by first|exact .inl rfl|exact .inr rfl) (pe_lst pa_nil)) (pss_cons (ps_set (i := 2) sc_law.nd rfl (by first|exact .inl rfl|exact .inr rfl) (pe_call (ok_law_world T) (hr.mono (by decide)) rfl T.law_world.m T.law_world.F.kp T.law_world.b .nil passN (pa_cons (pv 0) (pa_cons (pv 1) (pa_cons pe_int (pa_cons pe_int pa_nil)))))) (pss_cons (ps_compset (NB := ["_law_some_here", "_law_world_here"]) (js := [none, some 2]) (i := 3) sc_law.nd rfl (by first|exact .inl rfl|exact .inr rfl) rfl (blkOk_of rfl (by decide +kernel) rfl (by decide +kernel) (by decide +kernel) (by with_unfolding_all rfl) (by with_unfolding_all rfl) (by with_unfolding_all rfl) (by with_unfolding_all rfl)) (pi_list (pe_call (ok_law_all T) (hr.mono (by decide)) rfl T.law_all.m T.law_all.F.kp T.law_all.b .nil passN (pa_cons (pv 2) pa_nil))) (fun _ _ _ _ => (pg_name (i := 0) (show (["_law_some_here", "_law_world_here"] : List Str).Nodup by decide +kernel) rfl (by first|exact .inl rfl|exact .inr rfl))) (fun _ _ _ _ => pf_nil) (fun _ _ _ _ => (pe_call (G.ok_law_order T) (hr.mono (by decide)) rfl T.law_order.m T.law_order.F.kp T.law_order.b .nil passN (pa_cons (pv 1) (pa_cons (pv 0) pa_nil))))) (pss_cons (ps_set (i := 4) sc_law.nd rfl (by first|exact .inl rfl|exact .inr rfl) (pe_call (ok_chances T) (hr.mono (by decide)) rfl T.chances.m T.chances.F.kp T.chances.b .nil passN (pa_cons (pv 2) pa_nil))) (pss_cons (ps_if (PW.pt (pw_or (pt_cmpR (op_neD hu64) (pe_comp (NB := ["_law_order_here", "_law_share"]) (js := [none, none]) rfl (blkOk_of rfl (by decide +kernel) rfl (by decide +kernel) (by decide +kernel) (by with_unfolding_all rfl) (by with_unfolding_all rfl) (by with_unfolding_all rfl) (by with_unfolding_all rfl)) (pi_list (pv 4)) (fun _ _ _ _ => (b_pg_tup K (n := 2) rfl (pgs_cons (pg_name (i := 0) (show (["_law_order_here", "_law_share"] : List Str).Nodup by decide +kernel) rfl (by first|exact .inl rfl|exact .inr rfl)) (pgs_cons (pg_name (i := 1) (show (["_law_order_here", "_law_share"] : List Str).Nodup by decide +kernel) rfl (by first|exact .inl rfl|exact .inr rfl)) pgs_nil)))) (fun _ _ _ _ => pf_nil) (fun _ _ _ _ => (pv 0))) (pe_sortsetT rfl hu65 rfl T.n_sorted rfl T.n_set (pv 3)) (nomark _)) (pw_or1 (pt_cmpR op_ne (pe_call (ok_how_many_lengths T) (hr.mono (by decide)) rfl T.how_many_lengths.m T.how_many_lengths.F.kp T.how_many_lengths.b .nil passN (pa_cons (pv 2) pa_nil)) (pe_callB call_len_seq rfl T.n_len bt_len (pa_cons (pv 3) pa_nil)) (nomark _))))) (pss_one (ps_ret pe_bl)) pss_nil) (pss_cons (ps_for PassesOwn.never rfl (pi_list (pv 4)) (pg_tup rfl (pgs_cons (pg_name (i := 5) sc_law.nd rfl (by first|exact .inl rfl|exact .inr rfl)) (pgs_cons (pg_name (i := 6) sc_law.nd rfl (by first|exact .inl rfl|exact .inr rfl)) pgs_nil))) (pss_cons (ps_if (PW.pt (pw_or (pt_cmpR op_ne (pe_op op_mul (pe_ix ix_tup (pv 6) pe_int (fun _ _ => rfl)) (pe_callB call_len_seq rfl T.n_len bt_len (pa_cons (pv 3) pa_nil))) (pe_op op_mul (pe_ix ix_tup (pv 6) pe_int (fun _ _ => rfl)) (pe_bm PySem.F.plainAttrs_list PySem.F.slot_list_count PySem.F.type_list_count (mt_countT hu65) (pv 3) (pa_cons (pv 5) pa_nil))) (nomark _)) (pw_or1 (pt_not (pt_val (pe_call (ok_could T) (hr.mono (by decide)) rfl T.could.m T.could.F.kp T.could.b .nil passN (pa_cons (pv 2) (pa_cons (pv 5) pa_nil)))))))) (pss_one (ps_ret pe_bl)) pss_nil) (pss_one (ps_if (pt_cmpR (op_neD hu64) (pe_comp (NB := ["_law_by", "_law_share"]) (js := [none, some 6]) rfl (blkOk_of rfl (by decide +kernel) rfl (by decide +kernel) (by decide +kernel) (by with_unfolding_all rfl) (by with_unfolding_all rfl) (by with_unfolding_all rfl) (by with_unfolding_all rfl)) (pi_range2 rfl T.n_range (pa_cons pe_int (pa_cons (pe_op op_add (pe_ix ix_tup (pv 6) pe_int (fun _ _ => rfl)) pe_int) pa_nil))) (fun _ _ _ _ => (pg_name (i := 0) (show (["_law_by", "_law_share"] : List Str).Nodup by decide +kernel) rfl (by first|exact .inl rfl|exact .inr rfl))) (fun _ _ _ _ => (pf_one (PW.pt (pw_and (pt_cmpR op_eq (pe_op op_mod (pe_ix (b_ix_tup K) (pv 1) pe_int (fun _ _ => rfl)) (pv 0)) pe_int (nomark _)) (pw_and1 (pt_cmpR op_eq (pe_op op_mod (pe_ix (b_ix_tup K) (pv 1) pe_int (fun _ _ => rfl)) (pv 0)) pe_int (nomark _))))))) (fun _ _ _ _ => (pv 0))) (pe_lst pa_nil) (nomark _)) (pss_one (ps_ret pe_bl)) pss_nil)))) (pss_cons (ps_set (i := 7) sc_law.nd rfl (by first|exact .inl rfl|exact .inr rfl) (pe_tup (pa_cons (pe_ix ix_tup (pv 2) pe_int (fun _ _ => rfl)) (pa_cons (pe_op op_catT (pe_ix ix_tup (pv 2) pe_int (fun _ _ => rfl)) (pe_op op_repT (pe_tup (pa_cons (pe_tup (pa_cons pe_int (pa_cons pe_int pa_nil))) pa_nil)) pe_int)) pa_nil)))) (pss_one (ps_ret (pe_cmpR op_eq (pe_call (ok_how_many_lengths T) (hr.mono (by decide)) rfl T.how_many_lengths.m T.how_many_lengths.F.kp T.how_many_lengths.b .nil passN (pa_cons (pv 7) pa_nil)) (pe_op op_mul (pe_op op_mul (pe_op op_mul (pe_callB call_len_seq rfl T.n_len bt_len (pa_cons (pv 3) pa_nil)) pe_int) pe_int) pe_int) (nomark _))))))))))), ?_⟩
 refine ⟨Nat.zero_le _,fun t ht => ?_⟩
 have g1 := same_new ht (.lst [])
 have hS1 := hS.same g1
 have t1 : upd H t (.lst []) t = some (.lst (zeros 0)) := upd_same
 generalize upd H t (.lst []) = HA at *
 refine ⟨_,rfl,_,rfl,a, t, ns, 0, 4, 4, rfl,hS1, t1, by omega, by omega, by omega, by omega, by omega, fun W v n1 HB hok hwl hwd hW g2 t2 hn1 => ?_⟩
 have l1 := hok.l1
 have l10 := hok.l10
 have n256 := all_few hok hwl hwd
 have few := few4 hok hwl
 clear hS1 hS g1 g2 t1 t2 ht hn1
 refine ⟨_,rfl,v, W, rfl,hW, hok, all_le hok (by omega), fun la wa HC g3 fla hla rta => ?_⟩
 have wal := rta.1
 have hW3 := hW.mono g3
 refine ⟨la, rfl,⟨_,SqL.of hla⟩, fun D hD => ?_⟩
 refine comp_listR (K := K) (a := la) (xs := wa) (fun i ys H3 => Same HC H3 /\ H3 D = some (.lst ys) /\ RowsT H3 ys ((OF W).take i)) ⟨same_new hD _,upd_same, RowsT.nil⟩ (fun i ys H3 _ hP => SqL.of (hP.1 _ _ hla)) (fun i ys y H3 hy hP => ?_) (fun ys H3 hP => ?_)
 . obtain ⟨g4, hD4, ry⟩ := hP
   obtain ⟨ls, qr, hls, rfl,hqr⟩ := (rta.ts g4.ts).at hy
   have hin := inB_all (List.mem_of_getElem? hls)
   have h10 := hin.l10 hok
   have hO : (OF W)[i]? = some (ordF W ls) := by unfold OF; rw [List.getElem?_map, hls]; rfl
   have hi : i < wa.length := (List.getElem?_eq_some_iff.mp hy).1
   have yl := ry.1
   rw [List.length_take] at yl
   refine ⟨agree0, iteT ⟨_,rfl,_,rfl,v, qr, W, ls, rfl,hW3.mono g4, hok, hqr, hin, fun l ps H5 g5 pm pw hl => ?_⟩⟩
   rw [ordF_eq h10 pm pw] at hl
   have hD5 := g5 _ _ hD4
   refine ⟨hD5, Nat.lt_of_lt_of_le (show ys.length < 1000 by omega) (by decide), (g4.trans g5).write hD _,upd_same, ?_⟩
   rw [G.take_snoc hO]
   have ts := TSame.lst hD5 (.lst (ys ++ [.ref l]))
   exact (ry.ts (g5.ts.trans ts)).snoc (ts _ _ hl)
 obtain ⟨g4, hD4, rO⟩ := hP
 rw [wal, <- of_len, List.take_length] at rO
 have hW4 := hW3.mono g4
 generalize hys : ys = rw0 at *
 clear hla rta hW hW3 g3 g4 fla hD hys
 refine ⟨_,rfl,v, W, rfl,hW4, hok, by omega, few, fun lm wm ks HE gE flm nd mk pwk hlm ci => ?_⟩
 have hDE := gE _ _ hD4
 have rOE := rO.ts gE.ts
 have hWE := hW4.mono gE
 have kfew := few ks nd fun k hk => (mk k).mp hk
 have wml := ci.1
 rw [List.length_map] at wml
 clear hD4 rO hW4 gE flm
 refine ⟨_,rfl,lm, rfl,⟨_,SqL.of hlm⟩, fun D1 hD1 => ?_⟩
 refine comp_listR (K := K) (a := lm) (xs := wm) (fun i ys HR => Same HE HR /\ HR D1 = some (.lst ys) /\ RowsT HR ys (ks.take i)) ⟨same_new hD1 _,upd_same, RowsT.nil⟩ (fun i ys HR _ hP => SqL.of (hP.1 _ _ hlm)) (fun i ys y HR hy hP => ?_) (fun ys HR hP => ?_)
 . obtain ⟨gR, hDR, ry⟩ := hP
   obtain ⟨k, a', b', c', hk, rfl,ha, hb, hc⟩ := ChIn.at (ci.ts gR.ts) hy
   have yl := ry.1
   rw [List.length_take] at yl
   refine ⟨a', _,rfl,SqT.of ha, rfl,_,_,rfl,_,_,rfl,rfl,agree2, iteT ⟨_,rfl,hDR, Nat.lt_of_lt_of_le (show ys.length < 100 by omega) (by decide), gR.write hD1 _,upd_same, ?_⟩⟩
   rw [G.take_snoc hk]
   have ts := TSame.lst hDR (.lst (ys ++ [.ref b']))
   exact (ry.ts ts).snoc (ts _ _ hb)
 obtain ⟨gR, hD1R, r1'⟩ := hP
 rw [wml, List.take_length] at r1'
 have rOR := rOE.ts gR.ts
 refine ⟨_,rfl,D, _,W.bs.length, OF W, rfl,gR _ _ hDE, ⟨rOR.1, rOR.2⟩, fun k hk => of_rg hok hk, by rw [of_len]; omega, ⟨ks, kfew, fun k hk => (mk k).mpr hk⟩, fun l2 w2 k2 hl2 mk2 nd2 pw2 tin2 => ?_⟩
 obtain rfl : ks = k2 := uniqT (fun k hk => of_rg hok ((mk k).mp hk)) nd nd2 (fun k => (mk k).trans (mk2 k).symm) pwk pw2
 have k8 := same_new hl2 (.lst w2)
 have e8 : upd HR l2 (.lst w2) l2 = some (.lst w2) := upd_same
 have r2' : RowsT (upd HR l2 (.lst w2)) w2 ks := RowsT.ts ⟨tin2.1, tin2.2⟩ k8.ts
 generalize upd HR l2 (.lst w2) = HT at *
 refine ⟨_,_,.lst (k8 _ _ hD1R) (reps_rowsT (r1'.ts k8.ts)), .lst e8 (reps_rowsT r2'), sh_tr _,sh_tr _,_,rfl,if_f (by rw [SeqAt.eqv_refl _ (SeqAt.canLay_of_shaped (sh_tr _))]; rfl) ?_⟩
 have gT := gR.trans k8
 have hWT := hWE.mono gT
 have hDT := gT _ _ hDE
 have rl : rw0.length = (allL W.bs).length := by rw [rOE.1, of_len]
 refine ⟨_,rfl,v, W, rfl,hWT, hok, fun HU gU => ⟨_,rfl,D, _,rfl,.inl (SqL.of (gU _ _ hDT)), rfl,_,rfl,if_f (by rw [rl]; simp) ?_⟩⟩
 have gTU := gT.trans gU
 have hWU := hWE.mono gTU
 have hDU := gTU _ _ hDE
 have rOU := rOE.ts gTU.ts
 have ciU := ci.ts gTU.ts
 have hlmU := gTU _ _ hlm
 clear r1' r2' hD1R e8 k8 gR gU gT gTU hWT hDT hWE hDE rOE rOR ci hlm hD1 hl2 tin2 nd2 pw2 mk2
 refine ⟨_,rfl,lm, rfl,⟨_,SqL.of hlmU⟩, for_list (K := K) (a := lm) (xs := wm) (fun i σ H2 => ∃ (x5 x6 : Option V), σ = [some (.ref a), some (.ref t), some v, some (.ref D), some (.ref lm), x5, x6, none] /\ Same HU H2) ?_ ?_ ?_ ?_⟩
 . exact ⟨_,_,rfl,Same.refl _⟩
 . rintro i σ H2 _ ⟨x5, x6, rfl,g6⟩
   exact SqL.of (g6 _ _ hlmU)
 . rintro i y σ H2 hy ⟨x5, x6, rfl,g6⟩
   obtain ⟨k, a', b', c', hk, rfl,ha, hb, hc⟩ := ChIn.at (ciU.ts g6.ts) hy
   have hkO := (mk k).mp (List.mem_of_getElem? hk)
   refine ⟨a', _,rfl,SqT.of ha, rfl,_,_,rfl,_,_,rfl,rfl,?_⟩
   have c0 := hmn_pos hkO
   have c1 := hmn_le (OF W) k
   rw [of_len] at c1
   have shi := share_is (hmn (OF W) k) (allL W.bs).length
   have cp := fun d => cop (c := hmn (OF W) k) (n := (allL W.bs).length) (d := d) c0
   have d1 : hmn (OF W) k / Nat.gcd (hmn (OF W) k) (allL W.bs).length <= hmn (OF W) k := Nat.div_le_self _ _
   have d2 : (allL W.bs).length / Nat.gcd (hmn (OF W) k) (allL W.bs).length <= (allL W.bs).length := Nat.div_le_self _ _
   have hc' : H2 c' = some (.tup [.int ((hmn (OF W) k / Nat.gcd (hmn (OF W) k) (allL W.bs).length : Nat) : Int), .int (((allL W.bs).length / Nat.gcd (hmn (OF W) k) (allL W.bs).length : Nat) : Int)]) := hc
   have hrl : ((OF W).filter fun y => decide (y = k)).length = hmn (OF W) k := rfl
   generalize hmn (OF W) k / Nat.gcd (hmn (OF W) k) (allL W.bs).length = sa at *
   generalize (allL W.bs).length / Nat.gcd (hmn (OF W) k) (allL W.bs).length = sb at *
   have hD2 := g6 _ _ hDU
   have r2 := rOU.ts g6.ts
   obtain ⟨vo, he⟩ := ord_vo hok hkO
   have ee : ((sa : Nat) : Int) * ((rw0.length : Nat) : Int) = ((sb : Nat) : Int) * ((((OF W).filter fun y => decide (y = k)).length : Nat) : Int) := by
    rw [rl, hrl, <- Int.natCast_mul, <- Int.natCast_mul, shi, Nat.mul_comm]
   refine ⟨_,rfl,c', _,_,_,rfl,rfl,SqT.of hc', rfl,_,rfl,D, _,rfl,.inl (SqL.of hD2), _,_,rfl,rfl,.inl ⟨by omega, by omega⟩, _,rfl,c', _,_,_,rfl,rfl,SqT.of hc', rfl,_,rfl,?_,_,rfl,D, b', rw0, k, OF W, rfl,rfl,hb, hD2, ⟨r2.1, r2.2⟩, _,_,rfl,rfl,.inl ⟨by omega, by omega⟩, rfl,_,rfl,if_f ?_ ?_⟩
   . exact .inl ⟨rfl,_,SqL.of hD2⟩
   . show (!decide (V.int (((sa : Nat) : Int) * ((rw0.length : Nat) : Int)) = V.int (((sb : Nat) : Int) * ((((OF W).filter fun y => decide (y = k)).length : Nat) : Int)))) = false
     rw [ee]; simp
   refine ⟨_,rfl,_,rfl,v, .ref b', W, k, rfl,hWU.mono g6, hok, .tup hb Reps.ints, vo, fun H7 g7 => ⟨_,rfl,if_f (by rw [he]; rfl) ?_⟩⟩
   have hc7 := g7 _ _ hc'
   refine ⟨_,rfl,c', _,_,_,rfl,rfl,SqT.of hc7, rfl,_,_,rfl,rfl,2, _,rfl,⟨by omega, by omega, by omega, by omega⟩, fun D2 hD2' => ?_⟩
   refine comp_rangeR (lo := 2) (fun i ys H8 => Same H7 H8 /\ H8 D2 = some (.lst ys) /\ ys = []) ⟨same_new hD2' _,upd_same, rfl⟩ (fun i ys H8 hi hP => ?_) (fun ys H8 hP => ?_)
   . obtain ⟨g8, hD8, rfl⟩ := hP
     have hc8 := g8 _ _ hc7
     refine ⟨agree0, ⟨_,rfl,c', _,_,_,rfl,rfl,SqT.of hc8, rfl,_,rfl,_,_,rfl,rfl,(show (0 : Int) < 2 + (i : Int) by omega), rfl,_,rfl,?_⟩⟩
     have md : ∀ x : Nat, ((x : Nat) : Int) % (2 + (i : Int)) = ((x % (2 + i) : Nat) : Int) := fun x => by rw [show (2 + (i : Int)) = ((2 + i : Nat) : Int) by omega]; exact (Int.natCast_emod x (2 + i)).symm
     by_cases m1 : sa % (2 + i) = 0
     . have m2 : sb % (2 + i) ≠ 0 := fun z => cp (2 + i) (by omega) m1 z
       refine if_t ?_ ⟨_,rfl,c', _,_,_,rfl,rfl,SqT.of hc8, rfl,_,rfl,_,_,rfl,rfl,(show (0 : Int) < 2 + (i : Int) by omega), rfl,_,rfl,if_f ?_ ⟨g8, hD8, rfl⟩⟩
       . show decide (V.int (((sa : Nat) : Int) % (2 + (i : Int))) = V.int 0) = true
         rw [md, m1]; rfl
       . show decide (V.int (((sb : Nat) : Int) % (2 + (i : Int))) = V.int 0) = false
         rw [md]
         refine decide_eq_false fun z => ?_
         injection z with z
         omega
     . refine if_f ?_ (if_f rfl ⟨g8, hD8, rfl⟩)
       show decide (V.int (((sa : Nat) : Int) % (2 + (i : Int))) = V.int 0) = false
       rw [md]
       refine decide_eq_false fun z => ?_
       injection z with z
       omega
   obtain ⟨g8, hD8, rfl⟩ := hP
   refine ⟨Nat.zero_le _,fun p9 hp9 => ?_⟩
   have k9 := same_new hp9 (.lst [])
   refine ⟨_,_,.lst (k9 _ _ hD8) .nil, .lst upd_same .nil, by decide +kernel, by decide +kernel, _,rfl,if_f (by decide +kernel) ?_⟩
   exact ⟨_,_,rfl,g6.trans (g7.trans (g8.trans k9))⟩
 rintro σ H2 ⟨x5, x6, rfl,g6⟩
 have hW8 := hWU.mono g6
 have hD8 := g6 _ _ hDU
 obtain ⟨ca, us, rfl,hca, rs⟩ := hW8.tup_inv
 cases rs with
 | cons r1 rs =>
 cases rs with
 | cons r2 rs =>
 cases rs
 cases r1
 obtain ⟨cp, vs, rfl,hcp, rvs⟩ := r2.tup_inv
 refine ⟨_,rfl,ca, _,_,_,rfl,rfl,SqT.of hca, rfl,_,rfl,ca, _,_,_,rfl,rfl,SqT.of hca, rfl,by show 2 <= sizeLine; decide, fun p1 hp1 => ?_⟩
 have k1 := same_new hp1 (.tup [.int 1, .int 99])
 have e1 : upd H2 p1 (.tup [.int 1, .int 99]) p1 = some (.tup [.int 1, .int 99]) := upd_same
 generalize upd H2 p1 (.tup [.int 1, .int 99]) = J1 at *
 refine ⟨by show 1 <= sizeLine; decide, fun p2 hp2 => ?_⟩
 have k2 := same_new hp2 (.tup [.ref p1])
 have e2 : upd J1 p2 (.tup [.ref p1]) p2 = some (.tup [.ref p1]) := upd_same
 generalize upd J1 p2 (.tup [.ref p1]) = J2 at *
 refine ⟨p2, 3, _,rfl,rfl,e2, by simp, by omega, by omega, by show 1 * 3 <= sizeLine; decide, fun p3 hp3 => ?_⟩
 have k3 := same_new hp3 (.tup [.ref p1, .ref p1, .ref p1])
 have e3 : upd J2 p3 (.tup [.ref p1, .ref p1, .ref p1]) p3 = some (.tup [.ref p1, .ref p1, .ref p1]) := upd_same
 show rCatT _ (.ref cp) (.ref p3) (upd J2 p3 (.tup [.ref p1, .ref p1, .ref p1])) _
 generalize upd J2 p3 (.tup [.ref p1, .ref p1, .ref p1]) = J3 at *
 have k13 := k1.trans (k2.trans k3)
 have vl : vs.length = W.bs.length := by rw [rvs.length, List.length_map]
 refine ⟨cp, p3, vs, _,rfl,rfl,SqT.of (k13 _ _ hcp), SqT.of e3, (fun z => by rw [z] at vl; simp at vl; omega), (by show vs.length + 3 <= sizeLine; exact Nat.le_trans (show vs.length + 3 <= 100 by omega) (by decide)), (fun z => by cases z), fun _ p4 hp4 => ?_⟩
 have k4 := same_new hp4 (.tup (vs ++ [.ref p1, .ref p1, .ref p1]))
 have e4 : upd J3 p4 (.tup (vs ++ [.ref p1, .ref p1, .ref p1])) p4 = some (.tup (vs ++ [.ref p1, .ref p1, .ref p1])) := upd_same
 generalize upd J3 p4 (.tup (vs ++ [.ref p1, .ref p1, .ref p1])) = J4 at *
 refine ⟨by show 2 <= sizeLine; decide, fun p5 hp5 => ?_⟩
 have k5 := same_new hp5 (.tup [.int W.b, .ref p4])
 have e5 : upd J4 p5 (.tup [.int W.b, .ref p4]) p5 = some (.tup [.int W.b, .ref p4]) := upd_same
 generalize upd J4 p5 (.tup [.int W.b, .ref p4]) = J5 at *
 have k15 := k13.trans (k4.trans k5)
 have e15 := (k2.trans (k3.trans (k4.trans k5))) _ _ e1
 have one : Rep J5 (.ref p1) (encB (1, 99)) := .tup e15 (.cons (.int _) (.cons (.int _) .nil))
 have hWw : Rep J5 (.ref p5) (encW ⟨W.b, W.bs ++ [(1, 99), (1, 99), (1, 99)]⟩) := by
  refine .tup e5 (.cons (.int _) (.cons ?_ .nil))
  refine .tup (k5 _ _ e4) ?_
  rw [List.map_append]
  exact Reps.append (rvs.mono k15) (.cons one (.cons one (.cons one .nil)))
 refine ⟨_,rfl,.ref p5, _,rfl,hWw, ok_wide hok hwl, fun J6 g9 => ?_⟩
 refine ⟨_,rfl,D, _,rfl,.inl (SqL.of (g9 _ _ (k15 _ _ hD8))), _,_,rfl,rfl,.inr ⟨by decide, by decide⟩, _,_,rfl,rfl,.inr ⟨by decide, by decide⟩, _,_,rfl,rfl,.inr ⟨by decide, by decide⟩, rfl,?_⟩
 have ee : (((allL (W.bs ++ [(1, 99), (1, 99), (1, 99)])).length : Nat) : Int) = ((rw0.length : Nat) : Int) * 99 * 99 * 99 := by
  rw [all_wide, rl]
  simp only [Int.natCast_mul]
  rfl
 show Q (.bl (decide (V.int (((allL (W.bs ++ [(1, 99), (1, 99), (1, 99)])).length : Nat) : Int) = V.int (((rw0.length : Nat) : Int) * 99 * 99 * 99)))) _
 rw [ee, decide_eq_true rfl]
 exact q _
end
end Be
set_option Elab.async false
set_option linter.all false
set_option maxRecDepth 100000
namespace Be
open PySem L2
theorem ar1 {F : List Value -> Prop} (h : ∀ a, F [a]) : ∀ us, us.length = 1 -> F us
 | [a], _ => h a
theorem ar2 {F : List Value -> Prop} (h : ∀ a b, F [a, b]) : ∀ us, us.length = 2 -> F us
 | [a, b], _ => h a b
theorem ar3 {F : List Value -> Prop} (h : ∀ a b c, F [a, b, c]) : ∀ us, us.length = 3 -> F us
 | [a, b, c], _ => h a b c
theorem ar4 {F : List Value -> Prop} (h : ∀ a b c d, F [a, b, c, d]) : ∀ us, us.length = 4 -> F us
 | [a, b, c, d], _ => h a b c d
theorem ar5 {F : List Value -> Prop} (h : ∀ a b c d e, F [a, b, c, d, e]) : ∀ us, us.length = 5 -> F us
 | [a, b, c, d, e], _ => h a b c d e
theorem ar6 {F : List Value -> Prop} (h : ∀ a b c d e f, F [a, b, c, d, e, f]) : ∀ us, us.length = 6 -> F us
 | [a, b, c, d, e, f], _ => h a b c d e f
def def_mk {K : PySem.W.Frag} {h : Heap} {mg : Str -> Option Value} {x : Str} {st : Stmt} {ps : List Str} {f : Addr} {od an : Option Addr} {sl : Array (Option Value)} {oc kV dc pm cd ct : Value} (X : K.In h) (G : h.Ns mainGlobals mg) (a : PySem.W.nsIn K mainGlobals x = some (some (.ref f)))
    (l : K.lookup f = some ⟨oc, od, .func (PySem.W.fnOf x x (defArgs st) (defBody st) (defScope st) .none kV dc pm an cd ct), sl⟩) (c : PySem.W.codeIn K cd x = true) (k : PySem.W.keepIn K (.ref f) = true)
    (hb : ∀ (kV doc pm : Value) (an : Option Addr) (cdv ct : Value) (us : List Value), us.length = ps.length -> bindArgs (PySem.W.fnOf x x (defArgs st) (defBody st) (defScope st) .none kV doc pm an cdv ct) ⟨us, []⟩ = pure (ps.zip us)) : DefAt K mg x st ps :=
 ⟨f, _,fun_mk l c k, (fun_mk l c k).binds hb, PySem.W.mg_of X G a⟩
set_option maxHeartbeats 4000000 in
theorem txt_mk {K : PySem.W.Frag} {h : Heap} {mg : Str -> Option Value} (X : K.In h) (G : h.Ns mainGlobals mg)
    {f0 : Addr} {od0 an0 : Option Addr} {sl0 : Array (Option Value)} {oc0 kV0 dc0 pm0 cd0 ct0 : Value}
    {f1 : Addr} {od1 an1 : Option Addr} {sl1 : Array (Option Value)} {oc1 kV1 dc1 pm1 cd1 ct1 : Value}
    {f2 : Addr} {od2 an2 : Option Addr} {sl2 : Array (Option Value)} {oc2 kV2 dc2 pm2 cd2 ct2 : Value}
    {f3 : Addr} {od3 an3 : Option Addr} {sl3 : Array (Option Value)} {oc3 kV3 dc3 pm3 cd3 ct3 : Value}
    {f4 : Addr} {od4 an4 : Option Addr} {sl4 : Array (Option Value)} {oc4 kV4 dc4 pm4 cd4 ct4 : Value}
    {f5 : Addr} {od5 an5 : Option Addr} {sl5 : Array (Option Value)} {oc5 kV5 dc5 pm5 cd5 ct5 : Value}
    {f6 : Addr} {od6 an6 : Option Addr} {sl6 : Array (Option Value)} {oc6 kV6 dc6 pm6 cd6 ct6 : Value}
    {f7 : Addr} {od7 an7 : Option Addr} {sl7 : Array (Option Value)} {oc7 kV7 dc7 pm7 cd7 ct7 : Value}
    {f8 : Addr} {od8 an8 : Option Addr} {sl8 : Array (Option Value)} {oc8 kV8 dc8 pm8 cd8 ct8 : Value}
    {f9 : Addr} {od9 an9 : Option Addr} {sl9 : Array (Option Value)} {oc9 kV9 dc9 pm9 cd9 ct9 : Value}
    {f10 : Addr} {od10 an10 : Option Addr} {sl10 : Array (Option Value)} {oc10 kV10 dc10 pm10 cd10 ct10 : Value}
    {f11 : Addr} {od11 an11 : Option Addr} {sl11 : Array (Option Value)} {oc11 kV11 dc11 pm11 cd11 ct11 : Value}
    {f12 : Addr} {od12 an12 : Option Addr} {sl12 : Array (Option Value)} {oc12 kV12 dc12 pm12 cd12 ct12 : Value}
    {f13 : Addr} {od13 an13 : Option Addr} {sl13 : Array (Option Value)} {oc13 kV13 dc13 pm13 cd13 ct13 : Value}
    {f14 : Addr} {od14 an14 : Option Addr} {sl14 : Array (Option Value)} {oc14 kV14 dc14 pm14 cd14 ct14 : Value}
    {f15 : Addr} {od15 an15 : Option Addr} {sl15 : Array (Option Value)} {oc15 kV15 dc15 pm15 cd15 ct15 : Value}
    {f16 : Addr} {od16 an16 : Option Addr} {sl16 : Array (Option Value)} {oc16 kV16 dc16 pm16 cd16 ct16 : Value}
    {f17 : Addr} {od17 an17 : Option Addr} {sl17 : Array (Option Value)} {oc17 kV17 dc17 pm17 cd17 ct17 : Value}
    {f18 : Addr} {od18 an18 : Option Addr} {sl18 : Array (Option Value)} {oc18 kV18 dc18 pm18 cd18 ct18 : Value}
    {f19 : Addr} {od19 an19 : Option Addr} {sl19 : Array (Option Value)} {oc19 kV19 dc19 pm19 cd19 ct19 : Value}
    {f20 : Addr} {od20 an20 : Option Addr} {sl20 : Array (Option Value)} {oc20 kV20 dc20 pm20 cd20 ct20 : Value}
    {f21 : Addr} {od21 an21 : Option Addr} {sl21 : Array (Option Value)} {oc21 kV21 dc21 pm21 cd21 ct21 : Value}
    {f22 : Addr} {od22 an22 : Option Addr} {sl22 : Array (Option Value)} {oc22 kV22 dc22 pm22 cd22 ct22 : Value}
    {f23 : Addr} {od23 an23 : Option Addr} {sl23 : Array (Option Value)} {oc23 kV23 dc23 pm23 cd23 ct23 : Value}
    {f24 : Addr} {od24 an24 : Option Addr} {sl24 : Array (Option Value)} {oc24 kV24 dc24 pm24 cd24 ct24 : Value}
    {f25 : Addr} {od25 an25 : Option Addr} {sl25 : Array (Option Value)} {oc25 kV25 dc25 pm25 cd25 ct25 : Value}
    {f26 : Addr} {od26 an26 : Option Addr} {sl26 : Array (Option Value)} {oc26 kV26 dc26 pm26 cd26 ct26 : Value}
    {f27 : Addr} {od27 an27 : Option Addr} {sl27 : Array (Option Value)} {oc27 kV27 dc27 pm27 cd27 ct27 : Value}
    {f28 : Addr} {od28 an28 : Option Addr} {sl28 : Array (Option Value)} {oc28 kV28 dc28 pm28 cd28 ct28 : Value}
    {f29 : Addr} {od29 an29 : Option Addr} {sl29 : Array (Option Value)} {oc29 kV29 dc29 pm29 cd29 ct29 : Value}
    {f30 : Addr} {od30 an30 : Option Addr} {sl30 : Array (Option Value)} {oc30 kV30 dc30 pm30 cd30 ct30 : Value}
    {f31 : Addr} {od31 an31 : Option Addr} {sl31 : Array (Option Value)} {oc31 kV31 dc31 pm31 cd31 ct31 : Value}
    {f32 : Addr} {od32 an32 : Option Addr} {sl32 : Array (Option Value)} {oc32 kV32 dc32 pm32 cd32 ct32 : Value}
    {f33 : Addr} {od33 an33 : Option Addr} {sl33 : Array (Option Value)} {oc33 kV33 dc33 pm33 cd33 ct33 : Value}
    {f34 : Addr} {od34 an34 : Option Addr} {sl34 : Array (Option Value)} {oc34 kV34 dc34 pm34 cd34 ct34 : Value}
    {f35 : Addr} {od35 an35 : Option Addr} {sl35 : Array (Option Value)} {oc35 kV35 dc35 pm35 cd35 ct35 : Value}
    {f36 : Addr} {od36 an36 : Option Addr} {sl36 : Array (Option Value)} {oc36 kV36 dc36 pm36 cd36 ct36 : Value}
    {f37 : Addr} {od37 an37 : Option Addr} {sl37 : Array (Option Value)} {oc37 kV37 dc37 pm37 cd37 ct37 : Value}
    {f38 : Addr} {od38 an38 : Option Addr} {sl38 : Array (Option Value)} {oc38 kV38 dc38 pm38 cd38 ct38 : Value}
    {f39 : Addr} {od39 an39 : Option Addr} {sl39 : Array (Option Value)} {oc39 kV39 dc39 pm39 cd39 ct39 : Value}
    {f40 : Addr} {od40 an40 : Option Addr} {sl40 : Array (Option Value)} {oc40 kV40 dc40 pm40 cd40 ct40 : Value}
    {f41 : Addr} {od41 an41 : Option Addr} {sl41 : Array (Option Value)} {oc41 kV41 dc41 pm41 cd41 ct41 : Value}
    {t_MOST_BENCHES : Tok}
    {t_MOST_WORKS : Tok}
    {t_MOST_LENGTH : Tok}
    {t_MOST_LENGTHS_GONE_THROUGH : Tok}
    {C_NoWorld : Addr}
    {C_NoOrder : Addr}
    {C_NoLengths : Addr}
    {C_TooMany : Addr}
    (a0 : PySem.W.nsIn K mainGlobals "is_whole_within" = some (some (.ref f0)))
    (l0 : K.lookup f0 = some ⟨oc0, od0, .func (PySem.W.fnOf "is_whole_within" "is_whole_within" (defArgs (top 10)) (defBody (top 10)) (defScope (top 10)) .none kV0 dc0 pm0 an0 cd0 ct0), sl0⟩)
    (c0 : PySem.W.codeIn K cd0 "is_whole_within" = true)
    (k0 : PySem.W.keepIn K (.ref f0) = true)
    (a1 : PySem.W.nsIn K mainGlobals "is_pair" = some (some (.ref f1)))
    (l1 : K.lookup f1 = some ⟨oc1, od1, .func (PySem.W.fnOf "is_pair" "is_pair" (defArgs (top 11)) (defBody (top 11)) (defScope (top 11)) .none kV1 dc1 pm1 an1 cd1 ct1), sl1⟩)
    (c1 : PySem.W.codeIn K cd1 "is_pair" = true)
    (k1 : PySem.W.keepIn K (.ref f1) = true)
    (a2 : PySem.W.nsIn K mainGlobals "are_bounds_of_work" = some (some (.ref f2)))
    (l2 : K.lookup f2 = some ⟨oc2, od2, .func (PySem.W.fnOf "are_bounds_of_work" "are_bounds_of_work" (defArgs (top 12)) (defBody (top 12)) (defScope (top 12)) .none kV2 dc2 pm2 an2 cd2 ct2), sl2⟩)
    (c2 : PySem.W.codeIn K cd2 "are_bounds_of_work" = true)
    (k2 : PySem.W.keepIn K (.ref f2) = true)
    (a3 : PySem.W.nsIn K mainGlobals "are_bounds" = some (some (.ref f3)))
    (l3 : K.lookup f3 = some ⟨oc3, od3, .func (PySem.W.fnOf "are_bounds" "are_bounds" (defArgs (top 13)) (defBody (top 13)) (defScope (top 13)) .none kV3 dc3 pm3 an3 cd3 ct3), sl3⟩)
    (c3 : PySem.W.codeIn K cd3 "are_bounds" = true)
    (k3 : PySem.W.keepIn K (.ref f3) = true)
    (a4 : PySem.W.nsIn K mainGlobals "is_world" = some (some (.ref f4)))
    (l4 : K.lookup f4 = some ⟨oc4, od4, .func (PySem.W.fnOf "is_world" "is_world" (defArgs (top 14)) (defBody (top 14)) (defScope (top 14)) .none kV4 dc4 pm4 an4 cd4 ct4), sl4⟩)
    (c4 : PySem.W.codeIn K cd4 "is_world" = true)
    (k4 : PySem.W.keepIn K (.ref f4) = true)
    (a5 : PySem.W.nsIn K mainGlobals "check_world" = some (some (.ref f5)))
    (l5 : K.lookup f5 = some ⟨oc5, od5, .func (PySem.W.fnOf "check_world" "check_world" (defArgs (top 15)) (defBody (top 15)) (defScope (top 15)) .none kV5 dc5 pm5 an5 cd5 ct5), sl5⟩)
    (c5 : PySem.W.codeIn K cd5 "check_world" = true)
    (k5 : PySem.W.keepIn K (.ref f5) = true)
    (a6 : PySem.W.nsIn K mainGlobals "is_order" = some (some (.ref f6)))
    (l6 : K.lookup f6 = some ⟨oc6, od6, .func (PySem.W.fnOf "is_order" "is_order" (defArgs (top 16)) (defBody (top 16)) (defScope (top 16)) .none kV6 dc6 pm6 an6 cd6 ct6), sl6⟩)
    (c6 : PySem.W.codeIn K cd6 "is_order" = true)
    (k6 : PySem.W.keepIn K (.ref f6) = true)
    (a7 : PySem.W.nsIn K mainGlobals "check_order" = some (some (.ref f7)))
    (l7 : K.lookup f7 = some ⟨oc7, od7, .func (PySem.W.fnOf "check_order" "check_order" (defArgs (top 17)) (defBody (top 17)) (defScope (top 17)) .none kV7 dc7 pm7 an7 cd7 ct7), sl7⟩)
    (c7 : PySem.W.codeIn K cd7 "check_order" = true)
    (k7 : PySem.W.keepIn K (.ref f7) = true)
    (a8 : PySem.W.nsIn K mainGlobals "are_lengths" = some (some (.ref f8)))
    (l8 : K.lookup f8 = some ⟨oc8, od8, .func (PySem.W.fnOf "are_lengths" "are_lengths" (defArgs (top 18)) (defBody (top 18)) (defScope (top 18)) .none kV8 dc8 pm8 an8 cd8 ct8), sl8⟩)
    (c8 : PySem.W.codeIn K cd8 "are_lengths" = true)
    (k8 : PySem.W.keepIn K (.ref f8) = true)
    (a9 : PySem.W.nsIn K mainGlobals "check_lengths" = some (some (.ref f9)))
    (l9 : K.lookup f9 = some ⟨oc9, od9, .func (PySem.W.fnOf "check_lengths" "check_lengths" (defArgs (top 19)) (defBody (top 19)) (defScope (top 19)) .none kV9 dc9 pm9 an9 cd9 ct9), sl9⟩)
    (c9 : PySem.W.codeIn K cd9 "check_lengths" = true)
    (k9 : PySem.W.keepIn K (.ref f9) = true)
    (a10 : PySem.W.nsIn K mainGlobals "how_many_benches" = some (some (.ref f10)))
    (l10 : K.lookup f10 = some ⟨oc10, od10, .func (PySem.W.fnOf "how_many_benches" "how_many_benches" (defArgs (top 20)) (defBody (top 20)) (defScope (top 20)) .none kV10 dc10 pm10 an10 cd10 ct10), sl10⟩)
    (c10 : PySem.W.codeIn K cd10 "how_many_benches" = true)
    (k10 : PySem.W.keepIn K (.ref f10) = true)
    (a11 : PySem.W.nsIn K mainGlobals "how_many_works" = some (some (.ref f11)))
    (l11 : K.lookup f11 = some ⟨oc11, od11, .func (PySem.W.fnOf "how_many_works" "how_many_works" (defArgs (top 21)) (defBody (top 21)) (defScope (top 21)) .none kV11 dc11 pm11 an11 cd11 ct11), sl11⟩)
    (c11 : PySem.W.codeIn K cd11 "how_many_works" = true)
    (k11 : PySem.W.keepIn K (.ref f11) = true)
    (a12 : PySem.W.nsIn K mainGlobals "least_length" = some (some (.ref f12)))
    (l12 : K.lookup f12 = some ⟨oc12, od12, .func (PySem.W.fnOf "least_length" "least_length" (defArgs (top 22)) (defBody (top 22)) (defScope (top 22)) .none kV12 dc12 pm12 an12 cd12 ct12), sl12⟩)
    (c12 : PySem.W.codeIn K cd12 "least_length" = true)
    (k12 : PySem.W.keepIn K (.ref f12) = true)
    (a13 : PySem.W.nsIn K mainGlobals "greatest_length" = some (some (.ref f13)))
    (l13 : K.lookup f13 = some ⟨oc13, od13, .func (PySem.W.fnOf "greatest_length" "greatest_length" (defArgs (top 23)) (defBody (top 23)) (defScope (top 23)) .none kV13 dc13 pm13 an13 cd13 ct13), sl13⟩)
    (c13 : PySem.W.codeIn K cd13 "greatest_length" = true)
    (k13 : PySem.W.keepIn K (.ref f13) = true)
    (a14 : PySem.W.nsIn K mainGlobals "how_many_began" = some (some (.ref f14)))
    (l14 : K.lookup f14 = some ⟨oc14, od14, .func (PySem.W.fnOf "how_many_began" "how_many_began" (defArgs (top 24)) (defBody (top 24)) (defScope (top 24)) .none kV14 dc14 pm14 an14 cd14 ct14), sl14⟩)
    (c14 : PySem.W.codeIn K cd14 "how_many_began" = true)
    (k14 : PySem.W.keepIn K (.ref f14) = true)
    (a15 : PySem.W.nsIn K mainGlobals "running" = some (some (.ref f15)))
    (l15 : K.lookup f15 = some ⟨oc15, od15, .func (PySem.W.fnOf "running" "running" (defArgs (top 25)) (defBody (top 25)) (defScope (top 25)) .none kV15 dc15 pm15 an15 cd15 ct15), sl15⟩)
    (c15 : PySem.W.codeIn K cd15 "running" = true)
    (k15 : PySem.W.keepIn K (.ref f15) = true)
    (a16 : PySem.W.nsIn K mainGlobals "begin_event" = some (some (.ref f16)))
    (l16 : K.lookup f16 = some ⟨oc16, od16, .func (PySem.W.fnOf "begin_event" "begin_event" (defArgs (top 26)) (defBody (top 26)) (defScope (top 26)) .none kV16 dc16 pm16 an16 cd16 ct16), sl16⟩)
    (c16 : PySem.W.codeIn K cd16 "begin_event" = true)
    (k16 : PySem.W.keepIn K (.ref f16) = true)
    (a17 : PySem.W.nsIn K mainGlobals "rules_of_ended" = some (some (.ref f17)))
    (l17 : K.lookup f17 = some ⟨oc17, od17, .func (PySem.W.fnOf "rules_of_ended" "rules_of_ended" (defArgs (top 28)) (defBody (top 28)) (defScope (top 28)) .none kV17 dc17 pm17 an17 cd17 ct17), sl17⟩)
    (c17 : PySem.W.codeIn K cd17 "rules_of_ended" = true)
    (k17 : PySem.W.keepIn K (.ref f17) = true)
    (a18 : PySem.W.nsIn K mainGlobals "rule_of_running" = some (some (.ref f18)))
    (l18 : K.lookup f18 = some ⟨oc18, od18, .func (PySem.W.fnOf "rule_of_running" "rule_of_running" (defArgs (top 29)) (defBody (top 29)) (defScope (top 29)) .none kV18 dc18 pm18 an18 cd18 ct18), sl18⟩)
    (c18 : PySem.W.codeIn K cd18 "rule_of_running" = true)
    (k18 : PySem.W.keepIn K (.ref f18) = true)
    (a19 : PySem.W.nsIn K mainGlobals "rules" = some (some (.ref f19)))
    (l19 : K.lookup f19 = some ⟨oc19, od19, .func (PySem.W.fnOf "rules" "rules" (defArgs (top 30)) (defBody (top 30)) (defScope (top 30)) .none kV19 dc19 pm19 an19 cd19 ct19), sl19⟩)
    (c19 : PySem.W.codeIn K cd19 "rules" = true)
    (k19 : PySem.W.keepIn K (.ref f19) = true)
    (a20 : PySem.W.nsIn K mainGlobals "holds" = some (some (.ref f20)))
    (l20 : K.lookup f20 = some ⟨oc20, od20, .func (PySem.W.fnOf "holds" "holds" (defArgs (top 31)) (defBody (top 31)) (defScope (top 31)) .none kV20 dc20 pm20 an20 cd20 ct20), sl20⟩)
    (c20 : PySem.W.codeIn K cd20 "holds" = true)
    (k20 : PySem.W.keepIn K (.ref f20) = true)
    (a21 : PySem.W.nsIn K mainGlobals "shorten_walks" = some (some (.ref f21)))
    (l21 : K.lookup f21 = some ⟨oc21, od21, .func (PySem.W.fnOf "shorten_walks" "shorten_walks" (defArgs (top 32)) (defBody (top 32)) (defScope (top 32)) .none kV21 dc21 pm21 an21 cd21 ct21), sl21⟩)
    (c21 : PySem.W.codeIn K cd21 "shorten_walks" = true)
    (k21 : PySem.W.keepIn K (.ref f21) = true)
    (a22 : PySem.W.nsIn K mainGlobals "shortest_walks" = some (some (.ref f22)))
    (l22 : K.lookup f22 = some ⟨oc22, od22, .func (PySem.W.fnOf "shortest_walks" "shortest_walks" (defArgs (top 33)) (defBody (top 33)) (defScope (top 33)) .none kV22 dc22 pm22 an22 cd22 ct22), sl22⟩)
    (c22 : PySem.W.codeIn K cd22 "shortest_walks" = true)
    (k22 : PySem.W.keepIn K (.ref f22) = true)
    (a23 : PySem.W.nsIn K mainGlobals "earliest_moments" = some (some (.ref f23)))
    (l23 : K.lookup f23 = some ⟨oc23, od23, .func (PySem.W.fnOf "earliest_moments" "earliest_moments" (defArgs (top 35)) (defBody (top 35)) (defScope (top 35)) .none kV23 dc23 pm23 an23 cd23 ct23), sl23⟩)
    (c23 : PySem.W.codeIn K cd23 "earliest_moments" = true)
    (k23 : PySem.W.keepIn K (.ref f23) = true)
    (a24 : PySem.W.nsIn K mainGlobals "could" = some (some (.ref f24)))
    (l24 : K.lookup f24 = some ⟨oc24, od24, .func (PySem.W.fnOf "could" "could" (defArgs (top 36)) (defBody (top 36)) (defScope (top 36)) .none kV24 dc24 pm24 an24 cd24 ct24), sl24⟩)
    (c24 : PySem.W.codeIn K cd24 "could" = true)
    (k24 : PySem.W.keepIn K (.ref f24) = true)
    (a25 : PySem.W.nsIn K mainGlobals "taken_up" = some (some (.ref f25)))
    (l25 : K.lookup f25 = some ⟨oc25, od25, .func (PySem.W.fnOf "taken_up" "taken_up" (defArgs (top 38)) (defBody (top 38)) (defScope (top 38)) .none kV25 dc25 pm25 an25 cd25 ct25), sl25⟩)
    (c25 : PySem.W.codeIn K cd25 "taken_up" = true)
    (k25 : PySem.W.keepIn K (.ref f25) = true)
    (a26 : PySem.W.nsIn K mainGlobals "played" = some (some (.ref f26)))
    (l26 : K.lookup f26 = some ⟨oc26, od26, .func (PySem.W.fnOf "played" "played" (defArgs (top 39)) (defBody (top 39)) (defScope (top 39)) .none kV26 dc26 pm26 an26 cd26 ct26), sl26⟩)
    (c26 : PySem.W.codeIn K cd26 "played" = true)
    (k26 : PySem.W.keepIn K (.ref f26) = true)
    (a27 : PySem.W.nsIn K mainGlobals "how_many_lengths" = some (some (.ref f27)))
    (l27 : K.lookup f27 = some ⟨oc27, od27, .func (PySem.W.fnOf "how_many_lengths" "how_many_lengths" (defArgs (top 42)) (defBody (top 42)) (defScope (top 42)) .none kV27 dc27 pm27 an27 cd27 ct27), sl27⟩)
    (c27 : PySem.W.codeIn K cd27 "how_many_lengths" = true)
    (k27 : PySem.W.keepIn K (.ref f27) = true)
    (a28 : PySem.W.nsIn K mainGlobals "check_many" = some (some (.ref f28)))
    (l28 : K.lookup f28 = some ⟨oc28, od28, .func (PySem.W.fnOf "check_many" "check_many" (defArgs (top 43)) (defBody (top 43)) (defScope (top 43)) .none kV28 dc28 pm28 an28 cd28 ct28), sl28⟩)
    (c28 : PySem.W.codeIn K cd28 "check_many" = true)
    (k28 : PySem.W.keepIn K (.ref f28) = true)
    (a29 : PySem.W.nsIn K mainGlobals "all_lengths" = some (some (.ref f29)))
    (l29 : K.lookup f29 = some ⟨oc29, od29, .func (PySem.W.fnOf "all_lengths" "all_lengths" (defArgs (top 44)) (defBody (top 44)) (defScope (top 44)) .none kV29 dc29 pm29 an29 cd29 ct29), sl29⟩)
    (c29 : PySem.W.codeIn K cd29 "all_lengths" = true)
    (k29 : PySem.W.keepIn K (.ref f29) = true)
    (a30 : PySem.W.nsIn K mainGlobals "greatest_divisor" = some (some (.ref f30)))
    (l30 : K.lookup f30 = some ⟨oc30, od30, .func (PySem.W.fnOf "greatest_divisor" "greatest_divisor" (defArgs (top 45)) (defBody (top 45)) (defScope (top 45)) .none kV30 dc30 pm30 an30 cd30 ct30), sl30⟩)
    (c30 : PySem.W.codeIn K cd30 "greatest_divisor" = true)
    (k30 : PySem.W.keepIn K (.ref f30) = true)
    (a31 : PySem.W.nsIn K mainGlobals "share" = some (some (.ref f31)))
    (l31 : K.lookup f31 = some ⟨oc31, od31, .func (PySem.W.fnOf "share" "share" (defArgs (top 46)) (defBody (top 46)) (defScope (top 46)) .none kV31 dc31 pm31 an31 cd31 ct31), sl31⟩)
    (c31 : PySem.W.codeIn K cd31 "share" = true)
    (k31 : PySem.W.keepIn K (.ref f31) = true)
    (a32 : PySem.W.nsIn K mainGlobals "chances" = some (some (.ref f32)))
    (l32 : K.lookup f32 = some ⟨oc32, od32, .func (PySem.W.fnOf "chances" "chances" (defArgs (top 47)) (defBody (top 47)) (defScope (top 47)) .none kV32 dc32 pm32 an32 cd32 ct32), sl32⟩)
    (c32 : PySem.W.codeIn K cd32 "chances" = true)
    (k32 : PySem.W.keepIn K (.ref f32) = true)
    (a33 : PySem.W.nsIn K mainGlobals "_law_cell_at" = some (some (.ref f33)))
    (l33 : K.lookup f33 = some ⟨oc33, od33, .func (PySem.W.fnOf "_law_cell_at" "_law_cell_at" (defArgs (top 49)) (defBody (top 49)) (defScope (top 49)) .none kV33 dc33 pm33 an33 cd33 ct33), sl33⟩)
    (c33 : PySem.W.codeIn K cd33 "_law_cell_at" = true)
    (k33 : PySem.W.keepIn K (.ref f33) = true)
    (a34 : PySem.W.nsIn K mainGlobals "_law_mixed" = some (some (.ref f34)))
    (l34 : K.lookup f34 = some ⟨oc34, od34, .func (PySem.W.fnOf "_law_mixed" "_law_mixed" (defArgs (top 50)) (defBody (top 50)) (defScope (top 50)) .none kV34 dc34 pm34 an34 cd34 ct34), sl34⟩)
    (c34 : PySem.W.codeIn K cd34 "_law_mixed" = true)
    (k34 : PySem.W.keepIn K (.ref f34) = true)
    (a35 : PySem.W.nsIn K mainGlobals "_law_draw" = some (some (.ref f35)))
    (l35 : K.lookup f35 = some ⟨oc35, od35, .func (PySem.W.fnOf "_law_draw" "_law_draw" (defArgs (top 51)) (defBody (top 51)) (defScope (top 51)) .none kV35 dc35 pm35 an35 cd35 ct35), sl35⟩)
    (c35 : PySem.W.codeIn K cd35 "_law_draw" = true)
    (k35 : PySem.W.keepIn K (.ref f35) = true)
    (a36 : PySem.W.nsIn K mainGlobals "_law_pick" = some (some (.ref f36)))
    (l36 : K.lookup f36 = some ⟨oc36, od36, .func (PySem.W.fnOf "_law_pick" "_law_pick" (defArgs (top 52)) (defBody (top 52)) (defScope (top 52)) .none kV36 dc36 pm36 an36 cd36 ct36), sl36⟩)
    (c36 : PySem.W.codeIn K cd36 "_law_pick" = true)
    (k36 : PySem.W.keepIn K (.ref f36) = true)
    (a37 : PySem.W.nsIn K mainGlobals "_law_world" = some (some (.ref f37)))
    (l37 : K.lookup f37 = some ⟨oc37, od37, .func (PySem.W.fnOf "_law_world" "_law_world" (defArgs (top 53)) (defBody (top 53)) (defScope (top 53)) .none kV37 dc37 pm37 an37 cd37 ct37), sl37⟩)
    (c37 : PySem.W.codeIn K cd37 "_law_world" = true)
    (k37 : PySem.W.keepIn K (.ref f37) = true)
    (a38 : PySem.W.nsIn K mainGlobals "_law_ends" = some (some (.ref f38)))
    (l38 : K.lookup f38 = some ⟨oc38, od38, .func (PySem.W.fnOf "_law_ends" "_law_ends" (defArgs (top 55)) (defBody (top 55)) (defScope (top 55)) .none kV38 dc38 pm38 an38 cd38 ct38), sl38⟩)
    (c38 : PySem.W.codeIn K cd38 "_law_ends" = true)
    (k38 : PySem.W.keepIn K (.ref f38) = true)
    (a39 : PySem.W.nsIn K mainGlobals "_law_order" = some (some (.ref f39)))
    (l39 : K.lookup f39 = some ⟨oc39, od39, .func (PySem.W.fnOf "_law_order" "_law_order" (defArgs (top 56)) (defBody (top 56)) (defScope (top 56)) .none kV39 dc39 pm39 an39 cd39 ct39), sl39⟩)
    (c39 : PySem.W.codeIn K cd39 "_law_order" = true)
    (k39 : PySem.W.keepIn K (.ref f39) = true)
    (a40 : PySem.W.nsIn K mainGlobals "_law_all" = some (some (.ref f40)))
    (l40 : K.lookup f40 = some ⟨oc40, od40, .func (PySem.W.fnOf "_law_all" "_law_all" (defArgs (top 57)) (defBody (top 57)) (defScope (top 57)) .none kV40 dc40 pm40 an40 cd40 ct40), sl40⟩)
    (c40 : PySem.W.codeIn K cd40 "_law_all" = true)
    (k40 : PySem.W.keepIn K (.ref f40) = true)
    (a41 : PySem.W.nsIn K mainGlobals "law" = some (some (.ref f41)))
    (l41 : K.lookup f41 = some ⟨oc41, od41, .func (PySem.W.fnOf "law" "law" (defArgs (top 58)) (defBody (top 58)) (defScope (top 58)) .none kV41 dc41 pm41 an41 cd41 ct41), sl41⟩)
    (c41 : PySem.W.codeIn K cd41 "law" = true)
    (k41 : PySem.W.keepIn K (.ref f41) = true)
    (z_all : PySem.W.nsIn K mainGlobals "all" = some none)
    (z_bool : PySem.W.nsIn K mainGlobals "bool" = some none)
    (z_enumerate : PySem.W.nsIn K mainGlobals "enumerate" = some none)
    (z_int : PySem.W.nsIn K mainGlobals "int" = some none)
    (z_isinstance : PySem.W.nsIn K mainGlobals "isinstance" = some none)
    (z_len : PySem.W.nsIn K mainGlobals "len" = some none)
    (z_list : PySem.W.nsIn K mainGlobals "list" = some none)
    (z_max : PySem.W.nsIn K mainGlobals "max" = some none)
    (z_min : PySem.W.nsIn K mainGlobals "min" = some none)
    (z_range : PySem.W.nsIn K mainGlobals "range" = some none)
    (z_set : PySem.W.nsIn K mainGlobals "set" = some none)
    (z_sorted : PySem.W.nsIn K mainGlobals "sorted" = some none)
    (z_tuple : PySem.W.nsIn K mainGlobals "tuple" = some none)
    (z_zip : PySem.W.nsIn K mainGlobals "zip" = some none)
    (x_MOST_BENCHES : PySem.W.nsIn K mainGlobals "MOST_BENCHES" = some (some (.int 4 t_MOST_BENCHES)))
    (x_MOST_WORKS : PySem.W.nsIn K mainGlobals "MOST_WORKS" = some (some (.int 10 t_MOST_WORKS)))
    (x_MOST_LENGTH : PySem.W.nsIn K mainGlobals "MOST_LENGTH" = some (some (.int 99 t_MOST_LENGTH)))
    (x_MOST_LENGTHS_GONE_THROUGH : PySem.W.nsIn K mainGlobals "MOST_LENGTHS_GONE_THROUGH" = some (some (.int 600 t_MOST_LENGTHS_GONE_THROUGH)))
    (x_NoWorld : PySem.W.nsIn K mainGlobals "NoWorld" = some (some (.ref C_NoWorld)))
    (q_NoWorld : PySem.W.excIn K C_NoWorld [.type "ValueError", .type "Exception", .type "BaseException", .type "object"] "ValueError.__new__" = true)
    (x_NoOrder : PySem.W.nsIn K mainGlobals "NoOrder" = some (some (.ref C_NoOrder)))
    (q_NoOrder : PySem.W.excIn K C_NoOrder [.type "ValueError", .type "Exception", .type "BaseException", .type "object"] "ValueError.__new__" = true)
    (x_NoLengths : PySem.W.nsIn K mainGlobals "NoLengths" = some (some (.ref C_NoLengths)))
    (q_NoLengths : PySem.W.excIn K C_NoLengths [.type "ValueError", .type "Exception", .type "BaseException", .type "object"] "ValueError.__new__" = true)
    (x_TooMany : PySem.W.nsIn K mainGlobals "TooMany" = some (some (.ref C_TooMany)))
    (q_TooMany : PySem.W.excIn K C_TooMany [.type "ValueError", .type "Exception", .type "BaseException", .type "object"] "ValueError.__new__" = true) : Nonempty (Txt K mg) :=
 ⟨{ is_whole_within := def_mk X G a0 l0 c0 k0 (fun _ _ _ _ _ _ => ar3 fun _ _ _ => rfl),
    is_pair := def_mk X G a1 l1 c1 k1 (fun _ _ _ _ _ _ => ar1 fun _ => rfl),
    are_bounds_of_work := def_mk X G a2 l2 c2 k2 (fun _ _ _ _ _ _ => ar1 fun _ => rfl),
    are_bounds := def_mk X G a3 l3 c3 k3 (fun _ _ _ _ _ _ => ar1 fun _ => rfl),
    is_world := def_mk X G a4 l4 c4 k4 (fun _ _ _ _ _ _ => ar1 fun _ => rfl),
    check_world := def_mk X G a5 l5 c5 k5 (fun _ _ _ _ _ _ => ar1 fun _ => rfl),
    is_order := def_mk X G a6 l6 c6 k6 (fun _ _ _ _ _ _ => ar2 fun _ _ => rfl),
    check_order := def_mk X G a7 l7 c7 k7 (fun _ _ _ _ _ _ => ar2 fun _ _ => rfl),
    are_lengths := def_mk X G a8 l8 c8 k8 (fun _ _ _ _ _ _ => ar2 fun _ _ => rfl),
    check_lengths := def_mk X G a9 l9 c9 k9 (fun _ _ _ _ _ _ => ar2 fun _ _ => rfl),
    how_many_benches := def_mk X G a10 l10 c10 k10 (fun _ _ _ _ _ _ => ar1 fun _ => rfl),
    how_many_works := def_mk X G a11 l11 c11 k11 (fun _ _ _ _ _ _ => ar1 fun _ => rfl),
    least_length := def_mk X G a12 l12 c12 k12 (fun _ _ _ _ _ _ => ar2 fun _ _ => rfl),
    greatest_length := def_mk X G a13 l13 c13 k13 (fun _ _ _ _ _ _ => ar2 fun _ _ => rfl),
    how_many_began := def_mk X G a14 l14 c14 k14 (fun _ _ _ _ _ _ => ar2 fun _ _ => rfl),
    running := def_mk X G a15 l15 c15 k15 (fun _ _ _ _ _ _ => ar2 fun _ _ => rfl),
    begin_event := def_mk X G a16 l16 c16 k16 (fun _ _ _ _ _ _ => ar2 fun _ _ => rfl),
    rules_of_ended := def_mk X G a17 l17 c17 k17 (fun _ _ _ _ _ _ => ar3 fun _ _ _ => rfl),
    rule_of_running := def_mk X G a18 l18 c18 k18 (fun _ _ _ _ _ _ => ar3 fun _ _ _ => rfl),
    rules := def_mk X G a19 l19 c19 k19 (fun _ _ _ _ _ _ => ar2 fun _ _ => rfl),
    holds := def_mk X G a20 l20 c20 k20 (fun _ _ _ _ _ _ => ar2 fun _ _ => rfl),
    shorten_walks := def_mk X G a21 l21 c21 k21 (fun _ _ _ _ _ _ => ar3 fun _ _ _ => rfl),
    shortest_walks := def_mk X G a22 l22 c22 k22 (fun _ _ _ _ _ _ => ar3 fun _ _ _ => rfl),
    earliest_moments := def_mk X G a23 l23 c23 k23 (fun _ _ _ _ _ _ => ar2 fun _ _ => rfl),
    could := def_mk X G a24 l24 c24 k24 (fun _ _ _ _ _ _ => ar2 fun _ _ => rfl),
    taken_up := def_mk X G a25 l25 c25 k25 (fun _ _ _ _ _ _ => ar2 fun _ _ => rfl),
    played := def_mk X G a26 l26 c26 k26 (fun _ _ _ _ _ _ => ar2 fun _ _ => rfl),
    how_many_lengths := def_mk X G a27 l27 c27 k27 (fun _ _ _ _ _ _ => ar1 fun _ => rfl),
    check_many := def_mk X G a28 l28 c28 k28 (fun _ _ _ _ _ _ => ar1 fun _ => rfl),
    all_lengths := def_mk X G a29 l29 c29 k29 (fun _ _ _ _ _ _ => ar1 fun _ => rfl),
    greatest_divisor := def_mk X G a30 l30 c30 k30 (fun _ _ _ _ _ _ => ar2 fun _ _ => rfl),
    share := def_mk X G a31 l31 c31 k31 (fun _ _ _ _ _ _ => ar2 fun _ _ => rfl),
    chances := def_mk X G a32 l32 c32 k32 (fun _ _ _ _ _ _ => ar1 fun _ => rfl),
    law_cell_at := def_mk X G a33 l33 c33 k33 (fun _ _ _ _ _ _ => ar2 fun _ _ => rfl),
    law_mixed := def_mk X G a34 l34 c34 k34 (fun _ _ _ _ _ _ => ar3 fun _ _ _ => rfl),
    law_draw := def_mk X G a35 l35 c35 k35 (fun _ _ _ _ _ _ => ar3 fun _ _ _ => rfl),
    law_pick := def_mk X G a36 l36 c36 k36 (fun _ _ _ _ _ _ => ar3 fun _ _ _ => rfl),
    law_world := def_mk X G a37 l37 c37 k37 (fun _ _ _ _ _ _ => ar4 fun _ _ _ _ => rfl),
    law_ends := def_mk X G a38 l38 c38 k38 (fun _ _ _ _ _ _ => ar2 fun _ _ => rfl),
    law_order := def_mk X G a39 l39 c39 k39 (fun _ _ _ _ _ _ => ar2 fun _ _ => rfl),
    law_all := def_mk X G a40 l40 c40 k40 (fun _ _ _ _ _ _ => ar1 fun _ => rfl),
    law := def_mk X G a41 l41 c41 k41 (fun _ _ _ _ _ _ => ar1 fun _ => rfl),
    n_all := PySem.W.mg_none_of X G z_all,
    n_bool := PySem.W.mg_none_of X G z_bool,
    n_enumerate := PySem.W.mg_none_of X G z_enumerate,
    n_int := PySem.W.mg_none_of X G z_int,
    n_isinstance := PySem.W.mg_none_of X G z_isinstance,
    n_len := PySem.W.mg_none_of X G z_len,
    n_list := PySem.W.mg_none_of X G z_list,
    n_max := PySem.W.mg_none_of X G z_max,
    n_min := PySem.W.mg_none_of X G z_min,
    n_range := PySem.W.mg_none_of X G z_range,
    n_set := PySem.W.mg_none_of X G z_set,
    n_sorted := PySem.W.mg_none_of X G z_sorted,
    n_tuple := PySem.W.mg_none_of X G z_tuple,
    n_zip := PySem.W.mg_none_of X G z_zip,
    c_MOST_BENCHES := ⟨_,PySem.W.mg_of X G x_MOST_BENCHES⟩,
    c_MOST_WORKS := ⟨_,PySem.W.mg_of X G x_MOST_WORKS⟩,
    c_MOST_LENGTH := ⟨_,PySem.W.mg_of X G x_MOST_LENGTH⟩,
    c_MOST_LENGTHS_GONE_THROUGH := ⟨_,PySem.W.mg_of X G x_MOST_LENGTHS_GONE_THROUGH⟩,
    e_NoWorld := ⟨C_NoWorld, PySem.W.mg_of X G x_NoWorld, q_NoWorld⟩,
    e_NoOrder := ⟨C_NoOrder, PySem.W.mg_of X G x_NoOrder, q_NoOrder⟩,
    e_NoLengths := ⟨C_NoLengths, PySem.W.mg_of X G x_NoLengths, q_NoLengths⟩,
    e_TooMany := ⟨C_TooMany, PySem.W.mg_of X G x_TooMany, q_TooMany⟩ }⟩
theorem walk {l : PySem.W.OpenLaw} {q : Program} {loose : List Str} {XP : (Str -> Option Value) -> Heap -> Prop} {YP : World -> Heap -> Prop} {d : DefRec} {K : Params -> PySem.W.Frag} (hn : l.most = some 63) (hdf : d.params.defaults = [])
    (hY : ∀ (w : World) (h : Heap), YP w h -> (K w.params).In h) (hd : d.name = "law")
    (F : ∀ (w : World) (mg : Str -> Option Value) (h : Heap), (K w.params).In h -> h.Ns mainGlobals mg -> Nonempty (Txt (K w.params) mg)) :
    PySem.W.WalkO q loose XP YP l.row.toRowW d [] (fun f vs => PySem.call f vs) := by
 refine walk_of (l := l) (n := 63) (k := 9) (x := "_law_script") (K := K) (CX := fun w => CXr l.prog w) (sp := fun w => sp_law (K w.params)) hn (by decide) hdf ⟨rfl,by decide, by decide⟩ hY ?_ ?_ ?_
 . intro w mg fa h KX G hmg
   obtain ⟨T⟩ := F w mg h KX G
   rw [hd] at hmg
   have e : T.law.a = fa := by
    have z := T.law.m.symm.trans hmg
    injection z with z
    injection z
   subst e
   obtain ⟨oc, od, kV, doc, pm, an, cdv, ct, osl, ed, lk, hcd⟩ := T.law.F.ex
   refine ⟨T.law.d, fun s u => ?_,fun base _ _ => ok_law T⟩
   rw [ed]
   exact .of_eq rfl
 . intro w H a ns hl hO hS
   exact ⟨a, ns, rfl,Scr.of hS hO, fun _ => rfl⟩
 . intro w H s e s' h
   obtain ⟨_,_,_,_,_,_,_,z⟩ := h
   exact z
end Be
def PySem.W.Fast.tw16846297709945703352 : Unit := ()
def PySem.W.Fast.tw2100038057958741460 : Unit := ()
def PySem.W.Fast.tw284927042703973306 : Unit := ()
def PySem.W.Fast.tw3486580944490852510 : Unit := ()
def PySem.W.Fast.tw7007846721703752394 : Unit := ()
def PySem.W.Fast.tw3180567386770182256 : Unit := ()
def PySem.W.Fast.tw10770361537662288082 : Unit := ()
def PySem.W.Fast.tw4290340951348836727 : Unit := ()
def PySem.W.Fast.tw11448048310383647509 : Unit := ()
def PySem.W.Fast.tw4138803734291982398 : Unit := ()
def PySem.W.Fast.tw12974195221172447546 : Unit := ()
def PySem.W.Fast.tw14177805924924329350 : Unit := ()
def PySem.W.Fast.tw18223601003468761751 : Unit := ()
def PySem.W.Fast.tw15074908570034072605 : Unit := ()
def PySem.W.Fast.tw13895626512469297022 : Unit := ()
def PySem.W.Fast.tw1723479256082182744 : Unit := ()
def PySem.W.Fast.tw7267895159103069937 : Unit := ()
def PySem.W.Fast.tw10123490074596253378 : Unit := ()
def PySem.W.Fast.tw17402370595954692760 : Unit := ()
def PySem.W.Fast.tw8513990391729801110 : Unit := ()
def PySem.W.Fast.tw3361461086834816794 : Unit := ()
def PySem.W.Fast.tw10050524794389312059 : Unit := ()
def PySem.W.Fast.tw16215412162069673394 : Unit := ()
def PySem.W.Fast.tw9113994036914493239 : Unit := ()
def PySem.W.Fast.tw1794025168757577566 : Unit := ()
def PySem.W.Fast.tw1492104568320570410 : Unit := ()
def PySem.W.Fast.tw18311351098844679802 : Unit := ()
def PySem.W.Fast.tw596543398032710824 : Unit := ()
def PySem.W.Fast.tw15193973383825233717 : Unit := ()
def PySem.W.Fast.tw7936541056047018397 : Unit := ()
def PySem.W.Fast.tw10229435893544237591 : Unit := ()
def PySem.W.Fast.tw11737103490085641502 : Unit := ()
def PySem.W.Fast.tw17455392355653662436 : Unit := ()
def PySem.W.Fast.tw4752780002698902859 : Unit := ()
def PySem.W.Fast.tw7846848765918152947 : Unit := ()
def PySem.W.Fast.tw15246409168163101455 : Unit := ()
def PySem.W.Fast.tw10283398725195040061 : Unit := ()
def PySem.W.Fast.tw9561387057770729651 : Unit := ()
def PySem.W.Fast.tw12980860629478365405 : Unit := ()
def PySem.W.Fast.tw14370713690323995101 : Unit := ()
def PySem.W.Fast.tw755475811430458101 : Unit := ()
def PySem.W.Fast.tw2870449666583174502 : Unit := ()
def PySem.W.Fast.tw6155429076602608338 : Unit := ()
def PySem.W.Fast.tw13531037564493118987 : Unit := ()
def PySem.W.Fast.tw3331253586927061107 : Unit := ()
def PySem.W.Fast.tw1977492891376530484 : Unit := ()
def PySem.W.Fast.tw9403054292726680190 : Unit := ()
def PySem.W.Fast.tw13955440591848849125 : Unit := ()
def PySem.W.Fast.tw15161217847968895449 : Unit := ()
def PySem.W.Fast.tw1889011467811203466 : Unit := ()
def PySem.W.Fast.tw14838180242171321943 : Unit := ()
def PySem.W.Fast.tw16913264358856295689 : Unit := ()
def PySem.W.Fast.tw12926561279533761684 : Unit := ()
def PySem.W.Fast.tw16863907315256765451 : Unit := ()
def PySem.W.Fast.tw12014307588602715691 : Unit := ()
def PySem.W.Fast.tw766295068902334813 : Unit := ()
def PySem.W.Fast.tw12163856489503934818 : Unit := ()
def PySem.W.Fast.tw3598509678815480067 : Unit := ()
def PySem.W.Fast.tw10670993889270248884 : Unit := ()
def PySem.W.Fast.tw651169011197779474 : Unit := ()
def PySem.W.Fast.tw13264042344155129936 : Unit := ()
def PySem.W.Fast.tw17305841801732369937 : Unit := ()
def PySem.W.Fast.tw13156160356437742377 : Unit := ()
def PySem.W.Fast.tw1234936514959947561 : Unit := ()
def PySem.W.Fast.tw16817598914207904047 : Unit := ()
def PySem.W.Fast.tw17826627152274087098 : Unit := ()
open PySem PySem.W PyProof.Rows
set_option maxRecDepth 100000 in
set_option maxHeartbeats 0 in
theorem PySem.Challenge.cw_benchends_k29_whole_chances_holds : PySem.Challenge.rw_benchends_k29_whole_chances.Holds := by
 w_on; o_law; k_head; (case hw => w_witness2)
 k_fill
 refine Be.walk (l := PySem.Challenge.rw_benchends_k29_whole_chances) rfl rfl (fun w h Y => PySem.W.kIn_of Y) rfl ?F
 case F =>
  intro w mg h KX G
  refine' Be.txt_mk KX G ?a0 ?l0 ?c0 ?k0 ?a1 ?l1 ?c1 ?k1 ?a2 ?l2 ?c2 ?k2 ?a3 ?l3 ?c3 ?k3 ?a4 ?l4 ?c4 ?k4 ?a5 ?l5 ?c5 ?k5 ?a6 ?l6 ?c6 ?k6 ?a7 ?l7 ?c7 ?k7 ?a8 ?l8 ?c8 ?k8 ?a9 ?l9 ?c9 ?k9 ?a10 ?l10 ?c10 ?k10 ?a11 ?l11 ?c11 ?k11 ?a12 ?l12 ?c12 ?k12 ?a13 ?l13 ?c13 ?k13 ?a14 ?l14 ?c14 ?k14 ?a15 ?l15 ?c15 ?k15 ?a16 ?l16 ?c16 ?k16 ?a17 ?l17 ?c17 ?k17 ?a18 ?l18 ?c18 ?k18 ?a19 ?l19 ?c19 ?k19 ?a20 ?l20 ?c20 ?k20 ?a21 ?l21 ?c21 ?k21 ?a22 ?l22 ?c22 ?k22 ?a23 ?l23 ?c23 ?k23 ?a24 ?l24 ?c24 ?k24 ?a25 ?l25 ?c25 ?k25 ?a26 ?l26 ?c26 ?k26 ?a27 ?l27 ?c27 ?k27 ?a28 ?l28 ?c28 ?k28 ?a29 ?l29 ?c29 ?k29 ?a30 ?l30 ?c30 ?k30 ?a31 ?l31 ?c31 ?k31 ?a32 ?l32 ?c32 ?k32 ?a33 ?l33 ?c33 ?k33 ?a34 ?l34 ?c34 ?k34 ?a35 ?l35 ?c35 ?k35 ?a36 ?l36 ?c36 ?k36 ?a37 ?l37 ?c37 ?k37 ?a38 ?l38 ?c38 ?k38 ?a39 ?l39 ?c39 ?k39 ?a40 ?l40 ?c40 ?k40 ?a41 ?l41 ?c41 ?k41 ?z_all ?z_bool ?z_enumerate ?z_int ?z_isinstance ?z_len ?z_list ?z_max ?z_min ?z_range ?z_set ?z_sorted ?z_tuple ?z_zip ?x_MOST_BENCHES ?x_MOST_WORKS ?x_MOST_LENGTH ?x_MOST_LENGTHS_GONE_THROUGH ?x_NoWorld ?q_NoWorld ?x_NoOrder ?q_NoOrder ?x_NoLengths ?q_NoLengths ?x_TooMany ?q_TooMany
  (case a0 => k_is)
  (case l0 => k_is)
  (case c0 => k_is)
  (case k0 => k_is)
  (case a1 => k_is)
  (case l1 => k_is)
  (case c1 => k_is)
  (case k1 => k_is)
  (case a2 => k_is)
  (case l2 => k_is)
  (case c2 => k_is)
  (case k2 => k_is)
  (case a3 => k_is)
  (case l3 => k_is)
  (case c3 => k_is)
  (case k3 => k_is)
  (case a4 => k_is)
  (case l4 => k_is)
  (case c4 => k_is)
  (case k4 => k_is)
  (case a5 => k_is)
  (case l5 => k_is)
  (case c5 => k_is)
  (case k5 => k_is)
  (case a6 => k_is)
  (case l6 => k_is)
  (case c6 => k_is)
  (case k6 => k_is)
  (case a7 => k_is)
  (case l7 => k_is)
  (case c7 => k_is)
  (case k7 => k_is)
  (case a8 => k_is)
  (case l8 => k_is)
  (case c8 => k_is)
  (case k8 => k_is)
  (case a9 => k_is)
  (case l9 => k_is)
  (case c9 => k_is)
  (case k9 => k_is)
  (case a10 => k_is)
  (case l10 => k_is)
  (case c10 => k_is)
  (case k10 => k_is)
  (case a11 => k_is)
  (case l11 => k_is)
  (case c11 => k_is)
  (case k11 => k_is)
  (case a12 => k_is)
  (case l12 => k_is)
  (case c12 => k_is)
  (case k12 => k_is)
  (case a13 => k_is)
  (case l13 => k_is)
  (case c13 => k_is)
  (case k13 => k_is)
  (case a14 => k_is)
  (case l14 => k_is)
  (case c14 => k_is)
  (case k14 => k_is)
  (case a15 => k_is)
  (case l15 => k_is)
  (case c15 => k_is)
  (case k15 => k_is)
  (case a16 => k_is)
  (case l16 => k_is)
  (case c16 => k_is)
  (case k16 => k_is)
  (case a17 => k_is)
  (case l17 => k_is)
  (case c17 => k_is)
  (case k17 => k_is)
  (case a18 => k_is)
  (case l18 => k_is)
  (case c18 => k_is)
  (case k18 => k_is)
  (case a19 => k_is)
  (case l19 => k_is)
  (case c19 => k_is)
  (case k19 => k_is)
  (case a20 => k_is)
  (case l20 => k_is)
  (case c20 => k_is)
  (case k20 => k_is)
  (case a21 => k_is)
  (case l21 => k_is)
  (case c21 => k_is)
  (case k21 => k_is)
  (case a22 => k_is)
  (case l22 => k_is)
  (case c22 => k_is)
  (case k22 => k_is)
  (case a23 => k_is)
  (case l23 => k_is)
  (case c23 => k_is)
  (case k23 => k_is)
  (case a24 => k_is)
  (case l24 => k_is)
  (case c24 => k_is)
  (case k24 => k_is)
  (case a25 => k_is)
  (case l25 => k_is)
  (case c25 => k_is)
  (case k25 => k_is)
  (case a26 => k_is)
  (case l26 => k_is)
  (case c26 => k_is)
  (case k26 => k_is)
  (case a27 => k_is)
  (case l27 => k_is)
  (case c27 => k_is)
  (case k27 => k_is)
  (case a28 => k_is)
  (case l28 => k_is)
  (case c28 => k_is)
  (case k28 => k_is)
  (case a29 => k_is)
  (case l29 => k_is)
  (case c29 => k_is)
  (case k29 => k_is)
  (case a30 => k_is)
  (case l30 => k_is)
  (case c30 => k_is)
  (case k30 => k_is)
  (case a31 => k_is)
  (case l31 => k_is)
  (case c31 => k_is)
  (case k31 => k_is)
  (case a32 => k_is)
  (case l32 => k_is)
  (case c32 => k_is)
  (case k32 => k_is)
  (case a33 => k_is)
  (case l33 => k_is)
  (case c33 => k_is)
  (case k33 => k_is)
  (case a34 => k_is)
  (case l34 => k_is)
  (case c34 => k_is)
  (case k34 => k_is)
  (case a35 => k_is)
  (case l35 => k_is)
  (case c35 => k_is)
  (case k35 => k_is)
  (case a36 => k_is)
  (case l36 => k_is)
  (case c36 => k_is)
  (case k36 => k_is)
  (case a37 => k_is)
  (case l37 => k_is)
  (case c37 => k_is)
  (case k37 => k_is)
  (case a38 => k_is)
  (case l38 => k_is)
  (case c38 => k_is)
  (case k38 => k_is)
  (case a39 => k_is)
  (case l39 => k_is)
  (case c39 => k_is)
  (case k39 => k_is)
  (case a40 => k_is)
  (case l40 => k_is)
  (case c40 => k_is)
  (case k40 => k_is)
  (case a41 => k_is)
  (case l41 => k_is)
  (case c41 => k_is)
  (case k41 => k_is)
  (case z_all => k_is)
  (case z_bool => k_is)
  (case z_enumerate => k_is)
  (case z_int => k_is)
  (case z_isinstance => k_is)
  (case z_len => k_is)
  (case z_list => k_is)
  (case z_max => k_is)
  (case z_min => k_is)
  (case z_range => k_is)
  (case z_set => k_is)
  (case z_sorted => k_is)
  (case z_tuple => k_is)
  (case z_zip => k_is)
  (case x_MOST_BENCHES => k_is)
  (case x_MOST_WORKS => k_is)
  (case x_MOST_LENGTH => k_is)
  (case x_MOST_LENGTHS_GONE_THROUGH => k_is)
  (case x_NoWorld => k_is)
  (case q_NoWorld => k_exc)
  (case x_NoOrder => k_is)
  (case q_NoOrder => k_exc)
  (case x_NoLengths => k_is)
  (case q_NoLengths => k_exc)
  (case x_TooMany => k_is)
  (case q_TooMany => k_exc)
