import PyProof.Rows.All
import Wide.All
import OpenK.AllK
import Wide.FinOn
import Lean
import PyProof.EqAt
import PyProof.EqKinds
import PyProof.TupleCall
import PyProof.Rows.EqDataRows
import PyProof.ConsumeWalk
import PyProof.ZipIter
import KE.RegKIsAll
import PyProof.Rows.MinMaxN
import PyProof.SumWalk
import KE.KTupSum
import PyProof.Rows.SortWalk
import PyProof.CompUse
import KE.KSortTup
import PyProof.TupleKey
import PyProof.FactsAll.tuple
import PyProof.DictKinds
import PyProof.ListMulRoad
import PyProof.CallStr
import KE.KRevSl
import PyProof.EnumMake
import PyProof.Rows.SortRuns
import PyProof.ListRange
import PyProof.DictWalks
import PyProof.CollectIter
import PySem.SetTable
import PySem.SetOps
import PyProof.SetScanFacts
import KE.KEqDict
import PyProof.Cells
import KE.KDictOf
import PyProof.AttrMissHeap
import PyProof.WalksS
import PySem.Challenge.RW_benchends_k36_whole_played_and_told
theorem C7:type_of% @List.getElem?_eq_getElem:=@List.getElem?_eq_getElem
theorem C8:type_of% @PySem.wpAny_bind:=@PySem.wpAny_bind
theorem C9:type_of% @List.getD_eq_getElem?_getD:=@List.getD_eq_getElem?_getD
theorem Da:type_of% @List.length_map:=@List.length_map
theorem Db:type_of% @List.getElem?_eq_some_iff:=@List.getElem?_eq_some_iff
theorem Dc:type_of% @Array.length_toList:=@Array.length_toList
theorem Dd:type_of% @PySem.Heap.get?_push_of_some:=@PySem.Heap.get?_push_of_some
theorem De:type_of% @Array.getElem?_eq_getElem:=@Array.getElem?_eq_getElem
theorem Df:type_of% @PySem.wpAny_pure:=@PySem.wpAny_pure
theorem Dg:type_of% @Option.some.inj:=@Option.some.inj
theorem Dh:type_of% @Nat.le_refl:=@Nat.le_refl
theorem Di:type_of% @List.getElem?_map:=@List.getElem?_map
theorem Dj:type_of% @List.mem_of_getElem?:=@List.mem_of_getElem?
theorem Dk:type_of% @List.mem_cons_of_mem:=@List.mem_cons_of_mem
theorem Dm:type_of% @List.length_append:=@List.length_append
theorem Dn:type_of% @Bool.false_ne_true:=@Bool.false_ne_true
theorem Do:type_of% @Nat.lt_of_lt_of_le:=@Nat.lt_of_lt_of_le
theorem Dp:type_of% @PySem.Heap.lt_size:=@PySem.Heap.lt_size
theorem Dq:type_of% @Array.getElem?_toList:=@Array.getElem?_toList
theorem Dr:type_of% @PyProof.Rows.wpS_bind:=@PyProof.Rows.wpS_bind
theorem Ds:type_of% @PySem.Heap.get?_push_size:=@PySem.Heap.get?_push_size
theorem Du:type_of% @List.size_toArray:=@List.size_toArray
theorem Dv:type_of% @List.length_take:=@List.length_take
theorem Dw:type_of% @decide_eq_false:=@decide_eq_false
theorem Dx:type_of% @List.mem_cons_self:=@List.mem_cons_self
theorem Dy:type_of% @PyProof.Rows.wpS_pure:=@PyProof.Rows.wpS_pure
theorem Dz:type_of% @Int.toNat_natCast:=@Int.toNat_natCast
theorem DA:type_of% @List.take_of_length_le:=@List.take_of_length_le
theorem DB:type_of% @Classical.byContradiction:=@Classical.byContradiction
theorem DC:type_of% @Nat.ne_of_lt:=@Nat.ne_of_lt
theorem DD:type_of% @Nat.zero_le:=@Nat.zero_le
theorem DE:type_of% @List.take_length:=@List.take_length
theorem DF:type_of% @List.length_cons:=@List.length_cons
theorem DG:type_of% @List.mem_iff_getElem:=@List.mem_iff_getElem
theorem DH:type_of% @List.getElem?_append_right:=@List.getElem?_append_right
theorem DI:type_of% @List.mem_cons:=@List.mem_cons
theorem DJ:type_of% @Bool.false_eq_true:=@Bool.false_eq_true
theorem DK:type_of% @Int.le_refl:=@Int.le_refl
theorem DL:type_of% @List.getElem?_append_left:=@List.getElem?_append_left
theorem DM:type_of% @List.mem_map:=@List.mem_map
theorem DN:type_of% @List.mem_append:=@List.mem_append
theorem DO:type_of% @List.getElem?_eq_none:=@List.getElem?_eq_none
theorem DP:type_of% @Nat.le_trans:=@Nat.le_trans
theorem DQ:type_of% @List.mem_range:=@List.mem_range
theorem DR:type_of% @List.map_append:=@List.map_append
theorem DS:type_of% @List.map_cons:=@List.map_cons
theorem DT:type_of% @List.mem_append_right:=@List.mem_append_right
theorem DU:type_of% @List.length_drop:=@List.length_drop
theorem DV:type_of% @List.append_assoc:=@List.append_assoc
theorem DX:type_of% @List.getElem_mem:=@List.getElem_mem
theorem DY:type_of% @PySem.W.mg_none_of:=@PySem.W.mg_none_of
theorem DZ:type_of% @List.length_range:=@List.length_range
theorem D0:type_of% @Bool.and_eq_true:=@Bool.and_eq_true
theorem D1:type_of% @PySem.wpAny_callSpecial?_slot:=@PySem.wpAny_callSpecial?_slot
theorem D4:type_of% @List.length_replicate:=@List.length_replicate
theorem D5:type_of% @List.mem_singleton:=@List.mem_singleton
theorem D6:type_of% @Array.toList_append:=@Array.toList_append
theorem D7:type_of% @List.append_nil:=@List.append_nil
theorem D8:type_of% @PySem.wpAny_call_entry:=@PySem.wpAny_call_entry
theorem D9:type_of% @List.getElem?_take_of_lt:=@List.getElem?_take_of_lt
theorem Ea:type_of% @PySem.PassesOwn.never:=@PySem.PassesOwn.never
theorem Eb:type_of% @Int.le_trans:=@Int.le_trans
theorem Ec:type_of% @Array.getElem_mem_toList:=@Array.getElem_mem_toList
theorem Ed:type_of% @PySem.wpAny_newObj_type:=@PySem.wpAny_newObj_type
theorem Ee:type_of% @congrArg:=@congrArg
theorem Ef:type_of% @List.length_set:=@List.length_set
theorem Eg:type_of% @List.pairwise_append:=@List.pairwise_append
theorem Eh:type_of% @List.mem_of_mem_take:=@List.mem_of_mem_take
theorem Ei:type_of% @Array.getD_eq_getD_getElem?:=@Array.getD_eq_getD_getElem?
theorem Ej:type_of% @PyProof.Rows.slot_tuple_getitem:=@PyProof.Rows.slot_tuple_getitem
theorem Ek:type_of% @List.take_append_drop:=@List.take_append_drop
theorem El:type_of% @PyProof.Rows.wpS_forRange:=@PyProof.Rows.wpS_forRange
theorem Em:type_of% @PySem.Heap.SameBut.update:=@PySem.Heap.SameBut.update
theorem En:type_of% @List.not_mem_nil:=@List.not_mem_nil
theorem Eo:type_of% @PySem.wpAny_holding:=@PySem.wpAny_holding
theorem Ep:type_of% @List.take_add_one:=@List.take_add_one
theorem Er:type_of% @List.ext_getElem?:=@List.ext_getElem?
theorem Es:type_of% @if_false:=@if_false
theorem Et:type_of% @PySem.Heap.size_push:=@PySem.Heap.size_push
theorem Eu:type_of% @PySem.wpAny_field:=@PySem.wpAny_field
theorem Ev:type_of% @List.getElem?_toArray:=@List.getElem?_toArray
theorem Ew:type_of% @PyProof.Rows.callWith_type1:=@PyProof.Rows.callWith_type1
theorem Ex:type_of% @PySem.F.plainAttrs_list:=@PySem.F.plainAttrs_list
theorem Ey:type_of% @List.mem_of_mem_drop:=@List.mem_of_mem_drop
theorem Ez:type_of% @Array.perm_iff_toList_perm:=@Array.perm_iff_toList_perm
theorem EA:type_of% @PySem.W.kia_one:=@PySem.W.kia_one
theorem EB:type_of% @List.nodup_cons:=@List.nodup_cons
theorem EC:type_of% @List.pairwise_iff_getElem:=@List.pairwise_iff_getElem
set_option genSizeOf false
set_option Elab.async false
set_option linter.all false
set_option maxRecDepth 100000
namespace L2
open PySem PySem.Spec PyProof.Rows
abbrev Key:=Sum Int Str
def qj:Key->Value->Bool
 | .inl k,v=>Value.isInt k v
 | .inr x,v=>Value.isStrOf x v
def CP (w:World):Key->Int
 | .inl k=>hashInt k
 | .inr x=>hashStr w x
theorem br:∀ {k:Key} {v:Value},qj k v=true->(∃ i t,k=Sum.inl i/\v=Value.int i t)\/(∃ x t,k=Sum.inr x/\v=Value.str x t)
 | .inl i,v,h=>by
  obtain ⟨t,e⟩:=Value.isInt_shape (k:=i) (v:=v) h
  exact .inl ⟨i,t,rfl,e⟩
 | .inr x,v,h=>by
  obtain ⟨t,e⟩:=Value.isStrOf_shape (x:=x) (v:=v) h
  exact .inr ⟨x,t,rfl,e⟩
theorem tz (i:Int) (t:Tok):qj (.inl i) (.int i t)=true:=by simp [qj,Value.isInt]
theorem tw (x:Str) (t:Tok):qj (.inr x) (.str x t)=true:=by simp [qj,Value.isStrOf]
theorem Ar (a b:Int):decide ((Sum.inl a:Key)=Sum.inl b)=(a==b):=by
 by_cases e:a=b
 . subst e;simp
 . have h:¬ (Sum.inl a:Key)=Sum.inl b:=fun q=>e (Sum.inl.inj q)
   rw [Dw h]
   exact (beq_eq_false_iff_ne.mpr e).symm
theorem Ao (a b:Str):decide ((Sum.inr a:Key)=Sum.inr b)=decide (a=b):=by
 by_cases e:a=b
 . subst e;simp
 . have h:¬ (Sum.inr a:Key)=Sum.inr b:=fun q=>e (Sum.inr.inj q)
   rw [Dw h,Dw e]
theorem Aq (a:Int) (b:Str):decide ((Sum.inl a:Key)=Sum.inr b)=false:=Dw (fun q=>nomatch q)
theorem Ap (a:Str) (b:Int):decide ((Sum.inr a:Key)=Sum.inl b)=false:=Dw (fun q=>nomatch q)
def bx (prog:Program) (w:World):PySem.KeyKind prog w Key where
 is:=qj
 hash:=CP w
 inj:=fun v a b ha hb=>by
  rcases br ha with ⟨i,t,rfl,rfl⟩ | ⟨x,t,rfl,rfl⟩
  . rcases br hb with ⟨j,u,rfl,e⟩ | ⟨y,u,rfl,e⟩
    . injection e with e1 _;rw [e1]
    . exact nomatch e
  . rcases br hb with ⟨j,u,rfl,e⟩ | ⟨y,u,rfl,e⟩
    . exact nomatch e
    . injection e with e1 _;rw [e1]
 byValue:=fun k v h=>by
  rcases br h with ⟨i,t,rfl,rfl⟩ | ⟨x,t,rfl,rfl⟩<;>rfl
 pyHash:=fun hv h=>by
  rcases br hv with ⟨i,t,rfl,rfl⟩ | ⟨x,t,rfl,rfl⟩
  . exact wpAny_pyHash_int h
  . exact wpAny_pyHash_str h
 eqBool:=fun hu hv h=>by
  rcases br hu with ⟨i,t,rfl,rfl⟩ | ⟨x,t,rfl,rfl⟩
  . rcases br hv with ⟨j,u,rfl,rfl⟩ | ⟨y,u,rfl,rfl⟩
    . rw [Ar] at h;exact wpAny_eqBool_int h
    . rw [Aq] at h;exact SeqAt.EqAt.int_str i t y u _ _ _ _ h
  . rcases br hv with ⟨j,u,rfl,rfl⟩ | ⟨y,u,rfl,rfl⟩
    . rw [Ap] at h;exact SeqAt.EqAt.str_int x t j u _ _ _ _ h
    . rw [Ao] at h;exact wpAny_eqBool_str h
 «strs»:=fun k x t v h=>by
  rcases br h with ⟨i,u,rfl,e⟩ | ⟨y,u,rfl,e⟩
  . exact nomatch e
  . injection e with e1 _
    subst e1
    cases v<;>rfl
theorem nJ (prog:Program) (w:World) (i:Int) (t:Tok):(bx prog w).is (.inl i) (.int i t)=true:=tz i t
theorem nI (prog:Program) (w:World) (x:Str) (t:Tok):(bx prog w).is (.inr x) (.str x t)=true:=tw x t
end L2
namespace L2
open PySem PySem.Spec PyProof.Rows
inductive V where
 | non | bl (b:Bool) | int (i:Int) | str (x:Str) | byt (b:Array UInt8) | flt (b:UInt64) | ref (a:Addr) | ty (n:String)
 deriving DecidableEq
def bB:V->Value->Prop
 | .non,u=>u=Value.none
 | .bl b,u=>u=Value.bool b
 | .int i,u=>∃ t,u=Value.int i t
 | .str x,u=>∃ t,u=Value.str x t
 | .byt b,u=>∃ t,u=Value.bytes b t
 | .flt b,u=>∃ t,u=Value.float b t
 | .ref a,u=>u=Value.ref a
 | .ty n,u=>u=Value.type n
abbrev ba:List V->List Value->Prop:=Paired bB
theorem ba.length {xs:List V} {us:List Value} (r:ba xs us):xs.length=us.length:=Paired.length r
theorem ba.get:∀ {xs:List V} {us:List Value} {i:Nat} {x:V},ba xs us->xs[i]? =some x->∃ u,us[i]? =some u/\bB x u
 | _,_,_,_,.nil,e=>by simp at e
 | _,_,0,_,.cons r _,e=>by simp at e;subst e;exact ⟨_,rfl,r⟩
 | _,_,i+1,x,.cons _ t,e=>by
  obtain ⟨u,h1,h2⟩:=ba.get (i:=i) (x:=x) t (by simpa using e)
  exact ⟨u,by simpa using h1,h2⟩
theorem ba.set {x:V} {u:Value} (r:bB x u):∀ {xs:List V} {us:List Value} (i:Nat),ba xs us->ba (xs.set i x) (us.set i u)
 | _,_,_,.nil=>.nil
 | _,_,0,.cons _ t=>.cons r t
 | _,_,i+1,.cons q t=>.cons q (ba.set r i t)
theorem ba.append:∀ {xs ys:List V} {us ws:List Value},ba xs us->ba ys ws->ba (xs++ys) (us++ws)
 | _,_,_,_,.nil,s=>s
 | _,_,_,_,.cons r t,s=>.cons r (ba.append t s)
theorem ba.take:∀ {xs:List V} {us:List Value} (n:Nat),ba xs us->ba (xs.take n) (us.take n)
 | _,_,0,_=>.nil
 | _,_,_+1,.nil=>.nil
 | _,_,n+1,.cons r t=>.cons r (ba.take n t)
theorem ba.drop:∀ {xs:List V} {us:List Value} (n:Nat),ba xs us->ba (xs.drop n) (us.drop n)
 | _,_,0,r=>r
 | _,_,_+1,.nil=>.nil
 | _,_,n+1,.cons _ t=>ba.drop n t
def qK:Option V->Option Value->Prop
 | some v,some u=>bB v u
 | none,none=>True
 | _,_=>False
def KV {κ:Type}:List (κ×V)->List (κ×Value)->Prop:=Paired fun (p:κ×V) (q:κ×Value)=>p.1=q.1/\bB p.2 q.2
def kV:Key->V
 | .inl i=>.int i
 | .inr x=>.str x
inductive HO where
 | lst (xs:List V)
 | tup (xs:List V)
 | dK (kvs:List (Key×V)) | dT (kvs:List (List Key×V))
 | set (S:Int->Bool) (n:Nat)
 | ins (C dx:Addr) (fs:List (Str×V))
 | own (x:Addr)
 | xd (fs:List (Str×V))
 | met (f x:Addr)
 | rng (lo hi:Int)
 | frz (o:Obj) (u:HO)
 | tbl (ps:Array Value)
 | ext (φ:Heap->Prop)
abbrev Hp:=Addr->Option HO
def upd (H:Hp) (a:Addr) (o:HO):Hp:=fun b=>if b=a then some o else H b
theorem ah {H:Hp} {a:Addr} {o:HO}:upd H a o a=some o:=by unfold upd;rw [if_pos rfl]
theorem aA {H:Hp} {a b:Addr} {o:HO} (h:b≠a):upd H a o b=H b:=by unfold upd;rw [if_neg h]
theorem nG {H:Hp} {a b:Addr} {o u:HO} (h:H a=some o) (h':H b=some u) (d:o≠u):a≠b:=by
 intro e;subst e;rw [h] at h';exact d (Dg h')
theorem aZ {H:Hp} {a b:Addr} {o:HO} (h:H a=some o) (h':H b=none):a≠b:=by
 intro e;subst e;rw [h] at h';cases h'
section
variable (P:Program) (w:World)
def xc (h:Heap) (a:Addr) (items:Array Value):Prop:=∃ o,h.get? a=some o/\o.cls=.type "tuple"/\o.dict=none/\∃ n,o.data=.seq items n
theorem xc.t {h:Heap} {a:Addr} {items:Array Value} (p:xc h a items):IsTup h a items:=let ⟨o,e,c,_,n,d⟩:=p;⟨o,e,c,n,d⟩
theorem xc.new (h:Heap) (items:Array Value):xc (h.push { cls:=.type "tuple",data:=.seq items }) h.objs.size items:=⟨_,Ds _ rfl,rfl,rfl,0,rfl⟩
def bC (H:Hp) (h:Heap) (a:Addr):HO->Prop
 | .lst xs=>xs.length<=sizeLine/\∃ (its:List Value) (n:Nat),ba xs its/\h.get? a=some { cls:=.type "list",data:=.seq its.toArray n }
 | .tup xs=>xs.length<=sizeLine/\∃ its:List Value,ba xs its/\xc h a its.toArray
 | .dK kvs=>kvs.length<=sizeLine/\(a==sysModules)=false/\∃ vs,KV kvs vs/\h.DictOf (bx P w) a vs
 | .dT kvs=>kvs.length<=sizeLine/\(a==sysModules)=false/\∃ xs:List (List Key×Addr×Value),
     Paired (fun (p:List Key×V) (q:List Key×Addr×Value)=>p.1=q.1/\H q.2.1=some (.tup (p.1.map kV))/\bB p.2 q.2.2) kvs xs/\
     ∃ o es ep,h.get? a=some o/\o.ExactDict/\o.data=.dict es ep/\es.toList=xs.map (entryOfKey (tupleKind (bx P w)))/\(xs.map (·.1)).Nodup
 | .set S n=>h.SetOf (intKind P w) a S n
 | .ins C dx fs=>H dx=some (.own a)/\fs.length<=1000/\dx≠a/\h.get? a=some (PySem.W.instObj C dx)/\
     ∃ mA,h.Ns1 dx mA/\(∀ f,qK (fs.lookup f) (mA f))/\PySem.Within mA (fs.map (·.1))
 | .own _=>∃ o,h.get? a=some o
 | .xd fs=>∃ mA,h.Ns1 a mA/\∀ f,qK (fs.lookup f) (mA f)
 | .rng lo hi=>∃ t u v,h.get? a=some { cls:=.type "range",data:=.fields #[.int lo t,.int hi u,.int 1 v] }
 | .frz o u=>h.get? a=some o/\bC H h a u
 | .tbl ps=>h.get? a=some { cls:=.none,data:=.fields ps }
 | .met f x=>h.get? a=some (PySem.W.methodObj (.ref f) (.ref x))
 | .ext φ=>φ h/\(∃ o,h.get? a=some o)/\∀ h1 h2:Heap,φ h1->(∀ o,h1.get? a=some o->h2.get? a=some o)->φ h2
def HOk (H:Hp) (h:Heap):Prop:=∀ a o,H a=some o->bC P w H h a o
end
section
variable {P:Program} {w:World} {H H':Hp} {h h':Heap} {a:Addr} {o:HO}
theorem bC.lt (x:bC P w H h a o):a<h.objs.size:=by
 cases o with
 | lst xs=>obtain ⟨_,_,_,_,e⟩:=x;exact Dp e
 | tup xs=>obtain ⟨_,_,_,p⟩:=x;exact p.t.lt
 | dK kvs=>obtain ⟨_,_,_,_,o,_,_,e,_⟩:=x;exact Dp e
 | dT kvs=>obtain ⟨_,_,_,_,o,_,_,e,_⟩:=x;exact Dp e
 | set S n=>obtain ⟨o,_,_,_,e,_⟩:=x;exact Dp e
 | ins C dx fs=>obtain ⟨_,_,_,e,_⟩:=x;exact Dp e
 | own y=>obtain ⟨_,e⟩:=x;exact Dp e
 | xd fs=>obtain ⟨_,⟨_,_,_,e,_⟩,_⟩:=x;exact Dp e
 | rng lo hi=>obtain ⟨_,_,_,e⟩:=x;exact Dp e
 | frz ob u=>obtain ⟨e,_⟩:=x;exact Dp e
 | tbl ps=>exact Dp (show h.get? a=some _ from x)
 | met f y=>exact Dp (show h.get? a=some _ from x)
 | ext φ=>obtain ⟨_,⟨_,e⟩,_⟩:=x;exact Dp e
theorem Paired.mapP {α β:Type} {F G:α->β->Prop}:∀ {l₁:List α} {l₂:List β},Paired F l₁ l₂->(∀ a b,F a b->G a b)->Paired G l₁ l₂
 | _,_,.nil,_=>.nil
 | _,_,.cons r t,f=>.cons (f _ _ r) (Paired.mapP t f)
theorem bC.stay (x:bC P w H h a o) (k:∀ b u,(b=a\/H b=some (.own a))->h.get? b=some u->h'.get? b=some u)
    (ho:∀ b,H b=some (.own a)->H' b=some (.own a)) (ht:∀ b xs,H b=some (.tup xs)->H' b=some (.tup xs)):bC P w H' h' a o:=by
 induction o with
 | lst xs=>obtain ⟨z,its,n,r,e⟩:=x;exact ⟨z,its,n,r,k _ _ (.inl rfl) e⟩
 | tup xs=>obtain ⟨z,its,r,ob,e,c⟩:=x;exact ⟨z,its,r,ob,k _ _ (.inl rfl) e,c⟩
 | dK kvs=>obtain ⟨z,y,vs,r,ob,es,ep,e,c⟩:=x;exact ⟨z,y,vs,r,ob,es,ep,k _ _ (.inl rfl) e,c⟩
 | dT kvs=>
  obtain ⟨z,y,xs,r,ob,es,ep,e,c⟩:=x
  exact ⟨z,y,xs,Paired.mapP r fun p q z=>⟨z.1,ht _ _ z.2.1,z.2.2⟩,ob,es,ep,k _ _ (.inl rfl) e,c⟩
 | set S n=>obtain ⟨ob,es,ep,t,e,c⟩:=x;exact ⟨ob,es,ep,t,k _ _ (.inl rfl) e,c⟩
 | ins C dx fs=>
  obtain ⟨d,z,ne,e,mA,⟨od,es,ep,e2,c⟩,r⟩:=x
  exact ⟨ho _ d,z,ne,k _ _ (.inl rfl) e,mA,⟨od,es,ep,k _ _ (.inr d) e2,c⟩,r⟩
 | own y=>obtain ⟨ob,e⟩:=x;exact ⟨ob,k _ _ (.inl rfl) e⟩
 | xd fs=>obtain ⟨mA,⟨od,es,ep,e,c⟩,r⟩:=x;exact ⟨mA,⟨od,es,ep,k _ _ (.inl rfl) e,c⟩,r⟩
 | rng lo hi=>obtain ⟨t,u,v,e⟩:=x;exact ⟨t,u,v,k _ _ (.inl rfl) e⟩
 | frz ob u ih=>obtain ⟨e,q⟩:=x;exact ⟨k _ _ (.inl rfl) e,ih q⟩
 | tbl ps=>
  have e:h.get? a=some { cls:=.none,data:=.fields ps }:=x
  show h'.get? a=some { cls:=.none,data:=.fields ps }
  exact k a _ (.inl rfl) e
 | met f y=>
  have e:h.get? a=some (PySem.W.methodObj (.ref f) (.ref y)):=x
  show h'.get? a=some (PySem.W.methodObj (.ref f) (.ref y))
  exact k a _ (.inl rfl) e
 | ext φ=>obtain ⟨p,⟨o,e⟩,st⟩:=x;exact ⟨st _ _ p fun o q=>k _ _ (.inl rfl) q,⟨o,k _ _ (.inl rfl) e⟩,st⟩
theorem HOk.lt (x:HOk P w H h) (e:H a=some o):a<h.objs.size:=(x a o e).lt
theorem HOk.fresh (x:HOk P w H h) (e:h.objs.size<=a):H a=none:=by
 cases q:H a with
 | none=>rfl
 | some u=>exact absurd (Do (x.lt q) e) (Nat.lt_irrefl _)
theorem HOk.kept (x:HOk P w H h) (k:∀ b u,h.get? b=some u->h'.get? b=some u):HOk P w H h':=fun a o e=>
 (x a o e).stay (fun b u _ q=>k b u q) (fun _ q=>q) fun _ _ q=>q
theorem HOk.laid (x:HOk P w H h) (k:∀ b u,h.get? b=some u->h'.get? b=some u) (hp:h.objs.size<=a) (new:bC P w (upd H a o) h' a o):HOk P w (upd H a o) h':=fun b u e=>by
 have hn:=x.fresh hp
 by_cases hb:b=a
 . subst hb;rw [ah] at e;cases e;exact new
 . rw [aA hb] at e
   exact (x b u e).stay (fun c v _ q=>k c v q) (fun c q=>by rw [aA (aZ q hn)];exact q) fun c xs q=>by rw [aA (aZ q hn)];exact q
end
def Rd (H:Hp) (a:Addr) (u:HO):Prop:=H a=some u\/∃ o,H a=some (.frz o u)
theorem Rd.ok {P:Program} {w:World} {H:Hp} {h:Heap} {a:Addr} {u:HO} (r:Rd H a u) (x:HOk P w H h):bC P w H h a u:=by
 rcases r with r | ⟨o,r⟩
 . exact x a u r
 . obtain ⟨_,q⟩:=x a _ r
   exact q
def Mut:Option HO->Prop
 | some (.lst _)=>True
 | some (.dK _)=>True
 | some (.dT _)=>True
 | some (.set _ _)=>True
 | some (.ins _ _ _)=>True
 | some (.ext _)=>True
 | _=>False
section
variable {P:Program} {w:World} {H:Hp} {h h':Heap} {x e:Addr} {o':HO}
theorem HOk.write (ok:HOk P w H h) (mu:Mut (H x)) (he:e=x\/H e=some (.own x)) (k:∀ b u,b≠e->h.get? b=some u->h'.get? b=some u) (heo:∃ u,h'.get? e=some u)
    (new:bC P w (upd H x o') h' x o'):HOk P w (upd H x o') h':=fun b u q=>by
 have nown:∀ c y,H c=some (.own y)->c≠x:=fun c y r z=>by subst z;rw [r] at mu;exact mu
 have ntup:∀ c xs,H c=some (.tup xs)->c≠x:=fun c xs r z=>by subst z;rw [r] at mu;exact mu
 by_cases hb:b=x
 . subst hb;rw [ah] at q;cases q;exact new
 . rw [aA hb] at q
   by_cases hbe:b=e
   . have q':H b=some (.own x):=by
       rcases he with z | z
       . exact absurd (hbe.trans z) hb
       . rw [hbe];exact z
     rw [q] at q';cases q'
     obtain ⟨v,hv⟩:=heo
     exact ⟨v,by rw [hbe];exact hv⟩
   . refine (ok b u q).stay (fun c v hc r=>k c v ?_ r) (fun c r=>by rw [aA (nown c b r)];exact r) fun c xs r=>by rw [aA (ntup c xs r)];exact r
     rcases hc with rfl | hc
     . exact hbe
     . rintro rfl
       rcases he with z | z
       . exact nown c b hc z
       . rw [hc] at z;cases z;exact hb rfl
end
structure Un (fs ex:List Addr) (H H':Hp) (h h':Heap):Prop where
 keep:∀ b o,h.get? b=some o->H b=none->b∉fs->b∉ex->h'.get? b=some o
 slot:∀ b o,h.get? b=some o->H b=none->b∈fs->b∉ex->∃ sl,h'.get? b=some { o with slots:=sl }
 free:∀ b o,h.get? b=some o->H b=none->b∉ex->H' b=none
 there:∀ b o,h.get? b=some o->b∉ex->∃ o',h'.get? b=some o'
 tups:∀ b xs,H b=some (.tup xs)->H' b=some (.tup xs)
 frzs:∀ b o u,H b=some (.frz o u)->H' b=some (.frz o u)
 tbls:∀ b ps,H b=some (.tbl ps)->∃ more,H' b=some (.tbl (ps++more))
section
variable {fs fs' ex ex':List Addr} {H H1 H2:Hp} {h h1 h2 h':Heap} {a x e:Addr} {o:HO}
theorem Un.any (u:Un fs ex H H1 h h1) {b:Addr} {ob:Obj} (q:h.get? b=some ob) (n:H b=none) (hx:b∉ex):∃ sl,h1.get? b=some { ob with slots:=sl }:=by
 by_cases hb:b∈fs
 . exact u.slot b ob q n hb hx
 . exact ⟨ob.slots,u.keep b ob q n hb hx⟩
theorem Un.kept (k:∀ b u,h.get? b=some u->h'.get? b=some u):Un fs ex H H h h':=
 ⟨fun b ob q _ _ _=>k b ob q,fun b ob q _ _ _=>⟨ob.slots,k b ob q⟩,fun _ _ _ n _=>n,fun b ob q _=>⟨ob,k b ob q⟩,fun _ _ q=>q,fun _ _ _ q=>q,fun _ ps q=>⟨#[],by rw [q];simp⟩⟩
theorem Un.refl:Un fs ex H H h h:=Un.kept fun _ _ q=>q
theorem Un.laid (k:∀ b u,h.get? b=some u->h'.get? b=some u) (hp:h.objs.size<=a) (hn:H a=none):Un fs ex H (upd H a o) h h' where
 keep:=fun b u q _ _ _=>k b u q
 slot:=fun b u q _ _ _=>⟨u.slots,k b u q⟩
 free:=fun b u q n _=>by rw [aA (DC (Do (Dp q) hp))];exact n
 there:=fun b u q _=>⟨u,k b u q⟩
 tups:=fun b xs q=>by rw [aA (aZ q hn)];exact q
 frzs:=fun b u xs q=>by rw [aA (aZ q hn)];exact q
 tbls:=fun b ps q=>⟨#[],by rw [aA (aZ q hn),q];simp⟩
theorem Un.write (mu:Mut (H x)) (he:e=x\/H e=some (.own x)) (k:∀ b u,b≠e->h.get? b=some u->h'.get? b=some u) (heo:∃ u,h'.get? e=some u):Un fs ex H (upd H x o) h h':=by
 have hx:∀ b,H b=none->b≠x:=fun b n z=>by subst z;rw [n] at mu;exact mu
 have hb:∀ b,H b=none->b≠e:=fun b n z=>by
  subst z
  rcases he with r | r
  . exact hx b n r
  . rw [n] at r;cases r
 have hm:∀ b u,H b=some u->¬ Mut (some u)->b≠x:=fun b u q nm z=>by subst z;rw [q] at mu;exact nm mu
 refine ⟨fun b u q n _ _=>k b u (hb b n) q,fun b u q n _ _=>⟨u.slots,k b u (hb b n) q⟩,fun b u q n _=>by rw [aA (hx b n)];exact n,fun b u q _=>?_,
  fun b xs q=>by rw [aA (hm b _ q fun z=>z)];exact q,fun b u xs q=>by rw [aA (hm b _ q fun z=>z)];exact q,fun b ps q=>⟨#[],by rw [aA (hm b _ q fun z=>z),q];simp⟩⟩
 by_cases hbe:b=e
 . subst hbe;exact heo
 . exact ⟨u,k b u hbe q⟩
end
def trk (h:Heap) (H:Hp):List Addr:=(List.range h.objs.size).filter fun a=>(H a).isSome
def v3 (h:Heap) (H:Hp):Heap:=PySem.W.hideAll h (trk h H)
theorem tN (h:Heap) (H:Hp):(v3 h H).objs.size=h.objs.size:=PySem.W.hideAll_size _ _
theorem v0 {h:Heap} {H:Hp} {b:Addr} {o:Obj} (e:h.get? b=some o) (n:H b=none):(v3 h H).get? b=some o:=
 PySem.W.hideAll_get _ e fun hm=>by
  have q:(H b).isSome=true:=(List.mem_filter.mp hm).2
  rw [n] at q;simp at q
theorem yb {h:Heap} {H:Hp} {b:Addr} {o:Obj} (e:(v3 h H).get? b=some o):h.get? b=some o/\H b=none:=by
 have e':h.get? b=some o:=PySem.W.of_hideAll (trk h H) e
 refine ⟨e',?_⟩
 cases q:H b with
 | none=>rfl
 | some x=>
  have hm:b∈trk h H:=List.mem_filter.mpr ⟨DQ.mpr (Dp e'),by simp [q]⟩
  have z:(v3 h H).get? b=none:=PySem.W.hideAll_none (trk h H) hm
  rw [z] at e;cases e
end L2
namespace L2
open PySem PySem.Spec PyProof.Rows
structure Mod (K:PySem.W.Frag) (mg:Str->Option Value) (base:Heap):Prop where
 kin:K.In base
 glob:base.Ns mainGlobals mg
 blt:∃ mb,base.Ns builtinsNs mb/\∀ x:Str,x≠"__name__"->mb x=bootBuiltins x
 nolimit:base.NoLimit
structure Cx where
 prog:Program
 w:World
 K:PySem.W.Frag
 mg:Str->Option Value
 base:Heap
 A:Around
 N:List Str
 s₀:Shared
 H₀:Hp
 env:Env
 outer:List Env
 stack:List Env
 ex:List Addr
 fn:Str->Bool
 calm:Bool
 pn:List (Addr×Obj)
 xe:Value->Shared->Prop
def frs (l:List Env):List Addr:=l.filterMap (·.frame)
abbrev Cx.fs (X:Cx):List Addr:=frs X.outer
def Vis (sc:Scope) (x:Str):Prop:=sc.names.lookup x=some .local\/sc.names.lookup x=some .cell\/sc.names.lookup x=some .free
def Loc (sc:Scope) (x:Str):Prop:=sc.names.lookup x=some .local\/sc.names.lookup x=some .cell
def C2 (env:Env) (h:Heap) (m:Str->Option Value) (x:Str) (u:Value):Prop:=
 (env.kindOf x=some .local/\m x=some u)\/((env.kindOf x=some .cell\/env.kindOf x=some .free)/\∃ c,env.cells.lookup x=some c/\h.IsCell c (some u))
structure Cx.Ok (X:Cx):Prop where
 mod:Mod X.K X.mg X.base
 kind:X.env.scope.kind=.function
 glob:X.env.globals=mainGlobals
 blt:X.env.builtins=builtinsNs
 above:X.s₀.heap.objs.size<=X.env.locals
 inj:∀ x y c,X.env.cells.lookup x=some c->X.env.cells.lookup y=some c->x=y
 has:∀ x,(X.env.kindOf x=some .cell\/X.env.kindOf x=some .free)->∃ c,X.env.cells.lookup x=some c
 cab:∀ x c,X.fn x=true->X.env.cells.lookup x=some c->X.s₀.heap.objs.size<=c
 hd:X.calm=true->X.A.handled=none
 frames:X.A.frames=some X.stack
 stk:X.stack=X.outer\/(X.stack=X.env::X.outer/\X.env.frame=some X.env.locals)
 exf:∀ b∈X.ex,b≠X.env.locals/\∀ x c,X.env.cells.lookup x=some c->c≠b
 bs:∀ b o,X.base.get? b=some o->X.s₀.heap.get? b=some o/\X.H₀ b=none
 bsz:X.base.objs.size<=X.s₀.heap.objs.size
 noex:∀ b o,X.base.get? b=some o->b∉X.ex
 exfs:∀ b∈X.ex,b∉X.fs
 funs:X.s₀.heap.FunFrames X.base X.outer
 frf:∀ b∈X.fs,X.H₀ b=none
structure Inv (X:Cx) (pins:List (Addr×Obj)) (σ:List (Option V)) (H:Hp) (s:Shared):Prop where
 ok:X.Ok
 os:s.os=X.s₀.os
 bare:AllBare s.gens
 base:Un X.fs X.ex X.H₀ H X.s₀.heap s.heap
 loc:∃ m,s.heap.Ns X.env.locals m/\∀ (i:Nat) (x:Str) (v:V),X.N[i]? =some x->σ[i]? =some (some v)->Vis X.env.scope x->∃ u,bB v u/\C2 X.env s.heap m x u
 cell:∀ x c,X.env.cells.lookup x=some c->∃ v,s.heap.IsCell c v
 free:H X.env.locals=none
 freeC:∀ x c,X.env.cells.lookup x=some c->H c=none
 pin:∀ p∈X.pn++pins,s.heap.get? p.1=some p.2/\H p.1=none/\p.1≠X.env.locals/\p.1∉X.fs/\∀ v,p.2.data≠.cell v
 hok:HOk X.prog X.w H s.heap
 len:σ.length=X.N.length
section
variable {X:Cx} {pins:List (Addr×Obj)} {σ:List (Option V)} {H H':Hp} {s:Shared} {h':Heap}
theorem Cx.Ok.nofr (ok:X.Ok) {b:Addr} {o:Obj} (e:X.base.get? b=some o):b∉X.fs:=fun hb=>by
 have:=(ok.funs.mem hb).1
 rw [e] at this;cases this
theorem Inv.bs (I:Inv X pins σ H s):∀ b o,X.base.get? b=some o->s.heap.get? b=some o/\H b=none:=fun b o e=>
 ⟨I.base.keep b o (I.ok.bs b o e).1 (I.ok.bs b o e).2 (I.ok.nofr e) (I.ok.noex b o e),I.base.free b o (I.ok.bs b o e).1 (I.ok.bs b o e).2 (I.ok.noex b o e)⟩
theorem Inv.bk (I:Inv X pins σ H s):∀ b o,X.base.get? b=some o->s.heap.get? b=some o:=fun b o e=>(I.bs b o e).1
theorem Inv.mod (I:Inv X pins σ H s):Mod X.K X.mg X.base:=I.ok.mod
theorem Inv.kIn (I:Inv X pins σ H s):X.K.In s.heap:=I.ok.mod.kin.keeps I.bk
theorem Inv.fr (I:Inv X pins σ H s):∃ m,Fr X.base X.env.locals s.heap m:=
 let ⟨m,hn,_⟩:=I.loc
 ⟨m,hn,I.bk,DP I.ok.bsz I.ok.above⟩
theorem Inv.lt (I:Inv X pins σ H s):X.env.locals<s.heap.objs.size:=let ⟨_,hn,_⟩:=I.loc;hn.lt
theorem Inv.sz (I:Inv X pins σ H s):X.s₀.heap.objs.size<=s.heap.objs.size:=DP I.ok.above (Nat.le_of_lt I.lt)
theorem Inv.nofs (I:Inv X pins σ H s) {a:Addr} (h:s.heap.objs.size<=a):a∉X.fs:=fun hb=>by
 obtain ⟨_,o,ho,_⟩:=I.ok.funs.mem hb
 exact absurd (Do (Dp ho) (DP I.sz h)) (Nat.lt_irrefl _)
theorem Inv.cne (I:Inv X pins σ H s):∀ x c,X.env.cells.lookup x=some c->c≠X.env.locals:=fun x c e z=>by
 obtain ⟨v,o,ho,hd⟩:=I.cell x c e
 obtain ⟨m,⟨o',es,ep,ho',hd',_⟩,_⟩:=I.loc
 rw [z,ho'] at ho;cases ho;rw [hd'] at hd;cases hd
theorem Inv.funs (I:Inv X pins σ H s):s.heap.FunFrames X.base X.outer:=by
 have all:∀ (l:List Env),(∀ b∈frs l,b∈X.fs)->X.s₀.heap.FunFrames X.base l->s.heap.FunFrames X.base l:=by
  intro l
  induction l with
  | nil=>intro _ _;trivial
  | cons env r ih=>
   intro hs hl
   obtain ⟨hk,⟨L,o,hf,hn,ho,hd⟩,hr⟩:=hl
   have hL:L∈X.fs:=hs L (by unfold frs;rw [List.filterMap_cons,hf];exact Dx)
   obtain ⟨sl,e⟩:=I.base.slot L o ho (I.ok.frf L hL) hL fun z=>I.ok.exfs L z hL
   exact ⟨hk,⟨L,_,hf,hn,e,hd⟩,ih (fun b hb=>hs b (by unfold frs;rw [List.filterMap_cons,hf];exact Dk _ hb)) hr⟩
 exact all X.outer (fun _ hb=>hb) I.ok.funs
theorem Inv.stack (I:Inv X pins σ H s):s.heap.FunFrames X.base X.stack:=by
 rcases I.ok.stk with e | ⟨e,hf⟩
 . rw [e];exact I.funs
 . rw [e]
   obtain ⟨m,hn,_⟩:=I.loc
   refine .cons (by rw [I.ok.kind];decide) hf hn ?_ I.funs
   exact Heap.get?_none_of_le (DP I.ok.bsz I.ok.above)
theorem Inv.stkSub (I:Inv X pins σ H s):∀ b∈frs X.stack,b∈X.env.locals::X.fs:=fun b hb=>by
 rcases I.ok.stk with e | ⟨e,hf⟩
 . rw [e] at hb;exact Dk _ hb
 . rw [e] at hb
   unfold frs at hb
   rw [List.filterMap_cons,hf] at hb
   exact hb
theorem Inv.stkFree (I:Inv X pins σ H s):∀ b∈frs X.stack,H b=none:=fun b hb=>by
 rcases DI.mp (I.stkSub b hb) with e | hb
 . rw [e];exact I.free
 . obtain ⟨_,o,ho,_⟩:=I.ok.funs.mem hb
   exact I.base.free b o ho (I.ok.frf b hb) fun z=>I.ok.exfs b z hb
theorem Inv.step {g':Array GenState} {t':Nat} {d':Drawn} {ch:List Addr} (I:Inv X pins σ H s)
    (hch:∀ b∈ch,(b∈X.ex\/X.s₀.heap.objs.size<=b)/\b≠X.env.locals/\(∀ x c,X.env.cells.lookup x=some c->c≠b)/\∀ p∈X.pn++pins,p.1≠b)
    (keep:∀ b o,b≠X.env.locals->b∉X.fs->b∉ch->s.heap.get? b=some o->H b=none->h'.get? b=some o)
    (slot:∀ b o,b≠X.env.locals->b∈X.fs->b∉ch->s.heap.get? b=some o->H b=none->∃ sl,h'.get? b=some { o with slots:=sl }) (free:∀ b o,b∉ch->s.heap.get? b=some o->H b=none->H' b=none)
    (there:∀ b o,b∉ch->s.heap.get? b=some o->∃ o',h'.get? b=some o')
    (tups:∀ b xs,H b=some (.tup xs)->H' b=some (.tup xs)) (frzs:∀ b o u,H b=some (.frz o u)->H' b=some (.frz o u)) (tbls:∀ b ps,H b=some (.tbl ps)->∃ more,H' b=some (.tbl (ps++more)))
    (ns:∀ m,s.heap.Ns X.env.locals m->h'.Ns X.env.locals m) (hok:HOk X.prog X.w H' h') (hg:AllBare g'):
    Inv X pins σ H' { s with heap:=h',gens:=g',drawn:=d',toks:=t' }:=by
 have neL:∀ b o,X.s₀.heap.get? b=some o->b≠X.env.locals:=fun b o e=>DC (Do (Dp e) I.ok.above)
 have neC:∀ b o,X.s₀.heap.get? b=some o->b∉X.ex->b∉ch:=fun b o e hx hb=>by
  rcases (hch b hb).1 with z | z
  . exact hx z
  . exact absurd (Do (Dp e) z) (Nat.lt_irrefl _)
 have cellK:∀ x c,X.env.cells.lookup x=some c->∀ v,s.heap.IsCell c v->h'.IsCell c v:=fun x c e v ⟨o,ho,hd⟩=>by
  have nch:c∉ch:=fun z=>(hch c z).2.2.1 x c e rfl
  by_cases hc:c∈X.fs
  . obtain ⟨sl,q⟩:=slot c o (I.cne x c e) hc nch ho (I.freeC x c e)
    exact ⟨_,q,hd⟩
  . exact ⟨o,keep c o (I.cne x c e) hc nch ho (I.freeC x c e),hd⟩
 refine ⟨I.ok,I.os,hg,⟨fun b o e n hb hx=>?_,fun b o e n hb hx=>?_,fun b o e n hx=>?_,fun b o e hx=>?_,fun b xs e=>tups b xs (I.base.tups b xs e),fun b o xs e=>frzs b o xs (I.base.frzs b o xs e),fun b ps e=>?_⟩,?_,fun x c e=>?_,?_,fun x c e=>?_,fun p hp=>?_,hok,I.len⟩
 . exact keep b o (neL b o e) hb (neC b o e hx) (I.base.keep b o e n hb hx) (I.base.free b o e n hx)
 . obtain ⟨sl,e1⟩:=I.base.slot b o e n hb hx
   obtain ⟨sl',e2⟩:=slot b _ (neL b o e) hb (neC b o e hx) e1 (I.base.free b o e n hx)
   exact ⟨sl',e2⟩
 . obtain ⟨o',e1⟩:=I.base.there b o e hx
   exact free b o' (neC b o e hx) e1 (I.base.free b o e n hx)
 . obtain ⟨o',e1⟩:=I.base.there b o e hx
   exact there b o' (neC b o e hx) e1
 . obtain ⟨m1,e1⟩:=I.base.tbls b ps e
   obtain ⟨m2,e2⟩:=tbls b _ e1
   exact ⟨m1++m2,by rw [e2,Array.append_assoc]⟩
 . obtain ⟨m,hn,hl⟩:=I.loc
   refine ⟨m,ns m hn,fun i x v e1 e2 e3=>?_⟩
   obtain ⟨u,r,l⟩:=hl i x v e1 e2 e3
   refine ⟨u,r,?_⟩
   rcases l with l | ⟨k,c,e,z⟩
   . exact .inl l
   . exact .inr ⟨k,c,e,cellK x c e _ z⟩
 . obtain ⟨v,z⟩:=I.cell x c e
   exact ⟨v,cellK x c e v z⟩
 . obtain ⟨m,⟨o,_,_,ho,_⟩,_⟩:=I.loc
   exact free _ o (fun z=>(hch _ z).2.1 rfl) ho I.free
 . obtain ⟨v,o,ho,hd⟩:=I.cell x c e
   exact free c o (fun z=>(hch c z).2.2.1 x c e rfl) ho (I.freeC x c e)
 . obtain ⟨e,n,ne,nf,d⟩:=I.pin p hp
   have nch:p.1∉ch:=fun z=>(hch p.1 z).2.2.2 p hp rfl
   exact ⟨keep p.1 p.2 ne nf nch e n,free p.1 p.2 nch e n,ne,nf,d⟩
theorem Inv.un {t':Nat} (I:Inv X pins σ H s) (u:Un X.fs [] H H' s.heap h') (hok:HOk X.prog X.w H' h'):Inv X pins σ H' { s with heap:=h',toks:=t' }:=by
 obtain ⟨m,⟨o,es,ep,ho,r⟩,_⟩:=id I.loc
 obtain ⟨sl,hL⟩:=u.any ho I.free (by simp)
 exact I.step (g':=s.gens) (d':=s.drawn) (ch:=[]) (fun _ z=>nomatch z) (fun b o _ hb _ e n=>u.keep b o e n hb (by simp)) (fun b o _ hb _ e n=>u.slot b o e n hb (by simp)) (fun b o _ e n=>u.free b o e n (by simp)) (fun b o _ e=>u.there b o e (by simp)) u.tups u.frzs u.tbls (fun m' hm=>by
  obtain ⟨o',es',ep',ho',r'⟩:=hm
  rw [ho] at ho';cases ho'
  exact ⟨_,es',ep',hL,r'⟩) hok I.bare
theorem Inv.call {g':Array GenState} {t':Nat} {d':Drawn} {ch:List Addr} (I:Inv X pins σ H s) (u:Un (frs X.stack) ch H H' s.heap h') (hok:HOk X.prog X.w H' h') (hg:AllBare g')
    (hch:∀ b∈ch,(b∈X.ex\/X.s₀.heap.objs.size<=b)/\b≠X.env.locals/\(∀ x c,X.env.cells.lookup x=some c->c≠b)/\∀ p∈X.pn++pins,p.1≠b):
    Inv X pins σ H' { s with heap:=h',gens:=g',drawn:=d',toks:=t' }:=by
 obtain ⟨m,⟨o,es,ep,ho,r⟩,_⟩:=id I.loc
 obtain ⟨sl,hL⟩:=u.any ho I.free fun z=>(hch _ z).2.1 rfl
 exact I.step (ch:=ch) hch (fun b o hL hb hc e n=>u.keep b o e n (fun z=>(DI.mp (I.stkSub b z)).elim hL hb) hc) (fun b o _ _ hc e n=>u.any e n hc) (fun b o hc e n=>u.free b o e n hc) (fun b o hc e=>u.there b o e hc) u.tups u.frzs u.tbls (fun m' hm=>by
  obtain ⟨o',es',ep',ho',r'⟩:=hm
  rw [ho] at ho';cases ho'
  exact ⟨_,es',ep',hL,r'⟩) hok hg
theorem Inv.turned {t':Nat} {it:Addr} (I:Inv X pins σ H s) (k:∀ b o,b≠it->s.heap.get? b=some o->h'.get? b=some o) (hn:H it=none) (hL:it≠X.env.locals)
    (h1:it∈X.ex\/X.s₀.heap.objs.size<=it) (h2:∀ x c,X.env.cells.lookup x=some c->c≠it) (h3:∀ p∈X.pn++pins,p.1≠it):Inv X pins σ H { s with heap:=h',toks:=t' }:=by
 have nit:∀ b u,H b=some u->b≠it:=fun b u e z=>by rw [z,hn] at e;cases e
 refine I.step (g':=s.gens) (d':=s.drawn) (ch:=[it]) (fun b hb=>?_) (fun b o _ _ hc e _=>k b o (fun z=>hc (by simp [z])) e) (fun b o _ _ hc e _=>⟨o.slots,k b o (fun z=>hc (by simp [z])) e⟩) (fun _ _ _ _ n=>n)
  (fun b o hc e=>⟨o,k b o (fun z=>hc (by simp [z])) e⟩) (fun _ _ e=>e) (fun _ _ _ e=>e) (fun b ps e=>⟨#[],by rw [e];simp⟩) (fun m hm=>?_) (fun b u e=>?_) I.bare
 . have e:b=it:=by simpa using hb
   subst e
   exact ⟨h1,hL,h2,h3⟩
 . obtain ⟨o,es,ep,ho,r⟩:=hm
   exact ⟨o,es,ep,k _ o (Ne.symm hL) ho,r⟩
 . refine (I.hok b u e).stay (fun c v hc q=>k c v ?_ q) (fun _ q=>q) fun _ _ q=>q
   rcases hc with z | z
   . rw [z];exact nit b u e
   . exact nit c _ z
theorem Inv.tok (I:Inv X pins σ H s) (t:Nat):Inv X pins σ H { s with toks:=t }:=I.un (h':=s.heap) (t':=t) Un.refl I.hok
theorem Inv.kept {t':Nat} (I:Inv X pins σ H s) (k:∀ b u,s.heap.get? b=some u->h'.get? b=some u):Inv X pins σ H { s with heap:=h',toks:=t' }:=I.un (Un.kept k) (I.hok.kept k)
theorem Inv.laid {a:Addr} {o:HO} {t':Nat} (I:Inv X pins σ H s) (k:∀ b u,s.heap.get? b=some u->h'.get? b=some u) (hp:s.heap.objs.size<=a) (new:bC X.prog X.w (upd H a o) h' a o):
    Inv X pins σ (upd H a o) { s with heap:=h',toks:=t' }:=I.un (Un.laid k hp (I.hok.fresh hp)) (I.hok.laid k hp new)
theorem Inv.write {x e:Addr} {o:HO} {t':Nat} (I:Inv X pins σ H s) (mu:Mut (H x)) (he:e=x\/H e=some (.own x)) (k:∀ b u,b≠e->s.heap.get? b=some u->h'.get? b=some u) (heo:∃ u,h'.get? e=some u)
    (new:bC X.prog X.w (upd H x o) h' x o):Inv X pins σ (upd H x o) { s with heap:=h',toks:=t' }:=I.un (Un.write mu he k heo) (I.hok.write mu he k heo new)
theorem Inv.weak {σ':List (Option V)} (I:Inv X pins σ H s) (hl:σ'.length=σ.length) (w:∀ (i:Nat) v,σ'[i]? =some (some v)->σ[i]? =some (some v)):Inv X pins σ' H s:=
 ⟨I.ok,I.os,I.bare,I.base,let ⟨m,hn,hl'⟩:=I.loc;⟨m,hn,fun i x v e1 e2 e3=>hl' i x v e1 (w i v e2) e3⟩,I.cell,I.free,I.freeC,I.pin,I.hok,hl.trans I.len⟩
theorem Inv.pins_of {pins':List (Addr×Obj)} (I:Inv X pins σ H s) (h:∀ p∈pins',s.heap.get? p.1=some p.2/\H p.1=none/\p.1≠X.env.locals/\p.1∉X.fs/\∀ v,p.2.data≠.cell v):Inv X pins' σ H s:=
 ⟨I.ok,I.os,I.bare,I.base,I.loc,I.cell,I.free,I.freeC,fun p hp=>(DN.mp hp).elim (fun z=>I.pin p (List.mem_append_left _ z)) (h p),I.hok,I.len⟩
theorem oR {N:List Str} (hN:N.Nodup) {i j:Nat} {x:Str} (a:N[i]? =some x) (b:N[j]? =some x):i=j:=by
 obtain ⟨h1,e1⟩:=Db.mp a
 obtain ⟨h2,e2⟩:=Db.mp b
 exact (List.getElem_inj hN).mp (e1.trans e2.symm)
theorem rC {M:Model} {A:Around} {E:Value->Shared->Prop} {i:Nat} {x:Str} {v:V} {u:Value} {Q:Unit->Shared->Prop} (I:Inv X pins σ H s) (hN:X.N.Nodup) (hi:X.N[i]? =some x) (hx:Loc X.env.scope x) (r:bB v u)
    (h:∀ s',Inv X pins (σ.set i (some v)) H s'->(∃ a,Heap.SameBut a s.heap s'.heap/\(a=X.env.locals\/X.env.cells.lookup x=some a))->Q () s') (hf:X.fn x=true\/X.env.scope.names.lookup x=some .local:=by first | exact .inl rfl | exact .inr rfl | assumption):wpAny M A (storeName X.env x u) Q E s:=by
 obtain ⟨m,hn,hl⟩:=id I.loc
 have hcls:(X.env.scope.kind==.class || (X.env.scope.kind==.module && X.env.locals !=X.env.globals))=false:=by rw [I.ok.kind];rfl
 have hiσ:i<σ.length:=by rw [I.len];exact (Db.mp hi).1
 have cne:=I.cne
 have tracked:∀ {a:Addr} {h':Heap},(∃ o,s.heap.get? a=some o/\H a=none)->Heap.SameBut a s.heap h'->HOk X.prog X.w H h':=fun {a h'} ha hs b ob e=>by
  obtain ⟨_,_,hfree⟩:=ha
  refine (I.hok b ob e).stay (fun c w' hc q=>(hs.2 c ?_).trans q) (fun _ q=>q) fun _ _ q=>q
  rintro rfl
  rcases hc with rfl | hc
  . rw [hfree] at e;cases e
  . rw [hfree] at hc;cases hc
 rcases hx with hk | hk
 . refine wpAny_storeName_local hk hn (fun h' hn' hs=>?_) hcls
   obtain ⟨oL,_,_,hoL,_⟩:=id hn
   refine h _ ⟨I.ok,I.os,I.bare,⟨fun b o e n hb hx=>?_,fun b o e n hb hx=>?_,I.base.free,fun b o e hx=>?_,I.base.tups,I.base.frzs,I.base.tbls⟩,⟨_,hn',fun j y v' e1 e2 e3=>?_⟩,fun y c e=>?_,I.free,I.freeC,fun p hp=>?_,tracked ⟨oL,hoL,I.free⟩ hs,by simpa using I.len⟩ ⟨_,hs,.inl rfl⟩
   . exact (hs.2 b (DC (Do (Dp e) I.ok.above))).trans (I.base.keep b o e n hb hx)
   . obtain ⟨sl,e1⟩:=I.base.slot b o e n hb hx
     exact ⟨sl,(hs.2 b (DC (Do (Dp e) I.ok.above))).trans e1⟩
   . obtain ⟨o',e1⟩:=I.base.there b o e hx
     exact ⟨o',(hs.2 b (DC (Do (Dp e) I.ok.above))).trans e1⟩
   . by_cases hj:j=i
     . subst hj
       rw [hi] at e1;cases e1
       rw [List.getElem?_set_self hiσ] at e2
       cases e2
       exact ⟨u,r,.inl ⟨hk,by simp⟩⟩
     . rw [List.getElem?_set_ne (Ne.symm hj)] at e2
       obtain ⟨u',r',q⟩:=hl j y v' e1 e2 e3
       refine ⟨u',r',?_⟩
       rcases q with ⟨k,e⟩ | ⟨k,c,e,z⟩
       . refine .inl ⟨k,?_⟩
         have:y≠x:=fun e=>hj (oR hN e1 (e ▸ hi))
         simp [this,e]
       . exact .inr ⟨k,c,e,z.sameBut hs (cne y c e)⟩
   . obtain ⟨w',z⟩:=I.cell y c e
     exact ⟨w',z.sameBut hs (cne y c e)⟩
   . obtain ⟨e,n,ne,nf,d⟩:=I.pin p hp
     exact ⟨(hs.2 p.1 ne).trans e,n,ne,nf,d⟩
 . have hfn:X.fn x=true:=by
     rcases hf with z | z
     . exact z
     . rw [z] at hk;cases hk
   obtain ⟨c,hc⟩:=I.ok.has x (.inl hk)
   obtain ⟨w',z⟩:=I.cell x c hc
   refine wpAny_storeName_cell I.ok.kind hk hc z (fun h' hc' hs=>?_)
   obtain ⟨oc,hoc,hocd⟩:=id z
   refine h { s with heap:=h' } ⟨I.ok,I.os,I.bare,⟨fun b o e n hb hx=>?_,fun b o e n hb hx=>?_,I.base.free,fun b o e hx=>?_,I.base.tups,I.base.frzs,I.base.tbls⟩,⟨m,hn.sameBut hs (Ne.symm (cne x c hc)),fun j y v' e1 e2 e3=>?_⟩,fun y c' e=>?_,I.free,I.freeC,fun p hp=>?_,tracked ⟨oc,hoc,I.freeC x c hc⟩ hs,by simpa using I.len⟩ ⟨c,hs,.inr hc⟩
   . exact (hs.2 b (DC (Do (Dp e) (I.ok.cab x c hfn hc)))).trans (I.base.keep b o e n hb hx)
   . obtain ⟨sl,e1⟩:=I.base.slot b o e n hb hx
     exact ⟨sl,(hs.2 b (DC (Do (Dp e) (I.ok.cab x c hfn hc)))).trans e1⟩
   . obtain ⟨o',e1⟩:=I.base.there b o e hx
     exact ⟨o',(hs.2 b (DC (Do (Dp e) (I.ok.cab x c hfn hc)))).trans e1⟩
   . by_cases hj:j=i
     . subst hj
       rw [hi] at e1;cases e1
       rw [List.getElem?_set_self hiσ] at e2
       cases e2
       exact ⟨u,r,.inr ⟨.inl hk,c,hc,hc'⟩⟩
     . rw [List.getElem?_set_ne (Ne.symm hj)] at e2
       obtain ⟨u',r',q⟩:=hl j y v' e1 e2 e3
       refine ⟨u',r',?_⟩
       rcases q with q | ⟨k,c',e,z'⟩
       . exact .inl q
       . refine .inr ⟨k,c',e,z'.sameBut hs ?_⟩
         rintro rfl
         exact hj (oR hN e1 (I.ok.inj _ _ _ e hc ▸ hi))
   . by_cases hcc:c'=c
     . subst hcc;exact ⟨_,hc'⟩
     . obtain ⟨w2,z2⟩:=I.cell y c' e
       exact ⟨w2,z2.sameBut hs hcc⟩
   . obtain ⟨e,n,ne,nf,d⟩:=I.pin p hp
     refine ⟨(hs.2 p.1 ?_).trans e,n,ne,nf,d⟩
     intro q
     rw [q,hoc] at e
     have q':oc=p.2:=Dg e
     exact d w' (by rw [<- q'];exact hocd)
theorem oq {M:Model} {A:Around} {E:Value->Shared->Prop} {i:Nat} {x:Str} {v:V} {u:Value} {Q:Unit->Shared->Prop} (I:Inv X pins σ H s) (hN:X.N.Nodup) (hi:X.N[i]? =some x) (hx:Loc X.env.scope x) (r:bB v u)
    (h:∀ s',Inv X pins (σ.set i (some v)) H s'->Q () s') (hf:X.fn x=true\/X.env.scope.names.lookup x=some .local:=by first | exact .inl rfl | exact .inr rfl | assumption):wpAny M A (storeName X.env x u) Q E s:=
 rC I hN hi hx r (fun s' I' _=>h s' I') hf
theorem Inv.call' {s':Shared} {ch:List Addr} (I:Inv X pins σ H s) (ho:s'.os=s.os) (u:Un (frs X.stack) ch H H' s.heap s'.heap) (hok:HOk X.prog X.w H' s'.heap) (hg:AllBare s'.gens)
    (hch:∀ b∈ch,(b∈X.ex\/X.s₀.heap.objs.size<=b)/\b≠X.env.locals/\(∀ x c,X.env.cells.lookup x=some c->c≠b)/\∀ p∈X.pn++pins,p.1≠b):Inv X pins σ H' s':=by
 obtain ⟨h',g',d',t',o'⟩:=s'
 have e:o'=s.os:=ho
 subst e
 exact I.call (g':=g') (t':=t') (d':=d') u hok hg hch
end
abbrev XK:=Value->Option Addr->Hp->Prop
abbrev St:=List (Option V)
abbrev VK:=V->Hp->Prop
abbrev TE:=St->Hp->VK->Prop
abbrev TT:=St->Hp->(Bool->Hp->Prop)->Prop
abbrev TA:=St->Hp->(List V->Hp->Prop)->Prop
structure uO where
 nx:St->Hp->Prop
 rt:VK
 bk:St->Hp->Prop:=fun _ _=>False
 ct:St->Hp->Prop:=fun _ _=>False
abbrev TS:=uO->St->Hp->Prop
def EP (X:Cx) (pins:List (Addr×Obj)) (σ:St) (Q:VK) (u:Value) (s':Shared):Prop:=∃ v H',Inv X pins σ H' s'/\bB v u/\Q v H'
def TP (X:Cx) (pins:List (Addr×Obj)) (σ:St) (Q:Bool->Hp->Prop) (b:Bool) (s':Shared):Prop:=∃ H',Inv X pins σ H' s'/\Q b H'
def AP (X:Cx) (pins:List (Addr×Obj)) (σ:St) (Q:List V->Hp->Prop) (us:List Value) (s':Shared):Prop:=∃ vs H',Inv X pins σ H' s'/\ba vs us/\Q vs H'
def SP (X:Cx) (pins:List (Addr×Obj)) (D:uO) (f:Flow) (s':Shared):Prop:=
 match f with
 | .next=>∃ σ' H',Inv X pins σ' H' s'/\D.nx σ' H'
 | .brk=>∃ σ' H',Inv X pins σ' H' s'/\D.bk σ' H'
 | .cont=>∃ σ' H',Inv X pins σ' H' s'/\D.ct σ' H'
 | .ret u=>∃ v σ' H',Inv X pins σ' H' s'/\bB v u/\D.rt v H'
def PE (X:Cx) (e:Expr) (t:TE):Prop:=
 ∀ (pins:List (Addr×Obj)) (s:Shared) (σ:St) (H:Hp) (Q:VK),Inv X pins σ H s->t σ H Q->wpAny (model X.prog X.w) X.A (eval e X.env) (EP X pins σ Q) X.xe s
def PT (X:Cx) (e:Expr) (t:TT):Prop:=
 ∀ (pins:List (Addr×Obj)) (s:Shared) (σ:St) (H:Hp) (Q:Bool->Hp->Prop),Inv X pins σ H s->t σ H Q->wpAny (model X.prog X.w) X.A (isTrue e X.env (eval e X.env)) (TP X pins σ Q) X.xe s
def PW (X:Cx) (e:Expr) (t:TT):Prop:=
 ∀ (whole:Sem Value) (pins:List (Addr×Obj)) (s:Shared) (σ:St) (H:Hp) (Q:Bool->Hp->Prop),Inv X pins σ H s->t σ H Q->wpAny (model X.prog X.w) X.A (isTrue e X.env whole) (TP X pins σ Q) X.xe s
theorem PW.pt {X:Cx} {e:Expr} {t:TT} (h:PW X e t):PT X e t:=h _
def PA (X:Cx) (es:List Expr) (t:TA):Prop:=
 ∀ (pos:Pos) (pins:List (Addr×Obj)) (s:Shared) (σ:St) (H:Hp) (Q:List V->Hp->Prop),Inv X pins σ H s->t σ H Q->wpAny (model X.prog X.w) X.A (spliced (backTo pos (starEach es X.env))) (AP X pins σ Q) X.xe s
def PS (X:Cx) (st:Stmt) (t:TS):Prop:=
 ∀ (pins:List (Addr×Obj)) (s:Shared) (σ:St) (H:Hp) (D:uO),Inv X pins σ H s->t D σ H->wpAny (model X.prog X.w) X.A (exec st X.env) (SP X pins D) X.xe s
def PSs (X:Cx) (st:List Stmt) (t:TS):Prop:=
 ∀ (pins:List (Addr×Obj)) (s:Shared) (σ:St) (H:Hp) (D:uO),Inv X pins σ H s->t D σ H->wpAny (model X.prog X.w) X.A (execs st X.env) (SP X pins D) X.xe s
theorem thn {α:Type} {t:Sem α} {Q Q':α->Shared->Prop} {M:Model} {A:Around} {E:Value->Shared->Prop} {s:Shared} (h:wpAny M A t Q E s) (hQ:∀ a s,Q a s->Q' a s):wpAny M A t Q' E s:=wpAny_mono h hQ fun _ _ x=>x
end L2
namespace L2
open PySem PySem.Spec PyProof.Rows
section
variable {X:Cx}
theorem bin {a b:Expr} {ta tb:TE} (ha:PE X a ta) (hb:PE X b tb) {pins:List (Addr×Obj)} {s:Shared} {σ:St} {H:Hp} {R:V->V->Hp->Prop} (I:Inv X pins σ H s) (h:ta σ H fun x H1=>tb σ H1 fun y H2=>R x y H2)
    {α:Type} {Q:α->Shared->Prop} {f:Value->Value->Sem α}
    (hf:∀ v u s2 x y H2,Inv X pins σ H2 s2->bB x v->bB y u->R x y H2->wpAny (model X.prog X.w) X.A (f v u) Q X.xe s2):
    wpAny (model X.prog X.w) X.A (eval a X.env) (fun v s₁=>wpAny (model X.prog X.w) X.A (eval b X.env) (fun u s₂=>wpAny (model X.prog X.w) X.A (f v u) Q X.xe s₂) X.xe s₁) X.xe s:=by
 refine thn (ha pins s σ H _ I h) fun v s1 ⟨x,H1,I1,r1,q1⟩=>?_
 refine thn (hb pins s1 σ H1 _ I1 q1) fun u s2 ⟨y,H2,I2,r2,q2⟩=>?_
 exact hf v u s2 x y H2 I2 r1 r2 q2
def Ch (i:Nat):TE:=fun σ H Q=>∃ v,σ[i]? =some (some v)/\Q v H
def tC (v:V):TE:=fun _ H Q=>Q v H
theorem zY {i:Nat} {x:Str} {pos:Pos} (hN:X.N[i]? =some x) (hv:Vis X.env.scope x) (hd:(x==("__debug__":Str))=false:=by decide) (hcd:(x==("__classdict__":Str))=false:=by decide):PE X (.Name x pos) (Ch i):=by
 intro pins s σ H Q I h
 obtain ⟨v,e,h⟩:=h
 obtain ⟨m,hn,hl⟩:=I.loc
 obtain ⟨u,r,l⟩:=hl i x v hN e hv
 have fin:EP X pins σ Q u s:=⟨v,H,I,r,h⟩
 rcases l with ⟨hk,hm⟩ | ⟨hk,c,hc,hcell⟩
 . exact wpAny_Name (wpAny_loadName_local I.ok.kind hk hn hm fin) hd
 . rcases hk with hk | hk
   . exact wpAny_Name (wpAny_loadName_cell I.ok.kind hk hc hcell fin) hd
   . exact wpAny_Name (wpAny_loadName_free I.ok.kind hk hc hcell fin hcd) hd
theorem ap {i j pos}:PE X (.Constant (.int i) j pos) (tC (.int i)):=fun _ _ _ H _ I h=>wpAny_Constant_int ⟨.int i,H,I.tok _,⟨_,rfl⟩,h⟩
theorem iQ {b j pos}:PE X (.Constant (.bool b) j pos) (tC (.bl b)):=fun _ _ _ H _ I h=>Constant_bool ⟨.bl b,H,I,rfl,h⟩
theorem oH {j pos}:PE X (.Constant .none j pos) (tC .non):=fun _ _ _ H _ I h=>Constant_none ⟨.non,H,I,rfl,h⟩
theorem fY {x j pos}:PE X (.Constant (.str x) j pos) (tC (.str x)):=fun _ _ _ H _ I h=>Calls.Constant_str ⟨.str x,H,I.tok _,⟨_,rfl⟩,h⟩
def Gl (X:Cx) (x:Str):Prop:=X.env.kindOf x=some .globalImplicit
theorem nO {E:Value->Shared->Prop} {pins:List (Addr×Obj)} {s:Shared} {σ:St} {H:Hp} {x:Str} {u:Value} {pos:Pos} {Q:Value->Shared->Prop} (I:Inv X pins σ H s) (hg:Gl X x) (hm:X.mg x=some u) (h:Q u s)
    (hd:(x==("__debug__":Str))=false:=by decide):wpAny (model X.prog X.w) X.A (eval (.Name x pos) X.env) Q E s:=
 Calls.Name_function_global I.ok.kind hg (Calls.loadGlobal_global (by rw [I.ok.glob];exact I.mod.glob.keeps I.bk) hm h) hd
theorem fj {E:Value->Shared->Prop} {pins:List (Addr×Obj)} {s:Shared} {σ:St} {H:Hp} {x:Str} {u:Value} {pos:Pos} {Q:Value->Shared->Prop} (I:Inv X pins σ H s) (hg:Gl X x) (hm:X.mg x=none) (hv:bootBuiltins x=some u) (h:Q u s)
    (hn:x≠"__name__":=by decide) (hd:(x==("__debug__":Str))=false:=by decide):wpAny (model X.prog X.w) X.A (eval (.Name x pos) X.env) Q E s:=by
 obtain ⟨mb,h1,h2⟩:=I.mod.blt
 exact Calls.Name_function_global I.ok.kind hg (Calls.loadGlobal_builtin (by rw [I.ok.glob];exact I.mod.glob.keeps I.bk) hm (by rw [I.ok.blt];exact h1.keeps I.bk) ((h2 x hn).trans hv) h) hd
theorem ij {x:Str} {v:V} {u:Value} {pos:Pos} (hg:Gl X x) (hm:X.mg x=some u) (r:bB v u) (hd:(x==("__debug__":Str))=false:=by decide):PE X (.Name x pos) (tC v):=
 fun _ _ _ H _ I h=>nO I hg hm ⟨v,H,I,r,h⟩ hd
theorem fN {x:Str} {v:V} {u:Value} {pos:Pos} (hg:Gl X x) (hm:X.mg x=none) (hv:bootBuiltins x=some u) (r:bB v u) (hn:x≠"__name__":=by decide) (hd:(x==("__debug__":Str))=false:=by decide):PE X (.Name x pos) (tC v):=
 fun _ _ _ H _ I h=>fj I hg hm hv ⟨v,H,I,r,h⟩ hn hd
def t2I (ta tb:TE) (k:Int->Int->Hp->Prop):St->Hp->Prop:=fun σ H=>ta σ H fun x H1=>tb σ H1 fun y H2=>∃ i j,x=.int i/\y=.int j/\k i j H2
variable {a b:Expr} {ta tb:TE} {pos:Pos}
def PC (X:Cx) (op:CmpOp) (a b:Expr) (t:TE):Prop:=
 ∀ (pins:List (Addr×Obj)) (s:Shared) (σ:St) (H:Hp) (Q:VK),Inv X pins σ H s->t σ H Q->
  wpAny (model X.prog X.w) X.A (eval a X.env) (fun v s₁=>wpAny (model X.prog X.w) X.A (eval b X.env) (fun u s₂=>wpAny (model X.prog X.w) X.A (compareOp op v u) (EP X pins σ Q) X.xe s₂) X.xe s₁) X.xe s
def C6 (p:Int->Int->Bool) (ta tb:TE):TE:=fun σ H Q=>t2I ta tb (fun i j H2=>Q (.bl (p i j)) H2) σ H
def tB (t:TE):TT:=fun σ H Q=>t σ H fun x H1=>∃ c,x=.bl c/\Q c H1
theorem zW {op:CmpOp} {t:TE} (h:PC X op a b t) (h1:behindInMarks op b=false:=by first | exact nobehind _ (by decide) (by decide) | rfl):PT X (.Compare a [op] [b] pos) (tB t):=by
 intro pins s σ H Q I hw
 refine wpAny_isTrue_Compare1 (thn (h pins s σ H _ I hw) fun v s1 h1=>thn h1 fun u s2 h2=>thn h2 fun c s3 ⟨x,H1,I1,r1,q1⟩=>?_) h1
 obtain ⟨d,rfl,q⟩:=q1
 cases r1
 exact wpAny_truthy_bool ⟨H1,I1,q⟩
theorem cB {e:Expr} {t:TE} (h:PE X e t) (he:∀ whole,isTrue e X.env whole=(do let v <- whole;standAt e.pos;holding [v] (truthy v)):=by intro _;rfl):PT X e (tB t):=by
 intro pins s σ H Q I hw
 refine isTrue_plain (thn (h pins s σ H _ I hw) fun v s1 ⟨x,H1,I1,r1,q1⟩=>?_) (he _)
 obtain ⟨d,rfl,q⟩:=q1
 cases r1
 exact wpAny_truthy_bool ⟨H1,I1,q⟩
variable {tA tB':TT} {rest:List Expr}
def CF (t u:TT):TT:=fun σ H Q=>t σ H fun c H1=>if c=true then u σ H1 Q else Q false H1
def tOr (t u:TT):TT:=fun σ H Q=>t σ H fun c H1=>if c=true then Q true H1 else u σ H1 Q
def Cy (t:TT):TT:=fun σ H Q=>t σ H fun c H1=>Q (!c) H1
theorem xT (ha:PT X a tA):PW X (.BoolOp .And [a] pos) tA:=by
 intro wh pins s σ H Q I h
 refine isTrue_and (thn (ha pins s σ H Q I h) fun c s1 e=>?_)
 cases c with
 | true=>exact isTrue_and_nil e
 | false=>exact e
theorem fW (ha:PT X a tA):PW X (.BoolOp .Or [a] pos) tA:=by
 intro wh pins s σ H Q I h
 refine isTrue_or (thn (ha pins s σ H Q I h) fun c s1 e=>?_)
 cases c with
 | false=>exact isTrue_or_nil e
 | true=>exact e
theorem zU (ha:PT X a tA) (hb:PW X (.BoolOp .And (b::rest) pos) tB'):PW X (.BoolOp .And (a::b::rest) pos) (CF tA tB'):=by
 intro wh pins s σ H Q I h
 refine isTrue_and (thn (ha pins s σ H _ I h) fun c s1 ⟨H1,I1,q1⟩=>?_)
 cases c with
 | true=>exact hb wh pins s1 σ H1 Q I1 q1
 | false=>exact ⟨H1,I1,q1⟩
theorem jJ (ha:PT X a tA) (hb:PW X (.BoolOp .Or (b::rest) pos) tB'):PW X (.BoolOp .Or (a::b::rest) pos) (tOr tA tB'):=by
 intro wh pins s σ H Q I h
 refine isTrue_or (thn (ha pins s σ H _ I h) fun c s1 ⟨H1,I1,q1⟩=>?_)
 cases c with
 | true=>exact ⟨H1,I1,q1⟩
 | false=>exact hb wh pins s1 σ H1 Q I1 q1
theorem cC (ha:PT X a tA):PT X (.UnaryOp .Not a pos) (Cy tA):=by
 intro pins s σ H Q I h
 exact isTrue_not (ha pins s σ H (fun c H1=>Q (!c) H1) I h)
def Bx (ta tb:TE):TE:=fun σ H Q=>ta σ H fun x H1=>∃ c,x=.bl c/\if c=true then tb σ H1 Q else Q (.bl false) H1
theorem wL {op} {t:TE} (h:PE X a t):PE X (.BoolOp op [a] pos) t:=fun pins s σ H Q I hw=>BoolOp_one (h pins s σ H Q I hw)
theorem sF (ha:PE X a ta) (hb:PE X (.BoolOp .And (b::rest) pos) tb):PE X (.BoolOp .And (a::b::rest) pos) (Bx ta tb):=by
 intro pins s σ H Q I h
 refine BoolOp_and (thn (ha pins s σ H _ I h) fun v s1 ⟨x,H1,I1,r1,q1⟩=>?_)
 obtain ⟨c,rfl,q1⟩:=q1
 cases r1
 refine wpAny_truthy_bool ?_
 cases c with
 | true=>exact hb pins s1 σ H1 Q I1 q1
 | false=>exact ⟨.bl false,H1,I1,rfl,q1⟩
end
end L2
namespace L2
open PySem PySem.Spec PyProof.Rows
def SqL (K:PySem.W.Frag) (H:Hp) (a:Addr) (xs:List V):Prop:=
 Rd H a (.lst xs)\/
  ∃ (o:Obj) (its:Array Value) (n:Nat),K.lookup a=some o/\o.cls=.type "list"/\o.dict=none/\o.data=.seq its n/\its.size<=sizeLine/\ba xs its.toList
def SqT (K:PySem.W.Frag) (H:Hp) (a:Addr) (xs:List V):Prop:=
 Rd H a (.tup xs)\/
  ∃ (o:Obj) (its:Array Value) (n:Nat),K.lookup a=some o/\o.cls=.type "tuple"/\o.data=.seq its n/\its.size<=sizeLine/\ba xs its.toList
def CZ:Value->Option V
 | .none=>some .non
 | .bool b=>some (.bl b)
 | .int i _=>some (.int i)
 | .str x _=>some (.str x)
 | .bytes b _=>some (.byt b)
 | .float b _=>some (.flt b)
 | .ref a=>some (.ref a)
 | .type n=>some (.ty n)
 | _=>none
theorem bB.abs {x:V} {u:Value} (r:bB x u):CZ u=some x:=by
 cases x with
 | non=>cases r;rfl
 | bl _=>cases r;rfl
 | int _=>obtain ⟨t,rfl⟩:=r;rfl
 | str _=>obtain ⟨t,rfl⟩:=r;rfl
 | byt _=>obtain ⟨t,rfl⟩:=r;rfl
 | flt _=>obtain ⟨t,rfl⟩:=r;rfl
 | ref _=>cases r;rfl
 | ty _=>cases r;rfl
theorem bB.inj {x y:V} {u:Value} (r:bB x u) (q:bB y u):x=y:=Dg (r.abs.symm.trans q.abs)
theorem ba.inj:∀ {xs ys:List V} {us:List Value},ba xs us->ba ys us->xs=ys
 | _,_,_,.nil,.nil=>rfl
 | _,_,_,.cons r t,.cons r' t'=>by rw [r.inj r',ba.inj t t']
section
variable {X:Cx} {pins:List (Addr×Obj)} {σ:St} {H:Hp} {s:Shared} {a:Addr} {xs ys:List V}
theorem SqL.of {K:PySem.W.Frag} (h:H a=some (.lst xs)):SqL K H a xs:=.inl (.inl h)
theorem SqT.of {K:PySem.W.Frag} (h:H a=some (.tup xs)):SqT K H a xs:=.inl (.inl h)
theorem Inv.list (I:Inv X pins σ H s) (h:SqL X.K H a xs):∃ its:List Value,ba xs its/\PlainL s.heap a its.toArray/\xs.length<=sizeLine:=by
 rcases h with h | ⟨o,its,n,hk,hc,hd,hs,hz,r⟩
 . obtain ⟨z,its,n,r,e⟩:=h.ok I.hok
   exact ⟨its,r,⟨_,n,e,rfl,rfl,rfl⟩,z⟩
 . refine ⟨its.toList,r,⟨o,n,I.kIn a o hk,hc,hd,by simpa using hs⟩,?_⟩
   have e:=r.length
   simp only [Dc] at e
   omega
theorem Inv.tuple (I:Inv X pins σ H s) (h:SqT X.K H a xs):∃ its:List Value,ba xs its/\IsTup s.heap a its.toArray/\xs.length<=sizeLine:=by
 rcases h with h | ⟨o,its,n,hk,hc,hs,hz,r⟩
 . obtain ⟨z,its,r,p⟩:=h.ok I.hok
   exact ⟨its,r,p.t,z⟩
 . refine ⟨its.toList,r,⟨o,I.kIn a o hk,hc,n,by simpa using hs⟩,?_⟩
   have e:=r.length
   simp only [Dc] at e
   omega
theorem Inv.list_inj (I:Inv X pins σ H s) (h:SqL X.K H a xs) (h':SqL X.K H a ys):xs=ys:=by
 obtain ⟨its,r,⟨o,n,e,_,_,d⟩,_⟩:=I.list h
 obtain ⟨its',r',⟨o',n',e',_,_,d'⟩,_⟩:=I.list h'
 rw [e] at e';cases e'
 rw [d] at d'
 injection d' with d1 _
 have:its=its':=by simpa using Ee Array.toList d1
 subst this
 exact r.inj r'
theorem Inv.tuple_inj (I:Inv X pins σ H s) (h:SqT X.K H a xs) (h':SqT X.K H a ys):xs=ys:=by
 obtain ⟨its,r,⟨o,e,_,n,d⟩,_⟩:=I.tuple h
 obtain ⟨its',r',⟨o',e',_,n',d'⟩,_⟩:=I.tuple h'
 rw [e] at e';cases e'
 rw [d] at d'
 injection d' with d1 _
 have:its=its':=by simpa using Ee Array.toList d1
 subst this
 exact r.inj r'
end
abbrev Cx.wish (X:Cx) (E:Value->Shared->Prop):Cx:={ X with xe:=E }
abbrev Cx.nox (X:Cx):Cx:=X.wish fun _ _=>False
theorem Cx.Ok.wish {X:Cx} (ok:X.Ok) (E:Value->Shared->Prop):(X.wish E).Ok:=
 ⟨ok.mod,ok.kind,ok.glob,ok.blt,ok.above,ok.inj,ok.has,ok.cab,ok.hd,ok.frames,ok.stk,ok.exf,ok.bs,ok.bsz,ok.noex,ok.exfs,ok.funs,ok.frf⟩
theorem Cx.Ok.unwish {X:Cx} {E:Value->Shared->Prop} (ok:(X.wish E).Ok):X.Ok:=
 ⟨ok.mod,ok.kind,ok.glob,ok.blt,ok.above,ok.inj,ok.has,ok.cab,ok.hd,ok.frames,ok.stk,ok.exf,ok.bs,ok.bsz,ok.noex,ok.exfs,ok.funs,ok.frf⟩
section
variable {X:Cx} {pins:List (Addr×Obj)} {σ:St} {H:Hp} {s:Shared} {E:Value->Shared->Prop}
theorem Inv.wish (I:Inv X pins σ H s) (E:Value->Shared->Prop):Inv (X.wish E) pins σ H s:=⟨I.ok.wish E,I.os,I.bare,I.base,I.loc,I.cell,I.free,I.freeC,I.pin,I.hok,I.len⟩
theorem Inv.unwish (I:Inv (X.wish E) pins σ H s):Inv X pins σ H s:=⟨I.ok.unwish,I.os,I.bare,I.base,I.loc,I.cell,I.free,I.freeC,I.pin,I.hok,I.len⟩
theorem SP.unwish {D:uO} {f:Flow} {s':Shared} (h:SP (X.wish E) pins D f s'):SP X pins D f s':=by
 cases f with
 | next=>obtain ⟨σ',H',I,q⟩:=h;exact ⟨σ',H',I.unwish,q⟩
 | brk=>obtain ⟨σ',H',I,q⟩:=h;exact ⟨σ',H',I.unwish,q⟩
 | cont=>obtain ⟨σ',H',I,q⟩:=h;exact ⟨σ',H',I.unwish,q⟩
 | ret u=>obtain ⟨v,σ',H',I,r,q⟩:=h;exact ⟨v,σ',H',I.unwish,r,q⟩
theorem PSs.nox {st:List Stmt} {t:TS} (h:PSs X.nox st t):PSs X st t:=fun pins s σ H D I hw=>
 wpAny_mono (h pins s σ H D (I.wish _) hw) (fun _ _ q=>q.unwish) fun _ _ z=>False.elim z
end
section
variable {X:Cx} {st:Stmt} {rest:List Stmt} {t u:TS} {e:Expr} {te:TE} {pos:Pos}
def Bs:TS:=fun D σ H=>D.nx σ H
def Cv (t u:TS):TS:=fun D σ H=>t { D with nx:=u D } σ H
theorem bj:PSs X [] Bs:=fun _ _ σ H _ I h=>wpAny_execs_nil ⟨σ,H,I,h⟩
theorem ai (h1:PS X st t) (h2:PSs X rest u):PSs X (st::rest) (Cv t u):=by
 intro pins s σ H D I h
 refine wpAny_execs_cons (thn (h1 pins s σ H { D with nx:=u D } I h) fun f s1 q=>?_)
 cases f with
 | next=>
  obtain ⟨σ',H',I',q⟩:=q
  exact h2 pins s1 σ' H' D I' q
 | ret v=>exact q
 | brk=>exact q
 | cont=>exact q
theorem am (h1:PS X st t):PSs X [st] t:=by
 intro pins s σ H D I h
 refine wpAny_execs_cons (thn (h1 pins s σ H D I h) fun f s1 q=>?_)
 cases f with
 | next=>exact wpAny_execs_nil q
 | ret v=>exact q
 | brk=>exact q
 | cont=>exact q
theorem Inv.quiet {pins:List (Addr×Obj)} {σ:St} {H:Hp} {s:Shared} (I:Inv X pins σ H s):interactive X.env=false:=by simp [interactive,I.ok.kind]
def Bt (te:TE):TS:=fun D σ H=>te σ H fun _ H1=>D.nx σ H1
theorem bn (he:PE X e te) (hs:swapsWith e none pos.line X.env=pure false:=by rfl):PS X (.Expr e pos) (Bt te):=by
 intro pins s σ H D I h
 exact wpAny_Expr_any (thn (he pins s σ H _ I h) fun v s1 ⟨x,H1,I1,r1,q1⟩=>⟨σ,H1,I1,q1⟩) I.quiet hs
def Cw (te:TE):TS:=fun D σ H=>te σ H D.rt
theorem aB (he:PE X e te):PS X (.Return (some e) pos) (Cw te):=by
 intro pins s σ H D I h
 exact wpAny_Return_some (thn (he pins s σ H _ I h) fun v s1 ⟨x,H1,I1,r1,q1⟩=>⟨x,σ,H1,I1,r1,q1⟩)
def CA (c:TT) (t u:TS):TS:=fun D σ H=>c σ H fun b H1=>if b=true then t D σ H1 else u D σ H1
theorem cV {c:Expr} {a b:List Stmt} {tc:TT} (hc:PT X c tc) (ha:PSs X a t) (hb:PSs X b u):PS X (.If c a b pos) (CA tc t u):=by
 intro pins s σ H D I h
 refine wpAny_If (thn (hc pins s σ H _ I h) fun d s1 ⟨H1,I1,q1⟩=>?_)
 cases d with
 | true=>exact ha pins s1 σ H1 D I1 q1
 | false=>exact hb pins s1 σ H1 D I1 q1
end
abbrev TG:=V->St->Hp->(St->Hp->Prop)->Prop
abbrev TGs:=List V->St->Hp->(St->Hp->Prop)->Prop
def PG (X:Cx) (target:Expr) (t:TG):Prop:=
 ∀ (pins:List (Addr×Obj)) (s:Shared) (σ:St) (H:Hp) (v:V) (u:Value) (Q:St->Hp->Prop),Inv X pins σ H s->bB v u->t v σ H Q->
  wpAny (model X.prog X.w) X.A (assign target X.env u) (fun _ s'=>∃ σ' H',Inv X pins σ' H' s'/\Q σ' H') X.xe s
def PGs (X:Cx) (ts:List Expr) (t:TGs):Prop:=
 ∀ (pins:List (Addr×Obj)) (s:Shared) (σ:St) (H:Hp) (vs:List V) (us:List Value) (Q:St->Hp->Prop),Inv X pins σ H s->ba vs us->t vs σ H Q->
  wpAny (model X.prog X.w) X.A (assignInOrder ((assignEach ts X.env).map (·.2)) us) (fun _ s'=>∃ σ' H',Inv X pins σ' H' s'/\Q σ' H') X.xe s
abbrev Ce:=V->V->V->Hp->(Hp->Prop)->Prop
def Cq (X:Cx) (t:Ce):Prop:=
 ∀ (pins:List (Addr×Obj)) (s:Shared) (σ:St) (H:Hp) (o i v:V) (ov iv u:Value) (Q:Hp->Prop),Inv X pins σ H s->bB o ov->bB i iv->bB v u->t o i v H Q->
  wpAny (model X.prog X.w) X.A (setItem ov iv u) (fun _ s'=>∃ H',Inv X pins σ H' s'/\Q H') X.xe s
section
variable {X:Cx} {pos:Pos}
def AF (i:Nat):TG:=fun v σ H Q=>Q (σ.set i (some v)) H
theorem aC {i:Nat} {x:Str} (hN:X.N.Nodup) (hi:X.N[i]? =some x) (hx:Loc X.env.scope x) (hf:X.fn x=true\/X.env.scope.names.lookup x=some .local:=by first | exact .inl rfl | exact .inr rfl | assumption):PG X (.Name x pos) (AF i):=by
 intro pins s σ H v u Q I r h
 exact wpAny_assign_Name (oq I hN hi hx r (fun s' I'=>⟨_,H,I',h⟩) hf)
def CU:TGs:=fun vs σ H Q=>vs=[]/\Q σ H
def B5 (t:TG) (u:TGs):TGs:=fun vs σ H Q=>∃ v r,vs=v::r/\t v σ H fun σ' H'=>u r σ' H' Q
theorem cI:PGs X [] CU:=by
 intro pins s σ H vs us Q I r h
 obtain ⟨e,h⟩:=h
 subst e
 cases r
 exact assignInOrder_nil ⟨σ,H,I,h⟩
theorem aP {e:Expr} {es:List Expr} {t:TG} {u:TGs} (h1:PG X e t) (h2:PGs X es u)
    (hs:(assignEach (e::es) X.env).map (·.2)=assign e X.env::(assignEach es X.env).map (·.2):=by rfl):PGs X (e::es) (B5 t u):=by
 intro pins s σ H vs us Q I r h
 obtain ⟨v,vr,e1,h⟩:=h
 subst e1
 cases r with
 | cons r rr=>
  rw [hs]
  refine assignInOrder_cons (thn (h1 pins s σ H _ _ _ I r h) fun _ s1 ⟨σ1,H1,I1,q1⟩=>?_)
  exact h2 pins s1 σ1 H1 _ _ Q I1 rr q1
def Co (K:PySem.W.Frag) (n:Nat) (t:TGs):TG:=fun v σ H Q=>∃ a xs,v=.ref a/\SqT K H a xs/\xs.length=n/\t xs σ H Q
theorem oG {es:List Expr} {k:Nat} {t:TGs} {n:Nat} (hc:X.calm=true) (h:PGs X es t)
    (hn:(assignEach es X.env).length=n:=by rfl) (hst:(assignEach es X.env).findIdx? (·.1)=none:=by rfl):PG X (.Tuple es k pos) (Co X.K n t):=by
 intro pins s σ H v u Q I r hw
 obtain ⟨a,xs,e1,hq,hl,hw⟩:=hw
 subst e1
 cases r
 obtain ⟨its,rv,ht,hz⟩:=I.tuple hq
 refine assign_Tuple_tuple (I.ok.hd hc) ht (by simp [hn,<- hl,rv.length]) hst fun h' hx=>?_
 have I1:Inv X pins σ H { s with heap:=h' }:=I.kept (t':=s.toks) fun b o e=>hx b o (DC (Dp e)) e
 exact h pins _ σ H xs _ Q I1 (by simpa using rv) hw
def CT (to ti:TE) (t:Ce):TG:=fun v σ H Q=>to σ H fun o H1=>ti σ H1 fun i H2=>t o i v H2 fun H3=>Q σ H3
theorem lq {o i:Expr} {to ti:TE} {t:Ce} (ho:PE X o to) (hi:PE X i ti) (hs:Cq X t)
    (ha:∀ v,assign (.Subscript o i pos) X.env v=(do
     let ov <- holding [v] (eval o X.env)
     let iv <- holding [v,ov] (eval i X.env)
     standAt pos
     holding [v,ov,iv] (setItem ov iv v)
     release [v,ov,iv] []):=by intro _;rfl):PG X (.Subscript o i pos) (CT to ti t):=by
 intro pins s σ H v u Q I r h
 rw [ha]
 refine C8 (Eo (thn (ho pins s σ H _ I h) fun ov s1 ⟨x,H1,I1,r1,q1⟩=>?_))
 refine C8 (Eo (thn (hi pins s1 σ H1 _ I1 q1) fun iv s2 ⟨y,H2,I2,r2,q2⟩=>?_))
 refine C8 (wpAny_standAt (C8 (Eo (thn (hs pins s2 σ H2 x y v ov iv u _ I2 r1 r2 r q2) fun _ s3 ⟨H3,I3,q3⟩=>?_))))
 exact wpAny_release ⟨σ,H3,I3,q3⟩
def Ci (te:TE) (g:TG):TS:=fun D σ H=>te σ H fun x H1=>g x σ H1 D.nx
theorem li {tg e:Expr} {te:TE} {g:TG} (he:PE X e te) (hg:PG X tg g) (hs:swapsWithSole [tg] e pos.line X.env=pure false:=by rfl) (hw:swappedStores [tg] e X.env=pure none:=by rfl)
    (h1:(assignEach [tg] X.env).map (·.2)=[assign tg X.env]:=by rfl):PS X (.Assign [tg] e pos) (Ci te g):=by
 intro pins s σ H D I h
 refine wpAny_Assign_stores (thn (he pins s σ H _ I h) fun v s1 ⟨x,H1,I1,r1,q1⟩=>?_) hs hw
 rw [h1]
 exact thn (hg pins s1 σ H1 x v _ I1 r1 q1) fun _ s2 q=>q
theorem aD {i:Nat} {x:Str} {e:Expr} {te:TE} {pos':Pos} (hN:X.N.Nodup) (hi:X.N[i]? =some x) (hx:Loc X.env.scope x) (he:PE X e te) (hs:swapsWith e (some (.Name x pos')) pos.line X.env=pure false:=by rfl) (hf:X.fn x=true\/X.env.scope.names.lookup x=some .local:=by first | exact .inl rfl | exact .inr rfl | assumption):
    PS X (.Assign [.Name x pos'] e pos) (Ci te (AF i)):=by
 intro pins s σ H D I h
 refine wpAny_Assign_Name (thn (he pins s σ H _ I h) fun v s1 ⟨y,H1,I1,r1,q1⟩=>?_) hs
 exact oq I1 hN hi hx r1 (fun s2 I2=>⟨_,H1,I2,q1⟩) hf
end
section
variable {X:Cx} {pos:Pos}
def zi (c:TT) (tb:TS):TS:=fun D σ H=>∃ W:Nat->St->Hp->Prop,(∃ m,W m σ H)/\∀ m σ H,W m σ H->
 c σ H fun b H1=>if b=true then ∃ N:St->Hp->Prop,(∀ σ' H',N σ' H'->∃ m',m'<m/\W m' σ' H')/\tb { D with nx:=N,ct:=N,bk:=D.nx } σ H1 else D.nx σ H1
theorem oC {c:Expr} {body:List Stmt} {tc:TT} {tb:TS} (hp:PassesOwn (model X.prog X.w) X.A X.env X.xe) (hc:PT X c tc) (hb:PSs X body tb):PS X (.While c body [] pos) (zi tc tb):=by
 intro pins s σ H D I h
 obtain ⟨W,⟨m0,w0⟩,turn⟩:=h
 refine wpAny_While (codeAny_whileLoop (fun n s'=>∃ σ' H',Inv X pins σ' H' s'/\W n σ' H') ?_ m0 ⟨σ,H,I,w0⟩)
 rintro n s1 ⟨σ1,H1,I1,w1⟩
 refine wpAny_passesOwn hp (thn (hc pins s1 σ1 H1 _ I1 (turn n σ1 H1 w1)) fun b s2 ⟨H2,I2,q2⟩=>?_)
 cases b with
 | true=>
  obtain ⟨N,hN,q2⟩:=q2
  rw [if_pos rfl]
  refine wpAny_passesOwn hp (thn (hb pins s2 σ1 H2 _ I2 q2) fun f s3 q3=>?_)
  cases f with
  | next=>
   obtain ⟨σ3,H3,I3,n3⟩:=q3
   obtain ⟨m',hm,w3⟩:=hN σ3 H3 n3
   exact ⟨m',hm,σ3,H3,I3,w3⟩
  | cont=>
   obtain ⟨σ3,H3,I3,n3⟩:=q3
   obtain ⟨m',hm,w3⟩:=hN σ3 H3 n3
   exact ⟨m',hm,σ3,H3,I3,w3⟩
  | brk=>exact q3
  | ret v=>exact q3
 | false=>
  rw [if_neg Dn]
  exact wpAny_execs_nil ⟨σ1,H2,I2,q2⟩
end
structure It where
 go:Nat->Hp->Prop
 yld:Nat->Hp->V->Hp->Prop
 stop:Nat->Hp->Prop
def pL (X:Cx) (pins:List (Addr×Obj)) (H:Hp) (b:Addr):Prop:=
 H b=none/\b≠X.env.locals/\b∉X.fs/\(b∈X.ex\/X.s₀.heap.objs.size<=b)/\(∀ x c,X.env.cells.lookup x=some c->c≠b)/\∀ p∈X.pn++pins,p.1≠b
theorem Inv.fpOk {X:Cx} {pins:List (Addr×Obj)} {σ:St} {H H':Hp} {s:Shared} {b:Addr} (I:Inv X pins σ H s) (hb:s.heap.objs.size<=b) (hn:H' b=none):pL X pins H' b:=by
 refine ⟨hn,Nat.ne_of_gt (Do I.lt hb),I.nofs hb,.inr (DP I.sz hb),fun x c e z=>?_,fun p hp z=>?_⟩
 . obtain ⟨v,q⟩:=I.cell x c e
   exact absurd (Do q.lt (by rw [z];exact hb)) (Nat.lt_irrefl _)
 . exact absurd (Do (Dp (I.pin p hp).1) (by rw [z];exact hb)) (Nat.lt_irrefl _)
structure yU (P:Program) (w:World) (K:PySem.W.Frag) (tg:Expr) (J:It) (fp:List Addr) (it:Addr) (tn:Nat->Heap->Prop):Prop where
 mem:it∈fp
 obj:∀ i h,tn i h->∀ b∈fp,∃ o,h.get? b=some o/\∀ v,o.data≠.cell v
 keep:∀ i h h',tn i h->(∀ b∈fp,∀ o,h.get? b=some o->h'.get? b=some o)->tn i h'
 item:∀ (X:Cx),X.prog=P->X.w=w->X.K=K->X.calm=true->∀ (i:Nat) (pins:List (Addr×Obj)) (s:Shared) (σ:St) (H:Hp) (E:Value->Shared->Prop),Inv X pins σ H s->(∀ b∈fp,pL X pins H b)->tn i s.heap->J.go i H->
  wpAny (model P w) X.A (pyNext (.ref it)) (fun r s1=>∃ u,r=some u/\
   wpAny (model P w) X.A (letOwnedTupleGo tg (.ref it) u) (fun _ s2=>∃ x H',Inv X pins σ H' s2/\bB x u/\J.yld i H x H'/\tn (i+1) s2.heap/\∀ b∈fp,H' b=none) E s1) E s
 done:∀ (X:Cx),X.prog=P->X.w=w->X.K=K->X.calm=true->∀ (i:Nat) (pins:List (Addr×Obj)) (s:Shared) (σ:St) (H:Hp) (E:Value->Shared->Prop),Inv X pins σ H s->(∀ b∈fp,pL X pins H b)->tn i s.heap->J.stop i H->
  wpAny (model P w) X.A (pyNext (.ref it)) (fun r s1=>r=none/\Inv X pins σ H s1) E s
 self:∀ (A:Around) (i:Nat) (s:Shared) (Q:Value->Shared->Prop) (E:Value->Shared->Prop),tn i s.heap->Q (.ref it) s->wpAny (model P w) A (pyIter (.ref it)) Q E s
abbrev TI:=St->Hp->(It->Hp->Prop)->Prop
def PIE (X:Cx) (pins:List (Addr×Obj)) (σ:St) (tg:Expr) (R:It->Hp->Prop) (itv:Value) (s2:Shared):Prop:=
 ∃ (it:Addr) (fp:List Addr) (tn:Nat->Heap->Prop) (J:It) (H':Hp),itv=.ref it/\Inv X pins σ H' s2/\yU X.prog X.w X.K tg J fp it tn/\tn 0 s2.heap/\(∀ b∈fp,pL X pins H' b)/\R J H'
def PI (X:Cx) (tg iter:Expr) (wi:TI):Prop:=
 ∀ (pins:List (Addr×Obj)) (s:Shared) (σ:St) (H:Hp) (R:It->Hp->Prop),Inv X pins σ H s->wi σ H R->
  wpAny (model X.prog X.w) X.A (eval iter X.env) (fun v s1=>wpAny (model X.prog X.w) X.A (pyIter v) (PIE X pins σ tg R) X.xe s1) X.xe s
theorem yA {M:Model} {A:Around} {E:Value->Shared->Prop} {s:Shared} {tg:Expr} {it:Addr} {u:Value} {o:Obj} {n:String} {vs:Array Value} {Q:Unit->Shared->Prop} (ho:s.heap.get? it=some o) (hc:o.cls=.type n) (hd:o.data=.fields vs)
    (hn:["enumerate","zip","dict_itemiterator","dict_reverseitemiterator","odict_iterator","itertools.zip_longest","itertools.pairwise"].contains n=false) (hQ:Q () s):wpAny M A (letOwnedTupleGo tg (.ref it) u) Q E s:=by
 unfold letOwnedTupleGo
 cases tg<;>first
  | exact Df hQ
  | (cases u<;>first
      | exact Df hQ
      | (refine C8 (wpAny_load ho ?_)
         rw [hc,hd]
         show wpAny M A (if (["enumerate","zip","dict_itemiterator","dict_reverseitemiterator","odict_iterator","itertools.zip_longest","itertools.pairwise"].contains n && vs[0]? ==some (rawInt _))=true then _ else _) Q E s
         rw [if_neg (by intro h;rw [hn,Bool.false_and] at h;cases h)]
         exact Df hQ))
def Itl (K:PySem.W.Frag) (a:Addr):It:=
 ⟨fun i H=>∃ xs x,SqL K H a xs/\xs[i]? =some x,fun i H x H'=>H'=H/\∀ xs,SqL K H a xs->xs[i]? =some x,fun i H=>∃ xs,SqL K H a xs/\xs.length<=i⟩
def Itt (K:PySem.W.Frag) (a:Addr):It:=
 ⟨fun i H=>∃ xs x,SqT K H a xs/\xs[i]? =some x,fun i H x H'=>H'=H/\∀ xs,SqT K H a xs->xs[i]? =some x,fun i H=>∃ xs,SqT K H a xs/\xs.length<=i⟩
def Itr (lo:Int) (n:Nat):It:=⟨fun i _=>i<n,fun i H x H'=>H'=H/\x=.int (lo+i),fun i _=>n<=i⟩
theorem re {P:Program} {w:World} {K:PySem.W.Frag} {tg:Expr} (a it:Addr):yU P w K tg (Itl K a) [it] it (fun i h=>h.IsListIter it a i) where
 mem:=by simp
 obj:=fun i h st b hb=>by
  have e:b=it:=by simpa using hb
  subst e
  obtain ⟨o,e,c,d⟩:=st
  exact ⟨o,e,fun v z=>by rw [d] at z;cases z⟩
 keep:=fun i h h' st k=>st.at fun o e=>k it (by simp) o e
 item:=by
  intro X hP hw hK hc i pins s σ H E I hf st hg
  subst hP hw hK
  obtain ⟨xs,x,hq,hx⟩:=hg
  obtain ⟨its,rv,p,hz⟩:=I.list hq
  obtain ⟨u,hu,ru⟩:=rv.get hx
  obtain ⟨f0,f1,f2,f3,f4,f5⟩:=hf it (by simp)
  refine wpAny_pyNext_list_item st p.isList (x:=u) (by simpa using hu) fun h' st' sb=>?_
  have I1:Inv X pins σ H { s with heap:=h' }:=I.turned (t':=s.toks) (fun b o hb e=>(sb.2 b hb).trans e) f0 f1 f3 f4 f5
  obtain ⟨o,e,c,d⟩:=id st'
  exact ⟨u,rfl,yA (s:={ s with heap:=h' }) e c d (by decide) ⟨x,H,I1,ru,⟨rfl,fun ys hy=>by rw [I.list_inj hy hq];exact hx⟩,st',fun b hb=>(hf b hb).1⟩⟩
 done:=by
  intro X hP hw hK hc i pins s σ H E I hf st hg
  subst hP hw hK
  obtain ⟨xs,hq,hx⟩:=hg
  obtain ⟨its,rv,p,hz⟩:=I.list hq
  obtain ⟨f0,f1,f2,f3,f4,f5⟩:=hf it (by simp)
  have hl:=rv.length
  exact wpAny_pyNext_list_end (I.ok.hd hc) st p.isList (by simp;omega) fun h' eb=>⟨rfl,I.turned (t':=s.toks) (fun b o hb e=>eb b o hb e) f0 f1 f3 f4 f5⟩
 self:=fun _ _ _ _ _ st h=>wpAny_pyIter_listiter st h
theorem pP {P:Program} {w:World} {K:PySem.W.Frag} {tg:Expr} (a it:Addr):yU P w K tg (Itt K a) [it] it (fun i h=>h.IsTupleIter it a i) where
 mem:=by simp
 obj:=fun i h st b hb=>by
  have e:b=it:=by simpa using hb
  subst e
  obtain ⟨o,e,c,d⟩:=st
  exact ⟨o,e,fun v z=>by rw [d] at z;cases z⟩
 keep:=fun i h h' st k=>st.at fun o e=>k it (by simp) o e
 item:=by
  intro X hP hw hK hc i pins s σ H E I hf st hg
  subst hP hw hK
  obtain ⟨xs,x,hq,hx⟩:=hg
  obtain ⟨its,rv,p,hz⟩:=I.tuple hq
  obtain ⟨u,hu,ru⟩:=rv.get hx
  obtain ⟨f0,f1,f2,f3,f4,f5⟩:=hf it (by simp)
  refine wpAny_pyNext_tuple_item st (show s.heap.IsTuple a its.toArray from p) (x:=u) (by simpa using hu) fun h' st' sb=>?_
  have I1:Inv X pins σ H { s with heap:=h' }:=I.turned (t':=s.toks) (fun b o hb e=>(sb.2 b hb).trans e) f0 f1 f3 f4 f5
  obtain ⟨o,e,c,d⟩:=id st'
  exact ⟨u,rfl,yA (s:={ s with heap:=h' }) e c d (by decide) ⟨x,H,I1,ru,⟨rfl,fun ys hy=>by rw [I.tuple_inj hy hq];exact hx⟩,st',fun b hb=>(hf b hb).1⟩⟩
 done:=by
  intro X hP hw hK hc i pins s σ H E I hf st hg
  subst hP hw hK
  obtain ⟨xs,hq,hx⟩:=hg
  obtain ⟨its,rv,p,hz⟩:=I.tuple hq
  obtain ⟨f0,f1,f2,f3,f4,f5⟩:=hf it (by simp)
  have hl:=rv.length
  exact wpAny_pyNext_tuple_end (I.ok.hd hc) st (show s.heap.IsTuple a its.toArray from p) (by simp;omega) fun h' eb=>⟨rfl,I.turned (t':=s.toks) (fun b o hb e=>eb b o hb e) f0 f1 f3 f4 f5⟩
 self:=fun _ _ _ _ _ st h=>wpAny_pyIter_tupleiter st h
theorem pQ {P:Program} {w:World} {K:PySem.W.Frag} {tg:Expr} (it:Addr) (lo:Int) (n:Nat):yU P w K tg (Itr lo n) [it] it (fun i h=>IsRangeIter h it (lo+(i:Nat)*1) ((n:Int)-(i:Nat)) 1) where
 mem:=by simp
 obj:=fun i h st b hb=>by
  have e:b=it:=by simpa using hb
  subst e
  exact ⟨_,st,fun v z=>by
   have z':Data.fields _=Data.cell v:=z
   cases z'⟩
 keep:=fun i h h' st k=>k it (by simp) _ st
 item:=by
  intro X hP hw hK hc i pins s σ H E I hf st hg
  subst hP hw hK
  obtain ⟨f0,f1,f2,f3,f4,f5⟩:=hf it (by simp)
  have W:=Walks.range (prog:=X.prog) (w:=X.w) (I.ok.hd hc) it lo 1 n
  refine W.item i s _ _ hg st fun v h' tk hv st' kk=>?_
  obtain ⟨t,rfl⟩:=hv
  have I1:Inv X pins σ H { s with heap:=h',toks:=tk }:=I.turned (fun b o hb e=>kk b o (by simpa using hb) e) f0 f1 f3 f4 f5
  refine ⟨_,rfl,yA (s:={ s with heap:=h',toks:=tk }) (n:="range_iterator") st' rfl rfl (by decide) ⟨.int (lo+i),H,I1,⟨t,?_⟩,⟨rfl,rfl⟩,st',fun b hb=>(hf b hb).1⟩⟩
  rw [Int.mul_one]
 done:=by
  intro X hP hw hK hc i pins s σ H E I hf st hg
  subst hP hw hK
  obtain ⟨f0,f1,f2,f3,f4,f5⟩:=hf it (by simp)
  exact wpAny_pyNext_range_end (I.ok.hd hc) st (by have:n<=i:=hg;omega) fun h' eb=>⟨rfl,I.turned (t':=s.toks) (fun b o hb e=>eb b o hb e) f0 f1 f3 f4 f5⟩
 self:=fun _ _ _ _ _ st h=>wpAny_pyIter_rangeiter st h
end L2
namespace L2
open PySem PySem.Spec PyProof.Rows
section
variable {X:Cx} {tg:Expr}
def B2 (K:PySem.W.Frag) (tl:TE):TI:=fun σ H R=>tl σ H fun x H1=>∃ a,x=.ref a/\(∃ xs,SqL K H1 a xs)/\R (Itl K a) H1
def CS (K:PySem.W.Frag) (tl:TE):TI:=fun σ H R=>tl σ H fun x H1=>∃ a,x=.ref a/\(∃ xs,SqT K H1 a xs)/\R (Itt K a) H1
theorem cj {l:Expr} {tl:TE} (hl:PE X l tl):PI X tg l (B2 X.K tl):=by
 intro pins s σ H R I h
 refine thn (hl pins s σ H _ I h) fun v s1 ⟨x,H1,I1,r1,q1⟩=>?_
 obtain ⟨a,e,⟨xs,hq⟩,q⟩:=q1
 subst e
 cases r1
 obtain ⟨its,rv,p,hz⟩:=I1.list hq
 refine wpAny_pyIter_list p.isList ?_
 refine ⟨s1.heap.objs.size,[s1.heap.objs.size],_,_,H1,rfl,I1.kept (t':=s1.toks) fun b o e=>Dd _ e,re a _,⟨_,Ds _ rfl,rfl,rfl⟩,fun b hb=>?_,q⟩
 have e:b=s1.heap.objs.size:=by simpa using hb
 subst e
 exact I1.fpOk (Dh _) (I1.hok.fresh (Dh _))
theorem oD {l:Expr} {tl:TE} (hl:PE X l tl):PI X tg l (CS X.K tl):=by
 intro pins s σ H R I h
 refine thn (hl pins s σ H _ I h) fun v s1 ⟨x,H1,I1,r1,q1⟩=>?_
 obtain ⟨a,e,⟨xs,hq⟩,q⟩:=q1
 subst e
 cases r1
 obtain ⟨its,rv,p,hz⟩:=I1.tuple hq
 refine wpAny_pyIter_tuple (show s1.heap.IsTuple a its.toArray from p) ?_
 refine ⟨s1.heap.objs.size,[s1.heap.objs.size],_,_,H1,rfl,I1.kept (t':=s1.toks) fun b o e=>Dd _ e,pP a _,⟨_,Ds _ rfl,rfl,rfl⟩,fun b hb=>?_,q⟩
 have e:b=s1.heap.objs.size:=by simpa using hb
 subst e
 exact I1.fpOk (Dh _) (I1.hok.fresh (Dh _))
theorem vy {pins:List (Addr×Obj)} {σ:St} {H:Hp} {s:Shared} {R:It->Hp->Prop} {E:Value->Shared->Prop} {lo hi:Int} {t u v:Tok} {tk:Nat} (I:Inv X pins σ H s) (h1: -(2^62)<=lo) (h2:lo<2^62) (h3: -(2^62)<=hi) (h4:hi<2^62)
    (q:R (Itr lo (hi-lo).toNat) H):wpAny (model X.prog X.w) X.A (pyIter (.ref s.heap.objs.size)) (PIE X pins σ tg R) E { s with heap:=s.heap.push { cls:=.type "range",data:=.fields #[.int lo t,.int hi u,.int 1 v] },toks:=tk }:=by
 refine wpAny_pyIter_range (IsRange.new ..) (small_one h1 h2 h3 h4) ?_
 have I1:Inv X pins σ H { s with heap:=s.heap.push { cls:=.type "range",data:=.fields #[.int lo t,.int hi u,.int 1 v] },toks:=tk }:=I.kept fun b o e=>Dd _ e
 refine ⟨(s.heap.push { cls:=.type "range",data:=.fields #[.int lo t,.int hi u,.int 1 v] }).objs.size,[(s.heap.push { cls:=.type "range",data:=.fields #[.int lo t,.int hi u,.int 1 v] }).objs.size],_,_,H,rfl,
  I1.kept (t':=tk) fun b o e=>Dd _ e,pQ _ lo (hi-lo).toNat,?_,fun b hb=>?_,q⟩
 . have e1:lo+((0:Nat):Int)*1=lo:=by simp
   have e2:(((hi-lo).toNat:Nat):Int)-((0:Nat):Int)=Builtin.Range.rangeSize lo hi 1:=by rw [rangeSize_one];split<;>omega
   show IsRangeIter _ _ (lo+((0:Nat):Int)*1) ((((hi-lo).toNat:Nat):Int)-((0:Nat):Int)) 1
   rw [e1,e2]
   exact Ds _ rfl
 . have e:b=(s.heap.push { cls:=.type "range",data:=.fields #[.int lo t,.int hi u,.int 1 v] }).objs.size:=by simpa using hb
   subst e
   exact I1.fpOk (Dh _) (I1.hok.fresh (Dh _))
def B0 (ta:TA):TI:=fun σ H R=>ta σ H fun vs H1=>∃ j:Int,vs=[.int j]/\-(2^62)<=j/\j<2^62/\R (Itr 0 j.toNat) H1
theorem cQ {a:Expr} {ta:TA} {p pos:Pos} (hg:Gl X "range") (hm:X.mg "range"=none) (ha:PA X [a] ta) (hs:starEach [a] X.env=[(false,eval a X.env)]:=by rfl):PI X tg (.Call (.Name "range" p) [a] [] pos) (B0 ta):=by
 intro pins s σ H R I h
 refine Call_ (fj I hg hm boot_range (Ew (thn (ha pos pins s σ H _ I h) fun us s1 ⟨vs,H1,I1,r1,q1⟩=>?_) hs rfl))
 obtain ⟨j,e,q1,q2,q⟩:=q1
 subst e
 cases r1 with
 | cons r rr=>
  cases rr
  obtain ⟨t,rfl⟩:=r
  exact call_range_1 (vy I1 (by omega) (by omega) q1 q2 (by simpa using q))
def CB (wi:TI) (g:TG) (tb:TS):TS:=fun D σ H=>wi σ H fun J H1=>∃ W:Nat->Nat->St->Hp->Prop,(∃ m,W 0 m σ H1)/\∀ i m σ H,W i m σ H->
 (J.stop i H/\D.nx σ H)\/(J.go i H/\∃ N:St->Hp->Prop,(∀ σ' H',N σ' H'->∃ m',m'<m/\W (i+1) m' σ' H')/\∀ x H',J.yld i H x H'->g x σ H' fun σ2 H2=>tb { D with nx:=N,ct:=N,bk:=D.nx } σ2 H2)
def lj (fp:List Addr) (h:Heap):List (Addr×Obj):=fp.filterMap fun b=>(h.get? b).map fun o=>(b,o)
theorem dO {fp:List Addr} {h:Heap} {b:Addr} {o:Obj} (hb:b∈fp) (e:h.get? b=some o):(b,o)∈lj fp h:=List.mem_filterMap.mpr ⟨b,hb,by rw [e];rfl⟩
theorem sQ {fp:List Addr} {h:Heap} {p:Addr×Obj} (hp:p∈lj fp h):p.1∈fp/\h.get? p.1=some p.2:=by
 obtain ⟨b,hb,e⟩:=List.mem_filterMap.mp hp
 cases q:h.get? b with
 | none=>rw [q] at e;cases e
 | some o=>
  rw [q] at e
  have e':(b,o)=p:=Dg e
  subst e'
  exact ⟨hb,q⟩
theorem Inv.pinned {pins:List (Addr×Obj)} {σ:St} {H:Hp} {s:Shared} {fp:List Addr} (I:Inv X pins σ H s) (hf:∀ b∈fp,pL X pins H b) (ho:∀ b∈fp,∃ o,s.heap.get? b=some o/\∀ v,o.data≠.cell v):Inv X (pins++lj fp s.heap) σ H s:=
 I.pins_of fun p hp=>(DN.mp hp).elim (fun z=>I.pin p (DT _ z)) fun z=>by
  obtain ⟨hb,e⟩:=sQ z
  obtain ⟨f0,f1,f2,_⟩:=hf p.1 hb
  obtain ⟨o,e',d⟩:=ho p.1 hb
  rw [e] at e';cases e'
  exact ⟨e,f0,f1,f2,d⟩
theorem Inv.unpinned {pins pl:List (Addr×Obj)} {σ:St} {H:Hp} {s:Shared} (I:Inv X (pins++pl) σ H s):Inv X pins σ H s:=I.pins_of fun p hp=>I.pin p (DT _ (List.mem_append_left _ hp))
theorem cD {iter:Expr} {body:List Stmt} {wi:TI} {g:TG} {tb:TS} {pos:Pos} (hp:PassesOwn (model X.prog X.w) X.A X.env X.xe) (hc:X.calm=true) (hi:PI X tg iter wi) (hg:PG X tg g) (hb:PSs X body tb)
    (hs:∀ x,foldedSetIterable iter X.env x=pure x:=by intro _;rfl):PS X (.For tg iter body [] pos) (CB wi g tb):=by
 intro pins s σ H D I h
 refine wpAny_For (thn (hi pins s σ H _ I h) fun v s1 h1=>thn h1 fun itv s2 h2=>?_) hs
 obtain ⟨it,fp,tn,J,H2,e,I2,T,st2,f2,W,⟨m0,w0⟩,turn⟩:=h2
 subst e
 have stat:∀ {H':Hp},(∀ b∈fp,H' b=none)->∀ b∈fp,pL X pins H' b:=fun hn b hb=>⟨hn b hb,(f2 b hb).2⟩
 refine codeAny_forLoop_any (fun n s'=>∃ i σ' H',Inv X pins σ' H' s'/\tn i s'.heap/\(∀ b∈fp,H' b=none)/\W i n σ' H') ?_ m0 ⟨0,σ,H2,I2,st2,fun b hb=>(f2 b hb).1,w0⟩
 rintro n s3 ⟨i,σ3,H3,I3,st3,fr3,w3⟩
 rcases turn i n σ3 H3 w3 with ⟨stop,qn⟩ | ⟨go,N,hN,step⟩
 . refine wpAny_passesOwn hp (thn (T.done X rfl rfl rfl hc i pins s3 σ3 H3 X.xe I3 (stat fr3) st3 stop) fun r s4 ⟨hr,I4⟩=>?_)
   subst hr
   exact wpAny_execs_nil ⟨σ3,H3,I4,qn⟩
 . refine wpAny_passesOwn hp (thn (T.item X rfl rfl rfl hc i pins s3 σ3 H3 X.xe I3 (stat fr3) st3 go) fun r s4 ⟨u,hr,h4⟩=>?_)
   subst hr
   refine wpAny_passesOwn hp (thn h4 fun _ s5 ⟨x,H5,I5,r5,y5,st5,fr5⟩=>?_)
   have I5':=I5.pinned (stat fr5) (T.obj _ _ st5)
   refine wpAny_passesOwn hp (thn (hg _ s5 σ3 H5 x u _ I5' r5 (step x H5 y5)) fun _ s6 ⟨σ6,H6,I6,q6⟩=>?_)
   refine wpAny_passesOwn hp (thn (hb _ s6 σ6 H6 _ I6 q6) fun f s7 q7=>?_)
   have again:∀ {σ7:St} {H7:Hp},Inv X (pins++lj fp s5.heap) σ7 H7 s7->N σ7 H7->∃ m,m<n/\∃ i σ' H',Inv X pins σ' H' s7/\tn i s7.heap/\(∀ b∈fp,H' b=none)/\W i m σ' H':=fun {σ7 H7} I7 n7=>by
    obtain ⟨m',hm,w7⟩:=hN σ7 H7 n7
    refine ⟨m',hm,i+1,σ7,H7,I7.unpinned,T.keep _ _ _ st5 fun b hb o e=>(I7.pin (b,o) (DT _ (DT _ (dO hb e)))).1,fun b hb=>?_,w7⟩
    obtain ⟨o,e,d⟩:=T.obj _ _ st5 b hb
    exact (I7.pin (b,o) (DT _ (DT _ (dO hb e)))).2.1
   cases f with
   | next=>obtain ⟨σ7,H7,I7,n7⟩:=q7;exact again I7 n7
   | cont=>obtain ⟨σ7,H7,I7,n7⟩:=q7;exact again I7 n7
   | brk=>obtain ⟨σ7,H7,I7,q7⟩:=q7;exact ⟨σ7,H7,I7.unpinned,q7⟩
   | ret v=>obtain ⟨x7,σ7,H7,I7,r7,q7⟩:=q7;exact ⟨x7,σ7,H7,I7.unpinned,r7,q7⟩
end
theorem gQ {K:PySem.W.Frag} {a:Addr} {xs:List V} {g:TG} {tb:TS} {D:uO} {σ:St} {H:Hp} (Pv:Nat->St->Hp->Prop) (h0:Pv 0 σ H) (hl:∀ i σ H,i<=xs.length->Pv i σ H->SqL K H a xs)
    (hs:∀ i x σ H,xs[i]? =some x->Pv i σ H->g x σ H fun σ2 H2=>tb { D with nx:=Pv (i+1),ct:=Pv (i+1),bk:=D.nx } σ2 H2) (hd:∀ σ H,Pv xs.length σ H->D.nx σ H):
    ∃ W:Nat->Nat->St->Hp->Prop,(∃ m,W 0 m σ H)/\∀ i m σ H,W i m σ H->
     ((Itl K a).stop i H/\D.nx σ H)\/((Itl K a).go i H/\∃ N:St->Hp->Prop,(∀ σ' H',N σ' H'->∃ m',m'<m/\W (i+1) m' σ' H')/\∀ x H',(Itl K a).yld i H x H'->g x σ H' fun σ2 H2=>tb { D with nx:=N,ct:=N,bk:=D.nx } σ2 H2):=by
 refine ⟨fun i m σ H=>m=xs.length-i/\i<=xs.length/\Pv i σ H,⟨xs.length,by simp,DD _,h0⟩,?_⟩
 rintro i m σ H ⟨rfl,hi,p⟩
 have q:=hl i σ H hi p
 by_cases hlt:i<xs.length
 . refine .inr ⟨⟨xs,xs[i],q,by simp [hlt]⟩,Pv (i+1),fun σ' H' p'=>⟨xs.length-(i+1),by omega,rfl,hlt,p'⟩,fun x H' y=>?_⟩
   obtain ⟨e,y⟩:=y
   subst e
   exact hs i x σ _ (y xs q) p
 . have e:i=xs.length:=by omega
   subst e
   exact .inl ⟨⟨xs,q,Dh _⟩,hd σ H p⟩
theorem tY {K:PySem.W.Frag} {a:Addr} {xs:List V} {g:TG} {tb:TS} {D:uO} {σ:St} {H:Hp} (Pv:Nat->St->Hp->Prop) (h0:Pv 0 σ H) (hl:∀ i σ H,i<=xs.length->Pv i σ H->SqT K H a xs)
    (hs:∀ i x σ H,xs[i]? =some x->Pv i σ H->g x σ H fun σ2 H2=>tb { D with nx:=Pv (i+1),ct:=Pv (i+1),bk:=D.nx } σ2 H2) (hd:∀ σ H,Pv xs.length σ H->D.nx σ H):
    ∃ W:Nat->Nat->St->Hp->Prop,(∃ m,W 0 m σ H)/\∀ i m σ H,W i m σ H->
     ((Itt K a).stop i H/\D.nx σ H)\/((Itt K a).go i H/\∃ N:St->Hp->Prop,(∀ σ' H',N σ' H'->∃ m',m'<m/\W (i+1) m' σ' H')/\∀ x H',(Itt K a).yld i H x H'->g x σ H' fun σ2 H2=>tb { D with nx:=N,ct:=N,bk:=D.nx } σ2 H2):=by
 refine ⟨fun i m σ H=>m=xs.length-i/\i<=xs.length/\Pv i σ H,⟨xs.length,by simp,DD _,h0⟩,?_⟩
 rintro i m σ H ⟨rfl,hi,p⟩
 have q:=hl i σ H hi p
 by_cases hlt:i<xs.length
 . refine .inr ⟨⟨xs,xs[i],q,by simp [hlt]⟩,Pv (i+1),fun σ' H' p'=>⟨xs.length-(i+1),by omega,rfl,hlt,p'⟩,fun x H' y=>?_⟩
   obtain ⟨e,y⟩:=y
   subst e
   exact hs i x σ _ (y xs q) p
 . have e:i=xs.length:=by omega
   subst e
   exact .inl ⟨⟨xs,q,Dh _⟩,hd σ H p⟩
theorem dC {lo:Int} {n:Nat} {g:TG} {tb:TS} {D:uO} {σ:St} {H:Hp} (Pv:Nat->St->Hp->Prop) (h0:Pv 0 σ H)
    (hs:∀ i σ H,i<n->Pv i σ H->g (.int (lo+i)) σ H fun σ2 H2=>tb { D with nx:=Pv (i+1),ct:=Pv (i+1),bk:=D.nx } σ2 H2) (hd:∀ σ H,Pv n σ H->D.nx σ H):
    ∃ W:Nat->Nat->St->Hp->Prop,(∃ m,W 0 m σ H)/\∀ i m σ H,W i m σ H->
     ((Itr lo n).stop i H/\D.nx σ H)\/((Itr lo n).go i H/\∃ N:St->Hp->Prop,(∀ σ' H',N σ' H'->∃ m',m'<m/\W (i+1) m' σ' H')/\∀ x H',(Itr lo n).yld i H x H'->g x σ H' fun σ2 H2=>tb { D with nx:=N,ct:=N,bk:=D.nx } σ2 H2):=by
 refine ⟨fun i m σ H=>m=n-i/\i<=n/\Pv i σ H,⟨n,by simp,DD _,h0⟩,?_⟩
 rintro i m σ H ⟨rfl,hi,p⟩
 by_cases hlt:i<n
 . refine .inr ⟨hlt,Pv (i+1),fun σ' H' p'=>⟨n-(i+1),by omega,rfl,hlt,p'⟩,fun x H' y=>?_⟩
   obtain ⟨e,y⟩:=y
   subst e y
   exact hs i σ _ hlt p
 . have e:i=n:=by omega
   subst e
   exact .inl ⟨Dh _,hd σ H p⟩
end L2
namespace L2
open PySem PySem.Spec PyProof.Rows
abbrev R2:=V->V->Hp->VK->Prop
def OpR (X:Cx) (f:Value->Value->Sem Value) (r:R2):Prop:=
 ∀ (pins:List (Addr×Obj)) (s:Shared) (σ:St) (H:Hp) (x y:V) (v u:Value) (Q:VK),Inv X pins σ H s->bB x v->bB y u->r x y H Q->
  wpAny (model X.prog X.w) X.A (f v u) (EP X pins σ Q) X.xe s
def UnR (X:Cx) (f:Value->Sem Value) (r:V->Hp->VK->Prop):Prop:=
 ∀ (pins:List (Addr×Obj)) (s:Shared) (σ:St) (H:Hp) (x:V) (v:Value) (Q:VK),Inv X pins σ H s->bB x v->r x H Q->
  wpAny (model X.prog X.w) X.A (f v) (EP X pins σ Q) X.xe s
def dF (X:Cx) (f:Value) (r:List V->Hp->VK->Prop):Prop:=
 ∀ (pins:List (Addr×Obj)) (s:Shared) (σ:St) (H:Hp) (xs:List V) (us:List Value) (Q:VK),Inv X pins σ H s->ba xs us->r xs H Q->
  wpAny (model X.prog X.w) X.A (call f us) (EP X pins σ Q) X.xe s
def tOp (r:R2) (ta tb:TE):TE:=fun σ H Q=>ta σ H fun x H1=>tb σ H1 fun y H2=>r x y H2 Q
def tUn (r:V->Hp->VK->Prop) (ta:TE):TE:=fun σ H Q=>ta σ H fun x H1=>r x H1 Q
def rI (C:Int->Int->Prop) (g:Int->Int->V):R2:=fun x y H Q=>∃ i j,x=.int i/\y=.int j/\C i j/\Q (g i j) H
def rI0 (g:Int->Int->V):R2:=fun x y H Q=>∃ i j,x=.int i/\y=.int j/\Q (g i j) H
def rU (g:Int->V):V->Hp->VK->Prop:=fun x H Q=>∃ i,x=.int i/\Q (g i) H
section
variable {X:Cx} {a b c:Expr} {ta tb tc:TE} {pos:Pos}
theorem Cb (ha:PE X a ta) (hb:PE X b tb) {pins:List (Addr×Obj)} {s:Shared} {σ:St} {H:Hp} {R:V->V->Hp->Prop} (I:Inv X pins σ H s)
    (h:ta σ H fun x H1=>tb σ H1 fun y H2=>R x y H2) {Q:Value->Shared->Prop} {f:Value->Value->Sem Value}
    (hf:∀ v u s2 x y H2,Inv X pins σ H2 s2->bB x v->bB y u->R x y H2->wpAny (model X.prog X.w) X.A (f v u) Q X.xe s2):
    wpAny (model X.prog X.w) X.A (eval a X.env) (fun v s₁=>wpAny (model X.prog X.w) X.A (eval b X.env) (fun u s₂=>wpAny (model X.prog X.w) X.A (f v u) Q X.xe s₂) X.xe s₁) X.xe s:=by
 refine thn (ha pins s σ H _ I h) fun v s1 ⟨x,H1,I1,r1,q1⟩=>?_
 refine thn (hb pins s1 σ H1 _ I1 q1) fun u s2 ⟨y,H2,I2,r2,q2⟩=>?_
 exact hf v u s2 x y H2 I2 r1 r2 q2
theorem aN {op:Operator} {r:R2} (ho:OpR X (binaryOp op) r) (ha:PE X a ta) (hb:PE X b tb):PE X (.BinOp a op b pos) (tOp r ta tb):=by
 intro pins s σ H Q I h
 exact wpAny_BinOp (Cb ha hb I h fun v u s2 x y H2 I2 rx ry q=>ho pins s2 σ H2 x y v u Q I2 rx ry q)
theorem xX {op:UnaryOp} {r:V->Hp->VK->Prop} (ho:UnR X (unaryOp op) r) (ha:PE X a ta):PE X (.UnaryOp op a pos) (tUn r ta):=by
 intro pins s σ H Q I h
 exact UnaryOp_ (thn (ha pins s σ H _ I h) fun v s1 ⟨x,H1,I1,r1,q1⟩=>ho pins s1 σ H1 x v Q I1 r1 q1)
theorem opI {f:Value->Value->Sem Value} {C:Int->Int->Prop} {g:Int->Int->Int}
    (rule:∀ (i j:Int) (t u:Tok) (s:Shared) (Q:Value->Shared->Prop) (E:Value->Shared->Prop),C i j->Q (.int (g i j) s.toks) { s with toks:=s.toks+1 }->wpAny (model X.prog X.w) X.A (f (.int i t) (.int j u)) Q E s):
    OpR X f (rI C fun i j=>.int (g i j)):=by
 intro pins s σ H x y v u Q I rx ry h
 obtain ⟨i,j,rfl,rfl,hc,q⟩:=h
 obtain ⟨t,rfl⟩:=rx
 obtain ⟨t',rfl⟩:=ry
 exact rule i j t t' s _ _ hc ⟨.int (g i j),H,I.tok _,⟨_,rfl⟩,q⟩
theorem Cn {f:Value->Value->Sem Value} {g:Int->Int->Int}
    (rule:∀ (i j:Int) (t u:Tok) (s:Shared) (Q:Value->Shared->Prop) (E:Value->Shared->Prop),Q (.int (g i j) s.toks) { s with toks:=s.toks+1 }->wpAny (model X.prog X.w) X.A (f (.int i t) (.int j u)) Q E s):
    OpR X f (rI0 fun i j=>.int (g i j)):=by
 intro pins s σ H x y v u Q I rx ry h
 obtain ⟨i,j,rfl,rfl,q⟩:=h
 obtain ⟨t,rfl⟩:=rx
 obtain ⟨t',rfl⟩:=ry
 exact rule i j t t' s _ _ ⟨.int (g i j),H,I.tok _,⟨_,rfl⟩,q⟩
theorem BS {f:Value->Value->Sem Value} {g:Int->Int->Bool}
    (rule:∀ (i j:Int) (t u:Tok) (s:Shared) (Q:Value->Shared->Prop) (E:Value->Shared->Prop),Q (.bool (g i j)) s->wpAny (model X.prog X.w) X.A (f (.int i t) (.int j u)) Q E s):
    OpR X f (rI0 fun i j=>.bl (g i j)):=by
 intro pins s σ H x y v u Q I rx ry h
 obtain ⟨i,j,rfl,rfl,q⟩:=h
 obtain ⟨t,rfl⟩:=rx
 obtain ⟨t',rfl⟩:=ry
 exact rule i j t t' s _ _ ⟨.bl (g i j),H,I,rfl,q⟩
def C5 (i j:Int):Prop:=0<j/\j<1073741824
def C4 (i j:Int):Prop:=0<=j/\j<=1000000/\i.natAbs<2^64
def Cg (i j:Int):Prop:=(-(2^64)<i/\i<2^64)\/(-(2^64)<j/\j<2^64)
theorem Cg.ok {i j:Int} (h:Cg i j):IntMulOk i j:=by
 rcases h with ⟨h1,h2⟩ | ⟨h1,h2⟩
 . exact .of_left (intBits_le_64 h1 h2)
 . exact .of_right (intBits_le_64 h1 h2)
theorem bt:OpR X (binaryOp .Add) (rI0 fun i j=>.int (i+j)):=Cn fun _ _ _ _ _ _ _ q=>add_int q
theorem ip:OpR X (binaryOp .Sub) (rI0 fun i j=>.int (i-j)):=Cn fun _ _ _ _ _ _ _ q=>sub_int q
theorem ja:OpR X (binaryOp .Mult) (rI Cg fun i j=>.int (i*j)):=opI fun _ _ _ _ _ _ _ hc q=>mul_int q hc.ok
theorem sN:OpR X (binaryOp .FloorDiv) (rI C5 fun i j=>.int (i / j)):=opI fun i j _ _ _ _ _ hc q=>by
 have h1:(0:Int)<j:=hc.1
 have h2:j<1073741824:=hc.2
 exact floordiv_int (by omega) (by rw [Int.fdiv_eq_ediv_of_nonneg i (by omega)];exact q) (.inl (PyProof.noPylong_small (by omega)))
theorem jb:OpR X (binaryOp .Mod) (rI (fun _ j=>0<j) fun i j=>.int (i%j)):=opI fun i j _ _ _ _ _ hc q=>by
 have h1:(0:Int)<j:=hc
 exact mod_int' (by omega) (by rw [Int.fmod_eq_emod_of_nonneg i (by omega)];exact q)
theorem Ab:OpR X (binaryOp .Pow) (rI C4 fun i j=>.int (i^j.toNat)):=opI fun _ _ _ _ _ _ _ hc q=>pow_int_small hc.1 hc.2.1 hc.2.2 q
theorem unI {f:Value->Sem Value} {g:Int->Int}
    (rule:∀ (i:Int) (t:Tok) (s:Shared) (Q:Value->Shared->Prop) (E:Value->Shared->Prop),Q (.int (g i) s.toks) { s with toks:=s.toks+1 }->wpAny (model X.prog X.w) X.A (f (.int i t)) Q E s):
    UnR X f (rU fun i=>.int (g i)):=by
 intro pins s σ H x v Q I rx h
 obtain ⟨i,rfl,q⟩:=h
 obtain ⟨t,rfl⟩:=rx
 exact rule i t s _ _ ⟨.int (g i),H,I.tok _,⟨_,rfl⟩,q⟩
theorem rb:UnR X (unaryOp .USub) (rU fun i=>.int (-i)):=unI fun _ _ _ _ _ q=>neg_int q
end
def Cj:V->V->Bool
 | .non,.non=>true | .non,.int _=>true | .int _,.non=>true | .non,.bl _=>true | .bl _,.non=>true | .non,.str _=>true | .str _,.non=>true
 | .int _,.int _=>true | .bl _,.bl _=>true | .str _,.str _=>true | .byt _,.byt _=>true
 | .int _,.str _=>true | .str _,.int _=>true | .bl _,.str _=>true | .str _,.bl _=>true
 | _,_=>false
def rEq:R2:=fun x y H Q=>Cj x y=true/\Q (.bl (decide (x=y))) H
def rNe:R2:=fun x y H Q=>Cj x y=true/\Q (.bl (!decide (x=y))) H
theorem ug {i j:Int}:decide (V.int i=V.int j)=(i==j):=by
 rw [Bool.eq_iff_iff]
 simp
theorem wY {i j:Bool}:decide (V.bl i=V.bl j)=(i==j):=by
 rw [Bool.eq_iff_iff]
 simp
theorem uf {i j:Str}:decide (V.str i=V.str j)=(i==j):=by
 rw [Bool.eq_iff_iff]
 simp
theorem uh {i j:Array UInt8}:decide (V.byt i=V.byt j)=(i.toList==j.toList):=by
 rw [Bool.eq_iff_iff]
 cases i
 cases j
 simp
section
variable {X:Cx} {a b c:Expr} {ta tb tc:TE} {pos:Pos}
theorem aT {pins:List (Addr×Obj)} {σ:St} {H:Hp} {s:Shared} {Q:VK} {k k':Bool} (I:Inv X pins σ H s) (q:Q (.bl k) H) (e:k=k'):EP X pins σ Q (.bool k') s:=by
 subst e
 exact ⟨.bl k,H,I,rfl,q⟩
theorem vK:OpR X (compareOp .Eq) rEq:=by
 intro pins s σ H x y v u Q I rx ry h
 obtain ⟨hs,q⟩:=h
 cases x with
 | non=>
  cases rx
  cases y with
  | non=>cases ry;exact PySem.EqNone.eq_none_none (aT I q (by simp))
  | bl j=>cases ry;exact PySem.EqNone.eq_none_bool (aT I q (by simp))
  | int j=>obtain ⟨t',rfl⟩:=ry;exact PySem.EqNone.eq_none_int (aT I q (by simp))
  | str j=>obtain ⟨t',rfl⟩:=ry;exact PySem.EqNone.eq_none_str (aT I q (by simp))
  | _=>exact absurd (show false=true from hs) Dn
 | bl i=>
  cases rx
  cases y with
  | non=>cases ry;exact PySem.EqNone.eq_bool_none (aT I q (by simp))
  | bl j=>cases ry;exact eq_bool (aT I q wY)
  | str j=>obtain ⟨t',rfl⟩:=ry;exact PySem.EqMixed.eq_bool_str (aT I q (by simp))
  | _=>exact absurd (show false=true from hs) Dn
 | int i=>
  obtain ⟨t,rfl⟩:=rx
  cases y with
  | non=>cases ry;exact PySem.EqNone.eq_int_none (aT I q (by simp))
  | int j=>obtain ⟨t',rfl⟩:=ry;exact eq_int (aT I q ug)
  | str j=>obtain ⟨t',rfl⟩:=ry;exact PySem.EqMixed.eq_int_str (aT I q (by simp))
  | _=>exact absurd (show false=true from hs) Dn
 | str i=>
  obtain ⟨t,rfl⟩:=rx
  cases y with
  | non=>cases ry;exact PySem.EqNone.eq_str_none (aT I q (by simp))
  | bl j=>cases ry;exact PySem.EqMixed.eq_str_bool (aT I q (by simp))
  | int j=>obtain ⟨t',rfl⟩:=ry;exact PySem.EqMixed.eq_str_int (aT I q (by simp))
  | str j=>obtain ⟨t',rfl⟩:=ry;exact eq_str (aT I q uf)
  | _=>exact absurd (show false=true from hs) Dn
 | byt i=>
  obtain ⟨t,rfl⟩:=rx
  cases y with
  | byt j=>obtain ⟨t',rfl⟩:=ry;exact PySem.W.eq_bytes (aT I q uh)
  | _=>exact absurd (show false=true from hs) Dn
 | _=>cases y<;>exact absurd (show false=true from hs) Dn
theorem ya:OpR X (compareOp .NotEq) rNe:=by
 intro pins s σ H x y v u Q I rx ry h
 obtain ⟨hs,q⟩:=h
 cases x with
 | non=>
  cases rx
  cases y with
  | non=>cases ry;exact PySem.EqNone.ne_none_none (aT I q (by simp))
  | bl j=>cases ry;exact PySem.EqNone.ne_none_bool (aT I q (by simp))
  | int j=>obtain ⟨t',rfl⟩:=ry;exact PySem.EqNone.ne_none_int (aT I q (by simp))
  | str j=>obtain ⟨t',rfl⟩:=ry;exact PySem.EqNone.ne_none_str (aT I q (by simp))
  | _=>exact absurd (show false=true from hs) Dn
 | bl i=>
  cases rx
  cases y with
  | non=>cases ry;exact PySem.EqNone.ne_bool_none (aT I q (by simp))
  | bl j=>cases ry;exact ne_bool (aT I q (Ee not wY))
  | str j=>obtain ⟨t',rfl⟩:=ry;exact PySem.EqMixed.ne_bool_str (aT I q (by simp))
  | _=>exact absurd (show false=true from hs) Dn
 | int i=>
  obtain ⟨t,rfl⟩:=rx
  cases y with
  | non=>cases ry;exact PySem.EqNone.ne_int_none (aT I q (by simp))
  | int j=>obtain ⟨t',rfl⟩:=ry;exact ne_int (aT I q (Ee not ug))
  | str j=>obtain ⟨t',rfl⟩:=ry;exact PySem.EqMixed.ne_int_str (aT I q (by simp))
  | _=>exact absurd (show false=true from hs) Dn
 | str i=>
  obtain ⟨t,rfl⟩:=rx
  cases y with
  | non=>cases ry;exact PySem.EqNone.ne_str_none (aT I q (by simp))
  | bl j=>cases ry;exact PySem.EqMixed.ne_str_bool (aT I q (by simp))
  | int j=>obtain ⟨t',rfl⟩:=ry;exact PySem.EqMixed.ne_str_int (aT I q (by simp))
  | str j=>obtain ⟨t',rfl⟩:=ry;exact ne_str (aT I q (Ee not uf))
  | _=>exact absurd (show false=true from hs) Dn
 | byt i=>
  obtain ⟨t,rfl⟩:=rx
  cases y with
  | byt j=>obtain ⟨t',rfl⟩:=ry;exact PySem.W.ne_bytes (aT I q (Ee not uh))
  | _=>exact absurd (show false=true from hs) Dn
 | _=>cases y<;>exact absurd (show false=true from hs) Dn
theorem Ad:OpR X (compareOp .Lt) (rI0 fun i j=>.bl (decide (i<j))):=BS fun _ _ _ _ _ _ _ q=>lt_int q
theorem nz:OpR X (compareOp .LtE) (rI0 fun i j=>.bl (decide (i<=j))):=BS fun _ _ _ _ _ _ _ q=>le_int q
theorem Af:OpR X (compareOp .Gt) (rI0 fun i j=>.bl (decide (j<i))):=BS fun _ _ _ _ _ _ _ q=>gt_int q
theorem Ae:OpR X (compareOp .Is) (fun x y H Q=>y=.non/\Q (.bl (decide (x=.non))) H):=by
 intro pins s σ H x y v u Q I rx ry h
 obtain ⟨rfl,q⟩:=h
 cases ry
 refine is_none_gen (aT I q ?_)
 cases x<;>first
  | (cases rx;rfl)
  | (obtain ⟨t,rfl⟩:=rx;rfl)
theorem xZ:OpR X (compareOp .IsNot) (fun x y H Q=>y=.non/\Q (.bl (!decide (x=.non))) H):=by
 intro pins s σ H x y v u Q I rx ry h
 obtain ⟨rfl,q⟩:=h
 cases ry
 refine isnot_none_gen (aT I q ?_)
 cases x<;>first
  | (cases rx;rfl)
  | (obtain ⟨t,rfl⟩:=rx;rfl)
theorem cf (b:Expr) {op:CmpOp} (h:op≠.In:=by decide) (h2:op≠.NotIn:=by decide):behindInMarks op b=false:=by
 have e1:(op==CmpOp.In)=false:=by cases op<;>first | rfl | exact absurd rfl h
 have e2:(op==CmpOp.NotIn)=false:=by cases op<;>first | rfl | exact absurd rfl h2
 cases b<;>simp [behindInMarks,e1,e2]
theorem nw {op:CmpOp} {r:R2} (ho:OpR X (compareOp op) r) (ha:PE X a ta) (hb:PE X b tb) (hm:behindInMarks op b=false):PE X (.Compare a [op] [b] pos) (tOp r ta tb):=by
 intro pins s σ H Q I h
 exact wpAny_Compare1 (Cb ha hb I h fun v u s2 x y H2 I2 rx ry q=>ho pins s2 σ H2 x y v u Q I2 rx ry q) hm
def zj (t:TE):TT:=fun σ H Q=>t σ H fun x H'=>∃ k,x=.bl k/\Q k H'
theorem bF {op:CmpOp} {r:R2} (ho:OpR X (compareOp op) r) (ha:PE X a ta) (hb:PE X b tb) (hm:behindInMarks op b=false):PT X (.Compare a [op] [b] pos) (zj (tOp r ta tb)):=by
 intro pins s σ H Q I h
 refine wpAny_isTrue_Compare1 (thn (ha pins s σ H _ I h) fun v s1 ⟨x,H1,I1,r1,q1⟩=>thn (hb pins s1 σ H1 _ I1 q1) fun u s2 ⟨y,H2,I2,r2,q2⟩=>
  thn (ho pins s2 σ H2 x y v u _ I2 r1 r2 q2) fun c s3 ⟨z,H3,I3,r3,k,e,q3⟩=>?_) hm
 subst e
 cases r3
 exact wpAny_truthy_bool ⟨H3,I3,q3⟩
def wC (r r':R2) (ta tb tc:TE):TE:=fun σ H Q=>ta σ H fun x H1=>tb σ H1 fun y H2=>r x y H2 fun z H3=>∃ k,z=.bl k/\
 (if k=true then tc σ H3 fun w' H4=>r' y w' H4 Q else Q (.bl false) H3)
theorem oI {op op':CmpOp} {r r':R2} (ho:OpR X (compareOp op) r) (ho':OpR X (compareOp op') r') (ha:PE X a ta) (hb:PE X b tb) (hc:PE X c tc)
    (hm:lastMarks [op,op'] [b,c]=false:=by with_unfolding_all rfl):PE X (.Compare a [op,op'] [b,c] pos) (wC r r' ta tb tc):=by
 intro pins s σ H Q I h
 refine Compare_chain (thn (ha pins s σ H _ I h) fun v s1 ⟨x,H1,I1,r1,q1⟩=>chain_link (thn (hb pins s1 σ H1 _ I1 q1) fun u s2 ⟨y,H2,I2,r2,q2⟩=>
  thn (ho pins s2 σ H2 x y v u _ I2 r1 r2 q2) fun d s3 ⟨z,H3,I3,r3,k,e,q3⟩=>?_)) hm
 subst e
 cases r3
 refine wpAny_truthy_bool ?_
 cases k with
 | false=>exact ite_ff ⟨.bl false,H3,I3,rfl,q3⟩
 | true=>exact ite_tt (chain_last (thn (hc pins s3 σ H3 _ I3 q3) fun w' s4 ⟨z',H4,I4,r4,q4⟩=>ho' pins s4 σ H4 y z' u w' Q I4 r2 r4 q4))
theorem vA {op op':CmpOp} {r r':R2} (ho:OpR X (compareOp op) r) (ho':OpR X (compareOp op') r') (ha:PE X a ta) (hb:PE X b tb) (hc:PE X c tc)
    (hm:lastMarks [op,op'] [b,c]=false:=by with_unfolding_all rfl):PT X (.Compare a [op,op'] [b,c] pos) (zj (wC r r' ta tb tc)):=by
 intro pins s σ H Q I h
 refine isTrue_chain (thn (ha pins s σ H _ I h) fun v s1 ⟨x,H1,I1,r1,q1⟩=>test_link (thn (hb pins s1 σ H1 _ I1 q1) fun u s2 ⟨y,H2,I2,r2,q2⟩=>
  thn (ho pins s2 σ H2 x y v u _ I2 r1 r2 q2) fun d s3 ⟨z,H3,I3,r3,k,e,q3⟩=>?_)) hm
 subst e
 cases r3
 refine wpAny_truthy_bool ?_
 cases k with
 | false=>
  obtain ⟨k',e',q'⟩:=q3
  cases e'
  exact ite_ff ⟨H3,I3,q'⟩
 | true=>
  refine ite_tt (test_last (thn (hc pins s3 σ H3 _ I3 q3) fun w' s4 ⟨z',H4,I4,r4,q4⟩=>thn (ho' pins s4 σ H4 y z' u w' _ I4 r2 r4 q4) fun d' s5 ⟨z2,H5,I5,r5,k2,e2,q5⟩=>?_))
  subst e2
  cases r5
  exact wpAny_truthy_bool ⟨H5,I5,q5⟩
theorem lN:(sizeLine:Nat)<2^63:=by rw [sizeLine_eq];decide
theorem gY {x:V} {us:List Value} (r:ba [x] us):∃ u,us=[u]/\bB x u:=by
 cases r with
 | cons r1 r2=>cases r2;exact ⟨_,rfl,r1⟩
theorem xk {x y:V} {us:List Value} (r:ba [x,y] us):∃ u w',us=[u,w']/\bB x u/\bB y w':=by
 cases r with
 | cons r1 r2=>
  cases r2 with
  | cons r3 r4=>cases r4;exact ⟨_,_,rfl,r1,r3⟩
theorem ux (hc:X.calm=true):dF X (.builtin "max") (fun xs H Q=>∃ i j,xs=[.int i,.int j]/\Q (.int (if j>i then j else i)) H):=by
 intro pins s σ H xs us Q I r h
 obtain ⟨i,j,rfl,q⟩:=h
 obtain ⟨u,w',rfl,⟨t,rfl⟩,⟨t',rfl⟩⟩:=xk r
 refine max_two_ints (I.ok.hd hc) fun h' tk k=>⟨_,H,I.kept k,?_,q⟩
 by_cases hj:j>i
 . rw [if_pos hj,if_pos hj];exact ⟨_,rfl⟩
 . rw [if_neg hj,if_neg hj];exact ⟨_,rfl⟩
theorem mj (hc:X.calm=true):dF X (.builtin "min") (fun xs H Q=>∃ i j,xs=[.int i,.int j]/\Q (.int (if j<i then j else i)) H):=by
 intro pins s σ H xs us Q I r h
 obtain ⟨i,j,rfl,q⟩:=h
 obtain ⟨u,w',rfl,⟨t,rfl⟩,⟨t',rfl⟩⟩:=xk r
 refine min_two_ints (I.ok.hd hc) fun h' tk k=>⟨_,H,I.kept k,?_,q⟩
 by_cases hj:j<i
 . rw [if_pos hj,if_pos hj];exact ⟨_,rfl⟩
 . rw [if_neg hj,if_neg hj];exact ⟨_,rfl⟩
end
end L2
namespace L2
open PySem PySem.Spec PyProof.Rows
structure Cf (h:Heap) (x dx C:Addr) (mA:Str->Option Value):Prop where
 obj:h.get? x=some (PySem.W.instObj C dx)
 ns:h.Ns1 dx mA
 ne:dx≠x
theorem sY {h:Heap} {dx:Addr} {mA:Str->Option Value} (n:h.Ns1 dx mA):∃ od,h.get? dx=some od/\∀ name,PySem.W.lookIn name od=some (mA name):=by
 obtain ⟨o,es,ep,ho,hd,hk,_,hm⟩:=n
 refine ⟨o,ho,fun name=>?_⟩
 have e:=hm name
 unfold nsFind findBy at e
 rw [<- Array.find?_toList] at e
 unfold PySem.W.lookIn
 rw [hd]
 dsimp only
 split
 . rename_i y q
   rw [q] at e
   exact Ee some e
 . rename_i q
   rw [q] at e
   have a:es.toList.any (·.refKey)=false:=by
    rw [List.any_eq_false]
    intro y hy
    obtain ⟨z,t,hkey⟩:=hk y (Array.mem_toList_iff.mp hy)
    simp [DictEntry.refKey,hkey]
   have a':¬ es.toList.any (·.refKey)=true:=by rw [a];exact Dn
   rw [if_neg a']
   exact Ee some e
theorem Cf.look {h:Heap} {x dx C:Addr} {mA:Str->Option Value} (I:Cf h x dx C mA):∃ od,PySem.W.InstAt h x (PySem.W.instObj C dx) C (some od)/\∀ name,PySem.W.lookIn name od=some (mA name):=
 let ⟨od,ho,hl⟩:=sY I.ns
 ⟨od,⟨I.obj,rfl,rfl,ho⟩,hl⟩
section
variable {prog:Program} {w:World} {A:Around} {E:Value->Shared->Prop} {s:Shared} {K:PySem.W.Frag} {x dx C f:Addr} {mA:Str->Option Value} {name:Str} {v:Value}
end
theorem qK.some_of {v:V} {o:Option Value} (r:qK (some v) o):∃ u,o=some u/\bB v u:=by
 cases o with
 | none=>exact (show False from r).elim
 | some u=>exact ⟨u,rfl,r⟩
section
variable {P:Program} {w:World} {H H':Hp} {h h':Heap} {a C dx:Addr} {fs fs':List (Str×V)}
theorem yt (hok:HOk P w H h) (e:H a=some (.ins C dx fs)):∃ mA,Cf h a dx C mA/\(∀ f,qK (fs.lookup f) (mA f))/\PySem.Within mA (fs.map (·.1))/\fs.length<=1000/\H dx=some (.own a):=by
 obtain ⟨d,z,ne,ob,mA,n,r,q⟩:=(show bC P w H h a (.ins C dx fs) from hok a _ e)
 exact ⟨mA,⟨ob,n,ne⟩,r,q,z,d⟩
end
structure Cls (K:PySem.W.Frag) (C:Addr):Prop where
 pg:PySem.W.plainGet K C Str.empty=true
 hd:PySem.W.hasDictIn K C=true
 po:PySem.W.plainOver K C=true
 sa:PySem.W.findIn K (.ref C) "__setattr__"=some (some (.builtin "object.__setattr__"))
theorem Cls.get {K:PySem.W.Frag} {C:Addr} (c:Cls K C) (f:Str):PySem.W.plainGet K C f=true:=c.pg
section
variable {X:Cx} {pins:List (Addr×Obj)} {σ:St} {H:Hp} {s:Shared} {a C dx:Addr} {fs:List (Str×V)} {f:Str} {v:V} {A:Around} {E:Value->Shared->Prop}
end
section
variable {X:Cx} {o e value:Expr} {f:Str} {pos pos' tpos:Pos} {ta tv:TE}
end
section
variable {X:Cx} {pins:List (Addr×Obj)} {σ:St} {H:Hp} {s:Shared} {A:Around} {E:Value->Shared->Prop} {Q:Value->Shared->Prop} {c:Value} {b:Bool}
inductive qJ (K:PySem.W.Frag) (H:Hp):V->Value->Prop where
 | non:qJ K H .non (.type "NoneType")
 | bl (x:Bool):qJ K H (.bl x) (.type "bool")
 | int (i:Int):qJ K H (.int i) (.type "int")
 | str (x:Str):qJ K H (.str x) (.type "str")
 | flt (x:UInt64):qJ K H (.flt x) (.type "float")
 | lst {a:Addr} {xs:List V} (e:H a=some (.lst xs)):qJ K H (.ref a) (.type "list")
 | frz {a:Addr} {o:Obj} {xs:List V} (e:H a=some (.frz o (.lst xs))):qJ K H (.ref a) (.type "list")
 | tup {a:Addr} {xs:List V} (e:H a=some (.tup xs)):qJ K H (.ref a) (.type "tuple")
 | dK {a:Addr} {kvs:List (Key×V)} (e:H a=some (.dK kvs)):qJ K H (.ref a) (.type "dict")
 | dT {a:Addr} {kvs:List (List Key×V)} (e:H a=some (.dT kvs)):qJ K H (.ref a) (.type "dict")
 | ins {a C dx:Addr} {fs:List (Str×V)} (e:H a=some (.ins C dx fs)) (cl:Cls K C) (ha:PySem.W.findIn K (.ref C) "__class__"=some (some (.builtin "object.__class__")))
     (hn:PySem.W.specialIn K (.builtin "object.__class__") "__get__"=some (some (.builtin "getset_descriptor.__get__"))) (htk:PySem.W.takesIn K (.builtin "object.__class__")=some true)
     (hm:PySem.W.mroIn K C (.type "object")=some true):qJ K H (.ref a) (.ref C)
theorem tI {x:V} {u t:Value} (I:Inv X pins σ H s) (rx:bB x u) (ty:qJ X.K H x t) (e:PySem.W.kitOne X.K t c=some b) (h:∀ tk,Q (.bool b) { s with toks:=tk }):
    wpAny (model X.prog X.w) A (call (.builtin "isinstance") [u,c]) Q E s:=by
 cases ty with
 | non=>cases (show u=Value.none from rx);exact EA PySem.W.kitx_none I.kIn True.intro e (fun z=>nomatch z) h
 | bl y=>cases (show u=Value.bool y from rx);exact EA PySem.W.kitx_bool I.kIn True.intro e (fun z=>nomatch z) h
 | int i=>obtain ⟨t,q⟩:=(show ∃ t,u=Value.int i t from rx);cases q;exact EA PySem.W.kitx_int I.kIn True.intro e (fun z=>nomatch z) h
 | str y=>obtain ⟨t,q⟩:=(show ∃ t,u=Value.str y t from rx);cases q;exact EA PySem.W.kitx_str I.kIn True.intro e (fun z=>nomatch z) h
 | flt y=>obtain ⟨t,q⟩:=(show ∃ t,u=Value.float y t from rx);cases q;exact EA PySem.W.kitx_float I.kIn True.intro e (fun z=>nomatch z) h
 | @lst a xs ea=>
  cases (show u=Value.ref a from rx)
  obtain ⟨_,_,n,_,h1⟩:=(show bC X.prog X.w H s.heap a (.lst xs) from I.hok a _ ea)
  exact EA PySem.W.kitx_list I.kIn ⟨_,h1,rfl⟩ e (fun z=>nomatch z) h
 | @frz a ob xs ea=>
  cases (show u=Value.ref a from rx)
  obtain ⟨_,_,_,n,_,h1⟩:=(show bC X.prog X.w H s.heap a (.frz ob (.lst xs)) from I.hok a _ ea)
  exact EA PySem.W.kitx_list I.kIn ⟨_,h1,rfl⟩ e (fun z=>nomatch z) h
 | @tup a xs ea=>
  cases (show u=Value.ref a from rx)
  obtain ⟨_,_,_,p⟩:=(show bC X.prog X.w H s.heap a (.tup xs) from I.hok a _ ea)
  obtain ⟨o,h1,h2,_⟩:=p
  exact EA PySem.W.kitx_tuple I.kIn ⟨o,h1,h2⟩ e (fun z=>nomatch z) h
 | @dK a kvs ea=>
  cases (show u=Value.ref a from rx)
  obtain ⟨_,_,vs,_,p⟩:=(show bC X.prog X.w H s.heap a (.dK kvs) from I.hok a _ ea)
  obtain ⟨o,es,ep,h1,h2,_⟩:=p
  exact EA PySem.W.kitx_dict I.kIn ⟨o,h1,h2.1⟩ e (fun z=>nomatch z) h
 | @dT a kvs ea=>
  cases (show u=Value.ref a from rx)
  obtain ⟨_,_,xs,_,o,es,ep,h1,h2,_⟩:=(show bC X.prog X.w H s.heap a (.dT kvs) from I.hok a _ ea)
  exact EA PySem.W.kitx_dict I.kIn ⟨o,h1,h2.1⟩ e (fun z=>nomatch z) h
 | @ins a C dx fs ea cl ha hn htk hm=>
  cases (show u=Value.ref a from rx)
  obtain ⟨mA,O,_⟩:=yt I.hok ea
  obtain ⟨od,J,_⟩:=O.look
  exact EA (PySem.W.kitx_own (cl.get _) cl.hd ha hn htk hm) I.kIn J e (fun z=>nomatch z) h
end
end L2
namespace L2
open PySem PySem.Spec PyProof.Rows
structure iZ (k:Nat) (A:Around):Prop where
 hd:A.handled=none
 dp:A.depth+3*k+5<recursionLimit
 un:A.units+16*k+200<cLine
theorem iZ.mono {j k:Nat} {A:Around} (r:iZ k A) (h:j<=k):iZ j A:=⟨r.hd,by have:=r.dp;omega,by have:=r.un;omega⟩
theorem iZ.deeper {k:Nat} {A:Around} (r:iZ (k+1) A) (env:Env):iZ k (A.deeper env):=
 ⟨r.hd,by have:=r.dp;show A.depth+1+3*k+5<_;omega,by have:=r.un;show A.units+3+16*k+200<_;omega⟩
theorem iZ.depth {k:Nat} {A:Around} (r:iZ k A):A.depth<recursionLimit:=by have:=r.dp;omega
theorem iZ.units {k:Nat} {A:Around} (r:iZ k A):A.units+64<cLine:=by have:=r.un;omega
theorem iZ.units0 {k:Nat} {A:Around} (r:iZ k A):A.units<cLine:=by have:=r.un;omega
def Bd:TA:=fun _ H Q=>Q [] H
def uZ (ta:TE) (tr:TA):TA:=fun σ H Q=>ta σ H fun x H1=>tr σ H1 fun xs H2=>Q (x::xs) H2
section
variable {X:Cx} {e:Expr} {es:List Expr} {te:TE} {t:TA} {pos:Pos}
theorem af:PA X [] Bd:=fun _ _ _ _ H Q I h=>Calls.spliced_nil ⟨[],H,I,.nil,h⟩
theorem ad (ha:PE X e te) (hr:PA X es t) (hs:starEach (e::es) X.env=(false,eval e X.env)::starEach es X.env:=by rfl):PA X (e::es) (uZ te t):=by
 intro pos pins s σ H Q I h
 rw [hs]
 show wpAny _ _ (spliced ((false,eval e X.env)::backTo pos (starEach es X.env))) _ _ s
 refine Calls.spliced_cons (thn (ha pins s σ H _ I h) fun u s1 ⟨x,H1,I1,r1,q1⟩=>?_)
 exact thn (hr pos pins s1 σ H1 _ I1 q1) fun us s2 ⟨xs,H2,I2,r2,q2⟩=>⟨x::xs,H2,I2,.cons r1 r2,q2⟩
def Cu (t:TA):TE:=fun σ H Q=>t σ H fun xs H1=>xs.length<=sizeLine/\∀ p,H1 p=none->Q (.ref p) (upd H1 p (.tup xs))
def Cz (t:TA):TE:=fun σ H Q=>t σ H fun xs H1=>xs.length<=sizeLine/\∀ p,H1 p=none->Q (.ref p) (upd H1 p (.lst xs))
theorem bV {x1} (h:PA X es t):PE X (.Tuple es x1 pos) (Cu t):=by
 intro pins s σ H Q I hq
 refine wpAny_Tuple_spliced (thn (h pos pins s σ H _ I hq) fun us s1 ⟨xs,H1,I1,r,z,q⟩=>⟨by rw [<- r.length];exact z,?_⟩)
 have hf:H1 s1.heap.objs.size=none:=I1.hok.fresh (Dh _)
 refine ⟨.ref s1.heap.objs.size,upd H1 s1.heap.objs.size (.tup xs),I1.laid (t':=s1.toks) (fun b u e=>Dd _ e) (Dh _) ?_,rfl,q _ hf⟩
 exact ⟨z,us,r,⟨_,Ds _ rfl,rfl,rfl,_,rfl⟩⟩
theorem dl (h:PA X es t):PE X (.List es pos) (Cz t):=by
 intro pins s σ H Q I hq
 refine wpAny_List_spliced (thn (h pos pins s σ H _ I hq) fun us s1 ⟨xs,H1,I1,r,z,q⟩=>⟨by rw [<- r.length];exact z,?_⟩)
 have hf:H1 s1.heap.objs.size=none:=I1.hok.fresh (Dh _)
 refine ⟨.ref s1.heap.objs.size,upd H1 s1.heap.objs.size (.lst xs),I1.laid (t':=s1.toks) (fun b u e=>Dd _ e) (Dh _) ?_,rfl,q _ hf⟩
 exact ⟨z,us,0,r,Ds _ rfl⟩
end
abbrev Sp:=List V->Hp->VK->XK->Prop
abbrev CXT:=List Env->Hp->Shared->XK->Value->Shared->Prop
structure Bo (P:Program) (w:World) (K:PySem.W.Frag) (mg:Str->Option Value) (base:Heap) (A:Around) (outer:List Env) (s:Shared) (H:Hp):Prop where
 frames:A.frames=some outer
 mod:Mod K mg base
 bs:∀ b o,base.get? b=some o->s.heap.get? b=some o/\H b=none
 bsz:base.objs.size<=s.heap.objs.size
 funs:s.heap.FunFrames base outer
 frf:∀ b∈frs outer,H b=none
 hok:HOk P w H s.heap
 bare:AllBare s.gens
def CE (outer:List Env) (P:Program) (w:World) (H:Hp) (s:Shared) (Q:VK) (u:Value) (s':Shared):Prop:=
 ∃ v H',s'.os=s.os/\AllBare s'.gens/\Un (frs outer) [] H H' s.heap s'.heap/\HOk P w H' s'.heap/\bB v u/\Q v H'
def CR (CX:CXT) (outer:List Env) (P:Program) (w:World) (H:Hp) (s:Shared) (Q:VK) (E:XK) (r:Result) (s':Shared):Prop:=
 match r with
 | .ok (.ret u)=>CE outer P w H s Q u s'
 | .ok _=>False
 | .error e=>CX outer H s E e s'
structure bP (P:Program) (w:World) (K:PySem.W.Frag) (mg:Str->Option Value) (base:Heap) (CX:CXT) (k:Nat) (f:Addr) (fd:FuncData) (ps:List Str) (sp:Sp):Prop where
 len:∀ vs H Q E,sp vs H Q E->vs.length=ps.length
 run:∀ (A:Around) (outer:List Env) (s:Shared) (H:Hp) (args:Args) (us:List Value) (vs:List V) (Q:VK) (E:XK),iZ k A->Bo P w K mg base A outer s H->BindsTo s fd args (ps.zip us)->ba vs us->sp vs H Q E->
  codeAny (model P w) A (.call (.ref f) args) (CR CX outer P w H s Q E) s
theorem bP.imp {P:Program} {w:World} {K:PySem.W.Frag} {mg:Str->Option Value} {base:Heap} {CX:CXT} {k:Nat} {f:Addr} {fd:FuncData} {ps:List Str} {sp sp':Sp} (F:bP P w K mg base CX k f fd ps sp)
    (h:∀ vs H Q E,sp' vs H Q E->sp vs H Q E):bP P w K mg base CX k f fd ps sp':=
 ⟨fun vs H Q E q=>F.len vs H Q E (h _ _ _ _ q),fun A outer s H args us vs Q E hr he hb hv hs=>F.run A outer s H args us vs Q E hr he hb hv (h _ _ _ _ hs)⟩
section
variable {X:Cx} {pins:List (Addr×Obj)} {σ:St} {H:Hp} {s s':Shared}
theorem Inv.env0 (I:Inv X pins σ H s):Bo X.prog X.w X.K X.mg X.base X.A X.stack s H:=
 ⟨I.ok.frames,I.ok.mod,I.bs,DP I.ok.bsz I.sz,I.stack,I.stkFree,I.hok,I.bare⟩
theorem Inv.after {Q:VK} {u:Value} (I:Inv X pins σ H s) (h:CE X.stack X.prog X.w H s Q u s'):EP X pins σ Q u s':=by
 obtain ⟨v,H',os,bare,un,hok,r,q⟩:=h
 obtain ⟨hh,g,d,t,os'⟩:=s'
 obtain rfl:os'=s.os:=os
 exact ⟨v,H',I.call (h':=hh) (g':=g) (d':=d) (t':=t) (ch:=[]) un hok bare (fun b z=>absurd z (by simp)),r,q⟩
end
def Bw (sp:Sp) (dvs:List V) (E:XK) (t:TA):TE:=fun σ H Q=>t σ H fun vs H1=>sp (vs++dvs) H1 Q E
def qO (K:PySem.W.Frag) (fd:FuncData) (ps:List Str) (ds:List Value):Prop:=
 ∀ (s:Shared) (us:List Value),K.In s.heap->(us++ds).length=ps.length->BindsTo s fd ⟨us,[]⟩ (ps.zip (us++ds))
theorem qO.all {K:PySem.W.Frag} {fd:FuncData} {ps:List Str} (h:∀ us:List Value,us.length=ps.length->bindArgs fd ⟨us,[]⟩=pure (ps.zip us)):qO K fd ps []:=fun s us _ hl=>by
 rw [D7] at hl ⊢
 exact .of_eq (h us hl)
def pH (CX:CXT) (X:Cx) (E:XK):Prop:=∀ (pins:List (Addr×Obj)) (σ:St) (H:Hp) (s:Shared) (e:Value) (s':Shared),Inv X pins σ H s->CX X.stack H s E e s'->X.xe e s'
section
variable {X:Cx} {CX:CXT} {k:Nat} {f C:Addr} {fd:FuncData} {ps:List Str} {sp:Sp} {dvs:List V} {ds:List Value} {E:XK} {x m:Str} {p pos apos:Pos} {e o:Expr} {es:List Expr} {ta:TE} {t:TA}
theorem zJ {pins:List (Addr×Obj)} {σ:St} {H:Hp} {s:Shared} {Q:VK} {us:List Value} {vs:List V} (F:bP X.prog X.w X.K X.mg X.base CX k f fd ps sp) (hr:iZ k X.A) (hb:qO X.K fd ps ds) (hd:ba dvs ds) (hx:pH CX X E)
    (I:Inv X pins σ H s) (r:ba vs us) (h:sp (vs++dvs) H Q E):wpAny (model X.prog X.w) X.A (call (.ref f) us) (EP X pins σ Q) X.xe s:=by
 have r2:ba (vs++dvs) (us++ds):=r.append hd
 have hl:(us++ds).length=ps.length:=by rw [<- r2.length];exact F.len _ _ _ _ h
 refine wpAny_call (codeAny_mono (F.run X.A X.stack s H ⟨us,[]⟩ (us++ds) (vs++dvs) Q E hr I.env0 (hb s us I.kIn hl) r2 h) fun r s' hq=>?_)
 cases r with
 | error e=>exact hx pins σ H s e s' I hq
 | ok fl=>
  cases fl with
  | ret u=>exact I.after hq
  | next=>exact False.elim hq
  | brk=>exact False.elim hq
  | cont=>exact False.elim hq
theorem aj (F:bP X.prog X.w X.K X.mg X.base CX k f fd ps sp) (hr:iZ k X.A) (hg:Gl X x) (hm:X.mg x=some (.ref f)) (hk:PySem.W.keepIn X.K (.ref f)=true) (hb:qO X.K fd ps ds) (hd:ba dvs ds) (hx:pH CX X E)
    (ha:PA X (e::es) t) (hdb:(x==("__debug__":Str))=false:=by decide) (he:starEach (e::es) X.env=(false,eval e X.env)::starEach es X.env:=by rfl) (hpl:(backTo pos (starEach es X.env)).any (·.1)=false:=by rfl):
    PE X (.Call (.Name x p) (e::es) [] pos) (Bw sp dvs E t):=by
 intro pins s σ H Q I h
 refine wpAny_Call_Name_kw (nO I hg hm ?_ hdb)
 refine PySem.W.callWith_K (h₀:=X.base) I.ok.mod.kin hk (thn (ha pos pins s σ H _ I h) fun us s1 ⟨vs,H1,I1,r,q⟩=>⟨I1.kIn,?_⟩) he hpl
 exact zJ F hr hb hd hx I1 r q
end
section
variable {X:Cx} {CX:CXT} {k:Nat} {f C:Addr} {fd:FuncData} {ps ks:List Str} {sp:Sp} {E:XK} {x m:Str} {p pos apos kpos:Pos} {e o:Expr} {es:List Expr} {kws:List Keyword} {te ta:TE} {t tk:TA} {nm:Option Str}
variable {g:List Value->List Value->List Value} {gV:List V->List V->List V}
end
structure av (N P:List Str) (sc:Scope):Prop where
 kind:sc.kind=.function
 co:sc.isCoroutine=false
 gen:sc.isGenerator=false
 nd:N.Nodup
 pre:N.take P.length=P
 par:∀ x∈P,sc.names.lookup x=some .local\/sc.names.lookup x=some .cell
 nofree:∀ y∈sc.names,y.2≠.free
theorem mx {kindOf:Str->Option NameKind} {x:Str}:∀ {binds:List (Str×Value)} {m:Str->Option Value},(∀ v,(x,v)∉binds)->bindL kindOf binds m x=m x
 | [],_,_=>rfl
 | (n,v)::r,m,h=>by
  unfold bindL
  rw [mx fun w hw=>h w (Dk _ hw)]
  split
  . have:x≠n:=by rintro rfl;exact h v Dx
    simp [this]
  . rfl
theorem mz {kindOf:Str->Option NameKind} {x:Str}:∀ {binds:List (Str×Value)} {m:Str->Option Value},(∀ v,(x,v)∉binds)->bindC kindOf binds m x=m x
 | [],_,_=>rfl
 | (n,v)::r,m,h=>by
  unfold bindC
  rw [mz fun w hw=>h w (Dk _ hw)]
  split
  . rfl
  . have:x≠n:=by rintro rfl;exact h v Dx
    simp [this]
theorem my {kindOf:Str->Option NameKind} {x:Str} {v:Value}:∀ {P:List Str} {vs:List Value} {i:Nat} {m:Str->Option Value},P.Nodup->P[i]? =some x->vs[i]? =some v->kindOf x=some .local->
    bindL kindOf (P.zip vs) m x=some v
 | [],_,_,_,_,h,_,_=>by simp at h
 | _::_,[],_,_,_,_,h,_=>by simp at h
 | p::P,w::vs,0,m,nd,h1,h2,hk=>by
  simp at h1 h2;subst h1;subst h2
  show bindL kindOf ((p,w)::P.zip vs) m p=_
  unfold bindL
  rw [mx fun v hv=>(EB.mp nd).1 (List.of_mem_zip hv).1,if_pos hk]
  simp
 | p::P,w::vs,i+1,m,nd,h1,h2,hk=>by
  show bindL kindOf ((p,w)::P.zip vs) m x=_
  unfold bindL
  exact my (i:=i) (EB.mp nd).2 (by simpa using h1) (by simpa using h2) hk
theorem mB {kindOf:Str->Option NameKind} {x:Str} {v:Value}:∀ {P:List Str} {vs:List Value} {i:Nat} {m:Str->Option Value},P.Nodup->P[i]? =some x->vs[i]? =some v->kindOf x≠some .local->
    bindC kindOf (P.zip vs) m x=some v
 | [],_,_,_,_,h,_,_=>by simp at h
 | _::_,[],_,_,_,_,h,_=>by simp at h
 | p::P,w::vs,0,m,nd,h1,h2,hk=>by
  simp at h1 h2;subst h1;subst h2
  show bindC kindOf ((p,w)::P.zip vs) m p=_
  unfold bindC
  rw [mz fun v hv=>(EB.mp nd).1 (List.of_mem_zip hv).1,if_neg hk]
  simp
 | p::P,w::vs,i+1,m,nd,h1,h2,hk=>by
  show bindC kindOf ((p,w)::P.zip vs) m x=_
  unfold bindC
  exact mB (i:=i) (EB.mp nd).2 (by simpa using h1) (by simpa using h2) hk
def start (N:List Str) (vs:List V):St:=vs.map some++List.replicate (N.length-vs.length) none
def mG (CX:CXT) (P:Program) (w:World) (K:PySem.W.Frag) (mg:Str->Option Value) (base:Heap) (N:List Str) (qual:Str) (scope:Scope) (f:Addr) (cd:Value) (A:Around) (outer:List Env) (s:Shared) (H:Hp) (E:XK):Cx where
 prog:=P
 w:=w
 K:=K
 mg:=mg
 base:=base
 A:=A.deeper (envOfC qual scope s.heap.objs.size f cd)
 N:=N
 s₀:=s
 H₀:=H
 env:=envOfC qual scope s.heap.objs.size f cd
 outer:=outer
 stack:=envOfC qual scope s.heap.objs.size f cd::outer
 ex:=[]
 calm:=true
 fn:=fun _=>true
 pn:=[]
 xe:=fun e s'=>wpAny (model P w) (A.deeper (envOfC qual scope s.heap.objs.size f cd)) (leaving (envOfC qual scope s.heap.objs.size f cd) e) (fun _ s''=>CX outer H s E e s'') (fun e' s''=>CX outer H s E e' s'') s'
theorem px {sc:Scope} {n:Nat} {x:Str} (h:sc.names.lookup x=some .cell):∃ c,(cellsFrom n sc.names []).lookup x=some c:=by
 have q:=PySem.W.cellsFrom_some sc.names n [] (.inl h)
 exact Option.isSome_iff_exists.mp q
theorem tK {CX:CXT} {P:Program} {w:World} {K:PySem.W.Frag} {mg:Str->Option Value} {base:Heap} {N ps:List Str} {qual:Str} {scope:Scope} {f:Addr} {cd:Value} {A:Around} {outer:List Env} {s s1:Shared} {H:Hp} {E:XK} {us:List Value} {vs:List V}
    (S:av N ps scope) (hd:A.handled=none) (e0:Bo P w K mg base A outer s H) (hl:vs.length=ps.length) (r:ba vs us)
    (x:InCallC s s.heap.objs.size (bindL (envOfC qual scope s.heap.objs.size f cd).kindOf (ps.zip us) fun _=>none) (cellsFrom (s.heap.objs.size+1) scope.names []) (bindC (envOfC qual scope s.heap.objs.size f cd).kindOf (ps.zip us) fun _=>none) s1):
    Inv (mG CX P w K mg base N qual scope f cd A outer s H E) [] (start N vs) H s1:=by
 have hpl:ps.length<=N.length:=by have:=Ee List.length S.pre;rw [Dv] at this;omega
 obtain ⟨h1,tk,rfl,hk⟩:=x.done
 have noA:∀ b:Addr,b∉(mG CX P w K mg base N qual scope f cd A outer s H E).ex:=fun b z=>absurd (show b∈([]:List Addr) from z) (by simp)
 refine ⟨⟨e0.mod,S.kind,rfl,rfl,Dh _,fun y z c h1 h2=>?_,fun y hy=>?_,fun y c _ h=>?_,fun _=>hd,Around.frames_deeper e0.frames,.inr ⟨rfl,rfl⟩,fun b z=>absurd z (noA b),e0.bs,e0.bsz,fun b _ _=>noA b,fun b z=>absurd z (noA b),e0.funs,e0.frf⟩,
  rfl,e0.bare,Un.kept hk,⟨_,x.toInCall.ns,fun i y v h1 h2 h3=>?_⟩,fun y c h=>⟨_,x.cell y c h⟩,e0.hok.fresh (Dh _),fun y c h=>?_,fun p hp=>absurd (show p∈([]:List (Addr×Obj)) from hp) (by simp),e0.hok.kept hk,?_⟩
 . exact name_of_addr x.apart (PySem.mem_of_lookup h1) (PySem.mem_of_lookup h2)
 . have hy:scope.names.lookup y=some .cell\/scope.names.lookup y=some .free:=hy
   rcases hy with hy | hy
   . exact px hy
   . exact absurd rfl (S.nofree _ (PySem.mem_of_lookup hy))
 . exact Nat.le_of_lt (x.above y c (PySem.mem_of_lookup h))
 . have hi:i<vs.length:=by
     unfold start at h2
     by_cases hi:i<vs.length
     . exact hi
     . rw [DH (by simpa using hi)] at h2
       rw [List.getElem?_replicate] at h2
       split at h2<;>cases h2
   have ha:vs[i]? =some v:=by
    unfold start at h2
    rw [DL (by simpa using hi),Di] at h2
    cases e:vs[i]? with
    | none=>rw [e] at h2;cases h2
    | some a=>rw [e] at h2;cases h2;rfl
   obtain ⟨u,hu,rv⟩:=r.get ha
   have hp:ps[i]? =some y:=by
    rw [<- S.pre,D9 (by omega)];exact h1
   have ndP:ps.Nodup:=by rw [<- S.pre];exact S.nd.sublist (List.take_sublist _ _)
   refine ⟨u,rv,?_⟩
   rcases S.par y (Dj hp) with k | k
   . exact .inl ⟨k,my ndP hp hu k⟩
   . obtain ⟨c,e⟩:=px (n:=s.heap.objs.size+1) k
     refine .inr ⟨.inl k,c,e,?_⟩
     have q:=x.cell y c e
     rw [mB ndP hp hu (by show scope.names.lookup y≠_;rw [k];decide)] at q
     exact q
 . exact e0.hok.fresh (Nat.le_of_lt (x.above y c (PySem.mem_of_lookup h)))
 . unfold start
   show _=N.length
   rw [Dm,Da,D4]
   omega
theorem B8 {CX:CXT} {P:Program} {w:World} {K:PySem.W.Frag} {mg:Str->Option Value} {base:Heap} {k:Nat} {f:Addr} {name qual:Str} {params:Arguments} {body:List Stmt} {scope:Scope} {dV kV doc pm cdv ct oc:Value} {an od:Option Addr}
    {osl:Array (Option Value)} {N ps:List Str} {sp:Sp} (lk:K.lookup f=some ⟨oc,od,.func (PySem.W.fnOf name qual params body scope dV kV doc pm an cdv ct),osl⟩) (hcd:PySem.W.codeIn K cdv qual=true) (S:av N ps scope)
    (len:∀ vs H Q E,sp vs H Q E->vs.length=ps.length)
    (hbody:∀ (A:Around) (outer:List Env) (s:Shared) (H:Hp) (vs:List V) (Q:VK) (E:XK),iZ k (A.deeper (envOfC qual scope s.heap.objs.size f cdv))->sp vs H Q E->
     ∃ t,PSs (mG CX P w K mg base N qual scope f cdv A outer s H E) body t/\t { nx:=fun _ H'=>Q .non H',rt:=Q } (start N vs) H):
    bP P w K mg base CX (k+1) f (PySem.W.fnOf name qual params body scope dV kV doc pm an cdv ct) ps sp:=by
 refine ⟨len,fun A outer s H args us vs Q E hr e0 hb r hsp=>?_⟩
 have hl:=len _ _ _ _ hsp
 have KX:K.In s.heap:=e0.mod.kin.keeps fun b o e=>(e0.bs b o e).1
 have lim:s.heap.NoLimit:=e0.mod.nolimit.keeps fun b o e=>(e0.bs b o e).1
 have hkind:∀ y∈ps.zip us,scope.names.lookup y.1=some .local\/(scope.names.lookup y.1=some .cell/\((cellsFrom (s.heap.objs.size+1) scope.names []).lookup y.1).isSome=true):=fun ⟨n,v⟩ hy=>by
  rcases S.par n (List.of_mem_zip hy).1 with q | q
  . exact .inl q
  . exact .inr ⟨q,PySem.W.cellsFrom_some _ _ _ (.inl q)⟩
 refine codeAny_call_function hr.depth (KX _ _ lk) rfl S.co S.gen rfl (PySem.W.codeRec_of KX hcd) (hb _ _ _ _ ?_)
 refine wpAny_newFunctionEnv_cells S.kind hkind fun env he s1 x=>?_
 subst he
 refine ⟨lim.keeps x.toInCall.keep,codeAny_func ?_⟩
 obtain ⟨t,ht,hq⟩:=hbody A outer s H vs Q E (hr.deeper _) hsp
 have I:Inv (mG CX P w K mg base N qual scope f cdv A outer s H E) [] (start N vs) H s1:=tK S hr.hd e0 hl r x
 refine wpAny_mono (ht [] s1 (start N vs) H _ I hq) (fun fl s' hs=>?_) fun e s' hs=>hs
 have fin:∀ {σ':St} {H':Hp} {v:V} {u:Value},Inv (mG CX P w K mg base N qual scope f cdv A outer s H E) [] σ' H' s'->bB v u->Q v H'->CE outer P w H s Q u s':=
  fun {σ' H' v u} J rv q=>⟨v,H',J.os,J.bare,J.base,J.hok,rv,q⟩
 cases fl with
 | ret u=>
  obtain ⟨v,σ',H',J,rv,q⟩:=hs
  exact fin J rv q
 | next=>
  obtain ⟨σ',H',J,q⟩:=hs
  exact fin (v:=V.non) (u:=Value.none) J rfl q
 | brk=>
  obtain ⟨_,_,_,q⟩:=hs
  exact False.elim q
 | cont=>
  obtain ⟨_,_,_,q⟩:=hs
  exact False.elim q
end L2
namespace L2
open PySem PySem.Spec PyProof.Rows
section
variable {X:Cx} {x:Str} {p pos:Pos} {e:Expr} {es:List Expr} {t:TA} {id T:String} {r:List V->Hp->VK->Prop}
def tCB (r:List V->Hp->VK->Prop) (t:TA):TE:=fun σ H Q=>t σ H fun vs H1=>r vs H1 Q
theorem az (hc:dF X (.builtin id) r) (hg:Gl X x) (hm:X.mg x=none) (hv:bootBuiltins x=some (.builtin id)) (ha:PA X (e::es) t) (hn:x≠"__name__":=by decide) (hdb:(x==("__debug__":Str))=false:=by decide)
    (he:starEach (e::es) X.env=(false,eval e X.env)::starEach es X.env:=by rfl) (hpl:(backTo pos (starEach es X.env)).any (·.1)=false:=by rfl):PE X (.Call (.Name x p) (e::es) [] pos) (tCB r t):=by
 intro pins s σ H Q I h
 refine wpAny_Call_Name_kw (fj I hg hm hv ?_ hn hdb)
 exact PyProof.Rows.callWith_builtin1 (thn (ha pos pins s σ H _ I h) fun us s1 ⟨vs,H1,I1,r1,q1⟩=>hc pins s1 σ H1 vs us Q I1 r1 q1) he hpl
theorem cz (hc:dF X (.type T) r) (hg:Gl X x) (hm:X.mg x=none) (hv:bootBuiltins x=some (.type T)) (ha:PA X (e::es) t) (hn:x≠"__name__":=by decide) (hdb:(x==("__debug__":Str))=false:=by decide)
    (he:starEach (e::es) X.env=(false,eval e X.env)::starEach es X.env:=by rfl) (hpl:(backTo pos (starEach es X.env)).any (·.1)=false:=by rfl):PE X (.Call (.Name x p) (e::es) [] pos) (tCB r t):=by
 intro pins s σ H Q I h
 refine wpAny_Call_Name_kw (fj I hg hm hv ?_ hn hdb)
 exact Ew (thn (ha pos pins s σ H _ I h) fun us s1 ⟨vs,H1,I1,r1,q1⟩=>hc pins s1 σ H1 vs us Q I1 r1 q1) he hpl
end
end L2
namespace HT
open PySem PyProof.Rows
section
open PySem.SeqAt
open PySem.AutoSeq1 (wpAny_loadPart')
open PySem.MeetsSeq PySem.MeetsSeq2 PySem.MeetsSeq3
end
section
variable {prog:Program} {w:World} {A:Around} {E:Value->Shared->Prop} {s:Shared}
theorem cat_tup {t b:Addr} {vs ws:List Value} {Q:Value->Shared->Prop} (ht:IsTup s.heap t vs.toArray) (hb:IsTup s.heap b ws.toArray) (hv:vs≠[])
    (h1:ws=[]->Q (.ref t) s) (h2:ws≠[]->Q (.ref s.heap.objs.size) { s with heap:=s.heap.push { cls:=.type "tuple",data:=.seq (vs++ws).toArray } })
    (hsz:vs.length+ws.length<=sizeLine):wpAny (model prog w) A (binaryOp .Add (.ref t) (.ref b)) Q E s:=by
 obtain ⟨⟨cls,dd,data,sl⟩,ho,hc,n,hd⟩:=id ht
 obtain ⟨⟨cls2,dd2,data2,sl2⟩,ho2,hc2,n2,hd2⟩:=id hb
 simp only at hc hd hc2 hd2
 subst hc hd hc2 hd2
 have e:vs.toArray++ws.toArray=(vs++ws).toArray:=by simp
 by_cases hw:ws=[]
 . exact concat_meets ⟨_,ho,rfl⟩ ⟨_,ho2,rfl⟩ noFill_tuple_add seq_tuple_add PySem.F.slot_tuple_add PySem.F.entry_tuple_add (PySem.F.args_tuple_add_2 _ _)
     (tuple_addW1 t b vs.toArray ws.toArray n n2 dd dd2 sl sl2 (by simpa using hv) (by simp [hw])) ⟨ho,ho2,h1 hw⟩
 . refine concat_meets ⟨_,ho,rfl⟩ ⟨_,ho2,rfl⟩ noFill_tuple_add seq_tuple_add PySem.F.slot_tuple_add PySem.F.entry_tuple_add (PySem.F.args_tuple_add_2 _ _)
     (tuple_addW2 t b vs.toArray ws.toArray n n2 dd dd2 sl sl2 (by simpa using hv) (by simpa using hw) (by rw [Du,Du];exact hsz)) ⟨ho,ho2,?_⟩
   rw [e]
   exact h2 hw
def sIx (n d:Nat):Option Int->Nat
 | none=>d
 | some v=>if v<0 then (v+(n:Int)).toNat else min v.toNat n
theorem sIx_le (n d:Nat) (hd:d<=n) (o:Option Int):sIx n d o<=n:=by
 cases o with
 | none=>exact hd
 | some v=>
  show (if v<0 then (v+(n:Int)).toNat else min v.toNat n)<=n
  by_cases hv:v<0
  . rw [if_pos hv];omega
  . rw [if_neg hv];exact Nat.min_le_right _ _
theorem clip_eq (v:Int) (n d:Nat):(if v<0 then max (v+(n:Int)) 0 else min v (n:Int))=((sIx n d (some v):Nat):Int):=by
 show (if v<0 then max (v+(n:Int)) 0 else min v (n:Int))=(((if v<0 then (v+(n:Int)).toNat else min v.toNat n):Nat):Int)
 by_cases hv:v<0
 . simp only [if_pos hv];omega
 . simp only [if_neg hv];omega
theorem adjust_gen (lo hi:Option Int) (n:Nat):Builtin.Slice.sliceAdjust lo hi 1 (n:Int)=(((sIx n 0 lo:Nat):Int),((sIx n n hi:Nat):Int)):=by
 have h1:¬ ((1:Int)<0):=by omega
 unfold Builtin.Slice.sliceAdjust
 simp only [h1,Es]
 refine Prod.ext ?_ ?_
 . cases lo with
   | none=>rfl
   | some v=>exact clip_eq v n 0
 . cases hi with
   | none=>rfl
   | some v=>exact clip_eq v n n
theorem places_gen (i j:Nat):Builtin.Slice.slicePlaces (i:Int) (j:Int) 1=j-i:=by
 unfold Builtin.Slice.slicePlaces
 have h1:(1:Int)>0:=by omega
 simp only [h1,if_true,Int.ediv_one]
 split<;>omega
theorem slicePart_ {v:Value} {o:Option Int} {Q:Option Int->Shared->Prop} (p:IsPart v o) (h:Q o s):wpAny (model prog w) A (Builtin.Slice.slicePartIndex v) Q E s:=by
 cases p with
 | none=>exact slicePart_none h
 | int i t=>exact slicePart_int h
theorem sliceApplied_gen {sl:Addr} {vl vu:Value} {lo hi:Option Int} {n:Nat} {Q:Int×Int×Nat->Shared->Prop} (hs:s.heap.IsSliceOf sl vl vu .none) (pl:IsPart vl lo) (pu:IsPart vu hi)
    (h:Q (((sIx n 0 lo:Nat):Int),1,sIx n n hi-sIx n 0 lo) s):wpAny (model prog w) A (Builtin.Slice.sliceApplied (.ref sl) (pure (n:Int))) Q E s:=by
 obtain ⟨os,hos,hcs,hds⟩:=id hs
 unfold Builtin.Slice.sliceApplied Builtin.Slice.sliceFields
 refine C8 (C8 (Eu hos hds (x:=vl) rfl (C8 (Eu hos hds (x:=vu) rfl (C8 (Eu hos hds (x:=.none) rfl (Df ?_)))))))
 refine C8 (slicePart_none ?_)
 show wpAny _ _ (if ((1:Int)==0)=true then _ else _) _ _ s
 rw [if_neg (by decide)]
 refine C8 (slicePart_ pl (C8 (slicePart_ pu (C8 (Df ?_)))))
 show wpAny _ _ (match Builtin.Slice.sliceAdjust lo hi 1 (n:Int) with | (lo,hi)=>pure (lo,(1:Int),Builtin.Slice.slicePlaces lo hi 1)) _ _ s
 rw [adjust_gen lo hi n]
 show wpAny _ _ (pure (((sIx n 0 lo:Nat):Int),(1:Int),Builtin.Slice.slicePlaces ((sIx n 0 lo:Nat):Int) ((sIx n n hi:Nat):Int) 1)) _ _ s
 rw [places_gen]
 exact Df h
theorem pick_gen (xs:Array Value) (i k:Nat):((List.range k).filterMap fun (m:Nat)=>xs[((i:Int)+(m:Int)*1).toNat]?).toArray=((xs.toList.drop i).take k).toArray:=by
 have e:(fun (m:Nat)=>xs[((i:Int)+(m:Int)*1).toNat]?)=fun m=>xs[i+m]? :=by
  funext m
  have:((i:Int)+(m:Int)*1).toNat=i+m:=by omega
  rw [this]
 rw [e]
 have:=pick_run xs i k
 rw [List.filterMap_map] at this
 have e2:((fun x=>xs[x]?) ∘ fun x=>i+x)=fun m=>xs[i+m]? :=rfl
 rw [e2] at this
 rw [this]
theorem getItem_tuple_cut {t sl:Addr} {items:Array Value} {vl vu:Value} {lo hi:Option Int} {Q:Value->Shared->Prop} (ht:IsTup s.heap t items) (hs:s.heap.IsSliceOf sl vl vu .none) (pl:IsPart vl lo) (pu:IsPart vu hi)
    (hw:¬ (sIx items.size 0 lo=0/\sIx items.size items.size hi=items.size))
    (h:Q (.ref s.heap.objs.size) { s with heap:=s.heap.push { cls:=.type "tuple",data:=.seq ((items.toList.drop (sIx items.size 0 lo)).take (sIx items.size items.size hi-sIx items.size 0 lo)).toArray } })
    (hsz:items.size<=sizeLine):wpAny (model prog w) A (getItem (.ref t) (.ref sl)) Q E s:=by
 have htake:sizeOk (.seq ((items.toList.drop (sIx items.size 0 lo)).take (sIx items.size items.size hi-sIx items.size 0 lo)).toArray):=by
  show ((items.toList.drop (sIx items.size 0 lo)).take (sIx items.size items.size hi-sIx items.size 0 lo)).toArray.size<=sizeLine
  rw [Du,Dv,DU,Dc]
  omega
 have hj:sIx items.size items.size hi<=items.size:=sIx_le _ _ (Dh _) hi
 obtain ⟨os,hos,hcs,hds⟩:=id hs
 have hTs:s.TypeIs (.ref sl) "slice":=⟨os,hos,hcs⟩
 unfold getItem
 try with_reducible refine Eo ?_
 first | refine C8 (Df ?_) | skip
 refine C8 (wpAny_sequenceKey ht.typeIs (by decide) ?_)
 refine C8 (D1 (name:=Str.ofString "__getitem__") ht.typeIs Ej
  (D8 Ej ht.typeIs entry_tuple_getitem ?_ (args_tuple_getitem _ _)))
 show wpAny _ _ (Builtin.Tuple.tupleItemsOf (.ref t)>>=_) _ _ s
 refine C8 (tupleItemsOf_ ht ?_)
 refine C8 (wpAny_typeOf hTs ?_)
 rw [if_pos (by decide)]
 refine C8 (sliceApplied_gen hs pl pu ?_)
 have hno:¬ ((((sIx items.size 0 lo:Nat):Int)==0 && (1:Int)==1 && (sIx items.size items.size hi-sIx items.size 0 lo)==items.size)=true):=by
  intro q
  rw [D0,D0] at q
  have q1:((sIx items.size 0 lo:Nat):Int)=0:=eq_of_beq q.1.1
  have q2:sIx items.size items.size hi-sIx items.size 0 lo=items.size:=eq_of_beq q.2
  exact hw ⟨by omega,by omega⟩
 show wpAny _ _ (if (((sIx items.size 0 lo:Nat):Int)==0 && (1:Int)==1 && (sIx items.size items.size hi-sIx items.size 0 lo)==items.size)=true then _ else _) _ _ s
 rw [if_neg hno,pick_gen]
 first
  | exact C8 (m:=Builtin.Tuple.tupleExact _) (Ed (Df ⟨_,rfl,Df h⟩) htake)
  | exact C8 (m:=Builtin.Tuple.tupleExact _) (Ed (C8 (Df (Df ⟨_,rfl,Df h⟩))) htake)
  | exact C8 (C8 (m:=Builtin.Tuple.tupleExact _) (Ed (Df (Df ⟨_,rfl,Df h⟩)) htake))
  | exact C8 (C8 (m:=Builtin.Tuple.tupleExact _) (Ed (Df ⟨_,rfl,Df h⟩) htake))
end
end HT
namespace L2
open PySem PySem.Spec PyProof.Rows
abbrev TO:=St->Hp->(Option Int->Hp->Prop)->Prop
def PO (X:Cx) (e:Option Expr) (t:TO):Prop:=
 ∀ (pins:List (Addr×Obj)) (s:Shared) (σ:St) (H:Hp) (Q:Option Int->Hp->Prop),Inv X pins σ H s->t σ H Q->
  wpAny (model X.prog X.w) X.A (evalPart e X.env) (fun u s'=>∃ o H',Inv X pins σ H' s'/\IsPart u o/\Q o H') X.xe s
def xo:TO:=fun _ H Q=>Q none H
def Br (t:TE):TO:=fun σ H Q=>t σ H fun x H1=>∃ i,x=.int i/\Q (some i) H1
section
variable {X:Cx} {e:Expr} {te:TE} {lo hi:Option Expr} {tl th:TO} {pos p2:Pos}
theorem nu:PO X none xo:=by
 intro pins s σ H Q I h
 rw [evalPart_none]
 exact Df ⟨none,H,I,.none,h⟩
theorem nr (h:PE X e te):PO X (some e) (Br te):=by
 intro pins s σ H Q I hw
 rw [evalPart_some]
 refine thn (h pins s σ H _ I hw) fun u s1 ⟨x,H1,I1,r1,q1⟩=>?_
 obtain ⟨i,rfl,q⟩:=q1
 obtain ⟨t,rfl⟩:=r1
 exact ⟨some i,H1,I1,.int i t,q⟩
def SlR (X:Cx) (r:V->Option Int->Option Int->Hp->VK->Prop):Prop:=
 ∀ (pins:List (Addr×Obj)) (s:Shared) (σ:St) (H:Hp) (x:V) (v vl vu:Value) (lo hi:Option Int) (sl:Addr) (Q:VK),Inv X pins σ H s->bB x v->s.heap.IsSliceOf sl vl vu .none->IsPart vl lo->IsPart vu hi->r x lo hi H Q->
  ∃ T id,typeLookup (.type T) "__getitem__"=pure (some (.builtin id))/\s.TypeIs v T/\wpAny (model X.prog X.w) X.A (getItem v (.ref sl)) (EP X pins σ Q) X.xe s
def tSl (r:V->Option Int->Option Int->Hp->VK->Prop) (te:TE) (tl th:TO):TE:=fun σ H Q=>te σ H fun x H1=>tl σ H1 fun l H2=>th σ H2 fun u H3=>r x l u H3 Q
theorem jL {r:V->Option Int->Option Int->Hp->VK->Prop} (hr:SlR X r) (he:PE X e te) (hl:PO X lo tl) (hu:PO X hi th):PE X (.Subscript e (.Slice lo hi none p2) pos) (tSl r te tl th):=by
 intro pins s σ H Q I h
 refine Subscript_ (thn (he pins s σ H _ I h) fun v s1 ⟨x,H1,I1,r1,q1⟩=>?_)
 refine wpAny_Slice (thn (hl pins s1 σ H1 _ I1 q1) fun vl s2 ⟨l,H2,I2,pl,q2⟩=>thn (hu pins s2 σ H2 _ I2 q2) fun vu s3 ⟨u,H3,I3,pu,q3⟩=>?_)
 rw [evalPart_none]
 refine Df ?_
 have I4:Inv X pins σ H3 { s3 with heap:=s3.heap.push { cls:=.type "slice",data:=.fields #[vl,vu,.none] } }:=I3.kept (t':=s3.toks) fun b ob q=>Dd _ q
 obtain ⟨T,id,hT,ht,hg⟩:=hr pins { s3 with heap:=s3.heap.push { cls:=.type "slice",data:=.fields #[vl,vu,.none] } } σ H3 x v vl vu l u s3.heap.objs.size Q I4 r1 (Heap.IsSliceOf.new ..) pl pu q3
 show wpAny (model X.prog X.w) X.A (subscriptTail e (.Slice lo hi none p2) v (.ref s3.heap.objs.size)) (EP X pins σ Q) X.xe { s3 with heap:=s3.heap.push { cls:=.type "slice",data:=.fields #[vl,vu,.none] } }
 exact tail_any (ops:=[.ref s3.heap.objs.size,v]) ht hT hg (by with_unfolding_all rfl)
def qD (xs:List V) (lo hi:Option Int):List V:=(xs.drop (HT.sIx xs.length 0 lo)).take (HT.sIx xs.length xs.length hi-HT.sIx xs.length 0 lo)
theorem iE (xs:List V) (lo hi:Option Int):(qD xs lo hi).length<=xs.length:=by
 unfold qD
 rw [Dv,DU]
 omega
def CG (K:PySem.W.Frag):V->Option Int->Option Int->Hp->VK->Prop:=fun x lo hi H Q=>∃ a xs,x=.ref a/\SqT K H a xs/\
 ¬ (HT.sIx xs.length 0 lo=0/\HT.sIx xs.length xs.length hi=xs.length)/\∀ p,H p=none->Q (.ref p) (upd H p (.tup (qD xs lo hi)))
theorem zG:SlR X (CG X.K):=by
 intro pins s σ H x v vl vu lo hi sl Q I rx hs pl pu h
 obtain ⟨a,xs,rfl,hx,hw,q⟩:=h
 cases rx
 obtain ⟨its,r,ht,hz⟩:=I.tuple hx
 have hlen:its.toArray.size=xs.length:=by rw [Du];exact r.length.symm
 refine ⟨"tuple",_,Ej.lookup,ht.typeIs,?_⟩
 refine HT.getItem_tuple_cut ht hs pl pu (by rw [hlen];exact hw) ?_ (by rw [hlen];exact hz)
 rw [hlen]
 refine ⟨.ref s.heap.objs.size,_,I.laid (t':=s.toks) (o:=.tup (qD xs lo hi)) (fun b ob q=>Dd _ q) (Dh _) ?_,rfl,q _ (I.hok.fresh (Dh _))⟩
 exact ⟨DP (iE xs lo hi) hz,_,(r.drop (HT.sIx xs.length 0 lo)).take (HT.sIx xs.length xs.length hi-HT.sIx xs.length 0 lo),xc.new _ _⟩
theorem ba.nil_iff {xs:List V} {us:List Value} (r:ba xs us):us=[] ↔ xs=[]:=by
 cases r with
 | nil=>simp
 | cons _ _=>simp
end
end L2
namespace L2
open PySem PySem.Spec PyProof.Rows
def ixN (n:Nat) (i:Int):Option Nat:=if 0<=i then (if i<n then some i.toNat else none) else if-(n:Int)<=i then some (i+n).toNat else none
def atI {α:Type} (xs:List α) (i:Int):Option α:=(ixN xs.length i).bind fun j=>xs[j]?
theorem tG {n:Nat} {i:Int} {j:Nat} (h:ixN n i=some j):seqIndex? i n=some j/\j<n/\-(n:Int)<=i/\i<n:=by
 unfold ixN at h
 by_cases h0:0<=i
 . rw [if_pos h0] at h
   by_cases h1:i<n
   . rw [if_pos h1] at h
     have e:i.toNat=j:=Dg h
     exact ⟨by rw [seqIndex_of h0 h1,e],by omega,by omega,h1⟩
   . rw [if_neg h1] at h;cases h
 . rw [if_neg h0] at h
   by_cases h1: -(n:Int)<=i
   . rw [if_pos h1] at h
     have e:(i+n).toNat=j:=Dg h
     exact ⟨by rw [seqIndex_neg (by omega) h1,e],by omega,h1,by omega⟩
   . rw [if_neg h1] at h;cases h
theorem uI {α:Type} {xs:List α} {i:Int} {v:α} (h:atI xs i=some v):∃ j,seqIndex? i xs.length=some j/\xs[j]? =some v/\j<xs.length/\-(xs.length:Int)<=i/\i<xs.length:=by
 unfold atI at h
 cases e:ixN xs.length i with
 | none=>rw [e] at h;cases h
 | some j=>
  rw [e] at h
  obtain ⟨h1,h2,h3,h4⟩:=tG e
  exact ⟨j,h1,h,h2,h3,h4⟩
theorem eI {α:Type} {xs:List α} {j:Nat} {v:α} (h:xs[j]? =some v):atI xs (j:Int)=some v:=by
 have hj:j<xs.length:=(Db.mp h).1
 have e:ixN xs.length (j:Int)=some j:=by
  unfold ixN
  rw [if_pos (by omega),if_pos (by omega)];simp
 unfold atI;rw [e];exact h
def yX (b:Expr):Prop:=∀ o i,subscripted b false o i=operate [o,i] (getItem o i)
def IxR (X:Cx) (r:R2):Prop:=
 ∀ (value slice:Expr) (pins:List (Addr×Obj)) (s:Shared) (σ:St) (H:Hp) (x y:V) (v u:Value) (Q:VK),Inv X pins σ H s->bB x v->bB y u->r x y H Q->
  subscripted slice false v u=operate [v,u] (getItem v u)->wpAny (model X.prog X.w) X.A (subscriptTail value slice v u) (EP X pins σ Q) X.xe s
def MtR (X:Cx) (id:String) (r:V->List V->Hp->VK->Prop):Prop:=
 ∀ (pins:List (Addr×Obj)) (s:Shared) (σ:St) (H:Hp) (x:V) (xs:List V) (v:Value) (us:List Value) (Q:VK),Inv X pins σ H s->bB x v->ba xs us->r x xs H Q->
  wpAny (model X.prog X.w) X.A (call (.builtin id) (v::us)) (EP X pins σ Q) X.xe s
section
variable {X:Cx} {a b:Expr} {ta tb:TE} {pos:Pos}
theorem aO {r:R2} (hr:IxR X r) (ha:PE X a ta) (hb:PE X b tb) (hs:yX b):PE X (.Subscript a b pos) (tOp r ta tb):=by
 intro pins s σ H Q I h
 exact Subscript_ (Cb ha hb I h fun v u s2 x y H2 I2 rx ry q=>hr a b pins s2 σ H2 x y v u Q I2 rx ry q (hs _ _))
def Cl (K:PySem.W.Frag):R2:=fun x y H Q=>∃ p xs i v,x=.ref p/\y=.int i/\SqL K H p xs/\atI xs i=some v/\Q v H
def Ck (K:PySem.W.Frag):R2:=fun x y H Q=>∃ p xs i v,x=.ref p/\y=.int i/\SqT K H p xs/\atI xs i=some v/\Q v H
theorem bZ:IxR X (Cl X.K):=by
 intro value slice pins s σ H x y v u Q I rx ry h hs
 obtain ⟨p,xs,i,z,rfl,rfl,hq,he,q⟩:=h
 cases rx
 obtain ⟨t,rfl⟩:=ry
 obtain ⟨its,r,pl,hz⟩:=I.list hq
 obtain ⟨j,h1,h2,h3,h4,h5⟩:=uI he
 obtain ⟨w,ew,rw'⟩:=r.get h2
 have hl:=r.length
 have hn:=lN
 have fin:EP X pins σ Q w s:=⟨z,H,I,rw',q⟩
 by_cases h0:0<=i
 . have hj:i.toNat=j:=by
     rw [seqIndex_of h0 h5] at h1
     exact Dg h1
   exact item_listR pl.isList h0 (by omega) (by rw [hj];simpa using ew) fin hs
 . have hj:(i+(its.toArray.size:Int)).toNat=j:=by
     rw [seqIndex_neg (by omega) h4] at h1
     rw [Du,<- hl]
     exact Dg h1
   exact subscriptTail_builtinR (x:=w) pl.isList.typeIs slot_list_getitem.lookup
    (wpAny_getItem_list_neg (Q:=fun r s'=>r=w/\EP X pins σ Q r s') pl.isList (by omega) (by rw [Du]<;>omega) (by omega) (by rw [hj];simpa using ew) ⟨rfl,fin⟩) hs
theorem aL:IxR X (Ck X.K):=by
 intro value slice pins s σ H x y v u Q I rx ry h hs
 obtain ⟨p,xs,i,z,rfl,rfl,hq,he,q⟩:=h
 cases rx
 obtain ⟨t,rfl⟩:=ry
 obtain ⟨its,r,pl,hz⟩:=I.tuple hq
 obtain ⟨j,h1,h2,h3,h4,h5⟩:=uI he
 obtain ⟨w,ew,rw'⟩:=r.get h2
 have hl:=r.length
 have hn:=lN
 have fin:EP X pins σ Q w s:=⟨z,H,I,rw',q⟩
 exact subscriptTail_builtinR (x:=w) pl.typeIs slot_tuple_getitem.lookup
  (getItem_tuple (j:=j) (Q:=fun r s'=>r=w/\EP X pins σ Q r s') pl (by omega) (by omega) (by rw [Du,<- hl];exact h1) (by simpa using ew) ⟨rfl,fin⟩) hs
theorem qg (its:List Value) (n j:Nat) (u:Value):Obj.mapSeq (·.setIfInBounds j u) { cls:=.type "list",data:=.seq its.toArray n }={ cls:=.type "list",data:=.seq (its.set j u).toArray n }:=by
 simp [Obj.mapSeq]
theorem Inv.lst {pins:List (Addr×Obj)} {σ:St} {H:Hp} {s:Shared} {p:Addr} {xs:List V} (I:Inv X pins σ H s) (h:H p=some (.lst xs)):
    ∃ (its:List Value) (n:Nat),ba xs its/\s.heap.get? p=some { cls:=.type "list",data:=.seq its.toArray n }/\xs.length<=sizeLine:=by
 obtain ⟨z,its,n,r,e⟩:=I.hok p _ h
 exact ⟨its,n,r,e,z⟩
theorem Inv.lstUpd {pins:List (Addr×Obj)} {σ:St} {H:Hp} {s:Shared} {p:Addr} {xs ys:List V} {its its':List Value} {n n':Nat} {f:Obj->Obj} (I:Inv X pins σ H s) (h:H p=some (.lst xs))
    (ho:s.heap.get? p=some { cls:=.type "list",data:=.seq its.toArray n }) (hf:f { cls:=.type "list",data:=.seq its.toArray n }={ cls:=.type "list",data:=.seq its'.toArray n' }) (r:ba ys its') (hz:ys.length<=sizeLine) (t:Nat):
    Inv X pins σ (upd H p (.lst ys)) { s with heap:=s.heap.update p f,toks:=t }:=by
 have e:(s.heap.update p f).get? p=some { cls:=.type "list",data:=.seq its'.toArray n' }:=by
  rw [Heap.get?_update_self f ho (by rw [hf]<;>rfl),hf]
 refine I.write (x:=p) (e:=p) (by rw [h];trivial) (.inl rfl) (fun b u hb q=>(Heap.get?_update_other _ _ (Ne.symm hb)).trans q) ⟨_,e⟩ ?_
 exact ⟨hz,its',n',r,e⟩
def BO:V->V->V->Hp->(Hp->Prop)->Prop:=fun o i v H Q=>∃ p xs k j,o=.ref p/\i=.int k/\H p=some (.lst xs)/\ixN xs.length k=some j/\Q (upd H p (.lst (xs.set j v)))
theorem eN:Cq X BO:=by
 intro pins s σ H o i v ov iv u Q I ro ri rv h
 obtain ⟨p,xs,k,j,rfl,rfl,hp,hj,q⟩:=h
 cases ro
 obtain ⟨t,rfl⟩:=ri
 obtain ⟨its,n,r,ho,hz⟩:=I.lst hp
 obtain ⟨h1,h2,h3,h4⟩:=tG hj
 have hl:=r.length
 have hn:=lN
 have I':Inv X pins σ (upd H p (.lst (xs.set j v))) { s with heap:=s.heap.update p (Obj.mapSeq (·.setIfInBounds j u)) }:=
  I.lstUpd hp ho (qg its n j u) (r.set rv j) (by rw [Ef];exact hz) s.toks
 by_cases h0:0<=k
 . have hk:k.toNat=j:=by
     rw [seqIndex_of h0 h4] at h1
     exact Dg h1
   exact PySem.W.ki_setAt ho h0 (by omega) (by rw [Du,<- hl];exact h4) (by rw [hk];exact ⟨_,I',q⟩)
 . have hk:(k+(its.toArray.size:Int)).toNat=j:=by
     rw [seqIndex_neg (by omega) h3] at h1
     rw [Du,<- hl]
     exact Dg h1
   exact PySem.W.ki_setBack ho (by omega) (by rw [Du,<- hl];exact h3) (by omega) (by rw [hk];exact ⟨_,I',q⟩)
theorem kM (lo hi:Option Int) (n:Nat):(sliceBounds lo hi none n).1=((HT.sIx n 0 lo:Nat):Int)/\(sliceBounds lo hi none n).2.1=((HT.sIx n n hi:Nat):Int)/\(sliceBounds lo hi none n).2.2=1:=by
 refine ⟨?_,?_,rfl⟩
 . cases lo with
   | none=>simp [sliceBounds,HT.sIx]
   | some i=>
    simp only [sliceBounds,HT.sIx,Option.getD_none,show (1:Int)>0 by decide,if_true]
    by_cases h:i<0
    . simp only [h,if_true]<;>omega
    . simp only [h,Es]<;>omega
 . cases hi with
   | none=>simp [sliceBounds,HT.sIx]
   | some i=>
    simp only [sliceBounds,HT.sIx,Option.getD_none,show (1:Int)>0 by decide,if_true]
    by_cases h:i<0
    . simp only [h,if_true]<;>omega
    . simp only [h,Es]<;>omega
theorem jB (its:List Value) (lo hi:Option Int):slicePick its.toArray lo hi none=((its.drop (HT.sIx its.length 0 lo)).take (HT.sIx its.length its.length hi-HT.sIx its.length 0 lo)).toArray:=by
 obtain ⟨h1,h2,h3⟩:=kM lo hi its.toArray.size
 unfold slicePick
 rw [h1,h2,h3]
 simp only [sliceRange_one,pick_run,Du]<;>rfl
def CH (K:PySem.W.Frag):V->Option Int->Option Int->Hp->VK->Prop:=fun x lo hi H Q=>∃ a xs,x=.ref a/\SqL K H a xs/\∀ p,H p=none->Q (.ref p) (upd H p (.lst (qD xs lo hi)))
theorem BK:SlR X (CH X.K):=by
 intro pins s σ H x v vl vu lo hi sl Q I rx hs pl pu h
 obtain ⟨a,xs,rfl,hx,q⟩:=h
 cases rx
 obtain ⟨its,r,ht,hz⟩:=I.list hx
 have hlen:=r.length
 refine ⟨"list",_,slot_list_getitem.lookup,ht.isList.typeIs,?_⟩
 refine wpAny_getItem_list_slice ht.isList hs pl pu .none (by simp) ?_ (by rw [Du]<;>omega)
 rw [jB,<- hlen]
 refine ⟨.ref s.heap.objs.size,_,I.laid (t':=s.toks) (o:=.lst (qD xs lo hi)) (fun b ob q=>Dd _ q) (Dh _) ?_,rfl,q _ (I.hok.fresh (Dh _))⟩
 exact ⟨DP (iE xs lo hi) hz,_,0,(r.drop (HT.sIx xs.length 0 lo)).take (HT.sIx xs.length xs.length hi-HT.sIx xs.length 0 lo),Ds _ rfl⟩
def j9:V->Bool
 | .non=>true
 | .bl _=>true
 | .int _=>true
 | .str _=>true
 | _=>false
def eqV:V->V->Bool
 | .non,.non=>true
 | .bl a,.bl b=>a==b
 | .bl a,.int b=>(if a then 1 else 0)==b
 | .int a,.bl b=>a==(if b then 1 else 0)
 | .int a,.int b=>a==b
 | .str a,.str b=>a==b
 | _,_=>false
theorem AO {A:Around} {s:Shared} {y x:V} {u v:Value} (ry:bB y u) (rx:bB x v) (fy:j9 y=true) (fx:j9 x=true):SeqAt.EqAt A s u v (eqV y x):=by
 cases y with
 | non=>
  cases ry
  cases x with
  | non=>cases rx;exact SeqAt.EqAt.same _
  | bl b=>cases rx;exact SeqAt.EqAt.none_bool b
  | int b=>obtain ⟨t,rfl⟩:=rx;exact SeqAt.EqAt.none_int b t
  | str b=>obtain ⟨t,rfl⟩:=rx;exact SeqAt.EqAt.none_str b t
  | _=>exact absurd (show false=true from fx) Dn
 | bl a=>
  cases ry
  cases x with
  | non=>cases rx;exact SeqAt.EqAt.bool_none a
  | bl b=>cases rx;exact SeqAt.EqAt.bool_bool a b
  | int b=>obtain ⟨t,rfl⟩:=rx;exact SeqAt.EqAt.bool_int a b t
  | str b=>obtain ⟨t,rfl⟩:=rx;exact SeqAt.EqAt.bool_str a b t
  | _=>exact absurd (show false=true from fx) Dn
 | int a=>
  obtain ⟨t',rfl⟩:=ry
  cases x with
  | non=>cases rx;exact SeqAt.EqAt.int_none a t'
  | bl b=>cases rx;exact SeqAt.EqAt.int_bool a t' b
  | int b=>obtain ⟨t,rfl⟩:=rx;exact SeqAt.EqAt.int_int a t' b t
  | str b=>obtain ⟨t,rfl⟩:=rx;exact SeqAt.EqAt.int_str a t' b t
  | _=>exact absurd (show false=true from fx) Dn
 | str a=>
  obtain ⟨t',rfl⟩:=ry
  cases x with
  | non=>cases rx;exact SeqAt.EqAt.str_none a t'
  | bl b=>cases rx;exact SeqAt.EqAt.str_bool a t' b
  | int b=>obtain ⟨t,rfl⟩:=rx;exact SeqAt.EqAt.str_int a t' b t
  | str b=>obtain ⟨t,rfl⟩:=rx;exact SeqAt.EqAt.str_str a t' b t
  | _=>exact absurd (show false=true from fx) Dn
 | _=>exact absurd (show false=true from fy) Dn
def eqU (x:V) (u:Value):Bool:=match u with
 | .none=>eqV .non x
 | .bool b=>eqV (.bl b) x
 | .int i _=>eqV (.int i) x
 | .str z _=>eqV (.str z) x
 | _=>false
theorem wX {x y:V} {u:Value} (r:bB y u) (f:j9 y=true):eqU x u=eqV y x:=by
 cases y with
 | non=>cases r;rfl
 | bl b=>cases r;rfl
 | int i=>obtain ⟨t,rfl⟩:=r;rfl
 | str z=>obtain ⟨t,rfl⟩:=r;rfl
 | _=>exact absurd (show false=true from f) Dn
theorem oh {x:V}:∀ {xs:List V} {us:List Value},ba xs us->xs.all j9=true->us.any (eqU x)=xs.any fun y=>eqV y x
 | _,_,.nil,_=>rfl
 | y::xs,u::us,.cons r t,f=>by
  rw [List.all_cons,D0] at f
  rw [List.any_cons,List.any_cons,wX r f.1,oh t f.2]
theorem jV {A:Around} {s:Shared} {x:V} {v:Value} (rx:bB x v) (fx:j9 x=true):∀ {xs:List V} {us:List Value},ba xs us->xs.all j9=true->∀ u∈us,SeqAt.EqAt A s u v (eqU x u)
 | _,_,.nil,_=>fun u hu=>by cases hu
 | y::xs,u::us,.cons r t,f=>fun u' hu=>by
  rw [List.all_cons,D0] at f
  rcases DI.mp hu with rfl | hu
  . rw [wX r f.1];exact AO r rx f.1 fx
  . exact jV rx fx t f.2 u' hu
def inV (x:V) (xs:List V):Bool:=xs.any fun y=>eqV y x
def rIn (K:PySem.W.Frag) (neg:Bool):R2:=fun x y H Q=>∃ p xs,y=.ref p/\(SqL K H p xs\/SqT K H p xs)/\j9 x=true/\xs.all j9=true/\Q (.bl (if neg then !inV x xs else inV x xs)) H
theorem fZ:OpR X (compareOp .NotIn) (rIn X.K true):=by
 intro pins s σ H x y v u Q I rx ry h
 obtain ⟨p,xs,rfl,hq,fx,fs,q⟩:=h
 cases ry
 rcases hq with hq | hq
 . obtain ⟨its,r,pl,hz⟩:=I.list hq
   refine SeqAt.notIn_listAt (eqU x) pl.isList (fun w hw=>jV rx fx r fs w (by simpa using hw)) ⟨.bl _,H,I,rfl,?_⟩
   rw [show its.toArray.any (eqU x)=its.any (eqU x) by simp,oh r fs]
   exact q
 . obtain ⟨its,r,pl,hz⟩:=I.tuple hq
   refine SeqAt.notIn_tupleAt (eqU x) pl (fun w hw=>jV rx fx r fs w (by simpa using hw)) ⟨.bl _,H,I,rfl,?_⟩
   rw [show its.toArray.any (eqU x)=its.any (eqU x) by simp,oh r fs]
   exact q
theorem aF:dF X (.builtin "len") (fun xs H Q=>∃ p ys,xs=[.ref p]/\(SqL X.K H p ys\/SqT X.K H p ys)/\Q (.int ys.length) H):=by
 intro pins s σ H xs us Q I r h
 obtain ⟨p,ys,rfl,hq,q⟩:=h
 obtain ⟨u,rfl,rx⟩:=gY r
 cases rx
 have hn:=lN
 rcases hq with hq | hq
 . obtain ⟨its,r',pl,hz⟩:=I.list hq
   have hlen:=r'.length
   exact Calls.call_len_list pl.isList (by simp only [Du]<;>omega) ⟨.int ys.length,H,I.tok _,⟨s.toks+1,by rw [Du,hlen]⟩,q⟩
 . obtain ⟨its,r',pl,hz⟩:=I.tuple hq
   have hlen:=r'.length
   exact len_tuple pl (by simp only [Du]<;>omega) ⟨.int ys.length,H,I.tok _,⟨s.toks+1,by rw [Du,hlen]⟩,q⟩
theorem mm:dF X (.type "list") (fun xs H Q=>∃ p ys,xs=[.ref p]/\(SqL X.K H p ys\/SqT X.K H p ys)/\∀ l,H l=none->Q (.ref l) (upd H l (.lst ys))):=by
 intro pins s σ H xs us Q I r h
 obtain ⟨p,ys,rfl,hq,q⟩:=h
 obtain ⟨u,rfl,rx⟩:=gY r
 cases rx
 have fin:∀ (its:List Value),ba ys its->ys.length<=sizeLine->∀ (h':Heap) (c':Nat),(∀ b o',s.heap.get? b=some o'->h'.get? b=some o')->
     h'.get? s.heap.objs.size=some { cls:=.type "list",dict:=none,data:=.seq its.toArray c',slots:=#[] }->EP X pins σ Q (.ref s.heap.objs.size) { s with heap:=h' }:=fun its r' hz h' c' kp e=>
  ⟨.ref s.heap.objs.size,_,I.laid (t':=s.toks) kp (Dh _) (show bC X.prog X.w _ h' _ (.lst ys) from ⟨hz,its,c',r',e⟩),rfl,q _ (I.hok.fresh (Dh _))⟩
 rcases hq with hq | hq
 . obtain ⟨its,r',pl,hz⟩:=I.list hq
   have hlen:=r'.length
   obtain ⟨o,ho,hc,n,hd⟩:=pl.isList
   exact call_list_seq p (.inl rfl) ho hc hd (fun h' c' kp e=>fin its r' hz h' c' kp e) (by simp only [Du]<;>omega)
 . obtain ⟨its,r',pl,hz⟩:=I.tuple hq
   have hlen:=r'.length
   obtain ⟨o,ho,hc,n,hd⟩:=pl
   exact call_list_seq p (.inr rfl) ho hc hd (fun h' c' kp e=>fin its r' hz h' c' kp e) (by simp only [Du]<;>omega)
theorem cZ:dF X (.type "tuple") (fun xs H Q=>∃ p ys,xs=[.ref p]/\((SqL X.K H p ys/\∀ l,H l=none->Q (.ref l) (upd H l (.tup ys)))\/(SqT X.K H p ys/\Q (.ref p) H))):=by
 intro pins s σ H xs us Q I r h
 obtain ⟨p,ys,rfl,h⟩:=h
 obtain ⟨u,rfl,rx⟩:=gY r
 cases rx
 rcases h with ⟨hq,q⟩ | ⟨hq,q⟩
 . obtain ⟨its,r',pl,hz⟩:=I.list hq
   have hlen:=r'.length
   refine call_tuple_list pl.isList (fun h' kp=>?_) (by simp only [Du]<;>omega)
   have I1:Inv X pins σ H { s with heap:=h' }:=I.kept (t':=s.toks) kp
   have I2:Inv X pins σ (upd H h'.objs.size (.tup ys)) { s with heap:=h'.push { cls:=.type "tuple",data:=.seq its.toArray } }:=
    I1.laid (t':=s.toks) (fun b o e=>Dd _ e) (Dh _) (show bC X.prog X.w _ _ _ (.tup ys) from ⟨hz,its,r',xc.new _ _⟩)
   exact ⟨.ref h'.objs.size,_,I2,rfl,q _ (I1.hok.fresh (Dh _))⟩
 . obtain ⟨its,r',pl,hz⟩:=I.tuple hq
   exact call_tuple_same pl ⟨.ref p,H,I,rfl,q⟩
def tyV (K:PySem.W.Frag) (T:String) (x:V) (H:Hp):Prop:=match x with
 | .str _=>T="str"
 | .int _=>T="int"
 | .ref p=>(T="list"/\∃ xs,SqL K H p xs)\/(T="tuple"/\∃ o,K.lookup p=some o/\o.cls=.type "tuple"/\o.dict=none)\/
     (T="dict"/\((∃ kvs,H p=some (.dK kvs))\/∃ kvs,H p=some (.dT kvs)))\/(T="set"/\∃ S n,H p=some (.set S n))
 | _=>False
theorem zg {pins:List (Addr×Obj)} {σ:St} {H:Hp} {s:Shared} {T:String} {x:V} {v:Value} (I:Inv X pins σ H s) (r:bB x v) (ty:tyV X.K T x H):
    s.TypeIs v T/\∀ a,v=.ref a->∃ ob,s.heap.get? a=some ob/\ob.dict=none:=by
 cases x with
 | str z=>
  obtain ⟨t,rfl⟩:=r
  cases (show T="str" from ty)
  exact ⟨typeIs_str s z t,fun _ e=>nomatch e⟩
 | int i=>
  obtain ⟨t,rfl⟩:=r
  cases (show T="int" from ty)
  exact ⟨typeIs_int s i t,fun _ e=>nomatch e⟩
 | ref p=>
  cases r
  rcases ty with ⟨rfl,xs,hq⟩ | ⟨rfl,o,hk,hc,hd⟩ | ⟨rfl,hk⟩ | ⟨rfl,S,n,hk⟩
  . obtain ⟨its,_,pl,_⟩:=I.list hq
    refine ⟨pl.isList.typeIs,fun a e=>?_⟩
    cases e
    obtain ⟨o,n,e,c,hd,_⟩:=pl
    exact ⟨o,e,hd⟩
  . refine ⟨⟨o,I.kIn p o hk,hc⟩,fun a e=>?_⟩
    cases e
    exact ⟨o,I.kIn _ o hk,hd⟩
  . have z:∃ o,s.heap.get? p=some o/\o.ExactDict:=by
      rcases hk with ⟨kvs,hk⟩ | ⟨kvs,hk⟩
      . obtain ⟨_,_,_,_,o,_,_,e,ex,_⟩:=I.hok p _ hk
        exact ⟨o,e,ex⟩
      . obtain ⟨_,_,_,_,o,_,_,e,ex,_⟩:=I.hok p _ hk
        exact ⟨o,e,ex⟩
    obtain ⟨o,e,ex⟩:=z
    refine ⟨⟨o,e,ex.1⟩,fun a e2=>?_⟩
    cases e2
    exact ⟨o,e,ex.2.1⟩
  . obtain ⟨o,_,_,_,e,ex,_⟩:=I.hok p _ hk
    refine ⟨⟨o,e,ex.1⟩,fun a e2=>?_⟩
    cases e2
    exact ⟨o,e,ex.2.1⟩
 | _=>exact False.elim ty
def tBM (K:PySem.W.Frag) (T:String) (r:V->List V->Hp->VK->Prop) (to:TE) (t:TA):TE:=fun σ H Q=>to σ H fun x H1=>tyV K T x H1/\t σ H1 fun xs H2=>r x xs H2 Q
variable {o e:Expr} {es:List Expr} {to:TE} {t:TA} {name:Str} {apos cpos:Pos} {T id:String} {r:V->List V->Hp->VK->Prop}
theorem ny (pa:PlainAttrs T) (slot:Slot T name id) (hty:typeOf (.builtin id)=pure (.type "method_descriptor")) (hm:MtR X id r) (ho:PE X o to) (ha:PA X (e::es) t)
    (hbase:attributeBase o name X.env (eval o X.env)=eval o X.env:=by rfl)
    (hfew:((backTo cpos (starEach (e::es) X.env)).all (fun x=>!x.1) && (backToKw cpos (keywordEach [] X.env)).all (fun x=>x.1.isSome)
     && decide ((e::es).length+([]:List Keyword).length+(if ([]:List Keyword).isEmpty then 0 else 1)<30))=true:=by rfl)
    (hline:(apos.endLine==cpos.line)=true:=by rfl) (hs:starEach (e::es) X.env=(false,eval e X.env)::starEach es X.env:=by rfl) (hplain:(backTo cpos (starEach es X.env)).any (·.1)=false:=by rfl):
    PE X (.Call (.Attribute o name apos) (e::es) [] cpos) (tBM X.K T r to t):=by
 intro pins s σ H Q I h
 refine wpAny_Call_method_late hbase hfew hline rfl (thn (ho pins s σ H _ I h) fun v s1 ⟨x,H1,I1,r1,ty,q1⟩=>?_)
 obtain ⟨h1,h2⟩:=zg I1 r1 ty
 refine ⟨T,id,pa,slot,hty,h1,h2,?_⟩
 have hA:=ha cpos pins s1 σ H1 _ I1 q1
 rw [hs] at hA ⊢
 refine Calls.callWith_builtin (by show (false || (backTo cpos (starEach es X.env)).any (·.1))=false;rw [hplain]<;>rfl) (Calls.evalArgs_plain ?_)
 exact thn hA fun us s2 ⟨vs,H2,I2,r2,q2⟩=>hm pins s2 σ H2 x vs v us Q I2 r1 r2 q2
/-xs.append(e),list.index on a module's tuple .. are MtR facts of 06m-/
end
end L2
namespace L2
open PySem PySem.Spec PyProof.Rows
def MtM (X:Cx) (id:String) (r:V->List V->Hp->VK->Prop):Prop:=
 ∀ (pins:List (Addr×Obj)) (s:Shared) (σ:St) (H:Hp) (x:V) (xs:List V) (v:Value) (us:List Value) (Q:VK),Inv X pins σ H s->bB x v->ba xs us->r x xs H Q->
  wpAny (model X.prog X.w) X.A (call (.builtin id) (v::us)) (EP X pins σ Q) X.xe s
theorem ba.one:∀ {x:V} {us:List Value},ba [x] us->∃ u,us=[u]/\bB x u
 | _,_,.cons r .nil=>⟨_,rfl,r⟩
theorem ba.two:∀ {x y:V} {us:List Value},ba [x,y] us->∃ u v,us=[u,v]/\bB x u/\bB y v
 | _,_,_,.cons r (.cons q .nil)=>⟨_,_,rfl,r,q⟩
theorem ba.rep {xs:List V} {us:List Value} (h:ba xs us):∀ k:Nat,ba (List.replicate k xs).flatten (List.replicate k us).flatten
 | 0=>.nil
 | k+1=>by
  rw [List.replicate_succ,List.replicate_succ,List.flatten_cons,List.flatten_cons]
  exact ba.append h (ba.rep h k)
theorem lU (its:List Value):∀ (k:Nat) (acc:List Value),
    List.foldl (fun x1 x2=>x1++x2) acc.toArray (List.replicate k its.toArray)=(acc++(List.replicate k its).flatten).toArray
 | 0,acc=>by simp
 | k+1,acc=>by
  have e:acc.toArray++its.toArray=(acc++its).toArray:=by simp
  have e2:(acc++its)++(List.replicate k its).flatten=acc++(List.replicate (k+1) its).flatten:=by
   rw [List.replicate_succ,List.flatten_cons,DV]
  rw [<- e2,<- lU its k (acc++its),<- e,List.replicate_succ,List.foldl_cons]
section
variable {X:Cx} {pins:List (Addr×Obj)} {σ:St} {H:Hp} {s:Shared} {l b:Addr} {xs ys zs:List V}
theorem Inv.lset {its its':List Value} {n:Nat} {f:Array Value->Array Value} {t':Nat} (I:Inv X pins σ H s) (hH:H l=some (.lst xs))
    (e:s.heap.get? l=some { cls:=.type "list",data:=.seq its.toArray n }) (hf:f its.toArray=its'.toArray) (hv:ba ys its') (hz:ys.length<=sizeLine):
    Inv X pins σ (upd H l (.lst ys)) { s with heap:=s.heap.update l (Obj.mapSeq f),toks:=t' }:=by
 have q:=PySem.IsL.update e f
 rw [hf] at q
 refine I.write (x:=l) (e:=l) (by rw [hH];exact trivial) (.inl rfl) (fun b' u hb hu=>(Heap.get?_update_other s.heap (Obj.mapSeq f) (Ne.symm hb)).trans hu) ⟨_,q⟩ ?_
 exact ⟨hz,its',_,hv,q⟩
theorem Inv.lnew {its:List Value} {t':Nat} (I:Inv X pins σ H s) (hv:ba ys its) (hz:ys.length<=sizeLine):
    Inv X pins σ (upd H s.heap.objs.size (.lst ys)) { s with heap:=s.heap.push { cls:=.type "list",data:=.seq its.toArray },toks:=t' }:=
 I.laid (fun _ _ q=>Dd _ q) (Dh _) ⟨hz,its,0,hv,Ds _ rfl⟩
theorem Inv.fresh (I:Inv X pins σ H s):H s.heap.objs.size=none:=I.hok.fresh (Dh _)
theorem Inv.lstM (I:Inv X pins σ H s) (hH:H l=some (.lst xs)):xs.length<=sizeLine/\∃ (its:List Value) (n:Nat),ba xs its/\xs.length=its.length/\s.heap.get? l=some { cls:=.type "list",data:=.seq its.toArray n }:=by
 obtain ⟨z,its,n,r,e⟩:=I.hok l _ hH
 exact ⟨z,its,n,r,r.length,e⟩
theorem oQ {n:Nat} (h:n<=sizeLine):Builtin.List.listTooLong n=false:=by
 unfold Builtin.List.listTooLong
 exact Dw (by omega)
end
section
variable {X:Cx}
def xR:V->List V->Hp->VK->Prop:=fun x vs H Q=>∃ l xs y,x=.ref l/\vs=[y]/\H l=some (.lst xs)/\xs.length<sizeLine/\Q .non (upd H l (.lst (xs++[y])))
theorem dy:MtM X "list.append" xR:=by
 intro pins s σ H x vs v us Q I rx rv h
 obtain ⟨l,xs,y,rfl,rfl,hH,hz,q⟩:=h
 cases rx
 obtain ⟨u,rfl,ru⟩:=rv.one
 obtain ⟨z,its,n,r,hl,e⟩:=I.lstM hH
 refine call_meets F.slot_list_append ⟨_,e,rfl⟩ F.entry_list_append (F.args_list_append_2 _ _) (PySem.list_append l its.toArray n u (by rw [Du];omega)) ⟨e,?_⟩
 refine ⟨.non,_,I.lset (its':=its++[u]) hH e (by simp) (r.append (.cons ru .nil)) ?_,rfl,q⟩
 rw [Dm,List.length_singleton]
 omega
def xQ:V->List V->Hp->VK->Prop:=fun x vs H Q=>∃ l b xs zs,x=.ref l/\vs=[.ref b]/\H l=some (.lst xs)/\H b=some (.lst zs)/\xs.length+zs.length<=sizeLine/\Q .non (upd H l (.lst (xs++zs)))
theorem lG:MtM X "list.extend" xQ:=by
 intro pins s σ H x vs v us Q I rx rv h
 obtain ⟨l,b,xs,zs,rfl,rfl,hH,hB,hz,q⟩:=h
 cases rx
 obtain ⟨u,rfl,ru⟩:=rv.one
 cases ru
 obtain ⟨z,its,n,r,hl,e⟩:=I.lstM hH
 obtain ⟨z2,its2,n2,r2,hl2,e2⟩:=I.lstM hB
 have hsz:its.toArray.size+its2.toArray.size<=sizeLine:=by rw [Du,Du];omega
 have hlong:¬ (!its.toArray.isEmpty && Builtin.List.listTooLong (its.toArray.size+its2.toArray.size))=true:=by
  rw [oQ hsz,Bool.and_false]
  exact Dn
 refine call_meets F.slot_list_extend ⟨_,e,rfl⟩ F.entry_list_extend (F.args_list_extend_2 _ _)
  (AutoSeq1.list_extend_list_list_0 l its.toArray n b its2.toArray n2 hlong (by rw [Du];omega) (by omega)) ⟨e,e2,?_⟩
 refine ⟨.non,_,I.lset (its':=its++its2) hH e (by simp) (r.append r2) ?_,rfl,q⟩
 rw [Dm]
 omega
def CJ:R2:=fun x y H Q=>∃ l k xs,x=.ref l/\y=.int k/\H l=some (.lst xs)/\-(2^63)<=k/\k<2^63/\xs.length*k.toNat<=sizeLine/\
 ∀ p,H p=none->Q (.ref p) (upd H p (.lst (List.replicate k.toNat xs).flatten))
theorem yg {α:Type} (xs:List α) (k:Nat):(List.replicate k xs).flatten.length=k*xs.length:=by
 induction k with
 | zero=>simp
 | succ k ih=>rw [List.replicate_succ,List.flatten_cons,Dm,ih,Nat.succ_mul,Nat.add_comm]
theorem sL:OpR X (binaryOp .Mult) CJ:=by
 intro pins s σ H x y v u Q I rx ry h
 obtain ⟨l,k,xs,rfl,rfl,hH,h1,h2,hz,q⟩:=h
 cases rx
 obtain ⟨t,rfl⟩:=ry
 obtain ⟨z,its,n,r,hl,e⟩:=I.lstM hH
 have hlen:its.toArray.size*k.toNat<=sizeLine:=by rw [Du,<- hl];exact hz
 have hcap:¬ its.toArray.size*k.toNat>(2^63-1) / 8:=by
  have:(sizeLine:Nat)<=(2^63-1) / 8:=by decide
  omega
 have hfit:¬ (!Builtin.List.listFitsIndex k)=true:=by
  rw [fitsIndex_both h1 h2]
  exact Dn
 have hlong:¬ Builtin.List.listTooLong (its.toArray.size*k.toNat)=true:=by
  rw [oQ hlen]
  exact Dn
 have hnew:List.foldl (fun x1 x2=>x1++x2) #[] (List.replicate (if its.toArray.isEmpty=true then 0 else k.toNat) its.toArray)=(List.replicate k.toNat its).flatten.toArray:=by
  have f0:∀ m:Nat,List.foldl (fun x1 x2=>x1++x2) #[] (List.replicate m its.toArray)=(List.replicate m its).flatten.toArray:=fun m=>by
   have:=lU its m []
   rw [List.nil_append] at this
   exact this
  rw [f0]
  cases its with
  | nil=>simp
  | cons a r'=>rw [if_neg (by simp)]
 refine wpAny_binaryOp_repeat_ref (T:="list") (U:="int") (by decide) ⟨_,e,rfl⟩ (fun s'=>typeIs_int s' k t) noFill_list_mul F.fills_int_mul F.slot_int_rmul repeat_list F.slot_int_index.lookup
  (call_meets F.slot_int_rmul (typeIs_int s k t) F.entry_int_rmul (F.args_int_rmul_2 _ _) (int___rmul___int_list k t l its.toArray n)
   ⟨e,rfl,⟨_,e,rfl⟩,call_meets F.slot_list_mul ⟨_,e,rfl⟩ F.entry_list_mul (F.args_list_mul_2 _ _) (AutoListH.list___mul___list_int_3 l its.toArray n k t hfit hcap hlong) ⟨e,?_⟩⟩)
 rw [hnew]
 exact ⟨.ref _,_,I.lnew (t':=s.toks) (r.rep k.toNat) (by rw [yg,Nat.mul_comm];exact hz),rfl,q _ I.fresh⟩
end
section
variable {prog:Program} {w:World} {A:Around} {E:Value->Shared->Prop} {s:Shared}
end
section
variable {X:Cx}
end
end L2
namespace Att
open PySem PySem.W PySem.Calls PyProof.Rows
theorem ints_of_wellAll {P:Params} {h:Heap}:∀ (ns:List Int) (vs:List Value),WellAll P h vs (ns.map WData.int)->IntsAre vs ns:=by
 intro ns
 induction ns with
 | nil=>
  intro vs w
  rw [List.map_nil] at w
  cases w
  exact .nil
 | cons n ns ih=>
  intro vs w
  rw [DS] at w
  cases w with
  | cons a b=>
   cases a
   exact .cons _ _ (ih _ b)
theorem script_of {l:OpenLaw} {n:Nat} (hn:l.most=some n) {P:Params} {h:Heap} {args:List WData} {vals:List Value}
    (hpre:l.row.toRowW.claim.pre args=true) (hwl:WellAll P h vals args):
    ∃ a vs ns,vals=[Value.ref a]/\args=[WData.list (ns.map WData.int)]/\h.get? a=some { cls:=.type "list",data:=.seq vs.toArray }/\IntsAre vs ns/\ns.length<=n:=by
 have hsh:WShape.hasAll [] args [.list .int]=true:=(pre_splitW hpre).1
 have hc:l.pre.holds [] { args:=args }=true:=(pre_splitW hpre).2
 obtain ⟨d,r,rfl,h1,h2⟩:=hasAllW_cons hsh
 obtain rfl:=hasAllW_nil h2
 obtain ⟨xs,rfl,h3⟩:=hasW_list h1
 obtain ⟨ns,rfl⟩:=items_int h3
 have hlen:ns.length<=n:=by
  unfold OpenLaw.pre at hc
  have h4:(WTm.not (.lt (.lit (.int (n:Int))) (.len (.arg 0)))).holds [] { args:=[.list (ns.map .int)] }=true:=by
   have h4:=(holds_andW hc).1
   rw [hn] at h4
   exact h4
  have h5:=condW_of h4 (w_not (w_lt w_lit (w_len_list (w_arg rfl))))
  rw [Da] at h5
  refine Nat.le_of_not_lt fun q=>?_
  have q':(n:Int)<((ns.length:Nat):Int):=by omega
  first
   | (rw [decide_eq_true q'] at h5;exact absurd h5 (by decide))
   | (simp at h5;omega)
 cases hwl with
 | cons w1 w2=>
  cases w2
  cases w1 with
  | list ho hall=>exact ⟨_,_,ns,rfl,rfl,ho,ints_of_wellAll ns _ hall,hlen⟩
theorem post_true (l:OpenLaw) (args:List WData):l.row.toRowW.claim.post args (.bool true) args=true:=
 postW_of (r:=l.row.toRowW) (X:=(true==true))
  (show WShape.has [] (.bool true) .bool=true by first | rfl | decide | simp [WShape.has,WShape.arms,WShape.armsAll])
  (show (WTm.eq .res (.lit (.bool true))).value [] { args:=args,res:=some (.bool true),after:=args }=some (.bool (true==true)) from w_eq_bool (w_res rfl) w_lit) rfl
theorem attach_call {l:OpenLaw} {n:Nat} {q:Program} {loose:List Str} {XP:(Str->Option Value)->Heap->Prop} {YP:World->Heap->Prop} {d:DefRec}
    (hn:l.most=some n) (hdf:d.params.defaults=[])
    (call:∀ (w:World) (s₀ s₁:Shared) (mg mb:Str->Option Value) (fa:Addr) (o:Obj) (pm cd doc:Value) (a:Addr) (vs:List Value) (ns:List Int),
     Ground q loose [] XP w s₀ mg mb s₁.heap->YP w s₁.heap->
     s₁.heap.get? fa=some o->o.data=.func (docDef d.name d.params d.body d.scope pm cd doc)->s₁.heap.CodeRec cd d.name->mg d.name=some (.ref fa)->
     s₁.heap.get? a=some { cls:=.type "list",data:=.seq vs.toArray }->IntsAre vs ns->ns.length<=n->s₁.gens=#[]->
     codeAny (model l.prog w) callerA (.call (.ref fa) ⟨[.ref a],[]⟩) (fun r s'=>r=.ok (.ret (.bool true))/\OldK s₁.heap s'.heap/\s'.os=s₁.os/\AllBare s'.gens) s₁):
    WalkO q loose XP YP l.row.toRowW d [] (fun f vs=>PySem.call f vs):=by
 intro w s₀ s₁ mg mb G Y fa o pm cd doc dV kV ho hd hcd hD hmg hg args vals as hpre hlay hrd hwl hlo
 obtain rfl:dV=.none:=Dflts.none hD hdf
 obtain rfl:kV=.none:=Dflts.noKw hD
 obtain ⟨a,vs,ns,rfl,rfl,hobj,hints,hlen⟩:=script_of hn hpre hwl
 refine enter_call (codeAny_mono (call w s₀ s₁ mg mb fa o pm cd doc a vs ns G Y ho (fd_plain hd) hcd hmg hobj hints hlen hg) fun r s' hq=>?_)
 obtain ⟨rfl,h2,h3,h4⟩:=hq
 exact ⟨.inl ⟨.bool true,.bool true,[],rfl,fun _=>rfl,.bool true,post_true l _,fun _=>⟨List.Pairwise.nil,fun _ hm=>(nomatch hm)⟩⟩,h2,h3,h4⟩
section
variable {prog:Program} {w:World} {A:Around} {E:Value->Shared->Prop} {s:Shared} {K:Frag}
end
end Att
namespace L2
open PySem PySem.Spec PyProof.Rows
theorem kF:∀ {vs:List Value} {ns:List Int},IntsAre vs ns->ba (ns.map V.int) vs
 | _,_,.nil=>.nil
 | _,_,.cons n t h=>.cons ⟨t,rfl⟩ (kF h)
def Bl (H:Hp):Prop:=∀ b,H b=none\/∃ o xs,H b=some (.frz o (.lst xs))
theorem vS {P:Program} {w:World} {K:PySem.W.Frag} {mg mb:Str->Option Value} {CX:CXT} {k:Nat} {fa a:Addr} {fd:FuncData} {x:Str} {sp:Sp} {s₁:Shared} {vs:List Value} {ns:List Int}
    (KX:K.In s₁.heap) (hns:s₁.heap.Ns mainGlobals mg) (hb:s₁.heap.Ns builtinsNs mb) (hbb:∀ x:Str,x≠"__name__"->mb x=bootBuiltins x) (hlim:s₁.heap.NoLimit) (hg:s₁.gens=#[])
    (ha:s₁.heap.get? a=some { cls:=.type "list",data:=.seq vs.toArray }) (hi:IntsAre vs ns) (hl:ns.length<=sizeLine) (hr:iZ k callerA)
    (F:∀ base:Heap,K.In base->base.Ns mainGlobals mg->bP P w K mg base CX k fa fd [x] sp) (hbind:∀ (s:Shared) (u:Value),BindsTo s fd ⟨[u],[]⟩ [(x,u)])
    (hsp:∀ H:Hp,Bl H->SqL K H a (ns.map V.int)->sp [.ref a] H (fun v _=>v=.bl true) fun _ _ _=>False)
    (hCX:∀ H e s',CX [] H s₁ (fun _ _ _=>False) e s'->False):
    codeAny (model P w) callerA (.call (.ref fa) ⟨[.ref a],[]⟩) (fun r s'=>r=.ok (.ret (.bool true))/\OldK s₁.heap s'.heap/\s'.os=s₁.os/\AllBare s'.gens) s₁:=by
 have rv:=kF hi
 have lenV:=hi.length
 have core:∀ H:Hp,Bl H->SqL K H a (ns.map V.int)->HOk P w H s₁.heap->(∀ b,H b≠none->b=a)->(H a≠none->K.lookup a=none)->
     codeAny (model P w) callerA (.call (.ref fa) ⟨[.ref a],[]⟩) (fun r s'=>r=.ok (.ret (.bool true))/\OldK s₁.heap s'.heap/\s'.os=s₁.os/\AllBare s'.gens) s₁:=by
  intro H hO hS hok hA hK
  have base_of:∀ {b:Addr} {o:Obj},s₁.heap.get? b=some o->H b=none->(v3 s₁.heap H).get? b=some o:=fun e n=>v0 e n
  have noA:∀ {b:Addr} {o:Obj} {es:Array DictEntry} {ep:Nat},s₁.heap.get? b=some o->o.data=.dict es ep->H b=none:=fun {b o es ep} e d=>by
   cases q:H b with
   | none=>rfl
   | some u=>
    have e':b=a:=hA b (by rw [q];simp)
    subst e'
    rw [ha] at e;cases e
    have d':Data.seq vs.toArray _=Data.dict es ep:=d
    cases d'
  have nsK:∀ {b:Addr} {m:Str->Option Value},s₁.heap.Ns b m->(v3 s₁.heap H).Ns b m:=fun {b m} ⟨o,es,ep,e,d,r⟩=>⟨o,es,ep,base_of e (noA e d),d,r⟩
  have hKb:K.In (v3 s₁.heap H):=fun b o e=>base_of (KX b o e) (by
   cases q:H b with
   | none=>rfl
   | some u=>
    have e':b=a:=hA b (by rw [q];simp)
    subst e'
    rw [hK (by rw [q];simp)] at e;cases e)
  have hM:Mod K mg (v3 s₁.heap H):=⟨hKb,nsK hns,⟨mb,nsK hb,hbb⟩,let ⟨mc,h1,h2⟩:=hlim;⟨mc,nsK h1,h2⟩⟩
  have e0:Bo P w K mg (v3 s₁.heap H) callerA [] s₁ H:=⟨rfl,hM,fun b o e=>yb e,Nat.le_of_eq (tN _ _),trivial,fun b hb=>absurd (show b∈([]:List Addr) from hb) (by simp),hok,.of_eq hg⟩
  refine codeAny_mono ((F _ hKb (nsK hns)).run callerA [] s₁ H ⟨[.ref a],[]⟩ [.ref a] [.ref a] _ _ hr e0 (hbind s₁ (.ref a)) (.cons rfl .nil) (hsp H hO hS)) fun r s' h=>?_
  cases r with
  | error e=>exact (hCX H e s' h).elim
  | ok fl=>
   cases fl with
   | next=>exact False.elim h
   | brk=>exact False.elim h
   | cont=>exact False.elim h
   | ret u=>
    obtain ⟨v,H',os,bare,un,hok',r',q⟩:=h
    have q':v=.bl true:=q
    subst q'
    obtain rfl:u=Value.bool true:=r'
    refine ⟨rfl,OldK.of_keep fun b o e=>?_,os,bare⟩
    cases q:H b with
    | none=>exact un.keep b o e q (by intro z;exact absurd (show b∈([]:List Addr) from z) (by simp)) (by simp)
    | some u=>
     rcases hO b with z | ⟨ob,xs,z⟩
     . rw [q] at z;cases z
     . have z2:=un.frzs b ob _ z
       obtain ⟨e1,_⟩:=hok b _ z
       obtain ⟨e2,_⟩:=hok' b _ z2
       rw [e] at e1;cases e1
       exact e2
 cases hk:K.lookup a with
 | some o=>
  have e:=KX a o hk
  rw [ha] at e
  cases e
  refine core (fun _=>none) (fun _=>.inl rfl) (.inr ⟨_,vs.toArray,_,hk,rfl,rfl,rfl,by rw [Du,lenV];exact hl,by simpa using rv⟩) (fun b u z=>by have z':(none:Option HO)=some u:=z;cases z') (fun b z=>absurd rfl z) fun z=>absurd rfl z
 | none=>
  refine core (fun b=>if b=a then some (.frz { cls:=.type "list",data:=.seq vs.toArray } (.lst (ns.map V.int))) else none) (fun b=>?_) (.inl (.inr ⟨{ cls:=.type "list",data:=.seq vs.toArray },if_pos rfl⟩)) (fun b u z=>?_) (fun b z=>?_) fun _=>hk
  . by_cases hb:b=a
    . exact .inr ⟨_,_,if_pos hb⟩
    . exact .inl (if_neg hb)
  . by_cases hb:b=a
    . have z':=(if_pos hb).symm.trans z
      cases z'
      subst hb
      exact ⟨ha,by rw [Da];exact hl,vs,_,rv,ha⟩
    . have z':=(if_neg hb).symm.trans z
      cases z'
  . by_cases hb:b=a
    . exact hb
    . exact absurd (if_neg hb) z
end L2
namespace L2
open PySem PySem.Spec PyProof.Rows
theorem q8 {l:PySem.W.OpenLaw} {n k:Nat} {q:Program} {loose:List Str} {XP:(Str->Option Value)->Heap->Prop} {YP:World->Heap->Prop} {d:DefRec} {K:Params->PySem.W.Frag} {CX:World->CXT} {sp:World->Sp} {x:Str}
    (hn:l.most=some n) (hn2:n<=sizeLine) (hdf:d.params.defaults=[]) (hr:iZ k callerA)
    (hY:∀ (w:World) (h:Heap),YP w h->(K w.params).In h)
    (F:∀ (w:World) (mg:Str->Option Value) (fa:Addr) (h:Heap),(K w.params).In h->h.Ns mainGlobals mg->mg d.name=some (.ref fa)->
     ∃ fd:FuncData,(∀ (s:Shared) (u:Value),BindsTo s fd ⟨[u],[]⟩ [(x,u)])/\
      ∀ base:Heap,(K w.params).In base->base.Ns mainGlobals mg->bP l.prog w (K w.params) mg base (CX w) k fa fd [x] (sp w))
    (hsp:∀ (w:World) (H:Hp) (a:Addr) (ns:List Int),ns.length<=n->Bl H->SqL (K w.params) H a (ns.map V.int)->sp w [.ref a] H (fun v _=>v=.bl true) fun _ _ _=>False)
    (hCX:∀ (w:World) (H:Hp) (s:Shared) (e:Value) (s':Shared),CX w [] H s (fun _ _ _=>False) e s'->False):
    PySem.W.WalkO q loose XP YP l.row.toRowW d [] (fun f vs=>PySem.call f vs):=by
 refine Att.attach_call hn hdf fun w s₀ s₁ mg mb fa o pm cd doc a vs ns G Y ho hd hcd hmg hobj hints hlen hg=>?_
 have KX:=hY w _ Y
 obtain ⟨fd,hb,hF⟩:=F w mg fa _ KX G.T.g hmg
 exact vS KX G.T.g G.T.b G.T.builtins G.T.nolimit hg hobj hints (DP hlen hn2) hr hF hb (fun H hO hS=>hsp w H a ns hlen hO hS) fun H e s'=>hCX w H s₁ e s'
end L2
/-THE LAST THEOREM (shape;LID,My.*are yours):
   My.Adr:a structure of the addresses that your layer names (classes,functions);My.Txt K t:a structure (Prop) of the equations over K;
   My.txt_mk:{K} {implicit addresses ..} (e1:nsIn K mainGlobals "law"=some (some (.ref f))) (e2:K.lookup f=some ⟨oc,od,.func (fnOf "law" "law" params body scope dV kV doc pm an cdv ct),sl⟩) (e3:codeIn K cdv "law"=true) ..:∃ t,My.Txt K t
set_option maxRecDepth 100000 in
set_option maxHeartbeats 0 in
theorem PySem.Challenge.cw_LID_holds : PySem.Challenge.rw_LID.Holds := by
 w_on;o_law;k_head;(case hw=>w_witness2)
 k_fill
 refine L2.q8 (l:=PySem.Challenge.rw_LID) (n:=63) (k:=40) (x:="script") (CX:=fun w=>..) (sp:=fun _=>My.sp_law) rfl (by decide) rfl ⟨rfl,by decide,by decide⟩ (fun w h Y=>PySem.W.kIn_of Y) ?F ?S ?C
 case F=>
  intro w mg fa h KX G hmg
  have T:∃ t,My.Txt (L2.KOf KX) t:=by
   dsimp only [L2.KOf]--K must stand as «<heap const> w.params» for k_is
   refine' My.txt_mk ?e1 ?e2 ?e3 ..
   (case e1=>PySem.W.k_is)--in the order:a name->its address->its object->its parts
   (case e2=>PySem.W.k_is)
   ..
  obtain ⟨t,T⟩:=T
  have e0:=hmg.symm.trans (PySem.W.mg_of KX G T.law)
  cases e0--fa is the law's own address
  exact ⟨_,fun s u=>.of_eq rfl,fun base kb nb=>My.law_fn T kb nb⟩--if «.of_eq rfl» comes too early:refine' ⟨_,?b,fun base kb nb=>My.law_fn T kb nb⟩;exact fun s u=>.of_eq rfl
 case S=>exact fun w H a ns hl hO hS=>..
 case C=>exact ..
(the tactic k_is has no namespace:write k_is)-/
namespace L2
open PySem PySem.Spec PyProof.Rows
def au (s:Stmt):Arguments:=match s with
 | .FunctionDef _ a _ _ _ _ _ _ _ _=>a
 | _=>{ posonlyargs:=[],args:=[],vararg:=none,kwonlyargs:=[],kw_defaults:=[],kwarg:=none,defaults:=[] }
def aq (s:Stmt):List Stmt:=match s with
 | .FunctionDef _ _ b _ _ _ _ _ _ _=>b
 | _=>[]
def ae (s:Stmt):Scope:=match s with
 | .FunctionDef _ _ _ _ _ _ sc _ _ _=>sc
 | _=>{ kind:=.function,names:=[],isGenerator:=false,isCoroutine:=false }
abbrev E0:XK:=fun _ _ _=>False
structure Fun (K:PySem.W.Frag) (x qual:Str) (st:Stmt) (f:Addr) (fd:FuncData):Prop where
 ex:∃ (oc:Value) (od:Option Addr) (kV doc pm:Value) (an:Option Addr) (cdv ct:Value) (osl:Array (Option Value)),
  fd=PySem.W.fnOf x qual (au st) (aq st) (ae st) .none kV doc pm an cdv ct/\K.lookup f=some ⟨oc,od,.func fd,osl⟩/\PySem.W.codeIn K cdv qual=true
 kp:PySem.W.keepIn K (.ref f)=true
section
variable {P:Program} {w:World} {K:PySem.W.Frag} {mg:Str->Option Value} {base:Heap}
theorem Fun.binds {x qual:Str} {st:Stmt} {f:Addr} {fd:FuncData} {ps:List Str} (F:Fun K x qual st f fd)
    (h:∀ (kV doc pm:Value) (an:Option Addr) (cdv ct:Value) (us:List Value),us.length=ps.length->bindArgs (PySem.W.fnOf x qual (au st) (aq st) (ae st) .none kV doc pm an cdv ct) ⟨us,[]⟩=pure (ps.zip us)):qO K fd ps []:=by
 obtain ⟨oc,od,kV,doc,pm,an,cdv,ct,osl,rfl,lk,hcd⟩:=F.ex
 exact .all (h kV doc pm an cdv ct)
theorem wU {x qual:Str} {st:Stmt} {f:Addr} {oc:Value} {od an:Option Addr} {osl:Array (Option Value)} {kV doc pm cdv ct:Value} (l:K.lookup f=some ⟨oc,od,.func (PySem.W.fnOf x qual (au st) (aq st) (ae st) .none kV doc pm an cdv ct),osl⟩)
    (c:PySem.W.codeIn K cdv qual=true) (k:PySem.W.keepIn K (.ref f)=true):Fun K x qual st f (PySem.W.fnOf x qual (au st) (aq st) (ae st) .none kV doc pm an cdv ct):=⟨⟨oc,od,kV,doc,pm,an,cdv,ct,osl,rfl,l,c⟩,k⟩
end
theorem qt {A:Around} {k:Nat} (hr:iZ k A):A.units+1<cLine:=Nat.lt_of_le_of_lt (Nat.add_le_add_left (by decide:1<=64) _) hr.units
section
variable {X:Cx}
theorem pv (i:Nat) {x:Str} {pos:Pos} (hN:X.N[i]? =some x:=by rfl) (hv:Vis X.env.scope x:=by first | exact Or.inl rfl | exact Or.inr (Or.inl rfl) | exact Or.inr (Or.inr rfl)) (hd:(x==("__debug__":Str))=false:=by decide)
    (hcd:(x==("__classdict__":Str))=false:=by decide):PE X (.Name x pos) (Ch i):=zY hN hv hd hcd
end
theorem gF {A B:Prop} (h:B):if false=true then A else B:=by
 rw [if_neg Dn]
 exact h
theorem cg {A B:Prop} (h:A):if true=true then A else B:=by
 rw [if_pos rfl]
 exact h
theorem Ax {c A B:Prop} [Decidable c] (h1:c->A) (h2:¬ c->B):if c then A else B:=by
 by_cases h:c
 . rw [if_pos h]
   exact h1 h
 . rw [if_neg h]
   exact h2 h
def aM (H H':Hp):Prop:=∀ b o,H b=some o->H' b=some o
theorem aM.refl (H:Hp):aM H H:=fun _ _ h=>h
theorem aM.trans {H H1 H2:Hp} (a:aM H H1) (b:aM H1 H2):aM H H2:=fun c o h=>b c o (a c o h)
theorem aM.free {H H':Hp} (e:aM H H') {l:Addr} (h:H' l=Option.none):H l=Option.none:=by
 cases q:H l with
 | none=>rfl
 | some o=>
  rw [e l o q] at h
  cases h
theorem aM.seq {K:PySem.W.Frag} {H H':Hp} {a:Addr} {xs:List V} (e:aM H H') (h:SqL K H a xs):SqL K H' a xs:=by
 rcases h with (h | ⟨o,h⟩) | h
 . exact .inl (.inl (e _ _ h))
 . exact .inl (.inr ⟨o,e _ _ h⟩)
 . exact .inr h
end L2
namespace L2
open PySem PySem.Spec PyProof.Rows
mutual
inductive Rep (H:Hp):V->PyData->Prop
 | non:Rep H .non .none
 | bl (b:Bool):Rep H (.bl b) (.bool b)
 | int (i:Int):Rep H (.int i) (.int i)
 | str (x:Str):Rep H (.str x) (.str x)
 | lst {a:Addr} {vs:List V} {ds:List PyData}:H a=some (.lst vs)->Reps H vs ds->Rep H (.ref a) (.list ds)
 | tup {a:Addr} {vs:List V} {ds:List PyData}:H a=some (.tup vs)->Reps H vs ds->Rep H (.ref a) (.tuple ds)
inductive Reps (H:Hp):List V->List PyData->Prop
 | nil:Reps H [] []
 | cons {v:V} {vs:List V} {d:PyData} {ds:List PyData}:Rep H v d->Reps H vs ds->Reps H (v::vs) (d::ds)
end
mutual
theorem Rep.mono {H H':Hp} (e:aM H H'):∀ {v:V} {d:PyData},Rep H v d->Rep H' v d
 | _,_,.non=>.non
 | _,_,.bl b=>.bl b
 | _,_,.int i=>.int i
 | _,_,.str x=>.str x
 | _,_,.lst h r=>.lst (e _ _ h) (Reps.mono e r)
 | _,_,.tup h r=>.tup (e _ _ h) (Reps.mono e r)
theorem Reps.mono {H H':Hp} (e:aM H H'):∀ {vs:List V} {ds:List PyData},Reps H vs ds->Reps H' vs ds
 | _,_,.nil=>.nil
 | _,_,.cons r rs=>.cons (Rep.mono e r) (Reps.mono e rs)
end
def cL:PyData->Bool
 | .none=>true
 | .bool _=>true
 | .int _=>true
 | .str _=>true
 | .list _=>false
 | .tuple ds=>all ds
 | .dict _=>false
where all:List PyData->Bool
 | []=>true
 | d::ds=>cL d && all ds
def bG (H H':Hp):Prop:=∀ b xs,H b=some (.tup xs)->H' b=some (.tup xs)
theorem aM.ts {H H':Hp} (e:aM H H'):bG H H':=fun b xs h=>e b _ h
theorem bG.trans {H H1 H2:Hp} (a:bG H H1) (b:bG H1 H2):bG H H2:=fun c xs h=>b c xs (a c xs h)
theorem bG.lst {H:Hp} {p:Addr} {xs:List V} (h:H p=some (.lst xs)) (o:HO):bG H (upd H p o):=fun b ys q=>by rw [aA (nG q h (by intro z;cases z))];exact q
theorem ak {H:Hp} {p:Addr} (h:H p=none) (o:HO):aM H (upd H p o):=fun b u q=>by rw [aA (aZ q h)];exact q
theorem aM.write {H H':Hp} (e:aM H H') {p:Addr} (h:H p=none) (o:HO):aM H (upd H' p o):=fun b u q=>by rw [aA (aZ q h)];exact e b u q
mutual
theorem Rep.tmono {H H':Hp} (e:bG H H'):∀ {v:V} {d:PyData},cL d=true->Rep H v d->Rep H' v d
 | _,_,_,.non=>.non
 | _,_,_,.bl b=>.bl b
 | _,_,_,.int i=>.int i
 | _,_,_,.str x=>.str x
 | _,_,h,.lst _ _=>by simp [cL] at h
 | _,_,h,.tup q r=>.tup (e _ _ q) (Reps.tmono e (by simpa [cL] using h) r)
theorem Reps.tmono {H H':Hp} (e:bG H H'):∀ {vs:List V} {ds:List PyData},cL.all ds=true->Reps H vs ds->Reps H' vs ds
 | _,_,_,.nil=>.nil
 | _,d::ds,h,.cons r rs=>by
  have h':cL d=true/\cL.all ds=true:=by simpa [cL.all] using h
  exact .cons (Rep.tmono e h'.1 r) (Reps.tmono e h'.2 rs)
end
section
variable {H:Hp}
theorem Rep.int_inv {v:V} {i:Int} (r:Rep H v (.int i)):v=.int i:=by cases r;rfl
theorem Rep.tup_inv {v:V} {ds:List PyData} (r:Rep H v (.tuple ds)):∃ a vs,v=.ref a/\H a=some (.tup vs)/\Reps H vs ds:=by
 cases r with | tup h q=>exact ⟨_,_,rfl,h,q⟩
theorem Reps.length:∀ {vs:List V} {ds:List PyData},Reps H vs ds->vs.length=ds.length
 | _,_,.nil=>rfl
 | _,_,.cons _ r=>Ee (·+1) (Reps.length r)
theorem Reps.get:∀ {vs:List V} {ds:List PyData} {i:Nat} {d:PyData},Reps H vs ds->ds[i]? =some d->∃ v,vs[i]? =some v/\Rep H v d
 | _,_,_,_,.nil,e=>by simp at e
 | _,_,0,_,.cons r _,e=>by
  have e':=Dg (show some _=some _ from e)
  subst e'
  exact ⟨_,rfl,r⟩
 | _,_,i+1,d,.cons _ t,e=>by
  obtain ⟨v,h1,h2⟩:=Reps.get (i:=i) (d:=d) t (by simpa using e)
  exact ⟨v,by simpa using h1,h2⟩
theorem Reps.get':∀ {vs:List V} {ds:List PyData} {i:Nat} {v:V},Reps H vs ds->vs[i]? =some v->∃ d,ds[i]? =some d/\Rep H v d
 | _,_,_,_,.nil,e=>by simp at e
 | _,_,0,_,.cons r _,e=>by
  have e':=Dg (show some _=some _ from e)
  subst e'
  exact ⟨_,rfl,r⟩
 | _,_,i+1,v,.cons _ t,e=>by
  obtain ⟨d,h1,h2⟩:=Reps.get' (i:=i) (v:=v) t (by simpa using e)
  exact ⟨d,by simpa using h1,h2⟩
theorem Reps.append:∀ {vs us:List V} {ds es:List PyData},Reps H vs ds->Reps H us es->Reps H (vs++us) (ds++es)
 | _,_,_,_,.nil,q=>q
 | _,_,_,_,.cons r rs,q=>.cons r (Reps.append rs q)
theorem Reps.one {v:V} {d:PyData} (r:Rep H v d):Reps H [v] [d]:=.cons r .nil
theorem Reps.ints:∀ {ns:List Int},Reps H (ns.map V.int) (ns.map PyData.int)
 | []=>.nil
 | n::r=>.cons (.int n) (Reps.ints (ns:=r))
theorem Reps.ints_inv:∀ {vs:List V} {ns:List Int},Reps H vs (ns.map PyData.int)->vs=ns.map V.int
 | _,[],r=>by cases r;rfl
 | _,n::ns,r=>by
  cases r with
  | cons q t=>rw [Rep.int_inv q,Reps.ints_inv (ns:=ns) t];rfl
end
mutual
theorem Rep.reads {P:Program} {w:World} {H:Hp} {h:Heap} (ok:HOk P w H h):∀ {v:V} {d:PyData} {u:Value},Rep H v d->bB v u->∃ as,Reads h u d as
 | _,_,_,.non,q=>by cases (show _=Value.none from q);exact ⟨_,.none⟩
 | _,_,_,.bl b,q=>by cases (show _=Value.bool b from q);exact ⟨_,.bool b⟩
 | _,_,_,.int i,q=>by obtain ⟨t,e⟩:=q;cases e;exact ⟨_,.int i t⟩
 | _,_,_,.str x,q=>by obtain ⟨t,e⟩:=q;cases e;exact ⟨_,.str x t⟩
 | _,_,_,.lst (a:=a) (vs:=vs) e r,q=>by
  cases (show _=Value.ref a from q)
  obtain ⟨_,its,n,rv,ho⟩:=(show bC P w H h a (.lst vs) from ok a _ e)
  obtain ⟨as,z⟩:=Reps.reads ok r rv
  exact ⟨_,.list ho rfl rfl (by simpa using z)⟩
 | _,_,_,.tup (a:=a) (vs:=vs) e r,q=>by
  cases (show _=Value.ref a from q)
  obtain ⟨_,its,rv,o,ho,hc,_,n,hd⟩:=(show bC P w H h a (.tup vs) from ok a _ e)
  obtain ⟨as,z⟩:=Reps.reads ok r rv
  exact ⟨_,.tuple ho hc hd (by simpa using z)⟩
theorem Reps.reads {P:Program} {w:World} {H:Hp} {h:Heap} (ok:HOk P w H h):∀ {vs:List V} {ds:List PyData} {us:List Value},Reps H vs ds->ba vs us->∃ as,ReadsAll h us ds as
 | _,_,_,.nil,q=>by cases q;exact ⟨_,.nil⟩
 | _,_,_,.cons r rs,q=>by
  cases q with
  | cons q qs=>
   obtain ⟨as,z⟩:=Rep.reads ok r q
   obtain ⟨bs,zs⟩:=Reps.reads ok rs qs
   exact ⟨_,.cons z zs⟩
end
def CM:R2:=fun x y H Q=>∃ d e,Rep H x d/\Rep H y e/\SeqAt.shaped d=true/\SeqAt.shaped e=true/\Q (.bl (PyData.eqv d e)) H
def CK:R2:=fun x y H Q=>∃ d e,Rep H x d/\Rep H y e/\SeqAt.shaped d=true/\SeqAt.shaped e=true/\Q (.bl (!PyData.eqv d e)) H
section
variable {X:Cx}
theorem Ag (hu:X.A.units+64<cLine):OpR X (compareOp .Eq) CM:=by
 intro pins s σ H x y v u Q I rx ry h
 obtain ⟨d,e,hd,he,sd,se,q⟩:=h
 obtain ⟨as,za⟩:=hd.reads I.hok rx
 obtain ⟨bs,zb⟩:=he.reads I.hok ry
 exact eq_dataH za zb sd se hu ⟨.bl (PyData.eqv d e),H,I,rfl,q⟩
theorem Ac (hu:X.A.units+64<cLine):OpR X (compareOp .NotEq) CK:=by
 intro pins s σ H x y v u Q I rx ry h
 obtain ⟨d,e,hd,he,sd,se,q⟩:=h
 obtain ⟨as,za⟩:=hd.reads I.hok rx
 obtain ⟨bs,zb⟩:=he.reads I.hok ry
 exact ne_dataH za zb sd se hu ⟨.bl (!PyData.eqv d e),H,I,rfl,q⟩
def tyD:PyData->String
 | .none=>"NoneType"
 | .bool _=>"bool"
 | .int _=>"int"
 | .str _=>"str"
 | .list _=>"list"
 | .tuple _=>"tuple"
 | .dict _=>"dict"
theorem Rep.ty {K:PySem.W.Frag} {H:Hp} {v:V} {d:PyData} (r:Rep H v d):qJ K H v (.type (tyD d)):=by
 cases r with
 | non=>exact .non
 | bl b=>exact .bl b
 | int i=>exact .int i
 | str x=>exact .str x
 | lst h _=>exact .lst h
 | tup h _=>exact .tup h
def AB:PyData->Bool
 | .int _=>true
 | .bool _=>true
 | _=>false
def yr:PyData->Bool
 | .bool _=>true
 | _=>false
def AA:PyData->Bool
 | .tuple _=>true
 | _=>false
theorem yj (K:PySem.W.Frag) (d:PyData) (hd:∀ kvs,d≠.dict kvs):PySem.W.kitOne K (.type (tyD d)) (.type "int")=some (AB d):=by
 cases d<;>first | exact absurd rfl (hd _) | (with_unfolding_all rfl)
theorem vU (K:PySem.W.Frag) (d:PyData) (hd:∀ kvs,d≠.dict kvs):PySem.W.kitOne K (.type (tyD d)) (.type "bool")=some (yr d):=by
 cases d<;>first | exact absurd rfl (hd _) | (with_unfolding_all rfl)
theorem fk (K:PySem.W.Frag) (d:PyData) (hd:∀ kvs,d≠.dict kvs):PySem.W.kitOne K (.type (tyD d)) (.type "tuple")=some (AA d):=by
 cases d<;>first | exact absurd rfl (hd _) | (with_unfolding_all rfl)
theorem Rep.nodict {H:Hp} {v:V} {d:PyData} (r:Rep H v d):∀ kvs,d≠.dict kvs:=fun kvs z=>by subst z;cases r
def CL (c:String) (f:PyData->Bool):List V->Hp->VK->Prop:=fun xs H Q=>∃ x d,xs=[x,.ty c]/\Rep H x d/\Q (.bl (f d)) H
theorem dS {c:String} {f:PyData->Bool} (kit:∀ (K:PySem.W.Frag) (d:PyData),(∀ kvs,d≠.dict kvs)->PySem.W.kitOne K (.type (tyD d)) (.type c)=some (f d)):dF X (.builtin "isinstance") (CL c f):=by
 intro pins s σ H xs us Q I rs h
 obtain ⟨x,d,e,hd,q⟩:=h
 subst e
 obtain ⟨u,w',rfl,ru,rw'⟩:=ba.two rs
 cases (show w'=Value.type c from rw')
 exact tI I ru hd.ty (kit X.K d hd.nodict) fun tk=>⟨.bl (f d),H,I.tok tk,rfl,q⟩
end
end L2
namespace L2
open PySem PySem.Spec PyProof.Rows
def PF (X:Cx) (ifs:List Expr) (t:TT):Prop:=
 ∀ (pins:List (Addr×Obj)) (s:Shared) (σ:St) (H:Hp) (Q:Bool->Hp->Prop),Inv X pins σ H s->t σ H Q->
  wpAny (model X.prog X.w) X.A (forIn ifs true fun c r=>if r=true then do let ok <- isTrue c X.env (eval c X.env);pure (ForInStep.yield ok) else pure (ForInStep.yield r)) (TP X pins σ Q) X.xe s
theorem dk {X:Cx}:PF X [] (fun _ H Q=>Q true H):=fun pins s σ H Q I h=>wpAny_tests_nil ⟨H,I,h⟩
theorem wK {X:Cx} {c:Expr} {t:TT} (hc:PT X c t):PF X [c] t:=fun pins s σ H Q I h=>wpAny_tests_one (hc pins s σ H Q I h)
section
variable {prog:Program} {w:World} {A:Around} {R:Result->Shared->Prop} {s:Shared}
theorem mf {elt target iter:Expr} {ifs:List Expr} {scope:Scope} {pos:Pos} {it acc:Value} {env:Env} (I:Nat->Shared->Prop)
    (turn:∀ n s,I n s->wpAny (model prog w) A (pyNext it) (fun r s₁=>match r with
     | none=>R (.ok .next) s₁
     | some v=>wpAny (model prog w) A (letOwnedTupleGo target it v) (fun _ s₀=>wpAny (model prog w) A (assign target env v) (fun _ s₂=>
         wpAny (model prog w) A (forIn ifs true fun c r=>if r=true then do let ok <- isTrue c env (eval c env);pure (ForInStep.yield ok) else pure (ForInStep.yield r)) (fun ok s₃=>
          if ok=true then wpAny (model prog w) A (eval elt env) (fun x s₄=>
           wpAny (model prog w) A (call (.builtin "list.append") [acc,x]) (fun _ s₅=>∃ m,m<n/\I m s₅) (fun _ _=>False) s₄) (fun _ _=>False) s₃
          else ∃ m,m<n/\I m s₃) (fun _ _=>False) s₂) (fun _ _=>False) s₀) (fun _ _=>False) s₁) (fun _ _=>False) s)
    (n:Nat) (h:I n s):
    codeAny (model prog w) A (.compLoop (.ListComp elt [⟨target,iter,ifs,0⟩] scope pos) 0 it acc env) R s:=by
 refine codeAny_loop rfl I (fun n s hI=>?_) n h
 show wpAny _ A ((compTurn (.ListComp elt [⟨target,iter,ifs,0⟩] scope pos) 0 it acc env).onRaise (fun x=>do noteFrame x env;theTreesLotGoes x)) _ _ s
 refine wpAny_noted ?_
 rw [compTurn_list]
 refine C8 (wpAny_standAt (C8 (wpAny_mono (turn n s hI) (fun r s₁ h₁=>?_) fun _ _ f=>f.elim)))
 cases r with
 | none=>exact Df h₁
 | some v=>
  refine C8 (wpAny_mono h₁ (fun _ s₀ h₀=>?_) fun _ _ f=>f.elim)
  refine C8 (wpAny_mono h₀ (fun _ s₂ h₂=>C8 (wpAny_mono h₂ (fun ok s₃ h₃=>?_) fun _ _ f=>f.elim)) fun _ _ f=>f.elim)
  cases ok with
  | false=>exact Df ⟨rfl,h₃⟩
  | true=>
   exact C8 (C8 (wpAny_mono h₃ (fun x s₄ h₄=>C8 (wpAny_mono h₄ (fun _ s₅ h₅=>Df (Df ⟨rfl,h₅⟩)) fun _ _ f=>f.elim)) fun _ _ f=>f.elim))
end
def gq (scope:Scope) (env:Env):List (Str×Addr):=
 ((scope.names.filter fun x=>x.2==.free).reverse).map fun x=>(x.1,(env.cells.lookup x.1).getD 0)
def blk (X:Cx) (scope:Scope) (NB:List Str) (C:Addr) (s₂:Shared) (H₂:Hp) (fp:List Addr):Cx where
 prog:=X.prog
 w:=X.w
 K:=X.K
 mg:=X.mg
 base:=X.base
 A:=X.A
 N:=NB
 s₀:=s₂
 H₀:=H₂
 env:=compEnvC scope (gq scope X.env) C X.env
 outer:=X.stack
 stack:=X.stack
 ex:=fp
 fn:=fun _=>false
 calm:=X.calm
 pn:=[]
 xe:=fun _ _=>False
def tau (js:List (Option Nat)) (σ:St):St:=js.map fun o=>match o with
 | some j=>(match σ[j]? with | some v=>v | none=>none)
 | none=>none
structure yZ (X:Cx) (scope:Scope) (NB:List Str) (js:List (Option Nat)):Prop where
 kind:scope.kind=.function
 nd:NB.Nodup
 len:js.length=NB.length
 nocell:∀ y∈scope.names,y.2≠.cell
 locs:∀ y∈scope.names,y.2=.local->scope.names.lookup y.1=some .local
 clos:closureFor scope X.env=pure (gq scope X.env)
 there:∀ y∈scope.names,y.2=.free->∃ c,X.env.cells.lookup y.1=some c
 outer:∀ (i j:Nat),js[i]? =some (some j)->∃ x,NB[i]? =some x/\X.N[j]? =some x/\(x,NameKind.free)∈scope.names/\Vis X.env.scope x/\X.env.scope.names.lookup x≠some .local
 inner:∀ (i:Nat) (x:Str),NB[i]? =some x->(x,NameKind.free)∈scope.names->Vis (relabel scope X.env) x->(relabel scope X.env).names.lookup x≠some .local
def xY (X:Cx) (scope:Scope) (NB:List Str) (js:List (Option Nat)):Bool:=(js.zip NB).all fun p=>match p.1 with
 | none=>true
 | some j=>X.N[j]? ==some p.2 && scope.names.any (fun y=>y.1==p.2 && y.2==.free) && (X.env.scope.names.lookup p.2==some .cell || X.env.scope.names.lookup p.2==some .free)
def yw (X:Cx) (scope:Scope) (NB:List Str):Bool:=NB.all fun x=>!(scope.names.any fun y=>y.1==x && y.2==.free) || ((relabel scope X.env).names.lookup x !=some .local)
theorem pE {l:List (Str×NameKind)} {x:Str}:(l.any fun y=>y.1==x && y.2==NameKind.free)=true ↔ (x,NameKind.free)∈l:=by
 rw [List.any_eq_true]
 constructor
 . rintro ⟨⟨n,k⟩,hy,e⟩
   simp only [D0,beq_iff_eq] at e
   obtain ⟨rfl,rfl⟩:=e
   exact hy
 . intro h
   exact ⟨_,h,by simp⟩
theorem bA {X:Cx} {scope:Scope} {NB:List Str} {js:List (Option Nat)} (kind:scope.kind=.function) (nd:NB.Nodup) (len:js.length=NB.length) (nocell:∀ y∈scope.names,y.2≠.cell) (locs:∀ y∈scope.names,y.2=.local->scope.names.lookup y.1=some .local)
    (clos:closureFor scope X.env=pure (gq scope X.env)) (there:(scope.names.all fun y=>y.2 !=.free || (X.env.cells.lookup y.1).isSome)=true) (outer:xY X scope NB js=true) (inner:yw X scope NB=true):yZ X scope NB js:=by
 refine ⟨kind,nd,len,nocell,locs,clos,fun y hy hf=>?_,fun i j e=>?_,fun i x e hm _=>?_⟩
 . have:=List.all_eq_true.mp there y hy
   rw [hf] at this
   exact Option.isSome_iff_exists.mp (by simpa using this)
 . have hi:i<js.length:=(Db.mp e).1
   have hx:NB[i]? =some (NB[i]'(by omega)):=C7 (by omega)
   have hz:(js.zip NB)[i]? =some (some j,NB[i]'(by omega)):=by rw [List.getElem?_zip_eq_some];exact ⟨e,hx⟩
   have:=List.all_eq_true.mp outer _ (Dj hz)
   dsimp only at this
   simp only [D0,Bool.or_eq_true,beq_iff_eq] at this
   obtain ⟨⟨h1,h2⟩,h3⟩:=this
   refine ⟨_,hx,h1,pE.mp h2,?_,?_⟩
   . rcases h3 with h3 | h3
     . exact .inr (.inl h3)
     . exact .inr (.inr h3)
   . rcases h3 with h3 | h3<;>rw [h3]<;>decide
 . have:=List.all_eq_true.mp inner x (Dj e)
   rw [pE.mpr hm] at this
   simpa using this
theorem cx {scope:Scope} {env:Env} {x:Str} {c:Addr} (ht:∀ y∈scope.names,y.2=.free->∃ c,env.cells.lookup y.1=some c) (h:(gq scope env).lookup x=some c):env.cells.lookup x=some c/\(x,NameKind.free)∈scope.names:=by
 have m:=PySem.mem_of_lookup h
 unfold gq at m
 obtain ⟨y,hy,e⟩:=DM.mp m
 have hy':=List.mem_filter.mp (List.mem_reverse.mp hy)
 obtain ⟨n,k⟩:=y
 have hk:k=.free:=by simpa using hy'.2
 subst hk
 obtain ⟨c',ec⟩:=ht _ hy'.1 rfl
 have e1:n=x:=Ee Prod.fst e
 have e2:(env.cells.lookup n).getD 0=c:=Ee Prod.snd e
 subst e1
 have ec':env.cells.lookup n=some c':=ec
 rw [ec'] at e2
 have e3:c'=c:=e2
 subst e3
 exact ⟨ec',hy'.1⟩
theorem fh {β:Type} {x:Str}:∀ {l:List (Str×β)} {b:β},(x,b)∈l->∃ c,l.lookup x=some c
 | (n,b')::r,b,h=>by
  rw [List.lookup_cons]
  cases e:x==n with
  | true=>exact ⟨b',rfl⟩
  | false=>
   rcases DI.mp h with q | q
   . have:x=n:=Ee Prod.fst q
     subst this
     simp at e
   . exact fh q
theorem jm {scope:Scope} {env:Env} {x:Str} (h:(x,NameKind.free)∈scope.names):∃ c,(gq scope env).lookup x=some c:=by
 refine fh (b:=(env.cells.lookup x).getD 0) ?_
 unfold gq
 exact DM.mpr ⟨(x,NameKind.free),List.mem_reverse.mpr (List.mem_filter.mpr ⟨h,by simp⟩),rfl⟩
theorem lc {scope:Scope} {env:Env} {x:Str} (hc:∀ y∈scope.names,y.2≠.cell) (h:(relabel scope env).names.lookup x=some .cell\/(relabel scope env).names.lookup x=some .free):(x,NameKind.free)∈scope.names:=by
 have key:∀ k,(relabel scope env).names.lookup x=some k->k=.cell\/k=.free->(x,NameKind.free)∈scope.names:=by
  intro k e hk
  have m:=PySem.mem_of_lookup e
  unfold relabel at m
  obtain ⟨⟨n,k'⟩,hy,q⟩:=DM.mp m
  dsimp only at q
  split at q
  . rename_i hcond
    have e1:n=x:=Ee Prod.fst q
    subst e1
    simp only [D0,beq_iff_eq] at hcond
    rw [hcond.1.1] at hy
    exact hy
  . have e1:n=x:=Ee Prod.fst q
    have e2:k'=k:=Ee Prod.snd q
    subst e1 e2
    rcases hk with hk | hk
    . subst hk
      exact absurd rfl (hc _ hy)
    . subst hk
      exact hy
 rcases h with h | h
 . exact key _ h (.inl rfl)
 . exact key _ h (.inr rfl)
theorem Un.but {fs ex:List Addr} {H H':Hp} {h h1 h2:Heap} {C:Addr} (u:Un fs ex H H' h h1) (hC:h.objs.size<=C) (sb:Heap.SameBut C h1 h2):Un fs ex H H' h h2:=by
 have ne:∀ b o,h.get? b=some o->b≠C:=fun b o e=>DC (Do (Dp e) hC)
 refine ⟨fun b o e n hb hx=>(sb.2 b (ne b o e)).trans (u.keep b o e n hb hx),fun b o e n hb hx=>?_,u.free,fun b o e hx=>?_,u.tups,u.frzs,u.tbls⟩
 . obtain ⟨sl,q⟩:=u.slot b o e n hb hx
   exact ⟨sl,(sb.2 b (ne b o e)).trans q⟩
 . obtain ⟨o',q⟩:=u.there b o e hx
   exact ⟨o',(sb.2 b (ne b o e)).trans q⟩
theorem HOk.but {P:Program} {w:World} {H:Hp} {h1 h2:Heap} {C:Addr} (ok:HOk P w H h1) (hC:H C=none) (sb:Heap.SameBut C h1 h2):HOk P w H h2:=fun b ob e=>by
 refine (ok b ob e).stay (fun c w' hc q=>(sb.2 c ?_).trans q) (fun _ q=>q) fun _ _ q=>q
 rintro rfl
 rcases hc with rfl | hc
 . rw [hC] at e;cases e
 . rw [hC] at hc;cases hc
section
variable {X:Cx} {pins:List (Addr×Obj)} {σ:St} {H:Hp} {s:Shared}
theorem A6 {scope:Scope} {NB:List Str} {js:List (Option Nat)} {C:Addr} {fp:List Addr} (B:yZ X scope NB js) (I:Inv X pins σ H s) (hf:∀ b∈fp,pL X pins H b) (hlt:∀ b∈fp,b≠C) (hC:s.heap.objs.size<=C):
    (blk X scope NB C s H fp).Ok:=by
 refine ⟨I.mod,B.kind,I.ok.glob,I.ok.blt,hC,fun x y c hx hy=>?_,fun x hx=>?_,fun x c h _=>(nomatch h),I.ok.hd,I.ok.frames,.inl rfl,fun b hb=>⟨hlt b hb,fun x c hx=>?_⟩,I.bs,DP I.ok.bsz I.sz,fun b o e hb=>?_,fun b hb hb2=>?_,I.stack,I.stkFree⟩
 . exact I.ok.inj x y c (cx B.there hx).1 (cx B.there hy).1
 . exact jm (lc B.nocell hx)
 . exact (hf b hb).2.2.2.2.1 x c (cx B.there hx).1
 . rcases (hf b hb).2.2.2.1 with z | z
   . exact I.ok.noex b o e z
   . exact absurd (Do (Dp e) (DP I.ok.bsz z)) (Nat.lt_irrefl _)
 . rcases DI.mp (I.stkSub b hb2) with z | z
   . exact (hf b hb).2.1 z
   . exact (hf b hb).2.2.1 z
theorem xm {js:List (Option Nat)} {σ:St} {i:Nat} {v:V} (h:(tau js σ)[i]? =some (some v)):∃ j,js[i]? =some (some j)/\σ[j]? =some (some v):=by
 unfold tau at h
 rw [Di] at h
 cases e:js[i]? with
 | none=>rw [e] at h;cases h
 | some o=>
  rw [e] at h
  cases o with
  | none=>cases h
  | some j=>
   refine ⟨j,rfl,?_⟩
   have h':(match σ[j]? with | some v=>v | none=>none)=some v:=Dg h
   cases q:σ[j]? with
   | none=>rw [q] at h';cases h'
   | some u=>rw [q] at h';rw [show u=some v from h']
end
def d6 (g:TG) (tt:TT) (te:TE) (τ:St) (D:Addr) (ys:List V) (N:List V->Hp->Prop) (x:V) (H':Hp):Prop:=
 g x τ H' fun σ2 H2=>(∀ (k:Nat) (v:V),τ[k]? =some (some v)->σ2[k]? =some (some v))/\tt σ2 H2 fun ok H3=>
  if ok=true then te σ2 H3 fun v H4=>H4 D=some (.lst ys)/\ys.length<sizeLine/\N (ys++[v]) (upd H4 D (.lst (ys++[v]))) else N ys H3
def Bv (js:List (Option Nat)) (wi:TI) (g:TG) (tt:TT) (te:TE):TE:=fun σ H Q=>wi σ H fun J H1=>∀ D,H1 D=none->∃ W:Nat->Nat->List V->Hp->Prop,(∃ m,W 0 m [] (upd H1 D (.lst [])))/\
 ∀ i m ys H,W i m ys H->(J.stop i H/\Q (.ref D) H)\/(J.go i H/\∃ N:List V->Hp->Prop,(∀ ys' H',N ys' H'->∃ m',m'<m/\W (i+1) m' ys' H')/\∀ x H',J.yld i H x H'->d6 g tt te (tau js σ) D ys N x H')
theorem bS {X:Cx} {elt tg iter:Expr} {ifs:List Expr} {scope:Scope} {pos:Pos} {wi:TI} {g:TG} {tt:TT} {te:TE} {NB:List Str} {js:List (Option Nat)} (hc:X.calm=true) (B:yZ X scope NB js) (hi:PI X tg iter wi)
    (hg:∀ C s₂ H₂ fp,PG (blk X scope NB C s₂ H₂ fp) tg g) (ht:∀ C s₂ H₂ fp,PF (blk X scope NB C s₂ H₂ fp) ifs tt) (he:∀ C s₂ H₂ fp,PE (blk X scope NB C s₂ H₂ fp) elt te)
    (hs:∀ x,foldedSetIterable iter X.env x=pure x:=by intro _;rfl):PE X (.ListComp elt [⟨tg,iter,ifs,0⟩] scope pos) (Bv js wi g tt te):=by
 intro pins s σ H Q I h
 rw [eval_ListComp]
 refine wpAny_comprehension_free (use:=none) rfl hs B.clos B.kind B.locs (thn (hi pins s σ H _ I h) fun v s1 h1=>thn h1 fun itv s2 h2=>?_)
 obtain ⟨it,fp,tn,J,H2,e,I2,T,st2,f2,hW⟩:=h2
 subst e
 have fresh2:H2 s2.heap.objs.size=none:=I2.hok.fresh (Dh _)
 obtain ⟨W,⟨m0,w0⟩,turn⟩:=hW s2.heap.objs.size fresh2
 refine Ed (wpAny_newFunctionEnv B.nocell (by intro y hy;simp at hy) (fun h₁ hns₁ hsb₁=>?_) B.kind)
 dsimp only at hns₁ hsb₁ ⊢
 generalize hH2:s2.heap.push { cls:=.type "list",dict:=none,data:=.seq ([]:List Value).toArray }=HP at hns₁ hsb₁ ⊢
 have hC:HP.objs.size=s2.heap.objs.size+1:=by rw [<- hH2,Et]
 have hCle:s2.heap.objs.size<=HP.objs.size:=by rw [hC];exact Nat.le_succ _
 have hDC:s2.heap.objs.size≠HP.objs.size:=by rw [hC];exact DC (Nat.lt_succ_self _)
 have below:∀ b,b<s2.heap.objs.size->b≠HP.objs.size:=fun b hb=>DC (Do hb hCle)
 have old:∀ b o,s2.heap.get? b=some o->h₁.get? b=some o:=fun b o e=>hsb₁.extBut b o (below b (Dp e)) (Dd _ (hH2 ▸ Dd _ e))
 have hacc:h₁.get? s2.heap.objs.size=some { cls:=.type "list",dict:=none,data:=.seq ([]:List Value).toArray }:=hsb₁.extBut _ _ hDC (Dd _ (hH2 ▸ Ds _ rfl))
 have fplt:∀ b∈fp,b<s2.heap.objs.size:=fun b hb=>by
  obtain ⟨o,ho,_⟩:=T.obj 0 _ st2 b hb
  exact Dp ho
 have okY:(blk X scope NB HP.objs.size s2 H2 fp).Ok:=A6 B I2 f2 (fun b hb=>below b (fplt b hb)) hCle
 have lenτ:(tau js σ).length=NB.length:=by unfold tau;rw [Da];exact B.len
 have IY:Inv (blk X scope NB HP.objs.size s2 H2 fp) [] (tau js σ) (upd H2 s2.heap.objs.size (.lst [])) { s2 with heap:=h₁,toks:=s2.toks+([]:List (Str×Value)).length }:=by
  refine ⟨okY,rfl,I2.bare,Un.laid old (Dh _) fresh2,⟨_,hns₁,fun i x v e1 e2 e3=>?_⟩,fun x c e=>?_,?_,fun x c e=>?_,fun p hp=>absurd (show p∈([]:List (Addr×Obj)) from hp) (by simp),I2.hok.laid old (Dh _) ?_,lenτ⟩
  . obtain ⟨j,ej,ev⟩:=xm e2
    obtain ⟨x',n1,n2,n3,n4,n5⟩:=B.outer i j ej
    have ex:x'=x:=Dg (n1.symm.trans e1)
    subst ex
    obtain ⟨m,_,hl⟩:=I2.loc
    obtain ⟨u,ru,l⟩:=hl j x' v n2 ev n4
    refine ⟨u,ru,.inr ?_⟩
    have e3':Vis (relabel scope X.env) x':=e3
    have nl:=B.inner i x' e1 n3 e3'
    have kk:(relabel scope X.env).names.lookup x'=some .cell\/(relabel scope X.env).names.lookup x'=some .free:=by
     rcases e3' with z | z | z
     . exact absurd z nl
     . exact .inl z
     . exact .inr z
    refine ⟨kk,?_⟩
    rcases l with ⟨z,_⟩ | ⟨_,c,ec,cell⟩
    . exact absurd z n5
    . obtain ⟨c',ec'⟩:=jm (env:=X.env) n3
      have q:=(cx B.there ec').1
      rw [ec] at q
      cases q
      exact ⟨c,ec',cell.keeps old⟩
  . obtain ⟨v,z⟩:=I2.cell x c (cx B.there e).1
    exact ⟨v,z.keeps old⟩
  . show upd H2 s2.heap.objs.size (.lst []) HP.objs.size=none
    rw [aA (Ne.symm hDC)]
    exact I2.hok.fresh hCle
  . have ec:=(cx B.there e).1
    obtain ⟨v,o,ho,_⟩:=I2.cell x c ec
    rw [aA (DC (Dp ho))]
    exact I2.freeC x c ec
  . exact ⟨by show 0<=sizeLine;exact DD _,[],0,.nil,hacc⟩
 have st1:tn 0 h₁:=T.keep 0 _ _ st2 fun b _ o e=>old b o e
 have statY:∀ {H':Hp},(∀ b∈fp,H' b=none)->∀ b∈fp,pL (blk X scope NB HP.objs.size s2 H2 fp) [] H' b:=fun {H'} hn b hb=>
  ⟨hn b hb,below b (fplt b hb),okY.exfs b hb,.inl hb,(okY.exf b hb).2,fun p hp=>absurd (show p∈([]:List (Addr×Obj)) from hp) (by simp)⟩
 have frN:∀ b∈fp,upd H2 s2.heap.objs.size (.lst []) b=none:=fun b hb=>by
  rw [aA (DC (fplt b hb))]
  exact (f2 b hb).1
 have loop:∀ s₃:Shared,s₃={ s2 with heap:=h₁,toks:=s2.toks+([]:List (Str×Value)).length }->
     codeAny (model X.prog X.w) X.A (.compLoop (.ListComp elt [⟨tg,iter,ifs,0⟩] scope pos) 0 (.ref it) (.ref s2.heap.objs.size) (compEnvC scope (gq scope X.env) HP.objs.size X.env))
      (compPost (model X.prog X.w) X.A X.xe none (EP X pins σ Q) (.ref s2.heap.objs.size) HP.objs.size) s₃:=by
  rintro s₃ rfl
  refine mf (fun n s'=>∃ i ys H',Inv (blk X scope NB HP.objs.size s2 H2 fp) [] (tau js σ) H' s'/\tn i s'.heap/\(∀ b∈fp,H' b=none)/\W i n ys H') ?_ m0 ⟨0,[],_,IY,st1,frN,w0⟩
  rintro n s3 ⟨i,ys,H3,I3,st3,fr3,w3⟩
  rcases turn i n ys H3 w3 with ⟨stop,qq⟩ | ⟨go,NN,hNN,step⟩
  . refine thn (T.done (blk X scope NB HP.objs.size s2 H2 fp) rfl rfl rfl hc i [] s3 (tau js σ) H3 (fun _ _=>False) I3 (statY fr3) st3 stop) fun r s4 ⟨hr,I4⟩=>?_
    subst hr
    obtain ⟨m4,hn4,_⟩:=id I4.loc
    refine ⟨m4,hn4,fun h' sb=>⟨.ref s2.heap.objs.size,H3,?_,rfl,qq⟩⟩
    have u4:Un (frs X.stack) fp H2 H3 s2.heap s4.heap:=I4.base
    exact I2.call' (s':={ s4 with heap:=h' }) I4.os (u4.but hCle sb) (I4.hok.but I4.free sb) I4.bare fun b hb=>⟨(f2 b hb).2.2.2.1,(f2 b hb).2.1,(f2 b hb).2.2.2.2.1,(f2 b hb).2.2.2.2.2⟩
  . refine thn (T.item (blk X scope NB HP.objs.size s2 H2 fp) rfl rfl rfl hc i [] s3 (tau js σ) H3 (fun _ _=>False) I3 (statY fr3) st3 go) fun r s4 ⟨u,hr,h4⟩=>?_
    subst hr
    refine thn h4 fun _ s5 ⟨x,H5,I5,r5,y5,st5,fr5⟩=>?_
    have I5':=I5.pinned (statY fr5) (T.obj _ _ st5)
    refine thn (hg _ _ _ _ _ s5 (tau js σ) H5 x u _ I5' r5 (step x H5 y5)) fun _ s6 ⟨σ6,H6,I6,ag,q6⟩=>?_
    have back:∀ {s7:Shared} {H7:Hp},Inv (blk X scope NB HP.objs.size s2 H2 fp) ([]++lj fp s5.heap) σ6 H7 s7->Inv (blk X scope NB HP.objs.size s2 H2 fp) [] (tau js σ) H7 s7/\tn (i+1) s7.heap/\∀ b∈fp,H7 b=none:=fun {s7 H7} I7=>by
     refine ⟨I7.unpinned.weak (lenτ.trans I7.len.symm) ag,T.keep _ _ _ st5 fun b hb o e=>(I7.pin (b,o) (DT _ (DT _ (dO hb e)))).1,fun b hb=>?_⟩
     obtain ⟨o,e,d⟩:=T.obj _ _ st5 b hb
     exact (I7.pin (b,o) (DT _ (DT _ (dO hb e)))).2.1
    refine thn (ht _ _ _ _ _ s6 σ6 H6 _ I6 q6) fun ok s7 ⟨H7,I7,q7⟩=>?_
    cases ok with
    | false=>
     obtain ⟨m',hm,w7⟩:=hNN _ _ q7
     obtain ⟨J1,J2,J3⟩:=back I7
     exact ⟨m',hm,i+1,ys,H7,J1,J2,J3,w7⟩
    | true=>
     refine thn (he _ _ _ _ _ s7 σ6 H7 _ I7 q7) fun v s8 ⟨y,H8,I8,r8,hD8,hz,n8⟩=>?_
     obtain ⟨m',hm,w8⟩:=hNN _ _ n8
     refine thn (dy _ s8 σ6 H8 (.ref s2.heap.objs.size) [y] (.ref s2.heap.objs.size) [v] (fun z H'=>z=.non/\H'=upd H8 s2.heap.objs.size (.lst (ys++[y]))) I8 rfl (.cons r8 .nil) ⟨_,ys,y,rfl,rfl,hD8,hz,⟨rfl,rfl⟩⟩) fun _ s9 ⟨z,H9,I9,r9,q9⟩=>?_
     obtain ⟨ez,e9⟩:z=.non/\H9=upd H8 s2.heap.objs.size (.lst (ys++[y])):=q9
     subst e9
     obtain ⟨J1,J2,J3⟩:=back I9
     exact ⟨m',hm,i+1,ys++[y],_,J1,J2,J3,w8⟩
 exact codeAny_compStart_list (loop _ rfl) (T.self _ _ _ _ _ st1 (loop _ rfl))
section
variable {g:TG} {tt:TT} {te:TE} {τ:St} {Q:VK} {H1:Hp} {D:Addr}
theorem qF {lo:Int} {n:Nat} (Pv:Nat->List V->Hp->Prop) (h0:Pv 0 [] (upd H1 D (.lst []))) (hs:∀ i ys H,i<n->Pv i ys H->d6 g tt te τ D ys (Pv (i+1)) (.int (lo+i)) H) (hd:∀ ys H,Pv n ys H->Q (.ref D) H):
    ∃ W:Nat->Nat->List V->Hp->Prop,(∃ m,W 0 m [] (upd H1 D (.lst [])))/\∀ i m ys H,W i m ys H->((Itr lo n).stop i H/\Q (.ref D) H)\/((Itr lo n).go i H/\∃ N:List V->Hp->Prop,(∀ ys' H',N ys' H'->∃ m',m'<m/\W (i+1) m' ys' H')/\∀ x H',(Itr lo n).yld i H x H'->d6 g tt te τ D ys N x H'):=by
 refine ⟨fun i m ys H=>m=n-i/\i<=n/\Pv i ys H,⟨n,by simp,DD _,h0⟩,?_⟩
 rintro i m ys H ⟨rfl,hi,p⟩
 by_cases hlt:i<n
 . refine .inr ⟨hlt,Pv (i+1),fun ys' H' p'=>⟨n-(i+1),by omega,rfl,hlt,p'⟩,fun x H' y=>?_⟩
   obtain ⟨e,y⟩:=y
   subst e y
   exact hs i ys _ hlt p
 . have e:i=n:=by omega
   subst e
   exact .inl ⟨Dh _,hd ys H p⟩
theorem uo {K:PySem.W.Frag} {a:Addr} {xs:List V} (Pv:Nat->List V->Hp->Prop) (h0:Pv 0 [] (upd H1 D (.lst []))) (hl:∀ i ys H,i<=xs.length->Pv i ys H->SqL K H a xs)
    (hs:∀ i ys x H,xs[i]? =some x->Pv i ys H->d6 g tt te τ D ys (Pv (i+1)) x H) (hd:∀ ys H,Pv xs.length ys H->Q (.ref D) H):
    ∃ W:Nat->Nat->List V->Hp->Prop,(∃ m,W 0 m [] (upd H1 D (.lst [])))/\∀ i m ys H,W i m ys H->((Itl K a).stop i H/\Q (.ref D) H)\/((Itl K a).go i H/\∃ N:List V->Hp->Prop,(∀ ys' H',N ys' H'->∃ m',m'<m/\W (i+1) m' ys' H')/\∀ x H',(Itl K a).yld i H x H'->d6 g tt te τ D ys N x H'):=by
 refine ⟨fun i m ys H=>m=xs.length-i/\i<=xs.length/\Pv i ys H,⟨xs.length,by simp,DD _,h0⟩,?_⟩
 rintro i m ys H ⟨rfl,hi,p⟩
 have q:=hl i ys H hi p
 by_cases hlt:i<xs.length
 . refine .inr ⟨⟨xs,xs[i],q,by simp [hlt]⟩,Pv (i+1),fun ys' H' p'=>⟨xs.length-(i+1),by omega,rfl,hlt,p'⟩,fun x H' y=>?_⟩
   obtain ⟨e,y⟩:=y
   subst e
   exact hs i ys x _ (y xs q) p
 . have e:i=xs.length:=by omega
   subst e
   exact .inl ⟨⟨xs,q,Dh _⟩,hd ys H p⟩
theorem ph {K:PySem.W.Frag} {a:Addr} {xs:List V} (Pv:Nat->List V->Hp->Prop) (h0:Pv 0 [] (upd H1 D (.lst []))) (hl:∀ i ys H,i<=xs.length->Pv i ys H->SqT K H a xs)
    (hs:∀ i ys x H,xs[i]? =some x->Pv i ys H->d6 g tt te τ D ys (Pv (i+1)) x H) (hd:∀ ys H,Pv xs.length ys H->Q (.ref D) H):
    ∃ W:Nat->Nat->List V->Hp->Prop,(∃ m,W 0 m [] (upd H1 D (.lst [])))/\∀ i m ys H,W i m ys H->((Itt K a).stop i H/\Q (.ref D) H)\/((Itt K a).go i H/\∃ N:List V->Hp->Prop,(∀ ys' H',N ys' H'->∃ m',m'<m/\W (i+1) m' ys' H')/\∀ x H',(Itt K a).yld i H x H'->d6 g tt te τ D ys N x H'):=by
 refine ⟨fun i m ys H=>m=xs.length-i/\i<=xs.length/\Pv i ys H,⟨xs.length,by simp,DD _,h0⟩,?_⟩
 rintro i m ys H ⟨rfl,hi,p⟩
 have q:=hl i ys H hi p
 by_cases hlt:i<xs.length
 . refine .inr ⟨⟨xs,xs[i],q,by simp [hlt]⟩,Pv (i+1),fun ys' H' p'=>⟨xs.length-(i+1),by omega,rfl,hlt,p'⟩,fun x H' y=>?_⟩
   obtain ⟨e,y⟩:=y
   subst e
   exact hs i ys x _ (y xs q) p
 . have e:i=xs.length:=by omega
   subst e
   exact .inl ⟨⟨xs,q,Dh _⟩,hd ys H p⟩
end
end L2
namespace BE
open PySem PySem.Spec PyProof.Rows
open AutoSeq1 (wpAny_loadPart')
section
variable {prog:Program} {w:World} {A:Around} {E:Value->Shared->Prop} {s:Shared}
theorem jd {it t:Addr} {i:Nat} {items:Array Value} {x:Value} {Q:Value->Shared->Prop} (st:s.heap.IsTupleIter it t i) (ht:s.heap.IsTuple t items) (hx:items[i]? =some x)
    (hQ:∀ h',h'.IsTupleIter it t (i+1)->Heap.SameBut it s.heap h'->Q x { s with heap:=h' }):wpAny (model prog w) A (Builtin.SmallTypes.nextOf (.ref it)) Q E s:=by
 obtain ⟨ob,hob,hcl,hda⟩:=id st
 obtain ⟨ot,hot,_,nt,hdt⟩:=ht
 unfold Builtin.SmallTypes.nextOf
 refine C8 (D1 (name:=Str.ofString "__next__") st.typeIs F.slot_tuple_iterator_next (D8 F.slot_tuple_iterator_next st.typeIs F.entry_tuple_iterator_next ?_ (F.args_tuple_iterator_next_1 _)))
 show wpAny _ _ (field (.ref it) 0>>=_) _ _ s
 refine C8 (Eu hob hda (x:=.ref t) rfl ?_)
 show wpAny _ _ (if (Value.ref t==Value.none)=true then _ else _) _ _ s
 rw [if_neg (show ¬ ((Value.ref t==Value.none)=true) from Dn)]
 show wpAny _ _ (field (.ref it) 1>>=_) _ _ s
 refine C8 (Eu hob hda (x:=.int i 0) rfl ?_)
 show wpAny _ _ (seqItems? (.ref t)>>=_) _ _ s
 refine C8 (wpAny_seqItems hot hdt ?_)
 simp only [Dz,hx]
 refine C8 (wpAny_setField hob hda (by simp) (Df ⟨x,rfl,Df (hQ _ ?_ (Em ..))⟩))
 exact ⟨_,Heap.get?_update_self _ hob (Obj.isFreed_of_fields (Obj.data_mapFields hda _)),(Obj.cls_mapFields ..).trans hcl,by rw [Obj.data_mapFields hda];simp [rawInt]⟩
theorem cK {it t:Addr} {i:Nat} {items:Array Value} {Q:Value->Shared->Prop} (hh:A.handled=none) (st:s.heap.IsTupleIter it t i) (ht:s.heap.IsTuple t items) (hx:items[i]? =none)
    (hE:∀ h' e,Heap.ExtBut it s.heap h'->(∃ o,h'.get? e=some o/\o.cls=.type "StopIteration")->E (.ref e) { s with heap:=h' }):wpAny (model prog w) A (Builtin.SmallTypes.nextOf (.ref it)) Q E s:=by
 obtain ⟨ob,hob,hcl,hda⟩:=id st
 obtain ⟨ot,hot,_,nt,hdt⟩:=ht
 unfold Builtin.SmallTypes.nextOf
 refine C8 (D1 (name:=Str.ofString "__next__") st.typeIs F.slot_tuple_iterator_next (D8 F.slot_tuple_iterator_next st.typeIs F.entry_tuple_iterator_next ?_ (F.args_tuple_iterator_next_1 _)))
 show wpAny _ _ (field (.ref it) 0>>=_) _ _ s
 refine C8 (Eu hob hda (x:=.ref t) rfl ?_)
 show wpAny _ _ (if (Value.ref t==Value.none)=true then _ else _) _ _ s
 rw [if_neg (show ¬ ((Value.ref t==Value.none)=true) from Dn)]
 show wpAny _ _ (field (.ref it) 1>>=_) _ _ s
 refine C8 (Eu hob hda (x:=.int i 0) rfl ?_)
 show wpAny _ _ (seqItems? (.ref t)>>=_) _ _ s
 refine C8 (wpAny_seqItems hot hdt ?_)
 simp only [Dz,hx]
 refine C8 (wpAny_rule (C8 (wpAny_setField hob hda (by simp) ?_)))
 show wpAny _ _ (newExc (.type "StopIteration") []>>=_) _ _ _
 refine C8 ?_
 simp only [newExc,newTuple]
 refine C8 (Ed ?_ (by size_fits))
 refine C8 (m:=firstArgMember _ _) (wpAny_of_eq (a:=Value.none) (by first | rfl | (simp only [firstArgMember];rfl)) ?_)
 refine Ed ?_ (by size_fits)
 simp only [raiseNew]
 refine C8 (wpAny_handled ?_)
 first | rw [show A.in1.handled=none from hh] | rw [hh]
 refine C8 (Df (wpAny_throw ?_))
 exact hE _ _ (((Em ..).extBut.push _).push _) ⟨_,Ds _ rfl,rfl⟩
end
theorem wc {prog:Program} {w:World} {A:Around} (hh:A.handled=none) (it l:Addr) (hne:l≠it) (items:Array Value):
    Draws prog w A it [it,l] items.size (fun i v=>items[i]? =some v) (fun i h=>h.IsTupleIter it l i/\h.IsTuple l items) where
 live:=fun _ _ st=>let ⟨o,ho,_⟩:=st.1;⟨o,ho⟩
 frame:=fun _ _ _ st hk=>⟨st.1.at fun o e=>hk it (by simp) o e,let ⟨o,ho,r⟩:=st.2;⟨o,hk l (by simp) o ho,r⟩⟩
 item:=fun i s Q E hi st hQ=>by
  refine jd st.1 st.2 (x:=items[i]) (by simp [hi]) fun h' st' sb=>?_
  exact hQ _ h' s.toks (by simp [hi]) ⟨st',st.2.extBut sb.extBut hne⟩ sb
 done:=fun s Q E st hE=>cK hh st.1 st.2 (by simp) hE
theorem lY (l:Addr) (items:Array Value) (n:Nat) (dct:Option Addr) (sl:Array (Option Value)):
    Meets (Builtin.«enumerate.__new__» ⟨[.type "enumerate",.ref l],[]⟩) (fun _ R s=>s.heap.get? l=some { cls:=.type "tuple",dict:=dct,data:=.seq items n,slots:=sl }/\
     R (.ok (.ret (.ref (s.heap.push { cls:=.type "tuple_iterator",data:=.fields #[.ref l,.int 0 0] }).objs.size)))
      { s with heap:=(s.heap.push { cls:=.type "tuple_iterator",data:=.fields #[.ref l,.int 0 0] }).push { cls:=.type "enumerate",data:=.fields #[.none,.bool false,.ref s.heap.objs.size,rawInt 0,.none,.none] } }):=
 .of_wp fun prog w A R s h=>by
  obtain ⟨hp,g,d,tk,os⟩:=s;obtain ⟨hl,h⟩:=h
  have hsub:=sub_enumerate
  have hL:Heap.IsTuple (Shared.heap ⟨hp,g,d,tk,os⟩) l items:=⟨_,hl,rfl,n,rfl⟩
  wp_walk using wpAny_loadPart' hl
  refine wpAny_stack_any fun st=>Df ?_
  split
  . rename_i c _ _ _ _ _
    cases (c==Value.type "enumerate")
    . wp_walk using wpAny_loadPart' hl,wpAny_pyIter_tuple hL
      exact ⟨_,rfl,h⟩
    . wp_walk using wpAny_loadPart' hl,wpAny_pyIter_tuple hL
      exact ⟨_,rfl,h⟩
  . wp_walk using wpAny_loadPart' hl,wpAny_pyIter_tuple hL
    exact ⟨_,rfl,h⟩
section
variable {prog:Program} {w:World} {A:Around} {E:Value->Shared->Prop} {s:Shared}
theorem km {l:Addr} {items:Array Value} {Q:Value->Shared->Prop} (hL:s.heap.IsTuple l items)
    (h:∀ h',IsEnum h' (s.heap.objs.size+1) s.heap.objs.size 0 .none->h'.IsTupleIter s.heap.objs.size l 0->h'.objs.size=s.heap.objs.size+2->
     (∀ b o,s.heap.get? b=some o->h'.get? b=some o)->Q (.ref (s.heap.objs.size+1)) { s with heap:=h' }):
    wpAny (model prog w) A (call (.type "enumerate") [.ref l]) Q E s:=by
 obtain ⟨⟨c,dct,dt,sl⟩,hl,hc,n,hd⟩:=hL
 replace hc:c=.type "tuple":=hc
 replace hd:dt=.seq items n:=hd
 subst hc hd
 refine callType_new F.called_enumerate (by decide) (F.typeCall_enumerate_1 _) (F.newCall_enumerate_1 _) (fun obj=>F.args_object_init_2 obj _) F.entry_enumerate_new (lY l items n dct sl) ⟨hl,?_⟩
 have hz:(s.heap.push { cls:=.type "tuple_iterator",data:=.fields #[.ref l,.int 0 0] }).objs.size=s.heap.objs.size+1:=Et ..
 show _/\_
 rw [hz]
 have he:IsEnum ((s.heap.push { cls:=.type "tuple_iterator",data:=.fields #[.ref l,.int 0 0] }).push
     { cls:=.type "enumerate",data:=.fields #[.none,.bool false,.ref s.heap.objs.size,rawInt 0,.none,.none] }) (s.heap.objs.size+1) s.heap.objs.size 0 .none:=by
  have q:=Ds (s.heap.push { cls:=.type "tuple_iterator",data:=.fields #[.ref l,.int 0 0] })
   (o:={ cls:=.type "enumerate",data:=.fields #[.none,.bool false,.ref s.heap.objs.size,rawInt 0,.none,.none] }) rfl
  rw [hz] at q;exact q
 exact ⟨⟨_,he,rfl⟩,h _ he ⟨_,Dd _ (Ds _ rfl),rfl,rfl⟩ (by rw [Et,hz]) fun b o x=>Dd _ (Dd _ x)⟩
end
end BE
namespace L2
open PySem PySem.Spec PyProof.Rows
section
variable {X:Cx} {pins:List (Addr×Obj)} {σ:St} {H:Hp} {s:Shared} {h':Heap}
theorem Inv.turned2 {t':Nat} {it e T:Addr} {o:HO} (I:Inv X pins σ H s) (k:∀ b u,b≠it->b≠e->s.heap.get? b=some u->h'.get? b=some u) (f1:pL X pins H it) (f2:pL X pins H e) (hp:s.heap.objs.size<=T)
    (new:bC X.prog X.w (upd H T o) h' T o):Inv X pins σ (upd H T o) { s with heap:=h',toks:=t' }:=by
 have hT:H T=none:=I.hok.fresh hp
 have old:∀ b u,s.heap.get? b=some u->b≠T:=fun b u q=>DC (Do (Dp q) hp)
 have up:∀ b u,H b=some u->upd H T o b=some u:=fun b u q=>by rw [aA (aZ q hT)];exact q
 have nit:∀ b u,H b=some u->b≠it:=fun b u q z=>by rw [z,f1.1] at q;cases q
 have ne:∀ b u,H b=some u->b≠e:=fun b u q z=>by rw [z,f2.1] at q;cases q
 have nin:∀ b,b∉[it,e]->b≠it/\b≠e:=fun b hb=>⟨fun z=>hb (by simp [z]),fun z=>hb (by simp [z])⟩
 refine I.step (g':=s.gens) (d':=s.drawn) (ch:=[it,e]) (fun b hb=>?_) (fun b u _ _ hc q _=>k b u (nin b hc).1 (nin b hc).2 q) (fun b u _ _ hc q _=>⟨u.slots,k b u (nin b hc).1 (nin b hc).2 q⟩) (fun b u hc q n=>by rw [aA (old b u q)];exact n)
  (fun b u hc q=>⟨u,k b u (nin b hc).1 (nin b hc).2 q⟩) (fun b xs q=>up b _ q) (fun b u v q=>up b _ q) (fun b ps q=>⟨#[],by rw [up b _ q];simp⟩) (fun m hm=>?_) (fun b u q=>?_) I.bare
 . have hb':b=it\/b=e:=by simpa using hb
   rcases hb' with rfl | rfl
   . exact ⟨f1.2.2.2.1,f1.2.1,f1.2.2.2.2.1,f1.2.2.2.2.2⟩
   . exact ⟨f2.2.2.2.1,f2.2.1,f2.2.2.2.2.1,f2.2.2.2.2.2⟩
 . obtain ⟨u,es,ep,hu,r⟩:=hm
   exact ⟨u,es,ep,k _ u (Ne.symm f1.2.1) (Ne.symm f2.2.1) hu,r⟩
 . by_cases z:b=T
   . subst z
     rw [ah] at q
     cases q
     exact new
   . rw [aA z] at q
     refine (I.hok b u q).stay (fun c v hc r=>k c v ?_ ?_ r) (fun c r=>up c _ r) fun c xs r=>up c _ r
     . rcases hc with hc | hc
       . rw [hc];exact nit b u q
       . exact nit c _ hc
     . rcases hc with hc | hc
       . rw [hc];exact ne b u q
       . exact ne c _ hc
end
def Ite (K:PySem.W.Frag) (a:Addr):It:=
 ⟨fun i H=>∃ xs x,SqT K H a xs/\xs[i]? =some x,fun i H x H'=>∃ p v,H p=none/\x=.ref p/\H'=upd H p (.tup [.int i,v])/\∀ xs,SqT K H a xs->xs[i]? =some v,fun i H=>∃ xs,SqT K H a xs/\xs.length<=i⟩
def ItL (K:PySem.W.Frag) (a:Addr):It:=
 ⟨fun i H=>∃ xs x,SqL K H a xs/\xs[i]? =some x,fun i H x H'=>∃ p v,H p=none/\x=.ref p/\H'=upd H p (.tup [.int i,v])/\∀ xs,SqL K H a xs->xs[i]? =some v,fun i H=>∃ xs,SqL K H a xs/\xs.length<=i⟩
theorem rf {P:Program} {w:World} {H:Hp} {h:Heap} {T:Addr} {i:Nat} {t:Tok} {v:V} {u:Value} (ht:h.get? T=some { cls:=.type "tuple",data:=.seq #[.int i t,u] }) (r:bB v u):bC P w H h T (.tup [.int i,v]):=
 ⟨by show 2<=sizeLine;decide,[.int i t,u],.cons ⟨t,rfl⟩ (.cons r .nil),⟨_,ht,rfl,rfl,_,rfl⟩⟩
theorem pR {P:Program} {w:World} {K:PySem.W.Frag} {es:List Expr} {ek:Nat} {pos:Pos} (a it e:Addr) (hei:e≠it):yU P w K (.Tuple es ek pos) (Ite K a) [it,e] e (fun i h=>(∃ old,IsEnum h e it i old)/\h.IsTupleIter it a i) where
 mem:=by simp
 obj:=fun i h st b hb=>by
  obtain ⟨⟨old,he⟩,o,ho,hc,hd⟩:=st
  have hb':b=it\/b=e:=by simpa using hb
  rcases hb' with rfl | rfl
  . exact ⟨o,ho,fun v z=>by rw [hd] at z;cases z⟩
  . exact ⟨_,he,fun v z=>by
      have z':Data.fields _=Data.cell v:=z
      cases z'⟩
 keep:=fun i h h' st k=>by
  obtain ⟨⟨old,he⟩,st⟩:=st
  exact ⟨⟨old,k e (by simp) _ he⟩,st.at fun o q=>k it (by simp) o q⟩
 item:=by
  intro X hP hw hK hc i pins s σ H E I hf st hg
  subst hP hw hK
  obtain ⟨⟨old,he⟩,st⟩:=st
  obtain ⟨xs,x,hq,hx⟩:=hg
  obtain ⟨its,rv,p,hz⟩:=I.tuple hq
  obtain ⟨u,hu,ru⟩:=rv.get hx
  have f1:=hf it (by simp)
  have f2:=hf e (by simp)
  have p':s.heap.IsTuple a its.toArray:=p
  have ha:a≠it:=fun z=>by
   obtain ⟨o,ho,hcl,_⟩:=st
   obtain ⟨o',ho',hcl',_⟩:=p'
   rw [z,ho] at ho';cases ho';rw [hcl] at hcl';exact absurd (Value.type.inj hcl') (by decide)
  have hae:e∉[it,a]:=fun z=>by
   have z':e=it\/e=a:=by simpa using z
   rcases z' with z' | z'
   . exact hei z'
   . obtain ⟨o',ho',hcl',_⟩:=p'
     rw [<- z',he] at ho';cases ho';exact absurd (Value.type.inj hcl') (by decide)
  have hlt:i<its.toArray.size:=by
   have:=(Db.mp hu).1
   simpa using this
  refine wpAny_pyNext_enum_itemD (BE.wc (A:=X.A.in1) (I.ok.hd hc) it a ha its.toArray) he ⟨st,p'⟩ hlt hei hae fun y h1 tk hy ho st1 hT hsz hk=>?_
  have ey:y=u:=by
   have hy':its.toArray[i]? =some y:=hy
   rw [Ev] at hy'
   rw [hu] at hy';cases hy';rfl
  subst ey
  refine ⟨_,rfl,wpAny_letOwnedTupleGo_enum ho fun h2 he2 sb2=>?_⟩
  have neT:s.heap.objs.size≠e:=Nat.ne_of_gt (Dp he)
  have hT2:h2.get? s.heap.objs.size=some { cls:=.type "tuple",data:=.seq #[.int i tk,y] }:=(sb2.2 _ neT).trans hT
  have fr:H s.heap.objs.size=none:=I.hok.fresh (Dh _)
  have I2:Inv X pins σ (upd H s.heap.objs.size (.tup [.int i,x])) { s with heap:=h2,toks:=tk+1 }:=
   I.turned2 (it:=it) (e:=e) (fun b q h1' h2' r=>(sb2.2 b h2').trans (hk b q h2' h1' r)) f1 f2 (Dh _) (rf hT2 ru)
  refine ⟨.ref s.heap.objs.size,_,I2,rfl,⟨_,x,fr,rfl,rfl,fun ys hy=>by rw [I.tuple_inj hy hq];exact hx⟩,⟨⟨y,?_⟩,?_⟩,fun b hb=>?_⟩
  . have:=he2
    rw [show ((i+1:Nat):Int)=(i:Int)+1 from by omega]
    exact this
  . exact st1.1.at fun o q=>(sb2.2 it (Ne.symm hei)).trans q
  . have hn:=(hf b hb).1
    have hb':b≠s.heap.objs.size:=fun z=>by
     have hlt':b<s.heap.objs.size:=by
      have hb2:b=it\/b=e:=by simpa using hb
      rcases hb2 with rfl | rfl
      . obtain ⟨o,ho,_⟩:=st;exact Dp ho
      . exact Dp he
     exact absurd z (DC hlt')
    rw [aA hb']
    exact hn
 done:=by
  intro X hP hw hK hc i pins s σ H E I hf st hg
  subst hP hw hK
  obtain ⟨⟨old,he⟩,st⟩:=st
  obtain ⟨xs,hq,hx⟩:=hg
  obtain ⟨its,rv,p,hz⟩:=I.tuple hq
  have f1:=hf it (by simp)
  have p':s.heap.IsTuple a its.toArray:=p
  have hT:s.TypeIs (.ref e) "enumerate":=⟨_,he,rfl⟩
  unfold pyNext
  refine C8 (wpAny_attempt (D1 (name:=Str.ofString "__next__") hT F.slot_enumerate_next (D8 F.slot_enumerate_next hT F.entry_enumerate_next ?_ (F.args_enumerate_next_1 _))))
  show wpAny _ _ (field (.ref e) 2>>=_) _ _ _
  refine C8 (Eu he rfl (x:=.ref it) rfl ?_)
  refine C8 (BE.cK (A:=X.A.in1) (I.ok.hd hc) st p' (by simp;have:=rv.length;omega) fun h1 ex hb hx'=>?_)
  obtain ⟨o,ho,hcl⟩:=hx'
  refine C8 (wpAny_isInstance (T:="StopIteration") (b:=true) ⟨o,ho,hcl⟩ isSubtype_stop ?_)
  exact Df ⟨rfl,I.turned (t':=s.toks) (fun b q hb' r=>hb b q hb' r) f1.1 f1.2.1 f1.2.2.2.1 f1.2.2.2.2.1 f1.2.2.2.2.2⟩
 self:=fun _ _ _ _ _ st h=>let ⟨⟨_,he⟩,_⟩:=st;wpAny_pyIter_enum he h
section
variable {X:Cx} {es:List Expr} {ek:Nat} {tpos:Pos}
def AD (K:PySem.W.Frag) (ta:TA):TI:=fun σ H R=>ta σ H fun vs H1=>∃ a xs,vs=[.ref a]/\SqT K H1 a xs/\R (Ite K a) H1
theorem oE {x:Expr} {ta:TA} {p pos:Pos} (hg:Gl X "enumerate") (hm:X.mg "enumerate"=none) (ha:PA X [x] ta) (hs:starEach [x] X.env=[(false,eval x X.env)]:=by rfl):
    PI X (.Tuple es ek tpos) (.Call (.Name "enumerate" p) [x] [] pos) (AD X.K ta):=by
 intro pins s σ H R I h
 refine Call_ (fj I hg hm boot_enumerate (Ew (thn (ha pos pins s σ H _ I h) fun us s1 ⟨vs,H1,I1,r1,q1⟩=>?_) hs rfl))
 obtain ⟨a,xs,e,hq,q⟩:=q1
 subst e
 cases r1 with
 | cons r rr=>
  cases rr
  cases r
  obtain ⟨its,rv,pt,hz⟩:=I1.tuple hq
  refine BE.km (show s1.heap.IsTuple a its.toArray from pt) fun h' he hit hsz hk=>?_
  refine wpAny_pyIter_enum he ?_
  have hne:s1.heap.objs.size+1≠s1.heap.objs.size:=Nat.succ_ne_self _
  refine ⟨s1.heap.objs.size+1,[s1.heap.objs.size,s1.heap.objs.size+1],_,_,H1,rfl,I1.kept (t':=s1.toks) hk,pR a s1.heap.objs.size (s1.heap.objs.size+1) hne,⟨⟨_,he⟩,hit⟩,fun b hb=>?_,q⟩
  have hb':b=s1.heap.objs.size\/b=s1.heap.objs.size+1:=by simpa using hb
  rcases hb' with rfl | rfl
  . exact I1.fpOk (Dh _) (I1.hok.fresh (Dh _))
  . exact I1.fpOk (Nat.le_succ _) (I1.hok.fresh (Nat.le_succ _))
end
theorem lQ {K:PySem.W.Frag} {a:Addr} {xs:List V} {g:TG} {tb:TS} {D:uO} {σ:St} {H:Hp} (Pv:Nat->St->Hp->Prop) (h0:Pv 0 σ H) (hl:∀ i σ H,i<=xs.length->Pv i σ H->SqT K H a xs)
    (hs:∀ i v p σ H,xs[i]? =some v->H p=none->Pv i σ H->g (.ref p) σ (upd H p (.tup [.int i,v])) fun σ2 H2=>tb { D with nx:=Pv (i+1),ct:=Pv (i+1),bk:=D.nx } σ2 H2) (hd:∀ σ H,Pv xs.length σ H->D.nx σ H):
    ∃ W:Nat->Nat->St->Hp->Prop,(∃ m,W 0 m σ H)/\∀ i m σ H,W i m σ H->
     ((Ite K a).stop i H/\D.nx σ H)\/((Ite K a).go i H/\∃ N:St->Hp->Prop,(∀ σ' H',N σ' H'->∃ m',m'<m/\W (i+1) m' σ' H')/\∀ x H',(Ite K a).yld i H x H'->g x σ H' fun σ2 H2=>tb { D with nx:=N,ct:=N,bk:=D.nx } σ2 H2):=by
 refine ⟨fun i m σ H=>m=xs.length-i/\i<=xs.length/\Pv i σ H,⟨xs.length,by simp,DD _,h0⟩,?_⟩
 rintro i m σ H ⟨rfl,hi,p⟩
 have q:=hl i σ H hi p
 by_cases hlt:i<xs.length
 . refine .inr ⟨⟨xs,xs[i],q,by simp [hlt]⟩,Pv (i+1),fun σ' H' p'=>⟨xs.length-(i+1),by omega,rfl,hlt,p'⟩,fun x H' y=>?_⟩
   obtain ⟨b,v,hb,e1,e2,y⟩:=y
   subst e1 e2
   exact hs i v b σ _ (y xs q) hb p
 . have e:i=xs.length:=by omega
   subst e
   exact .inl ⟨⟨xs,q,Dh _⟩,hd σ H p⟩
end L2
namespace L2
open PySem PySem.Spec PyProof.Rows
section
variable {prog:Program} {w:World} {A:Around} {E:Value->Shared->Prop} {s:Shared}
theorem AZ {t b:Addr} {vs ws:List Value} {Q:Value->Shared->Prop} (ht:IsTup s.heap t vs.toArray) (hb:IsTup s.heap b ws.toArray) (h0:vs=[]->Q (.ref b) s) (h1:ws=[]->Q (.ref t) s)
    (h2:Q (.ref s.heap.objs.size) { s with heap:=s.heap.push { cls:=.type "tuple",data:=.seq (vs++ws).toArray } }) (hsz:vs.length+ws.length<=sizeLine):wpAny (model prog w) A (binaryOp .Add (.ref t) (.ref b)) Q E s:=by
 by_cases hv:vs=[]
 . obtain ⟨⟨c1,d1,a1,l1⟩,o1,k1,n1,q1⟩:=id ht
   obtain ⟨⟨c2,d2,a2,l2⟩,o2,k2,n2,q2⟩:=id hb
   simp only at k1 q1 k2 q2
   subst k1 q1 k2 q2
   exact concat_meets ⟨_,o1,rfl⟩ ⟨_,o2,rfl⟩ noFill_tuple_add seq_tuple_add PySem.F.slot_tuple_add PySem.F.entry_tuple_add (PySem.F.args_tuple_add_2 _ _) (tuple_addW0 t b vs.toArray ws.toArray n1 n2 d1 d2 l1 l2 (by simp [hv])) ⟨o1,o2,h0 hv⟩
 . exact HT.cat_tup ht hb hv h1 (fun _=>h2) hsz
theorem p7 {t sl:Addr} {items:Array Value} {vl vu:Value} {lo hi:Option Int} {Q:Value->Shared->Prop} (ht:IsTup s.heap t items) (hs:s.heap.IsSliceOf sl vl vu .none) (pl:IsPart vl lo) (pu:IsPart vu hi)
    (hw:HT.sIx items.size 0 lo=0/\HT.sIx items.size items.size hi=items.size) (h:Q (.ref t) s):wpAny (model prog w) A (getItem (.ref t) (.ref sl)) Q E s:=by
 obtain ⟨o1,ho1,hc1,hd1⟩:=id hs
 have hTs:s.TypeIs (.ref sl) "slice":=⟨o1,ho1,hc1⟩
 unfold getItem
 try with_reducible refine Eo ?_
 first | refine C8 (Df ?_) | skip
 refine C8 (wpAny_sequenceKey ht.typeIs (by decide) ?_)
 refine C8 (D1 (name:=Str.ofString "__getitem__") ht.typeIs Ej (D8 Ej ht.typeIs entry_tuple_getitem ?_ (args_tuple_getitem _ _)))
 show wpAny _ _ (Builtin.Tuple.tupleItemsOf (.ref t)>>=_) _ _ s
 refine C8 (tupleItemsOf_ ht ?_)
 refine C8 (wpAny_typeOf hTs ?_)
 rw [if_pos (by decide)]
 refine C8 (HT.sliceApplied_gen hs pl pu ?_)
 have yes:(((HT.sIx items.size 0 lo:Nat):Int)==0 && (1:Int)==1 && (HT.sIx items.size items.size hi-HT.sIx items.size 0 lo)==items.size)=true:=by rw [hw.1,hw.2];simp
 show wpAny _ _ (if (((HT.sIx items.size 0 lo:Nat):Int)==0 && (1:Int)==1 && (HT.sIx items.size items.size hi-HT.sIx items.size 0 lo)==items.size)=true then _ else _) _ _ s
 rw [if_pos yes]
 unfold Builtin.Tuple.tupleIsExact
 refine C8 (C8 (wpAny_typeOf ht.typeIs (Df ?_)))
 rw [if_pos (by decide)]
 first
  | exact C8 (wpAny_rule (Df ⟨_,rfl,Df h⟩))
  | exact C8 (wpAny_rule (C8 (Df (Df ⟨_,rfl,Df h⟩))))
end
def BR:R2:=fun x y H Q=>∃ a b xs ys,x=.ref a/\y=.ref b/\H a=some (.tup xs)/\H b=some (.tup ys)/\xs.length+ys.length<=sizeLine/\∀ p H',aM H H'->H' p=some (.tup (xs++ys))->Q (.ref p) H'
def CI:V->Option Int->Option Int->Hp->VK->Prop:=fun x lo hi H Q=>∃ a xs,x=.ref a/\H a=some (.tup xs)/\∀ p H',aM H H'->H' p=some (.tup (qD xs lo hi))->Q (.ref p) H'
theorem qC {xs:List V} {lo hi:Option Int} (h:HT.sIx xs.length 0 lo=0/\HT.sIx xs.length xs.length hi=xs.length):qD xs lo hi=xs:=by
 unfold qD
 rw [h.1,h.2]
 simp
section
variable {X:Cx}
theorem sO:OpR X (binaryOp .Add) BR:=by
 intro pins s σ H x y v u Q I rx ry h
 obtain ⟨a,b,xs,ys,rfl,rfl,ha,hb,hz,q⟩:=h
 cases rx
 cases ry
 obtain ⟨i1,r1,p1,_⟩:=I.tuple (SqT.of ha)
 obtain ⟨i2,r2,p2,_⟩:=I.tuple (SqT.of hb)
 refine AZ p1 p2 (fun z=>⟨.ref b,H,I,rfl,q b H (aM.refl H) ?_⟩) (fun z=>⟨.ref a,H,I,rfl,q a H (aM.refl H) ?_⟩) ?_ (by rw [<- r1.length,<- r2.length];exact hz)
 . rw [r1.nil_iff.mp z];exact hb
 . rw [r2.nil_iff.mp z,D7];exact ha
 . have fr:H s.heap.objs.size=none:=I.hok.fresh (Dh _)
   refine ⟨.ref s.heap.objs.size,_,I.laid (t':=s.toks) (o:=.tup (xs++ys)) (fun b ob q=>Dd _ q) (Dh _) ?_,rfl,q _ _ (ak fr _) ah⟩
   exact ⟨by rw [Dm];exact hz,_,r1.append r2,xc.new _ _⟩
theorem mU:SlR X CI:=by
 intro pins s σ H x v vl vu lo hi sl Q I rx hs pl pu h
 obtain ⟨a,xs,rfl,hx,q⟩:=h
 by_cases hw:HT.sIx xs.length 0 lo=0/\HT.sIx xs.length xs.length hi=xs.length
 . cases rx
   obtain ⟨its,r,ht,hz⟩:=I.tuple (SqT.of hx)
   have hlen:its.toArray.size=xs.length:=by rw [Du];exact r.length.symm
   refine ⟨"tuple",_,Ej.lookup,ht.typeIs,?_⟩
   exact p7 ht hs pl pu (by rw [hlen];exact hw) ⟨.ref a,H,I,rfl,q a H (aM.refl H) (by rw [qC hw];exact hx)⟩
 . exact zG pins s σ H _ v vl vu lo hi sl Q I rx hs pl pu ⟨a,xs,rfl,SqT.of hx,hw,fun p hp=>q p _ (ak hp _) ah⟩
def Cm:List V->Hp->VK->Prop:=fun vs H Q=>∃ (a:Addr) (bs:List Bool),vs=[.ref a]/\H a=some (.lst (bs.map V.bl))/\Q (.bl (bs.all id)) H
theorem pB:∀ {bs:List Bool} {us:List Value},ba (bs.map V.bl) us->us=bs.map Value.bool
 | [],_,.nil=>rfl
 | b::r,_,.cons q t=>by rw [show _=Value.bool b from q,pB t];rfl
theorem sj (bs:List Bool):(List.range bs.length).all (fun i=>bs.getD i false)=bs.all id:=by
 rw [Bool.eq_iff_iff,List.all_eq_true,List.all_eq_true]
 constructor
 . intro h b hb
   obtain ⟨i,hi,e⟩:=List.getElem_of_mem hb
   have:=h i (DQ.mpr hi)
   rw [C9,C7 hi] at this
   rw [<- e];exact this
 . intro h i hi
   have hi':=DQ.mp hi
   rw [C9,C7 hi']
   exact h _ (DX hi')
theorem mO {A:Around} (bs:List Bool):TruthOf X.prog X.w A (fun i v=>(bs.map Value.bool).toArray[i]? =some v) (fun i=>bs.getD i false):=fun i v s Q E hP hQ=>by
 have h2:(bs.map Value.bool)[i]? =some v:=by simpa using hP
 rw [Di] at h2
 cases e:bs[i]? with
 | none=>rw [e] at h2;cases h2
 | some b=>
  rw [e] at h2
  cases h2
  refine wpAny_truthy_bool ?_
  have z:bs.getD i false=b:=by rw [C9,e];rfl
  have hQ':Q (bs.getD i false) s:=hQ
  rw [z] at hQ'
  exact hQ'
theorem fA (hc:X.calm=true):dF X (.builtin "all") Cm:=by
 intro pins s σ H xs us Q I rs h
 obtain ⟨a,bs,rfl,hl,q⟩:=h
 obtain ⟨u,rfl,ru⟩:=gY rs
 cases ru
 obtain ⟨its,rv,p,hz⟩:=I.list (SqL.of hl)
 have e:=pB rv
 subst e
 obtain ⟨oa,hoa,_⟩:=id p.isList
 have hne:a≠s.heap.objs.size:=DC (Dp hoa)
 refine call_all_walk (wpAny_pyIter_list p.isList ?_)
 refine ⟨s.heap.objs.size,_,_,_,_,_,fun i=>bs.getD i false,rfl,Walks.list (A:=X.A.in1) (I.ok.hd hc) _ a hne (bs.map Value.bool).toArray,⟨⟨_,Ds _ rfl,rfl,rfl⟩,p.isList.at fun o r=>Dd _ r⟩,mO bs,fun h' tk hk=>?_⟩
 have en:(List.range (bs.map Value.bool).toArray.size).all (fun i=>bs.getD i false)=bs.all id:=by
  rw [Du,Da];exact sj bs
 refine ⟨.bl (bs.all id),H,I.kept (t':=tk) fun b o r=>hk b o (fun z=>?_) (Dd _ r),(by rw [en];exact rfl),q⟩
 have z':b=s.heap.objs.size:=by simpa using z
 exact absurd z' (DC (Dp r))
end
end L2
namespace L2
open PySem PySem.Spec PyProof.Rows
theorem bC.get {P:Program} {w:World} {H:Hp} {h:Heap} {a:Addr} {o:HO} (x:bC P w H h a o):∃ ob,h.get? a=some ob:=by
 cases o with
 | lst xs=>obtain ⟨_,_,_,_,e⟩:=x;exact ⟨_,e⟩
 | tup xs=>obtain ⟨_,_,_,o,e,_⟩:=x;exact ⟨_,e⟩
 | dK kvs=>obtain ⟨_,_,_,_,o,_,_,e,_⟩:=x;exact ⟨_,e⟩
 | dT kvs=>obtain ⟨_,_,_,_,o,_,_,e,_⟩:=x;exact ⟨_,e⟩
 | set S n=>obtain ⟨o,_,_,_,e,_⟩:=x;exact ⟨_,e⟩
 | ins C dx fs=>obtain ⟨_,_,_,e,_⟩:=x;exact ⟨_,e⟩
 | own y=>exact x
 | xd fs=>obtain ⟨_,⟨_,_,_,e,_⟩,_⟩:=x;exact ⟨_,e⟩
 | rng lo hi=>obtain ⟨_,_,_,e⟩:=x;exact ⟨_,e⟩
 | frz ob u=>obtain ⟨e,_⟩:=x;exact ⟨_,e⟩
 | tbl ps=>exact ⟨_,(show h.get? a=some _ from x)⟩
 | met f y=>exact ⟨_,(show h.get? a=some _ from x)⟩
 | ext φ=>exact x.2.1
structure C3 (P:Program) (w:World) (outer:List Env) (H:Hp) (s:Shared) (a C t:Addr) (H':Hp) (B:Heap) (s':Shared):Prop where
 os:s'.os=s.os
 bare:AllBare s'.gens
 un:Un (frs outer) [] H H' s.heap s'.heap
 hok:HOk P w H' s'.heap
 fly:Heap.FlyingW B outer a (.ref C) (.ref t) s'.heap
 old:∀ b o,s.heap.get? b=some o->b∉frs outer->∃ ob,B.get? b=some ob
 trk:∀ b o,H' b=some o->∃ ob,B.get? b=some ob
def CXr (P:Program) (w:World):CXT:=fun outer H s E e s'=>∃ (a C t:Addr) (H':Hp) (B:Heap),e=.ref a/\C3 P w outer H s a C t H' B s'/\E (.ref C) none H'
theorem aw {P:Program} {w:World} {X:Cx}:pH (CXr P w) X E0:=fun _ _ _ _ _ _ _ h=>let ⟨_,_,_,_,_,_,_,z⟩:=h;False.elim z
theorem o4 {P:Program} {w:World} {outer:List Env} {H H':Hp} {h0 h1 h2 B:Heap} (un:Un (frs outer) [] H H' h0 h1) (hok:HOk P w H' h1) (b1:B.StaysIn h1) (b2:B.StaysIn h2)
    (old:∀ b o,h0.get? b=some o->b∉frs outer->∃ ob,B.get? b=some ob) (trk:∀ b o,H' b=some o->∃ ob,B.get? b=some ob) (frm:∀ b∈frs outer,∀ o,h1.get? b=some o->∃ sl,h2.get? b=some { o with slots:=sl }):
    Un (frs outer) [] H H' h0 h2/\HOk P w H' h2:=by
 have on:∀ b ob o,B.get? b=some ob->h1.get? b=some o->h2.get? b=some o:=fun b ob o q r=>by
  have z:=b1 b ob q
  rw [r] at z
  cases z
  exact b2 b _ q
 refine ⟨⟨fun b o e n hb hx=>?_,fun b o e n hb hx=>?_,un.free,fun b o e hx=>?_,un.tups,un.frzs,un.tbls⟩,fun b u e=>?_⟩
 . obtain ⟨ob,q⟩:=old b o e hb
   exact on b ob o q (un.keep b o e n hb hx)
 . obtain ⟨sl,q⟩:=un.slot b o e n hb hx
   obtain ⟨sl',r⟩:=frm b hb _ q
   exact ⟨sl',r⟩
 . by_cases hb:b∈frs outer
   . obtain ⟨o',q⟩:=un.there b o e hx
     obtain ⟨sl,r⟩:=frm b hb _ q
     exact ⟨_,r⟩
   . obtain ⟨ob,q⟩:=old b o e hb
     exact ⟨_,b2 b ob q⟩
 . refine (hok b u e).stay (fun c v hc q=>?_) (fun _ q=>q) fun _ _ q=>q
   rcases hc with hc | hc
   . subst hc
     obtain ⟨ob,r⟩:=trk c u e
     exact on c ob v r q
   . obtain ⟨ob,r⟩:=trk c _ hc
     exact on c ob v r q
section
variable {P:Program} {w:World} {K:PySem.W.Frag} {mg:Str->Option Value} {base:Heap} {N:List Str} {qual:Str} {scope:Scope} {f:Addr} {cd:Value} {A:Around} {outer:List Env} {s:Shared} {H:Hp} {E:XK}
theorem qh {pins:List (Addr×Obj)} {σ:St} {H1:Hp} {s1:Shared} {h':Heap} {a C:Addr} {vs:List Value} (I:Inv (mG (CXr P w) P w K mg base N qual scope f cd A outer s H E) pins σ H1 s1) (hx:Heap.MadeExcOf s1.heap h' a (.ref C) vs)
    (hE:E (.ref C) none H1):(mG (CXr P w) P w K mg base N qual scope f cd A outer s H E).xe (.ref a) { s1 with heap:=h' }:=by
 have fr:∀ env∈(envOfC qual scope s.heap.objs.size f cd::outer),∀ b,env.frame=some b->b∈frs (envOfC qual scope s.heap.objs.size f cd::outer):=fun env he b hb=>List.mem_filterMap.mpr ⟨env,he,hb⟩
 have hst:s1.heap.FunFrames base (envOfC qual scope s.heap.objs.size f cd::outer):=I.stack
 have hout:∀ b,b∉frs outer->b≠s.heap.objs.size->b∉frs (envOfC qual scope s.heap.objs.size f cd::outer):=fun b h1 h2 z=>by
  rcases DI.mp (I.stkSub b z) with q | q
  . exact h2 q
  . exact h1 q
 have B1:(PySem.W.hideAll s1.heap (frs (envOfC qual scope s.heap.objs.size f cd::outer))).StaysIn s1.heap:=fun b o q=>PySem.W.of_hideAll _ q
 have bin:∀ b o,b∉frs (envOfC qual scope s.heap.objs.size f cd::outer)->s1.heap.get? b=some o->(PySem.W.hideAll s1.heap (frs (envOfC qual scope s.heap.objs.size f cd::outer))).get? b=some o:=fun b o n q=>PySem.W.hideAll_get _ q n
 have old:∀ b o,s.heap.get? b=some o->b∉frs outer->∃ ob,(PySem.W.hideAll s1.heap (frs (envOfC qual scope s.heap.objs.size f cd::outer))).get? b=some ob:=fun b o q n=>by
  obtain ⟨o',r⟩:=I.base.there b o q (fun z=>nomatch (show b∈([]:List Addr) from z))
  exact ⟨o',bin b o' (hout b n (DC (Dp q))) r⟩
 have trk:∀ b o,H1 b=some o->∃ ob,(PySem.W.hideAll s1.heap (frs (envOfC qual scope s.heap.objs.size f cd::outer))).get? b=some ob:=fun b o q=>by
  obtain ⟨ob,r⟩:=(I.hok b o q).get
  refine ⟨ob,bin b ob (fun z=>?_) r⟩
  rw [I.stkFree b z] at q
  cases q
 refine wpAny_leaves_madeW (base:=PySem.W.hideAll s1.heap (frs (envOfC qual scope s.heap.objs.size f cd::outer))) (L:=s.heap.objs.size) I.ok.frames rfl B1 (PySem.W.funFrames_hide hst fr) hx fun h2 t fl tup tn ups=>?_
 have un1:Un (frs outer) [] H H1 s.heap s1.heap:=I.base
 have frm:∀ b∈frs outer,∀ o,s1.heap.get? b=some o->∃ sl,h2.get? b=some { o with slots:=sl }:=fun b hb o q=>by
  obtain ⟨_,o',r,nf⟩:=I.funs.mem hb
  rw [q] at r
  cases r
  exact ups b o (hx.keeps b o q) nf
 obtain ⟨un2,hok2⟩:=o4 un1 I.hok B1 fl.1 old trk frm
 exact ⟨a,C,t,H1,_,rfl,⟨I.os,I.bare,un2,hok2,fl,old,trk⟩,hE⟩
theorem sH:pH (CXr P w) (mG (CXr P w) P w K mg base N qual scope f cd A outer s H E) E:=by
 intro pins σ H1 s1 e s' I h
 obtain ⟨a,C,t,H',B,rfl,F,hE⟩:=h
 have I':Inv (mG (CXr P w) P w K mg base N qual scope f cd A outer s H E) pins σ H' s':=I.call' F.os F.un F.hok F.bare fun b hb=>nomatch hb
 have hout:∀ b,b∉frs outer->b≠s.heap.objs.size->b∉frs (envOfC qual scope s.heap.objs.size f cd::outer):=fun b h1 h2 z=>by
  rcases DI.mp (I.stkSub b z) with q | q
  . exact h2 q
  . exact h1 q
 have old:∀ b o,s.heap.get? b=some o->b∉frs outer->∃ ob,B.get? b=some ob:=fun b o q n=>by
  obtain ⟨o',r⟩:=I.base.there b o q (fun z=>nomatch (show b∈([]:List Addr) from z))
  exact F.old b o' r (hout b n (DC (Dp q)))
 refine wpAny_leaves_onW (base:=B) (L:=s.heap.objs.size) I.ok.frames rfl F.fly fun h2 fl ups=>?_
 have un1:Un (frs outer) [] H H' s.heap s'.heap:=I'.base
 have frm:∀ b∈frs outer,∀ o,s'.heap.get? b=some o->∃ sl,h2.get? b=some { o with slots:=sl }:=fun b hb o q=>by
  obtain ⟨_,o',r,nf⟩:=I'.funs.mem hb
  rw [q] at r
  cases r
  exact ups b o q nf
 obtain ⟨un2,hok2⟩:=o4 un1 I'.hok F.fly.1 fl.1 old F.trk frm
 exact ⟨a,C,t,H',B,rfl,⟨I'.os,I'.bare,un2,hok2,fl,old,F.trk⟩,hE⟩
theorem z7 {K:PySem.W.Frag} {h:Heap} {mg:Str->Option Value} {x:Str} {C:Addr} {bm:List Value} {newId:String} (X:K.In h) (m:mg x=some (.ref C)) (q:PySem.W.excIn K C bm newId=true):OwnCls x C bm newId mg h:=by
 refine ⟨m,?_⟩
 unfold PySem.W.excIn at q
 split at q
 . rename_i d1 c1 s1 look
   split at q
   . rename_i C1 b1 e0 e1 e2 e3 n1 e5 mro slots
     simp only [D0,beq_iff_eq,Bool.not_eq_true'] at q
     obtain ⟨⟨⟨⟨⟨rfl,rfl⟩,nodel⟩,tail⟩,good⟩,noinit⟩:=q
     obtain ⟨a1,a2,a3,a4,a5,a6,a7,a8,a9,a10,a11⟩:=c1
     dsimp only at mro nodel good noinit
     subst mro nodel
     have es:s1=#[e0,e1,e2,e3,some (.builtin n1),e5]:=by
      obtain ⟨l1⟩:=s1
      simp only at slots
      rw [slots]
     subst es
     exact ⟨b1,a4,a1,a5,a2,a6,a7,a8,a9,a10,d1,e0,e1,e2,e3,e5,_,X _ _ look,.of_isNs (PySem.W.isNs_of_in X good),PySem.W.nsMap_none_of_in X good noinit,PySem.W.tail_of_in X tail⟩
   . cases q
 . cases q
theorem gK {x:Str} {C:Addr} {e0:Expr} {te:TE} {np cpos pos:Pos} {bm:List Value} {Bn newId initId:String} (hm:mg x=some (.ref C)) (hq:PySem.W.excIn K C bm newId=true) (FB:ExcBaseFacts Bn newId initId bm) (hd:(A.deeper (envOfC qual scope s.heap.objs.size f cd)).handled=none)
    (he:PE (mG (CXr P w) P w K mg base N qual scope f cd A outer s H E) e0 te) (hg:Gl (mG (CXr P w) P w K mg base N qual scope f cd A outer s H E) x) (hdb:(x==("__debug__":Str))=false:=by decide)
    (hs:starEach [e0] (envOfC qual scope s.heap.objs.size f cd)=(false,eval e0 (envOfC qual scope s.heap.objs.size f cd))::[]:=by rfl):
    PS (mG (CXr P w) P w K mg base N qual scope f cd A outer s H E) (.Raise (some (.Call (.Name x np) [e0] [] cpos)) none pos) (fun _ σ H0=>uZ te Bd σ H0 fun xs H1=>xs.length<=sizeLine/\E (.ref C) none H1):=by
 intro pins s1 σ H1 D I h
 have O:OwnCls x C bm newId mg base:=z7 I.mod.kin hm hq
 obtain ⟨tl,Nn,nm,q,bs,hdct,sn,sub,ab,col,dd,k0,k1,k2,k3,k5,mN,hC,hN,hni,T⟩:=O.obj
 refine wpAny_Raise_call_subT (C:=C) (nm:=nm) (q:=q) (N:=Nn) (bs:=bs) (bm:=tl) (hdct:=hdct) (sn:=sn) (sub:=sub) (ab:=ab) (col:=col) (dd:=dd) (k0:=k0) (k1:=k1) (k2:=k2) (k3:=k3) (k5:=k5)
  FB (mN:=mN) (T.hasType FB.hasBase) hd (by show (backTo cpos (starEach [e0] (envOfC qual scope s.heap.objs.size f cd))).any (·.1)=false;rw [hs];rfl) hni (nO I hg O.bound ⟨rfl,?_⟩ hdb)
 have pa:PA (mG (CXr P w) P w K mg base N qual scope f cd A outer s H E) [e0] (uZ te Bd):=ad he af hs
 have z:=pa cpos pins s1 σ H1 (fun xs H2=>xs.length<=sizeLine/\E (.ref C) none H2) I h
 show wpAny _ _ (evalArgs (.ref C) true (backTo cpos (starEach [e0] (envOfC qual scope s.heap.objs.size f cd))) []) _ _ _
 rw [hs]
 rw [show (mG (CXr P w) P w K mg base N qual scope f cd A outer s H E).env=envOfC qual scope s.heap.objs.size f cd from rfl,hs] at z
 refine Calls.evalArgs_plain (wpAny_mono z (fun vs s2 h2=>?_) fun _ _ y=>y)
 obtain ⟨xs,H2,I2,rv,ql,qE⟩:=h2
 have hlen:vs.length<=sizeLine:=by rw [<- rv.length];exact ql
 exact ⟨rfl,hlen,I2.bk _ _ hC,hN.keeps I2.bk,T.keeps I2.bk,fun h' e hm=>qh I2 hm qE⟩
end
section
variable {P:Program} {w:World} {K:PySem.W.Frag} {mg:Str->Option Value} {base:Heap}
theorem Fun.okR {x qual:Str} {st:Stmt} {f:Addr} {fd:FuncData} {N ps:List Str} {k:Nat} {sp:Sp} (F:Fun K x qual st f fd) (S:av N ps (ae st)) (len:∀ vs H Q E,sp vs H Q E->vs.length=ps.length)
    (hbody:∀ (cdv:Value) (A:Around) (outer:List Env) (s:Shared) (H:Hp) (vs:List V) (Q:VK) (E:XK),iZ k (A.deeper (envOfC qual (ae st) s.heap.objs.size f cdv))->sp vs H Q E->
     ∃ t,PSs (mG (CXr P w) P w K mg base N qual (ae st) f cdv A outer s H E) (aq st) t/\t { nx:=fun _ H'=>Q .non H',rt:=Q } (start N vs) H):bP P w K mg base (CXr P w) (k+1) f fd ps sp:=by
 obtain ⟨oc,od,kV,doc,pm,an,cdv,ct,osl,rfl,lk,hcd⟩:=F.ex
 refine B8 lk hcd S len fun A outer s H vs Q E hr hsp=>?_
 obtain ⟨t,h,q⟩:=hbody cdv A outer s H vs Q E hr hsp
 exact ⟨t,h,q⟩
theorem Fun.okN {x qual:Str} {st:Stmt} {f:Addr} {fd:FuncData} {N ps:List Str} {k:Nat} {sp:Sp} (F:Fun K x qual st f fd) (S:av N ps (ae st)) (len:∀ vs H Q E,sp vs H Q E->vs.length=ps.length)
    (hbody:∀ (cdv:Value) (A:Around) (outer:List Env) (s:Shared) (H:Hp) (vs:List V) (Q:VK) (E:XK),iZ k (A.deeper (envOfC qual (ae st) s.heap.objs.size f cdv))->sp vs H Q E->
     ∃ t,PSs (mG (CXr P w) P w K mg base N qual (ae st) f cdv A outer s H E).nox (aq st) t/\t { nx:=fun _ H'=>Q .non H',rt:=Q } (start N vs) H):bP P w K mg base (CXr P w) (k+1) f fd ps sp:=
 F.okR S len fun cdv A outer s H vs Q E hr h=>let ⟨t,ht,q⟩:=hbody cdv A outer s H vs Q E hr h;⟨t,ht.nox,q⟩
end
end L2
namespace L2
open PySem PySem.Spec PyProof.Rows
theorem cn:bootBuiltins "len"=some (.builtin "len"):=by decide+kernel
theorem bK:bootBuiltins "isinstance"=some (.builtin "isinstance"):=by decide+kernel
theorem uz:bootBuiltins "min"=some (.builtin "min"):=by decide+kernel
theorem A2:bootBuiltins "max"=some (.builtin "max"):=by decide+kernel
theorem py:bootBuiltins "all"=some (.builtin "all"):=by decide+kernel
theorem A0:bootBuiltins "sum"=some (.builtin "sum"):=by decide+kernel
theorem mq:bootBuiltins "sorted"=some (.builtin "sorted"):=by decide+kernel
theorem A3:bootBuiltins "int"=some (.type "int"):=by decide+kernel
theorem yK:bootBuiltins "bool"=some (.type "bool"):=by decide+kernel
theorem uA:bootBuiltins "list"=some (.type "list"):=by decide+kernel
theorem de:bootBuiltins "tuple"=some (.type "tuple"):=by decide+kernel
section
variable {X:Cx} (K:PySem.W.Frag)
theorem iX (h:X.K=K:=by rfl):OpR X (compareOp .NotIn) (rIn K true):=h ▸ fZ
theorem uF (h:X.K=K:=by rfl):IxR X (Cl K):=h ▸ bZ
theorem fC (h:X.K=K:=by rfl):IxR X (Ck K):=h ▸ aL
theorem iY (h:X.K=K:=by rfl):dF X (.builtin "len") (fun xs H Q=>∃ p ys,xs=[.ref p]/\(SqL K H p ys\/SqT K H p ys)/\Q (.int ys.length) H):=h ▸ aF
theorem df {es:List Expr} {k:Nat} {t:TGs} {n:Nat} {pos:Pos} (hc:X.calm=true) (hp:PGs X es t) (hn:(assignEach es X.env).length=n:=by rfl) (hst:(assignEach es X.env).findIdx? (·.1)=none:=by rfl) (h:X.K=K:=by rfl):PG X (.Tuple es k pos) (Co K n t):=h ▸ oG hc hp hn hst
end
structure aQ (K:PySem.W.Frag) (mg:Str->Option Value) (x:Str) (st:Stmt) (ps:List Str) where
 a:Addr
 d:FuncData
 F:Fun K x x st a d
 b:qO K d ps []
 m:mg x=some (.ref a)
structure qM (K:PySem.W.Frag) (mg:Str->Option Value) (x:Str) where
 C:Addr
 m:mg x=some (.ref C)
 q:PySem.W.excIn K C [.type "ValueError",.type "Exception",.type "BaseException",.type "object"] "ValueError.__new__"=true
def Scr (K:PySem.W.Frag) (H:Hp) (a:Addr) (ns:List Int):Prop:=
 (∃ o,H a=some (.frz o (.lst (ns.map V.int))))\/
  ∃ (o:Obj) (its:Array Value) (n:Nat),K.lookup a=some o/\o.cls=.type "list"/\o.dict=none/\o.data=.seq its n/\its.size<=sizeLine/\ba (ns.map V.int) its.toList
theorem Scr.sq {K:PySem.W.Frag} {H:Hp} {a:Addr} {ns:List Int} (h:Scr K H a ns):SqL K H a (ns.map V.int):=h.elim (fun ⟨o,e⟩=>.inl (.inr ⟨o,e⟩)) .inr
theorem Scr.same {K:PySem.W.Frag} {H H':Hp} {a:Addr} {ns:List Int} (h:Scr K H a ns) (e:aM H H'):Scr K H' a ns:=h.elim (fun ⟨o,q⟩=>.inl ⟨o,e _ _ q⟩) .inr
theorem Scr.of {K:PySem.W.Frag} {H:Hp} {a:Addr} {ns:List Int} (h:SqL K H a (ns.map V.int)) (o:Bl H):Scr K H a ns:=by
 rcases h with (h | ⟨ob,h⟩) | h
 . rcases o a with z | ⟨_,_,z⟩
   . rw [z] at h;cases h
   . rw [z] at h;cases h
 . exact .inl ⟨ob,h⟩
 . exact .inr h
def dU (n:Nat):List V:=List.replicate n (.int 0)
theorem pM (n:Nat):dU n++[.int 0]=dU (n+1):=by unfold dU;rw [List.replicate_succ']
theorem qT (n:Nat):(dU n).length=n:=D4
def bU (t:Addr) (H H':Hp):Prop:=∀ b o,b≠t->H b=some o->H' b=some o
theorem bU.refl (t:Addr) (H:Hp):bU t H H:=fun _ _ _ h=>h
theorem bU.trans {t:Addr} {H H1 H2:Hp} (a:bU t H H1) (b:bU t H1 H2):bU t H H2:=fun c o n h=>b c o n (a c o n h)
theorem aM.x {H H':Hp} (e:aM H H') (t:Addr):bU t H H':=fun b o _ h=>e b o h
theorem bU.write {t:Addr} {H H':Hp} (e:bU t H H') (o:HO):bU t H (upd H' t o):=fun b u n h=>by rw [aA n];exact e b u n h
theorem bU.new {t p:Addr} {H H':Hp} (e:bU t H H') (hp:H' p=none) (o:HO):bU t H (upd H' p o):=fun b u n h=>by
 have q:=e b u n h
 rw [aA (aZ q hp)];exact q
theorem bU.ts {t:Addr} {H H':Hp} (e:bU t H H') {xs:List V} (h:H t=some (.lst xs)):bG H H':=fun b ys q=>e b _ (nG q h (by intro z;cases z)) q
theorem bU.scr {K:PySem.W.Frag} {t a:Addr} {H H':Hp} {ns:List Int} (e:bU t H H') {xs:List V} (h:H t=some (.lst xs)) (s:Scr K H a ns):Scr K H' a ns:=s.elim (fun ⟨o,q⟩=>.inl ⟨o,e _ _ (nG q h (by intro z;cases z)) q⟩) .inr
def zQ (K:PySem.W.Frag):R2:=fun x y H Q=>∃ a b xs,x=.ref a/\y=.ref b/\SqL K H a xs/\SqL K H b []/\Q (.bl (decide (xs=[]))) H
theorem vJ {X:Cx} (hu:X.A.units<cLine):OpR X (compareOp .Eq) (zQ X.K):=by
 intro pins s σ H x y v u Q I rx ry h
 obtain ⟨a,b,xs,rfl,rfl,ha,hb,q⟩:=h
 cases rx
 cases ry
 obtain ⟨i1,r1,p1,_⟩:=I.list ha
 obtain ⟨i2,r2,p2,_⟩:=I.list hb
 have e2:i2=[]:=by cases r2;rfl
 subst e2
 by_cases hx:xs=[]
 . subst hx
   have e1:i1=[]:=by cases r1;rfl
   subst e1
   refine SeqAt.eq_listAt (e:=fun _=>true) p1.isList p2.isList rfl hu (fun j h1 _=>absurd h1 (by simp)) ⟨.bl true,H,I,rfl,?_⟩
   exact q
 . refine SeqAt.eq_list_lengthsAt p1.isList p2.isList ?_ hu ⟨.bl false,H,I,rfl,?_⟩
   . have:=r1.length
     have hx':xs.length≠0:=fun z=>hx (List.length_eq_zero_iff.mp z)
     have h1:i1≠[]:=fun z=>hx' (by rw [this,z];rfl)
     simpa using h1
   . rw [Dw hx] at q
     exact q
end L2
namespace L2
open PySem
end L2
namespace Be
open PySem L2
def top (i:Nat):Stmt:=PySem.Challenge.pw_benchends_k36_whole_played_and_told.main.body.getD i (.Pass ⟨0,0,0,0⟩)
set_option genInjectivity false in
structure Txt (K:PySem.W.Frag) (mg:Str->Option Value) where
 is_whole_within:aQ K mg "is_whole_within" (top 12) ["thing","least","most"]
 is_pair:aQ K mg "is_pair" (top 13) ["thing"]
 are_bounds_of_work:aQ K mg "are_bounds_of_work" (top 14) ["thing"]
 are_bounds:aQ K mg "are_bounds" (top 15) ["thing"]
 is_world:aQ K mg "is_world" (top 16) ["thing"]
 check_world:aQ K mg "check_world" (top 17) ["world"]
 is_order:aQ K mg "is_order" (top 18) ["world","thing"]
 check_order:aQ K mg "check_order" (top 19) ["world","order"]
 are_lengths:aQ K mg "are_lengths" (top 20) ["world","thing"]
 check_lengths:aQ K mg "check_lengths" (top 21) ["world","lengths"]
 how_many_benches:aQ K mg "how_many_benches" (top 22) ["world"]
 how_many_works:aQ K mg "how_many_works" (top 23) ["world"]
 least_length:aQ K mg "least_length" (top 24) ["world","work"]
 greatest_length:aQ K mg "greatest_length" (top 25) ["world","work"]
 how_many_began:aQ K mg "how_many_began" (top 26) ["world","ends"]
 running:aQ K mg "running" (top 27) ["world","order"]
 begin_event:aQ K mg "begin_event" (top 28) ["world","work"]
 rules_of_ended:aQ K mg "rules_of_ended" (top 30) ["world","work","end"]
 rule_of_running:aQ K mg "rule_of_running" (top 31) ["world","work","last"]
 rules:aQ K mg "rules" (top 32) ["world","order"]
 holds:aQ K mg "holds" (top 33) ["rule","event_moments"]
 walk_most:aQ K mg "walk_most" (top 34) ["told","walk"]
 shorten_walks:aQ K mg "shorten_walks" (top 35) ["told","mosts","firsts"]
 shortest_walks:aQ K mg "shortest_walks" (top 36) ["told","events","goal"]
 walk_by_firsts:aQ K mg "walk_by_firsts" (top 37) ["told","firsts","start","goal"]
 earliest_moments:aQ K mg "earliest_moments" (top 39) ["told","events"]
 could:aQ K mg "could" (top 40) ["world","order"]
 check_could:aQ K mg "check_could" (top 41) ["world","order"]
 taken_up:aQ K mg "taken_up" (top 43) ["world","lengths"]
 played:aQ K mg "played" (top 44) ["world","lengths"]
 how_many_lengths:aQ K mg "how_many_lengths" (top 47) ["world"]
 check_many:aQ K mg "check_many" (top 48) ["world"]
 all_lengths:aQ K mg "all_lengths" (top 49) ["world"]
 greatest_divisor:aQ K mg "greatest_divisor" (top 50) ["one","other"]
 share:aQ K mg "share" (top 51) ["part","whole"]
 chances:aQ K mg "chances" (top 52) ["world"]
 lengths_for:aQ K mg "lengths_for" (top 53) ["world","order"]
 check_work:aQ K mg "check_work" (top 55) ["world","order","work"]
 chain_start:aQ K mg "chain_start" (top 56) ["world","order","work","side"]
 chain_goal:aQ K mg "chain_goal" (top 57) ["world","order","work","side"]
 shortest_chain:aQ K mg "shortest_chain" (top 58) ["world","order","work","side"]
 length:aQ K mg "length" (top 59) ["world","order","work"]
 tighter:aQ K mg "tighter" (top 61) ["world","order"]
 law_cell_at:aQ K mg "_law_cell_at" (top 63) ["_law_script","_law_k"]
 law_mixed:aQ K mg "_law_mixed" (top 64) ["_law_script","_law_k","_law_many"]
 law_draw:aQ K mg "_law_draw" (top 65) ["_law_script","_law_town","_law_many"]
 law_pick:aQ K mg "_law_pick" (top 66) ["_law_script","_law_town","_law_some_here"]
 law_world:aQ K mg "_law_world" (top 67) ["_law_script","_law_town","_law_most","_law_wide"]
 law_some:aQ K mg "_law_some" (top 68) ["_law_script","_law_town","_law_world_here"]
 law:aQ K mg "law" (top 71) ["_law_script"]
 n_all:mg "all"=none
 n_bool:mg "bool"=none
 n_dict:mg "dict"=none
 n_enumerate:mg "enumerate"=none
 n_int:mg "int"=none
 n_isinstance:mg "isinstance"=none
 n_len:mg "len"=none
 n_list:mg "list"=none
 n_max:mg "max"=none
 n_min:mg "min"=none
 n_range:mg "range"=none
 n_set:mg "set"=none
 n_sorted:mg "sorted"=none
 n_sum:mg "sum"=none
 n_tuple:mg "tuple"=none
 n_zip:mg "zip"=none
 c_MOST_BENCHES:∃ t,mg "MOST_BENCHES"=some (.int 4 t)
 c_MOST_WORKS:∃ t,mg "MOST_WORKS"=some (.int 10 t)
 c_MOST_LENGTH:∃ t,mg "MOST_LENGTH"=some (.int 99 t)
 c_MOST_LENGTHS_GONE_THROUGH:∃ t,mg "MOST_LENGTHS_GONE_THROUGH"=some (.int 600 t)
 e_NoWorld:qM K mg "NoWorld"
 e_NoOrder:qM K mg "NoOrder"
 e_NoLengths:qM K mg "NoLengths"
 e_NoWork:qM K mg "NoWork"
 e_Never:qM K mg "Never"
 e_TooMany:qM K mg "TooMany"
theorem eU:av ["thing","least","most"] ["thing","least","most"] (ae (top 12)):=⟨rfl,rfl,rfl,by decide+kernel,rfl,by decide+kernel,by decide+kernel⟩
theorem p9:av ["thing"] ["thing"] (ae (top 13)):=⟨rfl,rfl,rfl,by decide+kernel,rfl,by decide+kernel,by decide+kernel⟩
theorem dr:av ["thing"] ["thing"] (ae (top 14)):=⟨rfl,rfl,rfl,by decide+kernel,rfl,by decide+kernel,by decide+kernel⟩
theorem jG:av ["thing"] ["thing"] (ae (top 15)):=⟨rfl,rfl,rfl,by decide+kernel,rfl,by decide+kernel,by decide+kernel⟩
theorem nc:av ["thing"] ["thing"] (ae (top 16)):=⟨rfl,rfl,rfl,by decide+kernel,rfl,by decide+kernel,by decide+kernel⟩
theorem iK:av ["world"] ["world"] (ae (top 17)):=⟨rfl,rfl,rfl,by decide+kernel,rfl,by decide+kernel,by decide+kernel⟩
theorem cU:av ["world","thing","ended","ahead","work"] ["world","thing"] (ae (top 18)):=⟨rfl,rfl,rfl,by decide+kernel,rfl,by decide+kernel,by decide+kernel⟩
theorem iL:av ["world","order"] ["world","order"] (ae (top 19)):=⟨rfl,rfl,rfl,by decide+kernel,rfl,by decide+kernel,by decide+kernel⟩
theorem iP:av ["world","thing"] ["world","thing"] (ae (top 20)):=⟨rfl,rfl,rfl,by decide+kernel,rfl,by decide+kernel,by decide+kernel⟩
theorem gv:av ["world","lengths"] ["world","lengths"] (ae (top 21)):=⟨rfl,rfl,rfl,by decide+kernel,rfl,by decide+kernel,by decide+kernel⟩
theorem d7:av ["world"] ["world"] (ae (top 22)):=⟨rfl,rfl,rfl,by decide+kernel,rfl,by decide+kernel,by decide+kernel⟩
theorem fJ:av ["world"] ["world"] (ae (top 23)):=⟨rfl,rfl,rfl,by decide+kernel,rfl,by decide+kernel,by decide+kernel⟩
theorem ie:av ["world","work"] ["world","work"] (ae (top 24)):=⟨rfl,rfl,rfl,by decide+kernel,rfl,by decide+kernel,by decide+kernel⟩
theorem eV:av ["world","work"] ["world","work"] (ae (top 25)):=⟨rfl,rfl,rfl,by decide+kernel,rfl,by decide+kernel,by decide+kernel⟩
theorem fK:av ["world","ends"] ["world","ends"] (ae (top 26)):=⟨rfl,rfl,rfl,by decide+kernel,rfl,by decide+kernel,by decide+kernel⟩
theorem p8:av ["world","order"] ["world","order"] (ae (top 27)):=⟨rfl,rfl,rfl,by decide+kernel,rfl,by decide+kernel,by decide+kernel⟩
theorem iO:av ["world","work"] ["world","work"] (ae (top 28)):=⟨rfl,rfl,rfl,by decide+kernel,rfl,by decide+kernel,by decide+kernel⟩
theorem cP:av ["world","work","end","begin"] ["world","work","end"] (ae (top 30)):=⟨rfl,rfl,rfl,by decide+kernel,rfl,by decide+kernel,by decide+kernel⟩
theorem eS:av ["world","work","last"] ["world","work","last"] (ae (top 31)):=⟨rfl,rfl,rfl,by decide+kernel,rfl,by decide+kernel,by decide+kernel⟩
theorem eR:av ["world","order","told","ahead","work"] ["world","order"] (ae (top 32)):=⟨rfl,rfl,rfl,by decide+kernel,rfl,by decide+kernel,by decide+kernel⟩
theorem vq:av ["rule","event_moments"] ["rule","event_moments"] (ae (top 33)):=⟨rfl,rfl,rfl,by decide+kernel,rfl,by decide+kernel,by decide+kernel⟩
theorem kS:av ["told","walk"] ["told","walk"] (ae (top 34)):=⟨rfl,rfl,rfl,by decide+kernel,rfl,by decide+kernel,by decide+kernel⟩
theorem bO:av ["told","mosts","firsts","place","rule","onward"] ["told","mosts","firsts"] (ae (top 35)):=⟨rfl,rfl,rfl,by decide+kernel,rfl,by decide+kernel,by decide+kernel⟩
theorem bJ:av ["told","events","goal","mosts","firsts","event"] ["told","events","goal"] (ae (top 36)):=⟨rfl,rfl,rfl,by decide+kernel,rfl,by decide+kernel,by decide+kernel⟩
theorem bI:av ["told","firsts","start","goal","found","event"] ["told","firsts","start","goal"] (ae (top 37)):=⟨rfl,rfl,rfl,by decide+kernel,rfl,by decide+kernel,by decide+kernel⟩
theorem d8:av ["told","events"] ["told","events"] (ae (top 39)):=⟨rfl,rfl,rfl,by decide+kernel,rfl,by decide+kernel,by decide+kernel⟩
theorem jC:av ["world","order","told","earliest"] ["world","order"] (ae (top 40)):=⟨rfl,rfl,rfl,by decide+kernel,rfl,by decide+kernel,by decide+kernel⟩
theorem iM:av ["world","order"] ["world","order"] (ae (top 41)):=⟨rfl,rfl,rfl,by decide+kernel,rfl,by decide+kernel,by decide+kernel⟩
theorem bX:av ["world","lengths","free_from","told","length","bench","begin"] ["world","lengths"] (ae (top 43)):=⟨rfl,rfl,rfl,by decide+kernel,rfl,by decide+kernel,by decide+kernel⟩
theorem kU:av ["world","lengths","ends"] ["world","lengths"] (ae (top 44)):=⟨rfl,rfl,rfl,by decide+kernel,rfl,by decide+kernel,by decide+kernel⟩
theorem bf:av ["world","many","work"] ["world"] (ae (top 47)):=⟨rfl,rfl,rfl,by decide+kernel,rfl,by decide+kernel,by decide+kernel⟩
theorem jE:av ["world"] ["world"] (ae (top 48)):=⟨rfl,rfl,rfl,by decide+kernel,rfl,by decide+kernel,by decide+kernel⟩
theorem aW:av ["world","found","work","lengths_of_work","longer","lengths"] ["world"] (ae (top 49)):=⟨rfl,rfl,rfl,by decide+kernel,rfl,by decide+kernel,by decide+kernel⟩
theorem bh:av ["one","other","rest"] ["one","other"] (ae (top 50)):=⟨rfl,rfl,rfl,by decide+kernel,rfl,by decide+kernel,by decide+kernel⟩
theorem oz:av ["part","whole","divisor"] ["part","whole"] (ae (top 51)):=⟨rfl,rfl,rfl,by decide+kernel,rfl,by decide+kernel,by decide+kernel⟩
theorem dN:av ["world","counts","lengths","order"] ["world"] (ae (top 52)):=⟨rfl,rfl,rfl,by decide+kernel,rfl,by decide+kernel,by decide+kernel⟩
theorem iI:av ["world","order"] ["world","order"] (ae (top 53)):=⟨rfl,rfl,rfl,by decide+kernel,rfl,by decide+kernel,by decide+kernel⟩
theorem jD:av ["world","order","work"] ["world","order","work"] (ae (top 55)):=⟨rfl,rfl,rfl,by decide+kernel,rfl,by decide+kernel,by decide+kernel⟩
theorem iN:av ["world","order","work","side"] ["world","order","work","side"] (ae (top 56)):=⟨rfl,rfl,rfl,by decide+kernel,rfl,by decide+kernel,by decide+kernel⟩
theorem jF:av ["world","order","work","side"] ["world","order","work","side"] (ae (top 57)):=⟨rfl,rfl,rfl,by decide+kernel,rfl,by decide+kernel,by decide+kernel⟩
theorem aY:av ["world","order","work","side","told","start","goal","firsts"] ["world","order","work","side"] (ae (top 58)):=⟨rfl,rfl,rfl,by decide+kernel,rfl,by decide+kernel,by decide+kernel⟩
theorem eT:av ["world","order","work","told","least","most"] ["world","order","work"] (ae (top 59)):=⟨rfl,rfl,rfl,by decide+kernel,rfl,by decide+kernel,by decide+kernel⟩
theorem fI:av ["world","order","bounds","work"] ["world","order"] (ae (top 61)):=⟨rfl,rfl,rfl,by decide+kernel,rfl,by decide+kernel,by decide+kernel⟩
theorem iJ:av ["_law_script","_law_k"] ["_law_script","_law_k"] (ae (top 63)):=⟨rfl,rfl,rfl,by decide+kernel,rfl,by decide+kernel,by decide+kernel⟩
theorem fU:av ["_law_script","_law_k","_law_many","_law_drawn"] ["_law_script","_law_k","_law_many"] (ae (top 64)):=⟨rfl,rfl,rfl,by decide+kernel,rfl,by decide+kernel,by decide+kernel⟩
theorem mZ:av ["_law_script","_law_town","_law_many"] ["_law_script","_law_town","_law_many"] (ae (top 65)):=⟨rfl,rfl,rfl,by decide+kernel,rfl,by decide+kernel,by decide+kernel⟩
theorem mY:av ["_law_script","_law_town","_law_some_here"] ["_law_script","_law_town","_law_some_here"] (ae (top 66)):=⟨rfl,rfl,rfl,by decide+kernel,rfl,by decide+kernel,by decide+kernel⟩
theorem bQ:av ["_law_script","_law_town","_law_most","_law_wide","_law_made","_law_top","_law_k","_law_low"] ["_law_script","_law_town","_law_most","_law_wide"] (ae (top 67)):=⟨rfl,rfl,rfl,by decide+kernel,rfl,by decide+kernel,by decide+kernel⟩
theorem mX:av ["_law_script","_law_town","_law_world_here"] ["_law_script","_law_town","_law_world_here"] (ae (top 68)):=⟨rfl,rfl,rfl,by decide+kernel,rfl,by decide+kernel,by decide+kernel⟩
theorem dj:av ["_law_script","_law_town","_law_world_here","_law_some_here","_law_order_here","_law_last","_law_k","_law_rows","_law_bounds","_law_row","_law_share"] ["_law_script"] (ae (top 71)):=⟨rfl,rfl,rfl,by decide+kernel,rfl,by decide+kernel,by decide+kernel⟩
end Be
namespace Be
structure Wd where
 b:Int
 bs:List (Int×Int)
structure Wd.Ok (W:Wd):Prop where
 b1:1<=W.b
 b4:W.b<=4
 l1:1<=W.bs.length
 l10:W.bs.length<=10
 bd:∀ p∈W.bs,1<=p.1/\p.1<=p.2/\p.2<=99
def b9 (W:Wd) (n:Nat):Nat:=(min (W.bs.length:Int) (n+W.b)).toNat
def hG (n:Nat):List Int:=(List.range n).map fun (k:Nat)=>(k:Int)
def kX (W:Wd) (o:List Int):List Int:=(hG (b9 W o.length)).filter fun x=>decide (x∉o)
def bnd (W:Wd) (x:Int):Int×Int:=W.bs.getD x.toNat (0,0)
def bg (W:Wd) (x:Int):Int:=if x<W.b then 0 else x-W.b+1
abbrev Ru:=Int×Int×Int
def d9 (W:Wd) (j:Nat) (x:Int):List Ru:=[((j:Int)+1,bg W x,(bnd W x).2),(bg W x,(j:Int)+1,-(bnd W x).1),((j:Int),(j:Int)+1,0)]
def aV (W:Wd) (o:List Int) (i:Nat):List Ru:=(List.range i).flatMap fun j=>d9 W j (o.getD j 0)
def dZ (W:Wd) (n:Nat) (x:Int):Ru:=((n:Int),bg W x,(bnd W x).2)
def ao (W:Wd) (o:List Int):List Ru:=aV W o o.length++(kX W o).map (dZ W o.length)
structure VO (W:Wd) (o:List Int):Prop where
 nd:o.Nodup
 at_:∀ (i:Nat) (x:Int),o[i]? =some x->0<=x/\x<(b9 W i:Int)
theorem kG (n:Nat):hG (n+1)=hG n++[(n:Int)]:=by unfold hG;rw [List.range_succ,DR];rfl
theorem fg {n:Nat} {x:Int}:x∈hG n ↔ 0<=x/\x<(n:Int):=by
 unfold hG
 rw [DM]
 constructor
 . rintro ⟨k,hk,rfl⟩
   have:=DQ.mp hk
   omega
 . rintro ⟨h1,h2⟩
   exact ⟨x.toNat,DQ.mpr (by omega),by omega⟩
theorem eK (n:Nat):(hG n).length=n:=by unfold hG;rw [Da,DZ]
theorem i4:∀ n:Nat,(hG n).Nodup
 | 0=>List.nodup_nil
 | n+1=>by
  rw [kG,List.nodup_append]
  refine ⟨i4 n,by simp,fun a ha b hb e=>?_⟩
  have h1:=fg.mp ha
  have h2:=D5.mp hb
  omega
theorem jU:∀ {l1 l2:List Int},l1.Nodup->(∀ x∈l1,x∈l2)->l1.length<=l2.length
 | [],_,_,_=>DD _
 | a::r,l2,h,s=>by
  have ha:a∈l2:=s a Dx
  have hn:=EB.mp h
  have ih:=jU (l1:=r) (l2:=l2.erase a) hn.2 fun x hx=>by
   have hne:x≠a:=fun e=>hn.1 (e ▸ hx)
   exact (List.mem_erase_of_ne hne).mpr (s x (Dk _ hx))
  rw [List.length_erase_of_mem ha] at ih
  have:0<l2.length:=List.length_pos_of_mem ha
  rw [DF]
  omega
theorem bT (W:Wd) (n:Nat):b9 W n<=W.bs.length:=by unfold b9;omega
theorem ck {W:Wd} {o:List Int} {x:Int}:x∈kX W o ↔ (0<=x/\x<(b9 W o.length:Int))/\x∉o:=by
 unfold kX
 rw [List.mem_filter,fg,decide_eq_true_iff]
theorem rV (W:Wd) (o:List Int):(kX W o).length<=W.bs.length:=by
 unfold kX
 refine DP (List.length_filter_le _ _) ?_
 rw [eK]
 exact bT W _
theorem VO.nil (W:Wd):VO W []:=⟨List.nodup_nil,fun i x e=>by simp at e⟩
theorem VO.snoc {W:Wd} {o:List Int} {x:Int} (h:VO W o) (hx:x∈kX W o):VO W (o++[x]):=by
 obtain ⟨⟨a,b⟩,c⟩:=ck.mp hx
 refine ⟨?_,fun i y e=>?_⟩
 . rw [List.nodup_append]
   refine ⟨h.nd,by simp,fun p hp r hr z=>?_⟩
   have:=D5.mp hr
   subst this
   exact c (z ▸ hp)
 . by_cases hi:i<o.length
   . rw [DL hi] at e
     exact h.at_ i y e
   . have hi':i=o.length:=by
       have:=(Db.mp e).1
       rw [Dm,List.length_singleton] at this
       omega
     subst hi'
     rw [DH (Dh _),Nat.sub_self] at e
     cases e
     exact ⟨a,b⟩
theorem VO.lt {W:Wd} {o:List Int} (h:VO W o) {x:Int} (hx:x∈o):0<=x/\x<(W.bs.length:Int):=by
 obtain ⟨i,hi,e⟩:=List.getElem_of_mem hx
 have:=h.at_ i x (by rw [C7 hi,e])
 have:=bT W i
 omega
theorem VO.len {W:Wd} {o:List Int} (h:VO W o):o.length<=W.bs.length:=by
 have:=jU (l2:=hG W.bs.length) h.nd fun x hx=>fg.mpr (h.lt hx)
 rwa [eK] at this
theorem cr (W:Wd) (o:List Int) (i:Nat):aV W o (i+1)=aV W o i++d9 W i (o.getD i 0):=by
 unfold aV
 rw [List.range_succ,List.flatMap_append]
 simp
theorem aS (W:Wd) (o:List Int):∀ i:Nat,(aV W o i).length=3*i
 | 0=>rfl
 | i+1=>by
  rw [cr,Dm,aS W o i]
  show 3*i+3=3*(i+1)
  omega
end Be
namespace L2
open PySem PySem.Spec PyProof.Rows
section
variable {X:Cx} {pins:List (Addr×Obj)} {σ:St} {H:Hp} {s:Shared} {h':Heap}
theorem Inv.turnedL {t':Nat} {ch:List Addr} {T:Addr} {o:HO} (I:Inv X pins σ H s) (k:∀ b u,b∉ch->s.heap.get? b=some u->h'.get? b=some u) (f:∀ b∈ch,pL X pins H b) (hp:s.heap.objs.size<=T)
    (new:bC X.prog X.w (upd H T o) h' T o):Inv X pins σ (upd H T o) { s with heap:=h',toks:=t' }:=by
 have hT:H T=none:=I.hok.fresh hp
 have old:∀ b u,s.heap.get? b=some u->b≠T:=fun b u q=>DC (Do (Dp q) hp)
 have up:∀ b u,H b=some u->upd H T o b=some u:=fun b u q=>by rw [aA (aZ q hT)];exact q
 have nin:∀ b u,H b=some u->b∉ch:=fun b u q z=>by rw [(f b z).1] at q;cases q
 refine I.step (g':=s.gens) (d':=s.drawn) (ch:=ch) (fun b hb=>?_) (fun b u _ _ hc q _=>k b u hc q) (fun b u _ _ hc q _=>⟨u.slots,k b u hc q⟩) (fun b u hc q n=>by rw [aA (old b u q)];exact n)
  (fun b u hc q=>⟨u,k b u hc q⟩) (fun b xs q=>up b _ q) (fun b u v q=>up b _ q) (fun b ps q=>⟨#[],by rw [up b _ q];simp⟩) (fun m hm=>?_) (fun b u q=>?_) I.bare
 . have f1:=f b hb
   exact ⟨f1.2.2.2.1,f1.2.1,f1.2.2.2.2.1,f1.2.2.2.2.2⟩
 . obtain ⟨u,es,ep,hu,r⟩:=hm
   exact ⟨u,es,ep,k _ u (fun z=>(f _ z).2.1 rfl) hu,r⟩
 . by_cases z:b=T
   . subst z
     rw [ah] at q
     cases q
     exact new
   . rw [aA z] at q
     refine (I.hok b u q).stay (fun c v hc r=>k c v ?_ r) (fun c r=>up c _ r) fun c xs r=>up c _ r
     rcases hc with hc | hc
     . rw [hc];exact nin b u q
     . exact nin c _ hc
theorem Inv.turnedD {t':Nat} {ch:List Addr} (I:Inv X pins σ H s) (k:∀ b u,b∉ch->s.heap.get? b=some u->h'.get? b=some u) (f:∀ b∈ch,pL X pins H b):Inv X pins σ H { s with heap:=h',toks:=t' }:=by
 have nin:∀ b u,H b=some u->b∉ch:=fun b u q z=>by rw [(f b z).1] at q;cases q
 refine I.step (g':=s.gens) (d':=s.drawn) (ch:=ch) (fun b hb=>?_) (fun b u _ _ hc q _=>k b u hc q) (fun b u _ _ hc q _=>⟨u.slots,k b u hc q⟩) (fun b u hc q n=>n)
  (fun b u hc q=>⟨u,k b u hc q⟩) (fun b xs q=>q) (fun b u v q=>q) (fun b ps q=>⟨#[],by rw [q];simp⟩) (fun m hm=>?_) (fun b u q=>?_) I.bare
 . have f1:=f b hb
   exact ⟨f1.2.2.2.1,f1.2.1,f1.2.2.2.2.1,f1.2.2.2.2.2⟩
 . obtain ⟨u,es,ep,hu,r⟩:=hm
   exact ⟨u,es,ep,k _ u (fun z=>(f _ z).2.1 rfl) hu,r⟩
 . refine (I.hok b u q).stay (fun c v hc r=>k c v ?_ r) (fun c r=>r) fun c xs r=>r
   rcases hc with hc | hc
   . rw [hc];exact nin b u q
   . exact nin c _ hc
end
theorem uW {P:Program} {w:World} {H:Hp} {h:Heap} {T:Addr} {v v':V} {u u':Value} (ht:h.get? T=some { cls:=.type "tuple",data:=.seq #[u,u'] }) (r:bB v u) (r':bB v' u'):bC P w H h T (.tup [v,v']):=
 ⟨by show 2<=sizeLine;decide,[u,u'],.cons r (.cons r' .nil),⟨_,ht,rfl,rfl,_,rfl⟩⟩
section
variable {X:Cx} {es:List Expr} {ek:Nat} {tpos:Pos}
theorem bR {g:TG} {tt:TT} {te:TE} {τ:St} {D:Addr} {H1:Hp} {R:Hp->Prop} {K:PySem.W.Frag} {a:Addr} {xs:List V} (Pv:Nat->List V->Hp->Prop) (h0:Pv 0 [] (upd H1 D (.lst []))) (hl:∀ i ys H,i<=xs.length->Pv i ys H->SqL K H a xs)
    (hs:∀ i ys x H,xs[i]? =some x->Pv i ys H->d6 g tt te τ D ys (Pv (i+1)) x H) (hd:∀ ys H,Pv xs.length ys H->R H):
    ∃ W:Nat->Nat->List V->Hp->Prop,(∃ m,W 0 m [] (upd H1 D (.lst [])))/\∀ i m ys H,W i m ys H->((Itl K a).stop i H/\R H)\/((Itl K a).go i H/\∃ N:List V->Hp->Prop,(∀ ys' H',N ys' H'->∃ m',m'<m/\W (i+1) m' ys' H')/\∀ x H',(Itl K a).yld i H x H'->d6 g tt te τ D ys N x H'):=
 uo (Q:=fun _ H=>R H) Pv h0 hl hs hd
end
end L2
namespace BE
open PySem PySem.Spec PyProof.Rows
def SIt (k:Bool) (h:Heap) (it l:Addr) (i:Nat):Prop:=match k with
 | true=>h.IsTupleIter it l i
 | false=>h.IsListIter it l i
def SSq (k:Bool) (h:Heap) (l:Addr) (xs:Array Value):Prop:=match k with
 | true=>h.IsTuple l xs
 | false=>h.IsList l xs
def BY (k:Bool):String:=match k with
 | true=>"tuple_iterator"
 | false=>"list_iterator"
def qk (k:Bool) (l:Addr):Obj:={ cls:=.type (BY k),data:=.fields #[.ref l,.int 0 0] }
theorem SIt.ex {k:Bool} {h:Heap} {it l:Addr} {i:Nat} (x:SIt k h it l i):∃ o,h.get? it=some o/\∀ v,o.data≠.cell v:=by
 cases k with
 | true=>obtain ⟨o,e,_,d⟩:=x;exact ⟨o,e,fun v q=>by rw [d] at q;cases q⟩
 | false=>obtain ⟨o,e,_,d⟩:=x;exact ⟨o,e,fun v q=>by rw [d] at q;cases q⟩
theorem SIt.mv {k:Bool} {h h':Heap} {it l:Addr} {i:Nat} (x:SIt k h it l i) (e:∀ o,h.get? it=some o->h'.get? it=some o):SIt k h' it l i:=by
 cases k with
 | true=>exact Heap.IsTupleIter.at x e
 | false=>exact Heap.IsListIter.at x e
theorem SSq.mv {k:Bool} {h h':Heap} {l:Addr} {xs:Array Value} (x:SSq k h l xs) (e:∀ o,h.get? l=some o->h'.get? l=some o):SSq k h' l xs:=by
 cases k with
 | true=>obtain ⟨o,ho,r⟩:=x;exact ⟨o,e o ho,r⟩
 | false=>obtain ⟨o,ho,r⟩:=x;exact ⟨o,e o ho,r⟩
theorem SSq.lt {k:Bool} {h:Heap} {l:Addr} {xs:Array Value} (x:SSq k h l xs):l<h.objs.size:=by
 cases k with
 | true=>obtain ⟨o,ho,_⟩:=x;exact Dp ho
 | false=>obtain ⟨o,ho,_⟩:=x;exact Dp ho
theorem SIt.start {k:Bool} {h:Heap} {it l:Addr} (e:h.get? it=some (qk k l)):SIt k h it l 0:=by
 cases k with
 | true=>exact ⟨_,e,rfl,rfl⟩
 | false=>exact ⟨_,e,rfl,rfl⟩
section
variable {prog:Program} {w:World} {A:Around} {E:Value->Shared->Prop} {s:Shared}
theorem yc {k:Bool} {it l:Addr} {i:Nat} {xs:Array Value} {x:Value} {Q:Value->Shared->Prop} (st:SIt k s.heap it l i) (sq:SSq k s.heap l xs) (hx:xs[i]? =some x)
    (q:∀ h',SIt k h' it l (i+1)->Heap.SameBut it s.heap h'->Q x { s with heap:=h' }):wpAny (model prog w) A (Builtin.SmallTypes.nextOf (.ref it)) Q E s:=by
 cases k with
 | true=>exact jd st sq hx q
 | false=>exact wpAny_nextOf_list_item st sq hx q
theorem lE {k:Bool} {it l:Addr} {i:Nat} {xs:Array Value} {Q:Value->Shared->Prop} (hh:A.handled=none) (st:SIt k s.heap it l i) (sq:SSq k s.heap l xs) (hx:xs[i]? =none)
    (q:∀ h' e,Heap.ExtBut it s.heap h'->(∃ o,h'.get? e=some o/\o.cls=.type "StopIteration")->E (.ref e) { s with heap:=h' }):wpAny (model prog w) A (Builtin.SmallTypes.nextOf (.ref it)) Q E s:=by
 cases k with
 | true=>exact cK hh st sq hx q
 | false=>exact wpAny_nextOf_list_end hh st sq hx q
theorem Av {k:Bool} {l:Addr} {xs:Array Value} {Q:Value->Shared->Prop} (sq:SSq k s.heap l xs) (q:Q (.ref s.heap.objs.size) { s with heap:=s.heap.push (qk k l) }):wpAny (model prog w) A (pyIter (.ref l)) Q E s:=by
 cases k with
 | true=>exact wpAny_pyIter_tuple sq q
 | false=>exact wpAny_pyIter_list sq q
theorem qS {k1 k2:Bool} {zp jn ot i1 i2 l1 l2:Addr} {n1 n2:Nat} {xs ys:Array Value} {x y a b:Value} {Q:Value->Shared->Prop} (D:ZipApart zp jn ot i1 i2 l1 l2)
    (zz:IsZip s.heap zp jn ot .none) (zI:IsPair s.heap jn (.ref i1) (.ref i2)) (zO:IsPair s.heap ot a b)
    (t1:SIt k1 s.heap i1 l1 n1) (t2:SIt k2 s.heap i2 l2 n2) (s1:SSq k1 s.heap l1 xs) (s2:SSq k2 s.heap l2 ys) (hx:xs[n1]? =some x) (hy:ys[n2]? =some y)
    (q:∀ h',IsZip h' zp jn ot (rawInt s.heap.objs.size)->IsPair h' ot x y->SIt k1 h' i1 l1 (n1+1)->SIt k2 h' i2 l2 (n2+1)->IsPair h' s.heap.objs.size x y->h'.objs.size=s.heap.objs.size+1->
     (∀ c o,c≠zp->c≠ot->c≠i1->c≠i2->s.heap.get? c=some o->h'.get? c=some o)->Q (.ref s.heap.objs.size) { s with heap:=h' }):
    wpAny (model prog w) A (Builtin.«zip.__next__» ⟨[.ref zp],[]⟩) (fun fin s'=>∃ v,fin=.done (.ret v)/\Q v s') E s:=by
 show wpAny _ _ (field (.ref zp) 2>>=_) _ _ _
 refine C8 (Eu zz rfl (x:=.bool false) rfl ?_)
 show wpAny _ _ (field (.ref zp) 3>>=_) _ _ _
 refine C8 (Eu zz rfl (x:=.ref jn) rfl ?_)
 refine C8 (wpAny_seqItems zI rfl ?_)
 show wpAny _ _ (Builtin.SmallTypes.ownedTupleIsFree (.ref zp)>>=_) _ _ _
 refine C8 ?_;unfold Builtin.SmallTypes.ownedTupleIsFree
 refine C8 (Eu zz rfl (x:=.none) rfl (Df ?_))
 simp only [if_true]
 refine C8 (wpAny_rule ?_)
 refine C8 (Eu zz rfl (x:=.ref ot) rfl ?_)
 refine C8 (wpAny_setField_rec zz (by simp) fun g1 y1 b1=>?_)
 replace y1:IsZip g1 zp jn ot .ellipsis:=y1
 refine C8 ?_;simp only [List.forIn_cons,List.forIn_nil,List.zipIdx_cons,List.zipIdx_nil];refine C8 (C8 (wpAny_onRaise ?_))
 show wpAny _ _ (Builtin.SmallTypes.nextOf (.ref i1)>>=_) _ _ _
 refine C8 (yc (t1.mv fun o e=>b1.extBut _ o D.i1z e) (s1.mv fun o e=>b1.extBut _ o D.l1z e) hx fun g2 u2 b2=>Df ?_)
 have w2:IsPair g2 ot a b:=b2.extBut _ _ D.TOi1 (b1.extBut _ _ D.TOz zO)
 refine C8 (wpAny_seqItems w2 rfl ?_)
 refine C8 (wpAny_updateSeq_pair w2 fun g3 w3 b3=>?_)
 replace w3:IsPair g3 ot x b:=w3
 refine C8 (wpAny_letGo (Df (C8 (C8 (wpAny_onRaise ?_)))))
 show wpAny _ _ (Builtin.SmallTypes.nextOf (.ref i2)>>=_) _ _ _
 refine C8 (yc (t2.mv fun o e=>b3.extBut _ o D.TOi2.symm (b2.extBut _ o D.i12.symm (b1.extBut _ o D.i2z e))) (s2.mv fun o e=>b3.extBut _ o D.l2TO (b2.extBut _ o D.l2i1 (b1.extBut _ o D.l2z e))) hy fun g4 u4 b4=>Df ?_)
 have w4:IsPair g4 ot x b:=b4.extBut _ _ D.TOi2 w3
 refine C8 (wpAny_seqItems w4 rfl ?_)
 refine C8 (wpAny_updateSeq_pair w4 fun g5 w5 b5=>?_)
 replace w5:IsPair g5 ot x y:=w5
 refine C8 (wpAny_letGo (Df (Df ?_)))
 refine C8 (wpAny_seqItems w5 rfl ?_)
 refine C8 (wpAny_newTuple ?_)
 have sz:g5.objs.size=s.heap.objs.size:=by rw [b5.1,b4.1,b3.1,b2.1,b1.1]
 have y5:IsZip g5 zp jn ot .ellipsis:=b5.extBut _ _ D.TOz.symm (b4.extBut _ _ D.i2z.symm (b3.extBut _ _ D.TOz.symm (b2.extBut _ _ D.i1z.symm y1)))
 have k5:∀ c o,c≠zp->c≠ot->c≠i1->c≠i2->s.heap.get? c=some o->g5.get? c=some o:=fun c o c1 c2 c3 c4 e=>
  b5.extBut _ _ c2 (b4.extBut _ _ c4 (b3.extBut _ _ c2 (b2.extBut _ _ c3 (b1.extBut _ _ c1 e))))
 have v1:SIt k1 g5 i1 l1 (n1+1):=u2.mv fun o e=>b5.extBut _ o D.TOi1.symm (b4.extBut _ o D.i12 (b3.extBut _ o D.TOi1.symm e))
 have v2:SIt k2 g5 i2 l2 (n2+1):=u4.mv fun o e=>b5.extBut _ o D.TOi2.symm e
 have zlt:zp<g5.objs.size:=Dp y5
 show wpAny _ _ (Builtin.SmallTypes.ownedTupleHandOut (.ref zp) (.ref g5.objs.size)>>=_) _ _ _
 refine C8 ?_;unfold Builtin.SmallTypes.ownedTupleHandOut
 have y6:IsZip (g5.push { cls:=.type "tuple",data:=.seq #[x,y] }) zp jn ot .ellipsis:=Dd _ y5
 refine C8 (wpAny_setField_rec y6 (by simp) fun g7 y7 b7=>?_)
 replace y7:IsZip g7 zp jn ot (rawInt g5.objs.size):=y7
 refine wpAny_setField_rec y7 (by simp) fun g8 y8 b8=>?_
 replace y8:IsZip g8 zp jn ot (rawInt g5.objs.size):=y8
 have up:∀ c o,c≠zp->g5.get? c=some o->g8.get? c=some o:=fun c o c1 e=>b8.extBut _ _ c1 (b7.extBut _ _ c1 (Dd _ e))
 have w8:IsPair g8 g5.objs.size x y:=b8.extBut _ _ (Nat.ne_of_gt zlt) (b7.extBut _ _ (Nat.ne_of_gt zlt) (Ds _ rfl))
 have z8:g8.objs.size=g5.objs.size+1:=by rw [b8.1,b7.1,Et]
 rw [sz] at y8 w8 z8
 refine Df ⟨_,rfl,?_⟩
 show Q (.ref g5.objs.size) _
 rw [sz]
 exact q g8 y8 (up _ _ D.TOz w5) (v1.mv fun o e=>up _ o D.i1z e) (v2.mv fun o e=>up _ o D.i2z e) w8 z8 fun c o c1 c2 c3 c4 e=>up c o c1 (k5 c o c1 c2 c3 c4 e)
theorem uP {k1 k2:Bool} {zp jn ot i1 i2 l1 l2:Addr} {n1 n2:Nat} {xs ys:Array Value} {a b:Value} {Q:Fin->Shared->Prop} (hh:A.handled=none) (D:ZipApart zp jn ot i1 i2 l1 l2)
    (zz:IsZip s.heap zp jn ot .none) (zI:IsPair s.heap jn (.ref i1) (.ref i2)) (zO:IsPair s.heap ot a b)
    (t1:SIt k1 s.heap i1 l1 n1) (t2:SIt k2 s.heap i2 l2 n2) (s1:SSq k1 s.heap l1 xs) (s2:SSq k2 s.heap l2 ys) (hend:xs[n1]? =none\/ys[n2]? =none)
    (q:∀ h' e,(∀ c o,c≠zp->c≠ot->c≠i1->c≠i2->s.heap.get? c=some o->h'.get? c=some o)->(∃ o,h'.get? e=some o/\o.cls=.type "StopIteration")->E (.ref e) { s with heap:=h' }):
    wpAny (model prog w) A (Builtin.«zip.__next__» ⟨[.ref zp],[]⟩) Q E s:=by
 show wpAny _ _ (field (.ref zp) 2>>=_) _ _ _
 refine C8 (Eu zz rfl (x:=.bool false) rfl ?_)
 show wpAny _ _ (field (.ref zp) 3>>=_) _ _ _
 refine C8 (Eu zz rfl (x:=.ref jn) rfl ?_)
 refine C8 (wpAny_seqItems zI rfl ?_)
 show wpAny _ _ (Builtin.SmallTypes.ownedTupleIsFree (.ref zp)>>=_) _ _ _
 refine C8 ?_;unfold Builtin.SmallTypes.ownedTupleIsFree
 refine C8 (Eu zz rfl (x:=.none) rfl (Df ?_))
 simp only [if_true]
 refine C8 (wpAny_rule ?_)
 refine C8 (Eu zz rfl (x:=.ref ot) rfl ?_)
 refine C8 (wpAny_setField_rec zz (by simp) fun g1 y1 b1=>?_)
 replace y1:IsZip g1 zp jn ot .ellipsis:=y1
 refine C8 ?_;simp only [List.forIn_cons,List.forIn_nil,List.zipIdx_cons,List.zipIdx_nil];refine C8 (C8 (wpAny_onRaise ?_))
 show wpAny _ _ (Builtin.SmallTypes.nextOf (.ref i1)>>=_) _ _ _
 cases hx:xs[n1]? with
 | none=>
  refine C8 (lE hh (t1.mv fun o e=>b1.extBut _ o D.i1z e) (s1.mv fun o e=>b1.extBut _ o D.l1z e) hx fun g2 e b2 he=>?_)
  obtain ⟨oe,hoe,hce⟩:=he
  have y2:IsZip g2 zp jn ot .ellipsis:=b2 _ _ D.i1z.symm y1
  have ez:e≠zp:=fun x=>by subst x;rw [y2] at hoe;cases hoe;simp at hce
  refine wpAny_setField_rec y2 (by simp) fun g3 _ b3=>q g3 e (fun c o c1 _ c3 _ x=>b3.extBut _ _ c1 (b2 _ _ c3 (b1.extBut _ _ c1 x))) ⟨oe,b3.extBut _ _ ez hoe,hce⟩
 | some x=>
  have hy:ys[n2]? =none:=by rcases hend with h | h;rw [hx] at h;cases h;exact h
  refine C8 (yc (t1.mv fun o e=>b1.extBut _ o D.i1z e) (s1.mv fun o e=>b1.extBut _ o D.l1z e) hx fun g2 u2 b2=>Df ?_)
  have w2:IsPair g2 ot a b:=b2.extBut _ _ D.TOi1 (b1.extBut _ _ D.TOz zO)
  refine C8 (wpAny_seqItems w2 rfl ?_)
  refine C8 (wpAny_updateSeq_pair w2 fun g3 w3 b3=>?_)
  refine C8 (wpAny_letGo (Df (C8 (C8 (wpAny_onRaise ?_)))))
  show wpAny _ _ (Builtin.SmallTypes.nextOf (.ref i2)>>=_) _ _ _
  refine C8 (lE hh (t2.mv fun o e=>b3.extBut _ o D.TOi2.symm (b2.extBut _ o D.i12.symm (b1.extBut _ o D.i2z e))) (s2.mv fun o e=>b3.extBut _ o D.l2TO (b2.extBut _ o D.l2i1 (b1.extBut _ o D.l2z e))) hy fun g4 e b4 he=>?_)
  obtain ⟨oe,hoe,hce⟩:=he
  have y4:IsZip g4 zp jn ot .ellipsis:=b4 _ _ D.i2z.symm (b3.extBut _ _ D.TOz.symm (b2.extBut _ _ D.i1z.symm y1))
  have ez:e≠zp:=fun x=>by subst x;rw [y4] at hoe;cases hoe;simp at hce
  refine wpAny_setField_rec y4 (by simp) fun g5 _ b5=>q g5 e (fun c o c1 c2 c3 c4 x=>b5.extBut _ _ c1 (b4 _ _ c4 (b3.extBut _ _ c2 (b2.extBut _ _ c3 (b1.extBut _ _ c1 x))))) ⟨oe,b5.extBut _ _ ez hoe,hce⟩
theorem nj {k1 k2:Bool} {zp jn ot i1 i2 l1 l2:Addr} {n1 n2:Nat} {xs ys:Array Value} {x y a b:Value} {Q:Option Value->Shared->Prop} (D:ZipApart zp jn ot i1 i2 l1 l2)
    (zz:IsZip s.heap zp jn ot .none) (zI:IsPair s.heap jn (.ref i1) (.ref i2)) (zO:IsPair s.heap ot a b)
    (t1:SIt k1 s.heap i1 l1 n1) (t2:SIt k2 s.heap i2 l2 n2) (s1:SSq k1 s.heap l1 xs) (s2:SSq k2 s.heap l2 ys) (hx:xs[n1]? =some x) (hy:ys[n2]? =some y)
    (q:∀ h',IsZip h' zp jn ot (rawInt s.heap.objs.size)->IsPair h' ot x y->SIt k1 h' i1 l1 (n1+1)->SIt k2 h' i2 l2 (n2+1)->IsPair h' s.heap.objs.size x y->h'.objs.size=s.heap.objs.size+1->
     (∀ c o,c≠zp->c≠ot->c≠i1->c≠i2->s.heap.get? c=some o->h'.get? c=some o)->Q (some (.ref s.heap.objs.size)) { s with heap:=h' }):
    wpAny (model prog w) A (pyNext (.ref zp)) Q E s:=by
 have ty:s.TypeIs (.ref zp) "zip":=⟨_,zz,rfl⟩
 unfold pyNext
 exact C8 (wpAny_attempt (D1 (name:=Str.ofString "__next__") ty F.slot_zip_next
  (D8 F.slot_zip_next ty F.entry_zip_next
   (qS D zz zI zO t1 t2 s1 s2 hx hy fun h' a1 a2 a3 a4 a5 a6 a7=>Df (q h' a1 a2 a3 a4 a5 a6 a7)) (F.args_zip_next_1 _))))
theorem ig {k1 k2:Bool} {zp jn ot i1 i2 l1 l2:Addr} {n1 n2:Nat} {xs ys:Array Value} {a b:Value} {Q:Option Value->Shared->Prop} (hh:A.handled=none) (D:ZipApart zp jn ot i1 i2 l1 l2)
    (zz:IsZip s.heap zp jn ot .none) (zI:IsPair s.heap jn (.ref i1) (.ref i2)) (zO:IsPair s.heap ot a b)
    (t1:SIt k1 s.heap i1 l1 n1) (t2:SIt k2 s.heap i2 l2 n2) (s1:SSq k1 s.heap l1 xs) (s2:SSq k2 s.heap l2 ys) (hend:xs[n1]? =none\/ys[n2]? =none)
    (q:∀ h',(∀ c o,c≠zp->c≠ot->c≠i1->c≠i2->s.heap.get? c=some o->h'.get? c=some o)->Q none { s with heap:=h' }):wpAny (model prog w) A (pyNext (.ref zp)) Q E s:=by
 have ty:s.TypeIs (.ref zp) "zip":=⟨_,zz,rfl⟩
 unfold pyNext
 refine C8 (wpAny_attempt (D1 (name:=Str.ofString "__next__") ty F.slot_zip_next
  (D8 F.slot_zip_next ty F.entry_zip_next (uP hh D zz zI zO t1 t2 s1 s2 hend fun h' e hk he=>?_) (F.args_zip_next_1 _))))
 obtain ⟨o,ho,hc⟩:=he
 refine C8 (wpAny_isInstance (T:="StopIteration") (b:=true) ⟨o,ho,hc⟩ isSubtype_stop ?_)
 exact Df (q _ hk)
end
abbrev zk1 (k1:Bool) (h:Heap) (l1:Addr):Heap:=h.push (qk k1 l1)
abbrev zk2 (k1 k2:Bool) (h:Heap) (l1 l2:Addr):Heap:=(zk1 k1 h l1).push (qk k2 l2)
abbrev zk3 (k1 k2:Bool) (h:Heap) (l1 l2:Addr):Heap:=(zk2 k1 k2 h l1 l2).push { cls:=.type "tuple",data:=.seq #[.ref h.objs.size,.ref (zk1 k1 h l1).objs.size] }
abbrev zk4 (k1 k2:Bool) (h:Heap) (l1 l2:Addr):Heap:=(zk3 k1 k2 h l1 l2).push { cls:=.type "tuple",data:=.seq #[.none,.none] }
abbrev zk5 (k1 k2:Bool) (h:Heap) (l1 l2:Addr):Heap:=(zk4 k1 k2 h l1 l2).push { cls:=.type "zip",data:=.fields #[.none,.bool false,.bool false,.ref (zk2 k1 k2 h l1 l2).objs.size,.ref (zk3 k1 k2 h l1 l2).objs.size] }
theorem SSq.push {k:Bool} {h:Heap} {l:Addr} {xs:Array Value} (x:SSq k h l xs) (o:Obj):SSq k (h.push o) l xs:=x.mv fun _ e=>Dd _ e
theorem qe (k1 k2:Bool) (l1 l2:Addr) (xs ys:Array Value):
    Meets (Builtin.«zip.__new__» ⟨[.type "zip",.ref l1,.ref l2],[]⟩) (fun _ R s=>SSq k1 s.heap l1 xs/\SSq k2 s.heap l2 ys/\
     R (.ok (.ret (.ref (zk4 k1 k2 s.heap l1 l2).objs.size))) { s with heap:=zk5 k1 k2 s.heap l1 l2 }):=
 .of_wp fun prog w A R s h=>by
  obtain ⟨hp,g,d,tk,os⟩:=s;obtain ⟨hq1,hq2,h⟩:=h
  have sub0:=sub_zip
  have hA:SSq k1 (Shared.heap ⟨hp,g,d,tk,os⟩) l1 xs:=hq1
  have hB:SSq k2 (Shared.heap ⟨hp.push (qk k1 l1),g,d,tk,os⟩) l2 ys:=hq2.push _
  wp_walk using Av hA,Av hB
  exact ⟨_,rfl,h⟩
section
variable {prog:Program} {w:World} {A:Around} {E:Value->Shared->Prop} {s:Shared}
theorem ut {k1 k2:Bool} {l1 l2:Addr} {xs ys:Array Value} {Q:Value->Shared->Prop} (s1:SSq k1 s.heap l1 xs) (s2:SSq k2 s.heap l2 ys)
    (q:∀ h',IsZip h' (s.heap.objs.size+4) (s.heap.objs.size+2) (s.heap.objs.size+3) .none->IsPair h' (s.heap.objs.size+2) (.ref s.heap.objs.size) (.ref (s.heap.objs.size+1))->
     IsPair h' (s.heap.objs.size+3) .none .none->SIt k1 h' s.heap.objs.size l1 0->SIt k2 h' (s.heap.objs.size+1) l2 0->h'.objs.size=s.heap.objs.size+5->
     (∀ c o,s.heap.get? c=some o->h'.get? c=some o)->Q (.ref (s.heap.objs.size+4)) { s with heap:=h' }):
    wpAny (model prog w) A (call (.type "zip") [.ref l1,.ref l2]) Q E s:=by
 refine callType_new F.called_zip (by decide) (F.typeCall_zip_2 _ _) (F.newCall_zip_2 _ _) (fun obj=>F.args_object_init_3 obj _ _) F.entry_zip_new
  (qe k1 k2 l1 l2 xs ys) ⟨s1,s2,?_⟩
 have z1:(zk1 k1 s.heap l1).objs.size=s.heap.objs.size+1:=Et ..
 have z2:(zk2 k1 k2 s.heap l1 l2).objs.size=s.heap.objs.size+2:=by rw [Et,z1]
 have z3:(zk3 k1 k2 s.heap l1 l2).objs.size=s.heap.objs.size+3:=by rw [Et,z2]
 have z4:(zk4 k1 k2 s.heap l1 l2).objs.size=s.heap.objs.size+4:=by rw [Et,z3]
 have z5:(zk5 k1 k2 s.heap l1 l2).objs.size=s.heap.objs.size+5:=by rw [Et,z4]
 have e5:(zk5 k1 k2 s.heap l1 l2).get? (zk4 k1 k2 s.heap l1 l2).objs.size=some _:=Ds _ rfl
 have e4:(zk5 k1 k2 s.heap l1 l2).get? (zk3 k1 k2 s.heap l1 l2).objs.size=some _:=Dd _ (Ds _ rfl)
 have e3:(zk5 k1 k2 s.heap l1 l2).get? (zk2 k1 k2 s.heap l1 l2).objs.size=some _:=Dd _ (Dd _ (Ds _ rfl))
 have e2:(zk5 k1 k2 s.heap l1 l2).get? (zk1 k1 s.heap l1).objs.size=some _:=Dd _ (Dd _ (Dd _ (Ds _ (by cases k2<;>rfl))))
 have e1:(zk5 k1 k2 s.heap l1 l2).get? s.heap.objs.size=some _:=Dd _ (Dd _ (Dd _ (Dd _ (Ds _ (by cases k1<;>rfl)))))
 show _/\_
 rw [z2,z3,z4] at e5;rw [z1,z2] at e3;rw [z3] at e4;rw [z1] at e2;rw [z4]
 exact ⟨⟨_,e5,rfl⟩,q _ e5 e3 e4 (.start e1) (.start e2) z5 fun c o x=>
  Dd _ (Dd _ (Dd _ (Dd _ (Dd (qk k1 l1) x))))⟩
end
end BE
namespace L2
open PySem PySem.Spec PyProof.Rows
def SqK (k:Bool) (K:PySem.W.Frag) (H:Hp) (a:Addr) (xs:List V):Prop:=match k with
 | true=>SqT K H a xs
 | false=>SqL K H a xs
section
variable {X:Cx} {pins:List (Addr×Obj)} {σ:St} {H:Hp} {s:Shared}
theorem Inv.seqK {k:Bool} {a:Addr} {xs:List V} (I:Inv X pins σ H s) (h:SqK k X.K H a xs):∃ its:List Value,ba xs its/\BE.SSq k s.heap a its.toArray:=by
 cases k with
 | true=>obtain ⟨its,rv,p,_⟩:=I.tuple h;exact ⟨its,rv,p⟩
 | false=>obtain ⟨its,rv,p,_⟩:=I.list h;exact ⟨its,rv,p.isList⟩
theorem Inv.seqK_inj {k:Bool} {a:Addr} {xs ys:List V} (I:Inv X pins σ H s) (h:SqK k X.K H a xs) (h':SqK k X.K H a ys):xs=ys:=by
 cases k with
 | true=>exact I.tuple_inj h h'
 | false=>exact I.list_inj h h'
end
def Bc (k1 k2:Bool) (K:PySem.W.Frag) (a b:Addr):It:=
 ⟨fun i H=>∃ xs ys x y,SqK k1 K H a xs/\SqK k2 K H b ys/\xs[i]? =some x/\ys[i]? =some y,
  fun i H v H'=>∃ p x y,H p=none/\v=.ref p/\H'=upd H p (.tup [x,y])/\(∀ xs,SqK k1 K H a xs->xs[i]? =some x)/\∀ ys,SqK k2 K H b ys->ys[i]? =some y,
  fun i H=>∃ xs ys,SqK k1 K H a xs/\SqK k2 K H b ys/\(xs.length<=i\/ys.length<=i)⟩
def ZTk (k1 k2:Bool) (z TI TO i1 i2 l1 l2:Addr) (i:Nat) (h:Heap):Prop:=IsZip h z TI TO .none/\IsPair h TI (.ref i1) (.ref i2)/\(∃ a b,IsPair h TO a b)/\BE.SIt k1 h i1 l1 i/\BE.SIt k2 h i2 l2 i
theorem rc {k1 k2:Bool} {P:Program} {w:World} {K:PySem.W.Frag} {es:List Expr} {ek:Nat} {pos:Pos} (z TI TO i1 i2 l1 l2:Addr) (D:ZipApart z TI TO i1 i2 l1 l2):yU P w K (.Tuple es ek pos) (Bc k1 k2 K l1 l2) [z,TI,TO,i1,i2] z (ZTk k1 k2 z TI TO i1 i2 l1 l2) where
 mem:=by simp
 obj:=fun i h st b hb=>by
  obtain ⟨hz,hTI,⟨a,c,hTO⟩,q1,q2⟩:=st
  have hb':b=z\/b=TI\/b=TO\/b=i1\/b=i2:=by simpa using hb
  rcases hb' with rfl | rfl | rfl | rfl | rfl
  . exact ⟨_,hz,fun v q=>by have q':Data.fields _=Data.cell v:=q;cases q'⟩
  . exact ⟨_,hTI,fun v q=>by have q':Data.seq _ _=Data.cell v:=q;cases q'⟩
  . exact ⟨_,hTO,fun v q=>by have q':Data.seq _ _=Data.cell v:=q;cases q'⟩
  . obtain ⟨o,ho,hn⟩:=q1.ex;exact ⟨o,ho,fun v q=>hn v q⟩
  . obtain ⟨o,ho,hn⟩:=q2.ex;exact ⟨o,ho,fun v q=>hn v q⟩
 keep:=fun i h h' st k=>by
  obtain ⟨hz,hTI,⟨a,c,hTO⟩,h1,h2⟩:=st
  exact ⟨k z (by simp) _ hz,k TI (by simp) _ hTI,⟨a,c,k TO (by simp) _ hTO⟩,h1.mv fun o q=>k i1 (by simp) o q,h2.mv fun o q=>k i2 (by simp) o q⟩
 item:=by
  intro X hP hw hK hc i pins s σ H E I hf st hg
  subst hP hw hK
  obtain ⟨hz,hTI,⟨a,b,hTO⟩,h1,h2⟩:=st
  obtain ⟨xs,ys,x,y,hq1,hq2,hx,hy⟩:=hg
  obtain ⟨its1,rv1,p1⟩:=I.seqK hq1
  obtain ⟨its2,rv2,p2⟩:=I.seqK hq2
  obtain ⟨u1,hu1,ru1⟩:=rv1.get hx
  obtain ⟨u2,hu2,ru2⟩:=rv2.get hy
  refine BE.nj D hz hTI hTO h1 h2 p1 p2 (by rw [Ev];exact hu1) (by rw [Ev];exact hu2) fun h' a1 a2 a3 a4 a5 a6 hk=>?_
  refine ⟨_,rfl,wpAny_letOwnedTupleGo_zip a1 fun h3 hz3 sb3=>?_⟩
  have lt:∀ {c:Addr} {o:Obj},s.heap.get? c=some o->c≠s.heap.objs.size:=fun e=>DC (Dp e)
  have i1lt:i1≠s.heap.objs.size:=by obtain ⟨_,e,_⟩:=h1.ex;exact lt e
  have i2lt:i2≠s.heap.objs.size:=by obtain ⟨_,e,_⟩:=h2.ex;exact lt e
  have hT3:h3.get? s.heap.objs.size=some { cls:=.type "tuple",data:=.seq #[u1,u2] }:=(sb3.2 _ (Ne.symm (lt hz))).trans a5
  have fr:H s.heap.objs.size=none:=I.hok.fresh (Dh _)
  have sub:∀ b∈[z,TO,i1,i2],pL X pins H b:=fun b hb=>by
   have hb':b=z\/b=TO\/b=i1\/b=i2:=by simpa using hb
   rcases hb' with rfl | rfl | rfl | rfl<;>exact hf _ (by simp)
  have I2:Inv X pins σ (upd H s.heap.objs.size (.tup [x,y])) { s with heap:=h3,toks:=s.toks }:=
   I.turnedL (ch:=[z,TO,i1,i2]) (fun b q hb r=>(sb3.2 b (fun e=>hb (by simp [e]))).trans (hk b q (fun e=>hb (by simp [e])) (fun e=>hb (by simp [e])) (fun e=>hb (by simp [e])) (fun e=>hb (by simp [e])) r)) sub (Dh _) (uW hT3 ru1 ru2)
  refine ⟨.ref s.heap.objs.size,_,I2,rfl,⟨_,x,y,fr,rfl,rfl,fun zs h=>by rw [I.seqK_inj h hq1];exact hx,fun zs h=>by rw [I.seqK_inj h hq2];exact hy⟩,⟨hz3,?_,⟨u1,u2,?_⟩,?_,?_⟩,fun b hb=>?_⟩
  . exact (sb3.2 _ D.TIz).trans (hk _ _ D.TIz D.TITO D.TIi1 D.TIi2 hTI)
  . exact (sb3.2 _ D.TOz).trans a2
  . exact a3.mv fun o q=>(sb3.2 _ D.i1z).trans q
  . exact a4.mv fun o q=>(sb3.2 _ D.i2z).trans q
  . have hn:=(hf b hb).1
    have hb2:b≠s.heap.objs.size:=by
     have hb':b=z\/b=TI\/b=TO\/b=i1\/b=i2:=by simpa using hb
     rcases hb' with rfl | rfl | rfl | rfl | rfl
     . exact lt hz
     . exact lt hTI
     . exact lt hTO
     . exact i1lt
     . exact i2lt
    rw [aA hb2]
    exact hn
 done:=by
  intro X hP hw hK hc i pins s σ H E I hf st hg
  subst hP hw hK
  obtain ⟨hz,hTI,⟨a,b,hTO⟩,h1,h2⟩:=st
  obtain ⟨xs,ys,hq1,hq2,hend⟩:=hg
  obtain ⟨its1,rv1,p1⟩:=I.seqK hq1
  obtain ⟨its2,rv2,p2⟩:=I.seqK hq2
  have sub:∀ b∈[z,TO,i1,i2],pL X pins H b:=fun b hb=>by
   have hb':b=z\/b=TO\/b=i1\/b=i2:=by simpa using hb
   rcases hb' with rfl | rfl | rfl | rfl<;>exact hf _ (by simp)
  have e1:=rv1.length
  have e2:=rv2.length
  refine BE.ig (I.ok.hd hc) D hz hTI hTO h1 h2 p1 p2 ?_ fun h' hk=>⟨rfl,?_⟩
  . rcases hend with hend | hend
    . exact .inl (by rw [Ev];exact DO (by omega))
    . exact .inr (by rw [Ev];exact DO (by omega))
  . exact I.turnedD (t':=s.toks) (ch:=[z,TO,i1,i2]) (fun b q hb r=>hk b q (fun e=>hb (by simp [e])) (fun e=>hb (by simp [e])) (fun e=>hb (by simp [e])) (fun e=>hb (by simp [e])) r) sub
 self:=fun _ _ _ _ _ st h=>wpAny_pyIter_zip st.1 h
section
variable {X:Cx} {es:List Expr} {ek:Nat} {tpos:Pos}
def BZ (k1 k2:Bool) (K:PySem.W.Frag) (ta:TA):TI:=fun σ H R=>ta σ H fun vs H1=>∃ a b xs ys,vs=[.ref a,.ref b]/\SqK k1 K H1 a xs/\SqK k2 K H1 b ys/\R (Bc k1 k2 K a b) H1
theorem sB (k1 k2:Bool) {x y:Expr} {ta:TA} {p pos:Pos} (hg:Gl X "zip") (hm:X.mg "zip"=none) (ha:PA X [x,y] ta) (hs:starEach [x,y] X.env=[(false,eval x X.env),(false,eval y X.env)]:=by rfl) (hs2:starEach [y] X.env=[(false,eval y X.env)]:=by rfl):
    PI X (.Tuple es ek tpos) (.Call (.Name "zip" p) [x,y] [] pos) (BZ k1 k2 X.K ta):=by
 intro pins s σ H R I h
 refine Call_ (fj I hg hm boot_zip (Ew (thn (ha pos pins s σ H _ I h) fun us s1 ⟨vs,H1,I1,r1,q1⟩=>?_) (by rw [hs,hs2]) (by rw [hs2];rfl)))
 obtain ⟨a,b,xs,ys,e,hq1,hq2,q⟩:=q1
 subst e
 cases r1 with
 | cons r rr=>
  cases rr with
  | cons r' rr=>
   cases rr
   cases r
   cases r'
   obtain ⟨its1,rv1,p1⟩:=I1.seqK hq1
   obtain ⟨its2,rv2,p2⟩:=I1.seqK hq2
   refine BE.ut p1 p2 fun h' hz hTI hTO hi1 hi2 hsz hk=>?_
   refine wpAny_pyIter_zip hz ?_
   have D:=PySem.W.ktu_apart s1.heap.objs.size a b p1.lt p2.lt
   refine ⟨s1.heap.objs.size+4,[s1.heap.objs.size+4,s1.heap.objs.size+2,s1.heap.objs.size+3,s1.heap.objs.size,s1.heap.objs.size+1],_,_,H1,rfl,I1.kept (t':=s1.toks) hk,rc _ _ _ _ _ a b D,⟨hz,hTI,⟨_,_,hTO⟩,hi1,hi2⟩,fun c hc=>?_,q⟩
   have hc':s1.heap.objs.size<=c:=by
    have h5:c=s1.heap.objs.size+4\/c=s1.heap.objs.size+2\/c=s1.heap.objs.size+3\/c=s1.heap.objs.size\/c=s1.heap.objs.size+1:=by simpa using hc
    rcases h5 with rfl | rfl | rfl | rfl | rfl
    . exact Nat.le_add_right _ _
    . exact Nat.le_add_right _ _
    . exact Nat.le_add_right _ _
    . exact Dh _
    . exact Nat.le_add_right _ _
   exact I1.fpOk hc' (I1.hok.fresh hc')
theorem me {k1 k2:Bool} {g:TG} {tt:TT} {te:TE} {τ:St} {D:Addr} {H1:Hp} {R:Hp->Prop} {K:PySem.W.Frag} {a b:Addr} {xs ys:List V} (Pv:Nat->List V->Hp->Prop) (h0:Pv 0 [] (upd H1 D (.lst []))) (hl:∀ i zs H,Pv i zs H->SqK k1 K H a xs/\SqK k2 K H b ys)
    (hs:∀ i zs x y p H,xs[i]? =some x->ys[i]? =some y->H p=none->Pv i zs H->d6 g tt te τ D zs (Pv (i+1)) (.ref p) (upd H p (.tup [x,y]))) (hd:∀ zs H,Pv (min xs.length ys.length) zs H->R H):
    ∃ W:Nat->Nat->List V->Hp->Prop,(∃ m,W 0 m [] (upd H1 D (.lst [])))/\∀ i m zs H,W i m zs H->((Bc k1 k2 K a b).stop i H/\R H)\/((Bc k1 k2 K a b).go i H/\∃ N:List V->Hp->Prop,(∀ ys' H',N ys' H'->∃ m',m'<m/\W (i+1) m' ys' H')/\∀ x H',(Bc k1 k2 K a b).yld i H x H'->d6 g tt te τ D zs N x H'):=by
 refine ⟨fun i m zs H=>m=min xs.length ys.length-i/\i<=min xs.length ys.length/\Pv i zs H,⟨min xs.length ys.length,by simp,DD _,h0⟩,?_⟩
 rintro i m zs H ⟨rfl,hi,p⟩
 obtain ⟨q1,q2⟩:=hl i zs H p
 by_cases hlt:i<min xs.length ys.length
 . have l1:i<xs.length:=by omega
   have l2:i<ys.length:=by omega
   refine .inr ⟨⟨xs,ys,xs[i],ys[i],q1,q2,C7 l1,C7 l2⟩,Pv (i+1),fun ys' H' p'=>⟨min xs.length ys.length-(i+1),by omega,rfl,hlt,p'⟩,fun x H' y=>?_⟩
   obtain ⟨t,u,v,ht,e,e2,y1,y2⟩:=y
   subst e e2
   exact hs i zs u v t H (y1 xs q1) (y2 ys q2) ht p
 . have e:i=min xs.length ys.length:=by omega
   subst e
   exact .inl ⟨⟨xs,ys,q1,q2,by omega⟩,hd zs H p⟩
end
end L2
namespace L2
open PySem PySem.Spec PyProof.Rows
section
variable {X:Cx}
def BQ:List V->Hp->VK->Prop:=fun xs H Q=>∃ (a:Addr) (ns:List Int),xs=[.ref a]/\H a=some (.lst (ns.map V.int))/\ns≠[]/\∀ M,M∈ns->(∀ b,b∈ns->M<=b)->Q (.int M) H
theorem jZ:∀ {ns:List Int} {us:List Value},ba (ns.map V.int) us->IntsAre us ns
 | [],_,r=>by cases r;exact .nil
 | n::ns,_,r=>by
  cases r with
  | cons h r=>
   obtain ⟨t,rfl⟩:=h
   exact .cons n t (jZ r)
theorem uw (hc:X.calm=true):dF X (.builtin "min") BQ:=by
 intro pins s σ H xs us Q I r h
 obtain ⟨a,ns,rfl,ha,hne,q⟩:=h
 obtain ⟨u,rfl,rfl⟩:=gY r
 obtain ⟨z,its,n,rv,hl,e⟩:=I.lstM ha
 have hi:=jZ rv
 obtain ⟨ys,ey⟩:=hi.allInts.items
 have hL:s.heap.IsList a its.toArray:=⟨_,e,rfl,n,rfl⟩
 have hns:ns=ys.toList.map (·.1):=by
  rw [<- hi.numsOf,<- nums_intItems,<- ey]
 have hsz:0<ys.size:=by
  have h3:0<ns.length:=List.length_pos_iff.mpr hne
  rw [hns,Da,Dc] at h3
  exact h3
 rw [ey] at hL
 refine min_intList (I.ok.hd hc) hL hsz fun v h' tk hv hk=>?_
 obtain ⟨t,rfl⟩:=intItems_at hv
 obtain ⟨h1,h2⟩:=argBest_lt (numAt ys) (ys.size-1)
 refine ⟨.int _,H,I.kept hk,⟨_,rfl⟩,q _ ?_ fun b hb=>?_⟩
 . rw [hns,numAt_eq];exact getD_mem (by rw [Da,Dc];omega)
 . rw [hns] at hb
   obtain ⟨j,hj,rfl⟩:=mem_getD hb
   rw [Da,Dc] at hj
   rw [<- numAt_eq];exact h2 j (by omega)
end
end L2
namespace BE
open PySem PySem.Spec PyProof.Rows SeqAt
open AutoSeq1 (wpAny_loadPart')
theorem q0 {M:Model} {A:Around} {E:Value->Shared->Prop} {β:Type} (f:Nat->β->Sem (ForInStep β)) (I:Nat->β->Shared->Prop) (Q:β->Shared->Prop) {n:Nat} {b:β} {s:Shared}
    (turn:∀ i b s,i<n->I i b s->wpAny M A (f i b) (fun r s'=>match r with | .yield b'=>I (i+1) b' s' | .done b'=>Q b' s') E s)
    (fin:∀ b s,I n b s->Q b s) (h:I 0 b s):wpAny M A (forIn [:n] b f) Q E s:=by
 rw [Std.Legacy.Range.forIn_eq_forIn_range']
 have hsz:([:n]:Std.Legacy.Range).size=n:=by simp [Std.Legacy.Range.size]
 show wpAny M A (forIn (List.range' 0 ([:n]:Std.Legacy.Range).size 1) b f) Q E s
 rw [hsz]
 refine wpAny_forIn_list f (fun rest b s=>∃ i,i<=n/\rest=List.range' i (n-i) 1/\I i b s) Q ?_ ?_ _ b ⟨0,DD _,rfl,h⟩
 . rintro x rest b s ⟨i,hi,hr,hI⟩
   have hlt:i<n:=by
    apply DB
    intro z
    rw [show n-i=0 by omega] at hr
    cases hr
   rw [show n-i=(n-(i+1))+1 by omega,List.range'_succ] at hr
   injection hr with h1 h2
   subst h1
   refine wpAny_mono (turn x b s hlt hI) (fun r s' q=>?_) fun _ _ z=>z
   cases r with
   | done b'=>exact q
   | yield b'=>exact ⟨x+1,hlt,h2,q⟩
 . rintro b s ⟨i,hi,hr,hI⟩
   have e:i=n:=by
    apply DB
    intro z
    have:=Ee List.length hr
    rw [List.length_range'] at this
    simp at this
    omega
   subst e
   exact fin b s hI
theorem jv (l:Addr) (items:Array Value) (n:Nat) (dd:Option Addr) (sl:Array (Option Value)) (x:Value) (e:Value->Bool) (j:Nat) (hj:j<items.size) (hit:e items[j]=true) (hno:∀ m (hm:m<items.size),m<j->e items[m]=false):
    Meets (Builtin.«tuple.index» ⟨[.ref l,x],[]⟩)
     (fun A R s=>s.heap.get? l=some { cls:=.type "tuple",dict:=dd,data:=.seq items n,slots:=sl }/\(∀ y,y∈items->EqAt A.in1 s y x (e y))/\R (.ok (.ret (.int j s.toks))) { s with toks:=s.toks+1 }):=
 .of_wp fun prog w A R s h=>by
  obtain ⟨hp,g,d,tk,os⟩:=s;obtain ⟨hl,he,h⟩:=h
  wp_walk using wpAny_loadPart' hl,q0 _ (fun i b s'=>b.1=none/\s'=⟨hp,g,d,tk,os⟩/\i<=j) _
  case turn=>
   rintro i b s' hi ⟨hb,rfl,hij⟩
   have hi':i<items.size:=by omega
   rw [De hi']
   dsimp only
   refine C8 (he _ (Array.getElem_mem hi') prog w _ _ ?_)
   by_cases c:i=j
   . subst c
     rw [hit]
     wp_walk
     exact ⟨_,rfl,h⟩
   . rw [hno i hi' (by omega)]
     wp_walk
     exact ⟨rfl,rfl,by omega⟩
  case fin=>
   rintro ⟨b1,b2⟩ s' ⟨hb,rfl,hij⟩
   omega
  case h=>exact ⟨rfl,rfl,DD _⟩
end BE
namespace L2
open PySem PySem.SeqAt PySem.Spec PyProof.Rows
section
variable {X:Cx}
def tJ (k:Int):Value->Bool
 | .int i _=>i==k
 | _=>false
theorem nS:∀ {ns:List Int} {us:List Value} {i:Nat} {u:Value},ba (ns.map V.int) us->us[i]? =some u->∃ n t,ns[i]? =some n/\u=.int n t
 | [],_,i,u,r,h=>by cases r;simp at h
 | n::ns,_,i,u,r,h=>by
  cases r with
  | cons a r=>
   obtain ⟨t,rfl⟩:=a
   cases i with
   | zero=>
    rw [List.getElem?_cons_zero] at h
    exact ⟨n,t,rfl,(Dg h).symm⟩
   | succ i=>
    rw [List.getElem?_cons_succ] at h
    obtain ⟨m,t',h1,h2⟩:=nS r h
    exact ⟨m,t',h1,h2⟩
def xO:V->List V->Hp->VK->Prop:=fun x vs H Q=>∃ (a:Addr) (ns:List Int) (k:Int) (j:Nat),x=.ref a/\vs=[.int k]/\H a=some (.tup (ns.map V.int))/\ns[j]? =some k/\(∀ m,m<j->ns[m]?≠some k)/\Q (.int j) H
theorem lF:MtM X "tuple.index" xO:=by
 intro pins s σ H x vs v us Q I rx rv h
 obtain ⟨a,ns,k,j,rfl,rfl,hH,hj,hn,q⟩:=h
 cases rx
 obtain ⟨u,rfl,ru⟩:=rv.one
 obtain ⟨t,rfl⟩:=ru
 obtain ⟨its,r,⟨o,ho,hc,n,hd⟩,hz⟩:=I.tuple (SqT.of hH)
 obtain ⟨oc,od,ot,os⟩:=o
 replace hc:oc=.type "tuple":=hc
 replace hd:ot=.seq its.toArray n:=hd
 subst hc hd
 have hl:=r.length
 rw [Da] at hl
 have hlt:j<ns.length:=(Db.mp hj).1
 have at_:∀ m (hm:m<its.toArray.size),∃ i t',ns[m]? =some i/\its.toArray[m]=.int i t':=fun m hm=>by
  have hm':m<its.length:=by simpa using hm
  obtain ⟨i,t',h1,h2⟩:=nS r (C7 hm')
  exact ⟨i,t',h1,by rw [List.getElem_toArray];exact h2⟩
 refine call_meets F.slot_tuple_index ⟨_,ho,rfl⟩ F.entry_tuple_index (F.args_tuple_index_2 _ _)
  (BE.jv a its.toArray n od os (.int k t) (tJ k) j (by rw [Du,<- hl];exact hlt) ?_ ?_) ⟨ho,fun y hy=>?_,?_⟩
 . obtain ⟨i,t',h1,h2⟩:=at_ j (by rw [Du,<- hl];exact hlt)
   rw [hj] at h1
   cases h1
   rw [h2]
   exact beq_self_eq_true k
 . intro m hm hmj
   obtain ⟨i,t',h1,h2⟩:=at_ m hm
   rw [h2]
   exact beq_eq_false_iff_ne.mpr fun c=>hn m hmj (by rw [h1,c])
 . obtain ⟨m,hm,e⟩:=Array.getElem_of_mem hy
   obtain ⟨i,t',h1,h2⟩:=at_ m hm
   rw [<- e,h2]
   exact EqAt.int_int i t' k t
 . exact ⟨.int j,H,I.tok _,⟨s.toks,rfl⟩,q⟩
def qo (ns:List Int):Int:=ns.foldr (·+·) 0
def BN:List V->Hp->VK->Prop:=fun xs H Q=>∃ (a:Addr) (ns:List Int),xs=[.ref a]/\H a=some (.lst (ns.map V.int))/\ns.length<=1000/\(∀ x∈ns,-100000<=x/\x<=100000)/\Q (.int (qo ns)) H
theorem nQ (a b:List Int):qo (a++b)=qo a+qo b:=by
 unfold qo
 induction a with
 | nil=>simp
 | cons x a ih=>rw [List.cons_append,List.foldr_cons,ih,List.foldr_cons];omega
theorem sw (f:Nat->Int) (ns:List Int) (h:∀ i,i<ns.length->f i=ns.getD i 0):∀ j,j<=ns.length->preSum f j=qo (ns.take j)
 | 0,_=>rfl
 | j+1,hj=>by
  show preSum f j+f j=_
  rw [sw f ns h j (by omega),h j (by omega),Ep,nQ,C9,C7 (show j<ns.length by omega)]
  show _=_+(ns[j]+0)
  rw [Int.add_zero];rfl
theorem ji:∀ ns:List Int,(∀ x∈ns,-100000<=x/\x<=100000)->-(100000*(ns.length:Int))<=qo ns/\qo ns<=100000*(ns.length:Int)
 | [],_=>⟨by simp [qo],by simp [qo]⟩
 | x::ns,h=>by
  have a:=h x Dx
  have b:=ji ns fun y hy=>h y (Dk _ hy)
  show-(100000*((ns.length+1:Nat):Int))<=x+qo ns/\x+qo ns<=100000*((ns.length+1:Nat):Int)
  omega
theorem uu (hc:X.calm=true):dF X (.builtin "sum") BN:=by
 intro pins s σ H xs us Q I r h
 obtain ⟨a,ns,rfl,ha,hlen,hb,q⟩:=h
 obtain ⟨u,rfl,rfl⟩:=gY r
 obtain ⟨z,its,n,rv,hl,e⟩:=I.lstM ha
 have hi:=jZ rv
 obtain ⟨ys,ey⟩:=hi.allInts.items
 have hL:s.heap.IsList a its.toArray:=⟨_,e,rfl,n,rfl⟩
 have hns:ns=ys.toList.map (·.1):=by
  rw [<- hi.numsOf,<- nums_intItems,<- ey]
 have hsz:ys.size=ns.length:=by rw [hns,Da,Dc]
 rw [ey] at hL
 have hv:∀ i,i<ns.length->numAt ys i=ns.getD i 0:=fun i _=>by rw [numAt_eq,<- hns]
 have pf:=sw (numAt ys) ns hv
 refine sum_intList (I.ok.hd hc) hL (fun j hj=>?_) fun h' tk t' hk=>?_
 . have hj':j<ns.length:=by omega
   have b1:=hb (ns.getD j 0) (by rw [C9,C7 hj'];exact DX hj')
   have b2:=ji (ns.take (j+1)) fun x hx=>hb x (Eh hx)
   have b3:=List.length_take_le' (j+1) ns
   rw [hv j hj',pf (j+1) (by omega)]
   have big:(100000000:Int)<2^63:=by decide
   refine ⟨⟨?_,?_⟩,⟨?_,?_⟩⟩<;>omega
 . refine ⟨.int (qo ns),H,I.kept hk,⟨t',?_⟩,q⟩
   rw [hsz,pf ns.length (Dh _),DE]
def CD (r:V->List V->Hp->VK->Prop) (to:TE) (t:TA):TE:=fun σ H Q=>to σ H fun x H1=>(∃ a xs,x=.ref a/\H1 a=some (.tup xs))/\t σ H1 fun vs H2=>r x vs H2 Q
theorem wM {ob e:Expr} {es:List Expr} {to:TE} {t:TA} {name:Str} {apos cpos:Pos} {id:String} {r:V->List V->Hp->VK->Prop} (slot:Slot "tuple" name id) (hty:typeOf (.builtin id)=pure (.type "method_descriptor")) (hm:MtM X id r) (ho:PE X ob to) (ha:PA X (e::es) t)
    (hbase:attributeBase ob name X.env (eval ob X.env)=eval ob X.env:=by rfl)
    (hfew:((backTo cpos (starEach (e::es) X.env)).all (fun x=>!x.1) && (backToKw cpos (keywordEach [] X.env)).all (fun x=>x.1.isSome)
     && decide ((e::es).length+([]:List Keyword).length+(if ([]:List Keyword).isEmpty then 0 else 1)<30))=true:=by rfl)
    (hline:(apos.endLine==cpos.line)=true:=by rfl) (hs:starEach (e::es) X.env=(false,eval e X.env)::starEach es X.env:=by rfl) (hplain:(backTo cpos (starEach es X.env)).any (·.1)=false:=by rfl):
    PE X (.Call (.Attribute ob name apos) (e::es) [] cpos) (CD r to t):=by
 intro pins s σ H Q I h
 refine wpAny_Call_method_late hbase hfew hline rfl (thn (ho pins s σ H _ I h) fun v s1 ⟨x,H1,I1,r1,ty,q1⟩=>?_)
 obtain ⟨a,xs,rfl,hx⟩:=ty
 obtain ⟨z,its,rv,o,ho',hc,hd,n,hdt⟩:=I1.hok a _ hx
 have ev:v=.ref a:=r1
 subst ev
 refine ⟨"tuple",id,F.plainAttrs_tuple,slot,hty,⟨o,ho',hc⟩,fun b e=>⟨o,by cases e;exact ho',hd⟩,?_⟩
 have hA:=ha cpos pins s1 σ H1 _ I1 q1
 rw [hs] at hA ⊢
 refine Calls.callWith_builtin (by show (false || (backTo cpos (starEach es X.env)).any (·.1))=false;rw [hplain]<;>rfl) (Calls.evalArgs_plain ?_)
 exact thn hA fun us s2 ⟨vs,H2,I2,r2,q2⟩=>hm pins s2 σ H2 (.ref a) vs _ us Q I2 rfl r2 q2
end
end L2
namespace L2
open PySem PySem.SeqAt PySem.Spec PyProof.Rows
section
variable {X:Cx}
end
end L2
namespace L2
open PySem PySem.Spec PyProof.Rows
section
variable {X:Cx}
end
end L2
namespace BE
open PySem PySem.Spec PyProof.Rows
section
variable {prog:Program} {w:World} {A:Around} {E:Value->Shared->Prop} {s:Shared}
theorem kL {h h1:Heap} {vs:List Value} {out:Array Value} (hk:∀ b u,h.get? b=some u->h1.get? b=some u):∀ b u,h.get? b=some u->(sortedHeap (h1.push (seqObj "list" vs.toArray 0)) h1.objs.size vs out).get? b=some u:=fun b u e=>by
 have e1:=hk b u e
 have lt:=Dp e1
 rw [sortedHeap_old (DC lt) (by rw [size_push'];exact Nat.lt_succ_of_lt lt)]
 exact Dd _ e1
end
section
variable {prog:Program} {w:World} {A:Around} {E:Value->Shared->Prop} {s:Shared}
end
end BE
namespace L2
open PySem PySem.SeqAt PySem.Spec PyProof.Rows
section
variable {X:Cx}
def xP:V->List V->Hp->VK->Prop:=fun x vs H Q=>∃ (l:Addr) (ns:List Int) (k:Int) (j:Nat),x=.ref l/\vs=[.int k]/\H l=some (.lst (ns.map V.int))/\ns[j]? =some k/\(∀ m,m<j->ns[m]?≠some k)/\Q (.int j) H
theorem sV:MtM X "list.index" xP:=by
 intro pins s σ H x vs v us Q I rx rv h
 obtain ⟨l,ns,k,j,rfl,rfl,hH,hj,hn,q⟩:=h
 cases rx
 obtain ⟨u,rfl,ru⟩:=rv.one
 obtain ⟨t,rfl⟩:=ru
 obtain ⟨z,its,n,r,hl,e⟩:=I.lstM hH
 rw [Da] at hl z
 have hlt:j<ns.length:=(Db.mp hj).1
 have h63:=lN
 have at_:∀ m (hm:m<its.toArray.size),∃ i t',ns[m]? =some i/\its.toArray[m]=.int i t':=fun m hm=>by
  have hm':m<its.length:=by simpa using hm
  obtain ⟨i,t',h1,h2⟩:=nS r (C7 hm')
  exact ⟨i,t',h1,by rw [List.getElem_toArray];exact h2⟩
 refine call_meets F.slot_list_index ⟨_,e,rfl⟩ F.entry_list_index (F.args_list_index_2 _ _)
  (list_indexAt l its.toArray n none #[] (.int k t) (tJ k) j (by rw [Du,<- hl];exact hlt) (by omega) ?_ ?_) ⟨e,fun y hy=>?_,?_⟩
 . obtain ⟨i,t',h1,h2⟩:=at_ j (by rw [Du,<- hl];exact hlt)
   rw [hj] at h1
   cases h1
   rw [h2]
   exact beq_self_eq_true k
 . intro m hm hmj
   obtain ⟨i,t',h1,h2⟩:=at_ m hm
   rw [h2]
   exact beq_eq_false_iff_ne.mpr fun c=>hn m hmj (by rw [h1,c])
 . obtain ⟨m,hm,e'⟩:=Array.getElem_of_mem hy
   obtain ⟨i,t',h1,h2⟩:=at_ m hm
   rw [<- e',h2]
   exact EqAt.int_int i t' k t
 . exact ⟨.int j,H,I.tok _,⟨s.toks,rfl⟩,q⟩
end
end L2
namespace L2
open PySem PySem.Spec PyProof.Rows
end L2
namespace Be
def mn:List Int->Int
 | []=>0
 | [x]=>x
 | x::y::r=>if x<=mn (y::r) then x else mn (y::r)
theorem je:∀ {l:List Int},l≠[]->mn l∈l
 | [x],_=>by simp [mn]
 | x::y::r,_=>by
  have ih:=je (l:=y::r) (by simp)
  unfold mn
  split
  . simp
  . exact Dk _ ih
theorem vP:∀ {l:List Int} {x:Int},x∈l->mn l<=x
 | [a],x,h=>by
  have:=D5.mp h
  subst this
  exact DK _
 | a::b::r,x,h=>by
  unfold mn
  rcases DI.mp h with rfl | h
  . split
    . exact DK _
    . omega
  . have ih:=vP (l:=b::r) h
    split<;>omega
theorem BT {l:List Int} {M:Int} (h:M∈l) (hl:∀ b∈l,M<=b):M=mn l:=by
 have h1:=vP h
 have h2:=hl _ (je (List.ne_nil_of_mem h))
 omega
def pl (l:List Int):Nat:=l.idxOf (mn l)
theorem xV {l:List Int} (h:l≠[]):pl l<l.length:=List.idxOf_lt_length_iff.mpr (je h)
theorem sA {l:List Int} (h:l≠[]):l[pl l]? =some (mn l):=by
 rw [C7 (xV h)]
 congr 1
 exact List.getElem_idxOf (xV h)
theorem vB {l:List Int}:∀ m,m<pl l->l[m]?≠some (mn l):=by
 intro m hm e
 have h1:=Db.mp e
 obtain ⟨hl,he⟩:=h1
 have:pl l<=m:=by
  unfold pl
  have gen:∀ (l:List Int) (x:Int) (m:Nat) (h:m<l.length),l[m]=x->l.idxOf x<=m:=by
   intro l x
   induction l with
   | nil=>intro m h;exact absurd h (Nat.not_lt_zero _)
   | cons a r ih=>
    intro m h e
    rw [List.idxOf_cons]
    cases m with
    | zero=>
     have e':a=x:=e
     rw [e']
     simp
    | succ m=>
     have:=ih m (by simpa using h) e
     by_cases c:(a==x)=true
     . rw [c];exact DD _
     . have c':(a==x)=false:=by simpa using c
       rw [c']
       show r.idxOf x+1<=m+1
       omega
  exact gen l (mn l) m hl he
 omega
abbrev Tk:=Int×Int×Int
def nxt (f:List Int) (x:Int):List Int:=f.set (pl f) (mn f+x)
def tk:List Int->List Int->List Tk
 | _,[]=>[]
 | f,x::r=>((pl f:Int),mn f,mn f+x)::tk (nxt f x) r
def fr:List Int->List Int->List Int
 | f,[]=>f
 | f,x::r=>fr (nxt f x) r
theorem kI:∀ (f ls:List Int),(tk f ls).length=ls.length
 | _,[]=>rfl
 | f,x::r=>by show (tk (nxt f x) r).length+1=_;rw [kI];rfl
theorem wW:∀ (f ls:List Int),(fr f ls).length=f.length
 | _,[]=>rfl
 | f,x::r=>by show (fr (nxt f x) r).length=_;rw [wW];exact Ef
theorem rh:∀ (f ls:List Int) (x:Int),tk f (ls++[x])=tk f ls++[((pl (fr f ls):Int),mn (fr f ls),mn (fr f ls)+x)]
 | f,[],x=>rfl
 | f,y::r,x=>by
  show _::tk (nxt f y) (r++[x])=_
  rw [rh]
  rfl
theorem tX:∀ (f ls:List Int) (x:Int),fr f (ls++[x])=nxt (fr f ls) x
 | f,[],x=>rfl
 | f,y::r,x=>tX (nxt f y) r x
def zf (b:Nat):List Int:=List.replicate b 0
theorem oo (b:Nat):(zf b).length=b:=D4
theorem gU {b:Nat} (h:0<b):zf b≠[]:=by
 intro z
 have:=Ee List.length z
 rw [oo] at this
 simp at this
 omega
theorem B7 {f ls:List Int} (h:f≠[]):fr f ls≠[]:=by
 intro z
 have:=Ee List.length z
 rw [wW] at this
 exact h (List.eq_nil_of_length_eq_zero this)
theorem iu {f:List Int} {x:Int} (hne:f≠[]):nxt f x≠[]:=fun z=>by
 have:=Ee List.length z
 unfold nxt at this
 rw [Ef] at this
 exact hne (List.eq_nil_of_length_eq_zero this)
def ens (b:Nat) (ls:List Int):List Int:=(tk (zf b) ls).map fun t=>t.2.2
def bgs (b:Nat) (ls:List Int):List Int:=(tk (zf b) ls).map fun t=>t.2.1
theorem eE (b:Nat) (ls:List Int):(ens b ls).length=ls.length:=by unfold ens;rw [Da,kI]
theorem xg (b:Nat):∀ y∈zf b,0<=y/\y<=0:=fun y hy=>by have:=(List.mem_replicate.mp hy).2;omega
theorem pY:∀ {a b:List Int},a.Perm b->a.Pairwise (·<=·)->b.Pairwise (·<=·)->a=b
 | a,b,p,ha,hb=>List.Perm.eq_of_pairwise (fun x y _ _ h1 h2=>Int.le_antisymm h1 h2) ha hb p
end Be
namespace L2
open PySem PySem.Spec PyProof.Rows
theorem um {g:TG} {tt:TT} {te:TE} {τ:St} {D:Addr} {H1:Hp} {R:Hp->Prop} {K:PySem.W.Frag} {a:Addr} {xs:List V} (Pv:Nat->List V->Hp->Prop) (h0:Pv 0 [] (upd H1 D (.lst []))) (hl:∀ i ys H,i<=xs.length->Pv i ys H->SqT K H a xs)
    (hs:∀ i ys x H,xs[i]? =some x->Pv i ys H->d6 g tt te τ D ys (Pv (i+1)) x H) (hd:∀ ys H,Pv xs.length ys H->R H):
    ∃ W:Nat->Nat->List V->Hp->Prop,(∃ m,W 0 m [] (upd H1 D (.lst [])))/\∀ i m ys H,W i m ys H->((Itt K a).stop i H/\R H)\/((Itt K a).go i H/\∃ N:List V->Hp->Prop,(∀ ys' H',N ys' H'->∃ m',m'<m/\W (i+1) m' ys' H')/\∀ x H',(Itt K a).yld i H x H'->d6 g tt te τ D ys N x H'):=
 ph (Q:=fun _ H=>R H) Pv h0 hl hs hd
theorem su {X:Cx} {st:List Stmt}:PSs X st (fun _ _ _=>False):=fun _ _ _ _ _ _ h=>False.elim h
theorem wg:bootBuiltins "range"=some (.type "range"):=by decide+kernel
end L2
namespace Be
open PySem L2
def jl (p:Int×Int):PyData:=.tuple [.int p.1,.int p.2]
def cv (W:Wd):PyData:=.tuple [.int W.b,.tuple (W.bs.map jl)]
def iW (o:List Int):PyData:=.tuple (o.map .int)
theorem kz (bs:List (Int×Int)):cL.all (bs.map jl)=true:=by
 induction bs with
 | nil=>rfl
 | cons p r ih=>
  rw [DS]
  show (cL (jl p) && cL.all (r.map jl))=true
  rw [ih];rfl
theorem CQ (W:Wd):cL (cv W)=true:=by
 show (cL (.int W.b) && (cL (.tuple (W.bs.map jl)) && true))=true
 show (true && (cL.all (W.bs.map jl) && true))=true
 rw [kz];rfl
structure AtW (H:Hp) (v:V) (W:Wd) (a p:Addr) (vs:List V):Prop where
 v:v=.ref a
 a:H a=some (.tup [.int W.b,.ref p])
 p:H p=some (.tup vs)
 it:∀ (i:Nat) (x:Int×Int),W.bs[i]? =some x->∃ q,vs[i]? =some (.ref q)/\H q=some (.tup [.int x.1,.int x.2])
 len:vs.length=W.bs.length
theorem vH {H:Hp} {v:V} {x:Int×Int} (r:Rep H v (jl x)):∃ q,v=.ref q/\H q=some (.tup [.int x.1,.int x.2]):=by
 obtain ⟨q,vs,rfl,hq,rs⟩:=r.tup_inv
 have e:vs=[.int x.1,.int x.2]:=Reps.ints_inv (ns:=[x.1,x.2]) rs
 subst e
 exact ⟨q,rfl,hq⟩
theorem atW {H:Hp} {v:V} {W:Wd} (r:Rep H v (cv W)):∃ a p vs,AtW H v W a p vs:=by
 obtain ⟨a,us,rfl,ha,rs⟩:=r.tup_inv
 cases rs with
 | cons r1 rs=>
  cases rs with
  | cons r2 rs=>
   cases rs
   cases r1.int_inv
   obtain ⟨p,vs,rfl,hp,rv⟩:=r2.tup_inv
   refine ⟨a,p,vs,rfl,ha,hp,fun i x e=>?_,by rw [rv.length,Da]⟩
   obtain ⟨u,hu,ru⟩:=rv.get (i:=i) (d:=jl x) (by rw [Di,e];rfl)
   obtain ⟨q,rfl,hq⟩:=vH ru
   exact ⟨q,hu,hq⟩
theorem gr {x:V} {r:St}:∀ (k:Nat) (v:V),(none::r:St)[k]? =some (some v)->((none::r:St).set 0 (some x))[k]? =some (some v)
 | 0,v,h=>by cases h
 | k+1,v,h=>h
theorem oZ {c:Bool} {A B:Prop} (h:c=false) (b:B):if c=true then A else B:=by subst h;exact b
theorem wR {c:Bool} {A B:Prop} (h:c=true) (a:A):if c=true then A else B:=by subst h;exact a
theorem gP (x:Int):∀ o:List Int,inV (.int x) (o.map V.int)=decide (x∈o)
 | []=>by simp [inV]
 | y::r=>by
  have ih:=gP x r
  unfold inV at ih ⊢
  rw [DS,List.any_cons,ih]
  show ((y==x) || decide (x∈r))=decide (x∈y::r)
  by_cases h:y=x
  . subst h;simp
  . have h2:¬ x=y:=fun z=>h z.symm
    simp [h,h2]
theorem iA:∀ o:List Int,(o.map V.int).all j9=true
 | []=>rfl
 | _::r=>iA r
theorem SqTL.same {K:PySem.W.Frag} {H H':Hp} {p:Addr} {xs:List V} (e:aM H H') (h:SqL K H p xs\/SqT K H p xs):SqL K H' p xs\/SqT K H' p xs:=by
 rcases h with h | h
 . exact .inl (e.seq h)
 . refine .inr ?_
   rcases h with (h | ⟨o,h⟩) | h
   . exact .inl (.inl (e _ _ h))
   . exact .inl (.inr ⟨o,e _ _ h⟩)
   . exact .inr h
theorem xE {K:PySem.W.Frag} {H:Hp} {v:V} {o:List Int} (r:Rep H v (iW o)):∃ p,v=.ref p/\H p=some (.tup (o.map V.int)):=by
 obtain ⟨p,vs,rfl,hp,rs⟩:=r.tup_inv
 rw [Reps.ints_inv rs] at hp
 exact ⟨p,rfl,hp⟩
section
variable {P:Program} {w:World} {K:PySem.W.Frag} {mg:Str->Option Value} {base:Heap}
theorem pD {ns:List Int} {k:Int} (h0:0<=k) (h1:k<(ns.length:Int)):∃ v:Int,atI (ns.map V.int) k=some (.int v):=by
 have hk:k.toNat<ns.length:=by omega
 have ek:k=((k.toNat:Nat):Int):=by omega
 have q:atI (ns.map V.int) ((k.toNat:Nat):Int)=some (.int ns[k.toNat]):=eI (by rw [Di,C7 hk]<;>rfl)
 rw [<- ek] at q
 exact ⟨_,q⟩
theorem yR {xs:List V} {v:V} {k:Int} (h0:0<=k) (h:xs[k.toNat]? =some v):atI xs k=some v:=by
 have q:=eI h
 rw [show ((k.toNat:Nat):Int)=k by omega] at q
 exact q
def xx (K:PySem.W.Frag):Sp:=fun vs H Q _=>∃ (a:Addr) (ns:List Int) (k:Int),vs=[.ref a,.int k]/\Scr K H a ns/\0<=k/\∀ (r:Int) (H':Hp),aM H H'->Q (.int r) H'
theorem iS (T:Txt K mg):bP P w K mg base (CXr P w) 1 T.law_cell_at.a T.law_cell_at.d ["_law_script","_law_k"] (xx K):=by
 refine T.law_cell_at.F.okN iJ (fun vs H Q E h=>?_) (fun cdv A outer s H vs Q E hr h=>?_)
 . obtain ⟨a,ns,k,rfl,_⟩:=h;rfl
 obtain ⟨a,ns,k,rfl,hS,h0,q⟩:=h
 refine ⟨_,(ai (cV (bF Ad (pv 1) (az aF rfl T.n_len cn (ad (pv 0) af)) (cf _)) (am (aB (aO bZ (pv 0) (pv 1) (fun _ _=>rfl)))) bj) (ai (cV (bF (vJ hr.units0) (pv 0) (dl af) (cf _)) (am (aB ap)) bj) (am (aB (aN bt (aN ja (aO bZ (pv 0) (aN jb (pv 1) (az aF rfl T.n_len cn (ad (pv 0) af))) (fun _ _=>rfl)) ap) (pv 1)))))),?_⟩
 have hl:(ns.map V.int).length=ns.length:=Da _
 refine ⟨_,rfl,_,rfl,a,_,rfl,.inl hS.sq,_,_,rfl,rfl,_,rfl,?_⟩
 refine Ax (fun c=>?_) (fun c=>?_)
 . have c':=of_decide_eq_true c
   rw [hl] at c'
   obtain ⟨v,hv⟩:=pD (ns:=ns) h0 c'
   exact ⟨_,rfl,_,rfl,a,_,_,_,rfl,rfl,hS.sq,hv,q v H (aM.refl H)⟩
 . have c':=of_decide_eq_false (Bool.eq_false_iff.mpr c)
   rw [hl] at c'
   refine ⟨_,rfl,DD _,fun l hl'=>?_⟩
   have g1:=ak hl' (.lst [])
   have hS1:=hS.same g1
   refine ⟨a,l,_,rfl,rfl,hS1.sq,SqL.of ah,_,rfl,?_⟩
   refine Ax (fun c2=>?_) (fun c2=>?_)
   . exact q 0 _ g1
   . have hne:ns≠[]:=fun z=>c2 (by rw [z];rfl)
     have hpos:(0:Int)<((ns.map V.int).length:Int):=by rw [hl];have:=List.length_pos_iff.mpr hne;omega
     have m0:=Int.emod_nonneg k (show ((ns.map V.int).length:Int)≠0 by omega)
     have m1:=Int.emod_lt_of_pos k hpos
     obtain ⟨v,hv⟩:=pD (ns:=ns) m0 (by rw [hl] at m1 ⊢;exact m1)
     exact ⟨_,rfl,_,rfl,_,rfl,a,_,rfl,.inl hS1.sq,_,_,rfl,rfl,hpos,a,_,_,_,rfl,rfl,hS1.sq,hv,_,_,rfl,rfl,.inr ⟨by decide,by decide⟩,_,rfl,_,_,rfl,rfl,q _ _ g1⟩
def ve (K:PySem.W.Frag):Sp:=fun vs H Q _=>∃ (a:Addr) (ns:List Int) (k m:Int),vs=[.ref a,.int k,.int m]/\Scr K H a ns/\0<=k/\0<m/\∀ (r:Int) (H':Hp),0<=r->r<m->aM H H'->Q (.int r) H'
theorem lB (T:Txt K mg):bP P w K mg base (CXr P w) 2 T.law_mixed.a T.law_mixed.d ["_law_script","_law_k","_law_many"] (ve K):=by
 refine T.law_mixed.F.okN fU (fun vs H Q E h=>?_) (fun cdv A outer s H vs Q E hr h=>?_)
 . obtain ⟨a,ns,k,m,rfl,_⟩:=h;rfl
 obtain ⟨a,ns,k,m,rfl,hS,h0,hm,q⟩:=h
 refine ⟨_,(ai (aD (i:=3) fU.nd rfl (by first|exact .inl rfl|exact .inr rfl) (aN jb (aN bt (aN bt (aN ja (aj (iS T) (hr.mono (by decide)) rfl T.law_cell_at.m T.law_cell_at.F.kp T.law_cell_at.b .nil aw (ad (pv 0) (ad (pv 1) af))) ap) (aN ja ap (pv 1))) ap) ap)) (am (aB (aN jb (aN jb (aN jb (aN Ab (pv 3) ap) ap) ap) (pv 2))))),?_⟩
 refine ⟨_,rfl,_,rfl,a,ns,k,rfl,hS,h0,fun r H1 g1=>?_⟩
 refine ⟨_,_,rfl,rfl,.inr ⟨by decide,by decide⟩,_,rfl,_,_,rfl,rfl,.inl ⟨by decide,by decide⟩,_,_,rfl,rfl,_,_,rfl,rfl,_,_,rfl,rfl,(by show (0:Int)<2147483647;decide),?_⟩
 have l1:=Int.emod_nonneg (r*1103515245+7919*k+12345) (show (2147483647:Int)≠0 by decide)
 have l2:=Int.emod_lt_of_pos (r*1103515245+7919*k+12345) (show (0:Int)<2147483647 by decide)
 refine ⟨_,rfl,_,_,rfl,rfl,⟨by decide,by decide,?_⟩,_,_,rfl,rfl,(by show (0:Int)<2147483647;decide),_,_,rfl,rfl,(by show (0:Int)<999983;decide),_,rfl,_,_,rfl,rfl,hm,?_⟩
 . exact Do (show _<2147483647 by omega) (by decide)
 exact q _ H1 (Int.emod_nonneg _ (by omega)) (Int.emod_lt_of_pos _ hm) g1
def xv (K:PySem.W.Frag):Sp:=fun vs H Q _=>∃ (a t:Addr) (ns:List Int) (n:Nat) (m:Int),vs=[.ref a,.ref t,.int m]/\Scr K H a ns/\H t=some (.lst (dU n))/\n<5000/\0<m/\
 ∀ (r:Int) (H':Hp),0<=r->r<m->bU t H H'->H' t=some (.lst (dU (n+1)))->Q (.int r) H'
theorem bY (T:Txt K mg):bP P w K mg base (CXr P w) 3 T.law_draw.a T.law_draw.d ["_law_script","_law_town","_law_many"] (xv K):=by
 refine T.law_draw.F.okN mZ (fun vs H Q E h=>?_) (fun cdv A outer s H vs Q E hr h=>?_)
 . obtain ⟨a,t,ns,n,m,rfl,_⟩:=h;rfl
 obtain ⟨a,t,ns,n,m,rfl,hS,ht,hn,hm,q⟩:=h
 refine ⟨_,(ai (bn (ny Ex PySem.F.slot_list_append PySem.F.type_list_append dy (pv 1) (ad ap af))) (am (aB (aj (lB T) (hr.mono (by decide)) rfl T.law_mixed.m T.law_mixed.F.kp T.law_mixed.b .nil aw (ad (pv 0) (ad (az aF rfl T.n_len cn (ad (pv 1) af)) (ad (pv 2) af))))))),?_⟩
 refine ⟨_,rfl,.inl ⟨rfl,_,SqL.of ht⟩,t,_,_,rfl,rfl,ht,(by rw [qT];exact Do hn (by decide)),?_⟩
 rw [pM]
 have gx:bU t H (upd H t (.lst (dU (n+1)))):=(bU.refl t H).write _
 have hS1:=gx.scr ht hS
 refine ⟨_,rfl,_,rfl,t,_,rfl,.inl (SqL.of ah),_,rfl,a,ns,_,m,rfl,hS1,by omega,hm,fun r H' l1 l2 g=>?_⟩
 exact q r H' l1 l2 (gx.trans (g.x t)) (g _ _ ah)
def xt (K:PySem.W.Frag):Sp:=fun vs H Q _=>∃ (a t p:Addr) (ns:List Int) (n:Nat) (xs:List V),vs=[.ref a,.ref t,.ref p]/\Scr K H a ns/\H t=some (.lst (dU n))/\n<5000/\H p=some (.lst xs)/\p≠t/\xs≠[]/\
 ∀ (v:V) (H':Hp),v∈xs->bU t H H'->H' t=some (.lst (dU (n+1)))->Q v H'
theorem nC (T:Txt K mg):bP P w K mg base (CXr P w) 4 T.law_pick.a T.law_pick.d ["_law_script","_law_town","_law_some_here"] (xt K):=by
 refine T.law_pick.F.okN mY (fun vs H Q E h=>?_) (fun cdv A outer s H vs Q E hr h=>?_)
 . obtain ⟨a,t,p,ns,n,xs,rfl,_⟩:=h;rfl
 obtain ⟨a,t,p,ns,n,xs,rfl,hS,ht,hn,hp,hpt,hx,q⟩:=h
 refine ⟨_,(am (aB (aO bZ (pv 2) (aj (bY T) (hr.mono (by decide)) rfl T.law_draw.m T.law_draw.F.kp T.law_draw.b .nil aw (ad (pv 0) (ad (pv 1) (ad (az aF rfl T.n_len cn (ad (pv 2) af)) af)))) (fun _ _=>rfl)))),?_⟩
 have hpos:=List.length_pos_iff.mpr hx
 refine ⟨_,rfl,_,rfl,_,rfl,_,rfl,p,_,rfl,.inl (SqL.of hp),a,t,ns,n,_,rfl,hS,ht,hn,by omega,fun r H' l1 l2 g ht'=>?_⟩
 have hr':r.toNat<xs.length:=by omega
 exact ⟨p,xs,r,xs[r.toNat],rfl,rfl,SqL.of (g p _ hpt hp),yR l1 (by simp [hr']),q _ H' (DX hr') g ht'⟩
def u8 (K:PySem.W.Frag):Sp:=fun vs H Q _=>∃ (a t:Addr) (ns:List Int) (n:Nat) (most wide:Int),vs=[.ref a,.ref t,.int most,.int wide]/\Scr K H a ns/\H t=some (.lst (dU n))/\n<4000/\1<=most/\most<=10/\1<=wide/\wide<=99/\
 ∀ (W:Wd) (v:V) (n':Nat) (H':Hp),W.Ok->(W.bs.length:Int)<=most->(∀ p∈W.bs,p.2<=p.1+wide-1)->Rep H' v (cv W)->bU t H H'->H' t=some (.lst (dU n'))->n'<=n+24->Q v H'
theorem lA (T:Txt K mg):bP P w K mg base (CXr P w) 5 T.law_world.a T.law_world.d ["_law_script","_law_town","_law_most","_law_wide"] (u8 K):=by
 refine T.law_world.F.okN bQ (fun vs H Q E h=>?_) (fun cdv A outer s H vs Q E hr h=>?_)
 . obtain ⟨a,t,ns,n,most,wide,rfl,_⟩:=h;rfl
 obtain ⟨a,t,ns,n,most,wide,rfl,hS,ht,hn,hm1,hm2,hw1,hw2,q⟩:=h
 refine ⟨_,(ai (aD (i:=4) bQ.nd rfl (by first|exact .inl rfl|exact .inr rfl) (bV af)) (ai (aD (i:=5) bQ.nd rfl (by first|exact .inl rfl|exact .inr rfl) (aj (nC T) (hr.mono (by decide)) rfl T.law_pick.m T.law_pick.F.kp T.law_pick.b .nil aw (ad (pv 0) (ad (pv 1) (ad (dl (ad ap (ad ap (ad ap (ad ap af))))) af))))) (ai (cD Ea rfl (cQ rfl T.n_range (ad (aN bt ap (aj (bY T) (hr.mono (by decide)) rfl T.law_draw.m T.law_draw.F.kp T.law_draw.b .nil aw (ad (pv 0) (ad (pv 1) (ad (pv 2) af))))) af)) (aC (i:=6) bQ.nd rfl (by first|exact .inl rfl|exact .inr rfl)) (ai (aD (i:=7) bQ.nd rfl (by first|exact .inl rfl|exact .inr rfl) (aN bt ap (aj (bY T) (hr.mono (by decide)) rfl T.law_draw.m T.law_draw.F.kp T.law_draw.b .nil aw (ad (pv 0) (ad (pv 1) (ad (pv 5) af)))))) (am (aD (i:=4) bQ.nd rfl (by first|exact .inl rfl|exact .inr rfl) (aN sO (pv 4) (bV (ad (bV (ad (pv 7) (ad (az (mj rfl) rfl T.n_min uz (ad ap (ad (aN bt (pv 7) (aj (bY T) (hr.mono (by decide)) rfl T.law_draw.m T.law_draw.F.kp T.law_draw.b .nil aw (ad (pv 0) (ad (pv 1) (ad (pv 3) af))))) af))) af))) af))))))) (am (aB (bV (ad (aN bt ap (aj (bY T) (hr.mono (by decide)) rfl T.law_draw.m T.law_draw.F.kp T.law_draw.b .nil aw (ad (pv 0) (ad (pv 1) (ad ap af))))) (ad (pv 4) af)))))))),?_⟩
 refine ⟨by show 0<=sizeLine;decide,fun m0 hm0=>?_⟩
 have g0:=ak hm0 (.tup [])
 have hS0:=hS.same g0
 have t0:=g0 _ _ ht
 have hm00:upd H m0 (.tup []) m0=some (.tup []):=ah
 generalize upd H m0 (.tup [])=H0 at*
 refine ⟨_,rfl,_,rfl,(by show 4<=sizeLine;decide),fun p hp=>?_⟩
 have hpt:p≠t:=fun z=>by rw [z,t0] at hp;cases hp
 have g1:=ak hp (.lst [.int 4,.int 9,.int 30,.int 90])
 refine ⟨a,t,p,ns,n,_,rfl,hS0.same g1,g1 _ _ t0,by omega,ah,hpt,by simp,fun v H2 hv g2 t2=>?_⟩
 obtain ⟨top',rfl,htop1,htop2⟩:∃ z:Int,v=.int z/\1<=z/\z<=90:=by
  simp only [DI,En,or_false] at hv
  rcases hv with rfl | rfl | rfl | rfl
  . exact ⟨4,rfl,by omega,by omega⟩
  . exact ⟨9,rfl,by omega,by omega⟩
  . exact ⟨30,rfl,by omega,by omega⟩
  . exact ⟨90,rfl,by omega,by omega⟩
 have gx2:bU t H0 H2:=(g1.x t).trans g2
 have hS2:=gx2.scr t0 hS0
 have m02:m0≠t:=fun z=>by rw [z,t0] at hm00;cases hm00
 have hm2':=gx2 _ _ m02 hm00
 refine ⟨_,rfl,_,rfl,_,rfl,a,t,ns,n+1,most,rfl,hS2,t2,by omega,by omega,fun r H3 r0 r1 g3 t3=>?_⟩
 have hS3:=g3.scr t2 hS2
 have gx3:bU t H H3:=((g0.x t).trans gx2).trans g3
 refine ⟨_,_,rfl,rfl,1+r,rfl,by omega,by omega,dC (n:=(1+r).toNat) (fun i σ H4=>∃ (n2:Nat) (m:Addr) (ws:List V) (bl:List (Int×Int)) (x y:Option V),σ=[some (.ref a),some (.ref t),some (.int most),some (.int wide),some (.ref m),some (.int top'),x,y]/\
     bU t H H4/\H4 t=some (.lst (dU n2))/\n2<=n+2+2*i/\H4 m=some (.tup ws)/\Reps H4 ws (bl.map jl)/\bl.length=i/\∀ p∈bl,1<=p.1/\p.1<=p.2/\p.2<=99/\p.2<=p.1+wide-1) ?_ ?_ ?_⟩
 . exact ⟨n+2,m0,[],[],none,none,rfl,gx3,t3,by omega,g3 _ _ m02 hm2',.nil,rfl,fun p hp=>nomatch hp⟩
 . rintro i σ H4 hi ⟨n2,m,ws,bl,x,y,rfl,g4,t4,hn2,hm4,rs,hbl,hb⟩
   have hi10:i<10:=by omega
   have hS4:=g4.scr ht hS
   refine ⟨_,rfl,_,rfl,_,rfl,a,t,ns,n2,top',rfl,hS4,t4,by omega,by omega,fun r1 H5 a1 a2 g5 t5=>?_⟩
   have hS5:=g5.scr t4 hS4
   refine ⟨_,_,rfl,rfl,?_⟩
   refine ⟨_,rfl,_,rfl,_,rfl,_,rfl,_,rfl,_,rfl,a,t,ns,n2+1,wide,rfl,hS5,t5,by omega,by omega,fun r2 H6 b1 b2 g6 t6=>?_⟩
   refine ⟨_,_,rfl,rfl,_,_,rfl,(by show 2<=sizeLine;decide),fun p3 hp3=>?_⟩
   have mt:m≠t:=fun z=>by rw [z,t4] at hm4;cases hm4
   have ts6:bG H4 H6:=(g5.ts t4).trans (g6.ts t5)
   have k3:=ak hp3 (.tup [.int (1+r1),.int (if 1+r1+r2<99 then 1+r1+r2 else 99)])
   have e3:upd H6 p3 (.tup [.int (1+r1),.int (if 1+r1+r2<99 then 1+r1+r2 else 99)]) p3=some (.tup [.int (1+r1),.int (if 1+r1+r2<99 then 1+r1+r2 else 99)]):=ah
   generalize upd H6 p3 (.tup [.int (1+r1),.int (if 1+r1+r2<99 then 1+r1+r2 else 99)])=H7 at*
   refine ⟨by show 1<=sizeLine;decide,fun p4 hp4=>?_⟩
   have k4:=ak hp4 (.tup [.ref p3])
   have e4:upd H7 p4 (.tup [.ref p3]) p4=some (.tup [.ref p3]):=ah
   generalize upd H7 p4 (.tup [.ref p3])=H8 at*
   have k34:=k3.trans k4
   have hm8:=k34 _ _ (ts6 _ _ hm4)
   have wl:=rs.length
   rw [Da,hbl] at wl
   refine ⟨m,p4,ws,[.ref p3],rfl,rfl,hm8,e4,DP (show ws.length+1<=100 by omega) (by decide),fun p5 H9 g9 h9=>?_⟩
   have ts9:bG H4 H9:=(ts6.trans k34.ts).trans g9.ts
   refine ⟨n2+2,p5,ws++[.ref p3],bl++[(1+r1,if 1+r1+r2<99 then 1+r1+r2 else 99)],_,_,rfl,?_,g9 _ _ (k34 _ _ t6),by omega,h9,?_,by simp [hbl],fun p hp=>?_⟩
   . exact ((g4.trans g5).trans g6).trans ((k34.trans g9).x t)
   . rw [DR]
     refine (rs.tmono ts9 (kz bl)).append (Reps.one (.tup (g9 _ _ (k4 _ _ e3)) (Reps.ints (ns:=[_,_]))))
   . rcases DN.mp hp with hp | hp
     . exact hb p hp
     . have e:=D5.mp hp
       subst e
       dsimp only
       split<;>omega
 . rintro σ H4 ⟨n2,m,ws,bl,x,y,rfl,g4,t4,hn2,hm4,rs,hbl,hb⟩
   have hS4:=g4.scr ht hS
   have hbl':bl.length=(1+r).toNat:=hbl
   refine ⟨_,rfl,_,rfl,a,t,ns,n2,4,rfl,hS4,t4,by omega,by decide,fun r3 H5 c1 c2 g5 t5=>?_⟩
   refine ⟨_,_,rfl,rfl,_,rfl,by show 2<=sizeLine;decide,fun p2 hp2=>?_⟩
   have k2:=ak hp2 (.tup [.int (1+r3),.ref m])
   have ts:bG H4 (upd H5 p2 (.tup [.int (1+r3),.ref m])):=(g5.ts t4).trans k2.ts
   refine q ⟨1+r3,bl⟩ _ n2.succ _ ⟨by show 1<=1+r3;omega,by show 1+r3<=4;omega,by show 1<=bl.length;omega,by show bl.length<=10;omega,fun p hp=>?_⟩ (by show (bl.length:Int)<=most;omega) (fun p hp=>(hb p hp).2.2.2) ?_ ((g4.trans g5).new hp2 _) (k2 _ _ t5) (by omega)
   . have:=hb p hp
     exact ⟨this.1,this.2.1,this.2.2.1⟩
   . exact .tup ah (.cons (.int _) (.cons (.tup (ts _ _ hm4) (rs.tmono ts (kz bl))) .nil))
def InB (W:Wd) (ls:List Int):Prop:=ls.length=W.bs.length/\∀ (i:Nat) (p:Int×Int) (x:Int),W.bs[i]? =some p->ls[i]? =some x->p.1<=x/\x<=p.2
theorem InB.l10 {W:Wd} {ls:List Int} (h:InB W ls) (hok:W.Ok):ls.length<=10:=by rw [h.1];exact hok.l10
def xr (K:PySem.W.Frag):Sp:=fun vs H Q _=>∃ (a t:Addr) (v:V) (ns:List Int) (n:Nat) (W:Wd),vs=[.ref a,.ref t,v]/\Scr K H a ns/\H t=some (.lst (dU n))/\n<4000/\Rep H v (cv W)/\W.Ok/\
 ∀ (ls:List Int) (p:Addr) (n':Nat) (H':Hp),InB W ls->H' p=some (.tup (ls.map V.int))->bU t H H'->H' t=some (.lst (dU n'))->n'<=n+10->Q (.ref p) H'
theorem mD {x y:V} {r:St}:∀ (k:Nat) (v:V),(none::none::r:St)[k]? =some (some v)->(((none::none::r:St).set 0 (some x)).set 1 (some y))[k]? =some (some v)
 | 0,v,h=>by cases h
 | 1,v,h=>by cases h
 | k+2,v,h=>h
theorem nB (T:Txt K mg):bP P w K mg base (CXr P w) 4 T.law_some.a T.law_some.d ["_law_script","_law_town","_law_world_here"] (xr K):=by
 refine T.law_some.F.okN mX (fun vs H Q E h=>?_) (fun cdv A outer s H vs Q E hr h=>?_)
 . obtain ⟨a,t,v,ns,n,W,rfl,_⟩:=h;rfl
 obtain ⟨a,t,v,ns,n,W,rfl,hS,ht,hn,hW,hok,q⟩:=h
 refine ⟨_,(am (aB (cz cZ rfl T.n_tuple de (ad (bS (NB:=["_law_low","_law_high","_law_script","_law_town"]) (js:=[none,none,some 0,some 1]) rfl (bA rfl (by decide+kernel) rfl (by decide+kernel) (by decide+kernel) (by with_unfolding_all rfl) (by with_unfolding_all rfl) (by with_unfolding_all rfl) (by with_unfolding_all rfl)) (oD (aO aL (pv 2) ap (fun _ _=>rfl))) (fun _ _ _ _=>(df K (n:=2) rfl (aP (aC (i:=0) (show (["_law_low","_law_high","_law_script","_law_town"]:List Str).Nodup by decide+kernel) rfl (by first|exact .inl rfl|exact .inr rfl)) (aP (aC (i:=1) (show (["_law_low","_law_high","_law_script","_law_town"]:List Str).Nodup by decide+kernel) rfl (by first|exact .inl rfl|exact .inr rfl)) cI)))) (fun _ _ _ _=>dk) (fun _ _ _ _=>(aN bt (pv 0) (aj (bY T) (hr.mono (by decide)) rfl T.law_draw.m T.law_draw.F.kp T.law_draw.b .nil aw (ad (pv 2) (ad (pv 3) (ad (aN bt (aN ip (pv 1) (pv 0)) ap) af))))))) af)))),?_⟩
 obtain ⟨ca,cp,cvs,AW⟩:=atW hW
 obtain rfl:=AW.v
 have l10:=hok.l10
 refine ⟨_,rfl,ca,_,_,_,rfl,rfl,SqT.of AW.a,rfl,cp,rfl,⟨_,SqT.of AW.p⟩,fun D hD=>?_⟩
 have Dt:D≠t:=fun z=>by rw [z,ht] at hD;cases hD
 refine um (K:=K) (a:=cp) (xs:=cvs) (fun i ys H2=>∃ (n2:Nat) (ls:List Int),bU t H H2/\H2 t=some (.lst (dU n2))/\n2<=n+i/\H2 D=some (.lst ys)/\ys=ls.map V.int/\ls.length=i/\∀ (j:Nat) (p:Int×Int) (x:Int),W.bs[j]? =some p->ls[j]? =some x->p.1<=x/\x<=p.2)
  ⟨n,[],(bU.refl t H).new hD _,by rw [aA (Ne.symm Dt)];exact ht,by omega,ah,rfl,rfl,fun j p x _ h=>by cases h⟩ (fun i ys H2 _ hP=>?_) (fun i ys y H2 hy hP=>?_) (fun ys H2 hP=>?_)
 . obtain ⟨n2,ls,g,_⟩:=hP
   exact SqT.of (g.ts ht _ _ AW.p)
 . obtain ⟨n2,ls,g,t2,hn2,hD2,rfl,hll,hb⟩:=hP
   have hi:i<W.bs.length:=by rw [<- AW.len];exact (Db.mp hy).1
   obtain ⟨q',hq',hqt⟩:=AW.it i _ (C7 hi)
   rw [hy] at hq'
   obtain rfl:=Dg hq'
   have bp:=hok.bd _ (DX hi)
   have epp:W.bs[i]? =some W.bs[i]:=C7 hi
   generalize W.bs[i]=pp at*
   have hS2:=g.scr ht hS
   refine ⟨q',_,rfl,SqT.of (g.ts ht _ _ hqt),rfl,_,_,rfl,_,_,rfl,rfl,mD,cg ⟨_,rfl,_,rfl,_,rfl,_,rfl,_,rfl,_,_,rfl,rfl,_,_,rfl,rfl,a,t,ns,n2,_,rfl,hS2,t2,by omega,by omega,fun r H3 r0 r1 g3 t3=>?_⟩⟩
   refine ⟨_,_,rfl,rfl,g3 _ _ Dt hD2,?_,n2+1,ls++[pp.1+r],?_,?_,by omega,ah,by rw [DR];rfl,by simp [hll],fun j p x hp hx=>?_⟩
   . rw [Da]
     exact Do (show _<100 by omega) (by decide)
   . intro b o nb hb'
     have nD:b≠D:=fun z=>by rw [z,hD] at hb';cases hb'
     rw [aA nD]
     exact g3 b o nb (g b o nb hb')
   . rw [aA (Ne.symm Dt)];exact t3
   . by_cases c:j<i
     . rw [DL (by omega)] at hx
       exact hb j p x hp hx
     . have hj:=(Db.mp hx).1
       rw [Dm,hll] at hj
       simp only [DF,List.length_nil] at hj
       have ej:j=i:=by omega
       subst ej
       rw [DH (by omega),hll,Nat.sub_self] at hx
       have ex:pp.1+r=x:=by simpa using hx
       rw [epp] at hp
       obtain rfl:=Dg hp
       omega
 . obtain ⟨n2,ls,g,t2,hn2,hD2,rfl,hll,hb⟩:=hP
   refine ⟨D,_,rfl,.inl ⟨SqL.of hD2,fun p hp=>?_⟩⟩
   have k:=ak hp (.tup (ls.map V.int))
   exact q ls p n2 _ ⟨by rw [hll,AW.len],hb⟩ ah (g.trans (k.x t)) (k _ _ t2) (by rw [AW.len] at hn2;omega)
end
end Be
namespace Be
open PySem L2
def aX (d:PyData) (lo hi:Int):Bool:=match d with
 | .int i=>decide (lo<=i) && decide (i<=hi)
 | _=>false
def eC:PyData->Bool
 | .tuple ds=>decide (ds.length=2)
 | _=>false
def n9:PyData->Bool
 | .tuple [.int i,b]=>aX (.int i) 1 99 && aX b i 99
 | _=>false
def yS:PyData->Bool
 | .tuple ds=>decide (1<=ds.length) && decide (ds.length<=10) && ds.all n9
 | _=>false
def qp:PyData->Bool
 | .tuple [b,x]=>aX b 1 4 && yS x
 | _=>false
theorem sI {d:PyData} (h:eC d=true):∃ x y,d=.tuple [x,y]:=by
 cases d with
 | tuple ds=>
  have:=of_decide_eq_true (show decide (ds.length=2)=true from h)
  match ds,this with
  | [x,y],_=>exact ⟨x,y,rfl⟩
 | _=>cases h
theorem A5 {d:PyData} (h:eC d=false):n9 d=false:=by
 unfold n9
 split
 . cases h
 . rfl
theorem Az {d:PyData} (h:eC d=false):qp d=false:=by
 unfold qp
 split
 . cases h
 . rfl
section
variable {P:Program} {w:World} {K:PySem.W.Frag} {mg:Str->Option Value} {base:Heap}
def jA:Sp:=fun vs H Q _=>∃ (v:V) (d:PyData) (lo hi:Int),vs=[v,.int lo,.int hi]/\Rep H v d/\Q (.bl (aX d lo hi)) H
theorem aG (T:Txt K mg):bP P w K mg base (CXr P w) 1 T.is_whole_within.a T.is_whole_within.d ["thing","least","most"] jA:=by
 refine T.is_whole_within.F.okN eU (fun vs H Q E h=>?_) (fun cdv A outer s H vs Q E hr h=>?_)
 . obtain ⟨v,d,lo,hi,rfl,_⟩:=h;rfl
 obtain ⟨v,d,lo,hi,rfl,hd,q⟩:=h
 refine ⟨_,(ai (cV (PW.pt (jJ (cC (cB (az (dS yj) rfl T.n_isinstance bK (ad (pv 0) (ad (fN (v:=.ty "int") rfl T.n_int A3 rfl) af))))) (fW (cB (az (dS vU) rfl T.n_isinstance bK (ad (pv 0) (ad (fN (v:=.ty "bool") rfl T.n_bool yK rfl) af))))))) (am (aB iQ)) bj) (am (aB (oI nz nz (pv 1) (pv 0) (pv 2))))),?_⟩
 refine ⟨_,rfl,v,d,rfl,hd,_,rfl,?_⟩
 cases hd with
 | non=>exact cg (cg q)
 | str x=>exact cg (cg q)
 | lst e r=>exact cg (cg q)
 | tup e r=>exact cg (cg q)
 | bl b=>exact gF ⟨_,rfl,_,_,rfl,.bl b,_,rfl,cg q⟩
 | int i=>
  refine gF ⟨_,rfl,_,_,rfl,.int i,_,rfl,gF ?_⟩
  refine ⟨_,rfl,_,rfl,_,_,rfl,rfl,_,rfl,?_⟩
  refine Ax (fun c=>?_) (fun c=>?_)
  . refine ⟨_,rfl,_,_,rfl,rfl,?_⟩
    have e:aX (.int i) lo hi=decide (i<=hi):=by show (decide (lo<=i) && decide (i<=hi))=_;rw [c];rfl
    rw [e] at q
    exact q
  . have e:aX (.int i) lo hi=false:=by show (decide (lo<=i) && decide (i<=hi))=_;rw [Bool.eq_false_iff.mpr c];rfl
    rw [e] at q
    exact q
def xu:Sp:=fun vs H Q _=>∃ (v:V) (d:PyData),vs=[v]/\Rep H v d/\Q (.bl (eC d)) H
theorem jc (T:Txt K mg):bP P w K mg base (CXr P w) 1 T.is_pair.a T.is_pair.d ["thing"] xu:=by
 refine T.is_pair.F.okN p9 (fun vs H Q E h=>?_) (fun cdv A outer s H vs Q E hr h=>?_)
 . obtain ⟨v,d,rfl,_⟩:=h;rfl
 obtain ⟨v,d,rfl,hd,q⟩:=h
 refine ⟨_,(am (aB (sF (az (dS fk) rfl T.n_isinstance bK (ad (pv 0) (ad (fN (v:=.ty "tuple") rfl T.n_tuple de rfl) af))) (wL (nw vK (az aF rfl T.n_len cn (ad (pv 0) af)) ap (cf _)))))),?_⟩
 refine ⟨_,rfl,v,d,rfl,hd,_,rfl,?_⟩
 cases hd with
 | non=>exact gF q
 | str x=>exact gF q
 | bl b=>exact gF q
 | int i=>exact gF q
 | lst e r=>exact gF q
 | @tup a vs ds e r=>
  refine cg ⟨_,rfl,a,_,rfl,.inr (SqT.of e),rfl,?_⟩
  have z:decide (V.int (vs.length:Int)=V.int 2)=eC (.tuple ds):=by
   show _=decide (ds.length=2)
   rw [r.length]
   by_cases h2:ds.length=2
   . rw [h2];rfl
   . rw [Dw h2,Dw]
     intro z
     have:=V.int.inj z
     omega
  rw [z]
  exact q
def zC:Sp:=fun vs H Q _=>∃ (v:V) (d:PyData),vs=[v]/\Rep H v d/\Q (.bl (n9 d)) H
theorem dw (T:Txt K mg):bP P w K mg base (CXr P w) 2 T.are_bounds_of_work.a T.are_bounds_of_work.d ["thing"] zC:=by
 refine T.are_bounds_of_work.F.okN dr (fun vs H Q E h=>?_) (fun cdv A outer s H vs Q E hr h=>?_)
 . obtain ⟨v,d,rfl,_⟩:=h;rfl
 obtain ⟨v,d,rfl,hd,q⟩:=h
 refine ⟨_,(ai (cV (PW.pt (jJ (cC (cB (aj (jc T) (hr.mono (by decide)) rfl T.is_pair.m T.is_pair.F.kp T.is_pair.b .nil aw (ad (pv 0) af)))) (fW (cC (cB (aj (aG T) (hr.mono (by decide)) rfl T.is_whole_within.m T.is_whole_within.F.kp T.is_whole_within.b .nil aw (ad (aO aL (pv 0) ap (fun _ _=>rfl)) (ad ap (ad (ij (v:=.int 99) rfl T.c_MOST_LENGTH.choose_spec ⟨_,rfl⟩) af))))))))) (am (aB iQ)) bj) (am (aB (aj (aG T) (hr.mono (by decide)) rfl T.is_whole_within.m T.is_whole_within.F.kp T.is_whole_within.b .nil aw (ad (aO aL (pv 0) ap (fun _ _=>rfl)) (ad (aO aL (pv 0) ap (fun _ _=>rfl)) (ad (ij (v:=.int 99) rfl T.c_MOST_LENGTH.choose_spec ⟨_,rfl⟩) af))))))),?_⟩
 refine ⟨_,rfl,v,d,rfl,hd,_,rfl,?_⟩
 cases hp:eC d with
 | false=>
  rw [A5 hp] at q
  exact cg (cg q)
 | true=>
  obtain ⟨x,y,rfl⟩:=sI hp
  obtain ⟨a,vs,rfl,ha,rs⟩:=hd.tup_inv
  cases rs with
  | @cons v1 _ _ _ r1 rs=>
   cases rs with
   | @cons v2 _ _ _ r2 rs=>
    cases rs
    refine gF ⟨_,rfl,a,_,_,_,rfl,rfl,SqT.of ha,rfl,_,x,1,99,rfl,r1,_,rfl,?_⟩
    cases hx:aX x 1 99 with
    | false=>
     have e:n9 (.tuple [x,y])=false:=by
      cases x with
      | int i=>show (aX (.int i) 1 99 && _)=false;rw [hx];rfl
      | _=>rfl
     rw [e] at q
     exact cg q
    | true=>
     cases r1 with
     | int i=>
      refine gF ?_
      refine ⟨_,rfl,a,_,_,_,rfl,rfl,SqT.of ha,rfl,_,rfl,a,_,_,_,rfl,rfl,SqT.of ha,rfl,v2,y,i,99,rfl,r2,?_⟩
      have e:n9 (.tuple [.int i,y])=aX y i 99:=by show (aX (.int i) 1 99 && _)=_;rw [hx];rfl
      rw [e] at q
      exact q
     | _=>cases hx
def zF:Sp:=fun vs H Q _=>∃ (v:V) (d:PyData),vs=[v]/\Rep H v d/\∀ H',aM H H'->Q (.bl (yS d)) H'
theorem jT (T:Txt K mg):bP P w K mg base (CXr P w) 3 T.are_bounds.a T.are_bounds.d ["thing"] zF:=by
 refine T.are_bounds.F.okN jG (fun vs H Q E h=>?_) (fun cdv A outer s H vs Q E hr h=>?_)
 . obtain ⟨v,d,rfl,_⟩:=h;rfl
 obtain ⟨v,d,rfl,hd,q⟩:=h
 refine ⟨_,(ai (cV (PW.pt (jJ (cC (cB (az (dS fk) rfl T.n_isinstance bK (ad (pv 0) (ad (fN (v:=.ty "tuple") rfl T.n_tuple de rfl) af))))) (fW (cC (vA nz nz ap (az aF rfl T.n_len cn (ad (pv 0) af)) (ij (v:=.int 10) rfl T.c_MOST_WORKS.choose_spec ⟨_,rfl⟩)))))) (am (aB iQ)) bj) (am (aB (az (fA rfl) rfl T.n_all py (ad (bS (NB:=["part"]) (js:=[none]) rfl (bA rfl (by decide+kernel) rfl (by decide+kernel) (by decide+kernel) (by with_unfolding_all rfl) (by with_unfolding_all rfl) (by with_unfolding_all rfl) (by with_unfolding_all rfl)) (oD (pv 0)) (fun _ _ _ _=>(aC (i:=0) (show (["part"]:List Str).Nodup by decide+kernel) rfl (by first|exact .inl rfl|exact .inr rfl))) (fun _ _ _ _=>dk) (fun _ _ _ _=>(aj (dw T) (hr.mono (by decide)) rfl T.are_bounds_of_work.m T.are_bounds_of_work.F.kp T.are_bounds_of_work.b .nil aw (ad (pv 0) af)))) af))))),?_⟩
 refine ⟨_,rfl,v,d,rfl,hd,_,rfl,?_⟩
 cases hd with
 | non=>exact cg (cg (q H (aM.refl H)))
 | str x=>exact cg (cg (q H (aM.refl H)))
 | bl b=>exact cg (cg (q H (aM.refl H)))
 | int i=>exact cg (cg (q H (aM.refl H)))
 | lst e r=>exact cg (cg (q H (aM.refl H)))
 | @tup a vs ds e r=>
  have hl:=r.length
  refine gF ⟨_,rfl,a,_,rfl,.inr (SqT.of e),_,_,rfl,rfl,_,rfl,?_⟩
  refine Ax (fun c1=>?_) (fun c1=>?_)
  . have c1':1<=(vs.length:Int):=of_decide_eq_true c1
    refine ⟨_,_,rfl,rfl,_,rfl,?_⟩
    refine Ax (fun c2=>?_) (fun c2=>?_)
    . have c2':¬ ((vs.length:Int)<=10):=by simpa using c2
      have no:yS (.tuple ds)=false:=by
       show (_ && decide (ds.length<=10) && _)=false
       rw [Dw (show ¬ ds.length<=10 by omega)];simp
      rw [no] at q
      exact q H (aM.refl H)
    . have c2':(vs.length:Int)<=10:=by simpa using c2
      have yes:yS (.tuple ds)=ds.all n9:=by
       show (decide (1<=ds.length) && decide (ds.length<=10) && ds.all n9)=_
       rw [decide_eq_true (show 1<=ds.length by omega),decide_eq_true (show ds.length<=10 by omega)];rfl
      rw [yes] at q
      refine ⟨_,rfl,a,rfl,⟨_,SqT.of e⟩,fun D hD=>?_⟩
      refine ph (K:=K) (a:=a) (xs:=vs) (Q:=fun x H1=>Cm [x] H1 Q) (fun i ys H2=>aM H H2/\H2 D=some (.lst ys)/\ys=((ds.take i).map n9).map V.bl) ⟨ak hD _,ah,rfl⟩ (fun i ys H2 _ hP=>SqT.of (hP.1 _ _ e)) (fun i ys x H2 hx hP=>?_) (fun ys H2 hP=>?_)
      . obtain ⟨g,hD2,rfl⟩:=hP
        obtain ⟨d,hd,rx⟩:=(r.mono g).get' hx
        have hi:i<ds.length:=(Db.mp hd).1
        refine ⟨gr,cg ⟨_,rfl,x,d,rfl,rx,hD2,?_,g.write hD _,ah,?_⟩⟩
        . rw [Da,Da]
          have:=List.length_take_le i ds
          exact Do (show _<100 by omega) (by decide)
        . rw [Ep,hd,DR,DR];rfl
      . obtain ⟨g,hD2,rfl⟩:=hP
        rw [hl,DE] at hD2
        refine ⟨D,_,rfl,hD2,?_⟩
        rw [List.all_map]
        exact q H2 g
  . refine ⟨_,rfl,cg ?_⟩
    have c1':¬ (1<=(vs.length:Int)):=of_decide_eq_false (Bool.eq_false_iff.mpr c1)
    have no:yS (.tuple ds)=false:=by
     show (decide (1<=ds.length) && _ && _)=false
     rw [Dw (show ¬ 1<=ds.length by omega)];simp
    rw [no] at q
    exact q H (aM.refl H)
def zv:Sp:=fun vs H Q _=>∃ (v:V) (d:PyData),vs=[v]/\Rep H v d/\∀ H',aM H H'->Q (.bl (qp d)) H'
theorem nE (T:Txt K mg):bP P w K mg base (CXr P w) 4 T.is_world.a T.is_world.d ["thing"] zv:=by
 refine T.is_world.F.okN nc (fun vs H Q E h=>?_) (fun cdv A outer s H vs Q E hr h=>?_)
 . obtain ⟨v,d,rfl,_⟩:=h;rfl
 obtain ⟨v,d,rfl,hd,q⟩:=h
 refine ⟨_,(am (aB (sF (aj (jc T) (hr.mono (by decide)) rfl T.is_pair.m T.is_pair.F.kp T.is_pair.b .nil aw (ad (pv 0) af)) (sF (aj (aG T) (hr.mono (by decide)) rfl T.is_whole_within.m T.is_whole_within.F.kp T.is_whole_within.b .nil aw (ad (aO aL (pv 0) ap (fun _ _=>rfl)) (ad ap (ad (ij (v:=.int 4) rfl T.c_MOST_BENCHES.choose_spec ⟨_,rfl⟩) af)))) (wL (aj (jT T) (hr.mono (by decide)) rfl T.are_bounds.m T.are_bounds.F.kp T.are_bounds.b .nil aw (ad (aO aL (pv 0) ap (fun _ _=>rfl)) af))))))),?_⟩
 refine ⟨_,rfl,v,d,rfl,hd,_,rfl,?_⟩
 cases hp:eC d with
 | false=>
  rw [Az hp] at q
  exact gF (q H (aM.refl H))
 | true=>
  obtain ⟨x,y,rfl⟩:=sI hp
  obtain ⟨a,vs,rfl,ha,rs⟩:=hd.tup_inv
  cases rs with
  | @cons v1 _ _ _ r1 rs=>
   cases rs with
   | @cons v2 _ _ _ r2 rs=>
    cases rs
    refine cg ⟨_,rfl,a,_,_,_,rfl,rfl,SqT.of ha,rfl,v1,x,1,4,rfl,r1,_,rfl,?_⟩
    cases hx:aX x 1 4 with
    | false=>
     have e:qp (.tuple [x,y])=false:=by show (aX x 1 4 && _)=false;rw [hx];rfl
     rw [e] at q
     exact gF (q H (aM.refl H))
    | true=>
     have e:qp (.tuple [x,y])=yS y:=by show (aX x 1 4 && _)=_;rw [hx];rfl
     rw [e] at q
     exact cg ⟨_,rfl,a,_,_,_,rfl,rfl,SqT.of ha,rfl,v2,y,rfl,r2,fun H' g=>q H' g⟩
def xw (T:Txt K mg):Sp:=fun vs H Q E=>∃ (v:V) (d:PyData),vs=[v]/\Rep H v d/\(qp d=true->∀ H',aM H H'->Q .non H')/\(qp d=false->∀ H',aM H H'->E (.ref T.e_NoWorld.C) none H')
theorem bN (T:Txt K mg):bP P w K mg base (CXr P w) 5 T.check_world.a T.check_world.d ["world"] (xw T):=by
 refine T.check_world.F.okR iK (fun vs H Q E h=>?_) (fun cdv A outer s H vs Q E hr h=>?_)
 . obtain ⟨v,d,rfl,_⟩:=h;rfl
 obtain ⟨v,d,rfl,hd,q1,q2⟩:=h
 refine ⟨_,(am (cV (cC (cB (aj (nE T) (hr.mono (by decide)) rfl T.is_world.m T.is_world.F.kp T.is_world.b .nil aw (ad (pv 0) af)))) (am (gK T.e_NoWorld.m T.e_NoWorld.q PySem.F.excBase_ValueError hr.hd fY rfl)) bj)),?_⟩
 refine ⟨_,rfl,v,d,rfl,hd,fun H' g=>⟨_,rfl,?_⟩⟩
 cases hw:qp d with
 | true=>exact gF (q1 hw H' g)
 | false=>exact cg ⟨by show 1<=sizeLine;decide,q2 hw H' g⟩
end
end Be
namespace Be
open PySem L2
section
variable {P:Program} {w:World} {K:PySem.W.Frag} {mg:Str->Option Value} {base:Heap}
def pW (K:PySem.W.Frag):Sp:=fun vs H Q _=>∃ (v:V) (p:Addr) (W:Wd) (o:List Int),vs=[v,.ref p]/\Rep H v (cv W)/\W.Ok/\(SqL K H p (o.map V.int)\/SqT K H p (o.map V.int))/\o.length<=100/\
 ∀ (r:Addr) (H':Hp),aM H H'->H r=none->H' r=some (.lst ((kX W o).map V.int))->Q (.ref r) H'
theorem rS (o:List Int) (i:Nat):((hG (i+1)).filter fun x=>decide (x∉o))=((hG i).filter fun x=>decide (x∉o))++(if (i:Int)∈o then [] else [(i:Int)]):=by
 rw [kG,List.filter_append]
 by_cases h:(i:Int)∈o<;>simp [h]
end
end Be
namespace L2
open PySem PySem.Spec PyProof.Rows
section
variable {κ:Type} [DecidableEq κ]
def iH (kvs:List (κ×V)) (k:κ):Option V:=(kvs.find? fun kv=>decide (kv.1=k)).map (·.2)
def lh (kvs:List (κ×V)) (k:κ) (v:V):List (κ×V):=
 if (kvs.any fun kv=>decide (kv.1=k))=true then kvs.map (fun kv=>if kv.1=k then (kv.1,v) else kv) else kvs++[(k,v)]
theorem dI {p:κ×V} {r:List (κ×V)} {k:κ} (e:p.1=k):iH (p::r) k=some p.2:=by simp [iH,List.find?_cons,e]
theorem dJ {p:κ×V} {r:List (κ×V)} {k:κ} (e:¬ p.1=k):iH (p::r) k=iH r k:=by simp [iH,List.find?_cons,e]
theorem gJ (k:κ):∀ kvs:List (κ×V),(kvs.any fun kv=>decide (kv.1=k))=(iH kvs k).isSome
 | []=>rfl
 | p::r=>by
  rw [List.any_cons]
  by_cases e:p.1=k
  . simp only [dI e,decide_eq_true e,Bool.true_or,Option.isSome_some]
  . rw [dJ e,Dw e,Bool.false_or];exact gJ k r
theorem iy (kvs:List (κ×V)) (k:κ) (v:V):(lh kvs k v).length<=kvs.length+1:=by
 unfold lh
 split
 . rw [Da];omega
 . rw [Dm,DF,List.length_nil];omega
theorem vz {kvs:List (κ×V)} {k:κ} (v:V) (h:iH kvs k=none):lh kvs k v=kvs++[(k,v)]:=by
 unfold lh
 rw [gJ,h]
 exact if_neg (by decide)
theorem qK.isSome_eq {o:Option V} {u:Option Value} (r:qK o u):o.isSome=u.isSome:=by
 cases o with
 | none=>cases u with
  | none=>rfl
  | some _=>exact (show False from r).elim
 | some _=>cases u with
  | none=>exact (show False from r).elim
  | some _=>rfl
theorem qK.getD {o:Option V} {u:Option Value} {d:V} {d':Value} (r:qK o u) (rd:bB d d'):bB (o.getD d) (u.getD d'):=by
 cases o with
 | none=>cases u with
  | none=>exact rd
  | some _=>exact (show False from r).elim
 | some _=>cases u with
  | none=>exact (show False from r).elim
  | some _=>exact r
theorem KV.val {kvs:List (κ×V)} {vs:List (κ×Value)} (r:KV kvs vs) (k:κ):qK (iH kvs k) (valueAt vs k):=by
 unfold KV at r
 induction r with
 | nil=>exact True.intro
 | @cons p q ps qs h t ih=>
  obtain ⟨h1,h2⟩:=h
  by_cases e:p.1=k
  . have e':q.1=k:=h1.symm.trans e
    have b:valueAt (q::qs) k=some q.2:=by simp [valueAt,List.find?_cons,e']
    rw [dI e,b];exact h2
  . have e':¬ q.1=k:=fun z=>e (h1.trans z)
    have b:valueAt (q::qs) k=valueAt qs k:=by simp [valueAt,List.find?_cons,e']
    rw [dJ e,b];exact ih
theorem KV.any {kvs:List (κ×V)} {vs:List (κ×Value)} (r:KV kvs vs) (k:κ):(kvs.any fun kv=>decide (kv.1=k))=vs.any fun kv=>decide (kv.1=k):=by
 unfold KV at r
 induction r with
 | nil=>rfl
 | cons h t ih=>rw [List.any_cons,List.any_cons,ih,h.1]
theorem KV.repl {kvs:List (κ×V)} {vs:List (κ×Value)} (r:KV kvs vs) (k:κ) {y:V} {u:Value} (ry:bB y u):
    KV (kvs.map fun kv=>if kv.1=k then (kv.1,y) else kv) (vs.map fun kv=>if kv.1=k then (kv.1,u) else kv):=by
 unfold KV at r ⊢
 induction r with
 | nil=>exact .nil
 | @cons p q ps qs h t ih=>
  rw [DS,DS]
  refine .cons ?_ ih
  obtain ⟨h1,h2⟩:=h
  by_cases e:p.1=k
  . rw [if_pos e,if_pos (h1.symm.trans e)];exact ⟨h1,ry⟩
  . rw [if_neg e,if_neg (fun z=>e (h1.trans z))];exact ⟨h1,h2⟩
theorem KV.put {kvs:List (κ×V)} {vs:List (κ×Value)} (r:KV kvs vs) (k:κ) {y:V} {u:Value} (ry:bB y u):KV (lh kvs k y) (stored vs k u):=by
 unfold lh stored
 rw [r.any k]
 by_cases e:(vs.any fun kv=>decide (kv.1=k))=true
 . rw [if_pos e,if_pos e];exact r.repl k ry
 . rw [if_neg e,if_neg e];exact Paired.snoc r ⟨rfl,ry⟩
theorem KV.length {kvs:List (κ×V)} {vs:List (κ×Value)} (r:KV kvs vs):kvs.length=vs.length:=Paired.length r
end
theorem tE {P:Program} {w:World} {k:Key} {u:Value} (r:bB (kV k) u):(bx P w).is k u=true:=by
 cases k with
 | inl i=>obtain ⟨t,e⟩:=(show ∃ t,u=Value.int i t from r);subst e;exact nJ P w i t
 | inr x=>obtain ⟨t,e⟩:=(show ∃ t,u=Value.str x t from r);subst e;exact nI P w x t
theorem lP {P:Program} {w:World}:∀ {ks:List Key} {us:List Value},ba (ks.map kV) us->ItemsAre (bx P w) ks us
 | [],_,r=>by rw [List.map_nil] at r;cases r;exact .nil
 | k::ks,_,r=>by
  rw [DS] at r
  cases r with
  | cons h t=>exact .cons (tE h) (lP t)
abbrev KT (H:Hp):List (List Key×V)->List (List Key×Addr×Value)->Prop:=Paired fun p q=>p.1=q.1/\H q.2.1=some (.tup (p.1.map kV))/\bB p.2 q.2.2
theorem KT.val {H:Hp} {kvs:List (List Key×V)} {xs:List (List Key×Addr×Value)} (r:KT H kvs xs) (k:List Key):qK (iH kvs k) ((atKey xs k).map (·.2)):=by
 induction r with
 | nil=>exact True.intro
 | @cons p q ps qs h t ih=>
  obtain ⟨h1,_,h2⟩:=h
  by_cases e:p.1=k
  . have e':q.1=k:=h1.symm.trans e
    have b:atKey (q::qs) k=some q.2:=by simp [atKey,List.find?_cons,e']
    rw [dI e,b];exact h2
  . have e':¬ q.1=k:=fun z=>e (h1.trans z)
    have b:atKey (q::qs) k=atKey qs k:=by simp [atKey,List.find?_cons,e']
    rw [dJ e,b];exact ih
theorem KT.repl {H:Hp} {kvs:List (List Key×V)} {xs:List (List Key×Addr×Value)} (r:KT H kvs xs) (k:List Key) {y:V} {u:Value} (ry:bB y u):
    KT H (kvs.map fun kv=>if kv.1=k then (kv.1,y) else kv) (xs.map (putAt k u)):=by
 induction r with
 | nil=>exact .nil
 | @cons p q ps qs h t ih=>
  rw [DS,DS]
  refine .cons ?_ ih
  obtain ⟨h1,h2,h3⟩:=h
  unfold putAt
  by_cases e:p.1=k
  . rw [if_pos e,if_pos (h1.symm.trans e)];exact ⟨h1,h2,ry⟩
  . rw [if_neg e,if_neg (fun z=>e (h1.trans z))];exact ⟨h1,h2,h3⟩
theorem KT.put {H:Hp} {kvs:List (List Key×V)} {xs:List (List Key×Addr×Value)} (r:KT H kvs xs) (k:List Key) {b:Addr} {y:V} {u:Value} (hb:H b=some (.tup (k.map kV))) (ry:bB y u):
    KT H (lh kvs k y) (storedH xs k b u):=by
 have e:(kvs.any fun kv=>decide (kv.1=k))=(atKey xs k).isSome:=by
  rw [gJ,(r.val k).isSome_eq,Option.isSome_map]
 unfold lh storedH
 rw [e]
 by_cases q:(atKey xs k).isSome=true
 . rw [if_pos q,if_pos q];exact r.repl k ry
 . rw [if_neg q,if_neg q];exact Paired.snoc r ⟨rfl,hb,ry⟩
theorem KT.keeps {H H':Hp} {kvs:List (List Key×V)} {xs:List (List Key×Addr×Value)} (r:KT H kvs xs) (ht:∀ b ys,H b=some (.tup ys)->H' b=some (.tup ys)):KT H' kvs xs:=
 Paired.mapP r fun _ _ z=>⟨z.1,ht _ _ z.2.1,z.2.2⟩
section
variable {P:Program} {w:World} {H:Hp} {h:Heap} {a:Addr}
theorem zM {u:HO} (ok:HOk P w H h) (e:Rd H a u):bC P w H h a u:=e.ok ok
theorem qB {kvs:List (Key×V)} (ok:HOk P w H h) (e:Rd H a (.dK kvs)):kvs.length<=sizeLine/\(a==sysModules)=false/\∃ vs,KV kvs vs/\h.DictOf (bx P w) a vs:=
 show bC P w H h a (.dK kvs) from zM ok e
theorem Ca {kvs:List (Key×V)} (ok:HOk P w H h) (e:H a=some (.dK kvs)):kvs.length<=sizeLine/\(a==sysModules)=false/\∃ vs,KV kvs vs/\h.DictOf (bx P w) a vs:=qB ok (.inl e)
theorem jf {ks:List Key} (ok:HOk P w H h) (e:H a=some (.tup (ks.map kV))):(tupleKind (bx P w)).is h ks a:=by
 obtain ⟨_,its,r,o,h1,h2,_,n,h3⟩:=(show bC P w H h a (.tup (ks.map kV)) from ok a _ e)
 exact ⟨o,its.toArray,n,h1,h2,h3,by simpa using lP r⟩
theorem qA {kvs:List (List Key×V)} (ok:HOk P w H h) (e:Rd H a (.dT kvs)):kvs.length<=sizeLine/\(a==sysModules)=false/\
    ∃ xs,KT H kvs xs/\h.DictOfH (tupleKind (bx P w)) a xs:=by
 obtain ⟨z,y,xs,r,o,es,ep,h1,h2,h3,h4,h5⟩:=(show bC P w H h a (.dT kvs) from zM ok e)
 refine ⟨z,y,xs,r,o,es,ep,h1,h2,h3,h4,fun x hx=>?_,h5⟩
 have all:∀ {l:List (List Key×V)} {m:List (List Key×Addr×Value)},KT H l m->∀ x∈m,(tupleKind (bx P w)).is h x.1 x.2.1:=by
  intro l m q
  induction q with
  | nil=>intro x hx;exact nomatch hx
  | @cons p q ps qs hq t ih=>
   intro x hx
   rcases DI.mp hx with e | hx
   . subst e
     exact jf ok (by rw [<- hq.1];exact hq.2.1)
   . exact ih x hx
 exact all r x hx
theorem AS {kvs:List (List Key×V)} (ok:HOk P w H h) (e:H a=some (.dT kvs)):kvs.length<=sizeLine/\(a==sysModules)=false/\
    ∃ xs,KT H kvs xs/\h.DictOfH (tupleKind (bx P w)) a xs:=qA ok (.inl e)
end
def mF (H:Hp) (a:Addr) (y:V) (r:Option V):Prop:=
 (∃ kvs k,Rd H a (.dK kvs)/\y=kV k/\r=iH kvs k)\/∃ kvs k b,Rd H a (.dT kvs)/\y=.ref b/\H b=some (.tup (k.map kV))/\r=iH kvs k
def xf (H:Hp) (a:Addr) (y v:V) (H':Hp):Prop:=
 (∃ kvs k,H a=some (.dK kvs)/\y=kV k/\kvs.length<sizeLine/\H'=upd H a (.dK (lh kvs k v)))\/
 ∃ kvs k b,H a=some (.dT kvs)/\y=.ref b/\H b=some (.tup (k.map kV))/\kvs.length<sizeLine/\H'=upd H a (.dT (lh kvs k v))
theorem mF.k {H:Hp} {a:Addr} {kvs:List (Key×V)} {k:Key} (e:H a=some (.dK kvs)):mF H a (kV k) (iH kvs k):=.inl ⟨kvs,k,.inl e,rfl,rfl⟩
theorem mF.t {H:Hp} {a b:Addr} {kvs:List (List Key×V)} {k:List Key} (e:H a=some (.dT kvs)) (eb:H b=some (.tup (k.map kV))):mF H a (.ref b) (iH kvs k):=.inr ⟨kvs,k,b,.inl e,rfl,eb,rfl⟩
theorem xf.k {H:Hp} {a:Addr} {kvs:List (Key×V)} {k:Key} {v:V} (e:H a=some (.dK kvs)) (hl:kvs.length<sizeLine):xf H a (kV k) v (upd H a (.dK (lh kvs k v))):=.inl ⟨kvs,k,e,rfl,hl,rfl⟩
theorem xf.t {H:Hp} {a b:Addr} {kvs:List (List Key×V)} {k:List Key} {v:V} (e:H a=some (.dT kvs)) (eb:H b=some (.tup (k.map kV))) (hl:kvs.length<sizeLine):
    xf H a (.ref b) v (upd H a (.dT (lh kvs k v))):=.inr ⟨kvs,k,b,e,rfl,eb,hl,rfl⟩
section
variable {X:Cx} {pins:List (Addr×Obj)} {σ:St} {H:Hp} {s:Shared} {a:Addr} {y v:V} {u r:Value} {o:Option V} {A:Around} {E:Value->Shared->Prop}
theorem Inv.big (I:Inv X pins σ H s):sysModules<s.heap.objs.size:=by
 have h:mainGlobals<s.heap.objs.size:=(I.mod.glob.keeps I.bk).lt
 exact Nat.lt_trans (by decide) h
theorem uk {Q:Value->Shared->Prop} (hu:A.units+1<cLine) (I:Inv X pins σ H s) (g:mF H a y (some v)) (ry:bB y u) (h:∀ w' s',Inv X pins σ H s'->bB v w'->Q w' s'):
    wpAny (model X.prog X.w) A (getItem (.ref a) u) Q E s:=by
 rcases g with ⟨kvs,k,e,ey,l⟩ | ⟨kvs,k,b,e,ey,eb,l⟩
 . subst ey
   obtain ⟨z,hd,vs,rel,dd⟩:=qB I.hok e
   obtain ⟨w',hw,rw'⟩:=qK.some_of (v:=v) (o:=valueAt vs k) (by rw [l];exact rel.val k)
   exact wpAny_getItem_of (tE ry) dd.mapOf hw (h w' _ (I.tok _) rw')
 . subst ey
   cases (show u=Value.ref b from ry)
   obtain ⟨z,hd,xs,rel,dd⟩:=qA I.hok e
   obtain ⟨w',hw,rw'⟩:=qK.some_of (v:=v) (o:=(atKey xs k).map (·.2)) (by rw [l];exact rel.val k)
   obtain ⟨p,hp,hp2⟩:=Option.map_eq_some_iff.mp hw
   refine wpAny_getItem_heap (tupleKind_room_in1 hu) (jf I.hok eb) dd hp ?_
   rw [hp2]
   exact h w' _ (I.tok _) rw'
theorem CY {Q:Value->Shared->Prop} (hu:A.units+1<cLine) (I:Inv X pins σ H s) (g:mF H a y o) (ry:bB y u) (h:∀ s',Inv X pins σ H s'->Q (.bool o.isSome) s'):
    wpAny (model X.prog X.w) A (compareOp .In u (.ref a)) Q E s:=by
 rcases g with ⟨kvs,k,e,ey,l⟩ | ⟨kvs,k,b,e,ey,eb,l⟩
 . subst ey
   obtain ⟨z,hd,vs,rel,dd⟩:=qB I.hok e
   refine wpAny_in_of (tE ry) hd dd.mapOf ?_
   rw [<- (rel.val k).isSome_eq,<- l]
   exact h _ (I.tok _)
 . subst ey
   cases (show u=Value.ref b from ry)
   obtain ⟨z,hd,xs,rel,dd⟩:=qA I.hok e
   refine wpAny_in_heap (tupleKind_room_in1 hu) (jf I.hok eb) hd dd ?_
   have q:=(rel.val k).isSome_eq
   rw [Option.isSome_map] at q
   rw [<- q,<- l]
   exact h _ (I.tok _)
theorem ui {h':Heap} {t':Nat} {ob:HO} (I:Inv X pins σ H s) (mu:Mut (H a)) (hs:Heap.SameBut a s.heap h') (he:∃ q,h'.get? a=some q) (new:bC X.prog X.w (upd H a ob) h' a ob):
    Inv X pins σ (upd H a ob) { s with heap:=h',toks:=t' }:=
 I.write (x:=a) (e:=a) mu (.inl rfl) (fun b q hb z=>(hs.2 b hb).trans z) he new
theorem AT {P:Program} {w:World} {H':Hp} {h':Heap} {kvs:List (Key×V)} {vs:List (Key×Value)} (z:kvs.length<=sizeLine) (hd:(a==sysModules)=false) (rel:KV kvs vs) (dd:h'.DictOf (bx P w) a vs):
    bC P w H' h' a (.dK kvs):=⟨z,hd,vs,rel,dd⟩
theorem uj {H':Hp} {Q:Unit->Shared->Prop} (hu:A.units+1<cLine) (I:Inv X pins σ H s) (g:xf H a y v H') (ry:bB y u) (rv:bB v r) (h:∀ s',Inv X pins σ H' s'->Q () s'):
    wpAny (model X.prog X.w) A (setItem (.ref a) u r) Q E s:=by
 rcases g with ⟨kvs,k,e,ey,l,eH⟩ | ⟨kvs,k,b,e,ey,eb,l,eH⟩
 . subst ey eH
   obtain ⟨z,hd,vs,rel,dd⟩:=Ca I.hok e
   have hz:vs.length<=sizeLine:=by rw [<- rel.length];exact z
   have hl:(lh kvs k v).length<=sizeLine:=by have:=iy kvs k v;omega
   refine wpAny_setItem_pairs (hsz:=hz) (tE ry) dd fun h' dd' hs=>h _ ?_
   have he:∃ q,h'.get? a=some q:=let ⟨q,_,_,hq,_⟩:=dd';⟨q,hq⟩
   exact ui I (by rw [e];exact True.intro) hs he (AT hl hd (rel.put k rv) dd')
 . subst ey eH
   cases (show u=Value.ref b from ry)
   obtain ⟨z,hd,xs,rel,dd⟩:=AS I.hok e
   have hz:xs.length<=sizeLine:=by rw [<- Paired.length rel];exact z
   have hl:(lh kvs k v).length<=sizeLine:=by have:=iy kvs k v;omega
   refine wpAny_setItem_heap (hsz:=hz) (tupleKind_room_in1 hu) (jf I.hok eb) dd fun h' dd' hs=>h _ ?_
   obtain ⟨q,es,ep,hq,h2,h3,h4,_,h5⟩:=dd'
   refine ui I (by rw [e];exact True.intro) hs ⟨q,hq⟩ ⟨hl,hd,_,(rel.put k eb rv).keeps fun c ys ec=>?_,q,es,ep,hq,h2,h3,h4,h5⟩
   rw [aA (nG ec e (fun z=>nomatch z))]
   exact ec
end
section
variable {X:Cx} {pins:List (Addr×Obj)} {σ:St} {H:Hp} {s:Shared} {a:Addr} {kvs:List (Key×V)} {k:Key} {u:Value} {A:Around} {E:Value->Shared->Prop}
end
def Cr (i:Expr):Prop:=∀ ov iv,subscripted i false ov iv=operate [ov,iv] (getItem ov iv)
theorem xp {prog:Program} {w:World} {A:Around} {E:Value->Shared->Prop} {s:Shared} {env:Env} {value slice:Expr} {pos:Pos} {T id:String} {Q:Value->Shared->Prop}
    (hl:typeLookup (.type T) "__getitem__"=pure (some (.builtin id))) (hs:Cr slice)
    (h:wpAny (model prog w) A (eval value env) (fun o s₁=>wpAny (model prog w) A (eval slice env) (fun i s₂=>s₂.TypeIs o T/\wpAny (model prog w) A (getItem o i) Q E s₂) E s₁) E s):
    wpAny (model prog w) A (eval (.Subscript value slice pos) env) Q E s:=by
 refine Subscript_ (wpAny_mono h (fun o s₁ h₁=>wpAny_mono h₁ (fun i s₂ h₂=>?_) fun _ _ x=>x) fun _ _ x=>x)
 obtain ⟨hT,h₂⟩:=h₂
 unfold subscriptTail
 refine C8 ?_
 rw [getitemInPython_of_ne hT.not_modules]
 refine C8 (wpAny_specialOf hT hl ?_)
 have fin:wpAny (model prog w) A (subscripted slice false o i) (fun r s₃=>wpAny (model prog w) A (letTemporaryGo value o r>>=fun _=>pure r) Q E s₃) E s₂:=by
  rw [hs o i]
  exact wpAny_operating (wpAny_mono h₂ (fun r s₃ h₃=>C8 (wpAny_letTemporaryGo (Df h₃))) fun _ _ x=>x)
 first
  | exact Df (C8 fin)
  | exact C8 (Df (C8 fin))
  | exact C8 fin
theorem nW {X:Cx} {pins:List (Addr×Obj)} {σ:St} {H:Hp} {s:Shared} {a:Addr} {y:V} {o:Option V} (I:Inv X pins σ H s) (g:mF H a y o):s.TypeIs (.ref a) "dict":=by
 rcases g with ⟨kvs,k,e,_,_⟩ | ⟨kvs,k,b,e,_,_,_⟩
 . obtain ⟨_,_,vs,_,dd⟩:=qB I.hok e
   exact dd.typeIs
 . obtain ⟨_,_,xs,_,dd⟩:=qA I.hok e
   exact dd.typeIs
def Bu (td ty:TE):TE:=fun σ H Q=>td σ H fun x H1=>ty σ H1 fun y H2=>∃ a v,x=.ref a/\mF H2 a y (some v)/\Q v H2
def CC (ty td:TE):TE:=fun σ H Q=>ty σ H fun y H1=>td σ H1 fun x H2=>∃ a o,x=.ref a/\mF H2 a y o/\Q (.bl o.isSome) H2
def BL (td ty tv:TE):TS:=fun D σ H=>tv σ H fun v H1=>td σ H1 fun x H2=>ty σ H2 fun y H3=>∃ a H4,x=.ref a/\xf H3 a y v H4/\D.nx σ H4
section
variable {X:Cx} {o i e value:Expr} {pos pos' tpos:Pos} {td ty tv:TE}
theorem sE (hu:X.A.units+1<cLine) (ho:PE X o td) (hi:PE X i ty) (hs:Cr i):PE X (.Subscript o i pos) (Bu td ty):=by
 intro pins s σ H Q I h
 refine xp PySem.F.slot_dict_getitem.lookup hs (thn (ho pins s σ H _ I h) fun u s1 ⟨x,H1,I1,rx,q1⟩=>thn (hi pins s1 σ H1 _ I1 q1) fun iv s2 ⟨y,H2,I2,ry,a,v,ex,g,q2⟩=>?_)
 subst ex
 obtain rfl:u=Value.ref a:=rx
 exact ⟨nW I2 g,uk hu I2 g ry fun w' s3 I3 rw'=>⟨v,H2,I3,rw',q2⟩⟩
theorem zZ (hu:X.A.units+1<cLine) (hi:PE X i ty) (ho:PE X o td):PC X .In i o (CC ty td):=by
 intro pins s σ H Q I h
 refine thn (hi pins s σ H _ I h) fun iv s1 ⟨y,H1,I1,ry,q1⟩=>thn (ho pins s1 σ H1 _ I1 q1) fun u s2 ⟨x,H2,I2,rx,a,ov,ex,g,q2⟩=>?_
 subst ex
 obtain rfl:u=Value.ref a:=rx
 exact CY hu I2 g ry fun s3 I3=>⟨.bl ov.isSome,H2,I3,rfl,q2⟩
theorem sv (hu:X.A.units+1<cLine) (ho:PE X o td) (hi:PE X i ty) (hv:PE X value tv) (hs:swapsWith value (some (.Subscript o i pos')) pos.line X.env=pure false):
    PS X (.Assign [.Subscript o i pos'] value pos) (BL td ty tv):=by
 intro pins s σ H D I h
 refine wpAny_Assign_Subscript (thn (hv pins s σ H _ I h) fun r s1 ⟨v,H1,I1,rv,q1⟩=>thn (ho pins s1 σ H1 _ I1 q1) fun u s2 ⟨x,H2,I2,rx,q2⟩=>thn (hi pins s2 σ H2 _ I2 q2) fun iv s3 ⟨y,H3,I3,ry,a,H4,ex,g,q3⟩=>?_) hs
 subst ex
 obtain rfl:u=Value.ref a:=rx
 exact uj hu I3 g ry rv fun s4 I4=>⟨σ,H4,I4,q3⟩
end
theorem wd {P:Program} {w:World} {H:Hp} (h:Heap) (hb:sysModules<h.objs.size):bC P w H (h.push { cls:=.type "dict",data:=.dict #[] }) h.objs.size (.dK []):=
 ⟨DD _,beq_eq_false_iff_ne.mpr (Ne.symm (DC hb)),[],.nil,Heap.DictOf.new h⟩
theorem wb {P:Program} {w:World} {H:Hp} (h:Heap) (hb:sysModules<h.objs.size):bC P w H (h.push { cls:=.type "dict",data:=.dict #[] }) h.objs.size (.dT []):=
 ⟨DD _,beq_eq_false_iff_ne.mpr (Ne.symm (DC hb)),[],.nil,_,#[],0,Ds _ rfl,⟨rfl,rfl,rfl⟩,rfl,rfl,List.nodup_nil⟩
def zm:TE:=fun _ H Q=>∀ p,H p=none->Q (.ref p) (upd H p (.dK []))
def zk:TE:=fun _ H Q=>∀ p,H p=none->Q (.ref p) (upd H p (.dT []))
section
variable {X:Cx} {pos:Pos}
theorem vE:PE X (.Dict [] [] pos) zm:=fun pins s σ H Q I h=>
 wpAny_Dict_empty ⟨.ref s.heap.objs.size,_,I.laid (a:=s.heap.objs.size) (o:=.dK []) (t':=s.toks) (fun _ _ q=>Dd _ q) (Dh _) (wd s.heap I.big),rfl,h _ (I.hok.fresh (Dh _))⟩
theorem vD:PE X (.Dict [] [] pos) zk:=fun pins s σ H Q I h=>
 wpAny_Dict_empty ⟨.ref s.heap.objs.size,_,I.laid (a:=s.heap.objs.size) (o:=.dT []) (t':=s.toks) (fun _ _ q=>Dd _ q) (Dh _) (wb s.heap I.big),rfl,h _ (I.hok.fresh (Dh _))⟩
end
structure M2 (X:Cx) (o:Expr) (m:Str) (apos:Pos) (e f:Expr) (cpos:Pos):Prop where
 base:attributeBase o m X.env (eval o X.env)=eval o X.env
 few:((backTo cpos (starEach [e,f] X.env)).all (fun x=>!x.1) && (backToKw cpos (keywordEach [] X.env)).all (fun x=>x.1.isSome)
  && decide (([e,f]:List Expr).length+([]:List Keyword).length+(if ([]:List Keyword).isEmpty then 0 else 1)<30))=true
 line:(apos.endLine==cpos.line)=true
 trees:backTo cpos (starEach [e,f] X.env)=[(false,eval e X.env),(false,eval f X.env)]
def IsD (H:Hp) (a:Addr):Prop:=(∃ kvs,Rd H a (.dK kvs))\/∃ kvs,Rd H a (.dT kvs)
theorem AC {X:Cx} {pins:List (Addr×Obj)} {σ:St} {H:Hp} {s:Shared} {a:Addr} (I:Inv X pins σ H s) (d:IsD H a):
    s.TypeIs (.ref a) "dict"/\(∀ b,Value.ref a=.ref b->∃ ob,s.heap.get? b=some ob/\ob.dict=none)/\(a==sysModules)=false:=by
 rcases d with ⟨kvs,e⟩ | ⟨kvs,e⟩
 . obtain ⟨_,hd,vs,_,dd⟩:=qB I.hok e
   refine ⟨dd.typeIs,fun b q=>?_,hd⟩
   cases q
   obtain ⟨ob,_,_,h1,h2,_⟩:=dd
   exact ⟨ob,h1,h2.2.1⟩
 . obtain ⟨_,hd,xs,_,dd⟩:=qA I.hok e
   refine ⟨dd.typeIs,fun b q=>?_,hd⟩
   cases q
   obtain ⟨ob,_,_,h1,h2,_⟩:=dd
   exact ⟨ob,h1,h2.2.1⟩
section
variable {X:Cx} {pins:List (Addr×Obj)} {σ:St} {H:Hp} {s:Shared} {a:Addr} {y d:V} {u r:Value} {o:Option V} {A:Around} {E:Value->Shared->Prop}
theorem AV {Q:Value->Shared->Prop} (hu:A.units+1<cLine) (I:Inv X pins σ H s) (g:mF H a y o) (ry:bB y u) (rd:bB d r) (h:∀ w' s',Inv X pins σ H s'->bB (o.getD d) w'->Q w' s'):
    wpAny (model X.prog X.w) A (call (.builtin "dict.get") [.ref a,u,r]) Q E s:=by
 rcases g with ⟨kvs,k,e,ey,l⟩ | ⟨kvs,k,b,e,ey,eb,l⟩
 . subst ey
   obtain ⟨z,hd,vs,rel,dd⟩:=qB I.hok e
   refine call_meetsIn PySem.F.slot_dict_get dd.typeIs PySem.F.entry_dict_get (PySem.F.args_dict_get_3 _ _ _) (meets_dict_get_default (bx X.prog X.w) a (tE ry) hd r) ⟨_,dd.mapOf,h _ _ (I.tok _) ?_⟩
   rw [l]
   exact (rel.val k).getD rd
 . subst ey
   cases (show u=Value.ref b from ry)
   obtain ⟨z,hd,xs,rel,dd⟩:=qA I.hok e
   refine call_meetsIn PySem.F.slot_dict_get dd.typeIs PySem.F.entry_dict_get (PySem.F.args_dict_get_3 _ _ _) (meetsH_dict_get_default (tupleKind (bx X.prog X.w)) a b hd r) ⟨tupleKind_room_in1 hu,k,xs,jf I.hok eb,dd,h _ _ (I.tok _) ?_⟩
   rw [l]
   exact (rel.val k).getD rd
end
def zn (td ty tx:TE):TE:=fun σ H Q=>td σ H fun x H1=>∃ a,x=.ref a/\IsD H1 a/\ty σ H1 fun y H2=>tx σ H2 fun z H3=>∃ o,mF H3 a y o/\Q (o.getD z) H3
section
variable {X:Cx} {o e f:Expr} {apos cpos:Pos} {td ty tx:TE}
theorem vF (hu:X.A.units+1<cLine) (ho:PE X o td) (he:PE X e ty) (hf:PE X f tx) (m:M2 X o "get" apos e f cpos):PE X (.Call (.Attribute o "get" apos) [e,f] [] cpos) (zn td ty tx):=by
 intro pins s σ H Q I h
 refine wpAny_Call_method m.base m.few m.line PySem.F.plainAttrs_dict PySem.F.slot_dict_get PySem.F.type_dict_get (thn (ho pins s σ H _ I h) fun u s1 ⟨x,H1,I1,rx,a,ex,d,q1⟩=>?_)
 subst ex
 obtain rfl:u=Value.ref a:=rx
 obtain ⟨t1,t2,_⟩:=AC I1 d
 refine ⟨t1,t2,?_⟩
 rw [m.trees]
 refine Calls.callWith_builtin rfl (Calls.evalArgs_plain (Calls.spliced_cons (thn (he pins s1 σ H1 _ I1 q1) fun iv s2 ⟨y,H2,I2,ry,q2⟩=>
  Calls.spliced_cons (thn (hf pins s2 σ H2 _ I2 q2) fun fv s3 ⟨z,H3,I3,rz,ov,g,q3⟩=>Calls.spliced_nil ?_))))
 exact AV hu I3 g ry rz fun w' s4 I4 rw'=>⟨_,H3,I4,rw',q3⟩
end
section
variable {X:Cx} {pins:List (Addr×Obj)} {σ:St} {H:Hp} {s:Shared} {a:Addr} {kvs:List (Key×V)} {A:Around} {E:Value->Shared->Prop}
end
section
variable {X:Cx} {pins:List (Addr×Obj)} {σ:St} {H:Hp} {s:Shared} {a:Addr} {y:V} {u:Value} {A:Around} {E:Value->Shared->Prop}
end
end L2
namespace Be
open PySem L2
def eh (W:Wd):List PyData->Nat->List Int->Bool
 | [],_,_=>true
 | d::r,i,seen=>match d with
  | .int x=>decide (0<=x) && decide (x<(b9 W i:Int)) && decide (x∉seen) && eh W r (i+1) (seen++[x])
  | _=>false
def sK (W:Wd):PyData->Bool
 | .tuple ds=>eh W ds 0 []
 | _=>false
def ic (seen:List Int):List (Key×V):=seen.map fun x=>(Sum.inl x,V.bl true)
theorem gZ (x:Int):∀ seen:List Int,(iH (ic seen) (Sum.inl x:Key)).isSome=decide (x∈seen)
 | []=>by simp [ic,iH]
 | y::r=>by
  have ih:=gZ x r
  by_cases h:y=x
  . subst h
    rw [show ic (y::r)=((Sum.inl y:Key),V.bl true)::ic r from rfl,dI rfl]
    simp
  . rw [show ic (y::r)=((Sum.inl y:Key),V.bl true)::ic r from rfl,dJ (fun z=>h (Sum.inl.inj z)),ih]
    have h2:¬ x=y:=fun z=>h z.symm
    simp [h2]
section
variable {P:Program} {w:World} {K:PySem.W.Frag} {mg:Str->Option Value} {base:Heap}
def rL:Sp:=fun vs H Q _=>∃ (v:V) (W:Wd),vs=[v]/\Rep H v (cv W)/\Q (.int W.bs.length) H
theorem aI (T:Txt K mg):bP P w K mg base (CXr P w) 1 T.how_many_works.a T.how_many_works.d ["world"] rL:=by
 refine T.how_many_works.F.okN fJ (fun vs H Q E h=>?_) (fun cdv A outer s H vs Q E hr h=>?_)
 . obtain ⟨v,W,rfl,_⟩:=h;rfl
 obtain ⟨v,W,rfl,hW,q⟩:=h
 obtain ⟨a,p,vs,AW⟩:=atW hW
 obtain rfl:=AW.v
 refine ⟨_,(am (aB (az aF rfl T.n_len cn (ad (aO aL (pv 0) ap (fun _ _=>rfl)) af)))),?_⟩
 refine ⟨_,rfl,a,_,_,_,rfl,rfl,SqT.of AW.a,rfl,p,_,rfl,.inr (SqT.of AW.p),?_⟩
 rw [AW.len]
 exact q
def mR:Sp:=fun vs H Q _=>∃ (v:V) (W:Wd),vs=[v]/\Rep H v (cv W)/\Q (.int W.b) H
theorem aJ (T:Txt K mg):bP P w K mg base (CXr P w) 1 T.how_many_benches.a T.how_many_benches.d ["world"] mR:=by
 refine T.how_many_benches.F.okN d7 (fun vs H Q E h=>?_) (fun cdv A outer s H vs Q E hr h=>?_)
 . obtain ⟨v,W,rfl,_⟩:=h;rfl
 obtain ⟨v,W,rfl,hW,q⟩:=h
 obtain ⟨a,p,vs,AW⟩:=atW hW
 obtain rfl:=AW.v
 refine ⟨_,(am (aB (aO aL (pv 0) ap (fun _ _=>rfl)))),?_⟩
 exact ⟨_,rfl,a,_,_,_,rfl,rfl,SqT.of AW.a,rfl,q⟩
def zy:Sp:=fun vs H Q _=>∃ (v:V) (W:Wd) (n:Nat),vs=[v,.int n]/\Rep H v (cv W)/\0<=W.b/\Q (.int (b9 W n:Int)) H
theorem cT (T:Txt K mg):bP P w K mg base (CXr P w) 2 T.how_many_began.a T.how_many_began.d ["world","ends"] zy:=by
 refine T.how_many_began.F.okN fK (fun vs H Q E h=>?_) (fun cdv A outer s H vs Q E hr h=>?_)
 . obtain ⟨v,W,n,rfl,_⟩:=h;rfl
 obtain ⟨v,W,n,rfl,hW,hb,q⟩:=h
 obtain ⟨a,p,vs,AW⟩:=atW hW
 obtain rfl:=AW.v
 refine ⟨_,(am (aB (az (mj rfl) rfl T.n_min uz (ad (aN bt (aj (aJ T) (hr.mono (by decide)) rfl T.how_many_benches.m T.how_many_benches.F.kp T.how_many_benches.b .nil aw (ad (pv 0) af)) (pv 1)) (ad (aj (aI T) (hr.mono (by decide)) rfl T.how_many_works.m T.how_many_works.F.kp T.how_many_works.b .nil aw (ad (pv 0) af)) af))))),?_⟩
 refine ⟨_,rfl,.ref a,W,rfl,hW,_,rfl,_,_,rfl,rfl,_,rfl,.ref a,W,rfl,hW,_,_,rfl,?_⟩
 have e:(if (W.bs.length:Int)<W.b+(n:Int) then (W.bs.length:Int) else W.b+(n:Int))=(b9 W n:Int):=by
  unfold b9
  split<;>omega
 rw [e]
 exact q
def vf:Sp:=fun vs H Q _=>∃ (v:V) (W:Wd) (x:Int),vs=[v,.int x]/\Rep H v (cv W)/\0<=x/\x<(W.bs.length:Int)/\Q (.int (bnd W x).1) H
def mS:Sp:=fun vs H Q _=>∃ (v:V) (W:Wd) (x:Int),vs=[v,.int x]/\Rep H v (cv W)/\0<=x/\x<(W.bs.length:Int)/\Q (.int (bnd W x).2) H
theorem yN {W:Wd} {x:Int} (h0:0<=x) (h1:x<(W.bs.length:Int)):W.bs[x.toNat]? =some (bnd W x):=by
 unfold bnd
 rw [C9,C7 (show x.toNat<W.bs.length by omega)]
 rfl
theorem w6 {H:Hp} {v:V} {W:Wd} {a p:Addr} {vs:List V} (A:AtW H v W a p vs) {x:Int} (h0:0<=x) (h1:x<(W.bs.length:Int)):∃ q,atI vs x=some (.ref q)/\H q=some (.tup [.int (bnd W x).1,.int (bnd W x).2]):=by
 obtain ⟨q,hq,e⟩:=A.it _ _ (yN h0 h1)
 refine ⟨q,?_,e⟩
 have ex:x=((x.toNat:Nat):Int):=by omega
 rw [ex]
 exact eI hq
theorem cA (T:Txt K mg):bP P w K mg base (CXr P w) 1 T.least_length.a T.least_length.d ["world","work"] vf:=by
 refine T.least_length.F.okN ie (fun vs H Q E h=>?_) (fun cdv A outer s H vs Q E hr h=>?_)
 . obtain ⟨v,W,x,rfl,_⟩:=h;rfl
 obtain ⟨v,W,x,rfl,hW,h0,h1,q⟩:=h
 obtain ⟨a,p,vs,AW⟩:=atW hW
 obtain rfl:=AW.v
 obtain ⟨b,hb,eb⟩:=w6 AW h0 h1
 refine ⟨_,(am (aB (aO aL (aO aL (aO aL (pv 0) ap (fun _ _=>rfl)) (pv 1) (fun _ _=>rfl)) ap (fun _ _=>rfl)))),?_⟩
 exact ⟨_,rfl,a,_,_,_,rfl,rfl,SqT.of AW.a,rfl,_,rfl,p,_,_,_,rfl,rfl,SqT.of AW.p,hb,b,_,_,_,rfl,rfl,SqT.of eb,rfl,q⟩
theorem bz (T:Txt K mg):bP P w K mg base (CXr P w) 1 T.greatest_length.a T.greatest_length.d ["world","work"] mS:=by
 refine T.greatest_length.F.okN eV (fun vs H Q E h=>?_) (fun cdv A outer s H vs Q E hr h=>?_)
 . obtain ⟨v,W,x,rfl,_⟩:=h;rfl
 obtain ⟨v,W,x,rfl,hW,h0,h1,q⟩:=h
 obtain ⟨a,p,vs,AW⟩:=atW hW
 obtain rfl:=AW.v
 obtain ⟨b,hb,eb⟩:=w6 AW h0 h1
 refine ⟨_,(am (aB (aO aL (aO aL (aO aL (pv 0) ap (fun _ _=>rfl)) (pv 1) (fun _ _=>rfl)) ap (fun _ _=>rfl)))),?_⟩
 exact ⟨_,rfl,a,_,_,_,rfl,rfl,SqT.of AW.a,rfl,_,rfl,p,_,_,_,rfl,rfl,SqT.of AW.p,hb,b,_,_,_,rfl,rfl,SqT.of eb,rfl,q⟩
def zD:Sp:=fun vs H Q _=>∃ (v:V) (W:Wd) (x:Int),vs=[v,.int x]/\Rep H v (cv W)/\Q (.int (bg W x)) H
theorem cc (T:Txt K mg):bP P w K mg base (CXr P w) 2 T.begin_event.a T.begin_event.d ["world","work"] zD:=by
 refine T.begin_event.F.okN iO (fun vs H Q E h=>?_) (fun cdv A outer s H vs Q E hr h=>?_)
 . obtain ⟨v,W,x,rfl,_⟩:=h;rfl
 obtain ⟨v,W,x,rfl,hW,q⟩:=h
 obtain ⟨a,p,vs,AW⟩:=atW hW
 obtain rfl:=AW.v
 refine ⟨_,(am (aB (az (ux rfl) rfl T.n_max A2 (ad ap (ad (aN bt (aN ip (pv 1) (aj (aJ T) (hr.mono (by decide)) rfl T.how_many_benches.m T.how_many_benches.F.kp T.how_many_benches.b .nil aw (ad (pv 0) af))) ap) af))))),?_⟩
 refine ⟨_,rfl,_,rfl,.ref a,W,rfl,hW,_,_,rfl,rfl,_,_,rfl,rfl,_,_,rfl,?_⟩
 have e:(if x-W.b+1>0 then x-W.b+1 else 0)=bg W x:=by
  unfold bg
  split<;>split<;>omega
 rw [e]
 exact q
theorem qc (T:Txt K mg):bP P w K mg base (CXr P w) 3 T.running.a T.running.d ["world","order"] (pW K):=by
 refine T.running.F.okN p8 (fun vs H Q E h=>?_) (fun cdv A outer s H vs Q E hr h=>?_)
 . obtain ⟨v,p,W,o,rfl,_⟩:=h;rfl
 obtain ⟨v,p,W,o,rfl,hW,hok,ho,hlen,q⟩:=h
 refine ⟨_,(am (aB (bS (NB:=["work","order"]) (js:=[none,some 1]) rfl (bA rfl (by decide+kernel) rfl (by decide+kernel) (by decide+kernel) (by with_unfolding_all rfl) (by with_unfolding_all rfl) (by with_unfolding_all rfl) (by with_unfolding_all rfl)) (cQ rfl T.n_range (ad (aj (cT T) (hr.mono (by decide)) rfl T.how_many_began.m T.how_many_began.F.kp T.how_many_began.b .nil aw (ad (pv 0) (ad (az aF rfl T.n_len cn (ad (pv 1) af)) af))) af)) (fun _ _ _ _=>(aC (i:=0) (show (["work","order"]:List Str).Nodup by decide+kernel) rfl (by first|exact .inl rfl|exact .inr rfl))) (fun _ _ _ _=>(wK (bF (iX K) (pv 0) (pv 1) (by with_unfolding_all rfl)))) (fun _ _ _ _=>(pv 0))))),?_⟩
 have e1:(o.map V.int).length=o.length:=Da _
 have l10:=hok.l10
 have b1:=hok.b1
 refine ⟨_,rfl,_,rfl,p,_,rfl,ho,v,W,_,rfl,hW,by omega,?_⟩
 have hbe:=bT W (o.map V.int).length
 have hbe2:=bT W o.length
 refine ⟨_,rfl,by omega,by omega,fun D hD=>?_⟩
 rw [Dz,e1]
 refine qF (fun i ys H2=>aM H H2/\H2 D=some (.lst ys)/\ys=((hG i).filter fun x=>decide (x∉o)).map V.int) ⟨ak hD _,ah,rfl⟩ (fun i ys H2 hi hP=>?_) (fun ys H2 hP=>?_)
 . obtain ⟨g,hD2,rfl⟩:=hP
   refine ⟨gr,_,rfl,_,rfl,p,_,rfl,SqTL.same g ho,rfl,iA o,_,rfl,?_⟩
   by_cases hm:(0+(i:Int))∈o
   . refine oZ (show (!inV (.int (0+(i:Int))) (o.map V.int))=false by rw [gP,decide_eq_true hm];rfl) ⟨g,hD2,?_⟩
     rw [rS,if_pos (by simpa using hm),D7]
   . refine wR (show (!inV (.int (0+(i:Int))) (o.map V.int))=true by rw [gP,Dw hm];rfl) ?_
     have ez:(((hG (i+1)).filter fun x=>decide (x∉o)).map V.int)=((hG i).filter fun x=>decide (x∉o)).map V.int++[V.int (0+(i:Int))]:=by
      rw [rS,if_neg (by simpa using hm),DR];simp
     refine ⟨_,rfl,hD2,?_,?_,?_,?_⟩
     . rw [Da]
       have:=List.length_filter_le (fun x=>decide (x∉o)) (hG i)
       rw [eK] at this
       exact Do (show _<100 by omega) (by decide)
     . exact g.write hD _
     . exact ah
     . exact ez.symm
 . obtain ⟨g,hD2,rfl⟩:=hP
   exact q D H2 g hD hD2
def zw:Sp:=fun vs H Q _=>∃ (v t:V) (W:Wd) (d:PyData),vs=[v,t]/\Rep H v (cv W)/\W.Ok/\Rep H t d/\(∀ ds,d=.tuple ds->ds.length<=1000)/\∀ H',aM H H'->Q (.bl (sK W d)) H'
theorem nF (T:Txt K mg):bP P w K mg base (CXr P w) 3 T.is_order.a T.is_order.d ["world","thing"] zw:=by
 refine T.is_order.F.okN cU (fun vs H Q E h=>?_) (fun cdv A outer s H vs Q E hr h=>?_)
 . obtain ⟨v,t,W,d,rfl,_⟩:=h;rfl
 obtain ⟨v,t,W,d,rfl,hW,hok,hd,hln,q⟩:=h
 refine ⟨_,(ai (cV (cC (cB (az (dS fk) rfl T.n_isinstance bK (ad (pv 1) (ad (fN (v:=.ty "tuple") rfl T.n_tuple de rfl) af))))) (am (aB iQ)) bj) (ai (aD (i:=2) cU.nd rfl (by first|exact .inl rfl|exact .inr rfl) vE) (ai (cD Ea rfl (oE rfl T.n_enumerate (ad (pv 1) af)) (oG rfl (aP (aC (i:=3) cU.nd rfl (by first|exact .inl rfl|exact .inr rfl)) (aP (aC (i:=4) cU.nd rfl (by first|exact .inl rfl|exact .inr rfl)) cI))) (ai (cV (PW.pt (jJ (cC (cB (aj (aG T) (hr.mono (by decide)) rfl T.is_whole_within.m T.is_whole_within.F.kp T.is_whole_within.b .nil aw (ad (pv 4) (ad ap (ad (aN ip (aj (cT T) (hr.mono (by decide)) rfl T.how_many_began.m T.how_many_began.F.kp T.how_many_began.b .nil aw (ad (pv 0) (ad (pv 3) af))) ap) af)))))) (fW (zW (zZ (qt hr) (pv 4) (pv 2)))))) (am (aB iQ)) bj) (am (sv (qt hr) (pv 2) (pv 4) iQ rfl)))) (am (aB iQ))))),?_⟩
 refine ⟨_,rfl,t,d,rfl,hd,_,rfl,?_⟩
 cases hd with
 | non=>exact cg (q H (aM.refl H))
 | str x=>exact cg (q H (aM.refl H))
 | bl b=>exact cg (q H (aM.refl H))
 | int i=>exact cg (q H (aM.refl H))
 | lst e r=>exact cg (q H (aM.refl H))
 | @tup a vs ds e r=>
  have hl:=r.length
  have hln':=hln ds rfl
  refine gF (fun D hD=>?_)
  have nD:∀ b o,H b=some o->b≠D:=fun b o z=>aZ z hD
  refine ⟨_,rfl,a,vs,rfl,SqT.of (ak hD _ _ _ e),lQ (K:=K) (a:=a) (xs:=vs) (fun i σ H2=>∃ (seen:List Int) (x y:Option V),σ=[some v,some (.ref a),some (.ref D),x,y]/\aM H H2/\H2 D=some (.dK (ic seen))/\seen.length=i/\eh W ds 0 []=eh W (ds.drop i) i seen) ?_ ?_ ?_ ?_⟩
  . exact ⟨[],none,none,rfl,ak hD _,ah,rfl,rfl⟩
  . rintro i σ H2 _ ⟨seen,x,y,rfl,g,_⟩
    exact SqT.of (g _ _ e)
  . rintro i u p σ H2 hu hp ⟨seen,x,y,rfl,g,hD2,hs,ho⟩
    obtain ⟨d,hd,ru⟩:=(r.mono g).get' hu
    have hi:i<ds.length:=(Db.mp hd).1
    have hdrop:ds.drop i=d::ds.drop (i+1):=by
     have:=List.drop_eq_getElem_cons hi
     rw [this]
     congr 1
     exact (Db.mp hd).2
    rw [hdrop] at ho
    have g2:=ak hp (.tup [.int i,u])
    have gg:=g.trans g2
    refine ⟨p,_,rfl,SqT.of ah,rfl,_,_,rfl,_,_,rfl,rfl,?_⟩
    refine ⟨_,rfl,_,rfl,_,rfl,v,W,i,rfl,hW.mono gg,by have:=hok.b1;omega,_,_,rfl,rfl,u,d,0,_,rfl,ru.mono g2,_,rfl,?_⟩
    cases hw:aX d 0 ((b9 W i:Int)-1) with
    | false=>
     have no:eh W (d::ds.drop (i+1)) i seen=false:=by
      unfold eh
      cases d with
      | int z=>
       show (decide (0<=z) && decide (z<(b9 W i:Int)) && _ && _)=false
       have hw':(decide (0<=z) && decide (z<=(b9 W i:Int)-1))=false:=hw
       have ez:decide (z<(b9 W i:Int))=decide (z<=(b9 W i:Int)-1):=by
        by_cases hz:z<(b9 W i:Int)
        . rw [decide_eq_true hz,decide_eq_true (by omega)]
        . rw [Dw hz,Dw (by omega)]
       rw [ez,hw'];rfl
      | _=>rfl
     have e0:sK W (.tuple ds)=false:=by show eh W ds 0 []=false;rw [ho];exact no
     rw [e0] at q
     exact cg (cg (q _ gg))
    | true=>
     cases ru with
     | int z=>
      have hw':(decide (0<=z) && decide (z<=(b9 W i:Int)-1))=true:=hw
      rw [D0] at hw'
      have z0:=of_decide_eq_true hw'.1
      have z1:=of_decide_eq_true hw'.2
      refine gF ⟨_,rfl,_,rfl,D,_,rfl,mF.k (k:=Sum.inl z) (g2 _ _ hD2),_,rfl,?_⟩
      rw [gZ]
      have step:eh W (.int z::ds.drop (i+1)) i seen=(decide (z∉seen) && eh W (ds.drop (i+1)) (i+1) (seen++[z])):=by
       show (decide (0<=z) && decide (z<(b9 W i:Int)) && decide (z∉seen) && _)=_
       rw [decide_eq_true z0,decide_eq_true (show z<(b9 W i:Int) by omega)];rfl
      rw [step] at ho
      by_cases hm:z∈seen
      . have e0:sK W (.tuple ds)=false:=by show eh W ds 0 []=false;rw [ho,Dw (by simpa using hm)];rfl
        rw [e0] at q
        rw [decide_eq_true hm]
        exact cg (q _ gg)
      . rw [Dw hm]
        refine gF ⟨_,rfl,_,rfl,D,_,rfl,xf.k (k:=Sum.inl z) (g2 _ _ hD2) ?_,?_⟩
        . show (ic seen).length<sizeLine
          unfold ic
          rw [Da]
          exact Do (show seen.length<2000 by omega) (by decide)
        . refine ⟨seen++[z],_,_,rfl,?_,?_,by simp [hs],?_⟩
          . exact gg.write hD _
          . rw [ah]
            have nn:iH (ic seen) (Sum.inl z:Key)=none:=by
             have:=gZ z seen
             rw [Dw hm] at this
             exact Option.isNone_iff_eq_none.mp (by simpa using this)
            rw [vz _ nn]
            unfold ic
            rw [DR]
            rfl
          . rw [ho,decide_eq_true hm];rfl
     | _=>cases hw
  . rintro σ H2 ⟨seen,x,y,rfl,g,hD2,hs,ho⟩
    rw [hl,List.drop_length] at ho
    have e0:sK W (.tuple ds)=true:=ho
    rw [e0] at q
    exact q _ g
end
end Be
namespace L2
open PySem PySem.Spec PyProof.Rows
theorem PS.nox {X:Cx} {st:Stmt} {t:TS} (h:PS X.nox st t):PS X st t:=fun pins s σ H D I hw=>
 wpAny_mono (h pins s σ H D (I.wish _) hw) (fun f s' q=>q.unwish) fun _ _ z=>z.elim
end L2
namespace Be
open PySem L2
def iB (r:Ru):PyData:=.tuple [.int r.1,.int r.2.1,.int r.2.2]
theorem gR (rs:List Ru):cL.all (rs.map iB)=true:=by
 induction rs with
 | nil=>rfl
 | cons p r ih=>
  rw [DS]
  show (cL (iB p) && cL.all (r.map iB))=true
  rw [ih];rfl
theorem ju {d:PyData} {lo hi:Int} (h:aX d lo hi=true):∃ i,d=.int i/\lo<=i/\i<=hi:=by
 cases d with
 | int i=>
  have h':(decide (lo<=i) && decide (i<=hi))=true:=h
  rw [D0] at h'
  exact ⟨i,rfl,of_decide_eq_true h'.1,of_decide_eq_true h'.2⟩
 | _=>cases h
theorem A4 {d:PyData} (h:n9 d=true):∃ p:Int×Int,d=jl p/\1<=p.1/\p.1<=p.2/\p.2<=99:=by
 unfold n9 at h
 split at h
 . rename_i i b
   rw [D0] at h
   obtain ⟨j,e,h1,h2⟩:=ju h.1
   cases e
   obtain ⟨k,e,h3,h4⟩:=ju h.2
   subst e
   exact ⟨(i,k),rfl,h1,h3,h4⟩
 . cases h
theorem uB:∀ {ds:List PyData},ds.all n9=true->∃ bs:List (Int×Int),ds=bs.map jl/\∀ p∈bs,1<=p.1/\p.1<=p.2/\p.2<=99
 | [],_=>⟨[],rfl,fun _ z=>nomatch z⟩
 | d::r,h=>by
  rw [List.all_cons,D0] at h
  obtain ⟨p,rfl,hp⟩:=A4 h.1
  obtain ⟨bs,rfl,hb⟩:=uB h.2
  refine ⟨p::bs,rfl,fun x hx=>?_⟩
  rcases DI.mp hx with rfl | hx
  . exact hp
  . exact hb x hx
theorem Ay {d:PyData} (h:qp d=true):∃ W:Wd,W.Ok/\d=cv W:=by
 unfold qp at h
 split at h
 . rename_i b x
   rw [D0] at h
   obtain ⟨i,rfl,h1,h2⟩:=ju h.1
   have h':=h.2
   unfold yS at h'
   split at h'
   . rename_i ds
     rw [D0,D0] at h'
     obtain ⟨bs,rfl,hb⟩:=uB h'.2
     have l1:=of_decide_eq_true h'.1.1
     have l2:=of_decide_eq_true h'.1.2
     rw [Da] at l1 l2
     exact ⟨⟨i,bs⟩,⟨h1,h2,l1,l2,hb⟩,rfl⟩
   . cases h'
 . cases h
theorem dH {i lo hi:Int} (h1:lo<=i) (h2:i<=hi):aX (.int i) lo hi=true:=by
 show (decide (lo<=i) && decide (i<=hi))=true
 rw [decide_eq_true h1,decide_eq_true h2];rfl
theorem yM {p:Int×Int} (h:1<=p.1/\p.1<=p.2/\p.2<=99):n9 (jl p)=true:=by
 show (aX (.int p.1) 1 99 && aX (.int p.2) p.1 99)=true
 rw [dH h.1 (by omega),dH h.2.1 h.2.2];rfl
theorem eB {W:Wd} (h:W.Ok):qp (cv W)=true:=by
 show (aX (.int W.b) 1 4 && (decide (1<=(W.bs.map jl).length) && decide ((W.bs.map jl).length<=10) && (W.bs.map jl).all n9))=true
 rw [dH h.b1 h.b4,Da,decide_eq_true h.l1,decide_eq_true h.l10]
 show (W.bs.map jl).all n9=true
 rw [List.all_eq_true]
 intro d hd
 obtain ⟨p,hp,rfl⟩:=DM.mp hd
 exact yM (h.bd p hp)
theorem e7 (W:Wd):∀ (ds:List PyData) (seen:List Int),VO W seen->(eh W ds seen.length seen=true ↔ ∃ o,ds=o.map PyData.int/\VO W (seen++o))
 | [],seen,h=>⟨fun _=>⟨[],rfl,by rw [D7];exact h⟩,fun _=>rfl⟩
 | d::r,seen,h=>by
  constructor
  . intro e
    unfold eh at e
    cases d with
    | int x=>
     have e':(decide (0<=x) && decide (x<(b9 W seen.length:Int)) && decide (x∉seen) && eh W r (seen.length+1) (seen++[x]))=true:=e
     rw [D0,D0,D0] at e'
     obtain ⟨⟨⟨a,b⟩,c⟩,f⟩:=e'
     have hx:x∈kX W seen:=ck.mpr ⟨⟨of_decide_eq_true a,of_decide_eq_true b⟩,of_decide_eq_true c⟩
     have f':eh W r (seen++[x]).length (seen++[x])=true:=by rw [Dm];exact f
     obtain ⟨o,rfl,ho⟩:=(e7 W r (seen++[x]) (h.snoc hx)).mp f'
     exact ⟨x::o,rfl,by rw [DV] at ho;exact ho⟩
    | _=>cases e
  . rintro ⟨o,e,ho⟩
    cases o with
    | nil=>cases e
    | cons x o=>
     rw [DS] at e
     injection e with e1 e2
     subst e1 e2
     have at1:=ho.at_ seen.length x (by rw [DH (Dh _),Nat.sub_self];rfl)
     have nm:x∉seen:=fun z=>by
      have:=(List.nodup_append.mp ho.nd).2.2 x z x Dx
      exact this rfl
     have hx:x∈kX W seen:=ck.mpr ⟨at1,nm⟩
     have ih:=(e7 W (o.map PyData.int) (seen++[x]) (h.snoc hx)).mpr ⟨o,rfl,by rw [DV];exact ho⟩
     rw [Dm] at ih
     show (decide (0<=x) && decide (x<(b9 W seen.length:Int)) && decide (x∉seen) && eh W (o.map PyData.int) (seen.length+1) (seen++[x]))=true
     rw [decide_eq_true at1.1,decide_eq_true at1.2,decide_eq_true nm]
     exact ih
theorem Aa {W:Wd} {d:PyData} (h:sK W d=true):∃ o,d=iW o/\VO W o:=by
 unfold sK at h
 split at h
 . rename_i ds
   obtain ⟨o,rfl,ho⟩:=(e7 W ds [] (VO.nil W)).mp h
   exact ⟨o,rfl,ho⟩
 . cases h
theorem ik {W:Wd} {o:List Int} (h:VO W o):sK W (iW o)=true:=(e7 W (o.map .int) [] (VO.nil W)).mpr ⟨o,rfl,h⟩
section
variable {P:Program} {w:World} {K:PySem.W.Frag} {mg:Str->Option Value} {base:Heap}
def BG (T:Txt K mg):Sp:=fun vs H Q E=>∃ (v t:V) (d dt:PyData),vs=[v,t]/\Rep H v d/\Rep H t dt/\(∀ ds,dt=.tuple ds->ds.length<=1000)/\(qp d=false->∀ H',aM H H'->E (.ref T.e_NoWorld.C) none H')/\
 ∀ W:Wd,W.Ok->d=cv W->(sK W dt=false->∀ H',aM H H'->E (.ref T.e_NoOrder.C) none H')/\(sK W dt=true->∀ H',aM H H'->Q .non H')
theorem cJ (T:Txt K mg):bP P w K mg base (CXr P w) 6 T.check_order.a T.check_order.d ["world","order"] (BG T):=by
 refine T.check_order.F.okR iL (fun vs H Q E h=>?_) (fun cdv A outer s H vs Q E hr h=>?_)
 . obtain ⟨v,t,d,dt,rfl,_⟩:=h;rfl
 obtain ⟨v,t,d,dt,rfl,hd,ht,hl,q1,q2⟩:=h
 refine ⟨_,(ai (bn (aj (bN T) (hr.mono (by decide)) rfl T.check_world.m T.check_world.F.kp T.check_world.b .nil sH (ad (pv 0) af))) (am (cV (cC (cB (aj (nF T) (hr.mono (by decide)) rfl T.is_order.m T.is_order.F.kp T.is_order.b .nil aw (ad (pv 0) (ad (pv 1) af))))) (am (gK T.e_NoOrder.m T.e_NoOrder.q PySem.F.excBase_ValueError hr.hd fY rfl)) bj))),?_⟩
 refine ⟨_,rfl,v,d,rfl,hd,fun hw H1 g1=>?_,fun hw H1 g1=>q1 hw H1 g1⟩
 obtain ⟨W,hok,rfl⟩:=Ay hw
 obtain ⟨qn,qy⟩:=q2 W hok rfl
 refine ⟨_,rfl,_,rfl,v,t,W,dt,rfl,hd.mono g1,hok,ht.mono g1,hl,fun H2 g2=>⟨_,rfl,?_⟩⟩
 cases ho:sK W dt with
 | true=>exact gF (qy ho H2 (g1.trans g2))
 | false=>exact cg ⟨by show 1<=sizeLine;decide,qn ho H2 (g1.trans g2)⟩
def zt (K:PySem.W.Frag):Sp:=fun vs H Q _=>∃ (v:V) (W:Wd) (x e:Int),vs=[v,.int x,.int e]/\Rep H v (cv W)/\0<=x/\x<(W.bs.length:Int)/\
 ∀ (r:Addr) (H':Hp) (ws:List V),aM H H'->H r=none->H' r=some (.lst ws)->Reps H' ws (([(e,bg W x,(bnd W x).2),(bg W x,e,-(bnd W x).1),(e-1,e,0)]:List Ru).map iB)->Q (.ref r) H'
theorem Bf {H:Hp} {p:Addr} {a b c:Int} (h:H p=some (.tup [.int a,.int b,.int c])):Rep H (.ref p) (iB (a,b,c)):=.tup h (Reps.ints (ns:=[a,b,c]))
theorem fQ (T:Txt K mg):bP P w K mg base (CXr P w) 3 T.rules_of_ended.a T.rules_of_ended.d ["world","work","end"] (zt K):=by
 refine T.rules_of_ended.F.okN cP (fun vs H Q E h=>?_) (fun cdv A outer s H vs Q E hr h=>?_)
 . obtain ⟨v,W,x,e,rfl,_⟩:=h;rfl
 obtain ⟨v,W,x,e,rfl,hW,h0,h1,q⟩:=h
 refine ⟨_,(ai (aD (i:=3) cP.nd rfl (by first|exact .inl rfl|exact .inr rfl) (aj (cc T) (hr.mono (by decide)) rfl T.begin_event.m T.begin_event.F.kp T.begin_event.b .nil aw (ad (pv 0) (ad (pv 1) af)))) (am (aB (dl (ad (bV (ad (pv 2) (ad (pv 3) (ad (aj (bz T) (hr.mono (by decide)) rfl T.greatest_length.m T.greatest_length.F.kp T.greatest_length.b .nil aw (ad (pv 0) (ad (pv 1) af))) af)))) (ad (bV (ad (pv 3) (ad (pv 2) (ad (xX rb (aj (cA T) (hr.mono (by decide)) rfl T.least_length.m T.least_length.F.kp T.least_length.b .nil aw (ad (pv 0) (ad (pv 1) af)))) af)))) (ad (bV (ad (aN ip (pv 2) ap) (ad (pv 2) (ad ap af)))) af))))))),?_⟩
 refine ⟨_,rfl,_,rfl,v,W,x,rfl,hW,?_⟩
 refine ⟨_,rfl,_,rfl,_,rfl,_,rfl,v,W,x,rfl,hW,h0,h1,by show 3<=sizeLine;decide,fun p1 hp1=>?_⟩
 have g1:=ak hp1 (.tup [.int e,.int (bg W x),.int (bnd W x).2])
 refine ⟨_,rfl,_,rfl,_,rfl,_,rfl,v,W,x,rfl,hW.mono g1,h0,h1,_,rfl,by show 3<=sizeLine;decide,fun p2 hp2=>?_⟩
 have g2:=ak hp2 (.tup [.int (bg W x),.int e,.int (-(bnd W x).1)])
 refine ⟨_,rfl,_,_,rfl,rfl,_,rfl,by show 3<=sizeLine;decide,fun p3 hp3=>?_⟩
 have g3:=ak hp3 (.tup [.int (e-1),.int e,.int 0])
 refine ⟨by show 3<=sizeLine;decide,fun r hr'=>?_⟩
 have g4:=ak hr' (.lst [.ref p1,.ref p2,.ref p3])
 refine q r _ _ (((g1.trans g2).trans g3).trans g4) ?_ ah ?_
 . exact ((g1.trans g2).trans g3).free hr'
 . exact .cons (Bf (g4 _ _ (g3 _ _ (g2 _ _ ah)))) (.cons (Bf (g4 _ _ (g3 _ _ ah))) (.cons (Bf (g4 _ _ ah)) .nil))
def zq (K:PySem.W.Frag):Sp:=fun vs H Q _=>∃ (v:V) (W:Wd) (x:Int) (n:Nat),vs=[v,.int x,.int n]/\Rep H v (cv W)/\0<=x/\x<(W.bs.length:Int)/\
 ∀ (u:V) (H':Hp),aM H H'->Rep H' u (iB (dZ W n x))->Q u H'
theorem fb (T:Txt K mg):bP P w K mg base (CXr P w) 3 T.rule_of_running.a T.rule_of_running.d ["world","work","last"] (zq K):=by
 refine T.rule_of_running.F.okN eS (fun vs H Q E h=>?_) (fun cdv A outer s H vs Q E hr h=>?_)
 . obtain ⟨v,W,x,n,rfl,_⟩:=h;rfl
 obtain ⟨v,W,x,n,rfl,hW,h0,h1,q⟩:=h
 refine ⟨_,(am (aB (bV (ad (pv 2) (ad (aj (cc T) (hr.mono (by decide)) rfl T.begin_event.m T.begin_event.F.kp T.begin_event.b .nil aw (ad (pv 0) (ad (pv 1) af))) (ad (aj (bz T) (hr.mono (by decide)) rfl T.greatest_length.m T.greatest_length.F.kp T.greatest_length.b .nil aw (ad (pv 0) (ad (pv 1) af))) af)))))),?_⟩
 refine ⟨_,rfl,_,rfl,_,rfl,v,W,x,rfl,hW,_,rfl,_,rfl,v,W,x,rfl,hW,h0,h1,by show 3<=sizeLine;decide,fun p hp=>?_⟩
 exact q _ _ (ak hp _) (Bf ah)
end
end Be
namespace Be
theorem oy:∀ {l:List Int} {i:Nat} {x v:Int},l[i]? =some x->∃ r,l.Perm (x::r)/\(l.set i v).Perm (v::r)
 | [],i,x,v,h=>by simp at h
 | y::l,0,x,v,h=>by
  have:y=x:=by simpa using h
  subst this
  exact ⟨l,List.Perm.refl _,List.Perm.refl _⟩
 | y::l,i+1,x,v,h=>by
  obtain ⟨r,p1,p2⟩:=oy (l:=l) (i:=i) (x:=x) (v:=v) (by simpa using h)
  refine ⟨y::r,(p1.cons y).trans (List.Perm.swap x y r),?_⟩
  rw [List.set_cons_succ]
  exact (p2.cons y).trans (List.Perm.swap v y r)
end Be
namespace Be
end Be
namespace Be
end Be
namespace BE
open PySem PySem.W PyProof.Rows
section
variable (key:Nat->Int)
variable {key}
end
end BE
namespace BE
open PySem PySem.W PySem.Spec PyProof.Rows
def kP (p:Int×Int):Int:=p.1*100000+p.2
def RgP (p:Int×Int):Prop:=0<=p.2/\p.2<100000
section
variable {prog:Program} {w:World} {A:Around} {E:Value->Shared->Prop} {s:Shared}
theorem yD:∀ {vs:List Value},vs.length<2->(vs.toArray.zip vs.toArray).map (·.2)=List.toArray ((List.range vs.length).map fun i=>vs.getD i Value.none)
 | [],_=>by simp
 | [v],_=>by simp
 | _::_::_,h=>absurd h (by simp only [DF];omega)
theorem AI {n:Nat} {R:Nat->Nat->Prop} (h:n<2):(List.range n).Pairwise R:=by
 match n,h with
 | 0,_=>exact .nil
 | 1,_=>exact List.pairwise_singleton _ _
end
end BE
namespace L2
open PySem PySem.SeqAt PySem.Spec PyProof.Rows
def bM (H:Hp) (ws:List V) (ps:List (Int×Int)):Prop:=ws.length=ps.length/\∀ (i:Nat) (p:Int×Int),ps[i]? =some p->∃ q,ws[i]? =some (.ref q)/\H q=some (.tup [.int p.1,.int p.2])
def leP (p q:Int×Int):Prop:=BE.kP p<=BE.kP q
section
variable {X:Cx}
def zN:List V->Hp->VK->Prop:=fun xs H Q=>∃ (a:Addr) (ws:List V) (ps:List (Int×Int)),xs=[.ref a]/\H a=some (.lst ws)/\bM H ws ps/\(∀ p∈ps,BE.RgP p)/\ps.length<64/\
 ∀ (l:Addr) (ws':List V) (ps':List (Int×Int)),H l=none->ps'.Perm ps->ps'.Pairwise leP->bM H ws' ps'->Q (.ref l) (upd H l (.lst ws'))
theorem kE {ws:List V} {us:List Value} (r:ba ws us):∀ (ix:List Nat),(∀ i∈ix,i<ws.length)->ba (ix.map fun i=>ws.getD i .non) (ix.map fun i=>us.getD i Value.none)
 | [],_=>.nil
 | i::ix,h=>by
  have hi:=h i (by simp)
  obtain ⟨u,hu,ru⟩:=r.get (C7 hi)
  refine .cons ?_ (kE r ix fun j hj=>h j (by simp [hj]))
  show bB (ws.getD i .non) (us.getD i Value.none)
  rw [C9,C7 hi,C9,hu]
  exact ru
end
end L2
namespace BE
open PySem PySem.W PySem.Spec PyProof.Rows
section
variable {prog:Program} {w:World} {A:Around} {E:Value->Shared->Prop} {s:Shared}
variable {I:Addr} {fp wr:List Addr} {n:Nat} {P:Nat->Value->Prop} {St:Nat->Heap->Prop} {R:Result->Shared->Prop}
end
end BE
namespace L2
open PySem PySem.SeqAt PySem.Spec PyProof.Rows
section
variable {X:Cx}
end
end L2
namespace BE
open PySem PySem.W PySem.Spec PyProof.Rows
section
variable {prog:Program} {w:World} {A:Around} {E:Value->Shared->Prop} {s:Shared}
end
end BE
namespace L2
open PySem PySem.SeqAt PySem.Spec PyProof.Rows
section
variable {X:Cx}
end
end L2
namespace BE
open PySem PySem.W PySem.Spec PyProof.Rows
open Builtin
section
variable {prog:Program} {w:World} {A:Around} {E:Value->Shared->Prop} {s:Shared}
end
end BE
namespace L2
open PySem PySem.SeqAt PySem.Spec PyProof.Rows
section
variable {X:Cx}
end
end L2
namespace L2
open PySem PySem.Spec PyProof.Rows
section
variable {X:Cx}
end
end L2
namespace L2
open PySem PySem.Spec PyProof.Rows
theorem pT {P:Program} {w:World} {K:PySem.W.Frag} {es:List Expr} {ek:Nat} {pos:Pos} (a it e:Addr) (hei:e≠it):yU P w K (.Tuple es ek pos) (ItL K a) [it,e] e (fun i h=>(∃ old,IsEnum h e it i old)/\h.IsListIter it a i) where
 mem:=by simp
 obj:=fun i h st b hb=>by
  obtain ⟨⟨old,he⟩,o,ho,hc,hd⟩:=st
  have hb':b=it\/b=e:=by simpa using hb
  rcases hb' with rfl | rfl
  . exact ⟨o,ho,fun v z=>by rw [hd] at z;cases z⟩
  . exact ⟨_,he,fun v z=>by
      have z':Data.fields _=Data.cell v:=z
      cases z'⟩
 keep:=fun i h h' st k=>by
  obtain ⟨⟨old,he⟩,st⟩:=st
  exact ⟨⟨old,k e (by simp) _ he⟩,st.at fun o q=>k it (by simp) o q⟩
 item:=by
  intro X hP hw hK hc i pins s σ H E I hf st hg
  subst hP hw hK
  obtain ⟨⟨old,he⟩,st⟩:=st
  obtain ⟨xs,x,hq,hx⟩:=hg
  obtain ⟨its,rv,p,hz⟩:=I.list hq
  obtain ⟨u,hu,ru⟩:=rv.get hx
  have f1:=hf it (by simp)
  have f2:=hf e (by simp)
  have p':s.heap.IsList a its.toArray:=p.isList
  have ha:a≠it:=fun z=>by
   obtain ⟨o,ho,hcl,_⟩:=st
   obtain ⟨o',ho',hcl',_⟩:=p'
   rw [z,ho] at ho';cases ho';rw [hcl] at hcl';exact absurd (Value.type.inj hcl') (by decide)
  have hae:e∉[it,a]:=fun z=>by
   have z':e=it\/e=a:=by simpa using z
   rcases z' with z' | z'
   . exact hei z'
   . obtain ⟨o',ho',hcl',_⟩:=p'
     rw [<- z',he] at ho';cases ho';exact absurd (Value.type.inj hcl') (by decide)
  have hlt:i<its.toArray.size:=by
   have:=(Db.mp hu).1
   simpa using this
  refine wpAny_pyNext_enum_itemD (Draws.list (A:=X.A.in1) (I.ok.hd hc) it a ha its.toArray) he ⟨st,p'⟩ hlt hei hae fun y h1 tk hy ho st1 hT hsz hk=>?_
  have ey:y=u:=by
   have hy':its.toArray[i]? =some y:=hy
   rw [Ev] at hy'
   rw [hu] at hy';cases hy';rfl
  subst ey
  refine ⟨_,rfl,wpAny_letOwnedTupleGo_enum ho fun h2 he2 sb2=>?_⟩
  have neT:s.heap.objs.size≠e:=Nat.ne_of_gt (Dp he)
  have hT2:h2.get? s.heap.objs.size=some { cls:=.type "tuple",data:=.seq #[.int i tk,y] }:=(sb2.2 _ neT).trans hT
  have fr:H s.heap.objs.size=none:=I.hok.fresh (Dh _)
  have I2:Inv X pins σ (upd H s.heap.objs.size (.tup [.int i,x])) { s with heap:=h2,toks:=tk+1 }:=
   I.turned2 (it:=it) (e:=e) (fun b q h1' h2' r=>(sb2.2 b h2').trans (hk b q h2' h1' r)) f1 f2 (Dh _) (rf hT2 ru)
  refine ⟨.ref s.heap.objs.size,_,I2,rfl,⟨_,x,fr,rfl,rfl,fun ys hy=>by rw [I.list_inj hy hq];exact hx⟩,⟨⟨y,?_⟩,?_⟩,fun b hb=>?_⟩
  . have:=he2
    rw [show ((i+1:Nat):Int)=(i:Int)+1 from by omega]
    exact this
  . exact st1.1.at fun o q=>(sb2.2 it (Ne.symm hei)).trans q
  . have hn:=(hf b hb).1
    have hb':b≠s.heap.objs.size:=fun z=>by
     have hlt':b<s.heap.objs.size:=by
      have hb2:b=it\/b=e:=by simpa using hb
      rcases hb2 with rfl | rfl
      . obtain ⟨o,ho,_⟩:=st;exact Dp ho
      . exact Dp he
     exact absurd z (DC hlt')
    rw [aA hb']
    exact hn
 done:=by
  intro X hP hw hK hc i pins s σ H E I hf st hg
  subst hP hw hK
  obtain ⟨⟨old,he⟩,st⟩:=st
  obtain ⟨xs,hq,hx⟩:=hg
  obtain ⟨its,rv,p,hz⟩:=I.list hq
  have f1:=hf it (by simp)
  have p':s.heap.IsList a its.toArray:=p.isList
  have hT:s.TypeIs (.ref e) "enumerate":=⟨_,he,rfl⟩
  unfold pyNext
  refine C8 (wpAny_attempt (D1 (name:=Str.ofString "__next__") hT F.slot_enumerate_next (D8 F.slot_enumerate_next hT F.entry_enumerate_next ?_ (F.args_enumerate_next_1 _))))
  show wpAny _ _ (field (.ref e) 2>>=_) _ _ _
  refine C8 (Eu he rfl (x:=.ref it) rfl ?_)
  refine C8 (wpAny_nextOf_list_end (A:=X.A.in1) (I.ok.hd hc) st p' (by simp;have:=rv.length;omega) fun h1 ex hb hx'=>?_)
  obtain ⟨o,ho,hcl⟩:=hx'
  refine C8 (wpAny_isInstance (T:="StopIteration") (b:=true) ⟨o,ho,hcl⟩ isSubtype_stop ?_)
  exact Df ⟨rfl,I.turned (t':=s.toks) (fun b q hb' r=>hb b q hb' r) f1.1 f1.2.1 f1.2.2.2.1 f1.2.2.2.2.1 f1.2.2.2.2.2⟩
 self:=fun _ _ _ _ _ st h=>let ⟨⟨_,he⟩,_⟩:=st;wpAny_pyIter_enum he h
section
variable {X:Cx} {es:List Expr} {ek:Nat} {tpos:Pos}
def AE (K:PySem.W.Frag) (ta:TA):TI:=fun σ H R=>ta σ H fun vs H1=>∃ a xs,vs=[.ref a]/\SqL K H1 a xs/\R (ItL K a) H1
theorem oF {x:Expr} {ta:TA} {p pos:Pos} (hg:Gl X "enumerate") (hm:X.mg "enumerate"=none) (ha:PA X [x] ta) (hs:starEach [x] X.env=[(false,eval x X.env)]:=by rfl):
    PI X (.Tuple es ek tpos) (.Call (.Name "enumerate" p) [x] [] pos) (AE X.K ta):=by
 intro pins s σ H R I h
 refine Call_ (fj I hg hm boot_enumerate (Ew (thn (ha pos pins s σ H _ I h) fun us s1 ⟨vs,H1,I1,r1,q1⟩=>?_) hs rfl))
 obtain ⟨a,xs,e,hq,q⟩:=q1
 subst e
 cases r1 with
 | cons r rr=>
  cases rr
  cases r
  obtain ⟨its,rv,pt,hz⟩:=I1.list hq
  refine call_enumerate_list pt.isList fun h' he hit hsz hk=>?_
  refine wpAny_pyIter_enum he ?_
  have hne:s1.heap.objs.size+1≠s1.heap.objs.size:=Nat.succ_ne_self _
  refine ⟨s1.heap.objs.size+1,[s1.heap.objs.size,s1.heap.objs.size+1],_,_,H1,rfl,I1.kept (t':=s1.toks) hk,pT a s1.heap.objs.size (s1.heap.objs.size+1) hne,⟨⟨_,he⟩,hit⟩,fun b hb=>?_,q⟩
  have hb':b=s1.heap.objs.size\/b=s1.heap.objs.size+1:=by simpa using hb
  rcases hb' with rfl | rfl
  . exact I1.fpOk (Dh _) (I1.hok.fresh (Dh _))
  . exact I1.fpOk (Nat.le_succ _) (I1.hok.fresh (Nat.le_succ _))
end
theorem tZ {K:PySem.W.Frag} {a:Addr} {xs:List V} {g:TG} {tb:TS} {D:uO} {σ:St} {H:Hp} (Pv:Nat->St->Hp->Prop) (h0:Pv 0 σ H) (hl:∀ i σ H,i<=xs.length->Pv i σ H->SqL K H a xs)
    (hs:∀ i v p σ H,xs[i]? =some v->H p=none->Pv i σ H->g (.ref p) σ (upd H p (.tup [.int i,v])) fun σ2 H2=>tb { D with nx:=Pv (i+1),ct:=Pv (i+1),bk:=D.nx } σ2 H2) (hd:∀ σ H,Pv xs.length σ H->D.nx σ H):
    ∃ W:Nat->Nat->St->Hp->Prop,(∃ m,W 0 m σ H)/\∀ i m σ H,W i m σ H->
     ((ItL K a).stop i H/\D.nx σ H)\/((ItL K a).go i H/\∃ N:St->Hp->Prop,(∀ σ' H',N σ' H'->∃ m',m'<m/\W (i+1) m' σ' H')/\∀ x H',(ItL K a).yld i H x H'->g x σ H' fun σ2 H2=>tb { D with nx:=N,ct:=N,bk:=D.nx } σ2 H2):=by
 refine ⟨fun i m σ H=>m=xs.length-i/\i<=xs.length/\Pv i σ H,⟨xs.length,by simp,DD _,h0⟩,?_⟩
 rintro i m σ H ⟨rfl,hi,p⟩
 have q:=hl i σ H hi p
 by_cases hlt:i<xs.length
 . refine .inr ⟨⟨xs,xs[i],q,by simp [hlt]⟩,Pv (i+1),fun σ' H' p'=>⟨xs.length-(i+1),by omega,rfl,hlt,p'⟩,fun x H' y=>?_⟩
   obtain ⟨b,v,hb,e1,e2,y⟩:=y
   subst e1 e2
   exact hs i v b σ _ (y xs q) hb p
 . have e:i=xs.length:=by omega
   subst e
   exact .inl ⟨⟨xs,q,Dh _⟩,hd σ H p⟩
theorem nX {g:TG} {tt:TT} {te:TE} {τ:St} {D:Addr} {H1:Hp} {R:Hp->Prop} {K:PySem.W.Frag} {a:Addr} {xs:List V} (Pv:Nat->List V->Hp->Prop) (h0:Pv 0 [] (upd H1 D (.lst []))) (hl:∀ i ys H,i<=xs.length->Pv i ys H->SqL K H a xs)
    (hs:∀ i ys v p H,xs[i]? =some v->H p=none->Pv i ys H->d6 g tt te τ D ys (Pv (i+1)) (.ref p) (upd H p (.tup [.int i,v]))) (hd:∀ ys H,Pv xs.length ys H->R H):
    ∃ W:Nat->Nat->List V->Hp->Prop,(∃ m,W 0 m [] (upd H1 D (.lst [])))/\∀ i m ys H,W i m ys H->((ItL K a).stop i H/\R H)\/((ItL K a).go i H/\∃ N:List V->Hp->Prop,(∀ ys' H',N ys' H'->∃ m',m'<m/\W (i+1) m' ys' H')/\∀ x H',(ItL K a).yld i H x H'->d6 g tt te τ D ys N x H'):=by
 refine ⟨fun i m ys H=>m=xs.length-i/\i<=xs.length/\Pv i ys H,⟨xs.length,by simp,DD _,h0⟩,?_⟩
 rintro i m ys H ⟨rfl,hi,p⟩
 have q:=hl i ys H hi p
 by_cases hlt:i<xs.length
 . refine .inr ⟨⟨xs,xs[i],q,by simp [hlt]⟩,Pv (i+1),fun ys' H' p'=>⟨xs.length-(i+1),by omega,rfl,hlt,p'⟩,fun x H' y=>?_⟩
   obtain ⟨b,v,hb,e1,e2,y⟩:=y
   subst e1 e2
   exact hs i ys v b _ (y xs q) hb p
 . have e:i=xs.length:=by omega
   subst e
   exact .inl ⟨⟨xs,q,Dh _⟩,hd ys H p⟩
end L2
namespace Be.G
open PySem L2
theorem nV (ns:List Int):∀ ms:List Int,PyData.eqvAll (ns.map .int) (ms.map .int)=decide (ns=ms):=by
 induction ns with
 | nil=>intro ms;cases ms<;>simp [PyData.eqvAll]
 | cons n ns ih=>
  intro ms
  cases ms with
  | nil=>simp [PyData.eqvAll]
  | cons m ms=>
   rw [DS,DS,PyData.eqvAll,ih ms]
   by_cases h:n=m
   . subst h
     by_cases h2:ns=ms
     . subst h2;simp [PyData.eqv]
     . simp [PyData.eqv,h2]
   . simp [PyData.eqv,h]
theorem jX:∀ xs:List Int,PyData.canLayAll0 (xs.map PyData.int)=true
 | []=>rfl
 | x::xs=>by rw [DS,PyData.canLayAll0,jX xs];rfl
theorem kj:∀ xs:List Int,PyData.depthAll (xs.map PyData.int)<=10
 | []=>DD _
 | x::xs=>by
  have h2:=kj xs
  rw [DS,PyData.depthAll]
  have h1:(PyData.int x).depth<=10:=by simp [PyData.depth]
  omega
theorem xB (xs:List Int):SeqAt.shaped (.list (xs.map PyData.int))=true:=by
 unfold SeqAt.shaped
 rw [PyData.canLay0,jX,Bool.true_and,PyData.depth]
 have:=kj xs
 exact decide_eq_true (by omega)
theorem gh {n:Nat} {k:Int} (h0:0<=k) (h1:k<(n:Int)):ixN n k=some k.toNat:=by
 unfold ixN
 rw [if_pos h0,if_pos h1]
section
variable {P:Program} {w:World} {K:PySem.W.Frag} {mg:Str->Option Value} {base:Heap}
def jA:Sp:=fun vs H Q _=>∃ (i lo hi:Int),vs=[.int i,.int lo,.int hi]/\lo<=i/\i<=hi/\Q (.bl true) H
theorem aG (T:Txt K mg):bP P w K mg base (CXr P w) 1 T.is_whole_within.a T.is_whole_within.d ["thing","least","most"] jA:=(Be.aG T).imp fun vs H Q E h=>by
 obtain ⟨i,lo,hi,rfl,h1,h2,q⟩:=h
 refine ⟨.int i,.int i,lo,hi,rfl,.int i,?_⟩
 rw [show Be.aX (.int i) lo hi=true by show (decide (lo<=i) && decide (i<=hi))=true;rw [decide_eq_true h1,decide_eq_true h2];rfl]
 exact q
theorem iG (n:Nat):(List.replicate n true).all id=true:=by simp
theorem fG (n:Nat):(List.replicate n true).map V.bl++[.bl true]=(List.replicate (n+1) true).map V.bl:=by rw [List.replicate_succ',DR];rfl
theorem hU {n:Nat} (h:n<=100):((List.replicate n true).map V.bl).length<sizeLine:=by
 rw [Da,D4]
 exact Nat.lt_of_le_of_lt h (by decide)
def xw:Sp:=fun vs H Q _=>∃ (v:V) (W:Wd),vs=[v]/\Rep H v (cv W)/\W.Ok/\∀ H',aM H H'->Q .non H'
theorem bN (T:Txt K mg):bP P w K mg base (CXr P w) 5 T.check_world.a T.check_world.d ["world"] xw:=(Be.bN T).imp fun vs H Q E h=>by
 obtain ⟨v,W,rfl,hW,hok,q⟩:=h
 exact ⟨v,cv W,rfl,hW,fun _=>q,fun z=>by rw [eB hok] at z;cases z⟩
def mR:Sp:=fun vs H Q _=>∃ (v:V) (W:Wd),vs=[v]/\Rep H v (cv W)/\Q (.int W.b) H
theorem aJ (T:Txt K mg):bP P w K mg base (CXr P w) 1 T.how_many_benches.a T.how_many_benches.d ["world"] mR:=(Be.aJ T).imp fun vs H Q E h=>h
def rL:Sp:=fun vs H Q _=>∃ (v:V) (W:Wd),vs=[v]/\Rep H v (cv W)/\Q (.int W.bs.length) H
theorem aI (T:Txt K mg):bP P w K mg base (CXr P w) 1 T.how_many_works.a T.how_many_works.d ["world"] rL:=(Be.aI T).imp fun vs H Q E h=>h
def zE:Sp:=fun vs H Q _=>∃ (v:V) (t:Addr) (W:Wd) (ls:List Int),vs=[v,.ref t]/\Rep H v (cv W)/\W.Ok/\H t=some (.tup (ls.map V.int))/\InB W ls/\∀ H',aM H H'->Q (.bl true) H'
theorem iU (T:Txt K mg):bP P w K mg base (CXr P w) 2 T.are_lengths.a T.are_lengths.d ["world","thing"] zE:=by
 refine T.are_lengths.F.okN iP (fun vs H Q E h=>?_) (fun cdv A outer s H vs Q E hr h=>?_)
 . obtain ⟨v,t,W,ls,rfl,_⟩:=h;rfl
 obtain ⟨v,t,W,ls,rfl,hW,hok,ht,hin,q⟩:=h
 refine ⟨_,(ai (cV (PW.pt (jJ (cC (cB (az (dS fk) rfl T.n_isinstance bK (ad (pv 1) (ad (fN (v:=.ty "tuple") rfl T.n_tuple de rfl) af))))) (fW (bF ya (az aF rfl T.n_len cn (ad (pv 1) af)) (aj (aI T) (hr.mono (by decide)) rfl T.how_many_works.m T.how_many_works.F.kp T.how_many_works.b .nil aw (ad (pv 0) af)) (cf _))))) (am (aB iQ)) bj) (am (aB (az (fA rfl) rfl T.n_all py (ad (bS (NB:=["part","bounds"]) (js:=[none,none]) rfl (bA rfl (by decide+kernel) rfl (by decide+kernel) (by decide+kernel) (by with_unfolding_all rfl) (by with_unfolding_all rfl) (by with_unfolding_all rfl) (by with_unfolding_all rfl)) (sB true true rfl T.n_zip (ad (pv 1) (ad (aO aL (pv 0) ap (fun _ _=>rfl)) af))) (fun _ _ _ _=>(df K (n:=2) rfl (aP (aC (i:=0) (show (["part","bounds"]:List Str).Nodup by decide+kernel) rfl (by first|exact .inl rfl|exact .inr rfl)) (aP (aC (i:=1) (show (["part","bounds"]:List Str).Nodup by decide+kernel) rfl (by first|exact .inl rfl|exact .inr rfl)) cI)))) (fun _ _ _ _=>dk) (fun _ _ _ _=>(aj (aG T) (hr.mono (by decide)) rfl T.is_whole_within.m T.is_whole_within.F.kp T.is_whole_within.b .nil aw (ad (pv 0) (ad (aO (fC K) (pv 1) ap (fun _ _=>rfl)) (ad (aO (fC K) (pv 1) ap (fun _ _=>rfl)) af)))))) af))))),?_⟩
 have l10:=hok.l10
 have rt:Rep H (.ref t) (.tuple (ls.map .int)):=.tup ht Reps.ints
 refine ⟨_,rfl,.ref t,_,rfl,rt,_,rfl,gF ⟨_,rfl,t,_,rfl,.inr (SqT.of ht),_,rfl,v,W,rfl,hW,rfl,_,rfl,?_⟩⟩
 have el:(!decide (V.int ((ls.map V.int).length:Int)=V.int (W.bs.length:Int)))=false:=by rw [Da,hin.1];simp
 refine oZ el ?_
 obtain ⟨ca,cp,cvs,AW⟩:=atW hW
 obtain rfl:=AW.v
 refine ⟨_,rfl,_,rfl,ca,_,_,_,rfl,rfl,SqT.of AW.a,rfl,t,cp,_,_,rfl,SqT.of ht,SqT.of AW.p,fun D hD=>?_⟩
 refine me (k1:=true) (k2:=true) (K:=K) (a:=t) (b:=cp) (xs:=ls.map V.int) (ys:=cvs) (fun i ys H2=>aM H H2/\H2 D=some (.lst ys)/\ys=(List.replicate i true).map V.bl) ⟨ak hD _,ah,rfl⟩ (fun i ys H2 hP=>⟨SqT.of (hP.1 _ _ ht),SqT.of (hP.1 _ _ AW.p)⟩) (fun i ys x y p H2 hx hy hp hP=>?_) (fun ys H2 hP=>?_)
 . obtain ⟨g,hD2,rfl⟩:=hP
   have hi:i<W.bs.length:=by rw [<- AW.len];exact (Db.mp hy).1
   obtain ⟨q',hq',hqt⟩:=AW.it i _ (C7 hi)
   rw [hy] at hq'
   obtain rfl:=Dg hq'
   rw [Di,C7 (by rw [hin.1];exact hi)] at hx
   obtain rfl:=Dg hx
   have b:=hin.2 i _ _ (C7 hi) (C7 (by rw [hin.1];exact hi))
   have hil:i<ls.length:=by rw [hin.1];exact hi
   have gp:=ak hp (.tup [.int ls[i],.ref q'])
   have hq2:=gp _ _ (g _ _ hqt)
   refine ⟨p,_,rfl,SqT.of ah,rfl,_,_,rfl,_,_,rfl,rfl,mD,cg ⟨_,rfl,_,rfl,q',_,_,_,rfl,rfl,SqT.of hq2,rfl,_,rfl,q',_,_,_,rfl,rfl,SqT.of hq2,rfl,_,_,_,rfl,b.1,b.2,gp _ _ hD2,hU (by omega),(g.trans gp).write hD _,ah,fG i⟩⟩
 . obtain ⟨g,hD2,rfl⟩:=hP
   refine ⟨D,_,rfl,hD2,?_⟩
   rw [iG]
   exact q H2 g
def BH:Sp:=fun vs H Q _=>∃ (v:V) (t:Addr) (W:Wd) (ls:List Int),vs=[v,.ref t]/\Rep H v (cv W)/\W.Ok/\H t=some (.tup (ls.map V.int))/\InB W ls/\∀ H',aM H H'->Q .non H'
theorem gE (T:Txt K mg):bP P w K mg base (CXr P w) 6 T.check_lengths.a T.check_lengths.d ["world","lengths"] BH:=by
 refine T.check_lengths.F.okN gv (fun vs H Q E h=>?_) (fun cdv A outer s H vs Q E hr h=>?_)
 . obtain ⟨v,t,W,ls,rfl,_⟩:=h;rfl
 obtain ⟨v,t,W,ls,rfl,hW,hok,ht,hin,q⟩:=h
 refine ⟨_,(ai (bn (aj (bN T) (hr.mono (by decide)) rfl T.check_world.m T.check_world.F.kp T.check_world.b .nil aw (ad (pv 0) af))) (am (cV (cC (cB (aj (iU T) (hr.mono (by decide)) rfl T.are_lengths.m T.are_lengths.F.kp T.are_lengths.b .nil aw (ad (pv 0) (ad (pv 1) af))))) su bj))),?_⟩
 exact ⟨_,rfl,v,W,rfl,hW,hok,fun H1 g1=>⟨_,rfl,_,rfl,v,t,W,ls,rfl,hW.mono g1,hok,g1 _ _ ht,hin,fun H2 g2=>⟨_,rfl,gF (q H2 (g1.trans g2))⟩⟩⟩
def ze (t:Tk):PyData:=.tuple [.int t.1,.int t.2.1,.int t.2.2]
theorem wu (ts:List Tk):cL.all (ts.map ze)=true:=by
 induction ts with
 | nil=>rfl
 | cons p r ih=>
  rw [DS]
  show (cL (ze p) && cL.all (r.map ze))=true
  rw [ih];rfl
theorem vv (n:Nat):(List.replicate n [V.int 0]).flatten=(zf n).map V.int:=by
 rw [List.flatten_replicate_singleton];unfold zf;rw [List.map_replicate]
theorem iz {ls:List Int} {i:Nat} {x:V} (h:(ls.map V.int)[i]? =some x):∃ y:Int,ls[i]? =some y/\x=.int y:=by
 rw [Di] at h
 cases e:ls[i]? with
 | none=>rw [e] at h;cases h
 | some y=>rw [e] at h;exact ⟨y,rfl,(Dg h).symm⟩
theorem bE {α:Type} {l:List α} {i:Nat} {x:α} (h:l[i]? =some x):l.take (i+1)=l.take i++[x]:=by
 rw [Ep,h];rfl
theorem BX {f:List Int} (h:f≠[]):ixN (f.map V.int).length (pl f:Int)=some (pl f):=by
 have:=xV h
 exact gh (Int.natCast_nonneg _) (by rw [Da];omega)
theorem Cd {f:List Int} (h:f≠[]):atI (f.map V.int) (pl f:Int)=some (.int (mn f)):=eI (by rw [Di,sA h];rfl)
def Bz:Sp:=fun vs H Q _=>∃ (v:V) (t:Addr) (W:Wd) (ls:List Int),vs=[v,.ref t]/\Rep H v (cv W)/\W.Ok/\H t=some (.tup (ls.map V.int))/\ls.length<=10/\
 ∀ (l:Addr) (ws:List V) (H':Hp),aM H H'->H l=none->H' l=some (.lst ws)->Reps H' ws ((tk (zf W.b.toNat) ls).map ze)->Q (.ref l) H'
set_option maxHeartbeats 1000000 in
theorem nA (T:Txt K mg):bP P w K mg base (CXr P w) 2 T.taken_up.a T.taken_up.d ["world","lengths"] Bz:=by
 refine T.taken_up.F.okN bX (fun vs H Q E h=>?_) (fun cdv A outer s H vs Q E hr h=>?_)
 . obtain ⟨v,t,W,ls,rfl,_⟩:=h;rfl
 obtain ⟨v,t,W,ls,rfl,hW,hok,ht,hl10,q⟩:=h
 refine ⟨_,(ai (aD (i:=2) bX.nd rfl (by first|exact .inl rfl|exact .inr rfl) (aN sL (dl (ad ap af)) (aj (aJ T) (hr.mono (by decide)) rfl T.how_many_benches.m T.how_many_benches.F.kp T.how_many_benches.b .nil aw (ad (pv 0) af)))) (ai (aD (i:=3) bX.nd rfl (by first|exact .inl rfl|exact .inr rfl) (dl af)) (ai (cD Ea rfl (oD (pv 1)) (aC (i:=4) bX.nd rfl (by first|exact .inl rfl|exact .inr rfl)) (ai (aD (i:=5) bX.nd rfl (by first|exact .inl rfl|exact .inr rfl) (ny Ex PySem.F.slot_list_index PySem.F.type_list_index sV (pv 2) (ad (az (uw rfl) rfl T.n_min uz (ad (pv 2) af)) af))) (ai (aD (i:=6) bX.nd rfl (by first|exact .inl rfl|exact .inr rfl) (aO bZ (pv 2) (pv 5) (fun _ _=>rfl))) (ai (li (aN bt (pv 6) (pv 4)) (lq (pv 2) (pv 5) eN)) (am (bn (ny Ex PySem.F.slot_list_append PySem.F.type_list_append dy (pv 3) (ad (bV (ad (pv 5) (ad (pv 6) (ad (aN bt (pv 6) (pv 4)) af)))) af)))))))) (am (aB (pv 3)))))),?_⟩
 have b1:=hok.b1
 have b4:=hok.b4
 refine ⟨by show 1<=sizeLine;decide,fun l0 hl0=>?_⟩
 have g0:=ak hl0 (.lst [.int 0])
 refine ⟨_,rfl,v,W,rfl,hW.mono g0,l0,_,_,rfl,rfl,ah,by omega,by omega,DP (show 1*W.b.toNat<=100 by omega) (by decide),fun f hf=>?_⟩
 have g1:=g0.trans (ak hf (.lst (List.replicate W.b.toNat [V.int 0]).flatten))
 have hf1:upd (upd H l0 (.lst [.int 0])) f (.lst (List.replicate W.b.toNat [V.int 0]).flatten) f=some (.lst ((zf W.b.toNat).map V.int)):=by rw [ah,vv]
 have ff:H f=none:=g0.free hf
 generalize upd (upd H l0 (.lst [.int 0])) f (.lst (List.replicate W.b.toNat [V.int 0]).flatten)=H1 at*
 refine ⟨DD _,fun d hd=>?_⟩
 have g2:=ak hd (.lst [])
 have fd:H d=none:=g1.free hd
 have hfd:f≠d:=fun z=>by rw [z,hd] at hf1;cases hf1
 refine ⟨_,rfl,t,rfl,⟨_,SqT.of (g2 _ _ (g1 _ _ ht))⟩,tY (K:=K) (a:=t) (xs:=ls.map V.int) (fun i σ H2=>∃ (ws:List V) (x4 x5 x6:Option V),σ=[some v,some (.ref t),some (.ref f),some (.ref d),x4,x5,x6]/\aM H H2/\H2 f=some (.lst ((fr (zf W.b.toNat) (ls.take i)).map V.int))/\H2 d=some (.lst ws)/\Reps H2 ws ((tk (zf W.b.toNat) (ls.take i)).map ze)) ?_ ?_ ?_ ?_⟩
 . exact ⟨[],none,none,none,rfl,g1.trans g2,g2 _ _ hf1,ah,.nil⟩
 . rintro i σ H2 _ ⟨ws,x4,x5,x6,rfl,g,_⟩
   exact SqT.of (g _ _ ht)
 . rintro i u σ H2 hu ⟨ws,x4,x5,x6,rfl,g,hf2,hd2,rs⟩
   obtain ⟨x,hx,rfl⟩:=iz hu
   have hfne:fr (zf W.b.toNat) (ls.take i)≠[]:=B7 (gU (by omega))
   have ef:fr (zf W.b.toNat) (ls.take (i+1))=nxt (fr (zf W.b.toNat) (ls.take i)) x:=by rw [bE hx,tX]
   have et:=rh (zf W.b.toNat) (ls.take i) x
   rw [<- bE hx] at et
   have hi:i<ls.length:=(Db.mp hx).1
   have wl:=rs.length
   rw [Da,kI,Dv] at wl
   generalize fr (zf W.b.toNat) (ls.take i)=F at*
   refine ⟨_,rfl,.inl ⟨rfl,_,SqL.of hf2⟩,_,rfl,f,F,rfl,hf2,hfne,fun M hM hMl=>?_⟩
   obtain rfl:=BT hM hMl
   refine ⟨f,F,_,pl F,rfl,rfl,hf2,sA hfne,vB,?_⟩
   refine ⟨_,rfl,_,rfl,f,_,_,_,rfl,rfl,SqL.of hf2,Cd hfne,?_⟩
   refine ⟨_,rfl,_,rfl,_,_,rfl,rfl,_,rfl,_,rfl,f,_,_,_,rfl,rfl,hf2,BX hfne,?_⟩
   have hdn:d≠f:=Ne.symm hfd
   have hd3:upd H2 f (.lst ((F.map V.int).set (pl F) (.int (mn F+x)))) d=some (.lst ws):=by rw [aA hdn];exact hd2
   have hf3:upd H2 f (.lst ((F.map V.int).set (pl F) (.int (mn F+x)))) f=some (.lst ((nxt F x).map V.int)):=by rw [ah];unfold nxt;rw [List.map_set]
   have ts3:bG H2 (upd H2 f (.lst ((F.map V.int).set (pl F) (.int (mn F+x))))):=bG.lst hf2 _
   have gf:aM H (upd H2 f (.lst ((F.map V.int).set (pl F) (.int (mn F+x))))):=g.write ff _
   generalize upd H2 f (.lst ((F.map V.int).set (pl F) (.int (mn F+x))))=H3 at*
   refine ⟨_,rfl,.inl ⟨rfl,_,SqL.of hd3⟩,_,rfl,_,rfl,_,rfl,_,rfl,_,_,rfl,rfl,by show 3<=sizeLine;decide,fun p hp=>?_⟩
   have kp:=ak hp (.tup [.int (pl F),.int (mn F),.int (mn F+x)])
   have hd4:=kp _ _ hd3
   refine ⟨d,ws,.ref p,rfl,rfl,hd4,Do (show ws.length<100 by omega) (by decide),?_⟩
   refine ⟨ws++[.ref p],_,_,_,rfl,(gf.trans kp).write fd _,?_,ah,?_⟩
   . rw [aA hfd,ef];exact kp _ _ hf3
   . rw [et,DR]
     have ts:bG H2 (upd (upd H3 p (.tup [.int (pl F),.int (mn F),.int (mn F+x)])) d (.lst (ws++[.ref p]))):=(ts3.trans kp.ts).trans (bG.lst hd4 _)
     refine (rs.tmono ts (wu _)).append (Reps.one (.tup ?_ (Reps.ints (ns:=[_,_,_]))))
     rw [aA (nG (ah (H:=H3) (a:=p)) hd4 (by intro z;cases z)),ah]
     rfl
 . rintro σ H2 ⟨ws,x4,x5,x6,rfl,g,hf2,hd2,rs⟩
   rw [Da,DE] at rs
   exact ⟨_,rfl,q d ws H2 g fd hd2 rs⟩
theorem Bq {H:Hp} {ws:List V} {ts:List Tk} {i:Nat} {u:V} (rs:Reps H ws (ts.map ze)) (h:ws[i]? =some u):∃ (t:Tk) (p:Addr),ts[i]? =some t/\u=.ref p/\H p=some (.tup [.int t.1,.int t.2.1,.int t.2.2]):=by
 obtain ⟨d,hd,r⟩:=rs.get' h
 rw [Di] at hd
 cases e:ts[i]? with
 | none=>rw [e] at hd;cases hd
 | some t=>
  rw [e] at hd
  obtain rfl:=Dg hd
  obtain ⟨p,vs,rfl,hp,rv⟩:=r.tup_inv
  have ev:vs=[.int t.1,.int t.2.1,.int t.2.2]:=Reps.ints_inv (ns:=[t.1,t.2.1,t.2.2]) rv
  subst ev
  exact ⟨t,p,rfl,rfl,hp⟩
theorem lK {α:Type} {l:List α} {i:Nat} {x:α} (h:l[i]? =some x) (f:α->Int):((l.take i).map f).map V.int++[.int (f x)]=((l.take (i+1)).map f).map V.int:=by
 rw [bE h,DR,DR];rfl
end
end Be.G
namespace Be
open PySem L2
theorem iz {o:List Int} {i:Nat} {u:V} (h:(o.map V.int)[i]? =some u):∃ x,u=.int x/\o[i]? =some x/\o.getD i 0=x:=by
 rw [Di] at h
 cases e:o[i]? with
 | none=>rw [e] at h;cases h
 | some x=>
  rw [e] at h
  exact ⟨x,(Dg h).symm,rfl,by rw [C9,e];rfl⟩
section
variable {P:Program} {w:World} {K:PySem.W.Frag} {mg:Str->Option Value} {base:Heap}
def BB (T:Txt K mg):Sp:=fun vs H Q E=>∃ (v t:V) (d dt:PyData),vs=[v,t]/\Rep H v d/\Rep H t dt/\(∀ ds,dt=.tuple ds->ds.length<=1000)/\(qp d=false->∀ H',aM H H'->E (.ref T.e_NoWorld.C) none H')/\
 ∀ W:Wd,W.Ok->d=cv W->(sK W dt=false->∀ H',aM H H'->E (.ref T.e_NoOrder.C) none H')/\
  (∀ o,VO W o->dt=iW o->∀ (r:Addr) (H':Hp) (ws:List V),aM H H'->H r=none->H' r=some (.lst ws)->Reps H' ws ((ao W o).map iB)->Q (.ref r) H')
theorem jQ (T:Txt K mg):bP P w K mg base (CXr P w) 7 T.rules.a T.rules.d ["world","order"] (BB T):=by
 refine T.rules.F.okR eR (fun vs H Q E h=>?_) (fun cdv A outer s H vs Q E hr h=>?_)
 . obtain ⟨v,t,d,dt,rfl,_⟩:=h;rfl
 obtain ⟨v,t,d,dt,rfl,hd,ht,hln,q1,q2⟩:=h
 refine ⟨_,(ai (bn (aj (cJ T) (hr.mono (by decide)) rfl T.check_order.m T.check_order.F.kp T.check_order.b .nil sH (ad (pv 0) (ad (pv 1) af)))) (ai (aD (i:=2) eR.nd rfl (by first|exact .inl rfl|exact .inr rfl) (dl af)) (ai (PS.nox (cD Ea rfl (oE rfl T.n_enumerate (ad (pv 1) af)) (oG rfl (aP (aC (i:=3) eR.nd rfl (by first|exact .inl rfl|exact .inr rfl)) (aP (aC (i:=4) eR.nd rfl (by first|exact .inl rfl|exact .inr rfl)) cI))) (am (bn (ny Ex PySem.F.slot_list_extend PySem.F.type_list_extend lG (pv 2) (ad (aj (fQ T) (hr.mono (by decide)) rfl T.rules_of_ended.m T.rules_of_ended.F.kp T.rules_of_ended.b .nil aw (ad (pv 0) (ad (pv 4) (ad (aN bt (pv 3) ap) af)))) af)))))) (ai (PS.nox (cD Ea rfl (cj (aj (qc T) (hr.mono (by decide)) rfl T.running.m T.running.F.kp T.running.b .nil aw (ad (pv 0) (ad (pv 1) af)))) (aC (i:=4) eR.nd rfl (by first|exact .inl rfl|exact .inr rfl)) (am (bn (ny Ex PySem.F.slot_list_append PySem.F.type_list_append dy (pv 2) (ad (aj (fb T) (hr.mono (by decide)) rfl T.rule_of_running.m T.rule_of_running.F.kp T.rule_of_running.b .nil aw (ad (pv 0) (ad (pv 4) (ad (az aF rfl T.n_len cn (ad (pv 1) af)) af)))) af)))))) (am (aB (pv 2))))))),?_⟩
 refine ⟨_,rfl,_,rfl,v,t,d,dt,rfl,hd,ht,hln,q1,fun W hok e=>⟨(q2 W hok e).1,fun hy H1 g1=>?_⟩⟩
 subst e
 obtain ⟨o,rfl,vo⟩:=Aa hy
 have q:=(q2 W hok rfl).2 o vo rfl
 have l10:=hok.l10
 have vl:=vo.len
 obtain ⟨po,rfl,hpo⟩:=xE (K:=K) ht
 refine ⟨DD _,fun l hl=>?_⟩
 have gl:=g1.trans (ak hl (.lst []))
 have fl:H l=none:=g1.free hl
 refine ⟨_,rfl,po,_,rfl,SqT.of (gl _ _ hpo),lQ (K:=K) (a:=po) (xs:=o.map V.int) (fun i σ H2=>∃ (ws:List V) (x y:Option V),σ=[some v,some (.ref po),some (.ref l),x,y]/\aM H H2/\H2 l=some (.lst ws)/\Reps H2 ws ((aV W o i).map iB)) ?_ ?_ ?_ ?_⟩
 . exact ⟨[],none,none,rfl,gl,ah,.nil⟩
 . rintro i σ H2 _ ⟨ws,x,y,rfl,g,_⟩
   exact SqT.of (g _ _ hpo)
 . rintro i u p σ H2 hu hp ⟨ws,x,y,rfl,g,hl2,rs⟩
   obtain ⟨z,rfl,hz,hzd⟩:=iz hu
   have hi:i<o.length:=(Db.mp hz).1
   have zb:=vo.lt (Dj hz)
   have g2:=ak hp (.tup [.int i,.int z])
   have gg:=g.trans g2
   refine ⟨p,_,rfl,SqT.of ah,rfl,_,_,rfl,_,_,rfl,rfl,?_⟩
   refine ⟨_,rfl,.inl ⟨rfl,_,SqL.of (g2 _ _ hl2)⟩,_,rfl,_,rfl,_,rfl,_,_,rfl,rfl,v,W,z,(i:Int)+1,rfl,hd.mono gg,zb.1,zb.2,fun r H3 w3 g3 fr3 hr3 rs3=>?_⟩
   have hl3:H3 l=some (.lst ws):=g3 _ _ (g2 _ _ hl2)
   refine ⟨l,r,ws,w3,rfl,rfl,hl3,hr3,?_,?_⟩
   . rw [rs.length,rs3.length,Da,Da,aS]
     exact DP (show 3*i+3<=100 by omega) (by decide)
   refine ⟨ws++w3,_,_,rfl,(gg.trans g3).write fl _,ah,?_⟩
   rw [cr,DR,hzd]
   have ts:bG H3 (upd H3 l (.lst (ws++w3))):=bG.lst hl3 _
   have e3:([((i:Int)+1,bg W z,(bnd W z).2),(bg W z,(i:Int)+1,-(bnd W z).1),((i:Int)+1-1,(i:Int)+1,0)]:List Ru)=d9 W i z:=by
    unfold d9
    rw [show (i:Int)+1-1=i by omega]
   rw [e3] at rs3
   exact ((rs.mono (g2.trans g3)).tmono ts (gR _)).append (rs3.tmono ts (gR _))
 . rintro σ H2 ⟨ws,x,y,rfl,g,hl2,rs⟩
   rw [Da] at rs
   refine ⟨_,rfl,_,rfl,v,po,W,o,rfl,hd.mono g,hok,.inr (SqT.of (g _ _ hpo)),by omega,fun r H3 g3 fr3 hr3=>?_⟩
   have hrl:r≠l:=fun z=>by rw [z,hl2] at fr3;cases fr3
   have fr:H r=none:=g.free fr3
   have rl:=rV W o
   refine ⟨r,rfl,⟨_,SqL.of hr3⟩,gQ (K:=K) (a:=r) (xs:=(kX W o).map V.int) (fun i σ H4=>∃ (ws:List V) (x y:Option V),σ=[some v,some (.ref po),some (.ref l),x,y]/\aM H H4/\H4 l=some (.lst ws)/\H4 r=some (.lst ((kX W o).map V.int))/\Reps H4 ws ((aV W o o.length++((kX W o).take i).map (dZ W o.length)).map iB)) ?_ ?_ ?_ ?_⟩
   . refine ⟨ws,x,y,rfl,g.trans g3,g3 _ _ hl2,hr3,?_⟩
     show Reps H3 ws ((aV W o o.length++[]).map iB)
     rw [D7]
     exact rs.mono g3
   . rintro i σ H4 _ ⟨ws,x,y,rfl,g4,hl4,hr4,_⟩
     exact SqL.of hr4
   . rintro i u σ H4 hu ⟨ws,x,y,rfl,g4,hl4,hr4,rs4⟩
     obtain ⟨z,rfl,hz,hzd⟩:=iz hu
     have zr:=ck.mp (Dj hz)
     have zb:0<=z/\z<(W.bs.length:Int):=by have:=bT W o.length;omega
     have hi:i<(kX W o).length:=(Db.mp hz).1
     refine ⟨_,rfl,.inl ⟨rfl,_,SqL.of hl4⟩,_,rfl,_,rfl,_,rfl,po,_,rfl,.inr (SqT.of (g4 _ _ hpo)),v,W,z,_,rfl,hd.mono g4,zb.1,zb.2,fun u5 H5 g5 ru5=>?_⟩
     have hl5:=g5 _ _ hl4
     refine ⟨l,ws,u5,rfl,rfl,hl5,?_,?_⟩
     . rw [rs4.length,Da,Dm,aS,Da,Dv]
       exact Do (show _<100 by omega) (by decide)
     rw [Da] at ru5
     have ts:bG H5 (upd H5 l (.lst (ws++[u5]))):=bG.lst hl5 _
     refine ⟨ws++[u5],_,_,rfl,(g4.trans g5).write fl _,ah,?_,?_⟩
     . rw [aA hrl];exact g5 _ _ hr4
     . rw [Ep,hz]
       show Reps _ _ ((aV W o o.length++((kX W o).take i++[z]).map (dZ W o.length)).map iB)
       rw [show (aV W o o.length++((kX W o).take i++[z]).map (dZ W o.length)).map iB=(aV W o o.length++((kX W o).take i).map (dZ W o.length)).map iB++[iB (dZ W o.length z)] by simp]
       exact ((rs4.mono g5).tmono ts (gR _)).append (Reps.one (ru5.tmono ts (by rfl)))
   . rintro σ H4 ⟨ws,x,y,rfl,g4,hl4,hr4,rs4⟩
     rw [Da,DE] at rs4
     exact ⟨_,rfl,q l H4 ws g4 fl hl4 rs4⟩
end
end Be
namespace Be
def fn (r:List Int) (i:Nat):Int:=r.getD i 0
def bw (rs:List Ru) (f:Nat->Int):Prop:=∀ r∈rs,f r.1.toNat-f r.2.1.toNat<=r.2.2
def NN (n:Nat) (f:Nat->Int):Prop:=∀ v,v<n->0<=f v
def InR (rs:List Ru) (n:Nat):Prop:=∀ r∈rs,(0<=r.1/\r.1<(n:Int))/\(0<=r.2.1/\r.2.1<(n:Int))
def mxI (i j:Int):Int:=if j>i then j else i
def cG (row:List Int) (r:Ru):List Int:=row.set r.2.1.toNat (mxI (fn row r.2.1.toNat) (fn row r.1.toNat-r.2.2))
def fF (rs:List Ru) (row:List Int):List Int:=rs.foldl cG row
def gn (rs:List Ru):Nat->List Int->Option (List Int)
 | 0,_=>none
 | t+1,row=>if fF rs row=row then some row else gn rs t (fF rs row)
theorem lV (row:List Int) (k i:Nat) (v:Int):fn (row.set k v) i=if i=k/\k<row.length then v else fn row i:=by
 unfold fn
 rw [C9,C9,List.getElem?_set]
 by_cases h:k=i
 . subst h
   by_cases hl:k<row.length
   . rw [if_pos rfl,if_pos hl,if_pos ⟨rfl,hl⟩];rfl
   . rw [if_pos rfl,if_neg hl,if_neg (fun z=>hl z.2),DO (by omega)]
 . rw [if_neg h,if_neg (fun z=>h z.1.symm)]
theorem eL (row:List Int) (r:Ru):(cG row r).length=row.length:=by unfold cG;rw [Ef]
theorem cW (rs:List Ru):∀ row,(fF rs row).length=row.length:=by
 induction rs with
 | nil=>intro row;rfl
 | cons r rs ih=>intro row;show (fF rs (cG row r)).length=_;rw [ih,eL]
theorem rF (row:List Int) (r:Ru) (i:Nat):fn row i<=fn (cG row r) i:=by
 unfold cG
 rw [lV]
 split
 . rename_i h
   rw [h.1]
   unfold mxI
   split<;>omega
 . exact DK _
theorem fO (rs:List Ru):∀ (row:List Int) (i:Nat),fn row i<=fn (fF rs row) i:=by
 induction rs with
 | nil=>intro row i;exact DK _
 | cons r rs ih=>intro row i;exact Eb (rF row r i) (ih (cG row r) i)
theorem xq {row:List Int} {r:Ru} {f:Nat->Int} (h:f r.1.toNat-f r.2.1.toNat<=r.2.2) (h1:r.1.toNat<row.length) (hr:∀ i,i<row.length->fn row i<=f i):∀ i,i<(cG row r).length->fn (cG row r) i<=f i:=by
 intro i hi
 rw [eL] at hi
 unfold cG
 rw [lV]
 split
 . rename_i z
   obtain ⟨z1,z2⟩:=z
   have a:=hr _ z2
   have b:=hr _ h1
   rw [z1]
   unfold mxI
   split<;>omega
 . exact hr i hi
theorem jM {f:Nat->Int} (rs:List Ru):∀ (row:List Int),bw rs f->InR rs row.length->(∀ i,i<row.length->fn row i<=f i)->∀ i,i<row.length->fn (fF rs row) i<=f i:=by
 induction rs with
 | nil=>intro row _ _ h;exact h
 | cons r rs ih=>
  intro row hf hi h
  have h1:=hi r Dx
  have z:=ih (cG row r) (fun q hq=>hf q (Dk _ hq)) (by rw [eL];exact fun q hq=>hi q (Dk _ hq)) (xq (hf r Dx) (by omega) h)
  rw [eL] at z
  exact z
theorem oJ (rs:List Ru):∀ (row:List Int),InR rs row.length->∀ r∈rs,fn row r.1.toNat-r.2.2<=fn (fF rs row) r.2.1.toNat:=by
 induction rs with
 | nil=>intro row _ r hr;cases hr
 | cons q rs ih=>
  intro row hi r hr
  have hq:=hi q Dx
  rcases DI.mp hr with rfl | hr
  . refine Eb ?_ (fO rs (cG row r) _)
    unfold cG
    rw [lV,if_pos ⟨rfl,by omega⟩]
    unfold mxI
    split<;>omega
  . have a:=ih (cG row q) (by rw [eL];exact fun x hx=>hi x (Dk _ hx)) r hr
    have b:=rF row q r.1.toNat
    show _<=fn (fF rs (cG row q)) _
    omega
theorem v7 {rs:List Ru} {row:List Int} (hi:InR rs row.length) (h:fF rs row=row):bw rs (fn row):=fun r hr=>by
 have:=oJ rs row hi r hr
 rw [h] at this
 omega
def fE:Nat->(Nat->Int)->Int
 | 0,_=>0
 | n+1,f=>fE n f+f n
theorem jy {f:Nat->Int}:∀ n,NN n f->0<=fE n f
 | 0,_=>DK _
 | n+1,h=>by
  have a:=jy n (fun v hv=>h v (by omega))
  have b:=h n (by omega)
  show 0<=fE n f+f n
  omega
theorem mQ {f g:Nat->Int}:∀ n,(∀ v,v<n->f v<=g v)->fE n f<=fE n g
 | 0,_=>DK _
 | n+1,h=>by
  have a:=mQ n (fun v hv=>h v (by omega))
  have b:=h n (by omega)
  show fE n f+f n<=fE n g+g n
  omega
theorem jz {f g:Nat->Int}:∀ n,(∀ v,v<n->f v<=g v)->(∃ v,v<n/\f v<g v)->fE n f<fE n g
 | 0,_,⟨v,hv,_⟩=>by omega
 | n+1,h,⟨v,hv,hl⟩=>by
  have b:=h n (by omega)
  show fE n f+f n<fE n g+g n
  by_cases e:v=n
  . subst e
    have a:=mQ v (fun u hu=>h u (by omega))
    omega
  . have a:=jz n (fun u hu=>h u (by omega)) ⟨v,by omega,hl⟩
    omega
def cnt:Nat->(Nat->Bool)->Nat
 | 0,_=>0
 | n+1,p=>cnt n p+(if p n then 1 else 0)
theorem iF (p:Nat->Bool):∀ n,cnt n p<=n
 | 0=>Dh _
 | n+1=>by
  have:=iF p n
  show cnt n p+(if p n then 1 else 0)<=n+1
  split<;>omega
theorem wZ {p q:Nat->Bool}:∀ n,(∀ v,v<n->p v=true->q v=true)->cnt n p<=cnt n q
 | 0,_=>Dh _
 | n+1,h=>by
  have a:=wZ n (fun v hv=>h v (by omega))
  have b:=h n (by omega)
  show cnt n p+(if p n then 1 else 0)<=cnt n q+(if q n then 1 else 0)
  cases hp:p n
  . simp;split<;>omega
  . rw [b hp];simp;omega
theorem mh {p q:Nat->Bool}:∀ n,(∀ v,v<n->p v=true->q v=true)->(∃ v,v<n/\p v=false/\q v=true)->cnt n p+1<=cnt n q
 | 0,_,⟨v,hv,_⟩=>by omega
 | n+1,h,⟨v,hv,hp,hq⟩=>by
  show cnt n p+(if p n then 1 else 0)+1<=cnt n q+(if q n then 1 else 0)
  by_cases e:v=n
  . subst e
    have a:=wZ v (fun u hu=>h u (by omega))
    rw [hp,hq];simp;omega
  . have a:=mh n (fun u hu=>h u (by omega)) ⟨v,by omega,hp,hq⟩
    have b:=h n (by omega)
    cases hp:p n
    . simp;split<;>omega
    . rw [b hp];simp;omega
theorem uq {p:Nat->Bool}:∀ n,(∀ v,v<n->p v=true)->cnt n p=n
 | 0,_=>rfl
 | n+1,h=>by
  show cnt n p+(if p n then 1 else 0)=n+1
  rw [uq n (fun v hv=>h v (by omega)),h n (by omega)];rfl
theorem pi {p:Nat->Bool}:∀ n,n<=cnt n p->∀ v,v<n->p v=true
 | 0,_,v,hv=>by omega
 | n+1,h,v,hv=>by
  have h':n+1<=cnt n p+(if p n then 1 else 0):=h
  have l:=iF p n
  cases hp:p n
  . rw [hp] at h';simp at h';omega
  . by_cases e:v=n
    . rw [e];exact hp
    . rw [hp] at h';simp at h';exact pi n (by omega) v (by omega)
structure qL (rs:List Ru) (n:Nat) (L:Nat->Int):Prop where
 fe:bw rs L
 nn:NN n L
 le:∀ M,bw rs M->NN n M->fE n L<=fE n M
theorem gm (rs:List Ru) (n:Nat):∀ (k:Nat) (x:Nat->Int),bw rs x->NN n x->(fE n x).toNat<=k->∃ L,qL rs n L
 | 0,x,hf,hn,hk=>⟨x,hf,hn,fun M _ hM=>by have:=jy n hM;have:=jy n hn;omega⟩
 | k+1,x,hf,hn,hk=>by
  by_cases h:∃ M,bw rs M/\NN n M/\fE n M<fE n x
  . obtain ⟨M,a,b,c⟩:=h
    have:=jy n b
    exact gm rs n k M a b (by omega)
  . exact ⟨x,hf,hn,fun M a b=>by
      by_cases c:fE n M<fE n x
      . exact absurd ⟨M,a,b,c⟩ h
      . omega⟩
theorem zH {rs:List Ru} {n:Nat} {L:Nat->Int} (hL:qL rs n L) {row:List Int} (hl:row.length=n) (hi:InR rs n) (h0:∀ v,v<n->0<=fn row v) (hle:∀ v,v<n->fn row v<=L v)
    (hne:∃ v,v<n/\fn row v≠L v):∃ v,v<n/\fn row v≠L v/\fn (fF rs row) v=L v:=by
 apply DB
 intro hno
 have hno':∀ v,v<n->fn row v≠L v->fn (fF rs row) v≠L v:=fun v a b c=>hno ⟨v,a,b,c⟩
 have hp:=jM rs row hL.fe (by rw [hl];exact hi) (by rw [hl];exact hle)
 rw [hl] at hp
 have hh:=oJ rs row (by rw [hl];exact hi)
 let M:Nat->Int:=fun v=>if fn row v=L v then L v else L v-1
 have m1:∀ v,fn row v=L v->M v=L v:=fun v e=>if_pos e
 have m2:∀ v,fn row v≠L v->M v=L v-1:=fun v e=>if_neg e
 have hM:bw rs M:=fun r hr=>by
  have f:=hL.fe r hr
  have ir:=hi r hr
  have h1:=hh r hr
  have hb:=hp r.2.1.toNat (by omega)
  by_cases a:fn row r.1.toNat=L r.1.toNat
  . by_cases b:fn row r.2.1.toNat=L r.2.1.toNat
    . rw [m1 _ a,m1 _ b];exact f
    . rw [m1 _ a,m2 _ b]
      have:=hno' r.2.1.toNat (by omega) b
      omega
  . by_cases b:fn row r.2.1.toNat=L r.2.1.toNat
    . rw [m2 _ a,m1 _ b];omega
    . rw [m2 _ a,m2 _ b];omega
 have hN:NN n M:=fun v hv=>by
  have a:=h0 v hv
  have b:=hle v hv
  by_cases e:fn row v=L v
  . rw [m1 _ e];omega
  . rw [m2 _ e];omega
 have l:=hL.le M hM hN
 obtain ⟨v,hv,hne⟩:=hne
 have:=jz (f:=M) (g:=L) n (fun u hu=>by
  by_cases e:fn row u=L u
  . rw [m1 _ e];omega
  . rw [m2 _ e];omega) ⟨v,hv,by rw [m2 _ hne];omega⟩
 omega
def wF (L:Nat->Int) (row:List Int):Nat->Bool:=fun v=>decide (fn row v=L v)
theorem i6 {rs:List Ru} {n:Nat} {L:Nat->Int} (hL:qL rs n L) {row:List Int} (hl:row.length=n) (hi:InR rs n) (h0:∀ v,v<n->0<=fn row v) (hle:∀ v,v<n->fn row v<=L v)
    (hne:∃ v,v<n/\fn row v≠L v):cnt n (wF L row)+1<=cnt n (wF L (fF rs row)):=by
 obtain ⟨v,hv,a,b⟩:=zH hL hl hi h0 hle hne
 have hp:=jM rs row hL.fe (by rw [hl];exact hi) (by rw [hl];exact hle)
 rw [hl] at hp
 refine mh n (fun u hu e=>?_) ⟨v,hv,Dw a,decide_eq_true b⟩
 have e':=of_decide_eq_true e
 have g:=fO rs row u
 have:=hp u hu
 exact decide_eq_true (by omega)
theorem kg {x y:List Int} (hl:x.length=y.length) (h:∀ v,v<x.length->fn x v=fn y v):x=y:=by
 refine List.ext_getElem hl fun i h1 h2=>?_
 have:=h i h1
 unfold fn at this
 rw [C9,C9,C7 h1,C7 h2] at this
 exact this
theorem conv {rs:List Ru} {n:Nat} {L:Nat->Int} (hL:qL rs n L) (hi:InR rs n):∀ (t:Nat) (row:List Int),row.length=n->(∀ v,v<n->0<=fn row v)->(∀ v,v<n->fn row v<=L v)->n+1<=t+cnt n (wF L row)->∃ r,gn rs t row=some r
 | 0,row,hl,_,_,hc=>by have:=iF (wF L row) n;omega
 | t+1,row,hl,h0,hle,hc=>by
  have hp:=jM rs row hL.fe (by rw [hl];exact hi) (by rw [hl];exact hle)
  rw [hl] at hp
  unfold gn
  by_cases e:fF rs row=row
  . rw [if_pos e];exact ⟨row,rfl⟩
  . rw [if_neg e]
    have hne:∃ v,v<n/\fn row v≠L v:=by
     apply DB
     intro hno
     refine e (kg (cW rs row) fun v hv=>?_)
     rw [cW,hl] at hv
     have a:=hp v hv
     have b:=fO rs row v
     have c:fn row v=L v:=DB fun z=>hno ⟨v,hv,z⟩
     omega
    have hc2:=i6 hL hl hi h0 hle hne
    exact conv hL hi t (fF rs row) (by rw [cW];exact hl) (fun v hv=>Eb (h0 v hv) (fO rs row v)) hp (by omega)
theorem eF {rs:List Ru} {n:Nat} (hi:InR rs n):∀ (t:Nat) (row r:List Int),row.length=n->gn rs t row=some r->r.length=n/\fF rs r=r/\(∀ v,fn row v<=fn r v)/\∀ f,bw rs f->(∀ v,v<n->fn row v<=f v)->∀ v,v<n->fn r v<=f v
 | 0,row,r,hl,h=>by cases h
 | t+1,row,r,hl,h=>by
  unfold gn at h
  by_cases e:fF rs row=row
  . rw [if_pos e] at h
    cases h
    exact ⟨hl,e,fun v=>DK _,fun f _ hf=>hf⟩
  . rw [if_neg e] at h
    obtain ⟨a,b,c,d⟩:=eF hi t (fF rs row) r (by rw [cW];exact hl) h
    refine ⟨a,b,fun v=>Eb (fO rs row v) (c v),fun f hf hle=>d f hf ?_⟩
    have:=jM rs row hf (by rw [hl];exact hi) (by rw [hl];exact hle)
    rw [hl] at this
    exact this
def kB:List Ru->Int
 | []=>0
 | r::rs=>(if r.2.2<0 then-r.2.2 else 0)+kB rs
theorem j7:∀ a b,kB (a++b)=kB a+kB b
 | [],b=>by show kB b=0+kB b;omega
 | r::a,b=>by
  show (if r.2.2<0 then-r.2.2 else 0)+kB (a++b)=(if r.2.2<0 then-r.2.2 else 0)+kB a+kB b
  rw [j7 a b];omega
theorem i9:∀ (rs:List Ru) (row:List Int) (c:Int),0<=c->(∀ v,fn row v<=c)->∀ v,fn (fF rs row) v<=c+kB rs
 | [],row,c,_,h,v=>by have:=h v;show fn row v<=c+0;omega
 | r::rs,row,c,hc,h,v=>by
  have z:=i9 rs (cG row r) (c+(if r.2.2<0 then-r.2.2 else 0)) (by split<;>omega) (fun u=>by
   have a:=h u
   have b:=h r.1.toNat
   have d:=h r.2.1.toNat
   unfold cG
   rw [lV]
   split
   . unfold mxI;split<;>split<;>omega
   . split<;>omega) v
  show fn (fF rs (cG row r)) v<=c+((if r.2.2<0 then-r.2.2 else 0)+kB rs)
  omega
theorem iC {rs:List Ru} {n:Nat} (hi:InR rs n) (hg:kB rs<=990) {r:List Int} (hL:qL rs n (fn r)) (hfix:fF rs r=r) (hrl:r.length=n):∀ (t:Nat) (row:List Int) (c:Int),row.length=n->gn rs t row=some r->0<=c->(∀ v,fn row v<=c)->(∀ v,v<n->0<=fn row v)->
    ∀ v,fn r v<=c+990*((n:Int)-(cnt n (wF (fn r) row):Int))
 | 0,row,c,hl,h,_,_,_=>by cases h
 | t+1,row,c,hl,h,hc,hb,h0=>by
  intro v
  have ep:=(eF hi (t+1) row r hl h).2.2.1
  unfold gn at h
  by_cases e:fF rs row=row
  . rw [if_pos e] at h
    cases h
    have:=hb v
    have:=iF (wF (fn r) r) n
    omega
  . rw [if_neg e] at h
    have hne:∃ v,v<n/\fn row v≠fn r v:=by
     apply DB
     intro hno
     have:row=r:=kg (by rw [hl,hrl]) fun v hv=>DB fun z=>hno ⟨v,by omega,z⟩
     rw [this] at e
     exact e hfix
    have hc2:=i6 hL hl hi h0 (fun v _=>ep v) hne
    have pb:=i9 rs row c hc hb
    have z:=iC hi hg hL hfix hrl t (fF rs row) (c+990) (by rw [cW];exact hl) h (by omega) (fun u=>by have:=pb u;omega) (fun u hu=>Eb (h0 u hu) (fO rs row u)) v
    omega
theorem og {W:Wd} {x:Int} (h0:0<=x) (h1:x<(W.bs.length:Int)):bnd W x∈W.bs:=by
 unfold bnd
 rw [C9,C7 (show x.toNat<W.bs.length by omega)]
 exact DX _
theorem iw {W:Wd} {o:List Int} {r:Ru}:∀ {i:Nat},r∈aV W o i->∃ j,j<i/\r∈d9 W j (o.getD j 0)
 | i,h=>by
  unfold aV at h
  obtain ⟨j,hj,hr⟩:=List.mem_flatMap.mp h
  exact ⟨j,DQ.mp hj,hr⟩
theorem VO.getD {W:Wd} {o:List Int} (h:VO W o) {j:Nat} (hj:j<o.length):0<=o.getD j 0/\o.getD j 0<(b9 W j:Int):=by
 rw [C9,C7 hj]
 exact h.at_ j _ (C7 hj)
theorem qI {W:Wd} {n:Nat} {x:Int} (hok:W.Ok) (h0:0<=x) (h:x<(b9 W n:Int)):0<=bg W x/\bg W x<=n:=by
 have b1:=hok.b1
 unfold bg
 unfold b9 at h
 split<;>omega
theorem inR {W:Wd} {o:List Int} (hok:W.Ok) (vo:VO W o):InR (ao W o) (o.length+1):=fun r hr=>by
 unfold ao at hr
 rcases DN.mp hr with hr | hr
 . obtain ⟨j,hj,hr⟩:=iw hr
   have g:=vo.getD hj
   have b:=qI hok g.1 g.2
   unfold d9 at hr
   simp only [DI,En,or_false] at hr
   rcases hr with rfl | rfl | rfl
   . dsimp only;omega
   . dsimp only;omega
   . dsimp only;omega
 . obtain ⟨x,hx,rfl⟩:=DM.mp hr
   obtain ⟨⟨x0,x1⟩,_⟩:=ck.mp hx
   have b:=qI hok x0 x1
   unfold dZ
   dsimp only
   omega
theorem o3 {W:Wd} {o:List Int} (hok:W.Ok) (vo:VO W o):∀ i,i<=o.length->kB (aV W o i)<=99*(i:Int)
 | 0,_=>DK _
 | i+1,hi=>by
  have ih:=o3 hok vo i (by omega)
  have g:=vo.getD (j:=i) (by omega)
  have l:=bT W i
  have m:=hok.bd _ (og g.1 (by omega:o.getD i 0<(W.bs.length:Int)))
  rw [cr,j7]
  have e:kB (d9 W i (o.getD i 0))<=99:=by
   unfold d9
   simp only [kB]
   split<;>split<;>split<;>omega
  omega
theorem o0 {W:Wd} (hok:W.Ok) (n:Nat):∀ xs:List Int,(∀ x∈xs,0<=x/\x<(W.bs.length:Int))->kB (xs.map (dZ W n))=0
 | [],_=>rfl
 | x::xs,h=>by
  have a:=h x Dx
  have m:=hok.bd _ (og a.1 a.2)
  rw [DS,kB,o0 hok n xs fun y hy=>h y (Dk _ hy)]
  unfold dZ
  dsimp only
  split<;>omega
theorem qv {W:Wd} {o:List Int} (hok:W.Ok) (vo:VO W o):kB (ao W o)<=990:=by
 have a:=o3 hok vo o.length (Dh _)
 have l:=vo.len
 have l10:=hok.l10
 unfold ao
 rw [j7,o0 hok _ _ fun x hx=>by
  obtain ⟨⟨x0,x1⟩,_⟩:=ck.mp hx
  have:=bT W o.length
  omega]
 omega
theorem jo {W:Wd} {o:List Int} {k:Nat} (h:k<o.length):((k:Int),(k:Int)+1,(0:Int))∈ao W o:=by
 unfold ao aV
 refine List.mem_append_left _ (List.mem_flatMap.mpr ⟨k,DQ.mpr h,?_⟩)
 unfold d9
 simp
theorem r6 {W:Wd} {o:List Int} {f:Nat->Int} (h:bw (ao W o) f):∀ v,v<=o.length->f 0<=f v
 | 0,_=>DK _
 | v+1,hv=>by
  have a:=r6 h v (by omega)
  have b:=h _ (jo (k:=v) (by omega))
  dsimp only at b
  rw [Dz,show ((v:Int)+1).toNat=v+1 by omega] at b
  omega
def ww (n:Nat):List Int:=List.replicate n 0
theorem dD (n v:Nat):fn (ww n) v=0:=by
 unfold fn ww
 rw [C9,List.getElem?_replicate]
 split<;>rfl
theorem gI (n:Nat):(ww n).length=n:=D4 ..
def early (W:Wd) (o:List Int):Option (List Int):=gn (ao W o) (o.length+2) (ww (o.length+1))
structure yY (W:Wd) (o:List Int) (r:List Int):Prop where
 len:r.length=o.length+1
 fe:bw (ao W o) (fn r)
 nn:∀ v,0<=fn r v
 z:fn r 0=0
 le:∀ f,bw (ao W o) f->NN (o.length+1) f->∀ v,v<o.length+1->fn r v<=f v
 top:∀ v,fn r v<=9900
theorem dQ {W:Wd} {o r:List Int} (hok:W.Ok) (vo:VO W o) (h:early W o=some r):yY W o r:=by
 have hi:=inR hok vo
 unfold early at h
 obtain ⟨a,b,c,d⟩:=eF hi _ _ r (gI _) h
 have fe:bw (ao W o) (fn r):=v7 (by rw [a];exact hi) b
 have nn:∀ v,0<=fn r v:=fun v=>by have:=c v;rw [dD] at this;exact this
 have le:∀ f,bw (ao W o) f->NN (o.length+1) f->∀ v,v<o.length+1->fn r v<=f v:=fun f hf hn=>d f hf fun v hv=>by rw [dD];exact hn v hv
 have z:fn r 0=0:=by
  have x:=le (fun v=>fn r v-fn r 0) (fun q hq=>by have:=fe q hq;dsimp only;omega) (fun v hv=>by have:=r6 fe v (by omega);dsimp only;omega) 0 (by omega)
  have:=nn 0
  omega
 refine ⟨a,fe,nn,z,le,fun v=>?_⟩
 have hL:qL (ao W o) (o.length+1) (fn r):=⟨fe,fun v _=>nn v,fun M hM hN=>mQ _ (le M hM hN)⟩
 have t:=iC hi (qv hok vo) hL b a _ _ 0 (gI _) h (DK _) (fun v=>by rw [dD];exact DK _) (fun v _=>by rw [dD];exact DK _) v
 have c1:1<=cnt (o.length+1) (wF (fn r) (ww (o.length+1))):=by
  have:=mh (p:=fun _=>false) (q:=wF (fn r) (ww (o.length+1))) (o.length+1) (fun _ _ z=>by cases z) ⟨0,by omega,rfl,decide_eq_true (by rw [dD,z])⟩
  omega
 have l:=vo.len
 have l10:=hok.l10
 omega
theorem fS {W:Wd} {o:List Int} (hok:W.Ok) (vo:VO W o) {f:Nat->Int} (hf:bw (ao W o) f) (hn:NN (o.length+1) f):∃ r,early W o=some r:=by
 obtain ⟨L,hL⟩:=gm (ao W o) (o.length+1) _ f hf hn (Dh _)
 exact conv hL (inR hok vo) _ _ (gI _) (fun v _=>by rw [dD];exact DK _) (fun v hv=>by rw [dD];exact hL.nn v hv) (by omega)
end Be
namespace Be
open PySem L2
theorem cF {W W':Wd} (e:cv W=cv W'):W=W':=by
 obtain ⟨b,bs⟩:=W
 obtain ⟨b',bs'⟩:=W'
 unfold cv at e
 injection e with e
 injection e with e1 e2
 injection e1 with e1
 injection e2 with e2 _
 injection e2 with e2
 have hm:∀ (x y:List (Int×Int)),x.map jl=y.map jl->x=y:=by
  intro x
  induction x with
  | nil=>intro y h;cases y with | nil=>rfl | cons a r=>cases h
  | cons a r ih=>
   intro y h
   cases y with
   | nil=>cases h
   | cons c t=>
    rw [DS,DS] at h
    injection h with h1 h2
    unfold jl at h1
    injection h1 with h1
    injection h1 with h3 h4
    injection h3 with h3
    injection h4 with h4 _
    injection h4 with h4
    rw [ih t h2,show a=c from Prod.ext h3 h4]
 exact congr (Ee Wd.mk e1) (hm _ _ e2)
theorem ki:∀ {o o':List Int},iW o=iW o'->o=o':=by
 intro o o' e
 unfold iW at e
 injection e with e
 exact (List.map_inj_right fun x y h=>by injection h).mp e
def yE (rs:List Ru) (row:List Int):Bool:=rs.all fun r=>decide (fn row r.1.toNat-fn row r.2.1.toNat<=r.2.2)
theorem lW {rs:List Ru} {row:List Int}:yE rs row=true ↔ bw rs (fn row):=by
 unfold yE bw
 rw [List.all_eq_true]
 exact ⟨fun h r hr=>of_decide_eq_true (h r hr),fun h r hr=>decide_eq_true (h r hr)⟩
theorem oB {H:Hp} {v:V} {r:Ru} (h:Rep H v (iB r)):∃ p,v=.ref p/\H p=some (.tup [.int r.1,.int r.2.1,.int r.2.2]):=by
 obtain ⟨q,vs,rfl,hq,rs⟩:=h.tup_inv
 have e:vs=[.int r.1,.int r.2.1,.int r.2.2]:=Reps.ints_inv (ns:=[r.1,r.2.1,r.2.2]) rs
 subst e
 exact ⟨q,rfl,hq⟩
theorem rY {H:Hp} {ws:List V} {rs:List Ru} (h:Reps H ws (rs.map iB)) {i:Nat} {x:V} (hx:ws[i]? =some x):∃ r p,rs[i]? =some r/\r∈rs/\x=.ref p/\H p=some (.tup [.int r.1,.int r.2.1,.int r.2.2]):=by
 obtain ⟨d,hd,rx⟩:=h.get' hx
 rw [Di] at hd
 cases e:rs[i]? with
 | none=>rw [e] at hd;cases hd
 | some r=>
  rw [e] at hd
  obtain rfl:=Dg hd
  obtain ⟨p,rfl,hp⟩:=oB rx
  exact ⟨r,p,rfl,Dj e,rfl,hp⟩
theorem uG {row:List Int} {k:Int} (h0:0<=k) (h1:k<(row.length:Int)):atI (row.map V.int) k=some (.int (fn row k.toNat)):=by
 have ex:k=((k.toNat:Nat):Int):=by omega
 have hl:k.toNat<row.length:=by omega
 rw [ex]
 refine eI ?_
 rw [Di,C7 hl]
 unfold fn
 rw [C9,Dz,C7 hl]
 rfl
theorem Ba {x y z:V} {r:St}:∀ (k:Nat) (v:V),(none::none::none::r:St)[k]? =some (some v)->((((none::none::none::r:St).set 0 (some x)).set 1 (some y)).set 2 (some z))[k]? =some (some v)
 | 0,v,h=>by cases h
 | 1,v,h=>by cases h
 | 2,v,h=>by cases h
 | k+3,v,h=>h
theorem jW {α β γ:Type} {xs:List α} {i:Nat} {x:α} (h:xs[i]? =some x) (f:α->β) (g:β->γ):((xs.take (i+1)).map f).map g=((xs.take i).map f).map g++[g (f x)]:=by
 rw [Ep,h,DR,DR];rfl
theorem kY {W:Wd} {o:List Int} (hok:W.Ok) (vo:VO W o):(ao W o).length<=60:=by
 have:=rV W o
 have:=vo.len
 have:=hok.l10
 unfold ao
 rw [Dm,aS,Da]
 omega
section
variable {P:Program} {w:World} {K:PySem.W.Frag} {mg:Str->Option Value} {base:Heap}
def vg:Sp:=fun vs H Q _=>∃ (p l:Addr) (a b c:Int) (row:List Int),vs=[.ref p,.ref l]/\H p=some (.tup [.int a,.int b,.int c])/\H l=some (.lst (row.map V.int))/\0<=a/\a<(row.length:Int)/\0<=b/\b<(row.length:Int)/\
 Q (.bl (decide (fn row a.toNat-fn row b.toNat<=c))) H
theorem vM (T:Txt K mg):bP P w K mg base (CXr P w) 1 T.holds.a T.holds.d ["rule","event_moments"] vg:=by
 refine T.holds.F.okN vq (fun vs H Q E h=>?_) (fun cdv A outer s H vs Q E hr h=>?_)
 . obtain ⟨p,l,a,b,c,row,rfl,_⟩:=h;rfl
 obtain ⟨p,l,a,b,c,row,rfl,hp,hl,a0,a1,b0,b1,q⟩:=h
 refine ⟨_,(am (aB (nw nz (aN ip (aO bZ (pv 1) (aO aL (pv 0) ap (fun _ _=>rfl)) (fun _ _=>rfl)) (aO bZ (pv 1) (aO aL (pv 0) ap (fun _ _=>rfl)) (fun _ _=>rfl))) (aO aL (pv 0) ap (fun _ _=>rfl)) (cf _)))),?_⟩
 exact ⟨_,rfl,_,rfl,p,_,_,_,rfl,rfl,SqT.of hp,rfl,l,_,_,_,rfl,rfl,SqL.of hl,uG a0 a1,_,rfl,_,rfl,p,_,_,_,rfl,rfl,SqT.of hp,rfl,l,_,_,_,rfl,rfl,SqL.of hl,uG b0 b1,_,_,rfl,rfl,_,rfl,p,_,_,_,rfl,rfl,SqT.of hp,rfl,_,_,rfl,rfl,q⟩
end
end Be
namespace Be
open PySem L2
theorem gh {n:Nat} {k:Int} (h0:0<=k) (h1:k<(n:Int)):ixN n k=some k.toNat:=by
 unfold ixN
 rw [if_pos h0,if_pos h1]
section
variable {P:Program} {w:World} {K:PySem.W.Frag} {mg:Str->Option Value} {base:Heap}
end
end Be
namespace Be
abbrev OI:=Option Int
abbrev SW:=List OI×List OI
def ge (l:List OI) (v:Nat):OI:=l.getD v none
def ye:OI->Int->Bool
 | none,_=>true
 | some z,y=>decide (y<z)
def cM (s:SW) (k:Nat) (r:Ru):SW:=match ge s.1 r.1.toNat with
 | none=>s
 | some y=>if ye (ge s.1 r.2.1.toNat) (y+r.2.2)=true then (s.1.set r.2.1.toNat (some (y+r.2.2)),s.2.set r.2.1.toNat (some (k:Int))) else s
def pw (rs:List Ru):Nat->SW->SW
 | 0,s=>s
 | j+1,s=>cM (pw rs j s) j (rs.getD j (0,0,0))
def rnd (rs:List Ru):Nat->SW->SW
 | 0,s=>s
 | k+1,s=>pw rs rs.length (rnd rs k s)
def aR (n goal:Nat):SW:=((List.replicate n none).set goal (some 0),List.replicate n none)
theorem bW (l:List OI) (k i:Nat) (v:OI):ge (l.set k v) i=if i=k/\k<l.length then v else ge l i:=by
 unfold ge
 rw [C9,C9,List.getElem?_set]
 by_cases h:k=i
 . subst h
   by_cases hl:k<l.length
   . rw [if_pos rfl,if_pos hl,if_pos ⟨rfl,hl⟩];rfl
   . rw [if_pos rfl,if_neg hl,if_neg (fun z=>hl z.2),DO (by omega)]
 . rw [if_neg h,if_neg (fun z=>h z.1.symm)]
theorem rH (s:SW) (k:Nat) (r:Ru):(cM s k r).1.length=s.1.length/\(cM s k r).2.length=s.2.length:=by
 unfold cM
 split
 . exact ⟨rfl,rfl⟩
 . split
   . exact ⟨Ef ..,Ef ..⟩
   . exact ⟨rfl,rfl⟩
theorem ii (rs:List Ru) (s:SW):∀ j,(pw rs j s).1.length=s.1.length/\(pw rs j s).2.length=s.2.length
 | 0=>⟨rfl,rfl⟩
 | j+1=>by
  have a:=ii rs s j
  have b:=rH (pw rs j s) j (rs.getD j (0,0,0))
  exact ⟨b.1.trans a.1,b.2.trans a.2⟩
theorem dv (rs:List Ru) (s:SW):∀ k,(rnd rs k s).1.length=s.1.length/\(rnd rs k s).2.length=s.2.length
 | 0=>⟨rfl,rfl⟩
 | k+1=>by
  have a:=dv rs s k
  have b:=ii rs (rnd rs k s) rs.length
  exact ⟨b.1.trans a.1,b.2.trans a.2⟩
theorem cu (n goal:Nat):(aR n goal).1.length=n/\(aR n goal).2.length=n:=by
 unfold aR
 exact ⟨by rw [Ef,D4],D4 ..⟩
theorem getD_mem {rs:List Ru} {j:Nat} (h:j<rs.length):rs.getD j (0,0,0)∈rs:=by
 rw [C9,C7 h]
 exact DX h
theorem dq {s:SW} {k:Nat} {r:Ru} {v:Nat} {y:Int} (h:ge s.1 v=some y):∃ y',y'<=y/\ge (cM s k r).1 v=some y':=by
 unfold cM
 split
 . exact ⟨y,DK _,h⟩
 . rename_i y1 _
   split
   . rename_i hl
     by_cases e:v=r.2.1.toNat/\r.2.1.toNat<s.1.length
     . refine ⟨y1+r.2.2,?_,by rw [bW,if_pos e]⟩
       rw [<- e.1,h] at hl
       have:=of_decide_eq_true (show decide (y1+r.2.2<y)=true from hl)
       omega
     . exact ⟨y,DK _,by rw [bW,if_neg e];exact h⟩
   . exact ⟨y,DK _,h⟩
theorem i8 {rs:List Ru} {s:SW} {v:Nat}:∀ {y:Int} (j:Nat),ge s.1 v=some y->∃ y',y'<=y/\ge (pw rs j s).1 v=some y'
 | y,0,h=>⟨y,DK _,h⟩
 | y,j+1,h=>by
  obtain ⟨y1,l1,h1⟩:=i8 (rs:=rs) j h
  obtain ⟨y2,l2,h2⟩:=dq (k:=j) (r:=rs.getD j (0,0,0)) h1
  exact ⟨y2,Eb l2 l1,h2⟩
theorem h8 {s:SW} {k:Nat} {r:Ru} {y:Int} (h:ge s.1 r.1.toNat=some y) (hl:r.2.1.toNat<s.1.length):∃ y',y'<=y+r.2.2/\ge (cM s k r).1 r.2.1.toNat=some y':=by
 unfold cM
 rw [h]
 dsimp only
 split
 . exact ⟨y+r.2.2,DK _,by rw [bW,if_pos ⟨rfl,hl⟩]⟩
 . rename_i hn
   cases e:ge s.1 r.2.1.toNat with
   | none=>rw [e] at hn;exact absurd rfl hn
   | some z=>
    rw [e] at hn
    refine ⟨z,?_,rfl⟩
    have:¬ (y+r.2.2<z):=fun q=>hn (decide_eq_true q)
    omega
def Low (f:Nat->Int) (goal:Nat) (l:List OI):Prop:=∀ v y,ge l v=some y->f goal-f v<=y
theorem rG {f:Nat->Int} {goal:Nat} {s:SW} {k:Nat} {r:Ru} (hf:f r.1.toNat-f r.2.1.toNat<=r.2.2) (h:Low f goal s.1):Low f goal (cM s k r).1:=by
 unfold cM
 split
 . exact h
 . rename_i y1 h1
   split
   . intro v y hy
     rw [bW] at hy
     by_cases e:v=r.2.1.toNat/\r.2.1.toNat<s.1.length
     . rw [if_pos e] at hy
       cases hy
       have:=h _ _ h1
       rw [e.1]
       omega
     . rw [if_neg e] at hy
       exact h v y hy
   . exact h
theorem sk {f:Nat->Int} {goal:Nat} {rs:List Ru} (hf:bw rs f) {s:SW} (h:Low f goal s.1):∀ j,j<=rs.length->Low f goal (pw rs j s).1
 | 0,_=>h
 | j+1,hj=>rG (hf _ (getD_mem (by omega))) (sk hf h j (by omega))
theorem fL {f:Nat->Int} {goal:Nat} {rs:List Ru} (hf:bw rs f) {s:SW} (h:Low f goal s.1):∀ k,Low f goal (rnd rs k s).1
 | 0=>h
 | k+1=>sk hf (fL hf h k) _ (Dh _)
theorem fo (f:Nat->Int) (n goal:Nat):Low f goal (aR n goal).1:=fun v y h=>by
 unfold aR at h
 dsimp only at h
 rw [bW] at h
 split at h
 . rename_i e
   cases h
   rw [e.1]
   omega
 . unfold ge at h
   rw [C9,List.getElem?_replicate] at h
   split at h<;>cases h
theorem i7 {W:Wd} {o:List Int}:∀ {i k:Nat},k<i->i<=o.length->(aV W o i).getD (3*k+2) (0,0,0)=((k:Int),(k:Int)+1,0)
 | 0,k,h,_=>by omega
 | i+1,k,h,hi=>by
  rw [cr,C9]
  by_cases e:k<i
  . rw [DL (by rw [aS];omega),<- C9]
    exact i7 e (by omega)
  . have:k=i:=by omega
    subst this
    rw [DH (by rw [aS];omega),aS,show 3*k+2-3*k=2 by omega]
    rfl
theorem ng {W:Wd} {o:List Int} {k:Nat} (h:k<o.length):(ao W o).getD (3*k+2) (0,0,0)=((k:Int),(k:Int)+1,0):=by
 unfold ao
 rw [C9,DL (by rw [aS];omega),<- C9]
 exact i7 h (Dh _)
theorem cY {W:Wd} {o:List Int} {s:SW} (hl:s.1.length=o.length+1) (h0:∃ y,y<=0/\ge s.1 0=some y):∀ j v,3*v<=j->v<=o.length->∃ y,y<=0/\ge (pw (ao W o) j s).1 v=some y
 | 0,v,h,_=>by
  have:v=0:=by omega
  subst this
  exact h0
 | j+1,v,h,hv=>by
  by_cases e:3*v<=j
  . obtain ⟨y,l,g⟩:=cY hl h0 j v e hv
    obtain ⟨y',l',g'⟩:=dq (k:=j) (r:=(ao W o).getD j (0,0,0)) g
    exact ⟨y',by omega,g'⟩
  . obtain ⟨u,rfl⟩:∃ u,v=u+1:=⟨v-1,by omega⟩
    have ej:j=3*u+2:=by omega
    obtain ⟨y,l,g⟩:=cY (W:=W) hl h0 j u (by omega) (by omega)
    have hr:=ng (W:=W) (o:=o) (k:=u) (by omega)
    show ∃ y,y<=0/\ge (cM (pw (ao W o) j s) j ((ao W o).getD j (0,0,0))).1 (u+1)=some y
    have hr':(ao W o).getD j (0,0,0)=((u:Int),(u:Int)+1,0):=by rw [ej];exact hr
    rw [hr']
    obtain ⟨y',l',g'⟩:=h8 (s:=pw (ao W o) j s) (k:=j) (r:=((u:Int),(u:Int)+1,0)) (y:=y) (by show ge _ ((u:Int)).toNat=_;rw [Dz];exact g) (by show ((u:Int)+1).toNat<_;rw [(ii _ _ _).1,hl];omega)
    refine ⟨y',by dsimp only at l';omega,?_⟩
    have:((u:Int)+1).toNat=u+1:=by omega
    dsimp only at g'
    rw [this] at g'
    exact g'
def Rel (n:Nat) (l:List OI) (row:List Int):Prop:=∀ v,v<n->∃ y,ge l v=some y/\fn row v<= -y
theorem vx {n:Nat} {s:SW} {row:List Int} {k:Nat} {r:Ru} (hs:s.1.length=n) (hr:row.length=n) (h1:r.1.toNat<n) (h2:r.2.1.toNat<n) (h:Rel n s.1 row):Rel n (cM s k r).1 (cG row r):=fun v hv=>by
 obtain ⟨y,hy,ly⟩:=h v hv
 unfold cG
 rw [lV]
 by_cases e:v=r.2.1.toNat/\r.2.1.toNat<row.length
 . rw [if_pos e]
   obtain ⟨y1,hy1,ly1⟩:=h r.1.toNat h1
   obtain ⟨y2,l2,g2⟩:=h8 (k:=k) hy1 (by omega)
   obtain ⟨y3,l3,g3⟩:=dq (k:=k) (r:=r) hy
   rw [e.1] at g3
   rw [g2] at g3
   cases g3
   refine ⟨y2,by rw [e.1];exact g2,?_⟩
   rw [<- e.1]
   unfold mxI
   split<;>omega
 . rw [if_neg e]
   obtain ⟨y3,l3,g3⟩:=dq (k:=k) (r:=r) hy
   exact ⟨y3,g3,by omega⟩
theorem sG {rs:List Ru} {row:List Int} {j:Nat} (h:j<rs.length):fF (rs.take (j+1)) row=cG (fF (rs.take j) row) (rs.getD j (0,0,0)):=by
 unfold fF
 rw [Ep,C7 h,List.foldl_append,C9,C7 h]
 rfl
theorem wJ {n:Nat} {rs:List Ru} (hi:InR rs n) {s:SW} {row:List Int} (hs:s.1.length=n) (hr:row.length=n) (h:Rel n s.1 row):∀ j,j<=rs.length->Rel n (pw rs j s).1 (fF (rs.take j) row)
 | 0,_=>h
 | j+1,hj=>by
  have ih:=wJ hi hs hr h j (by omega)
  have ir:=hi _ (getD_mem (rs:=rs) (j:=j) (by omega))
  rw [sG (by omega)]
  exact vx (by rw [(ii _ _ _).1];exact hs) (by rw [cW];exact hr) (by omega) (by omega) ih
def vG (rs:List Ru):Nat->List Int->List Int
 | 0,row=>row
 | k+1,row=>fF rs (vG rs k row)
theorem lu (rs:List Ru) (row:List Int):∀ k,(vG rs k row).length=row.length
 | 0=>rfl
 | k+1=>by show (fF rs _).length=_;rw [cW,lu rs row k]
theorem si {n:Nat} {rs:List Ru} (hi:InR rs n) {s:SW} {row:List Int} (hs:s.1.length=n) (hr:row.length=n) (h:Rel n s.1 row):∀ k,Rel n (rnd rs k s).1 (vG rs k row)
 | 0=>h
 | k+1=>by
  have ih:=si hi hs hr h k
  have z:=wJ hi (by rw [(dv rs s k).1];exact hs) (by rw [lu];exact hr) ih rs.length (Dh _)
  rw [DE] at z
  exact z
def eJ (W:Wd) (o:List Int):SW:=rnd (ao W o) (o.length+1) (aR (o.length+1) 0)
theorem zc {W:Wd} {o:List Int} (hok:W.Ok) (vo:VO W o):Rel (o.length+1) (eJ W o).1 (vG (ao W o) o.length (ww (o.length+1))):=by
 have i1:=(cu (o.length+1) 0).1
 have f:Rel (o.length+1) (rnd (ao W o) 1 (aR (o.length+1) 0)).1 (ww (o.length+1)):=fun v hv=>by
  obtain ⟨y,l,g⟩:=cY (W:=W) (o:=o) (s:=aR (o.length+1) 0) i1 ⟨0,DK _,by
   unfold aR
   dsimp only
   rw [bW,if_pos ⟨rfl,by rw [D4];omega⟩]⟩ (ao W o).length v (by
    unfold ao
    rw [Dm,aS]
    omega) (by omega)
  exact ⟨y,g,by rw [dD];omega⟩
 have l1:(rnd (ao W o) 1 (aR (o.length+1) 0)).1.length=o.length+1:=by rw [(dv _ _ _).1];exact i1
 have z:=si (inR hok vo) l1 (gI _) f o.length
 have e:∀ (s:SW) (k:Nat),rnd (ao W o) k (rnd (ao W o) 1 s)=rnd (ao W o) (k+1) s:=fun s k=>by
  induction k with
  | zero=>rfl
  | succ k ih=>show pw _ _ (rnd _ k (rnd _ 1 s))=pw _ _ (rnd _ (k+1) s);rw [ih]
 rw [e] at z
 exact z
def eM (W:Wd) (o:List Int):List Int:=(eJ W o).1.map fun x=>-(x.getD 0)
theorem i3 (W:Wd) (o:List Int):(eJ W o).1.length=o.length+1:=by
 unfold eJ
 rw [(dv _ _ _).1]
 exact (cu _ _).1
theorem ue (W:Wd) (o:List Int):(eM W o).length=o.length+1:=by
 unfold eM
 rw [Da,i3]
theorem B9 {W:Wd} {o:List Int} {v:Nat} (hv:v<o.length+1) {y:Int} (h:ge (eJ W o).1 v=some y):fn (eM W o) v=-y:=by
 unfold fn eM
 unfold ge at h
 have hl:v<(eJ W o).1.length:=by rw [i3];exact hv
 rw [C9,C7 hl] at h
 rw [C9,Di,C7 hl]
 have h':(eJ W o).1[v]=some y:=h
 show-((eJ W o).1[v].getD 0)=-y
 rw [h']
 rfl
theorem yG {W:Wd} {o:List Int} (hok:W.Ok) (vo:VO W o) (h:early W o=none):¬ bw (ao W o) (fn (eM W o)):=fun hf=>by
 have g:bw (ao W o) (fun v=>fn (eM W o) v-fn (eM W o) 0):=fun r hr=>by have:=hf r hr;dsimp only;omega
 obtain ⟨r,hr⟩:=fS hok vo g fun v hv=>by have:=r6 hf v (by omega);omega
 rw [h] at hr
 cases hr
end Be
namespace Be
theorem kZ {W:Wd} {o:List Int} {f:Nat->Int} (h:bw (ao W o) f) {k:Nat}:∀ v,k<=v->v<=o.length->f k<=f v
 | 0,hk,_=>by rw [show k=0 by omega];exact DK _
 | v+1,hk,hv=>by
  by_cases e:k=v+1
  . rw [e];exact DK _
  . have a:=kZ h (k:=k) v (by omega) (by omega)
    have b:=h _ (jo (k:=v) (by omega))
    dsimp only at b
    rw [Dz,show ((v:Int)+1).toNat=v+1 by omega] at b
    omega
theorem dz {W:Wd} {o:List Int} {j:Nat} (h:j<o.length) {r:Ru} (hr:r∈d9 W j (o.getD j 0)):r∈ao W o:=by
 unfold ao aV
 exact List.mem_append_left _ (List.mem_flatMap.mpr ⟨j,DQ.mpr h,hr⟩)
theorem lJ {W:Wd} {o:List Int} {y:Int} (h:y∈kX W o):dZ W o.length y∈ao W o:=DT _ (List.mem_map_of_mem h)
theorem jp (W:Wd) (hok:W.Ok) {i j:Nat} (h:i<=j):b9 W i<=b9 W j:=by unfold b9;omega
theorem mw {W:Wd} (hok:W.Ok) {x:Int} (h0:0<=x) (h1:x<(W.bs.length:Int)):1<=(bnd W x).1/\(bnd W x).1<=(bnd W x).2/\(bnd W x).2<=99:=hok.bd _ (og h0 h1)
theorem VO.take {W:Wd} {o:List Int} (vo:VO W o) (k:Nat):VO W (o.take k):=⟨vo.nd.sublist (List.take_sublist k o),fun i x e=>by
 have hi:i<(o.take k).length:=(Db.mp e).1
 rw [Dv] at hi
 rw [D9 (by omega)] at e
 exact vo.at_ i x e⟩
theorem qz {W:Wd} {o r:List Int} (hok:W.Ok) (vo:VO W o) (h:early W o=some r) (k:Nat) (hk:k<=o.length):∃ r',early W (o.take k)=some r':=by
 have E:=dQ hok vo h
 have tl:(o.take k).length=k:=by rw [Dv];omega
 refine fS hok (vo.take k) (f:=fn r) (fun q hq=>?_) (fun v _=>E.nn v)
 unfold ao at hq
 rcases DN.mp hq with hq | hq
 . obtain ⟨j,hj,hq⟩:=iw hq
   rw [tl] at hj
   have e:(o.take k).getD j 0=o.getD j 0:=by
    rw [C9,C9,D9 hj]
   rw [e] at hq
   exact E.fe q (dz (by omega) hq)
 . obtain ⟨y,hy,rfl⟩:=DM.mp hq
   obtain ⟨⟨y0,y1⟩,yn⟩:=ck.mp hy
   rw [tl] at y1
   unfold dZ
   dsimp only
   rw [tl,Dz]
   by_cases hm:y∈o
   . obtain ⟨j,hj,ej⟩:=List.getElem_of_mem hm
     have jk:k<=j:=by
      apply DB
      intro z
      exact yn (by rw [<- ej];exact List.mem_take_iff_getElem.mpr ⟨j,by omega,rfl⟩)
     have ed:o.getD j 0=y:=by rw [C9,C7 hj];exact ej
     have a:=E.fe ((j:Int)+1,bg W y,(bnd W y).2) (dz hj (by rw [ed];unfold d9;simp))
     dsimp only at a
     rw [show ((j:Int)+1).toNat=j+1 by omega] at a
     have b:=kZ E.fe (k:=k) (j+1) (by omega) (by omega)
     omega
   . have a:=E.fe _ (lJ (W:=W) (o:=o) (y:=y) (ck.mpr ⟨⟨y0,by have:=jp W hok hk;omega⟩,hm⟩))
     unfold dZ at a
     dsimp only at a
     rw [Dz] at a
     have b:=kZ E.fe (k:=k) o.length hk (Dh _)
     omega
end Be
namespace Be
structure gH (rs:List Ru) (g:Nat) (f:Nat->Int):Prop where
 fe:bw rs f
 z:f g=0
theorem gH.of {rs:List Ru} {f:Nat->Int} (h:bw rs f) (g:Nat):gH rs g (fun v=>f v-f g):=⟨fun r hr=>by have:=h r hr;show f r.1.toNat-f g-(f r.2.1.toNat-f g)<=r.2.2;omega,by show f g-f g=0;omega⟩
structure mE (rs:List Ru) (n g:Nat) (L:Nat->Int):Prop where
 fe:gH rs g L
 le:∀ M,gH rs g M->fE n L<=fE n M
theorem fu (rs:List Ru) (n g:Nat) (B:Int) (hB:∀ f,gH rs g f->B<=fE n f):∀ (k:Nat) (x:Nat->Int),gH rs g x->(fE n x-B).toNat<=k->∃ L,mE rs n g L
 | 0,x,hx,hk=>⟨x,hx,fun M hM=>by have:=hB M hM;have:=hB x hx;omega⟩
 | k+1,x,hx,hk=>by
  by_cases h:∃ M,gH rs g M/\fE n M<fE n x
  . obtain ⟨M,a,c⟩:=h
    have:=hB M a
    exact fu rs n g B hB k M a (by omega)
  . exact ⟨x,hx,fun M a=>by
      by_cases c:fE n M<fE n x
      . exact absurd ⟨M,a,c⟩ h
      . omega⟩
theorem rJ {f:Nat->Int} {c:Int}:∀ n:Nat,(∀ v,v<n->c<=f v)->(n:Int)*c<=fE n f
 | 0,_=>by show ((0:Nat):Int)*c<=0;simp
 | n+1,h=>by
  have a:=rJ n (fun v hv=>h v (by omega))
  have b:=h n (by omega)
  show ((n+1:Nat):Int)*c<=fE n f+f n
  rw [Int.natCast_succ,Int.add_mul,Int.one_mul]
  omega
theorem B6 {W:Wd} {o:List Int} (hok:W.Ok) (vo:VO W o) {f:Nat->Int} (hf:bw (ao W o) f):∀ v,v<=o.length->f v-f 0<=99*(v:Int):=by
 intro v
 induction v using Nat.strongRecOn with
 | _ v ih=>
  intro hv
  cases v with
  | zero=>omega
  | succ j=>
   have hj:j<o.length:=by omega
   have g:=vo.getD hj
   have b:=qI hok g.1 g.2
   have bl:=bT W j
   have m:=mw hok g.1 (by omega:o.getD j 0<(W.bs.length:Int))
   have a:=hf ((j:Int)+1,bg W (o.getD j 0),(bnd W (o.getD j 0)).2) (dz hj (by unfold d9;simp))
   dsimp only at a
   rw [show ((j:Int)+1).toNat=j+1 by omega] at a
   have c:=ih (bg W (o.getD j 0)).toNat (by omega) (by omega)
   omega
theorem oX {W:Wd} {o r:List Int} (hok:W.Ok) (vo:VO W o) (h:early W o=some r) {g:Nat} (hg:g<o.length+1):∃ L,mE (ao W o) (o.length+1) g L:=by
 have E:=dQ hok vo h
 refine fu _ _ g (((o.length+1:Nat):Int)*(-(99*(g:Int)))) (fun f hf=>rJ _ fun v hv=>?_) _ _ (gH.of E.fe g) (Dh _)
 have a:=B6 hok vo hf.fe g (by omega)
 have b:=r6 hf.fe v (by omega)
 have z:=hf.z
 omega
theorem zT {rs:List Ru} {n:Nat} (hi:InR rs n) {s:SW} (hs:s.1.length=n) {j:Nat} (hj:j<rs.length) {y:Int} (h:ge s.1 (rs.getD j (0,0,0)).1.toNat=some y):∃ y',y'<=y+(rs.getD j (0,0,0)).2.2/\ge (pw rs rs.length s).1 (rs.getD j (0,0,0)).2.1.toNat=some y':=by
 obtain ⟨y1,l1,h1⟩:=i8 (rs:=rs) j h
 have ir:=hi _ (getD_mem hj)
 obtain ⟨y2,l2,h2⟩:=h8 (s:=pw rs j s) (k:=j) (r:=rs.getD j (0,0,0)) h1 (by rw [(ii rs s j).1,hs];omega)
 have on:∀ m,∃ y',y'<=y+(rs.getD j (0,0,0)).2.2/\ge (pw rs (j+1+m) s).1 (rs.getD j (0,0,0)).2.1.toNat=some y':=by
  intro m
  induction m with
  | zero=>exact ⟨y2,by omega,h2⟩
  | succ m ih=>
   obtain ⟨y3,l3,h3⟩:=ih
   obtain ⟨y4,l4,h4⟩:=dq (k:=j+1+m) (r:=rs.getD (j+1+m) (0,0,0)) h3
   exact ⟨y4,by omega,h4⟩
 have:=on (rs.length-(j+1))
 rwa [show j+1+(rs.length-(j+1))=rs.length by omega] at this
def cq (L:Nat->Int) (l:List OI):Nat->Bool:=fun v=>decide (ge l v=some (-(L v)))
def C0 (L:Nat->Int) (l:List OI):Prop:=∀ v y,ge l v=some y->-(L v)<=y
theorem oU {rs:List Ru} {g:Nat} {L:Nat->Int} (hL:gH rs g L) {l:List OI} (h:Low L g l):C0 L l:=fun v y e=>by
 have:=h v y e
 rw [hL.z] at this
 omega
theorem xC {rs:List Ru} {n g:Nat} {L:Nat->Int} (hL:mE rs n g L) (hi:InR rs n) {s:SW} (hs:s.1.length=n) (hg:ge s.1 g=some 0) (lo:Low L g s.1) (hne:∃ v,v<n/\cq L s.1 v=false):
    cnt n (cq L s.1)+1<=cnt n (cq L (pw rs rs.length s).1):=by
 have lo1:=oU hL.fe lo
 have lo2:=oU hL.fe (sk hL.fe.fe lo rs.length (Dh _))
 have stay:∀ v,v<n->cq L s.1 v=true->cq L (pw rs rs.length s).1 v=true:=fun v hv e=>by
  obtain ⟨y',l',h'⟩:=i8 (rs:=rs) rs.length (of_decide_eq_true e)
  have:=lo2 v y' h'
  have:y'=-(L v):=by omega
  subst this
  exact decide_eq_true h'
 refine mh n stay ?_
 apply DB
 intro hno
 have hno':∀ v,v<n->cq L s.1 v=false->cq L (pw rs rs.length s).1 v=false:=fun v hv e=>by
  cases c:cq L (pw rs rs.length s).1 v with
  | false=>rfl
  | true=>exact absurd ⟨v,hv,e,c⟩ hno
 let M:Nat->Int:=fun v=>if cq L s.1 v=true then L v else L v-1
 have m1:∀ v,cq L s.1 v=true->M v=L v:=fun v e=>if_pos e
 have m2:∀ v,cq L s.1 v=false->M v=L v-1:=fun v e=>if_neg (by rw [e];simp)
 have hM:gH rs g M:=by
  refine ⟨fun r hr=>?_,?_⟩
  . have f:=hL.fe.fe r hr
    have ir:=hi r hr
    obtain ⟨j,hj,ej⟩:=List.getElem_of_mem hr
    have eg:rs.getD j (0,0,0)=r:=by rw [C9,C7 hj];exact ej
    cases a:cq L s.1 r.1.toNat with
    | false=>
     rw [m2 _ a]
     cases b:cq L s.1 r.2.1.toNat with
     | false=>rw [m2 _ b];omega
     | true=>rw [m1 _ b];omega
    | true=>
     rw [m1 _ a]
     cases b:cq L s.1 r.2.1.toNat with
     | true=>rw [m1 _ b];exact f
     | false=>
      rw [m2 _ b]
      obtain ⟨y',l',h'⟩:=zT hi hs hj (y:=-(L r.1.toNat)) (by rw [eg];exact of_decide_eq_true a)
      rw [eg] at l' h'
      have c:=of_decide_eq_false (hno' _ (by omega) b)
      have d:=lo2 _ _ h'
      have:y'≠-(L r.2.1.toNat):=fun z=>c (by rw [z] at h';exact h')
      omega
  . rw [m1 g (decide_eq_true (by rw [hg,hL.fe.z];rfl))]
    exact hL.fe.z
 have l:=hL.le M hM
 obtain ⟨v,hv,hne⟩:=hne
 have:=jz (f:=M) (g:=L) n (fun u hu=>by
  cases e:cq L s.1 u with
  | true=>rw [m1 _ e];omega
  | false=>rw [m2 _ e];omega) ⟨v,hv,by rw [m2 _ hne];omega⟩
 omega
theorem yx {rs:List Ru} {g:Nat} {L:Nat->Int} (hL:bw rs L) {n:Nat} (hg:g<n):∀ k,ge (rnd rs k (aR n g)).1 g=some 0
 | 0=>by
  show ge (aR n g).1 g=some 0
  unfold aR
  dsimp only
  rw [bW,if_pos ⟨rfl,by rw [D4];exact hg⟩]
 | k+1=>by
  obtain ⟨y,l,h⟩:=i8 (rs:=rs) rs.length (yx hL hg k)
  have lo:=fL hL (fo L n g) (k+1)
  have:=lo g y h
  have:y=0:=by omega
  subst this
  exact h
theorem wI {rs:List Ru} {n g:Nat} {L:Nat->Int} (hL:mE rs n g L) (hi:InR rs n) (hg:g<n):∀ k,min n (k+1)<=cnt n (cq L (rnd rs k (aR n g)).1)
 | 0=>by
  have:=mh (p:=fun _=>false) (q:=cq L (rnd rs 0 (aR n g)).1) n (fun _ _ z=>by cases z) ⟨g,hg,rfl,decide_eq_true (by rw [yx hL.fe.fe hg 0,hL.fe.z];rfl)⟩
  omega
 | k+1=>by
  have ih:=wI hL hi hg k
  have sl:(rnd rs k (aR n g)).1.length=n:=(dv rs (aR n g) k).1.trans (cu n g).1
  have lo:=fL hL.fe.fe (fo L n g) k
  by_cases h:∃ v,v<n/\cq L (rnd rs k (aR n g)).1 v=false
  . have:=xC hL hi sl (yx hL.fe.fe hg k) lo h
    show min n (k+1+1)<=cnt n (cq L (pw rs rs.length (rnd rs k (aR n g))).1)
    omega
  . have all:∀ v,v<n->cq L (rnd rs k (aR n g)).1 v=true:=fun v hv=>by
      cases c:cq L (rnd rs k (aR n g)).1 v with
      | true=>rfl
      | false=>exact absurd ⟨v,hv,c⟩ h
    have lo2:=oU hL.fe (fL hL.fe.fe (fo L n g) (k+1))
    have:cnt n (cq L (rnd rs (k+1) (aR n g)).1)=n:=uq n fun v hv=>by
     obtain ⟨y',l',h'⟩:=i8 (rs:=rs) rs.length (of_decide_eq_true (all v hv))
     have:=lo2 v y' h'
     have:y'=-(L v):=by omega
     subst this
     exact decide_eq_true h'
    omega
theorem nT {rs:List Ru} {n g:Nat} {L:Nat->Int} (hL:mE rs n g L) (hi:InR rs n) (hg:g<n) {v:Nat} (hv:v<n):ge (rnd rs n (aR n g)).1 v=some (-(L v)):=by
 have:=wI hL hi hg n
 have c:=iF (cq L (rnd rs n (aR n g)).1) n
 exact of_decide_eq_true (pi (p:=cq L (rnd rs n (aR n g)).1) n (by omega) v hv)
def FOk (rs:List Ru) (tm:Nat->Nat) (s:SW):Prop:=∀ v k,ge s.2 v=some k->∃ (r:Ru) (y1 yv:Int),0<=k/\rs[k.toNat]? =some r/\r.2.1.toNat=v/\ge s.1 r.1.toNat=some y1/\ge s.1 v=some yv/\(y1+r.2.2<yv\/(y1+r.2.2=yv/\tm r.1.toNat<tm v))
def Has (g:Nat) (s:SW):Prop:=∀ v y,ge s.1 v=some y->v=g\/∃ k,ge s.2 v=some k
structure yV (rs:List Ru) (g n:Nat) (s:SW):Prop where
 l1:s.1.length=n
 l2:s.2.length=n
 ok:∃ (tm:Nat->Nat) (now:Nat),(∀ v,tm v<now)/\FOk rs tm s
 has:Has g s
theorem rj {rs:List Ru} {g n:Nat} (hi:InR rs n) {f:Nat->Int} (hf:bw rs f) {s:SW} {j:Nat} (hj:j<rs.length) (h:yV rs g n s):yV rs g n (cM s j (rs.getD j (0,0,0))):=by
 have hr:rs[j]? =some (rs.getD j (0,0,0)):=by rw [C9,C7 hj];rfl
 have ir:=hi _ (getD_mem hj)
 have fr:=hf _ (getD_mem hj)
 generalize rs.getD j (0,0,0)=r at*
 obtain ⟨l1,l2,⟨tm,now,ht,ok⟩,has⟩:=h
 unfold cM
 cases hy:ge s.1 r.1.toNat with
 | none=>exact ⟨l1,l2,⟨tm,now,ht,ok⟩,has⟩
 | some y=>
  dsimp only
  split
  . rename_i hl
    have hb:r.2.1.toNat<n:=by omega
    have lt:∀ z,ge s.1 r.2.1.toNat=some z->y+r.2.2<z:=fun z e=>by rw [e] at hl;exact of_decide_eq_true hl
    have hne:r.1.toNat≠r.2.1.toNat:=fun e=>by
     have:=lt y (by rw [<- e];exact hy)
     rw [e] at fr
     omega
    refine ⟨by rw [Ef];exact l1,by rw [Ef];exact l2,⟨fun x=>if x=r.2.1.toNat then now else tm x,now+1,fun x=>?_,fun v k hk=>?_⟩,fun v z hz=>?_⟩
    . show (if x=r.2.1.toNat then now else tm x)<now+1
      have:=ht x
      split<;>omega
    . rw [bW] at hk
      by_cases e:v=r.2.1.toNat
      . rw [if_pos ⟨e,by omega⟩] at hk
        cases hk
        subst e
        refine ⟨r,y,y+r.2.2,by omega,by rw [Dz];exact hr,rfl,?_,?_,.inr ⟨rfl,?_⟩⟩
        . rw [bW,if_neg (fun z=>hne z.1)];exact hy
        . rw [bW,if_pos ⟨rfl,by omega⟩]
        . show (if r.1.toNat=r.2.1.toNat then now else tm r.1.toNat)<(if r.2.1.toNat=r.2.1.toNat then now else tm r.2.1.toNat)
          rw [if_neg hne,if_pos rfl]
          exact ht _
      . rw [if_neg (fun z=>e z.1)] at hk
        obtain ⟨r',y1,yv,k0,hr',ev,h1,h2,h3⟩:=ok v k hk
        have h2':ge (s.1.set r.2.1.toNat (some (y+r.2.2))) v=some yv:=by rw [bW,if_neg (fun z=>e z.1)];exact h2
        by_cases e':r'.1.toNat=r.2.1.toNat
        . refine ⟨r',y+r.2.2,yv,k0,hr',ev,by rw [bW,if_pos ⟨e',by omega⟩],h2',.inl ?_⟩
          have:=lt y1 (by rw [<- e'];exact h1)
          rcases h3 with h3 | h3<;>omega
        . refine ⟨r',y1,yv,k0,hr',ev,by rw [bW,if_neg (fun z=>e' z.1)];exact h1,h2',?_⟩
          rcases h3 with h3 | ⟨h3,h4⟩
          . exact .inl h3
          . refine .inr ⟨h3,?_⟩
            show (if r'.1.toNat=r.2.1.toNat then now else tm r'.1.toNat)<(if v=r.2.1.toNat then now else tm v)
            rw [if_neg e',if_neg e]
            exact h4
    . by_cases e:v=r.2.1.toNat
      . exact .inr ⟨_,by rw [bW,if_pos ⟨e,by omega⟩]⟩
      . rw [bW,if_neg (fun q=>e q.1)] at hz
        rcases has v z hz with q | ⟨k,hk⟩
        . exact .inl q
        . exact .inr ⟨k,by rw [bW,if_neg (fun q=>e q.1)];exact hk⟩
  . exact ⟨l1,l2,⟨tm,now,ht,ok⟩,has⟩
theorem rq {rs:List Ru} {g n:Nat} (hi:InR rs n) {f:Nat->Int} (hf:bw rs f) {s:SW} (h:yV rs g n s):∀ j,j<=rs.length->yV rs g n (pw rs j s)
 | 0,_=>h
 | j+1,hj=>rj hi hf (by omega) (rq hi hf h j (by omega))
theorem rA (rs:List Ru) (n g:Nat):yV rs g n (aR n g):=by
 refine ⟨(cu n g).1,(cu n g).2,⟨fun _=>0,1,fun _=>Nat.zero_lt_one,fun v k hk=>?_⟩,fun v y hy=>?_⟩
 . unfold aR ge at hk
   dsimp only at hk
   rw [C9,List.getElem?_replicate] at hk
   split at hk<;>cases hk
 . unfold aR at hy
   dsimp only at hy
   rw [bW] at hy
   split at hy
   . rename_i e
     exact .inl e.1
   . unfold ge at hy
     rw [C9,List.getElem?_replicate] at hy
     split at hy<;>cases hy
theorem jw {rs:List Ru} {g n:Nat} (hi:InR rs n) {f:Nat->Int} (hf:bw rs f):∀ k,yV rs g n (rnd rs k (aR n g))
 | 0=>rA rs n g
 | k+1=>rq hi hf (jw hi hf k) _ (Dh _)
inductive mH (rs:List Ru) (fs:List OI) (g:Nat):Nat->List Int->List Nat->Prop
 | nil:mH rs fs g g [] []
 | cons {v:Nat} {k:Int} {r:Ru} {p:List Int} {xs:List Nat}:v≠g->ge fs v=some k->0<=k->rs[k.toNat]? =some r->r.2.1.toNat=v->mH rs fs g r.1.toNat p xs->mH rs fs g v (k::p) (v::xs)
def nq (rs:List Ru) (p:List Int):Int:=(p.map fun k=>(rs.getD k.toNat (0,0,0)).2.2).foldr (·+·) 0
theorem mH.len {rs:List Ru} {fs:List OI} {g v:Nat} {p:List Int} {xs:List Nat} (h:mH rs fs g v p xs):p.length=xs.length:=by
 induction h with
 | nil=>rfl
 | cons _ _ _ _ _ _ ih=>rw [DF,DF,ih]
theorem sS:∀ {xs:List Nat} {n:Nat},xs.Nodup->(∀ x∈xs,x<n)->xs.length<=n:=fun {xs n} h hx=>by
 have:=jU (l1:=xs.map fun (x:Nat)=>(x:Int)) (l2:=hG n) (List.Pairwise.map (S:=(·≠·)) _ (fun a b hab e=>hab (by omega)) h) fun y hy=>by
  obtain ⟨x,hx',rfl⟩:=DM.mp hy
  exact fg.mpr ⟨by omega,by have:=hx x hx';omega⟩
 rwa [Da,eK] at this
theorem Al {rs:List Ru} {g n:Nat} (hi:InR rs n) {L:Nat->Int} (hL:gH rs g L) {s:SW} (h:yV rs g n s) (lo:Low L g s.1):∃ tm:Nat->Nat,∀ (a b v:Nat) (y:Int),(y+L v).toNat=a->tm v=b->v<n->ge s.1 v=some y->
    ∃ p xs,mH rs s.2 g v p xs/\xs.Nodup/\(∀ u∈xs,u<n/\∃ yu,ge s.1 u=some yu/\(yu+L u<y+L v\/(yu+L u<=y+L v/\tm u<=tm v))):=by
 obtain ⟨l1,l2,⟨tm,now,ht,ok⟩,has⟩:=h
 have lg:=oU hL lo
 refine ⟨tm,fun a=>?_⟩
 induction a using Nat.strongRecOn with
 | _ a iha=>
  intro b
  induction b using Nat.strongRecOn with
  | _ b ihb=>
   intro v y ha hb hv hy
   rcases has v y hy with rfl | ⟨k,hk⟩
   . exact ⟨[],[],.nil,List.nodup_nil,fun u hu=>nomatch hu⟩
   . by_cases hvg:v=g
     . subst hvg
       exact ⟨[],[],.nil,List.nodup_nil,fun u hu=>nomatch hu⟩
     . obtain ⟨r,y1,yv,k0,hr,ev,h1,h2,h3⟩:=ok v k hk
       rw [hy] at h2
       cases h2
       have hm:=Dj hr
       have ir:=hi r hm
       have fr:=hL.fe r hm
       rw [ev] at fr
       have g1:=lg _ _ h1
       have g2:=lg _ _ hy
       have sub:∃ p xs,mH rs s.2 g r.1.toNat p xs/\xs.Nodup/\(∀ u∈xs,u<n/\∃ yu,ge s.1 u=some yu/\(yu+L u<y1+L r.1.toNat\/(yu+L u<=y1+L r.1.toNat/\tm u<=tm r.1.toNat))):=by
        by_cases c:(y1+L r.1.toNat).toNat<a
        . exact iha _ c (tm r.1.toNat) r.1.toNat y1 rfl rfl (by omega) h1
        . rcases h3 with h3 | ⟨h3,h4⟩
          . exfalso;omega
          . exact ihb (tm r.1.toNat) (by omega) r.1.toNat y1 (by omega) rfl (by omega) h1
       obtain ⟨p,xs,hp,nd,hx⟩:=sub
       have low1:y1+L r.1.toNat<y+L v\/(y1+L r.1.toNat<=y+L v/\tm r.1.toNat<tm v):=by
        rcases h3 with h3 | ⟨h3,h4⟩
        . exact .inl (by omega)
        . exact .inr ⟨by omega,h4⟩
       refine ⟨k::p,v::xs,.cons hvg hk k0 hr ev hp,EB.mpr ⟨fun hm=>?_,nd⟩,fun u hu=>?_⟩
       . obtain ⟨_,yu,hyu,hle⟩:=hx v hm
         rw [hy] at hyu
         cases hyu
         omega
       . rcases DI.mp hu with rfl | hu
         . exact ⟨hv,y,hy,.inr ⟨DK _,Dh _⟩⟩
         . obtain ⟨hu1,yu,hyu,hle⟩:=hx u hu
           exact ⟨hu1,yu,hyu,by omega⟩
theorem mH.sum {rs:List Ru} {fs:List OI} {g v:Nat} {p:List Int} {xs:List Nat} (h:mH rs fs g v p xs) {ms:List OI} {L:Nat->Int} (hL:gH rs g L) (hin:InR rs ms.length) (hall:∀ u,u<ms.length->ge ms u=some (-(L u))) (ok:∀ u k,ge fs u=some k->∃ (r:Ru) (y1 yv:Int),rs[k.toNat]? =some r/\r.2.1.toNat=u/\ge ms r.1.toNat=some y1/\ge ms u=some yv/\y1+r.2.2<=yv) (hv:v<ms.length):nq rs p=-(L v):=by
 induction h with
 | nil=>rw [hL.z];rfl
 | @cons v k r p xs hvg hk k0 hr ev hp ih=>
  have hm:=Dj hr
  have ir:=hin r hm
  have fr:=hL.fe r hm
  rw [ev] at fr
  obtain ⟨r',y1,yv,hr',ev',h1,h2,h3⟩:=ok v k hk
  rw [hr] at hr'
  cases hr'
  rw [hall _ (by omega)] at h1
  rw [hall _ hv] at h2
  cases h1
  cases h2
  have ihs:=ih (by omega)
  have e:rs.getD k.toNat (0,0,0)=r:=by rw [C9,hr];rfl
  show (rs.getD k.toNat (0,0,0)).2.2+nq rs p=-(L v)
  rw [e,ihs]
  omega
end Be
namespace Be
theorem mM {W:Wd} {o:List Int} (v:Nat) (hv:v<o.length+1):∃ y,ge (eJ W o).1 v=some y:=by
 have i1:=(cu (o.length+1) 0).1
 have f:∀ k,∃ y,ge (rnd (ao W o) (k+1) (aR (o.length+1) 0)).1 v=some y:=by
  intro k
  induction k with
  | zero=>
   obtain ⟨y,_,g⟩:=cY (W:=W) (o:=o) (s:=aR (o.length+1) 0) i1 ⟨0,DK _,by
    unfold aR
    dsimp only
    rw [bW,if_pos ⟨rfl,by rw [D4];exact Nat.succ_pos _⟩]⟩ (ao W o).length v (by
     unfold ao
     rw [Dm,aS]
     exact DP (Nat.mul_le_mul_left 3 (Nat.le_of_lt_succ hv)) (Nat.le_add_right _ _)) (Nat.le_of_lt_succ hv)
   exact ⟨y,g⟩
  | succ k ih=>
   obtain ⟨y,hy⟩:=ih
   obtain ⟨y',_,h'⟩:=i8 (rs:=ao W o) (ao W o).length hy
   exact ⟨y',h'⟩
 exact f o.length
theorem v9 {W:Wd} {o r:List Int} (hok:W.Ok) (vo:VO W o) (h:early W o=some r):eM W o=r:=by
 have E:=dQ hok vo h
 obtain ⟨L,hL⟩:=oX hok vo h (g:=0) (Nat.succ_pos _)
 have up:∀ v,v<o.length+1->fn r v<=L v:=E.le L hL.fe.fe fun v hv=>by
  have a:=r6 hL.fe.fe v (Nat.le_of_lt_succ hv)
  rw [hL.fe.z] at a
  exact a
 have s1:=hL.le (fn r) ⟨E.fe,E.z⟩
 refine kg (by rw [ue,E.len]) fun v hv=>?_
 rw [ue] at hv
 rw [B9 hv (nT hL (inR hok vo) (Nat.succ_pos _) hv),Int.neg_neg]
 apply DB
 intro ne
 have:=jz (f:=fn r) (g:=L) (o.length+1) up ⟨v,hv,Int.lt_iff_le_and_ne.mpr ⟨up v hv,fun z=>ne z.symm⟩⟩
 exact absurd s1 (Int.not_le.mpr this)
end Be
namespace Be
open PySem L2
def oV:OI->V
 | none=>.non
 | some i=>.int i
theorem uH {l:List OI} {k:Int} (h0:0<=k) (h1:k<(l.length:Int)):atI (l.map oV) k=some (oV (ge l k.toNat)):=by
 have ex:k=((k.toNat:Nat):Int):=by omega
 have hl:k.toNat<l.length:=by omega
 rw [ex]
 refine eI ?_
 rw [Di,C7 hl]
 unfold ge
 rw [C9,Dz,C7 hl]
 rfl
theorem CN {l:List OI} {i:Nat} {u:V} (h:(l.map oV)[i]? =some u):l[i]? =some (ge l i)/\u=oV (ge l i):=by
 rw [Di] at h
 unfold ge
 rw [C9]
 cases e:l[i]? with
 | none=>rw [e] at h;cases h
 | some x=>rw [e] at h;exact ⟨rfl,(Dg h).symm⟩
theorem sh (n:Nat):(List.replicate n [V.non]).flatten=(List.replicate n (none:OI)).map oV:=by
 rw [List.flatten_replicate_singleton,List.map_replicate];rfl
def uN (m f:Addr) (H H':Hp):Prop:=∀ b o,b≠m->b≠f->H b=some o->H' b=some o
theorem uN.ts {m f:Addr} {H H':Hp} {xs ys:List V} (g:uN m f H H') (hm:H m=some (.lst xs)) (hf:H f=some (.lst ys)):bG H H':=fun b zs q=>g b _ (nG q hm (by intro z;cases z)) (nG q hf (by intro z;cases z)) q
section
variable {P:Program} {w:World} {K:PySem.W.Frag} {mg:Str->Option Value} {base:Heap}
def pV:Sp:=fun vs H Q _=>∃ (a m f:Addr) (ws:List V) (rs:List Ru) (n:Nat) (s:SW),vs=[.ref a,.ref m,.ref f]/\H a=some (.lst ws)/\Reps H ws (rs.map iB)/\InR rs n/\s.1.length=n/\s.2.length=n/\H m=some (.lst (s.1.map oV))/\H f=some (.lst (s.2.map oV))/\m≠f/\a≠m/\a≠f/\
 ∀ H',uN m f H H'->H' m=some (.lst ((pw rs rs.length s).1.map oV))->H' f=some (.lst ((pw rs rs.length s).2.map oV))->Q .non H'
set_option maxHeartbeats 1000000 in
theorem gw (T:Txt K mg):bP P w K mg base (CXr P w) 1 T.shorten_walks.a T.shorten_walks.d ["told","mosts","firsts"] pV:=by
 refine T.shorten_walks.F.okN bO (fun vs H Q E h=>?_) (fun cdv A outer s H vs Q E hr h=>?_)
 . obtain ⟨a,m,f,ws,rs,n,s,rfl,_⟩:=h;rfl
 obtain ⟨a,m,f,ws,rs,n,s0,rfl,ha,hrs,hi,hs1,hs2,hm,hf,hmf,ham,haf,q⟩:=h
 refine ⟨_,(am (cD Ea rfl (oF rfl T.n_enumerate (ad (pv 0) af)) (oG rfl (aP (aC (i:=3) bO.nd rfl (by first|exact .inl rfl|exact .inr rfl)) (aP (aC (i:=4) bO.nd rfl (by first|exact .inl rfl|exact .inr rfl)) cI))) (ai (aD (i:=5) bO.nd rfl (by first|exact .inl rfl|exact .inr rfl) (aO bZ (pv 1) (aO aL (pv 4) ap (fun _ _=>rfl)) (fun _ _=>rfl))) (am (cV (PW.pt (zU (bF xZ (pv 5) oH (cf _)) (xT (PW.pt (jJ (bF Ae (aO bZ (pv 1) (aO aL (pv 4) ap (fun _ _=>rfl)) (fun _ _=>rfl)) oH (cf _)) (fW (bF Ad (aN bt (pv 5) (aO aL (pv 4) ap (fun _ _=>rfl))) (aO bZ (pv 1) (aO aL (pv 4) ap (fun _ _=>rfl)) (fun _ _=>rfl)) (cf _)))))))) (ai (li (aN bt (pv 5) (aO aL (pv 4) ap (fun _ _=>rfl))) (lq (pv 1) (aO aL (pv 4) ap (fun _ _=>rfl)) eN)) (am (li (pv 3) (lq (pv 2) (aO aL (pv 4) ap (fun _ _=>rfl)) eN)))) bj))))),?_⟩
 have hle:=hrs.length
 rw [Da] at hle
 refine ⟨_,rfl,a,_,rfl,SqL.of ha,tZ (K:=K) (a:=a) (xs:=ws) (fun j σ H2=>∃ (x3 x4 x5:Option V),σ=[some (.ref a),some (.ref m),some (.ref f),x3,x4,x5]/\uN m f H H2/\H2 m=some (.lst ((pw rs j s0).1.map oV))/\H2 f=some (.lst ((pw rs j s0).2.map oV))) ?_ ?_ ?_ ?_⟩
 . exact ⟨none,none,none,rfl,fun _ _ _ _ z=>z,hm,hf⟩
 . rintro j σ H2 _ ⟨x3,x4,x5,rfl,g,_⟩
   exact SqL.of (g _ _ ham haf ha)
 . rintro j v p σ H2 hv hp ⟨x3,x4,x5,rfl,g,hm2,hf2⟩
   have gp:=ak hp (.tup [.int j,v])
   have g3:uN m f H (upd H2 p (.tup [.int j,v])):=fun b o n1 n2 hb=>gp _ _ (g b o n1 n2 hb)
   have hm3:=gp _ _ hm2
   have hf3:=gp _ _ hf2
   obtain ⟨ru,pr,hru,hmem,rfl,hpr⟩:=rY (hrs.tmono (g3.ts hm hf) (gR rs)) hv
   have ir:=hi ru hmem
   have l1:(pw rs j s0).1.length=n:=by rw [(ii rs s0 j).1];exact hs1
   have l2:(pw rs j s0).2.length=n:=by rw [(ii rs s0 j).2];exact hs2
   have eg:rs.getD j (0,0,0)=ru:=by rw [C9,hru];rfl
   have en:pw rs (j+1) s0=cM (pw rs j s0) j ru:=by show cM (pw rs j s0) j (rs.getD j (0,0,0))=_;rw [eg]
   have pe:∃ q,q=p:=⟨p,rfl⟩
   generalize hH3:upd H2 p (.tup [.int j,.ref pr])=H3 at*
   have hpt:H3 p=some (.tup [.int j,.ref pr]):=by rw [<- hH3,ah]
   refine ⟨p,_,rfl,SqT.of hpt,rfl,_,_,rfl,_,_,rfl,rfl,?_⟩
   refine ⟨_,rfl,_,rfl,pr,_,_,_,rfl,rfl,SqT.of hpr,rfl,m,_,_,_,rfl,rfl,SqL.of hm3,uH ir.1.1 (by rw [l1];exact ir.1.2),?_⟩
   refine ⟨_,rfl,rfl,_,rfl,?_⟩
   cases hy:ge (pw rs j s0).1 ru.1.toNat with
   | none=>
    have es:pw rs (j+1) s0=pw rs j s0:=by rw [en];unfold cM;rw [hy]
    refine gF (gF ⟨_,_,_,rfl,g3,?_,?_⟩)
    . rw [es];exact hm3
    . rw [es];exact hf3
   | some y=>
    refine cg ⟨_,rfl,_,rfl,pr,_,_,_,rfl,rfl,SqT.of hpr,rfl,m,_,_,_,rfl,rfl,SqL.of hm3,uH ir.2.1 (by rw [l1];exact ir.2.2),rfl,_,rfl,?_⟩
    cases hz:ge (pw rs j s0).1 ru.2.1.toNat with
    | none=>
     have es:pw rs (j+1) s0=((pw rs j s0).1.set ru.2.1.toNat (some (y+ru.2.2)),(pw rs j s0).2.set ru.2.1.toNat (some (j:Int))):=by
      rw [en];unfold cM;rw [hy];dsimp only;rw [hz];rfl
     refine cg (cg ?_)
     refine ⟨_,rfl,_,rfl,pr,_,_,_,rfl,rfl,SqT.of hpr,rfl,y,_,rfl,rfl,_,rfl,_,rfl,pr,_,_,_,rfl,rfl,SqT.of hpr,rfl,m,_,_,_,rfl,rfl,hm3,gh ir.2.1 (by rw [Da,l1];exact ir.2.2),?_⟩
     have npm:pr≠m:=fun e=>by rw [e,hm3] at hpr;cases hpr
     refine ⟨_,rfl,_,rfl,_,rfl,pr,_,_,_,rfl,rfl,SqT.of (by rw [aA npm];exact hpr),rfl,f,_,_,_,rfl,rfl,(by rw [aA (Ne.symm hmf)];exact hf3),gh ir.2.1 (by rw [Da,l2];exact ir.2.2),?_⟩
     refine ⟨_,_,_,rfl,fun b o n1 n2 hb=>?_,?_,?_⟩
     . rw [aA n2,aA n1];exact g3 b o n1 n2 hb
     . rw [aA hmf,ah,es,List.map_set];rfl
     . rw [ah,es,List.map_set];rfl
    | some z=>
     refine gF ⟨_,rfl,_,rfl,pr,_,_,_,rfl,rfl,SqT.of hpr,rfl,y,_,rfl,rfl,_,rfl,_,rfl,pr,_,_,_,rfl,rfl,SqT.of hpr,rfl,m,_,_,_,rfl,rfl,SqL.of hm3,uH ir.2.1 (by rw [l1];exact ir.2.2),_,z,rfl,Ee oV hz,_,rfl,?_⟩
     by_cases hlt:y+ru.2.2<z
     . have es:pw rs (j+1) s0=((pw rs j s0).1.set ru.2.1.toNat (some (y+ru.2.2)),(pw rs j s0).2.set ru.2.1.toNat (some (j:Int))):=by
         rw [en];unfold cM;rw [hy];dsimp only;rw [hz,if_pos (show ye (some z) (y+ru.2.2)=true from decide_eq_true hlt)]
       refine wR (decide_eq_true hlt) ?_
       refine ⟨_,rfl,_,rfl,pr,_,_,_,rfl,rfl,SqT.of hpr,rfl,y,_,rfl,rfl,_,rfl,_,rfl,pr,_,_,_,rfl,rfl,SqT.of hpr,rfl,m,_,_,_,rfl,rfl,hm3,gh ir.2.1 (by rw [Da,l1];exact ir.2.2),?_⟩
       have npm:pr≠m:=fun e=>by rw [e,hm3] at hpr;cases hpr
       refine ⟨_,rfl,_,rfl,_,rfl,pr,_,_,_,rfl,rfl,SqT.of (by rw [aA npm];exact hpr),rfl,f,_,_,_,rfl,rfl,(by rw [aA (Ne.symm hmf)];exact hf3),gh ir.2.1 (by rw [Da,l2];exact ir.2.2),?_⟩
       refine ⟨_,_,_,rfl,fun b o n1 n2 hb=>?_,?_,?_⟩
       . rw [aA n2,aA n1];exact g3 b o n1 n2 hb
       . rw [aA hmf,ah,es,List.map_set];rfl
       . rw [ah,es,List.map_set];rfl
     . have es:pw rs (j+1) s0=pw rs j s0:=by
         rw [en];unfold cM;rw [hy];dsimp only;rw [hz,if_neg (show ¬ ye (some z) (y+ru.2.2)=true from fun q=>hlt (of_decide_eq_true q))]
       refine oZ (Dw hlt) ⟨_,_,_,rfl,g3,?_,?_⟩
       . rw [es];exact hm3
       . rw [es];exact hf3
 . rintro σ H2 ⟨x3,x4,x5,rfl,g,hm2,hf2⟩
   rw [hle] at hm2 hf2
   exact q H2 g hm2 hf2
def vc:Sp:=fun vs H Q _=>∃ (a:Addr) (ws:List V) (rs:List Ru) (n goal:Nat),vs=[.ref a,.int n,.int goal]/\H a=some (.lst ws)/\Reps H ws (rs.map iB)/\InR rs n/\n<=100/\goal<n/\
 ∀ (p m f:Addr) (H':Hp),aM H H'->H' p=some (.tup [.ref m,.ref f])->H' m=some (.lst ((rnd rs n (aR n goal)).1.map oV))->H' f=some (.lst ((rnd rs n (aR n goal)).2.map oV))->Q (.ref p) H'
theorem cR (T:Txt K mg):bP P w K mg base (CXr P w) 2 T.shortest_walks.a T.shortest_walks.d ["told","events","goal"] vc:=by
 refine T.shortest_walks.F.okN bJ (fun vs H Q E h=>?_) (fun cdv A outer s H vs Q E hr h=>?_)
 . obtain ⟨a,ws,rs,n,goal,rfl,_⟩:=h;rfl
 obtain ⟨a,ws,rs,n,goal,rfl,ha,hrs,hi,hn,hg,q⟩:=h
 refine ⟨_,(ai (aD (i:=3) bJ.nd rfl (by first|exact .inl rfl|exact .inr rfl) (aN sL (dl (ad oH af)) (pv 1))) (ai (aD (i:=4) bJ.nd rfl (by first|exact .inl rfl|exact .inr rfl) (aN sL (dl (ad oH af)) (pv 1))) (ai (li ap (lq (pv 3) (pv 2) eN)) (ai (cD Ea rfl (cQ rfl T.n_range (ad (pv 1) af)) (aC (i:=5) bJ.nd rfl (by first|exact .inl rfl|exact .inr rfl)) (am (bn (aj (gw T) (hr.mono (by decide)) rfl T.shorten_walks.m T.shorten_walks.F.kp T.shorten_walks.b .nil aw (ad (pv 0) (ad (pv 3) (ad (pv 4) af))))))) (am (aB (bV (ad (pv 3) (ad (pv 4) af))))))))),?_⟩
 have hlen:∀ k:Nat,([V.non]:List V).length*(k:Int).toNat=k:=fun k=>by rw [Dz];exact Nat.one_mul _
 refine ⟨by show 1<=sizeLine;decide,fun l0 hl0=>?_⟩
 have g0:=ak hl0 (.lst [.non])
 refine ⟨_,rfl,l0,_,_,rfl,rfl,ah,by omega,by omega,by rw [hlen];exact DP hn (by decide),fun m hm=>?_⟩
 have g1:=g0.trans (ak hm (.lst (List.replicate (n:Int).toNat [V.non]).flatten))
 have hm1:upd (upd H l0 (.lst [.non])) m (.lst (List.replicate (n:Int).toNat [V.non]).flatten) m=some (.lst ((List.replicate n (none:OI)).map oV)):=by rw [ah,sh,Dz]
 have fm:H m=none:=g0.free hm
 generalize upd (upd H l0 (.lst [.non])) m (.lst (List.replicate (n:Int).toNat [V.non]).flatten)=H1 at*
 refine ⟨by show 1<=sizeLine;decide,fun l2 hl2=>?_⟩
 have g2:=ak hl2 (.lst [.non])
 refine ⟨_,rfl,l2,_,_,rfl,rfl,ah,by omega,by omega,by rw [hlen];exact DP hn (by decide),fun f hf=>?_⟩
 have g3:=g2.trans (ak hf (.lst (List.replicate (n:Int).toNat [V.non]).flatten))
 have hf3:upd (upd H1 l2 (.lst [.non])) f (.lst (List.replicate (n:Int).toNat [V.non]).flatten) f=some (.lst ((List.replicate n (none:OI)).map oV)):=by rw [ah,sh,Dz]
 have ff1:H1 f=none:=g2.free hf
 have ff:H f=none:=g1.free ff1
 generalize upd (upd H1 l2 (.lst [.non])) f (.lst (List.replicate (n:Int).toNat [V.non]).flatten)=H3 at*
 have hm3:=g3 _ _ hm1
 have hmf:m≠f:=fun z=>by rw [z,ff1] at hm1;cases hm1
 refine ⟨_,rfl,_,rfl,m,_,_,_,rfl,rfl,hm3,gh (Int.natCast_nonneg _) (by rw [Da,D4];omega),?_⟩
 have ham:a≠m:=fun z=>by rw [z,fm] at ha;cases ha
 have haf:a≠f:=fun z=>by rw [z,ff] at ha;cases ha
 refine ⟨_,rfl,_,rfl,by omega,by omega,dC (n:=(n:Int).toNat) (fun k σ H2=>∃ (x5:Option V),σ=[some (.ref a),some (.int n),some (.int goal),some (.ref m),some (.ref f),x5]/\aM H H2/\H2 m=some (.lst ((rnd rs k (aR n goal)).1.map oV))/\H2 f=some (.lst ((rnd rs k (aR n goal)).2.map oV))) ?_ ?_ ?_⟩
 . refine ⟨none,rfl,(g1.trans g3).write fm _,?_,?_⟩
   . rw [ah,Dz]
     show _=some (HO.lst (((List.replicate n (none:OI)).set goal (some 0)).map oV))
     rw [List.map_set];rfl
   . rw [aA (Ne.symm hmf)];exact hf3
 . rintro k σ H2 hk ⟨x5,rfl,g,hm2,hf2⟩
   have rl:=dv rs (aR n goal) k
   have il:=cu n goal
   refine ⟨_,rfl,_,rfl,_,rfl,a,m,f,ws,rs,n,rnd rs k (aR n goal),rfl,g _ _ ha,hrs.mono g,hi,rl.1.trans il.1,rl.2.trans il.2,hm2,hf2,hmf,ham,haf,fun H' gb hm' hf'=>?_⟩
   refine ⟨_,rfl,fun b o hb=>?_,hm',hf'⟩
   exact gb b o (fun z=>by rw [z,fm] at hb;cases hb) (fun z=>by rw [z,ff] at hb;cases hb) (g b o hb)
 . rintro σ H2 ⟨x5,rfl,g,hm2,hf2⟩
   rw [Dz] at hm2 hf2
   refine ⟨_,rfl,_,rfl,by show 2<=sizeLine;decide,fun p hp=>?_⟩
   have gp:=ak hp (.tup [.ref m,.ref f])
   exact q p m f _ (g.trans gp) ah (gp _ _ hm2) (gp _ _ hf2)
def Bk (l:List OI):List Int:=l.map fun x=>-(x.getD 0)
def BF:Sp:=fun vs H Q _=>∃ (a:Addr) (ws:List V) (rs:List Ru) (n:Nat),vs=[.ref a,.int n]/\H a=some (.lst ws)/\Reps H ws (rs.map iB)/\InR rs n/\n<=100/\0<n/\(∀ v,v<n->∃ y,ge (rnd rs n (aR n 0)).1 v=some y)/\
 ∀ (l:Addr) (H':Hp),aM H H'->H l=none->H' l=some (.lst ((Bk (rnd rs n (aR n 0)).1).map V.int))->Q (.ref l) H'
theorem eu (T:Txt K mg):bP P w K mg base (CXr P w) 3 T.earliest_moments.a T.earliest_moments.d ["told","events"] BF:=by
 refine T.earliest_moments.F.okN d8 (fun vs H Q E h=>?_) (fun cdv A outer s H vs Q E hr h=>?_)
 . obtain ⟨a,ws,rs,n,rfl,_⟩:=h;rfl
 obtain ⟨a,ws,rs,n,rfl,ha,hrs,hi,hn,hn0,hall,q⟩:=h
 refine ⟨_,(am (aB (bS (NB:=["most"]) (js:=[none]) rfl (bA rfl (by decide+kernel) rfl (by decide+kernel) (by decide+kernel) (by with_unfolding_all rfl) (by with_unfolding_all rfl) (by with_unfolding_all rfl) (by with_unfolding_all rfl)) (cj (aO aL (aj (cR T) (hr.mono (by decide)) rfl T.shortest_walks.m T.shortest_walks.F.kp T.shortest_walks.b .nil aw (ad (pv 0) (ad (pv 1) (ad ap af)))) ap (fun _ _=>rfl))) (fun _ _ _ _=>(aC (i:=0) (show (["most"]:List Str).Nodup by decide+kernel) rfl (by first|exact .inl rfl|exact .inr rfl))) (fun _ _ _ _=>dk) (fun _ _ _ _=>(xX rb (pv 0)))))),?_⟩
 refine ⟨_,rfl,_,rfl,a,ws,rs,n,0,rfl,ha,hrs,hi,hn,hn0,fun p m f H1 g1 hp hm hf=>?_⟩
 refine ⟨p,_,_,_,rfl,rfl,SqT.of hp,rfl,m,rfl,⟨_,SqL.of hm⟩,fun D hD=>?_⟩
 have ll:(rnd rs n (aR n 0)).1.length=n:=(dv rs (aR n 0) n).1.trans (cu n 0).1
 refine bR (K:=K) (a:=m) (xs:=(rnd rs n (aR n 0)).1.map oV) (fun i ys H2=>aM H1 H2/\H2 D=some (.lst ys)/\ys=(Bk ((rnd rs n (aR n 0)).1.take i)).map V.int) ⟨ak hD _,ah,rfl⟩ (fun i ys H2 _ hP=>SqL.of (hP.1 _ _ hm)) (fun i ys y H2 hy hP=>?_) (fun ys H2 hP=>?_)
 . obtain ⟨g,hD2,rfl⟩:=hP
   obtain ⟨hx,rfl⟩:=CN hy
   have hil:i<n:=by
    have:=(Db.mp hx).1
    omega
   obtain ⟨z,hz⟩:=hall i hil
   rw [hz] at hx ⊢
   refine ⟨gr,cg ⟨_,rfl,_,rfl,hD2,?_,g.write hD _,ah,?_⟩⟩
   . unfold Bk
     rw [Da,Da,Dv]
     exact Do (show _<200 by omega) (by decide)
   . unfold Bk
     exact (jW hx _ _).symm
 . obtain ⟨g,hD2,rfl⟩:=hP
   rw [Da,DE] at hD2
   exact q D H2 (g1.trans g) (g1.free hD) hD2
def vh:Sp:=fun vs H Q _=>∃ (v t:V) (W:Wd) (o:List Int),vs=[v,t]/\Rep H v (cv W)/\W.Ok/\Rep H t (iW o)/\VO W o/\∀ H',aM H H'->Q (.bl (early W o).isSome) H'
theorem wf {W:Wd} {o:List Int} (hok:W.Ok) (vo:VO W o):yE (ao W o) (eM W o)=(early W o).isSome:=by
 cases e:early W o with
 | some r=>
  rw [v9 hok vo e]
  exact lW.mpr (dQ hok vo e).fe
 | none=>exact Bool.eq_false_iff.mpr fun z=>yG hok vo e (lW.mp z)
theorem fw {W:Wd} {o:List Int} (hok:W.Ok) (vo:VO W o):∀ ds,iW o=.tuple ds->ds.length<=1000:=fun ds z=>by
 have:=hok.l10
 have:=vo.len
 unfold iW at z
 injection z with z
 rw [<- z,Da]
 omega
set_option maxHeartbeats 1000000 in
theorem vN (T:Txt K mg):bP P w K mg base (CXr P w) 8 T.could.a T.could.d ["world","order"] vh:=by
 refine T.could.F.okN jC (fun vs H Q E h=>?_) (fun cdv A outer s H vs Q E hr h=>?_)
 . obtain ⟨v,t,W,o,rfl,_⟩:=h;rfl
 obtain ⟨v,t,W,o,rfl,hW,hok,ho,vo,q⟩:=h
 refine ⟨_,(ai (aD (i:=2) jC.nd rfl (by first|exact .inl rfl|exact .inr rfl) (aj (jQ T) (hr.mono (by decide)) rfl T.rules.m T.rules.F.kp T.rules.b .nil aw (ad (pv 0) (ad (pv 1) af)))) (ai (aD (i:=3) jC.nd rfl (by first|exact .inl rfl|exact .inr rfl) (aj (eu T) (hr.mono (by decide)) rfl T.earliest_moments.m T.earliest_moments.F.kp T.earliest_moments.b .nil aw (ad (pv 2) (ad (aN bt (az aF rfl T.n_len cn (ad (pv 1) af)) ap) af)))) (am (aB (az (fA rfl) rfl T.n_all py (ad (bS (NB:=["rule","earliest"]) (js:=[none,some 3]) rfl (bA rfl (by decide+kernel) rfl (by decide+kernel) (by decide+kernel) (by with_unfolding_all rfl) (by with_unfolding_all rfl) (by with_unfolding_all rfl) (by with_unfolding_all rfl)) (cj (pv 2)) (fun _ _ _ _=>(aC (i:=0) (show (["rule","earliest"]:List Str).Nodup by decide+kernel) rfl (by first|exact .inl rfl|exact .inr rfl))) (fun _ _ _ _=>dk) (fun _ _ _ _=>(aj (vM T) (hr.mono (by decide)) rfl T.holds.m T.holds.F.kp T.holds.b .nil aw (ad (pv 0) (ad (pv 1) af))))) af)))))),?_⟩
 have l10:=hok.l10
 have vl:=vo.len
 refine ⟨_,rfl,_,rfl,v,t,cv W,iW o,rfl,hW,ho,fw hok vo,fun z=>?_,fun W' hok' e=>⟨fun z=>?_,fun o' vo' e2 rr H1 ws g1 fr1 hr1 rs1=>?_⟩⟩
 . rw [eB hok] at z;cases z
 . obtain rfl:=cF e
   rw [ik vo] at z;cases z
 obtain rfl:=cF e
 obtain rfl:=ki e2
 obtain ⟨po,rfl,hpo⟩:=xE (K:=K) ho
 have hle:=rs1.length
 rw [Da] at hle
 have hrl:=kY hok vo
 refine ⟨_,rfl,_,rfl,po,_,rfl,.inr (SqT.of (g1 _ _ hpo)),_,_,rfl,rfl,rr,ws,ao W o,o.length+1,by rw [Da];rfl,hr1,rs1,inR hok vo,by omega,by omega,fun v hv=>?_,fun l H2 g2 fl hl2=>?_⟩
 . obtain ⟨y,hy⟩:=mM (W:=W) (o:=o) v hv
   exact ⟨y,hy⟩
 have hE:H2 l=some (.lst ((eM W o).map V.int)):=hl2
 have hr2:=g2 _ _ hr1
 have rs2:=rs1.mono g2
 refine ⟨_,rfl,rr,rfl,⟨_,SqL.of hr2⟩,fun D hD=>?_⟩
 refine bR (K:=K) (a:=rr) (xs:=ws) (fun i ys H5=>aM H2 H5/\H5 D=some (.lst ys)/\ys=(((ao W o).take i).map (fun r=>decide (fn (eM W o) r.1.toNat-fn (eM W o) r.2.1.toNat<=r.2.2))).map V.bl) ⟨ak hD _,ah,rfl⟩ (fun i ys H5 _ hP=>SqL.of (hP.1 _ _ hr2)) (fun i ys y H5 hy hP=>?_) (fun ys H5 hP=>?_)
 . obtain ⟨g5,hD5,rfl⟩:=hP
   obtain ⟨ru,p,hru,hmem,rfl,hp⟩:=rY (rs2.mono g5) hy
   have ir:=inR hok vo ru hmem
   have il:=ue W o
   refine ⟨gr,cg ⟨_,rfl,_,rfl,p,l,ru.1,ru.2.1,ru.2.2,eM W o,rfl,hp,g5 _ _ hE,ir.1.1,by rw [il];exact ir.1.2,ir.2.1,by rw [il];exact ir.2.2,hD5,?_,g5.write hD _,ah,(jW hru _ _).symm⟩⟩
   rw [Da,Da]
   have:=List.length_take_le' i (ao W o)
   exact Do (show _<100 by omega) (by decide)
 . obtain ⟨g5,hD5,rfl⟩:=hP
   rw [hle,DE] at hD5
   refine ⟨D,_,rfl,hD5,?_⟩
   rw [List.all_map]
   rw [<- wf hok vo] at q
   exact q H5 (g1.trans (g2.trans g5))
def BJ (T:Txt K mg):Sp:=fun vs H Q E=>∃ (v t:V) (W:Wd) (o:List Int),vs=[v,t]/\Rep H v (cv W)/\W.Ok/\Rep H t (iW o)/\VO W o/\((early W o).isSome=true->∀ H',aM H H'->Q .non H')/\((early W o).isSome=false->∀ H',aM H H'->E (.ref T.e_Never.C) none H')
theorem d3 (T:Txt K mg):bP P w K mg base (CXr P w) 9 T.check_could.a T.check_could.d ["world","order"] (BJ T):=by
 refine T.check_could.F.okR iM (fun vs H Q E h=>?_) (fun cdv A outer s H vs Q E hr h=>?_)
 . obtain ⟨v,t,W,o,rfl,_⟩:=h;rfl
 obtain ⟨v,t,W,o,rfl,hW,hok,ho,vo,q1,q2⟩:=h
 refine ⟨_,(am (cV (cC (cB (aj (vN T) (hr.mono (by decide)) rfl T.could.m T.could.F.kp T.could.b .nil aw (ad (pv 0) (ad (pv 1) af))))) (am (gK T.e_Never.m T.e_Never.q PySem.F.excBase_ValueError hr.hd fY rfl)) bj)),?_⟩
 refine ⟨_,rfl,_,rfl,v,t,W,o,rfl,hW,hok,ho,vo,fun H' g=>⟨_,rfl,?_⟩⟩
 cases hw:(early W o).isSome with
 | true=>exact gF (q1 hw H' g)
 | false=>exact cg ⟨by show 1<=sizeLine;decide,q2 hw H' g⟩
end
end Be
namespace Be
inductive dE (rs:List Ru) (b:Nat):Nat->List Int->Prop
 | nil:dE rs b b []
 | cons {v:Nat} {k:Int} {r:Ru} {p:List Int}:0<=k->rs[k.toNat]? =some r->r.2.1.toNat=v->dE rs b r.1.toNat p->dE rs b v (k::p)
theorem sr (rs:List Ru) (k:Int) (p:List Int):nq rs (k::p)=(rs.getD k.toNat (0,0,0)).2.2+nq rs p:=rfl
theorem dE.bound {rs:List Ru} {f:Nat->Int} (hf:bw rs f) {a b:Nat} {p:List Int} (h:dE rs b a p):f b-f a<=nq rs p:=by
 induction h with
 | nil=>show f b-f b<=0;omega
 | cons k0 hr ev hp ih=>
  rename_i v k r p
  have e:rs.getD k.toNat (0,0,0)=r:=by rw [C9,hr];rfl
  have:=hf r (Dj hr)
  rw [sr,e]
  rw [ev] at this
  omega
theorem mH.walk {rs:List Ru} {fs:List OI} {g v:Nat} {p:List Int} {xs:List Nat} (h:mH rs fs g v p xs):dE rs g v p:=by
 induction h with
 | nil=>exact .nil
 | cons hv hk k0 hr ev hp ih=>exact .cons k0 hr ev ih
theorem mH.le {rs:List Ru} {fs:List OI} {g v:Nat} {p:List Int} {xs:List Nat} (h:mH rs fs g v p xs):∀ k∈p,0<=k/\k<(rs.length:Int):=by
 induction h with
 | nil=>intro k hk;cases hk
 | cons hv hk k0 hr ev hp ih=>
  intro k' hk'
  rcases DI.mp hk' with rfl | hk'
  . have:=(Db.mp hr).1
    omega
  . exact ih k' hk'
theorem qG {W:Wd} {o r:List Int} (hok:W.Ok) (vo:VO W o) (he:early W o=some r) {st g:Nat} (hst:st<o.length+1) (hg:g<o.length+1):
    ∃ (L:Nat->Int) (p:List Int) (xs:List Nat),bw (ao W o) L/\L g=0/\mH (ao W o) (rnd (ao W o) (o.length+1) (aR (o.length+1) g)).2 g st p xs/\p.length<=o.length+1/\nq (ao W o) p=-(L st):=by
 obtain ⟨L,hL⟩:=oX hok vo he hg
 have hi:=inR hok vo
 have T:=jw (g:=g) hi hL.fe.fe (o.length+1)
 have lo:=fL hL.fe.fe (fo L (o.length+1) g) (o.length+1)
 obtain ⟨tm,hl⟩:=Al hi hL.fe T lo
 obtain ⟨p,xs,hp,nd,hx⟩:=hl _ _ st _ rfl rfl hst (nT hL hi hg hst)
 refine ⟨L,p,xs,hL.fe.fe,hL.fe.z,hp,?_,?_⟩
 . rw [hp.len]
   exact sS nd fun x hx'=>(hx x hx').1
 . refine hp.sum (ms:=(rnd (ao W o) (o.length+1) (aR (o.length+1) g)).1) hL.fe (by rw [T.l1];exact hi) (fun u hu=>nT hL hi hg (by rw [T.l1] at hu;exact hu)) (fun u k hk=>?_) (by rw [T.l1];exact hst)
   obtain ⟨tm',now,_,ok⟩:=T.ok
   obtain ⟨r',y1,yv,_,h1,h2,h3,h4,h5⟩:=ok u k hk
   exact ⟨r',y1,yv,h1,h2,h3,h4,by rcases h5 with h5 | h5<;>omega⟩
structure Len (W:Wd) (o:List Int) (x:Int) (j:Nat) (least most:Int):Prop where
 m1:∃ f,bw (ao W o) f/\f (j+1)-f (bg W x).toNat=most
 m2:∃ p,dE (ao W o) (j+1) (bg W x).toNat p/\nq (ao W o) p=most
 l1:∃ f,bw (ao W o) f/\f (j+1)-f (bg W x).toNat=least
 l2:∃ p,dE (ao W o) (bg W x).toNat (j+1) p/\nq (ao W o) p=-least
theorem rW {W:Wd} {o:List Int} (hok:W.Ok) (vo:VO W o):∀ r∈ao W o,-100000<=r.2.2/\r.2.2<=100000:=fun r hr=>by
 unfold ao at hr
 rcases DN.mp hr with hr | hr
 . obtain ⟨j,hj,hr⟩:=iw hr
   have g:=vo.getD hj
   have l:=bT W j
   have m:=mw hok g.1 (by omega:o.getD j 0<(W.bs.length:Int))
   unfold d9 at hr
   simp only [DI,En,or_false] at hr
   rcases hr with rfl | rfl | rfl<;>(dsimp only;omega)
 . obtain ⟨x,hx,rfl⟩:=DM.mp hr
   obtain ⟨⟨x0,x1⟩,_⟩:=ck.mp hx
   have l:=bT W o.length
   have m:=mw hok x0 (by omega:x<(W.bs.length:Int))
   unfold dZ
   dsimp only
   omega
end Be
namespace Be
open PySem L2
theorem rX {H:Hp} {ws:List V} {rs:List Ru} (h:Reps H ws (rs.map iB)) {k:Int} (h0:0<=k) {r:Ru} (hr:rs[k.toNat]? =some r):∃ p,atI ws k=some (.ref p)/\H p=some (.tup [.int r.1,.int r.2.1,.int r.2.2]):=by
 obtain ⟨u,hu,ru⟩:=h.get (i:=k.toNat) (d:=iB r) (by rw [Di,hr];rfl)
 obtain ⟨p,rfl,hp⟩:=oB ru
 refine ⟨p,?_,hp⟩
 have ex:k=((k.toNat:Nat):Int):=by omega
 rw [ex]
 exact eI hu
section
variable {P:Program} {w:World} {K:PySem.W.Frag} {mg:Str->Option Value} {base:Heap}
def By:Sp:=fun vs H Q _=>∃ (a l:Addr) (ws:List V) (rs:List Ru) (p:List Int),vs=[.ref a,.ref l]/\H a=some (.lst ws)/\Reps H ws (rs.map iB)/\H l=some (.lst (p.map V.int))/\(∀ k∈p,0<=k/\k<(rs.length:Int))/\p.length<=1000/\(∀ r∈rs,-100000<=r.2.2/\r.2.2<=100000)/\∀ H',aM H H'->Q (.int (nq rs p)) H'
theorem ga (T:Txt K mg):bP P w K mg base (CXr P w) 1 T.walk_most.a T.walk_most.d ["told","walk"] By:=by
 refine T.walk_most.F.okN kS (fun vs H Q E h=>?_) (fun cdv A outer s H vs Q E hr h=>?_)
 . obtain ⟨a,l,ws,rs,p,rfl,_⟩:=h;rfl
 obtain ⟨a,l,ws,rs,p,rfl,ha,hrs,hl,hp,hlen,hb,q⟩:=h
 refine ⟨_,(am (aB (az (uu rfl) rfl T.n_sum A0 (ad (bS (NB:=["place","told"]) (js:=[none,some 0]) rfl (bA rfl (by decide+kernel) rfl (by decide+kernel) (by decide+kernel) (by with_unfolding_all rfl) (by with_unfolding_all rfl) (by with_unfolding_all rfl) (by with_unfolding_all rfl)) (cj (pv 1)) (fun _ _ _ _=>(aC (i:=0) (show (["place","told"]:List Str).Nodup by decide+kernel) rfl (by first|exact .inl rfl|exact .inr rfl))) (fun _ _ _ _=>dk) (fun _ _ _ _=>(aO (fC K) (aO (uF K) (pv 1) (pv 0) (fun _ _=>rfl)) ap (fun _ _=>rfl)))) af)))),?_⟩
 refine ⟨_,rfl,l,rfl,⟨_,SqL.of hl⟩,fun D hD=>?_⟩
 refine bR (K:=K) (a:=l) (xs:=p.map V.int) (fun i ys H2=>aM H H2/\H2 D=some (.lst ys)/\ys=((p.take i).map (fun k=>(rs.getD k.toNat (0,0,0)).2.2)).map V.int) ⟨ak hD _,ah,rfl⟩ (fun i ys H2 _ hP=>SqL.of (hP.1 _ _ hl)) (fun i ys y H2 hy hP=>?_) (fun ys H2 hP=>?_)
 . obtain ⟨g,hD2,rfl⟩:=hP
   obtain ⟨k,rfl,hk,_⟩:=iz hy
   have kb:=hp k (Dj hk)
   have hkl:k.toNat<rs.length:=by omega
   obtain ⟨pr,e1,e2⟩:=rX (hrs.mono g) kb.1 (C7 hkl)
   have eg:rs.getD k.toNat (0,0,0)=rs[k.toNat]:=by rw [C9,C7 hkl];rfl
   refine ⟨gr,cg ⟨_,rfl,_,rfl,a,_,_,_,rfl,rfl,SqL.of (g _ _ ha),e1,pr,_,_,_,rfl,rfl,SqT.of e2,rfl,hD2,?_,g.write hD _,ah,?_⟩⟩
   . rw [Da,Da]
     have:=List.length_take_le' i p
     exact Do (show _<2000 by omega) (by decide)
   . rw [jW hk,eg]
 . obtain ⟨g,hD2,rfl⟩:=hP
   rw [Da,DE] at hD2
   refine ⟨D,_,rfl,hD2,by rw [Da];exact hlen,fun x hx=>?_,q H2 g⟩
   obtain ⟨k,hk,rfl⟩:=DM.mp hx
   have kb:=hp k hk
   exact hb _ (getD_mem (by omega))
def zo:Sp:=fun vs H Q _=>∃ (a f:Addr) (st g:Int) (ws:List V) (rs:List Ru) (fs:List OI) (p:List Int) (xs:List Nat),vs=[.ref a,.ref f,.int st,.int g]/\H a=some (.lst ws)/\Reps H ws (rs.map iB)/\H f=some (.lst (fs.map oV))/\InR rs fs.length/\0<=st/\st<(fs.length:Int)/\0<=g/\mH rs fs g.toNat st.toNat p xs/\p.length<=1000/\
 ∀ (l:Addr) (H':Hp),aM H H'->H l=none->H' l=some (.lst (p.map V.int))->Q (.ref l) H'
theorem fP (T:Txt K mg):bP P w K mg base (CXr P w) 1 T.walk_by_firsts.a T.walk_by_firsts.d ["told","firsts","start","goal"] zo:=by
 refine T.walk_by_firsts.F.okN bI (fun vs H Q E h=>?_) (fun cdv A outer s H vs Q E hr h=>?_)
 . obtain ⟨a,f,st,g,ws,rs,fs,p,xs,rfl,_⟩:=h;rfl
 obtain ⟨a,f,st,g,ws,rs,fs,p,xs,rfl,ha,hrs,hf,hi,st0,st1,g0,hp,hlen,q⟩:=h
 refine ⟨_,(ai (aD (i:=4) bI.nd rfl (by first|exact .inl rfl|exact .inr rfl) (dl af)) (ai (aD (i:=5) bI.nd rfl (by first|exact .inl rfl|exact .inr rfl) (pv 2)) (ai (oC Ea (bF ya (pv 5) (pv 3) (cf _)) (ai (bn (ny Ex PySem.F.slot_list_append PySem.F.type_list_append dy (pv 4) (ad (aO bZ (pv 1) (pv 5) (fun _ _=>rfl)) af))) (am (aD (i:=5) bI.nd rfl (by first|exact .inl rfl|exact .inr rfl) (aO aL (aO bZ (pv 0) (aO bZ (pv 1) (pv 5) (fun _ _=>rfl)) (fun _ _=>rfl)) ap (fun _ _=>rfl)))))) (am (aB (pv 4)))))),?_⟩
 refine ⟨DD _,fun l hl=>?_⟩
 have gl:=ak hl (.lst [])
 refine ⟨_,rfl,fun m σ H2=>∃ (e:Int) (p0 p1:List Int) (xs1:List Nat),σ=[some (.ref a),some (.ref f),some (.int st),some (.int g),some (.ref l),some (.int e)]/\aM H H2/\H2 l=some (.lst (p0.map V.int))/\0<=e/\e<(fs.length:Int)/\mH rs fs g.toNat e.toNat p1 xs1/\m=p1.length/\p0++p1=p,⟨p.length,st,[],p,xs,rfl,gl,ah,st0,st1,hp,rfl,rfl⟩,?_⟩
 rintro m σ H2 ⟨e,p0,p1,xs1,rfl,g2,hl2,e0,e1,hp1,rfl,hpp⟩
 refine ⟨_,rfl,_,rfl,rfl,_,rfl,?_⟩
 generalize hv:e.toNat=v at hp1
 cases hp1 with
 | nil=>
  have:e=g:=by omega
  subst this
  refine oZ (by rw [decide_eq_true rfl];rfl) ⟨_,rfl,q l H2 g2 hl ?_⟩
  rw [D7] at hpp
  rw [<- hpp]
  exact hl2
 | @cons _ k r p2 xs2 hvg hk k0 hr ev hp2=>
  refine wR (by rw [Dw (fun z=>hvg (by have:=V.int.inj z;omega))];rfl) ?_
  have hkl:k.toNat<rs.length:=(Db.mp hr).1
  have hf2:=g2 _ _ hf
  have ha2:=g2 _ _ ha
  have ek:ge fs e.toNat=some k:=by rw [hv];exact hk
  have pl:p0.length<=1000:=by
   have:=Ee List.length hpp
   rw [Dm] at this
   omega
  refine ⟨_,fun σ' H' z=>⟨p2.length,by show p2.length<p2.length+1;omega,z⟩,?_⟩
  refine ⟨_,rfl,.inl ⟨rfl,_,SqL.of hl2⟩,_,rfl,_,rfl,f,_,_,_,rfl,rfl,SqL.of hf2,uH e0 e1,l,_,_,rfl,rfl,hl2,?_,?_⟩
  . rw [Da]
    exact Do (show _<2000 by omega) (by decide)
  have g3:=g2.write hl (.lst (p0.map V.int++[oV (ge fs e.toNat)]))
  obtain ⟨pr,e3,e4⟩:=rX (hrs.mono g3) k0 hr
  refine ⟨_,rfl,_,rfl,_,rfl,f,_,_,_,rfl,rfl,SqL.of (g3 _ _ hf),uH e0 e1,a,_,k,_,rfl,Ee oV ek,SqL.of (g3 _ _ ha),e3,pr,_,_,_,rfl,rfl,SqT.of e4,rfl,?_⟩
  have ir:=hi r (Dj hr)
  refine ⟨r.1,p0++[k],p2,xs2,rfl,g3,?_,ir.1.1,ir.1.2,hp2,rfl,by rw [DV];exact hpp⟩
  rw [ah,ek,DR]
  rfl
def sd (b:Bool):Str:=if b then "most" else "least"
def di (W:Wd) (x:Int) (j:Nat) (b:Bool):Int:=if b then bg W x else (j:Int)+1
theorem o6 {o:List Int} (nd:o.Nodup) {j:Nat} {x:Int} (h:o[j]? =some x):∀ m,m<j->o[m]?≠some x:=fun m hm e=>by
 have hj:=(Db.mp h).1
 have e1:o[j]=x:=(Db.mp h).2
 have hm':m<o.length:=by omega
 have e2:o[m]=x:=(Db.mp e).2
 have:=(EC.mp nd) m j hm' hj hm
 exact this (by rw [e1,e2])
def zB (flip:Bool):Sp:=fun vs H Q _=>∃ (v t:V) (W:Wd) (o:List Int) (x:Int) (j:Nat) (b:Bool),vs=[v,t,.int x,.str (sd b)]/\Rep H v (cv W)/\Rep H t (iW o)/\o.Nodup/\o[j]? =some x/\Q (.int (di W x j (b !=flip))) H
theorem iT (T:Txt K mg):bP P w K mg base (CXr P w) 3 T.chain_start.a T.chain_start.d ["world","order","work","side"] (zB false):=by
 refine T.chain_start.F.okN iN (fun vs H Q E h=>?_) (fun cdv A outer s H vs Q E hr h=>?_)
 . obtain ⟨v,t,W,o,x,j,b,rfl,_⟩:=h;rfl
 obtain ⟨v,t,W,o,x,j,b,rfl,hW,ho,nd,hj,q⟩:=h
 obtain ⟨po,rfl,hpo⟩:=xE (K:=K) ho
 refine ⟨_,(ai (cV (bF vK (pv 3) fY (cf _)) (am (aB (aj (cc T) (hr.mono (by decide)) rfl T.begin_event.m T.begin_event.F.kp T.begin_event.b .nil aw (ad (pv 0) (ad (pv 2) af))))) bj) (am (aB (aN bt (wM PySem.F.slot_tuple_index PySem.F.type_tuple_index lF (pv 1) (ad (pv 2) af)) ap)))),?_⟩
 refine ⟨_,rfl,rfl,_,rfl,?_⟩
 cases b with
 | true=>exact wR (decide_eq_true rfl) ⟨_,rfl,_,rfl,v,W,x,rfl,hW,q⟩
 | false=>exact oZ (Dw (by intro z;have:=V.str.inj z;revert this;decide+kernel)) ⟨_,rfl,⟨po,_,rfl,hpo⟩,_,rfl,po,o,x,j,rfl,rfl,hpo,hj,o6 nd hj,_,_,rfl,rfl,q⟩
theorem jS (T:Txt K mg):bP P w K mg base (CXr P w) 3 T.chain_goal.a T.chain_goal.d ["world","order","work","side"] (zB true):=by
 refine T.chain_goal.F.okN jF (fun vs H Q E h=>?_) (fun cdv A outer s H vs Q E hr h=>?_)
 . obtain ⟨v,t,W,o,x,j,b,rfl,_⟩:=h;rfl
 obtain ⟨v,t,W,o,x,j,b,rfl,hW,ho,nd,hj,q⟩:=h
 obtain ⟨po,rfl,hpo⟩:=xE (K:=K) ho
 refine ⟨_,(ai (cV (bF vK (pv 3) fY (cf _)) (am (aB (aN bt (wM PySem.F.slot_tuple_index PySem.F.type_tuple_index lF (pv 1) (ad (pv 2) af)) ap))) bj) (am (aB (aj (cc T) (hr.mono (by decide)) rfl T.begin_event.m T.begin_event.F.kp T.begin_event.b .nil aw (ad (pv 0) (ad (pv 2) af)))))),?_⟩
 refine ⟨_,rfl,rfl,_,rfl,?_⟩
 cases b with
 | true=>exact wR (decide_eq_true rfl) ⟨_,rfl,⟨po,_,rfl,hpo⟩,_,rfl,po,o,x,j,rfl,rfl,hpo,hj,o6 nd hj,_,_,rfl,rfl,q⟩
 | false=>exact oZ (Dw (by intro z;have:=V.str.inj z;revert this;decide+kernel)) ⟨_,rfl,_,rfl,v,W,x,rfl,hW,q⟩
def BA:Sp:=fun vs H Q _=>∃ (v t:V) (W:Wd) (o r:List Int) (x:Int) (j:Nat) (b:Bool),vs=[v,t,.int x,.str (sd b)]/\Rep H v (cv W)/\W.Ok/\Rep H t (iW o)/\VO W o/\early W o=some r/\o[j]? =some x/\
 ∀ (L:Nat->Int) (p:List Int) (l:Addr) (H':Hp),bw (ao W o) L->L (di W x j (!b)).toNat=0->nq (ao W o) p=-(L (di W x j b).toNat)->dE (ao W o) (di W x j (!b)).toNat (di W x j b).toNat p->(∀ k∈p,0<=k/\k<((ao W o).length:Int))->p.length<=1000->aM H H'->H l=none->H' l=some (.lst (p.map V.int))->Q (.ref l) H'
theorem kK {W:Wd} {o:List Int} (hok:W.Ok) (vo:VO W o) {x:Int} {j:Nat} (hj:o[j]? =some x) (b:Bool):0<=di W x j b/\di W x j b<((o.length+1:Nat):Int):=by
 have hl:=(Db.mp hj).1
 have a:=vo.at_ j x hj
 have c:=qI hok a.1 a.2
 unfold di
 split<;>omega
theorem cS (T:Txt K mg):bP P w K mg base (CXr P w) 8 T.shortest_chain.a T.shortest_chain.d ["world","order","work","side"] BA:=by
 refine T.shortest_chain.F.okN aY (fun vs H Q E h=>?_) (fun cdv A outer s H vs Q E hr h=>?_)
 . obtain ⟨v,t,W,o,r,x,j,b,rfl,_⟩:=h;rfl
 obtain ⟨v,t,W,o,r,x,j,b,rfl,hW,hok,ho,vo,he,hj,q⟩:=h
 refine ⟨_,(ai (aD (i:=4) aY.nd rfl (by first|exact .inl rfl|exact .inr rfl) (aj (jQ T) (hr.mono (by decide)) rfl T.rules.m T.rules.F.kp T.rules.b .nil aw (ad (pv 0) (ad (pv 1) af)))) (ai (aD (i:=5) aY.nd rfl (by first|exact .inl rfl|exact .inr rfl) (aj (iT T) (hr.mono (by decide)) rfl T.chain_start.m T.chain_start.F.kp T.chain_start.b .nil aw (ad (pv 0) (ad (pv 1) (ad (pv 2) (ad (pv 3) af)))))) (ai (aD (i:=6) aY.nd rfl (by first|exact .inl rfl|exact .inr rfl) (aj (jS T) (hr.mono (by decide)) rfl T.chain_goal.m T.chain_goal.F.kp T.chain_goal.b .nil aw (ad (pv 0) (ad (pv 1) (ad (pv 2) (ad (pv 3) af)))))) (ai (aD (i:=7) aY.nd rfl (by first|exact .inl rfl|exact .inr rfl) (aO aL (aj (cR T) (hr.mono (by decide)) rfl T.shortest_walks.m T.shortest_walks.F.kp T.shortest_walks.b .nil aw (ad (pv 4) (ad (aN bt (az aF rfl T.n_len cn (ad (pv 1) af)) ap) (ad (pv 6) af)))) ap (fun _ _=>rfl))) (am (aB (aj (fP T) (hr.mono (by decide)) rfl T.walk_by_firsts.m T.walk_by_firsts.F.kp T.walk_by_firsts.b .nil aw (ad (pv 4) (ad (pv 7) (ad (pv 5) (ad (pv 6) af))))))))))),?_⟩
 have l10:=hok.l10
 have vl:=vo.len
 refine ⟨_,rfl,_,rfl,v,t,cv W,iW o,rfl,hW,ho,fw hok vo,fun z=>?_,fun W' hok' e=>⟨fun z=>?_,fun o' vo' e2 rr H1 ws g1 fr1 hr1 rs1=>?_⟩⟩
 . rw [eB hok] at z;cases z
 . obtain rfl:=cF e
   rw [ik vo] at z;cases z
 obtain rfl:=cF e
 obtain rfl:=ki e2
 have hW1:=hW.mono g1
 have ho1:=ho.mono g1
 refine ⟨_,rfl,_,rfl,_,rfl,_,rfl,v,t,W,o,x,j,b,rfl,hW1,ho1,vo.nd,hj,?_⟩
 refine ⟨_,rfl,_,rfl,_,rfl,_,rfl,v,t,W,o,x,j,b,rfl,hW1,ho1,vo.nd,hj,?_⟩
 obtain ⟨po,rfl,hpo⟩:=xE (K:=K) ho1
 have ef:(b !=false)=b:=by cases b<;>rfl
 have et:(b !=true)=!b:=by cases b<;>rfl
 rw [ef,et]
 have s1:=kK hok vo hj b
 have s2:=kK hok vo hj (!b)
 obtain ⟨L,p,xs,hL,hz,hp,hlen,hs⟩:=qG hok vo he (st:=(di W x j b).toNat) (g:=(di W x j (!b)).toNat) (by omega) (by omega)
 refine ⟨_,rfl,_,rfl,po,_,rfl,.inr (SqT.of hpo),_,_,rfl,rfl,_,rfl,rr,ws,ao W o,o.length+1,(di W x j (!b)).toNat,?_,hr1,rs1,inR hok vo,by omega,by omega,fun pp m f H2 g2 hpp hm hf=>?_⟩
 . rw [Da,Int.toNat_of_nonneg s2.1];rfl
 refine ⟨pp,_,_,_,rfl,rfl,SqT.of hpp,rfl,?_⟩
 have rl:=(dv (ao W o) (aR (o.length+1) (di W x j (!b)).toNat) (o.length+1)).2
 rw [(cu _ _).2] at rl
 refine ⟨_,rfl,_,rfl,_,rfl,_,rfl,rr,f,_,_,ws,ao W o,_,p,xs,rfl,g2 _ _ hr1,rs1.mono g2,hf,by rw [rl];exact inR hok vo,s1.1,by rw [rl];exact s1.2,s2.1,hp,by omega,fun l H3 g3 fl hl=>?_⟩
 exact q L p l H3 hL hz hs hp.walk hp.le (by omega) (g1.trans (g2.trans g3)) ((g1.trans g2).free fl) hl
def zA (T:Txt K mg):Sp:=fun vs H Q _=>∃ (v t:V) (W:Wd) (o r:List Int) (x:Int),vs=[v,t,.int x]/\Rep H v (cv W)/\W.Ok/\Rep H t (iW o)/\VO W o/\early W o=some r/\x∈o/\∀ H',aM H H'->Q .non H'
theorem jR (T:Txt K mg):bP P w K mg base (CXr P w) 10 T.check_work.a T.check_work.d ["world","order","work"] (zA T):=by
 refine T.check_work.F.okR jD (fun vs H Q E h=>?_) (fun cdv A outer s H vs Q E hr h=>?_)
 . obtain ⟨v,t,W,o,r,x,rfl,_⟩:=h;rfl
 obtain ⟨v,t,W,o,r,x,rfl,hW,hok,ho,vo,he,hx,q⟩:=h
 refine ⟨_,(ai (bn (aj (cJ T) (hr.mono (by decide)) rfl T.check_order.m T.check_order.F.kp T.check_order.b .nil sH (ad (pv 0) (ad (pv 1) af)))) (ai (cV (PW.pt (jJ (cC (cB (aj (aG T) (hr.mono (by decide)) rfl T.is_whole_within.m T.is_whole_within.F.kp T.is_whole_within.b .nil aw (ad (pv 2) (ad ap (ad (aN ip (aj (aI T) (hr.mono (by decide)) rfl T.how_many_works.m T.how_many_works.F.kp T.how_many_works.b .nil aw (ad (pv 0) af)) ap) af)))))) (fW (bF fZ (pv 2) (pv 1) (by with_unfolding_all rfl))))) (am (gK T.e_NoWork.m T.e_NoWork.q PySem.F.excBase_ValueError hr.hd fY rfl)) bj) (am (bn (aj (d3 T) (hr.mono (by decide)) rfl T.check_could.m T.check_could.F.kp T.check_could.b .nil sH (ad (pv 0) (ad (pv 1) af))))))),?_⟩
 refine ⟨_,rfl,_,rfl,v,t,cv W,iW o,rfl,hW,ho,fw hok vo,fun z=>?_,fun W' hok' e=>⟨fun z=>?_,fun _ H1 g1=>?_⟩⟩
 . rw [eB hok] at z;cases z
 . obtain rfl:=cF e
   rw [ik vo] at z;cases z
 have hW1:=hW.mono g1
 have xl:=vo.lt hx
 refine ⟨_,rfl,_,rfl,v,W,rfl,hW1,_,_,rfl,rfl,.int x,.int x,0,_,rfl,.int x,_,rfl,?_⟩
 rw [dH xl.1 (by omega)]
 obtain ⟨po,rfl,hpo⟩:=xE (K:=K) (ho.mono g1)
 refine gF ⟨_,rfl,_,rfl,po,_,rfl,.inr (SqT.of hpo),rfl,iA o,_,rfl,oZ ?_ ?_⟩
 . rw [gP,decide_eq_true hx];rfl
 refine ⟨_,rfl,_,rfl,v,.ref po,W,o,rfl,hW1,hok,ho.mono g1,vo,fun _ H2 g2=>q H2 (g1.trans g2),fun hn=>?_⟩
 rw [he] at hn
 cases hn
def zu (T:Txt K mg):Sp:=fun vs H Q _=>∃ (v t:V) (W:Wd) (o r:List Int) (x:Int) (j:Nat),vs=[v,t,.int x]/\Rep H v (cv W)/\W.Ok/\Rep H t (iW o)/\VO W o/\early W o=some r/\o[j]? =some x/\
 ∀ (least most:Int) (p:Addr) (H':Hp),Len W o x j least most->aM H H'->H' p=some (.tup [.int least,.int most])->Q (.ref p) H'
set_option maxHeartbeats 1000000 in
theorem sP (T:Txt K mg):bP P w K mg base (CXr P w) 11 T.length.a T.length.d ["world","order","work"] (zu T):=by
 refine T.length.F.okR eT (fun vs H Q E h=>?_) (fun cdv A outer s H vs Q E hr h=>?_)
 . obtain ⟨v,t,W,o,r,x,j,rfl,_⟩:=h;rfl
 obtain ⟨v,t,W,o,r,x,j,rfl,hW,hok,ho,vo,he,hj,q⟩:=h
 refine ⟨_,(ai (bn (aj (jR T) (hr.mono (by decide)) rfl T.check_work.m T.check_work.F.kp T.check_work.b .nil sH (ad (pv 0) (ad (pv 1) (ad (pv 2) af))))) (ai (aD (i:=3) eT.nd rfl (by first|exact .inl rfl|exact .inr rfl) (aj (jQ T) (hr.mono (by decide)) rfl T.rules.m T.rules.F.kp T.rules.b .nil aw (ad (pv 0) (ad (pv 1) af)))) (ai (aD (i:=4) eT.nd rfl (by first|exact .inl rfl|exact .inr rfl) (xX rb (aj (ga T) (hr.mono (by decide)) rfl T.walk_most.m T.walk_most.F.kp T.walk_most.b .nil aw (ad (pv 3) (ad (aj (cS T) (hr.mono (by decide)) rfl T.shortest_chain.m T.shortest_chain.F.kp T.shortest_chain.b .nil aw (ad (pv 0) (ad (pv 1) (ad (pv 2) (ad fY af))))) af))))) (ai (aD (i:=5) eT.nd rfl (by first|exact .inl rfl|exact .inr rfl) (aj (ga T) (hr.mono (by decide)) rfl T.walk_most.m T.walk_most.F.kp T.walk_most.b .nil aw (ad (pv 3) (ad (aj (cS T) (hr.mono (by decide)) rfl T.shortest_chain.m T.shortest_chain.F.kp T.shortest_chain.b .nil aw (ad (pv 0) (ad (pv 1) (ad (pv 2) (ad fY af))))) af)))) (am (aB (bV (ad (pv 4) (ad (pv 5) af))))))))),?_⟩
 have l10:=hok.l10
 have vl:=vo.len
 have hrl:=kY hok vo
 refine ⟨_,rfl,_,rfl,_,rfl,v,t,W,o,r,x,rfl,hW,hok,ho,vo,he,Dj hj,fun H1 g1=>?_⟩
 have hW1:=hW.mono g1
 have ho1:=ho.mono g1
 refine ⟨_,rfl,_,rfl,v,t,cv W,iW o,rfl,hW1,ho1,fw hok vo,fun z=>?_,fun W' hok' e=>⟨fun z=>?_,fun o' vo' e2 rr H2 ws g2 fr2 hr2 rs2=>?_⟩⟩
 . rw [eB hok] at z;cases z
 . obtain rfl:=cF e
   rw [ik vo] at z;cases z
 obtain rfl:=cF e
 obtain rfl:=ki e2
 have rm:=rW hok vo
 refine ⟨_,rfl,_,rfl,_,rfl,_,rfl,v,t,W,o,r,x,j,false,rfl,hW1.mono g2,hok,ho1.mono g2,vo,he,hj,fun L1 p1 a1 H3 f1 z1 s1 w1 k1 n1 g3 fa1 ha1=>?_⟩
 refine ⟨rr,a1,ws,ao W o,p1,rfl,g3 _ _ hr2,rs2.mono g3,ha1,k1,n1,rm,fun H4 g4=>?_⟩
 refine ⟨_,rfl,?_⟩
 have g24:=g3.trans g4
 refine ⟨_,rfl,_,rfl,_,rfl,_,rfl,v,t,W,o,r,x,j,true,rfl,(hW1.mono g2).mono g24,hok,(ho1.mono g2).mono g24,vo,he,hj,fun L2 p2 a2 H5 f2 z2 s2 w2 k2 n2 g5 fa2 ha2=>?_⟩
 refine ⟨rr,a2,ws,ao W o,p2,rfl,g5 _ _ (g24 _ _ hr2),(rs2.mono g24).mono g5,ha2,k2,n2,rm,fun H6 g6=>?_⟩
 refine ⟨_,rfl,_,rfl,by show 2<=sizeLine;decide,fun pp hpp=>?_⟩
 have gp:=ak hpp (.tup [.int (-nq (ao W o) p1),.int (nq (ao W o) p2)])
 have tj:((j:Int)+1).toNat=j+1:=by omega
 have z1':L1 (bg W x).toNat=0:=z1
 have s1':nq (ao W o) p1=-(L1 ((j:Int)+1).toNat):=s1
 have w1':dE (ao W o) (bg W x).toNat ((j:Int)+1).toNat p1:=w1
 have z2':L2 ((j:Int)+1).toNat=0:=z2
 have s2':nq (ao W o) p2=-(L2 (bg W x).toNat):=s2
 have w2':dE (ao W o) ((j:Int)+1).toNat (bg W x).toNat p2:=w2
 rw [tj] at s1' w1' z2' w2'
 exact q _ _ pp _ ⟨⟨L2,f2,by omega⟩,⟨p2,w2',rfl⟩,⟨L1,f1,by omega⟩,⟨p1,w1',by omega⟩⟩ (g1.trans (g2.trans (g24.trans (g5.trans (g6.trans gp))))) ah
end
end Be
namespace L2
open PySem PySem.Spec PySem.W PyProof.Rows Builtin Builtin.ObjectAttr Builtin.Getset_descriptor
section
variable {prog:Program} {w:World} {A:Around} {E:Value->Shared->Prop} {h:Heap} {g:Array GenState} {d:Drawn} {t:Nat} {os:OsState} {K:PySem.W.Frag} {a C:Addr} {o:Obj} {vs:Array Value}
end
end L2
namespace L2
open PySem PySem.Spec PyProof.Rows
section
variable {M:Model} {A:Around} {E:Value->Shared->Prop} {h:Heap} {g:Array GenState} {d:Drawn} {t:Nat} {os:OsState}
variable {nm q nm2 q2:Str} {C N D N2:Addr} {bs bm bs2 bm2:List Value} {hdct hdct2:Bool} {sn sn2:List Str} {sub sub2:List Value} {ab ab2:Bool} {col col2:Option Bool} {dd dd2:Option Addr} {k0 k1 k2 k3 k5 j0 j1 j2 j3 j5:Option Value} {newId newId2:String}
end
section
variable {P:Program} {w:World} {K:PySem.W.Frag} {mg:Str->Option Value} {base:Heap}
end
section
variable {X:Cx} {k:Nat} {f:Addr} {fd:FuncData} {ps:List Str} {sp:Sp} {x:Str} {p pos:Pos} {e:Expr} {es:List Expr} {t:TA}
end
section
variable {X:Cx} {pins:List (Addr×Obj)} {σ:St} {H:Hp} {s:Shared}
end
end L2
namespace L2
open PySem PySem.Spec PyProof.Rows
section
variable {P:Program} {w:World} {K:PySem.W.Frag} {mg:Str->Option Value} {base:Heap} {N:List Str} {qual:Str} {scope:Scope} {f:Addr} {cd:Value} {A:Around} {outer:List Env} {s:Shared} {H:Hp} {E:XK}
end
end L2
namespace L2
open PySem PySem.Spec PyProof.Rows
section
variable {X:Cx} {CX:CXT}
end
section
variable {P:Program} {w:World} {K:PySem.W.Frag} {mg:Str->Option Value} {base:Heap}
end
end L2
namespace BE
open PySem PyProof.Rows
def cm:Bool->Keyed->Array Keyed->Nat->Nat->Nat->StateT SortSt Sem (Option Nat):=sortPriv%PySem.Builtin.gallop
theorem qu (left:Bool) (key:Keyed) (arr:Array Keyed) (base n hint:Nat):cm left key arr base n hint=(do
 let beyond (i:Nat):StateT SortSt Sem (Option Bool):=do
  let x <- elem' arr (base+i)
  if left then lt' x key else return (<- lt' key x).map (!·)
 let mut lastofs:=0
 let mut ofs:=1
 let mut lo:=0
 let mut hi:=0
 let some right <- beyond hint | return none
 if right then
  let maxofs:=n-hint
  for _ in [0:n] do
   if ofs>=maxofs then break
   let some more <- beyond (hint+ofs) | return none
   if !more then break
   lastofs:=ofs
   ofs:=2*ofs+1
  lo:=hint+lastofs+1
  hi:=hint+min ofs maxofs
 else
  let maxofs:=hint+1
  for _ in [0:n] do
   if ofs>=maxofs then break
   let some found <- beyond (hint-ofs) | return none
   if found then break
   lastofs:=ofs
   ofs:=2*ofs+1
  lo:=hint+1-min ofs maxofs
  hi:=hint-lastofs
 for _ in [0:n] do
  if lo>=hi then break
  let m:=lo+(hi-lo) / 2
  let some more <- beyond m | return none
  if more then lo:=m+1 else hi:=m
 return some hi):=rfl
section
variable {M:Model} {A:Around} {E:Value->Shared->Prop} {s:Shared} {kf:Keyed->Int} {κ:SortKind}
def gT (M:Model) (A:Around) (E:Value->Shared->Prop) (s:Shared) (κ:SortKind) (kf:Keyed->Int) (D:Keyed->Prop):Prop:=∀ (x y:Keyed) (st:SortSt) (Q:Option Bool->SortSt->Prop),D x->D y->kindOf st=κ->Q (some (decide (kf x<kf y))) st->wpS M A E s (lt' x y) Q st
theorem aH {arr:Array Keyed} {i:Nat} {x:Keyed} {st:SortSt} {Q:Keyed->SortSt->Prop} (hx:arr[i]? =some x) (h:Q x st):wpS M A E s (elem' arr i) Q st:=by
 rw [elem'_eq,hx];exact Dy h
def kAt (kf:Keyed->Int) (arr:Array Keyed) (i:Nat):Int:=match arr[i]? with | some x=>kf x | none=>0
def byd (kf:Keyed->Int) (left:Bool) (k:Int) (arr:Array Keyed) (base i:Nat):Bool:=if left then decide (kAt kf arr (base+i)<k) else !decide (k<kAt kf arr (base+i))
theorem cw {D:Keyed->Prop} (L:gT M A E s κ kf D) {left:Bool} {key:Keyed} {arr:Array Keyed} {base n hint:Nat} {st:SortSt} {Q:Option Nat->SortSt->Prop} (hκ:kindOf st=κ) (hD:∀ x∈arr.toList,D x) (hk:D key) (hh:hint<n) (hb:base+n<=arr.size)
    (hs:∀ i j,i<=j->j<n->kAt kf arr (base+i)<=kAt kf arr (base+j))
    (h:∀ r,r<=n->(∀ i,i<r->byd kf left (kf key) arr base i=true)->(∀ i,r<=i->i<n->byd kf left (kf key) arr base i=false)->Q (some r) st):wpS M A E s (cm left key arr base n hint) Q st:=by
 have mono:∀ i j,i<=j->j<n->byd kf left (kf key) arr base j=true->byd kf left (kf key) arr base i=true:=fun i j hij hj hb=>by
  have:=hs i j hij hj
  unfold byd at hb ⊢
  cases left with
  | true=>
   have hb:=of_decide_eq_true hb
   exact decide_eq_true (show kAt kf arr (base+i)<kf key by omega)
  | false=>
   simp only [DJ,Es,Bool.not_eq_true',decide_eq_false_iff_not] at hb ⊢
   omega
 rw [qu]
 have ask:∀ (i:Nat) (st:SortSt) (Q:Option Bool->SortSt->Prop),kindOf st=κ->i<n->Q (some (byd kf left (kf key) arr base i)) st->wpS M A E s (do
     let x <- elem' arr (base+i)
     if left then lt' x key else return (<- lt' key x).map (!·)) Q st:=fun i st Q hκ hi hq=>by
  have hlt:base+i<arr.size:=by omega
  have hx:=De hlt
  have hdx:=hD _ (Ec hlt)
  have ek:kAt kf arr (base+i)=kf arr[base+i]:=by unfold kAt;rw [hx]
  refine Dr (aH hx ?_)
  unfold byd at hq
  rw [ek] at hq
  cases left with
  | true=>
   rw [if_pos rfl] at hq ⊢
   exact L _ _ _ _ hdx hk hκ hq
  | false=>
   rw [if_neg Dn] at hq ⊢
   exact Dr (L _ _ _ _ hk hdx hκ (Dy hq))
 dsimp only
 refine Dr (ask hint st _ hκ hh ?_)
 dsimp only
 have anti:∀ i j,j<=i->i<n->byd kf left (kf key) arr base j=false->byd kf left (kf key) arr base i=false:=fun i j hij hi hb=>by
  cases e:byd kf left (kf key) arr base i with
  | false=>rfl
  | true=>rw [mono j i hij hi e] at hb;cases hb
 generalize hfe:byd kf left (kf key) arr base=f at*
 cases hf0:f hint with
 | true=>
  rw [if_pos rfl]
  refine Dr (wpS_mono (El (I:=fun x c st'=>st'=st/\∃ l o,c=(none,l,o)/\l<o/\x+1<=o/\hint+l<n/\f (hint+l)=true) (Q:=fun c st'=>st'=st/\∃ l o,c=(none,l,o)/\l<o/\hint+l<n/\f (hint+l)=true/\(n-hint<=o\/f (hint+o)=false)) (fun x c st' _ hx hI=>?_) (fun c st' hI=>?_) ?_) (fun c st' hI=>?_))
  . obtain ⟨rfl,l,o,rfl,hlo,hxo,hln,hl⟩:=hI
    dsimp only
    by_cases hge:o>=n-hint
    . rw [if_pos hge]
      exact Dy ⟨rfl,l,o,rfl,hlo,hln,hl,.inl hge⟩
    . rw [if_neg hge]
      refine Dr (ask _ _ _ hκ (by omega) ?_)
      dsimp only
      cases hf:f (hint+o) with
      | false=>
       rw [if_pos (by decide)]
       exact Dy ⟨rfl,l,o,rfl,hlo,hln,hl,.inr hf⟩
      | true=>
       rw [if_neg (by decide)]
       exact Dy ⟨rfl,o,_,rfl,by omega,by omega,by omega,hf⟩
  . obtain ⟨rfl,l,o,rfl,hlo,hxo,hln,hl⟩:=hI
    exact ⟨rfl,l,o,rfl,hlo,hln,hl,.inl (by omega)⟩
  . exact ⟨rfl,0,1,rfl,by omega,by omega,by omega,hf0⟩
  . obtain ⟨e0,l,o,rfl,hlo,hln,hl,hor⟩:=hI
    rw [e0]
    dsimp only
    refine Dr (wpS_mono (El (I:=fun x c st'=>st'=st/\∃ l r,c=(none,l,r)/\l<=r/\r<=n/\r-l<=n-x/\(∀ i,i<l->f i=true)/\(∀ i,r<=i->i<n->f i=false)) (Q:=fun c st'=>st'=st/\∃ l,c=(none,l,l)/\l<=n/\(∀ i,i<l->f i=true)/\∀ i,l<=i->i<n->f i=false) (fun x c st' _ hx hI=>?_) (fun c st' hI=>?_) ?_) (fun c st' hI=>?_))
    . obtain ⟨rfl,l,r,rfl,hlr,hr,hm,h1,h2⟩:=hI
      dsimp only
      by_cases hge:l>=r
      . rw [if_pos hge]
        obtain rfl:l=r:=by omega
        exact Dy ⟨rfl,l,rfl,hr,h1,h2⟩
      . rw [if_neg hge]
        refine Dr (ask _ _ _ hκ (by omega) ?_)
        dsimp only
        cases hf:f (l+(r-l) / 2) with
        | true=>
         rw [if_pos rfl]
         exact Dy ⟨rfl,_,_,rfl,by omega,hr,by omega,fun i hi=>mono i (l+(r-l) / 2) (by omega) (by omega) hf,h2⟩
        | false=>
         rw [if_neg Dn]
         exact Dy ⟨rfl,_,_,rfl,by omega,by omega,by omega,h1,fun i hi hin=>anti i (l+(r-l) / 2) hi hin hf⟩
    . obtain ⟨rfl,l,r,rfl,hlr,hr,hm,h1,h2⟩:=hI
      obtain rfl:l=r:=by omega
      exact ⟨rfl,l,rfl,hr,h1,h2⟩
    . exact ⟨rfl,_,_,rfl,by omega,by omega,by omega,fun i hi=>mono i (hint+l) (by omega) (by omega) hl,fun i hi hin=>hor.elim (fun z=>absurd hin (by omega)) fun z=>anti i (hint+o) (by omega) hin z⟩
    . obtain ⟨rfl,l,rfl,hl,h1,h2⟩:=hI
      exact Dy (h l hl h1 h2)
 | false=>
  rw [if_neg Dn]
  refine Dr (wpS_mono (El (I:=fun x c st'=>st'=st/\∃ l o,c=(none,l,o)/\l<o/\x+1<=o/\l<=hint/\f (hint-l)=false) (Q:=fun c st'=>st'=st/\∃ l o,c=(none,l,o)/\l<o/\l<=hint/\f (hint-l)=false/\(hint+1<=o\/f (hint-o)=true)) (fun x c st' _ hx hI=>?_) (fun c st' hI=>?_) ?_) (fun c st' hI=>?_))
  . obtain ⟨rfl,l,o,rfl,hlo,hxo,hln,hl⟩:=hI
    dsimp only
    by_cases hge:o>=hint+1
    . rw [if_pos hge]
      exact Dy ⟨rfl,l,o,rfl,hlo,hln,hl,.inl hge⟩
    . rw [if_neg hge]
      refine Dr (ask _ _ _ hκ (by omega) ?_)
      dsimp only
      cases hf:f (hint-o) with
      | true=>
       rw [if_pos rfl]
       exact Dy ⟨rfl,l,o,rfl,hlo,hln,hl,.inr hf⟩
      | false=>
       rw [if_neg Dn]
       exact Dy ⟨rfl,o,_,rfl,by omega,by omega,by omega,hf⟩
  . obtain ⟨rfl,l,o,rfl,hlo,hxo,hln,hl⟩:=hI
    exact ⟨rfl,l,o,rfl,hlo,hln,hl,.inl (by omega)⟩
  . exact ⟨rfl,0,1,rfl,by omega,by omega,by omega,hf0⟩
  . obtain ⟨e0,l,o,rfl,hlo,hln,hl,hor⟩:=hI
    rw [e0]
    dsimp only
    refine Dr (wpS_mono (El (I:=fun x c st'=>st'=st/\∃ l r,c=(none,l,r)/\l<=r/\r<=n/\r-l<=n-x/\(∀ i,i<l->f i=true)/\(∀ i,r<=i->i<n->f i=false)) (Q:=fun c st'=>st'=st/\∃ l,c=(none,l,l)/\l<=n/\(∀ i,i<l->f i=true)/\∀ i,l<=i->i<n->f i=false) (fun x c st' _ hx hI=>?_) (fun c st' hI=>?_) ?_) (fun c st' hI=>?_))
    . obtain ⟨rfl,l,r,rfl,hlr,hr,hm,h1,h2⟩:=hI
      dsimp only
      by_cases hge:l>=r
      . rw [if_pos hge]
        obtain rfl:l=r:=by omega
        exact Dy ⟨rfl,l,rfl,hr,h1,h2⟩
      . rw [if_neg hge]
        refine Dr (ask _ _ _ hκ (by omega) ?_)
        dsimp only
        cases hf:f (l+(r-l) / 2) with
        | true=>
         rw [if_pos rfl]
         exact Dy ⟨rfl,_,_,rfl,by omega,hr,by omega,fun i hi=>mono i (l+(r-l) / 2) (by omega) (by omega) hf,h2⟩
        | false=>
         rw [if_neg Dn]
         exact Dy ⟨rfl,_,_,rfl,by omega,by omega,by omega,h1,fun i hi hin=>anti i (l+(r-l) / 2) hi hin hf⟩
    . obtain ⟨rfl,l,r,rfl,hlr,hr,hm,h1,h2⟩:=hI
      obtain rfl:l=r:=by omega
      exact ⟨rfl,l,rfl,hr,h1,h2⟩
    . exact ⟨rfl,_,_,rfl,by omega,by omega,by omega,fun i hi=>hor.elim (fun z=>absurd hi (by omega)) fun z=>mono i (hint-o) (by omega) (by omega) z,fun i hi hin=>anti i (hint-l) (by omega) hin hl⟩
    . obtain ⟨rfl,l,rfl,hl,h1,h2⟩:=hI
      exact Dy (h l hl h1 h2)
end
end BE
namespace BE
variable {α:Type} {kf:α->Int}
def UpK (kf:α->Int) (l:List α):Prop:=l.Pairwise fun x y=>kf x<=kf y
def Mrg (kf:α->Int) (la lb r:List α):Prop:=r.Perm (la++lb)/\UpK kf r
structure MI (kf:α->Int) (la lb lo:List α) (ia ib:Nat):Prop where
 al:ia<=la.length
 bl:ib<=lb.length
 pm:lo.Perm (la.take ia++lb.take ib)
 so:UpK kf lo
 aa:∀ x∈lo,∀ y∈la.drop ia,kf x<=kf y
 bb:∀ x∈lo,∀ y∈lb.drop ib,kf x<=kf y
theorem iD {l:List α} {i:Nat} {x:α} (h:l[i]? =some x):l.drop i=x::l.drop (i+1):=by
 have hi:=(Db.mp h).1
 rw [List.drop_eq_getElem_cons hi,(Db.mp h).2]
theorem rB {l:List α} {i:Nat} {x:α} (h:l[i]? =some x):l.take (i+1)=l.take i++[x]:=by
 have hi:=(Db.mp h).1
 rw [List.take_succ_eq_append_getElem hi,(Db.mp h).2]
theorem UpK.snoc {l:List α} {x:α} (h:UpK kf l) (hx:∀ y∈l,kf y<=kf x):UpK kf (l++[x]):=
 Eg.mpr ⟨h,List.pairwise_singleton _ _,fun y hy z hz=>by rw [D5.mp hz];exact hx y hy⟩
theorem UpK.after {l:List α} {i:Nat} {x:α} (h:UpK kf l) (hx:l[i]? =some x):∀ y∈l.drop i,kf x<=kf y:=by
 have h':UpK kf (l.drop i):=List.Pairwise.sublist (List.drop_sublist i l) h
 rw [iD hx] at h' ⊢
 intro y hy
 rcases DI.mp hy with rfl | hy
 . exact DK _
 . exact (List.pairwise_cons.mp h').1 y hy
theorem MI.pushA {la lb lo:List α} {ia ib:Nat} {x:α} (m:MI kf la lb lo ia ib) (ua:UpK kf la) (hx:la[ia]? =some x) (h:∀ y∈lb.drop ib,kf x<=kf y):MI kf la lb (lo++[x]) (ia+1) ib:=by
 have hd:=iD hx
 refine ⟨(Db.mp hx).1,m.bl,?_,m.so.snoc fun y hy=>m.aa y hy x (by rw [hd];exact Dx),fun y hy z hz=>?_,fun y hy z hz=>?_⟩
 . rw [rB hx,DV]
   refine (m.pm.append_right [x]).trans ?_
   rw [DV]
   exact (List.perm_append_comm).append_left _
 . rcases DN.mp hy with hy | hy
   . exact m.aa y hy z (by rw [hd];exact Dk _ hz)
   . rw [D5.mp hy]
     exact ua.after hx z (by rw [hd];exact Dk _ hz)
 . rcases DN.mp hy with hy | hy
   . exact m.bb y hy z hz
   . rw [D5.mp hy];exact h z hz
theorem MI.pushB {la lb lo:List α} {ia ib:Nat} {x:α} (m:MI kf la lb lo ia ib) (ub:UpK kf lb) (hx:lb[ib]? =some x) (h:∀ y∈la.drop ia,kf x<=kf y):MI kf la lb (lo++[x]) ia (ib+1):=by
 have hd:=iD hx
 refine ⟨m.al,(Db.mp hx).1,?_,m.so.snoc fun y hy=>m.bb y hy x (by rw [hd];exact Dx),fun y hy z hz=>?_,fun y hy z hz=>?_⟩
 . rw [rB hx,<- DV]
   exact m.pm.append_right [x]
 . rcases DN.mp hy with hy | hy
   . exact m.aa y hy z hz
   . rw [D5.mp hy];exact h z hz
 . rcases DN.mp hy with hy | hy
   . exact m.bb y hy z (by rw [hd];exact Dk _ hz)
   . rw [D5.mp hy]
     exact ub.after hx z (by rw [hd];exact Dk _ hz)
theorem MI.runA {la lb:List α} {ib:Nat} (ua:UpK kf la):∀ (k:Nat) {lo:List α} {ia:Nat},MI kf la lb lo ia ib->ia+k<=la.length->(∀ x∈(la.drop ia).take k,∀ y∈lb.drop ib,kf x<=kf y)->MI kf la lb (lo++(la.drop ia).take k) (ia+k) ib
 | 0,lo,ia,m,_,_=>by rw [List.take_zero,D7];exact m
 | k+1,lo,ia,m,hk,h=>by
  have hx:=C7 (show ia<la.length by omega)
  have hd:=iD hx
  rw [hd,List.take_succ_cons] at h ⊢
  have:=MI.runA ua k (m.pushA ua hx (h _ Dx)) (by omega) fun x hx'=>h x (Dk _ hx')
  rw [DV] at this
  rw [show ia+(k+1)=ia+1+k by omega]
  exact this
theorem MI.runB {la lb:List α} {ia:Nat} (ub:UpK kf lb):∀ (k:Nat) {lo:List α} {ib:Nat},MI kf la lb lo ia ib->ib+k<=lb.length->(∀ x∈(lb.drop ib).take k,∀ y∈la.drop ia,kf x<=kf y)->MI kf la lb (lo++(lb.drop ib).take k) ia (ib+k)
 | 0,lo,ib,m,_,_=>by rw [List.take_zero,D7];exact m
 | k+1,lo,ib,m,hk,h=>by
  have hx:=C7 (show ib<lb.length by omega)
  have hd:=iD hx
  rw [hd,List.take_succ_cons] at h ⊢
  have:=MI.runB ub k (m.pushB ub hx (h _ Dx)) (by omega) fun x hx'=>h x (Dk _ hx')
  rw [DV] at this
  rw [show ib+(k+1)=ib+1+k by omega]
  exact this
theorem MI.start {la lb:List α}:MI kf la lb [] 0 0:=⟨DD _,DD _,.rfl,List.Pairwise.nil,fun x hx=>absurd hx En,fun x hx=>absurd hx En⟩
theorem MI.doneA {la lb lo:List α} {ia ib:Nat} (m:MI kf la lb lo ia ib) (ua:UpK kf la) (hb:ib=lb.length):Mrg kf la lb (lo++la.drop ia):=by
 have k:=m.runA ua (la.length-ia) (by have:=m.al;omega) fun x _ y hy=>by rw [hb,List.drop_length] at hy;cases hy
 have e:(la.drop ia).take (la.length-ia)=la.drop ia:=DA (by rw [DU];omega)
 rw [e] at k
 have al:=m.al
 refine ⟨k.pm.trans (.of_eq ?_),k.so⟩
 rw [show ia+(la.length-ia)=la.length by omega,hb,DE,DE]
theorem MI.doneB {la lb lo:List α} {ia ib:Nat} (m:MI kf la lb lo ia ib) (ub:UpK kf lb) (ha:ia=la.length):Mrg kf la lb (lo++lb.drop ib):=by
 have k:=m.runB ub (lb.length-ib) (by have:=m.bl;omega) fun x _ y hy=>by rw [ha,List.drop_length] at hy;cases hy
 have e:(lb.drop ib).take (lb.length-ib)=lb.drop ib:=DA (by rw [DU];omega)
 rw [e] at k
 have bl:=m.bl
 refine ⟨k.pm.trans (.of_eq ?_),k.so⟩
 rw [show ib+(lb.length-ib)=lb.length by omega,ha,DE,DE]
theorem MI.lastA {la lb lo:List α} {ia ib:Nat} (m:MI kf la lb lo ia ib) (ua:UpK kf la) (ub:UpK kf lb) (h:∀ x∈lb.drop ib,∀ y∈la.drop ia,kf x<=kf y):Mrg kf la lb (lo++lb.drop ib++la.drop ia):=by
 have bl:=m.bl
 have k:=m.runB ub (lb.length-ib) (by omega) fun x hx y hy=>h x (Eh hx) y hy
 have e:(lb.drop ib).take (lb.length-ib)=lb.drop ib:=DA (by rw [DU];omega)
 rw [e] at k
 exact k.doneA ua (by omega)
theorem MI.lastB {la lb lo:List α} {ia ib:Nat} (m:MI kf la lb lo ia ib) (ua:UpK kf la) (ub:UpK kf lb) (h:∀ x∈la.drop ia,∀ y∈lb.drop ib,kf x<=kf y):Mrg kf la lb (lo++la.drop ia++lb.drop ib):=by
 have al:=m.al
 have k:=m.runA ua (la.length-ia) (by omega) fun x hx y hy=>h x (Eh hx) y hy
 have e:(la.drop ia).take (la.length-ia)=la.drop ia:=DA (by rw [DU];omega)
 rw [e] at k
 exact k.doneB ub (by omega)
end BE
namespace BE
open PySem PyProof.Rows
def aK:Nat->StateT SortSt Sem Unit:=sortPriv%PySem.Builtin.setMinGallop
theorem gu (g:Nat):aK g=modify fun s=>SortSt.mk' (kindOf s) (arrOf s) (pendingOf s) g (failedOf s):=rfl
def gM:Array Keyed->Array Keyed->StateT SortSt Sem (Array Keyed):=sortPriv%PySem.Builtin.mergeLo
abbrev S1:=Option (Array Keyed)×Array Keyed×Nat×Nat×Nat×Nat
abbrev S2:=Option (Array Keyed)×Array Keyed×Nat×Nat×Nat×Nat×Nat
abbrev S0:=Option (Array Keyed)×Array Keyed×Nat×Nat×Nat
def fT (a b out:Array Keyed) (ia ib:Nat):Array Keyed:=out++a.extract ia a.size++b.extract ib b.size
def lO (a b out:Array Keyed) (ia ib:Nat):Array Keyed:=out++b.extract ib b.size++a.extract ia a.size
def Bi (a b out:Array Keyed) (ia ib mg ac bc:Nat):StateT SortSt Sem (ForInStep S1):=do
 let y <- elem' b ib
 let x <- elem' a ia
 let r <- lt' y x
 match r with
 | some bWins=>
  if bWins=true then do
   let y <- elem' b ib
   if (ib+1==b.size)=true then pure (.done (some (fT a b (out.push y) ia (ib+1)),out.push y,ia,ib+1,0,bc+1))
   else if bc+1>=mg then pure (.done (none,out.push y,ia,ib+1,0,bc+1))
   else pure (.yield (none,out.push y,ia,ib+1,0,bc+1))
  else do
   let x <- elem' a ia
   if (ia+1+1==a.size)=true then pure (.done (some (lO a b (out.push x) (ia+1) ib),out.push x,ia+1,ib,ac+1,0))
   else if ac+1>=mg then pure (.done (none,out.push x,ia+1,ib,ac+1,0))
   else pure (.yield (none,out.push x,ia+1,ib,ac+1,0))
 | _=>pure (.done (some (fT a b out ia ib),out,ia,ib,ac,bc))
def gB (a b out:Array Keyed) (ia ib mg ac bc:Nat):StateT SortSt Sem (ForInStep S2):=do
 let x <- elem' a ia
 if (ia+1+1==a.size)=true then pure (.done (some (lO a b (out.push x) (ia+1) ib),out.push x,ia+1,ib,mg,ac,bc))
 else if (decide (ac<7) && decide (bc<7))=true then pure (.done (none,out.push x,ia+1,ib,mg,ac,bc))
 else pure (.yield (none,out.push x,ia+1,ib,mg,ac,bc))
def gA2 (a b out:Array Keyed) (ia ib mg ac bc:Nat):StateT SortSt Sem (ForInStep S2):=do
 let y <- elem' b ib
 if (ib+1==b.size)=true then pure (.done (some (fT a b (out.push y) ia (ib+1)),out.push y,ia,ib+1,mg,ac,bc))
 else do
  let x <- elem' a ia
  let r <- cm true x b (ib+1) (b.size-(ib+1)) 0
  match r with
  | some k=>
   if k>0 then
    if (ib+1+k==b.size)=true then pure (.done (some (fT a b (out.push y++b.extract (ib+1) (ib+1+k)) ia (ib+1+k)),out.push y++b.extract (ib+1) (ib+1+k),ia,ib+1+k,mg,ac,k))
    else gB a b (out.push y++b.extract (ib+1) (ib+1+k)) ia (ib+1+k) mg ac k
   else gB a b (out.push y) ia (ib+1) mg ac k
  | _=>pure (.done (some (fT a b (out.push y) ia (ib+1)),out.push y,ia,ib+1,mg,ac,bc))
def gA (a b out:Array Keyed) (ia ib mg ac bc:Nat):StateT SortSt Sem (ForInStep S2):=do
 aK mg
 let y <- elem' b ib
 let r <- cm false y a ia (a.size-ia) 0
 match r with
 | some k=>
  if k>0 then
   if (ia+k+1==a.size)=true then pure (.done (some (lO a b (out++a.extract ia (ia+k)) (ia+k) ib),out++a.extract ia (ia+k),ia+k,ib,mg,k,bc))
   else if (ia+k==a.size)=true then pure (.done (some (fT a b (out++a.extract ia (ia+k)) (ia+k) ib),out++a.extract ia (ia+k),ia+k,ib,mg,k,bc))
   else gA2 a b (out++a.extract ia (ia+k)) (ia+k) ib mg k bc
  else gA2 a b out ia ib mg k bc
 | _=>pure (.done (some (fT a b out ia ib),out,ia,ib,mg,ac,bc))
def B3 (a b:Array Keyed) (c:S2):StateT SortSt Sem (ForInStep S2):=
 if c.2.2.2.2.1>1 then gA a b c.2.1 c.2.2.1 c.2.2.2.1 (c.2.2.2.2.1-1) c.2.2.2.2.2.1 c.2.2.2.2.2.2
 else gA a b c.2.1 c.2.2.1 c.2.2.2.1 c.2.2.2.2.1 c.2.2.2.2.2.1 c.2.2.2.2.2.2
def Bg (a b:Array Keyed) (c:S0):StateT SortSt Sem (ForInStep S0):=do
 let c1 <- forIn [0:a.size+b.size] ((none,c.2.1,c.2.2.1,c.2.2.2.1,0,0):S1) fun _ d=>Bi a b d.2.1 d.2.2.1 d.2.2.2.1 c.2.2.2.2 d.2.2.2.2.1 d.2.2.2.2.2
 match c1.1 with
 | some r=>pure (.done (some r,c1.2.1,c1.2.2.1,c1.2.2.2.1,c.2.2.2.2))
 | none=>do
  rule "list.sort.gallop"
  let c2 <- forIn [0:a.size+b.size] ((none,c1.2.1,c1.2.2.1,c1.2.2.2.1,c.2.2.2.2+1,c1.2.2.2.2.1,c1.2.2.2.2.2):S2) fun _ d=>B3 a b d
  match c2.1 with
  | some r=>pure (.done (some r,c2.2.1,c2.2.2.1,c2.2.2.2.1,c2.2.2.2.2.1))
  | none=>do
   aK (c2.2.2.2.2.1+1)
   pure (.yield (none,c2.2.1,c2.2.2.1,c2.2.2.2.1,c2.2.2.2.2.1+1))
theorem lH (a b:Array Keyed):gM a b=(do
 rule "list.sort.merge-lo"
 let total:=a.size+b.size
 let done (out:Array Keyed) (ia ib:Nat):=out++a.extract ia a.size++b.extract ib b.size
 let lastOfA (out:Array Keyed) (ia ib:Nat):=out++b.extract ib b.size++a.extract ia a.size
 let mut out:Array Keyed:=#[<- elem' b 0]
 let mut ia:=0
 let mut ib:=1
 if ib==b.size then return done out ia ib
 if ia+1==a.size then return lastOfA out ia ib
 let mut minGallop:=gallopOf (<- get)
 for _ in [0:total] do
  let mut acount:=0
  let mut bcount:=0
  for _ in [0:total] do
   let some bWins <- lt' (<- elem' b ib) (<- elem' a ia) | return done out ia ib
   if bWins then
    out:=out.push (<- elem' b ib);ib:=ib+1;bcount:=bcount+1;acount:=0
    if ib==b.size then return done out ia ib
    if bcount>=minGallop then break
   else
    out:=out.push (<- elem' a ia);ia:=ia+1;acount:=acount+1;bcount:=0
    if ia+1==a.size then return lastOfA out ia ib
    if acount>=minGallop then break
  rule "list.sort.gallop"
  minGallop:=minGallop+1
  for _ in [0:total] do
   if minGallop>1 then minGallop:=minGallop-1
   aK minGallop
   let some k <- cm false (<- elem' b ib) a ia (a.size-ia) 0 | return done out ia ib
   acount:=k
   if k>0 then
    out:=out++a.extract ia (ia+k);ia:=ia+k
    if ia+1==a.size then return lastOfA out ia ib
    if ia==a.size then return done out ia ib
   out:=out.push (<- elem' b ib);ib:=ib+1
   if ib==b.size then return done out ia ib
   let some k <- cm true (<- elem' a ia) b ib (b.size-ib) 0 | return done out ia ib
   bcount:=k
   if k>0 then
    out:=out++b.extract ib (ib+k);ib:=ib+k
    if ib==b.size then return done out ia ib
   out:=out.push (<- elem' a ia);ia:=ia+1
   if ia+1==a.size then return lastOfA out ia ib
   if acount<7 && bcount<7 then break
  minGallop:=minGallop+1
  aK minGallop
 unsupported "internal:list.sort.merge-bound"):=rfl
theorem nK (a b:Array Keyed):gM a b=(do
 rule "list.sort.merge-lo"
 let y <- elem' b 0
 if (1==b.size)=true then pure (fT a b #[y] 0 1)
 else if (0+1==a.size)=true then pure (lO a b #[y] 0 1)
 else do
  let st <- get
  let c <- forIn [0:a.size+b.size] ((none,#[y],0,1,gallopOf st):S0) fun _ c=>Bg a b c
  match c.1 with
  | some r=>pure r
  | none=>unsupported "internal:list.sort.merge-bound"):=by
 rw [lH]
 dsimp only
 unfold Bg B3 gA gA2 gB Bi fT lO
 congr 1
 funext _u
 congr 1
 funext y
 congr 1
 congr 1
 congr 1
 funext st
 congr 1
 . congr 1
   funext _x c
   congr 1
   funext c1
   obtain ⟨r1,c1⟩:=c1
   cases r1 with
   | some r=>rfl
   | none=>
    dsimp only
    congr 1
    funext _v
    congr 1
    funext c2
    obtain ⟨r2,c2⟩:=c2
    cases r2<;>rfl
 . funext c
   obtain ⟨r,c⟩:=c
   cases r<;>rfl
end BE
namespace BE
open PySem PyProof.Rows
theorem kc {α:Type} (a:Array α) (i:Nat):(a.extract i a.size).toList=a.toList.drop i:=by
 rw [Array.toList_extract]
 simp
 exact DA (by simp)
theorem ka {α:Type} (a:Array α) (i k:Nat):(a.extract i (i+k)).toList=(a.toList.drop i).take k:=by
 rw [Array.toList_extract]
 simp
theorem pc (a b out:Array Keyed) (ia ib:Nat):(fT a b out ia ib).toList=out.toList++a.toList.drop ia++b.toList.drop ib:=by
 unfold fT
 rw [D6,D6,kc,kc]
theorem vT (a b out:Array Keyed) (ia ib:Nat):(lO a b out ia ib).toList=out.toList++b.toList.drop ib++a.toList.drop ia:=by
 unfold lO
 rw [D6,D6,kc,kc]
def bL (st st':SortSt):Prop:=kindOf st'=kindOf st/\arrOf st'=arrOf st/\pendingOf st'=pendingOf st/\failedOf st'=failedOf st
structure MC (kf:Keyed->Int) (D:Keyed->Prop) (a b:Array Keyed):Prop where
 da:∀ x∈a.toList,D x
 db:∀ x∈b.toList,D x
 ua:UpK kf a.toList
 ub:UpK kf b.toList
 la:∀ x∈b.toList,∀ y∈a.toList.drop (a.size-1),kf x<=kf y
structure IN (kf:Keyed->Int) (a b out:Array Keyed) (ia ib:Nat):Prop where
 ha:ia+1<a.size
 hb:ib<b.size
 mi:MI kf a.toList b.toList out.toList ia ib
section
variable {M:Model} {A:Around} {E:Value->Shared->Prop} {s:Shared} {kf:Keyed->Int} {κ:SortKind} {D:Keyed->Prop} {a b:Array Keyed}
theorem qP {a:Array Keyed} {i:Nat} (h:i<a.size):a.toList[i]? =some a[i]:=by rw [Dq,De h]
theorem MC.lastA {out:Array Keyed} {ia ib:Nat} (c:MC kf D a b) (m:MI kf a.toList b.toList out.toList ia ib) (h:ia+1=a.size):Mrg kf a.toList b.toList (lO a b out ia ib).toList:=by
 rw [vT]
 refine m.lastA c.ua c.ub fun x hx y hy=>c.la x (Ey hx) y ?_
 rw [show a.size-1=ia by omega];exact hy
theorem MC.doneA {out:Array Keyed} {ia ib:Nat} (c:MC kf D a b) (m:MI kf a.toList b.toList out.toList ia ib) (h:ib=b.size):Mrg kf a.toList b.toList (fT a b out ia ib).toList:=by
 rw [pc,h,<- Dc,List.drop_length,D7]
 exact m.doneA c.ua (by rw [h,Dc])
theorem MC.doneB {out:Array Keyed} {ia ib:Nat} (c:MC kf D a b) (m:MI kf a.toList b.toList out.toList ia ib) (h:ia=a.size):Mrg kf a.toList b.toList (fT a b out ia ib).toList:=by
 rw [pc,h,<- Dc,List.drop_length,D7]
 exact m.doneB c.ub (by rw [h,Dc])
theorem fX {out:Array Keyed} {y:Keyed}:(out.push y).toList=out.toList++[y]:=Array.toList_push
theorem uS {out:Array Keyed} {ia ib mg ac bc:Nat} {st:SortSt} {Q:ForInStep S1->SortSt->Prop} (L:gT M A E s κ kf D) (c:MC kf D a b) (hκ:kindOf st=κ) (n:IN kf a b out ia ib)
    (q1:∀ r z,Mrg kf a.toList b.toList r.toList->Q (.done (some r,z)) st)
    (q2:∀ out' ia' ib' ac' bc',IN kf a b out' ia' ib'->ia'+ib'=ia+ib+1->Q (.done (none,out',ia',ib',ac',bc')) st)
    (q3:∀ out' ia' ib' ac' bc',IN kf a b out' ia' ib'->ia'+ib'=ia+ib+1->Q (.yield (none,out',ia',ib',ac',bc')) st):wpS M A E s (Bi a b out ia ib mg ac bc) Q st:=by
 have ha:=n.ha
 have hb:=n.hb
 have xa:=qP (show ia<a.size by omega)
 have xb:=qP hb
 have ea:=De (show ia<a.size by omega)
 have eb:=De hb
 unfold Bi
 refine Dr (aH eb (Dr (aH ea (Dr (L _ _ _ _ (c.db _ (Dj xb)) (c.da _ (Dj xa)) hκ ?_)))))
 dsimp only
 by_cases w:kf b[ib]<kf a[ia]
 . rw [decide_eq_true w,if_pos rfl]
   refine Dr (aH eb ?_)
   have mi:MI kf a.toList b.toList (out.push b[ib]).toList ia (ib+1):=by
    rw [fX]
    exact n.mi.pushB c.ub xb fun y hy=>Eb (Int.le_of_lt w) (c.ua.after xa y hy)
   by_cases e:ib+1=b.size
   . rw [if_pos (by simpa using e)]
     exact Dy (q1 _ _ (c.doneA mi e))
   . rw [if_neg (by simpa using e)]
     have n':IN kf a b (out.push b[ib]) ia (ib+1):=⟨ha,by omega,mi⟩
     split
     . exact Dy (q2 _ _ _ _ _ n' (by omega))
     . exact Dy (q3 _ _ _ _ _ n' (by omega))
 . rw [Dw w,if_neg Dn]
   refine Dr (aH ea ?_)
   have mi:MI kf a.toList b.toList (out.push a[ia]).toList (ia+1) ib:=by
    rw [fX]
    exact n.mi.pushA c.ua xa fun y hy=>Eb (Int.not_lt.mp w) (c.ub.after xb y hy)
   by_cases e:ia+1+1=a.size
   . rw [if_pos (by simpa using e)]
     exact Dy (q1 _ _ (c.lastA mi e))
   . rw [if_neg (by simpa using e)]
     have n':IN kf a b (out.push a[ia]) (ia+1) ib:=⟨by omega,hb,mi⟩
     split
     . exact Dy (q2 _ _ _ _ _ n' (by omega))
     . exact Dy (q3 _ _ _ _ _ n' (by omega))
theorem bL.refl (st:SortSt):bL st st:=⟨rfl,rfl,rfl,rfl⟩
theorem bL.trans {x y z:SortSt} (h:bL x y) (k:bL y z):bL x z:=⟨k.1.trans h.1,k.2.1.trans h.2.1,k.2.2.1.trans h.2.2.1,k.2.2.2.trans h.2.2.2⟩
def QG (kf:Keyed->Int) (a b:Array Keyed) (lo:Nat) (Q:ForInStep S2->SortSt->Prop) (st:SortSt):Prop:=
 (∀ r z,Mrg kf a.toList b.toList r.toList->Q (.done (some r,z)) st)/\(∀ out ia ib mg ac bc,IN kf a b out ia ib->lo<=ia+ib->Q (.done (none,out,ia,ib,mg,ac,bc)) st)/\(∀ out ia ib mg ac bc,IN kf a b out ia ib->lo<=ia+ib->Q (.yield (none,out,ia,ib,mg,ac,bc)) st)
theorem wz {out:Array Keyed} {ia ib mg ac bc lo:Nat} {st:SortSt} {Q:ForInStep S2->SortSt->Prop} (c:MC kf D a b) (ha:ia+1<a.size) (hb:ib<b.size) (m:MI kf a.toList b.toList out.toList ia ib) (hlo:lo<=ia+ib)
    (hx:∀ y∈b.toList.drop ib,∀ x,a[ia]? =some x->kf x<=kf y) (q:QG kf a b lo Q st):wpS M A E s (gB a b out ia ib mg ac bc) Q st:=by
 have xa:=qP (show ia<a.size by omega)
 have ea:=De (show ia<a.size by omega)
 unfold gB
 refine Dr (aH ea ?_)
 have mi:MI kf a.toList b.toList (out.push a[ia]).toList (ia+1) ib:=by
  rw [fX]
  exact m.pushA c.ua xa fun y hy=>hx y hy _ ea
 by_cases e:ia+1+1=a.size
 . rw [if_pos (by simpa using e)]
   exact Dy (q.1 _ _ (c.lastA mi e))
 . rw [if_neg (by simpa using e)]
   have n':IN kf a b (out.push a[ia]) (ia+1) ib:=⟨by omega,hb,mi⟩
   split
   . exact Dy (q.2.1 _ _ _ _ _ _ n' (by omega))
   . exact Dy (q.2.2 _ _ _ _ _ _ n' (by omega))
theorem uV {l:Array Keyed} (u:UpK kf l.toList) {base n:Nat} (hn:base+n<=l.size):∀ i j,i<=j->j<n->kAt kf l (base+i)<=kAt kf l (base+j):=fun i j hij hj=>by
 have e1:=De (show base+i<l.size by omega)
 have e2:=De (show base+j<l.size by omega)
 unfold kAt
 rw [e1,e2]
 refine u.after (qP (show base+i<l.size by omega)) _ ?_
 refine Dj (i:=j-i) ?_
 rw [List.getElem?_drop,show base+i+(j-i)=base+j by omega]
 exact qP (show base+j<l.size by omega)
theorem qY {out:Array Keyed} {ia ib mg ac bc lo:Nat} {st:SortSt} {Q:ForInStep S2->SortSt->Prop} (L:gT M A E s κ kf D) (c:MC kf D a b) (hκ:kindOf st=κ) (ha:ia+1<a.size) (hb:ib<b.size) (m:MI kf a.toList b.toList out.toList ia ib) (hlo:lo<=ia+ib)
    (hx:∀ x∈a.toList.drop ia,∀ y,b[ib]? =some y->kf y<=kf x) (q:QG kf a b lo Q st):wpS M A E s (gA2 a b out ia ib mg ac bc) Q st:=by
 have xa:=qP (show ia<a.size by omega)
 have ea:=De (show ia<a.size by omega)
 have xb:=qP hb
 have eb:=De hb
 unfold gA2
 refine Dr (aH eb ?_)
 have mi:MI kf a.toList b.toList (out.push b[ib]).toList ia (ib+1):=by
  rw [fX]
  exact m.pushB c.ub xb fun y hy=>hx y hy _ eb
 by_cases e:ib+1=b.size
 . rw [if_pos (by simpa using e)]
   exact Dy (q.1 _ _ (c.doneA mi e))
 . rw [if_neg (by simpa using e)]
   refine Dr (aH ea (Dr (cw L hκ c.db (c.da _ (Dj xa)) (by omega) (by omega) (uV c.ub (by omega)) fun k hk h1 h2=>?_)))
   dsimp only
   have atB:∀ i,ib+1+i<b.size->∃ y,b.toList[ib+1+i]? =some y/\kAt kf b (ib+1+i)=kf y:=fun i hi=>⟨_,qP hi,by unfold kAt;rw [De hi]⟩
   have ye:∀ x∈(b.toList.drop (ib+1)).take k,kf x<=kf a[ia]:=fun x hx'=>by
    obtain ⟨i,hi,rfl⟩:=DG.mp hx'
    rw [Dv,DU,Dc] at hi
    obtain ⟨y,hy,ey⟩:=atB i (by omega)
    have hb1:=h1 i (by omega)
    unfold byd at hb1
    rw [if_pos rfl,ey] at hb1
    have hb1:=of_decide_eq_true hb1
    have:((b.toList.drop (ib+1)).take k)[i]=y:=by
     rw [List.getElem_take,List.getElem_drop]
     exact (Db.mp hy).2
    rw [this];omega
   have more:∀ y∈b.toList.drop (ib+1+k),kf a[ia]<=kf y:=fun y hy=>by
    by_cases hz:ib+1+k<b.size
    . obtain ⟨z,hz1,ez⟩:=atB k hz
      have hb2:=h2 k (Dh _) (by omega)
      unfold byd at hb2
      rw [if_pos rfl,ez] at hb2
      have hb2:=of_decide_eq_false hb2
      have:=c.ub.after hz1 y hy
      omega
    . rw [List.drop_of_length_le (by rw [Dc];omega)] at hy;cases hy
   by_cases k0:k>0
   . rw [if_pos k0]
     have mk:=mi.runB c.ub k (by rw [Dc];omega) fun x hx' y hy=>Eb (ye x hx') (c.ua.after xa y hy)
     rw [<- ka,<- D6] at mk
     by_cases e2:ib+1+k=b.size
     . rw [if_pos (by simpa using e2)]
       exact Dy (q.1 _ _ (c.doneA mk e2))
     . rw [if_neg (by simpa using e2)]
       exact wz c ha (by omega) mk (by omega) (fun y hy x hx'=>by rw [ea] at hx';obtain rfl:=Dg hx';exact more y hy) q
   . rw [if_neg k0]
     obtain rfl:k=0:=by omega
     exact wz c ha (by omega) mi (by omega) (fun y hy x hx'=>by rw [ea] at hx';obtain rfl:=Dg hx';exact more y hy) q
end
end BE
namespace BE
open PySem PyProof.Rows
section
variable {M:Model} {A:Around} {E:Value->Shared->Prop} {s:Shared} {kf:Keyed->Int} {κ:SortKind} {D:Keyed->Prop} {a b:Array Keyed}
theorem dG {g:Nat} {st:SortSt} {Q:Unit->SortSt->Prop} (h:∀ st',bL st st'->Q () st'):wpS M A E s (aK g) Q st:=by
 rw [gu]
 exact wpS_modify (h _ ⟨rfl,rfl,rfl,rfl⟩)
theorem wA {out:Array Keyed} {ia ib mg ac bc lo:Nat} {st:SortSt} {Q:ForInStep S2->SortSt->Prop} (L:gT M A E s κ kf D) (c:MC kf D a b) (hκ:kindOf st=κ) (n:IN kf a b out ia ib) (hlo:lo<=ia+ib)
    (q:∀ st',bL st st'->QG kf a b lo Q st'):wpS M A E s (gA a b out ia ib mg ac bc) Q st:=by
 have ha:=n.ha
 have hb:=n.hb
 have xb:=qP hb
 have eb:=De hb
 unfold gA
 refine Dr (dG fun st' sg=>?_)
 have hκ':kindOf st'=κ:=sg.1.trans hκ
 have q:=q st' sg
 refine Dr (aH eb (Dr (cw L hκ' c.da (c.db _ (Dj xb)) (by omega) (by omega) (uV c.ua (by omega)) fun k hk h1 h2=>?_)))
 dsimp only
 have atA:∀ i,ia+i<a.size->∃ y,a.toList[ia+i]? =some y/\kAt kf a (ia+i)=kf y:=fun i hi=>⟨_,qP hi,by unfold kAt;rw [De hi]⟩
 have ye:∀ x∈(a.toList.drop ia).take k,kf x<=kf b[ib]:=fun x hx'=>by
  obtain ⟨i,hi,rfl⟩:=DG.mp hx'
  rw [Dv,DU,Dc] at hi
  obtain ⟨y,hy,ey⟩:=atA i (by omega)
  have hb1:=h1 i (by omega)
  unfold byd at hb1
  rw [if_neg Dn,ey] at hb1
  have hb1:¬ (kf b[ib]<kf y):=by simpa using hb1
  have:((a.toList.drop ia).take k)[i]=y:=by
   rw [List.getElem_take,List.getElem_drop]
   exact (Db.mp hy).2
  rw [this];omega
 have more:∀ y∈a.toList.drop (ia+k),kf b[ib]<=kf y:=fun y hy=>by
  by_cases hz:ia+k<a.size
  . obtain ⟨z,hz1,ez⟩:=atA k hz
    have hb2:=h2 k (Dh _) (by omega)
    unfold byd at hb2
    rw [if_neg Dn,ez] at hb2
    have hb2:kf b[ib]<kf z:=by simpa using hb2
    have:=c.ua.after hz1 y hy
    omega
  . rw [List.drop_of_length_le (by rw [Dc];omega)] at hy;cases hy
 by_cases k0:k>0
 . rw [if_pos k0]
   have mk:=n.mi.runA c.ua k (by rw [Dc];omega) fun x hx' y hy=>Eb (ye x hx') (c.ub.after xb y hy)
   rw [<- ka,<- D6] at mk
   by_cases e1:ia+k+1=a.size
   . rw [if_pos (by simpa using e1)]
     exact Dy (q.1 _ _ (c.lastA mk e1))
   . rw [if_neg (by simpa using e1)]
     by_cases e2:ia+k=a.size
     . rw [if_pos (by simpa using e2)]
       exact Dy (q.1 _ _ (c.doneB mk e2))
     . rw [if_neg (by simpa using e2)]
       exact qY L c hκ' (by omega) hb mk (by omega) (fun x hx y hy=>by rw [eb] at hy;obtain rfl:=Dg hy;exact more x hx) q
 . rw [if_neg k0]
   obtain rfl:k=0:=by omega
   exact qY L c hκ' ha hb n.mi hlo (fun x hx y hy=>by rw [eb] at hy;obtain rfl:=Dg hy;exact more x hx) q
theorem IN.lt {out:Array Keyed} {ia ib:Nat} (n:IN kf a b out ia ib):ia+ib+1<a.size+b.size:=by have:=n.ha;have:=n.hb;omega
theorem uQ {out:Array Keyed} {ia ib mg:Nat} {r0:Option (Array Keyed)} {st:SortSt} {Q:ForInStep S0->SortSt->Prop} (L:gT M A E s κ kf D) (c:MC kf D a b) (hκ:kindOf st=κ) (n:IN kf a b out ia ib)
    (q1:∀ r z st',bL st st'->Mrg kf a.toList b.toList r.toList->Q (.done (some r,z)) st')
    (q2:∀ out' ia' ib' mg' st',bL st st'->IN kf a b out' ia' ib'->ia+ib+1<=ia'+ib'->Q (.yield (none,out',ia',ib',mg')) st'):wpS M A E s (Bg a b (r0,out,ia,ib,mg)) Q st:=by
 have lt0:=n.lt
 unfold Bg
 dsimp only
 refine Dr (wpS_mono (El (I:=fun x d st'=>st'=st/\∃ o i j ac bc,d=(none,o,i,j,ac,bc)/\IN kf a b o i j/\ia+ib+x<=i+j)
  (Q:=fun d st'=>st'=st/\((∃ r z,d=(some r,z)/\Mrg kf a.toList b.toList r.toList)\/∃ o i j ac bc,d=(none,o,i,j,ac,bc)/\IN kf a b o i j/\ia+ib+1<=i+j)) (fun x d st' _ hx hI=>?_) (fun d st' hI=>?_) ?_) (fun d st' hI=>?_))
 . obtain ⟨rfl,o,i,j,ac,bc,rfl,ni,hp⟩:=hI
   refine uS L c hκ ni (fun r z h=>⟨rfl,.inl ⟨r,z,rfl,h⟩⟩) (fun o' i' j' ac' bc' n' e=>⟨rfl,.inr ⟨o',i',j',ac',bc',rfl,n',by have e:i'+j'=i+j+1:=e;omega⟩⟩) (fun o' i' j' ac' bc' n' e=>⟨rfl,o',i',j',ac',bc',rfl,n',by have e:i'+j'=i+j+1:=e;omega⟩)
 . obtain ⟨rfl,o,i,j,ac,bc,rfl,ni,hp⟩:=hI
   exact ⟨rfl,.inr ⟨o,i,j,ac,bc,rfl,ni,by omega⟩⟩
 . exact ⟨rfl,out,ia,ib,0,0,rfl,n,by omega⟩
 . obtain ⟨e0,hI⟩:=hI
   rw [e0]
   rcases hI with ⟨r,z,rfl,h⟩ | ⟨o,i,j,ac,bc,rfl,ni,hp⟩
   . exact Dy (q1 r _ _ (bL.refl st) h)
   dsimp only
   refine Dr (wpS_lift (wpAny_rule ⟨rfl,?_⟩))
   refine Dr (wpS_mono (El (I:=fun x d st'=>bL st st'/\∃ o i j g ac bc,d=(none,o,i,j,g,ac,bc)/\IN kf a b o i j/\ia+ib+1<=i+j)
    (Q:=fun d st'=>bL st st'/\((∃ r z,d=(some r,z)/\Mrg kf a.toList b.toList r.toList)\/∃ o i j g ac bc,d=(none,o,i,j,g,ac,bc)/\IN kf a b o i j/\ia+ib+1<=i+j)) (fun x d st' _ hx hI=>?_) (fun d st' hI=>?_) ?_) (fun d st' hI=>?_))
   . obtain ⟨sg,o,i,j,g,ac,bc,rfl,ni,hp⟩:=hI
     unfold B3
     dsimp only
     have hκ':kindOf st'=κ:=sg.1.trans hκ
     split
     . exact wA (lo:=ia+ib+1) L c hκ' ni hp fun st2 sg2=>⟨fun r z h=>⟨sg.trans sg2,.inl ⟨r,z,rfl,h⟩⟩,fun o i j g ac bc n h=>⟨sg.trans sg2,.inr ⟨o,i,j,g,ac,bc,rfl,n,h⟩⟩,fun o i j g ac bc n h=>⟨sg.trans sg2,o,i,j,g,ac,bc,rfl,n,h⟩⟩
     . exact wA (lo:=ia+ib+1) L c hκ' ni hp fun st2 sg2=>⟨fun r z h=>⟨sg.trans sg2,.inl ⟨r,z,rfl,h⟩⟩,fun o i j g ac bc n h=>⟨sg.trans sg2,.inr ⟨o,i,j,g,ac,bc,rfl,n,h⟩⟩,fun o i j g ac bc n h=>⟨sg.trans sg2,o,i,j,g,ac,bc,rfl,n,h⟩⟩
   . obtain ⟨sg,o,i,j,g,ac,bc,rfl,ni,hp⟩:=hI
     exact ⟨sg,.inr ⟨o,i,j,g,ac,bc,rfl,ni,hp⟩⟩
   . exact ⟨bL.refl st,o,i,j,_,ac,bc,rfl,ni,hp⟩
   . obtain ⟨sg,hI⟩:=hI
     rcases hI with ⟨r,z,rfl,h⟩ | ⟨o,i,j,g,ac,bc,rfl,ni,hp⟩
     . exact Dy (q1 r _ _ sg h)
     dsimp only
     refine Dr (dG fun st2 sg2=>Dy (q2 _ _ _ _ _ (sg.trans sg2) ni hp))
theorem mJ {st:SortSt} {Q:Array Keyed->SortSt->Prop} (L:gT M A E s κ kf D) (c:MC kf D a b) (hκ:kindOf st=κ) (ha:0<a.size) (hb:0<b.size)
    (h0:∀ y∈a.toList,∀ x,b[0]? =some x->kf x<=kf y) (h:∀ r st',bL st st'->Mrg kf a.toList b.toList r.toList->Q r st'):wpS M A E s (gM a b) Q st:=by
 rw [nK]
 refine Dr (wpS_lift (wpAny_rule ⟨rfl,?_⟩))
 have eb:=De hb
 refine Dr (aH eb ?_)
 have mi:MI kf a.toList b.toList (#[b[0]]:Array Keyed).toList 0 1:=(MI.start (kf:=kf) (la:=a.toList) (lb:=b.toList)).pushB c.ub (qP hb) fun y hy=>h0 y (by simpa using hy) _ eb
 by_cases e1:1=b.size
 . rw [if_pos (by simpa using e1)]
   exact Dy (h _ _ (bL.refl st) (c.doneA mi e1))
 rw [if_neg (by simpa using e1)]
 by_cases e2:0+1=a.size
 . rw [if_pos (by simpa using e2)]
   exact Dy (h _ _ (bL.refl st) (c.lastA mi e2))
 rw [if_neg (by simpa using e2)]
 refine Dr (wpS_get ?_)
 refine Dr (wpS_mono (El (I:=fun x d st'=>bL st st'/\∃ o i j g,d=(none,o,i,j,g)/\IN kf a b o i j/\1+x<=i+j)
  (Q:=fun d st'=>bL st st'/\∃ r z,d=(some r,z)/\Mrg kf a.toList b.toList r.toList) (fun x d st' _ hx hI=>?_) (fun d st' hI=>?_) ?_) (fun d st' hI=>?_))
 . obtain ⟨sg,o,i,j,g,rfl,ni,hp⟩:=hI
   exact uQ L c (sg.1.trans hκ) ni (fun r z st2 sg2 h=>⟨sg.trans sg2,r,z,rfl,h⟩) fun o' i' j' g' st2 sg2 n' h=>⟨sg.trans sg2,o',i',j',g',rfl,n',by omega⟩
 . obtain ⟨sg,o,i,j,g,rfl,ni,hp⟩:=hI
   have:=ni.lt
   omega
 . exact ⟨bL.refl st,_,_,_,_,rfl,⟨by omega,by omega,mi⟩,by omega⟩
 . obtain ⟨sg,r,z,rfl,hm⟩:=hI
   exact Dy (h r _ sg hm)
end
end BE
namespace BE
open PySem PyProof.Rows
def gN:Array Keyed->Array Keyed->StateT SortSt Sem (Array Keyed):=sortPriv%PySem.Builtin.mergeHi
def fz (a b out:Array Keyed) (na nb:Nat):Array Keyed:=a.extract 0 na++b.extract 0 nb++out.reverse
def gj (a b out:Array Keyed) (na nb:Nat):Array Keyed:=b.extract 0 nb++a.extract 0 na++out.reverse
abbrev H1:=Option (Array Keyed)×Nat×Nat×Array Keyed×Nat×Nat
abbrev H2:=Option (Array Keyed)×Nat×Nat×Array Keyed×Nat×Nat×Nat
abbrev H0:=Option (Array Keyed)×Nat×Nat×Array Keyed×Nat
def Bj (a b out:Array Keyed) (na nb mg ac bc:Nat):StateT SortSt Sem (ForInStep H1):=do
 let y <- elem' b (nb-1)
 let x <- elem' a (na-1)
 let r <- lt' y x
 match r with
 | some aWins=>
  if aWins=true then do
   let x <- elem' a (na-1)
   if (na-1==0)=true then pure (.done (some (fz a b (out.push x) (na-1) nb),na-1,nb,out.push x,ac+1,0))
   else if ac+1>=mg then pure (.done (none,na-1,nb,out.push x,ac+1,0))
   else pure (.yield (none,na-1,nb,out.push x,ac+1,0))
  else do
   let y <- elem' b (nb-1)
   if (nb-1==1)=true then pure (.done (some (gj a b (out.push y) na (nb-1)),na,nb-1,out.push y,0,bc+1))
   else if bc+1>=mg then pure (.done (none,na,nb-1,out.push y,0,bc+1))
   else pure (.yield (none,na,nb-1,out.push y,0,bc+1))
 | _=>pure (.done (some (fz a b out na nb),na,nb,out,ac,bc))
def hB (a b out:Array Keyed) (na nb mg ac bc:Nat):StateT SortSt Sem (ForInStep H2):=do
 let x <- elem' a (na-1)
 if (na-1==0)=true then pure (.done (some (fz a b (out.push x) (na-1) nb),na-1,nb,out.push x,mg,ac,bc))
 else if (decide (ac<7) && decide (bc<7))=true then pure (.done (none,na-1,nb,out.push x,mg,ac,bc))
 else pure (.yield (none,na-1,nb,out.push x,mg,ac,bc))
def hA2 (a b out:Array Keyed) (na nb mg ac bc:Nat):StateT SortSt Sem (ForInStep H2):=do
 let y <- elem' b (nb-1)
 if (nb-1==1)=true then pure (.done (some (gj a b (out.push y) na (nb-1)),na,nb-1,out.push y,mg,ac,bc))
 else do
  let x <- elem' a (na-1)
  let r <- cm true x b 0 (nb-1) (nb-1-1)
  match r with
  | some t=>
   if nb-1-t>0 then
    if (t==1)=true then pure (.done (some (gj a b (out.push y++(b.extract t (nb-1)).reverse) na t),na,t,out.push y++(b.extract t (nb-1)).reverse,mg,ac,nb-1-t))
    else if (t==0)=true then pure (.done (some (fz a b (out.push y++(b.extract t (nb-1)).reverse) na t),na,t,out.push y++(b.extract t (nb-1)).reverse,mg,ac,nb-1-t))
    else hB a b (out.push y++(b.extract t (nb-1)).reverse) na t mg ac (nb-1-t)
   else hB a b (out.push y) na (nb-1) mg ac (nb-1-t)
  | _=>pure (.done (some (fz a b (out.push y) na (nb-1)),na,nb-1,out.push y,mg,ac,bc))
def hA (a b out:Array Keyed) (na nb mg ac bc:Nat):StateT SortSt Sem (ForInStep H2):=do
 aK mg
 let y <- elem' b (nb-1)
 let r <- cm false y a 0 na (na-1)
 match r with
 | some t=>
  if na-t>0 then
   if (t==0)=true then pure (.done (some (fz a b (out++(a.extract t na).reverse) t nb),t,nb,out++(a.extract t na).reverse,mg,na-t,bc))
   else hA2 a b (out++(a.extract t na).reverse) t nb mg (na-t) bc
  else hA2 a b out na nb mg (na-t) bc
 | _=>pure (.done (some (fz a b out na nb),na,nb,out,mg,ac,bc))
def B4 (a b:Array Keyed) (c:H2):StateT SortSt Sem (ForInStep H2):=
 if c.2.2.2.2.1>1 then hA a b c.2.2.2.1 c.2.1 c.2.2.1 (c.2.2.2.2.1-1) c.2.2.2.2.2.1 c.2.2.2.2.2.2
 else hA a b c.2.2.2.1 c.2.1 c.2.2.1 c.2.2.2.2.1 c.2.2.2.2.2.1 c.2.2.2.2.2.2
def Bh (a b:Array Keyed) (c:H0):StateT SortSt Sem (ForInStep H0):=do
 let c1 <- forIn [0:a.size+b.size] ((none,c.2.1,c.2.2.1,c.2.2.2.1,0,0):H1) fun _ d=>Bj a b d.2.2.2.1 d.2.1 d.2.2.1 c.2.2.2.2 d.2.2.2.2.1 d.2.2.2.2.2
 match c1.1 with
 | some r=>pure (.done (some r,c1.2.1,c1.2.2.1,c1.2.2.2.1,c.2.2.2.2))
 | none=>do
  rule "list.sort.gallop"
  let c2 <- forIn [0:a.size+b.size] ((none,c1.2.1,c1.2.2.1,c1.2.2.2.1,c.2.2.2.2+1,c1.2.2.2.2.1,c1.2.2.2.2.2):H2) fun _ d=>B4 a b d
  match c2.1 with
  | some r=>pure (.done (some r,c2.2.1,c2.2.2.1,c2.2.2.2.1,c2.2.2.2.2.1))
  | none=>do
   aK (c2.2.2.2.2.1+1)
   pure (.yield (none,c2.2.1,c2.2.2.1,c2.2.2.2.1,c2.2.2.2.2.1+1))
theorem lI (a b:Array Keyed):gN a b=(do
 rule "list.sort.merge-hi"
 let total:=a.size+b.size
 let done (out:Array Keyed) (na nb:Nat):=a.extract 0 na++b.extract 0 nb++out.reverse
 let firstOfB (out:Array Keyed) (na nb:Nat):=b.extract 0 nb++a.extract 0 na++out.reverse
 let mut na:=a.size-1
 let mut nb:=b.size
 let mut out:Array Keyed:=#[<- elem' a na]
 if na==0 then return done out na nb
 if nb==1 then return firstOfB out na nb
 let mut minGallop:=gallopOf (<- get)
 for _ in [0:total] do
  let mut acount:=0
  let mut bcount:=0
  for _ in [0:total] do
   let some aWins <- lt' (<- elem' b (nb-1)) (<- elem' a (na-1)) | return done out na nb
   if aWins then
    na:=na-1;out:=out.push (<- elem' a na);acount:=acount+1;bcount:=0
    if na==0 then return done out na nb
    if acount>=minGallop then break
   else
    nb:=nb-1;out:=out.push (<- elem' b nb);bcount:=bcount+1;acount:=0
    if nb==1 then return firstOfB out na nb
    if bcount>=minGallop then break
  rule "list.sort.gallop"
  minGallop:=minGallop+1
  for _ in [0:total] do
   if minGallop>1 then minGallop:=minGallop-1
   aK minGallop
   let some at_ <- cm false (<- elem' b (nb-1)) a 0 na (na-1) | return done out na nb
   let k:=na-at_
   acount:=k
   if k>0 then
    out:=out++(a.extract at_ na).reverse;na:=at_
    if na==0 then return done out na nb
   nb:=nb-1;out:=out.push (<- elem' b nb)
   if nb==1 then return firstOfB out na nb
   let some at_ <- cm true (<- elem' a (na-1)) b 0 nb (nb-1) | return done out na nb
   let k:=nb-at_
   bcount:=k
   if k>0 then
    out:=out++(b.extract at_ nb).reverse;nb:=at_
    if nb==1 then return firstOfB out na nb
    if nb==0 then return done out na nb
   na:=na-1;out:=out.push (<- elem' a na)
   if na==0 then return done out na nb
   if acount<7 && bcount<7 then break
  minGallop:=minGallop+1
  aK minGallop
 unsupported "internal:list.sort.merge-bound"):=rfl
theorem nL (a b:Array Keyed):gN a b=(do
 rule "list.sort.merge-hi"
 let x <- elem' a (a.size-1)
 if (a.size-1==0)=true then pure (fz a b #[x] (a.size-1) b.size)
 else if (b.size==1)=true then pure (gj a b #[x] (a.size-1) b.size)
 else do
  let st <- get
  let c <- forIn [0:a.size+b.size] ((none,a.size-1,b.size,#[x],gallopOf st):H0) fun _ c=>Bh a b c
  match c.1 with
  | some r=>pure r
  | none=>unsupported "internal:list.sort.merge-bound"):=by
 rw [lI]
 dsimp only
 unfold Bh B4 hA hA2 hB Bj fz gj
 congr 1
 funext _u
 congr 1
 funext y
 congr 1
 congr 1
 congr 1
 funext st
 congr 1
 . congr 1
   funext _x c
   congr 1
   funext c1
   obtain ⟨r1,c1⟩:=c1
   cases r1 with
   | some r=>rfl
   | none=>
    dsimp only
    congr 1
    funext _v
    congr 1
    funext c2
    obtain ⟨r2,c2⟩:=c2
    cases r2<;>rfl
 . funext c
   obtain ⟨r,c⟩:=c
   cases r<;>rfl
end BE
namespace BE
open PySem PyProof.Rows
def kn (kf:Keyed->Int):Keyed->Int:=fun x=>-kf x
theorem dg {kf:Keyed->Int} {l:List Keyed} (h:UpK kf l):UpK (kn kf) l.reverse:=by
 unfold UpK
 rw [List.pairwise_reverse]
 exact List.Pairwise.imp (fun {x y} h=>by show-kf y<= -kf x;omega) h
theorem zL {kf:Keyed->Int} {l:List Keyed} (h:UpK (kn kf) l):UpK kf l.reverse:=by
 unfold UpK
 rw [List.pairwise_reverse]
 exact List.Pairwise.imp (fun {x y} (h: -kf x<= -kf y)=>by omega) h
theorem nH {kf:Keyed->Int} {la lb r:List Keyed} (h:Mrg (kn kf) la.reverse lb.reverse r):Mrg kf la lb r.reverse:=
 ⟨(List.reverse_perm r).trans (h.1.trans ((List.reverse_perm la).append (List.reverse_perm lb))),zL h.2⟩
theorem jj {α:Type} (a:Array α) (n:Nat):(a.extract 0 n).toList=a.toList.take n:=by
 rw [Array.toList_extract]
 simp
theorem dR {α:Type} (l:List α) {n:Nat} (h:n<=l.length):l.reverse.drop (l.length-n)=(l.take n).reverse:=by
 rw [List.drop_reverse,show l.length-(l.length-n)=n by omega]
theorem fV {a:Array Keyed} {n:Nat} (h1:1<=n) (h2:n<=a.size):a.toList.reverse[a.size-n]? =some (a[n-1]'(by omega)):=by
 rw [List.getElem?_reverse (by rw [Dc];omega),Dc,show a.size-1-(a.size-n)=n-1 by omega]
 exact qP _
structure IH (kf:Keyed->Int) (a b out:Array Keyed) (na nb:Nat):Prop where
 a1:1<=na
 a2:na<=a.size
 b1:2<=nb
 b2:nb<=b.size
 mi:MI (kn kf) a.toList.reverse b.toList.reverse out.toList (a.size-na) (b.size-nb)
structure MD (kf:Keyed->Int) (D:Keyed->Prop) (a b:Array Keyed):Prop where
 da:∀ x∈a.toList,D x
 db:∀ x∈b.toList,D x
 ua:UpK kf a.toList
 ub:UpK kf b.toList
 lb:∀ y∈b.toList.take 1,∀ x∈a.toList,kf y<=kf x
section
variable {M:Model} {A:Around} {E:Value->Shared->Prop} {s:Shared} {kf:Keyed->Int} {κ:SortKind} {D:Keyed->Prop} {a b:Array Keyed}
theorem MD.first {out:Array Keyed} {na nb:Nat} (c:MD kf D a b) (m:MI (kn kf) a.toList.reverse b.toList.reverse out.toList (a.size-na) (b.size-nb)) (ha:na<=a.size) (hb:nb<=b.size) (h:nb=1):Mrg kf a.toList b.toList (gj a b out na nb).toList:=by
 have e:(gj a b out na nb).toList=(out.toList++a.toList.reverse.drop (a.size-na)++b.toList.reverse.drop (b.size-nb)).reverse:=by
  unfold gj
  rw [D6,D6,jj,jj,Array.toList_reverse,<- Dc (xs:=a),<- Dc (xs:=b),dR _ (by rw [Dc];exact ha),dR _ (by rw [Dc];exact hb)]
  simp
 rw [e]
 refine nH (m.lastB (dg c.ua) (dg c.ub) fun x hx y hy=>?_)
 rw [<- Dc (xs:=b),dR _ (by rw [Dc];exact hb),List.mem_reverse,h] at hy
 have:=c.lb y hy x (List.mem_reverse.mp (Ey hx))
 show-kf x<= -kf y
 omega
theorem MD.done {out:Array Keyed} {na nb:Nat} (c:MD kf D a b) (m:MI (kn kf) a.toList.reverse b.toList.reverse out.toList (a.size-na) (b.size-nb)) (ha:na<=a.size) (hb:nb<=b.size) (h:na=0\/nb=0):Mrg kf a.toList b.toList (fz a b out na nb).toList:=by
 rcases h with rfl | rfl
 . have e:(fz a b out 0 nb).toList=(out.toList++b.toList.reverse.drop (b.size-nb)).reverse:=by
     unfold fz
     rw [D6,D6,jj,jj,Array.toList_reverse,<- Dc (xs:=b),dR _ (by rw [Dc];exact hb)]
     simp
   rw [e]
   exact nH (m.doneB (dg c.ub) (by rw [List.length_reverse,Dc];omega))
 . have e:(fz a b out na 0).toList=(out.toList++a.toList.reverse.drop (a.size-na)).reverse:=by
     unfold fz
     rw [D6,D6,jj,jj,Array.toList_reverse,<- Dc (xs:=a),dR _ (by rw [Dc];exact ha)]
     simp
   rw [e]
   exact nH (m.doneA (dg c.ua) (by rw [List.length_reverse,Dc];omega))
theorem oW {l:Array Keyed} (u:UpK kf l.toList) {n:Nat} (h1:1<=n) (h2:n<=l.size):∀ x∈l.toList.reverse.drop (l.size-n),kn kf (l[n-1]'(by omega))<=kn kf x:=(dg u).after (fV h1 h2)
theorem uU {out:Array Keyed} {na nb mg ac bc:Nat} {st:SortSt} {Q:ForInStep H1->SortSt->Prop} (L:gT M A E s κ kf D) (c:MD kf D a b) (hκ:kindOf st=κ) (n:IH kf a b out na nb)
    (q1:∀ r z,Mrg kf a.toList b.toList r.toList->Q (.done (some r,z)) st)
    (q2:∀ out' na' nb' ac' bc',IH kf a b out' na' nb'->na'+nb'+1=na+nb->Q (.done (none,na',nb',out',ac',bc')) st)
    (q3:∀ out' na' nb' ac' bc',IH kf a b out' na' nb'->na'+nb'+1=na+nb->Q (.yield (none,na',nb',out',ac',bc')) st):wpS M A E s (Bj a b out na nb mg ac bc) Q st:=by
 have a1:=n.a1
 have a2:=n.a2
 have b1:=n.b1
 have b2:=n.b2
 have xa:=fV a1 a2
 have xb:=fV (show 1<=nb by omega) b2
 have ea:=De (show na-1<a.size by omega)
 have eb:=De (show nb-1<b.size by omega)
 unfold Bj
 refine Dr (aH eb (Dr (aH ea (Dr (L _ _ _ _ (c.db _ (Ec _)) (c.da _ (Ec _)) hκ ?_)))))
 dsimp only
 by_cases w:kf b[nb-1]<kf a[na-1]
 . rw [decide_eq_true w,if_pos rfl]
   refine Dr (aH ea ?_)
   have mi:MI (kn kf) a.toList.reverse b.toList.reverse (out.push a[na-1]).toList (a.size-(na-1)) (b.size-nb):=by
    rw [fX,show a.size-(na-1)=a.size-na+1 by omega]
    refine n.mi.pushA (dg c.ua) xa fun y hy=>?_
    have:=oW c.ub (show 1<=nb by omega) b2 y hy
    have z:kn kf a[na-1]<=kn kf b[nb-1]:=by show-kf a[na-1]<= -kf b[nb-1];omega
    omega
   by_cases e:na-1=0
   . rw [if_pos (by simpa using e)]
     exact Dy (q1 _ _ (c.done mi (by omega) b2 (.inl e)))
   . rw [if_neg (by simpa using e)]
     have n':IH kf a b (out.push a[na-1]) (na-1) nb:=⟨by omega,by omega,b1,b2,mi⟩
     split
     . exact Dy (q2 _ _ _ _ _ n' (by omega))
     . exact Dy (q3 _ _ _ _ _ n' (by omega))
 . rw [Dw w,if_neg Dn]
   refine Dr (aH eb ?_)
   have mi:MI (kn kf) a.toList.reverse b.toList.reverse (out.push b[nb-1]).toList (a.size-na) (b.size-(nb-1)):=by
    rw [fX,show b.size-(nb-1)=b.size-nb+1 by omega]
    refine n.mi.pushB (dg c.ub) xb fun y hy=>?_
    have:=oW c.ua a1 a2 y hy
    have z:kn kf b[nb-1]<=kn kf a[na-1]:=by show-kf b[nb-1]<= -kf a[na-1];omega
    omega
   by_cases e:nb-1=1
   . rw [if_pos (by simpa using e)]
     exact Dy (q1 _ _ (c.first mi a2 (by omega) e))
   . rw [if_neg (by simpa using e)]
     have n':IH kf a b (out.push b[nb-1]) na (nb-1):=⟨a1,a2,by omega,by omega,mi⟩
     split
     . exact Dy (q2 _ _ _ _ _ n' (by omega))
     . exact Dy (q3 _ _ _ _ _ n' (by omega))
end
end BE
namespace BE
open PySem PyProof.Rows
theorem nU {a:Array Keyed} {t n:Nat} (h1:t<=n) (h2:n<=a.size):((a.extract t n).reverse).toList=(a.toList.reverse.drop (a.size-n)).take (n-t):=by
 rw [Array.toList_reverse,Array.toList_extract,<- Dc (xs:=a),dR _ (by rw [Dc];exact h2),List.take_reverse,Dv,Dc]
 congr 1
 rw [Nat.min_eq_left h2,show n-(n-t)=t by omega,List.extract_eq_drop_take,List.drop_take]
section
variable {M:Model} {A:Around} {E:Value->Shared->Prop} {s:Shared} {kf:Keyed->Int} {κ:SortKind} {D:Keyed->Prop} {a b:Array Keyed}
def QH (kf:Keyed->Int) (a b:Array Keyed) (hi:Nat) (Q:ForInStep H2->SortSt->Prop) (st:SortSt):Prop:=
 (∀ r z,Mrg kf a.toList b.toList r.toList->Q (.done (some r,z)) st)/\(∀ out na nb mg ac bc,IH kf a b out na nb->na+nb<=hi->Q (.done (none,na,nb,out,mg,ac,bc)) st)/\(∀ out na nb mg ac bc,IH kf a b out na nb->na+nb<=hi->Q (.yield (none,na,nb,out,mg,ac,bc)) st)
theorem wx {out:Array Keyed} {na nb mg ac bc hi:Nat} {st:SortSt} {Q:ForInStep H2->SortSt->Prop} (c:MD kf D a b) (a1:1<=na) (a2:na<=a.size) (b1:2<=nb) (b2:nb<=b.size) (m:MI (kn kf) a.toList.reverse b.toList.reverse out.toList (a.size-na) (b.size-nb)) (hhi:na+nb<=hi)
    (hx:∀ y∈b.toList.reverse.drop (b.size-nb),∀ x,a[na-1]? =some x->kn kf x<=kn kf y) (q:QH kf a b hi Q st):wpS M A E s (hB a b out na nb mg ac bc) Q st:=by
 have xa:=fV a1 a2
 have ea:=De (show na-1<a.size by omega)
 unfold hB
 refine Dr (aH ea ?_)
 have mi:MI (kn kf) a.toList.reverse b.toList.reverse (out.push a[na-1]).toList (a.size-(na-1)) (b.size-nb):=by
  rw [fX,show a.size-(na-1)=a.size-na+1 by omega]
  exact m.pushA (dg c.ua) xa fun y hy=>hx y hy _ ea
 by_cases e:na-1=0
 . rw [if_pos (by simpa using e)]
   exact Dy (q.1 _ _ (c.done mi (by omega) b2 (.inl e)))
 . rw [if_neg (by simpa using e)]
   have n':IH kf a b (out.push a[na-1]) (na-1) nb:=⟨by omega,by omega,b1,b2,mi⟩
   split
   . exact Dy (q.2.1 _ _ _ _ _ _ n' (by omega))
   . exact Dy (q.2.2 _ _ _ _ _ _ n' (by omega))
theorem jN {l:Array Keyed} {t n:Nat} (h1:t<=n) (h2:n<=l.size) {x:Keyed} (hx:x∈(l.toList.reverse.drop (l.size-n)).take (n-t)):∃ i,t<=i/\i<n/\kAt kf l (0+i)=kf x:=by
 rw [<- nU h1 h2,Array.toList_reverse,List.mem_reverse] at hx
 obtain ⟨i,hi,rfl⟩:=DG.mp hx
 rw [Dc,Array.size_extract] at hi
 refine ⟨t+i,by omega,by omega,?_⟩
 unfold kAt
 rw [Nat.zero_add,De (show t+i<l.size by omega)]
 simp
theorem qX {out:Array Keyed} {na nb mg ac bc hi:Nat} {st:SortSt} {Q:ForInStep H2->SortSt->Prop} (L:gT M A E s κ kf D) (c:MD kf D a b) (hκ:kindOf st=κ) (a1:1<=na) (a2:na<=a.size) (b1:2<=nb) (b2:nb<=b.size) (m:MI (kn kf) a.toList.reverse b.toList.reverse out.toList (a.size-na) (b.size-nb)) (hhi:na+nb<=hi)
    (hx:∀ x∈a.toList.reverse.drop (a.size-na),∀ y,b[nb-1]? =some y->kn kf y<=kn kf x) (q:QH kf a b hi Q st):wpS M A E s (hA2 a b out na nb mg ac bc) Q st:=by
 have xa:=fV a1 a2
 have ea:=De (show na-1<a.size by omega)
 have xb:=fV (show 1<=nb by omega) b2
 have eb:=De (show nb-1<b.size by omega)
 unfold hA2
 refine Dr (aH eb ?_)
 have mi:MI (kn kf) a.toList.reverse b.toList.reverse (out.push b[nb-1]).toList (a.size-na) (b.size-(nb-1)):=by
  rw [fX,show b.size-(nb-1)=b.size-nb+1 by omega]
  exact m.pushB (dg c.ub) xb fun y hy=>hx y hy _ eb
 by_cases e:nb-1=1
 . rw [if_pos (by simpa using e)]
   exact Dy (q.1 _ _ (c.first mi a2 (by omega) e))
 . rw [if_neg (by simpa using e)]
   refine Dr (aH ea (Dr (cw L hκ c.db (c.da _ (Ec _)) (by omega) (by omega) (uV c.ub (by omega)) fun t ht h1 h2=>?_)))
   dsimp only
   have big:∀ x∈(b.toList.reverse.drop (b.size-(nb-1))).take (nb-1-t),kn kf x<=kn kf a[na-1]:=fun x hx'=>by
    obtain ⟨i,hi1,hi2,ei⟩:=jN (kf:=kf) ht (by omega) hx'
    have h2:=h2 i hi1 hi2
    unfold byd at h2
    rw [if_pos rfl,ei] at h2
    have h2:=of_decide_eq_false h2
    show-kf x<= -kf a[na-1]
    omega
   have small:∀ y∈b.toList.reverse.drop (b.size-t),kn kf a[na-1]<=kn kf y:=fun y hy=>by
    have hy':y∈(b.toList.reverse.drop (b.size-t)).take (t-0):=by
     rw [DA (by rw [DU,List.length_reverse,Dc];omega)];exact hy
    obtain ⟨i,hi1,hi2,ei⟩:=jN (kf:=kf) (DD t) (by omega) hy'
    have h1:=h1 i hi2
    unfold byd at h1
    rw [if_pos rfl,ei] at h1
    have h1:=of_decide_eq_true h1
    show-kf a[na-1]<= -kf y
    omega
   by_cases k0:nb-1-t>0
   . rw [if_pos k0]
     have mk:=mi.runB (dg c.ub) (nb-1-t) (by rw [List.length_reverse,Dc];omega) fun x hx' y hy=>Eb (big x hx') (oW c.ua a1 a2 y hy)
     rw [<- nU ht (by omega),<- D6,show b.size-(nb-1)+(nb-1-t)=b.size-t by omega] at mk
     by_cases e1:t=1
     . rw [if_pos (by simpa using e1)]
       exact Dy (q.1 _ _ (c.first mk a2 (by omega) e1))
     . rw [if_neg (by simpa using e1)]
       by_cases e2:t=0
       . rw [if_pos (by simpa using e2)]
         exact Dy (q.1 _ _ (c.done mk a2 (by omega) (.inr e2)))
       . rw [if_neg (by simpa using e2)]
         exact wx c a1 a2 (by omega) (by omega) mk (by omega) (fun y hy x hx'=>by rw [ea] at hx';obtain rfl:=Dg hx';exact small y hy) q
   . rw [if_neg k0]
     obtain rfl:t=nb-1:=by omega
     exact wx c a1 a2 (by omega) (by omega) mi (by omega) (fun y hy x hx'=>by rw [ea] at hx';obtain rfl:=Dg hx';exact small y hy) q
end
end BE
namespace BE
open PySem PyProof.Rows
section
variable {M:Model} {A:Around} {E:Value->Shared->Prop} {s:Shared} {kf:Keyed->Int} {κ:SortKind} {D:Keyed->Prop} {a b:Array Keyed}
theorem wy {out:Array Keyed} {na nb mg ac bc hi:Nat} {st:SortSt} {Q:ForInStep H2->SortSt->Prop} (L:gT M A E s κ kf D) (c:MD kf D a b) (hκ:kindOf st=κ) (n:IH kf a b out na nb) (hhi:na+nb<=hi)
    (q:∀ st',bL st st'->QH kf a b hi Q st'):wpS M A E s (hA a b out na nb mg ac bc) Q st:=by
 have a1:=n.a1
 have a2:=n.a2
 have b1:=n.b1
 have b2:=n.b2
 have xb:=fV (show 1<=nb by omega) b2
 have eb:=De (show nb-1<b.size by omega)
 unfold hA
 refine Dr (dG fun st' sg=>?_)
 have hκ':kindOf st'=κ:=sg.1.trans hκ
 have q:=q st' sg
 refine Dr (aH eb (Dr (cw L hκ' c.da (c.db _ (Ec _)) (by omega) (by omega) (uV c.ua (by omega)) fun t ht h1 h2=>?_)))
 dsimp only
 have big:∀ x∈(a.toList.reverse.drop (a.size-na)).take (na-t),kn kf x<=kn kf b[nb-1]:=fun x hx'=>by
  obtain ⟨i,hi1,hi2,ei⟩:=jN (kf:=kf) ht a2 hx'
  have h2:=h2 i hi1 hi2
  unfold byd at h2
  rw [if_neg Dn,ei] at h2
  have h2:kf b[nb-1]<kf x:=by simpa using h2
  show-kf x<= -kf b[nb-1]
  omega
 have small:∀ y∈a.toList.reverse.drop (a.size-t),kn kf b[nb-1]<=kn kf y:=fun y hy=>by
  have hy':y∈(a.toList.reverse.drop (a.size-t)).take (t-0):=by
   rw [DA (by rw [DU,List.length_reverse,Dc];omega)];exact hy
  obtain ⟨i,hi1,hi2,ei⟩:=jN (kf:=kf) (DD t) (by omega) hy'
  have h1:=h1 i hi2
  unfold byd at h1
  rw [if_neg Dn,ei] at h1
  have h1:¬ kf b[nb-1]<kf y:=by simpa using h1
  show-kf b[nb-1]<= -kf y
  omega
 by_cases k0:na-t>0
 . rw [if_pos k0]
   have mk:=n.mi.runA (dg c.ua) (na-t) (by rw [List.length_reverse,Dc];omega) fun x hx' y hy=>Eb (big x hx') (oW c.ub (show 1<=nb by omega) b2 y hy)
   rw [<- nU ht a2,<- D6,show a.size-na+(na-t)=a.size-t by omega] at mk
   by_cases e2:t=0
   . rw [if_pos (by simpa using e2)]
     exact Dy (q.1 _ _ (c.done mk (by omega) b2 (.inl e2)))
   . rw [if_neg (by simpa using e2)]
     exact qX L c hκ' (by omega) (by omega) b1 b2 mk (by omega) (fun x hx y hy=>by rw [eb] at hy;obtain rfl:=Dg hy;exact small x hx) q
 . rw [if_neg k0]
   obtain rfl:t=na:=by omega
   exact qX L c hκ' a1 a2 b1 b2 n.mi hhi (fun x hx y hy=>by rw [eb] at hy;obtain rfl:=Dg hy;exact small x hx) q
theorem uR {out:Array Keyed} {na nb mg:Nat} {r0:Option (Array Keyed)} {st:SortSt} {Q:ForInStep H0->SortSt->Prop} (L:gT M A E s κ kf D) (c:MD kf D a b) (hκ:kindOf st=κ) (n:IH kf a b out na nb)
    (q1:∀ r z st',bL st st'->Mrg kf a.toList b.toList r.toList->Q (.done (some r,z)) st')
    (q2:∀ out' na' nb' mg' st',bL st st'->IH kf a b out' na' nb'->na'+nb'+1<=na+nb->Q (.yield (none,na',nb',out',mg')) st'):wpS M A E s (Bh a b (r0,na,nb,out,mg)) Q st:=by
 have a2:=n.a2
 have b2:=n.b2
 have a1:=n.a1
 have b1:=n.b1
 unfold Bh
 dsimp only
 refine Dr (wpS_mono (El (I:=fun x d st'=>st'=st/\∃ o i j ac bc,d=(none,i,j,o,ac,bc)/\IH kf a b o i j/\i+j+x<=na+nb)
  (Q:=fun d st'=>st'=st/\((∃ r z,d=(some r,z)/\Mrg kf a.toList b.toList r.toList)\/∃ o i j ac bc,d=(none,i,j,o,ac,bc)/\IH kf a b o i j/\i+j+1<=na+nb)) (fun x d st' _ hx hI=>?_) (fun d st' hI=>?_) ?_) (fun d st' hI=>?_))
 . obtain ⟨rfl,o,i,j,ac,bc,rfl,ni,hp⟩:=hI
   refine uU L c hκ ni (fun r z h=>⟨rfl,.inl ⟨r,z,rfl,h⟩⟩) (fun o' i' j' ac' bc' n' e=>⟨rfl,.inr ⟨o',i',j',ac',bc',rfl,n',by have e:i'+j'+1=i+j:=e;omega⟩⟩) (fun o' i' j' ac' bc' n' e=>⟨rfl,o',i',j',ac',bc',rfl,n',by have e:i'+j'+1=i+j:=e;omega⟩)
 . obtain ⟨rfl,o,i,j,ac,bc,rfl,ni,hp⟩:=hI
   exact ⟨rfl,.inr ⟨o,i,j,ac,bc,rfl,ni,by omega⟩⟩
 . exact ⟨rfl,out,na,nb,0,0,rfl,n,by omega⟩
 . obtain ⟨e0,hI⟩:=hI
   rw [e0]
   rcases hI with ⟨r,z,rfl,h⟩ | ⟨o,i,j,ac,bc,rfl,ni,hp⟩
   . exact Dy (q1 r _ _ (bL.refl st) h)
   dsimp only
   refine Dr (wpS_lift (wpAny_rule ⟨rfl,?_⟩))
   refine Dr (wpS_mono (El (I:=fun x d st'=>bL st st'/\∃ o i j g ac bc,d=(none,i,j,o,g,ac,bc)/\IH kf a b o i j/\i+j<=na+nb-1)
    (Q:=fun d st'=>bL st st'/\((∃ r z,d=(some r,z)/\Mrg kf a.toList b.toList r.toList)\/∃ o i j g ac bc,d=(none,i,j,o,g,ac,bc)/\IH kf a b o i j/\i+j<=na+nb-1)) (fun x d st' _ hx hI=>?_) (fun d st' hI=>?_) ?_) (fun d st' hI=>?_))
   . obtain ⟨sg,o,i,j,g,ac,bc,rfl,ni,hp⟩:=hI
     unfold B4
     dsimp only
     have hκ':kindOf st'=κ:=sg.1.trans hκ
     split
     . exact wy (hi:=na+nb-1) L c hκ' ni hp fun st2 sg2=>⟨fun r z h=>⟨sg.trans sg2,.inl ⟨r,z,rfl,h⟩⟩,fun o i j g ac bc n h=>⟨sg.trans sg2,.inr ⟨o,i,j,g,ac,bc,rfl,n,h⟩⟩,fun o i j g ac bc n h=>⟨sg.trans sg2,o,i,j,g,ac,bc,rfl,n,h⟩⟩
     . exact wy (hi:=na+nb-1) L c hκ' ni hp fun st2 sg2=>⟨fun r z h=>⟨sg.trans sg2,.inl ⟨r,z,rfl,h⟩⟩,fun o i j g ac bc n h=>⟨sg.trans sg2,.inr ⟨o,i,j,g,ac,bc,rfl,n,h⟩⟩,fun o i j g ac bc n h=>⟨sg.trans sg2,o,i,j,g,ac,bc,rfl,n,h⟩⟩
   . obtain ⟨sg,o,i,j,g,ac,bc,rfl,ni,hp⟩:=hI
     exact ⟨sg,.inr ⟨o,i,j,g,ac,bc,rfl,ni,hp⟩⟩
   . exact ⟨bL.refl st,o,i,j,_,ac,bc,rfl,ni,by omega⟩
   . obtain ⟨sg,hI⟩:=hI
     rcases hI with ⟨r,z,rfl,h⟩ | ⟨o,i,j,g,ac,bc,rfl,ni,hp⟩
     . exact Dy (q1 r _ _ sg h)
     dsimp only
     refine Dr (dG fun st2 sg2=>Dy (q2 _ _ _ _ _ (sg.trans sg2) ni (by omega)))
theorem mK {st:SortSt} {Q:Array Keyed->SortSt->Prop} (L:gT M A E s κ kf D) (c:MD kf D a b) (hκ:kindOf st=κ) (ha:0<a.size) (hb:0<b.size)
    (h0:∀ y∈b.toList,kf y<=kf a[a.size-1]) (h:∀ r st',bL st st'->Mrg kf a.toList b.toList r.toList->Q r st'):wpS M A E s (gN a b) Q st:=by
 rw [nL]
 refine Dr (wpS_lift (wpAny_rule ⟨rfl,?_⟩))
 have ea:=De (show a.size-1<a.size by omega)
 refine Dr (aH ea ?_)
 have mi:MI (kn kf) a.toList.reverse b.toList.reverse (#[a[a.size-1]]:Array Keyed).toList (a.size-(a.size-1)) (b.size-b.size):=by
  rw [show a.size-(a.size-1)=0+1 by omega,Nat.sub_self]
  refine (MI.start (kf:=kn kf) (la:=a.toList.reverse) (lb:=b.toList.reverse)).pushA (dg c.ua) ?_ fun y hy=>?_
  . have:=fV (a:=a) (n:=a.size) (by omega) (Dh _)
    rw [Nat.sub_self] at this
    exact this
  . have:=h0 y (by simpa using hy)
    show-kf a[a.size-1]<= -kf y
    omega
 by_cases e1:a.size-1=0
 . rw [if_pos (by simpa using e1)]
   exact Dy (h _ _ (bL.refl st) (c.done mi (by omega) (Dh _) (.inl e1)))
 rw [if_neg (by simpa using e1)]
 by_cases e2:b.size=1
 . rw [if_pos (by simpa using e2)]
   exact Dy (h _ _ (bL.refl st) (c.first mi (by omega) (Dh _) e2))
 rw [if_neg (by simpa using e2)]
 refine Dr (wpS_get ?_)
 refine Dr (wpS_mono (El (I:=fun x d st'=>bL st st'/\∃ o i j g,d=(none,i,j,o,g)/\IH kf a b o i j/\i+j+x+1<=a.size+b.size)
  (Q:=fun d st'=>bL st st'/\∃ r z,d=(some r,z)/\Mrg kf a.toList b.toList r.toList) (fun x d st' _ hx hI=>?_) (fun d st' hI=>?_) ?_) (fun d st' hI=>?_))
 . obtain ⟨sg,o,i,j,g,rfl,ni,hp⟩:=hI
   exact uR L c (sg.1.trans hκ) ni (fun r z st2 sg2 h=>⟨sg.trans sg2,r,z,rfl,h⟩) fun o' i' j' g' st2 sg2 n' h=>⟨sg.trans sg2,o',i',j',g',rfl,n',by omega⟩
 . obtain ⟨sg,o,i,j,g,rfl,ni,hp⟩:=hI
   have:=ni.a1
   omega
 . exact ⟨bL.refl st,_,_,_,_,rfl,⟨by omega,by omega,by omega,Dh _,mi⟩,by omega⟩
 . obtain ⟨sg,r,z,rfl,hm⟩:=hI
   exact Dy (h r _ sg hm)
end
end BE
namespace BE
open PySem PyProof.Rows
def qi (xs:Array Keyed) (base:Nat) (r:List Keyed):Array Keyed:=r.zipIdx.foldl (fun a (p:Keyed×Nat)=>a.setIfInBounds (base+p.2) p.1) xs
theorem nM (i:Nat):mergeAt' i=(do
 let s <- get
 let (some (sa,na,power),some (sb,nb,_)):=((pendingOf s)[i]?,(pendingOf s)[i+1]?) | unsupported "internal:list.sort.pending"
 set (setPending s (((pendingOf s).setIfInBounds i (sa,na+nb,power)).eraseIdxIfInBounds (i+1)))
 let some k <- cm false (<- elem' (arrOf s) sb) (arrOf s) sa na 0 | return false
 let (sa,na):=(sa+k,na-k)
 if na==0 then return true
 let some nb <- cm true (<- elem' (arrOf s) (sa+na-1)) (arrOf s) sb nb (nb-1) | return false
 if nb==0 then return true
 let x:=(arrOf s).extract sa sb
 let y:=(arrOf s).extract sb (sb+nb)
 let merged <- if na<=nb then gM x y else gN x y
 modify fun s=>setArr s (qi (arrOf s) sa merged.toList)
 return (failedOf (<- get)).isNone):=rfl
theorem wN:∀ (r:List Keyed) (k:Nat) (base:Nat) (xs:Array Keyed),base+k+r.length<=xs.size->
    ((r.zipIdx k).foldl (fun a (p:Keyed×Nat)=>a.setIfInBounds (base+p.2) p.1) xs).toList=xs.toList.take (base+k)++r++xs.toList.drop (base+k+r.length)
 | [],k,base,xs,h=>by simp
 | x::r,k,base,xs,h=>by
  rw [DF] at h
  rw [List.zipIdx_cons,List.foldl_cons,wN r (k+1) base _ (by rw [Array.size_setIfInBounds];omega)]
  have hlt:base+k<xs.toList.length:=by rw [Dc];omega
  rw [Array.toList_setIfInBounds,DF]
  have e1:(xs.toList.set (base+k) x).take (base+(k+1))=xs.toList.take (base+k)++[x]:=by
   rw [show base+(k+1)=base+k+1 by omega,List.take_succ_eq_append_getElem (by rw [Ef];exact hlt),List.getElem_set_self,List.take_set_of_le (Dh _)]
  have e2:(xs.toList.set (base+k) x).drop (base+(k+1)+r.length)=xs.toList.drop (base+k+(r.length+1)):=by
   rw [List.drop_set_of_lt (by omega),show base+(k+1)+r.length=base+k+(r.length+1) by omega]
  rw [e1,e2]
  simp
theorem Am {xs:Array Keyed} {base:Nat} {r:List Keyed} (h:base+r.length<=xs.size):(qi xs base r).toList=xs.toList.take base++r++xs.toList.drop (base+r.length):=by
 unfold qi
 have:=wN r 0 base xs (by omega)
 simpa using this
section
variable {M:Model} {A:Around} {E:Value->Shared->Prop} {s:Shared} {kf:Keyed->Int} {κ:SortKind} {D:Keyed->Prop}
theorem yp {X1 X2 Y1 Y2 r:List Keyed} (ua:UpK kf (X1++X2)) (ub:UpK kf (Y1++Y2)) (hr:Mrg kf X2 Y1 r) (h1:∀ x∈X1,∀ y∈Y1++Y2,kf x<=kf y) (h2:∀ x∈X2,∀ y∈Y2,kf x<=kf y):Mrg kf (X1++X2) (Y1++Y2) (X1++r++Y2):=by
 have pa:=Eg.mp ua
 have pb:=Eg.mp ub
 have inr:∀ x∈r,x∈X2\/x∈Y1:=fun x hx=>DN.mp (hr.1.mem_iff.mp hx)
 refine ⟨?_,?_⟩
 . refine ((hr.1.append_left X1).append_right Y2).trans (.of_eq ?_)
   simp
 . refine Eg.mpr ⟨Eg.mpr ⟨pa.1,hr.2,fun x hx y hy=>?_⟩,pb.2.1,fun x hx y hy=>?_⟩
   . rcases inr y hy with h | h
     . exact pa.2.2 x hx y h
     . exact h1 x hx y (List.mem_append_left _ h)
   . rcases DN.mp hx with hx | hx
     . exact h1 x hx y (DT _ hy)
     . rcases inr x hx with h | h
       . exact h2 x h y hy
       . exact pb.2.2 x h y hy
theorem rR {arr:Array Keyed} {P X S:List Keyed} (e:arr.toList=P++X++S) {i:Nat} {x:Keyed} (hx:X[i]? =some x):arr[P.length+i]? =some x:=by
 have hi:=(Db.mp hx).1
 rw [<- Dq,e,DL (by rw [Dm];omega),DH (by omega),show P.length+i-P.length=i by omega]
 exact hx
theorem vp {arr:Array Keyed} {P X S:List Keyed} (e:arr.toList=P++X++S) {i:Nat} {x:Keyed} (hx:X[i]? =some x):kAt kf arr (P.length+i)=kf x:=by
 unfold kAt
 rw [rR e hx]
theorem wG {arr:Array Keyed} {P X S:List Keyed} (e:arr.toList=P++X++S) (u:UpK kf X):∀ i j,i<=j->j<X.length->kAt kf arr (P.length+i)<=kAt kf arr (P.length+j):=fun i j hij hj=>by
 have ei:=C7 (show i<X.length by omega)
 have ej:=C7 hj
 rw [vp e ei,vp e ej]
 refine u.after ei _ (Dj (i:=j-i) ?_)
 rw [List.getElem?_drop,show i+(j-i)=j by omega]
 exact ej
end
end BE
namespace BE
open PySem PyProof.Rows
section
variable {M:Model} {A:Around} {E:Value->Shared->Prop} {s:Shared} {kf:Keyed->Int} {κ:SortKind} {D:Keyed->Prop}
theorem t9 {arr:Array Keyed} {P X S:List Keyed} (e:arr.toList=P++X++S):(arr.extract P.length (P.length+X.length)).toList=X:=by
 rw [ka,e,DV,List.drop_left,List.take_left]
theorem xh {σ:Type} {st st':σ} {Q:PUnit->σ->Prop} (h:Q ⟨⟩ st'):wpS M A E s (set st':StateT σ Sem PUnit) Q st:=by
 unfold wpS;rw [StateT.run_set];exact Df ⟨rfl,h⟩
theorem mL {i sa na sb nb p p2:Nat} {P X Y S:List Keyed} {st:SortSt} {Q:Bool->SortSt->Prop} (L:gT M A E s κ kf D) (hκ:kindOf st=κ) (hf:failedOf st=none) (hD:∀ x∈(arrOf st).toList,D x)
    (h1:(pendingOf st)[i]? =some (sa,na,p)) (h2:(pendingOf st)[i+1]? =some (sb,nb,p2)) (e:(arrOf st).toList=P++(X++Y)++S) (eP:P.length=sa) (eX:X.length=na) (eY:Y.length=nb) (eb:sb=sa+na) (x1:0<na) (y1:0<nb) (uX:UpK kf X) (uY:UpK kf Y)
    (h:∀ st' R,kindOf st'=κ->failedOf st'=none->pendingOf st'=((pendingOf st).setIfInBounds i (sa,na+nb,p)).eraseIdxIfInBounds (i+1)->(arrOf st').toList=P++R++S->Mrg kf X Y R->Q true st'):wpS M A E s (mergeAt' i) Q st:=by
 subst eP eX eY eb
 have e1:(arrOf st).toList=P++X++(Y++S):=by rw [e];simp
 have e2:(arrOf st).toList=(P++X)++Y++S:=by rw [e];simp
 have len:(arrOf st).size=P.length+X.length+Y.length+S.length:=by rw [<- Dc,e];simp;omega
 have lPX:(P++X).length=P.length+X.length:=Dm
 rw [nM]
 refine Dr (wpS_get ?_)
 rw [h1,h2]
 dsimp only
 refine Dr (xh ?_)
 have y0:Y[0]? =some Y[0]:=C7 y1
 have ey0:=rR e2 y0
 rw [lPX,Nat.add_zero] at ey0
 have dY:∀ y∈Y,D y:=fun y hy=>hD y (by rw [e];simp [hy])
 have dX:∀ y∈X,D y:=fun y hy=>hD y (by rw [e];simp [hy])
 refine Dr (aH ey0 (Dr (cw (hint:=0) L hκ hD (dY _ (DX _)) x1 (by omega) (wG e1 uX) fun k hk g1 g2=>?_)))
 dsimp only
 have gx:∀ j (hj:j<X.length),byd kf false (kf Y[0]) (arrOf st) P.length j=!decide (kf Y[0]<kf X[j]):=fun j hj=>by
  unfold byd
  rw [if_neg Dn,vp e1 (C7 hj)]
 have lowX:∀ x∈X.take k,kf x<=kf Y[0]:=fun x hx=>by
  obtain ⟨j,hj,rfl⟩:=DG.mp hx
  rw [Dv] at hj
  have:=g1 j (by omega)
  rw [gx j (by omega)] at this
  rw [List.getElem_take]
  have:¬ kf Y[0]<kf X[j]:=by simpa using this
  omega
 have hiX:∀ x∈X.drop k,kf Y[0]<=kf x:=fun x hx=>by
  obtain ⟨j,hj,rfl⟩:=DG.mp hx
  rw [DU] at hj
  have:=g2 (k+j) (by omega) (by omega)
  rw [gx (k+j) (by omega)] at this
  rw [List.getElem_drop]
  have:kf Y[0]<kf X[k+j]:=by simpa using this
  omega
 have aftY:∀ y∈Y,kf Y[0]<=kf y:=fun y hy=>uY.after y0 y (by rw [List.drop_zero];exact hy)
 have cutX:X.take k++X.drop k=X:=Ek k X
 by_cases n0:X.length-k=0
 . rw [if_pos (by simpa using n0)]
   have tk:X.take k=X:=DA (by omega)
   refine Dy (h _ (X++Y) hκ hf rfl e ⟨.rfl,Eg.mpr ⟨uX,uY,fun x hx y hy=>?_⟩⟩)
   rw [tk] at lowX
   exact Eb (lowX x hx) (aftY y hy)
 rw [if_neg (by simpa using n0)]
 have xl:X[X.length-1]? =some (X[X.length-1]'(by omega)):=C7 (by omega)
 have exl:=rR e1 xl
 rw [show P.length+(X.length-1)=P.length+k+(X.length-k)-1 by omega] at exl
 refine Dr (aH exl (Dr (cw (hint:=Y.length-1) L hκ hD (dX _ (DX _)) (by omega) (by omega) (by have:=wG e2 uY;rw [lPX] at this;exact this) fun t ht g3 g4=>?_)))
 dsimp only
 have gy:∀ j (hj:j<Y.length),byd kf true (kf (X[X.length-1]'(by omega))) (arrOf st) (P.length+X.length) j=decide (kf Y[j]<kf (X[X.length-1]'(by omega))):=fun j hj=>by
  unfold byd
  have:=vp (kf:=kf) e2 (C7 hj)
  rw [lPX] at this
  rw [if_pos rfl,this]
 have lowY:∀ y∈Y.take t,kf y<=kf (X[X.length-1]'(by omega)):=fun y hy=>by
  obtain ⟨j,hj,rfl⟩:=DG.mp hy
  rw [Dv] at hj
  have:=g3 j (by omega)
  rw [gy j (by omega)] at this
  rw [List.getElem_take]
  exact Int.le_of_lt (of_decide_eq_true this)
 have hiY:∀ y∈Y.drop t,kf (X[X.length-1]'(by omega))<=kf y:=fun y hy=>by
  obtain ⟨j,hj,rfl⟩:=DG.mp hy
  rw [DU] at hj
  have:=g4 (t+j) (by omega) (by omega)
  rw [gy (t+j) (by omega)] at this
  rw [List.getElem_drop]
  exact Int.not_lt.mp (of_decide_eq_false this)
 have befX:∀ x∈X,kf x<=kf (X[X.length-1]'(by omega)):=fun x hx=>by
  obtain ⟨j,hj,rfl⟩:=DG.mp hx
  refine uX.after (C7 hj) _ (Dj (i:=X.length-1-j) ?_)
  rw [List.getElem?_drop,show j+(X.length-1-j)=X.length-1 by omega]
  exact xl
 have cutY:Y.take t++Y.drop t=Y:=Ek t Y
 by_cases t0:t=0
 . rw [if_pos (by simpa using t0)]
   refine Dy (h _ (X++Y) hκ hf rfl e ⟨.rfl,Eg.mpr ⟨uX,uY,fun x hx y hy=>?_⟩⟩)
   rw [t0,List.drop_zero] at hiY
   exact Eb (befX x hx) (hiY y hy)
 rw [if_neg (by simpa using t0)]
 have lk:(X.take k).length=k:=by rw [Dv];omega
 have lt:(Y.take t).length=t:=by rw [Dv];omega
 have ld:(X.drop k).length=X.length-k:=DU
 have ec1:(arrOf st).toList=(P++X.take k)++X.drop k++(Y++S):=by rw [DV P (X.take k),cutX];exact e1
 have ec2:(arrOf st).toList=(P++X)++Y.take t++(Y.drop t++S):=by
  rw [e2,DV (P++X) (Y.take t),<- DV (Y.take t),cutY]
  simp
 have ex:((arrOf st).extract (P.length+k) (P.length+X.length)).toList=X.drop k:=by
  have:=t9 (arr:=arrOf st) (P:=P++X.take k) (X:=X.drop k) (S:=Y++S) ec1
  rw [Dm,lk,ld,show P.length+k+(X.length-k)=P.length+X.length by omega] at this
  exact this
 have ey:((arrOf st).extract (P.length+X.length) (P.length+X.length+t)).toList=Y.take t:=by
  have:=t9 (arr:=arrOf st) (P:=P++X) (X:=Y.take t) (S:=Y.drop t++S) ec2
  rw [lPX,lt] at this
  exact this
 have fin:∀ (r:Array Keyed) (st':SortSt),bL (setPending st (((pendingOf st).setIfInBounds i (P.length,X.length+Y.length,p)).eraseIdxIfInBounds (i+1))) st'->Mrg kf (X.drop k) (Y.take t) r.toList->wpS M A E s (do
     modify fun s=>setArr s (qi (arrOf s) (P.length+k) r.toList)
     return (failedOf (<- get)).isNone) Q st':=fun r st' sg hm=>by
  refine Dr (wpS_modify (Dr (wpS_get (Dy ?_))))
  have ar:arrOf st'=arrOf st:=sg.2.1
  have fa:failedOf st'=none:=sg.2.2.2.trans hf
  have rl:r.toList.length=X.length-k+t:=by rw [hm.1.length_eq,Dm,ld,lt]
  have goal:=h (setArr st' (qi (arrOf st') (P.length+k) r.toList)) (X.take k++r.toList++Y.drop t) (sg.1.trans hκ) fa sg.2.2.1 ?_ ?_
  . show Q (failedOf st').isNone _
    rw [fa]
    exact goal
  . show (qi (arrOf st') (P.length+k) r.toList).toList=_
    rw [ar,Am (by rw [rl,len];omega),rl,show P.length+k+(X.length-k+t)=P.length+X.length+t by omega]
    have z1:(arrOf st).toList.take (P.length+k)=P++X.take k:=by
     rw [e1,DV,List.take_append,DA (by omega),show P.length+k-P.length=k by omega,List.take_append_of_le_length hk]
    have z2:(arrOf st).toList.drop (P.length+X.length+t)=Y.drop t++S:=by
     rw [e2,<- lPX,DV,List.drop_append,List.drop_of_length_le (by omega),show (P++X).length+t-(P++X).length=t by omega,List.drop_append_of_le_length ht]
     rfl
    rw [z1,z2]
    simp
  . have:=yp (kf:=kf) (X1:=X.take k) (X2:=X.drop k) (Y1:=Y.take t) (Y2:=Y.drop t) (r:=r.toList) (by rw [cutX];exact uX) (by rw [cutY];exact uY) hm (fun x hx y hy=>Eb (lowX x hx) (aftY y (by rw [cutY] at hy;exact hy))) (fun x hx y hy=>Eb (befX x (Ey hx)) (hiY y hy))
    rw [cutX,cutY] at this
    exact this
 have sx:((arrOf st).extract (P.length+k) (P.length+X.length)).size=X.length-k:=by rw [<- Dc,ex,ld]
 have sy:((arrOf st).extract (P.length+X.length) (P.length+X.length+t)).size=t:=by rw [<- Dc,ey,lt]
 generalize (arrOf st).extract (P.length+k) (P.length+X.length)=ax at*
 generalize (arrOf st).extract (P.length+X.length) (P.length+X.length+t)=ay at*
 have uX2:UpK kf (X.drop k):=List.Pairwise.sublist (List.drop_sublist k X) uX
 have uY1:UpK kf (Y.take t):=List.Pairwise.sublist (List.take_sublist t Y) uY
 have ya0:∀ x,ay[0]? =some x->x=Y[0]:=fun x hx=>by
  rw [<- Dq,ey,D9 (by omega),y0] at hx
  exact (Dg hx).symm
 by_cases c:X.length-k<=t
 . rw [if_pos c]
   refine Dr (mJ L ⟨by rw [ex];exact fun x hx=>dX x (Ey hx),by rw [ey];exact fun x hx=>dY x (Eh hx),by rw [ex];exact uX2,by rw [ey];exact uY1,fun x hx y hy=>?_⟩ hκ (by omega) (by omega) (fun y hy x hx=>?_) fun r st' sg hm=>?_)
   . rw [ey] at hx
     rw [ex,sx,List.drop_drop] at hy
     have:y=X[X.length-1]'(by omega):=by
      obtain ⟨j,hj,rfl⟩:=DG.mp hy
      rw [DU] at hj
      rw [List.getElem_drop]
      congr 1
      omega
     rw [this];exact lowY x hx
   . rw [ya0 x hx]
     rw [ex] at hy
     exact hiX y hy
   . rw [ex,ey] at hm
     exact fin r st' sg hm
 . rw [if_neg c]
   refine Dr (mK L ⟨by rw [ex];exact fun x hx=>dX x (Ey hx),by rw [ey];exact fun x hx=>dY x (Eh hx),by rw [ex];exact uX2,by rw [ey];exact uY1,fun y hy x hx=>?_⟩ hκ (by omega) (by omega) (fun y hy=>?_) fun r st' sg hm=>?_)
   . rw [ey] at hy
     rw [ex] at hx
     have:y=Y[0]:=by
      obtain ⟨j,hj,rfl⟩:=DG.mp hy
      rw [Dv] at hj
      rw [List.getElem_take,List.getElem_take]
      congr 1
      omega
     rw [this];exact hiX x hx
   . rw [ey] at hy
     have:ax[ax.size-1]=X[X.length-1]'(by omega):=by
      have z:=De (show ax.size-1<ax.size by omega)
      rw [<- Dq,ex,List.getElem?_drop,show k+(ax.size-1)=X.length-1 by omega,xl] at z
      exact (Dg z).symm
     rw [this];exact lowY y hy
   . rw [ex,ey] at hm
     exact fin r st' sg hm
end
end BE
namespace BE
open PySem PyProof.Rows
def qR (kf:Keyed->Int) (xs:Array Keyed) (lo k:Nat):Prop:=∀ i j,i<=j->j<k->kAt kf xs (lo+i)<=kAt kf xs (lo+j)
structure SB (st₀:SortSt) (lo hi:Nat) (st:SortSt):Prop where
 perm:(arrOf st).Perm (arrOf st₀)
 kind:kindOf st=kindOf st₀
 failed:failedOf st=failedOf st₀
 pend:pendingOf st=pendingOf st₀
 out:∀ j,(j<lo\/hi<=j)->(arrOf st)[j]? =(arrOf st₀)[j]?
theorem SB.refl (st:SortSt) (lo hi:Nat):SB st lo hi st:=⟨Array.Perm.refl _,rfl,rfl,rfl,fun _ _=>rfl⟩
theorem SB.size {st₀ st:SortSt} {lo hi:Nat} (h:SB st₀ lo hi st):(arrOf st).size=(arrOf st₀).size:=h.perm.size_eq
theorem SB.setArr {st₀ st:SortSt} {lo hi:Nat} (h:SB st₀ lo hi st) {xs:Array Keyed} (hp:xs.Perm (arrOf st)) (ho:∀ j,(j<lo\/hi<=j)->xs[j]? =(arrOf st)[j]?):SB st₀ lo hi (setArr st xs):=
 ⟨hp.trans h.perm,h.kind,h.failed,h.pend,fun j hj=>(ho j hj).trans (h.out j hj)⟩
theorem dA {kf:Keyed->Int} {xs ys:Array Keyed} {i j:Nat} (h:xs[i]? =ys[j]?):kAt kf xs i=kAt kf ys j:=by unfold kAt;rw [h]
theorem jg {kf:Keyed->Int} {xs:Array Keyed} {src d:Nat} (hs:src<xs.size) (hd:d<=src) (k:Nat):
    kAt kf (bubble xs src d) k=if k=src-d then kAt kf xs src else if src-d<k/\k<=src then kAt kf xs (k-1) else kAt kf xs k:=by
 have e:=getElem?_bubble hs d hd k
 by_cases h1:k=src-d
 . rw [if_pos h1] at e ⊢;exact dA e
 . rw [if_neg h1] at e ⊢
   by_cases h2:src-d<k/\k<=src
   . rw [if_pos h2] at e ⊢;exact dA e
   . rw [if_neg h2] at e ⊢;exact dA e
section
variable {M:Model} {A:Around} {E:Value->Shared->Prop} {s:Shared} {kf:Keyed->Int} {κ:SortKind} {D:Keyed->Prop}
theorem gW {st₀ st:SortSt} {lo hi i j:Nat} {Q:Option Bool->SortSt->Prop} (L:gT M A E s κ kf D) (hD:∀ x∈(arrOf st₀).toList,D x) (hκ:kindOf st₀=κ) (hB:SB st₀ lo hi st) (hi':i<(arrOf st₀).size) (hj:j<(arrOf st₀).size)
    (h:Q (some (decide (kAt kf (arrOf st) i<kAt kf (arrOf st) j))) st):wpS M A E s (ltAt' i j) Q st:=by
 have z:=hB.size
 have e1:=De (show i<(arrOf st).size by omega)
 have e2:=De (show j<(arrOf st).size by omega)
 have inD:∀ x∈(arrOf st).toList,D x:=fun x hx=>hD x ((Ez.mp hB.perm).mem_iff.mp hx)
 rw [ltAt'_eq]
 refine Dr (wpS_get (Dr (aH e1 (Dr (aH e2 ?_)))))
 unfold kAt at h
 rw [e1,e2] at h
 exact L _ _ _ _ (inD _ (Ec _)) (inD _ (Ec _)) (hB.kind.trans hκ) h
theorem gX {st₀ st:SortSt} {lo n ok:Nat} {Q:Bool->SortSt->Prop} (L:gT M A E s κ kf D) (hD:∀ x∈(arrOf st₀).toList,D x) (hκ:kindOf st₀=κ) (hn:lo+n<=(arrOf st₀).size) (hok:ok<=n) (hB:SB st₀ lo (lo+n) st) (hs:qR kf (arrOf st) lo ok)
    (h:∀ st',SB st₀ lo (lo+n) st'->qR kf (arrOf st') lo n->Q true st'):wpS M A E s (binarySort' lo n ok) Q st:=by
 rw [binarySort'_eq]
 refine Dr (wpS_mono (El (I:=fun k c st'=>c=(none,())/\SB st₀ lo (lo+n) st'/\qR kf (arrOf st') lo (min k n))
  (Q:=fun c st'=>c=(none,())/\SB st₀ lo (lo+n) st'/\qR kf (arrOf st') lo n) ?step ?fin ?init) ?post)
 case post=>
  rintro c st' ⟨rfl,hB',hs'⟩
  exact Dy (h st' hB' hs')
 case init=>
  refine ⟨rfl,hB,fun i j hij hj=>?_⟩
  by_cases h1:ok=0
  . have:i=j:=by omega
    subst this;exact DK _
  . exact hs i j hij (by omega)
 case fin=>
  rintro c st' ⟨hc,hB',hs'⟩
  refine ⟨hc,hB',?_⟩
  rwa [show min (max (max ok 1) n) n=n by omega] at hs'
 case step=>
  rintro k c st' hak hkn ⟨rfl,hB',hs'⟩
  rw [show min k n=k by omega] at hs'
  refine Dr (wpS_mono (El (I:=fun x c st''=>st''=st'/\∃ l r,c=(none,l,r)/\l<=r/\r<=k/\r-l<=k-x/\
      (∀ i,i<l->kAt kf (arrOf st') (lo+i)<=kAt kf (arrOf st') (lo+k))/\(∀ i,r<=i->i<k->kAt kf (arrOf st') (lo+k)<kAt kf (arrOf st') (lo+i)))
   (Q:=fun c st''=>st''=st'/\∃ l r,c=(none,l,r)/\l<=k/\
    (∀ i,i<l->kAt kf (arrOf st') (lo+i)<=kAt kf (arrOf st') (lo+k))/\(∀ i,l<=i->i<k->kAt kf (arrOf st') (lo+k)<kAt kf (arrOf st') (lo+i))) ?istep ?ifin ?iinit) ?ipost)
  case iinit=>exact ⟨rfl,0,k,rfl,by omega,by omega,by omega,fun i hi=>by omega,fun i h1 h2=>by omega⟩
  case ifin=>
   rintro c st'' ⟨rfl,l,r,rfl,hlr,hrk,hm,hlo,hhi⟩
   have:l=r:=by omega
   subst this
   exact ⟨rfl,l,l,rfl,hrk,hlo,hhi⟩
  case istep=>
   rintro x c st'' _ hxk ⟨rfl,l,r,rfl,hlr,hrk,hm,hlo,hhi⟩
   dsimp only
   by_cases hge:l>=r
   . rw [if_pos hge]
     have:l=r:=by omega
     subst this
     exact Dy ⟨rfl,l,l,rfl,hrk,hlo,hhi⟩
   . rw [if_neg hge]
     refine Dr (gW L hD hκ hB' (by omega) (by omega) ?_)
     by_cases hless:kAt kf (arrOf st'') (lo+k)<kAt kf (arrOf st'') (lo+(l+r) / 2)
     . simp only [hless,decide_true,if_true]
       refine Dy ⟨rfl,l,(l+r) / 2,rfl,by omega,by omega,by omega,hlo,fun i h1 h2=>?_⟩
       exact Int.lt_of_lt_of_le hless (hs' _ _ h1 h2)
     . simp only [hless,decide_false,DJ,Es]
       refine Dy ⟨rfl,(l+r) / 2+1,r,rfl,by omega,by omega,by omega,fun i h1=>?_,hhi⟩
       exact Eb (hs' i ((l+r) / 2) (by omega) (by omega)) (Int.not_lt.mp hless)
  case ipost=>
   rintro c st'' ⟨rfl,l,r,rfl,hlk,hlo,hhi⟩
   show wpS _ _ _ _ (do moveDown' (lo+k) (lo+l);pure (ForInStep.yield (none,()))) _ _
   rw [moveDown'_eq]
   have hks:lo+k<(arrOf st'').size:=by rw [hB'.size];omega
   refine Dr (wpS_modify (Dy ⟨rfl,hB'.setArr (bubble_perm _ _ _) (fun j hj=>?_),?_⟩))
   . rw [getElem?_bubble hks _ (by omega),if_neg (by omega),if_neg (by omega)]
   rw [show min (k+1) n=k+1 by omega]
   intro i j hij hj
   show kAt kf (bubble (arrOf st'') (lo+k) (lo+k-(lo+l))) (lo+i)<=kAt kf (bubble (arrOf st'') (lo+k) (lo+k-(lo+l))) (lo+j)
   rw [jg hks (by omega),jg hks (by omega),show lo+k-(lo+k-(lo+l))=lo+l by omega]
   have sub1:∀ z,l<z->lo+z-1=lo+(z-1):=fun z hz=>by omega
   repeat' split
   all_goals first
    | (exfalso;omega)
    | exact DK _
    | exact hlo _ (by omega)
    | (rw [sub1 _ (by omega)];exact Int.le_of_lt (hhi _ (by omega) (by omega)))
    | (rw [sub1 _ (by omega)];exact hs' _ _ (by omega) (by omega))
    | (rw [sub1 i (by omega),sub1 j (by omega)];exact hs' _ _ (by omega) (by omega))
    | exact hs' _ _ (by omega) (by omega)
end
end BE
namespace BE
open PySem PyProof.Rows
abbrev UpS:=Option (Option Nat)×Nat
abbrev DnS:=Option (Option Nat)×Nat×Nat
def upL (lo a nrem:Nat):StateT SortSt Sem UpS:=
 forIn [a:nrem] ((none,a):UpS) fun _ c=>do
  let x <- ltAt' (lo+c.2) (lo+c.2-1)
  match x with
  | some smaller=>if smaller=true then pure (ForInStep.done (none,c.2)) else pure (ForInStep.yield (none,c.2+1))
  | _=>pure (ForInStep.done (some none,c.2))
def tlL (lo n nrem:Nat):StateT SortSt Sem (Option Nat):=do
 reverseSlice' lo (lo+n)
 let c <- upL lo n nrem
 match c.1 with
 | some r=>pure r
 | none=>pure (some c.2)
def dnL (lo n nrem:Nat):StateT SortSt Sem DnS:=
 forIn [n:nrem] ((none,n,0):DnS) fun _ c=>do
  let x <- ltAt' (lo+c.2.1) (lo+c.2.1-1)
  match x with
  | some smaller=>
   if smaller=true then
    if c.2.2>0 then do
     reverseSlice' (lo+c.2.1-(c.2.2+1)) (lo+c.2.1)
     pure (ForInStep.yield (none,c.2.1+1,0))
    else pure (ForInStep.yield (none,c.2.1+1,0))
   else do
    let y <- ltAt' (lo+c.2.1-1) (lo+c.2.1)
    match y with
    | some larger=>if larger=true then pure (ForInStep.done (none,c.2.1,c.2.2)) else pure (ForInStep.yield (none,c.2.1+1,c.2.2+1))
    | _=>pure (ForInStep.done (some none,c.2.1,c.2.2))
  | _=>pure (ForInStep.done (some none,c.2.1,c.2.2))
def dpL (lo n nrem:Nat):StateT SortSt Sem (Option Nat):=do
 liftM (rule "list.sort.descending-run")
 let c <- dnL lo (n+1) nrem
 match c.1 with
 | some r=>pure r
 | none=>
  if c.2.2>0 then do
   reverseSlice' (lo+c.2.1-(c.2.2+1)) (lo+c.2.1)
   tlL lo c.2.1 nrem
  else tlL lo c.2.1 nrem
theorem md (lo nrem:Nat):countRun' lo nrem=(do
    let c <- upL lo 1 nrem
    match c.1 with
    | some r=>pure r
    | none=>
     if (c.2==nrem)=true then pure (some c.2)
     else if c.2>1 then do
      let x <- ltAt' lo (lo+c.2-1)
      match x with
      | some rose=>if rose=true then pure (some c.2) else do
          reverseSlice' lo (lo+c.2)
          dpL lo c.2 nrem
      | _=>pure none
     else dpL lo c.2 nrem):=by
 rw [countRun'_eq]
 dsimp only
 unfold dpL tlL dnL upL
 congr 1
 funext c
 obtain ⟨r,n⟩:=c
 cases r with
 | some r=>rfl
 | none=>
  dsimp only
  split
  . rfl
  . split
    . congr 1
      funext x
      cases x with
      | none=>rfl
      | some rose=>
       dsimp only
       split
       . rfl
       . congr 1
         funext _r
         congr 1
         funext _u
         congr 1
         funext s2
         obtain ⟨r2,n2,q2⟩:=s2
         cases r2 with
         | some r2=>rfl
         | none=>
          dsimp only
          split
          . congr 1
            funext _v
            congr 1
            funext _w
            congr 1
            funext s3
            obtain ⟨r3,n3⟩:=s3
            cases r3<;>rfl
          . congr 1
            funext _w
            congr 1
            funext s3
            obtain ⟨r3,n3⟩:=s3
            cases r3<;>rfl
    . congr 1
      funext _u
      congr 1
      funext s2
      obtain ⟨r2,n2,q2⟩:=s2
      cases r2 with
      | some r2=>rfl
      | none=>
       dsimp only
       split
       . congr 1
         funext _v
         congr 1
         funext _w
         congr 1
         funext s3
         obtain ⟨r3,n3⟩:=s3
         cases r3<;>rfl
       . congr 1
         funext _w
         congr 1
         funext s3
         obtain ⟨r3,n3⟩:=s3
         cases r3<;>rfl
def qN (kf:Keyed->Int) (xs:Array Keyed) (lo k:Nat):Prop:=∀ i j,i<=j->j<k->kAt kf xs (lo+j)<=kAt kf xs (lo+i)
theorem fR {kf:Keyed->Int} {xs:Array Keyed} {i j:Nat} (hj:j<=xs.size) (k:Nat):
    kAt kf (mirror xs i j ((j-i) / 2)) k=if i<=k/\k<j then kAt kf xs (i+j-1-k) else kAt kf xs k:=by
 have e:=getElem?_mirror_all (i:=i) hj k
 by_cases h1:i<=k/\k<j
 . rw [if_pos h1] at e ⊢;exact dA e
 . rw [if_neg h1] at e ⊢;exact dA e
theorem bu {kf:Keyed->Int} {xs:Array Keyed} {i j:Nat} (hj:j<=xs.size) (heq:∀ k,i<=k->k<j->kAt kf xs k=kAt kf xs (j-1)) (k:Nat):
    kAt kf (mirror xs i j ((j-i) / 2)) k=kAt kf xs k:=by
 rw [fR hj]
 split
 . rw [heq _ (by omega) (by omega),heq k (by omega) (by omega)]
 . rfl
section
variable {M:Model} {A:Around} {E:Value->Shared->Prop} {s:Shared} {kf:Keyed->Int} {κ:SortKind} {D:Keyed->Prop} {st₀:SortSt}
theorem eW {st:SortSt} {lo hi i j:Nat} (hB:SB st₀ lo hi st) (h1:lo<=i) (h2:j<=hi) (h3:j<=(arrOf st₀).size):SB st₀ lo hi (setArr st (mirror (arrOf st) i j ((j-i) / 2))):=
 hB.setArr (mirror_perm _ _ _ _) fun k hk=>by rw [getElem?_mirror_all (by rw [hB.size];exact h3),if_neg (by omega)]
theorem jr {st:SortSt} {i j:Nat} {Q:Unit->SortSt->Prop} (h:Q () (setArr st (mirror (arrOf st) i j ((j-i) / 2)))):wpS M A E s (reverseSlice' i j) Q st:=by
 rw [reverseSlice'_eq];exact wpS_modify h
theorem qU {st:SortSt} {lo hi a nrem:Nat} {Q:UpS->SortSt->Prop} (L:gT M A E s κ kf D) (hD:∀ x∈(arrOf st₀).toList,D x) (hκ:kindOf st₀=κ) (hn:lo+nrem<=(arrOf st₀).size) (ha:1<=a) (han:a<=nrem) (hB:SB st₀ lo hi st)
    (hs:qR kf (arrOf st) lo a)
    (h:∀ n,a<=n->n<=nrem->qR kf (arrOf st) lo n->(n=nrem\/kAt kf (arrOf st) (lo+n)<kAt kf (arrOf st) (lo+n-1))->Q (none,n) st):wpS M A E s (upL lo a nrem) Q st:=by
 unfold upL
 refine El (I:=fun x c st'=>st'=st/\c=(none,x)/\qR kf (arrOf st) lo x) ?step ?fin ⟨rfl,rfl,hs⟩
 case fin=>
  rintro c st' ⟨rfl,rfl,hs'⟩
  rw [show max a nrem=nrem by omega] at hs' ⊢
  exact h nrem han (Dh _) hs' (.inl rfl)
 case step=>
  rintro x c st' hax hxn ⟨rfl,rfl,hs'⟩
  dsimp only
  refine Dr (gW L hD hκ hB (by omega) (by omega) ?_)
  by_cases hless:kAt kf (arrOf st') (lo+x)<kAt kf (arrOf st') (lo+x-1)
  . simp only [hless,decide_true,if_true]
    exact Dy (h x hax (by omega) hs' (.inr hless))
  . simp only [hless,decide_false,DJ,Es]
    refine Dy ⟨rfl,rfl,fun i j hij hj=>?_⟩
    by_cases hjx:j<x
    . exact hs' i j hij hjx
    . have hj':j=x:=by omega
      subst hj'
      by_cases hi':i=j
      . subst hi';exact DK _
      . have z:=hs' i (j-1) (by omega) (by omega)
        rw [show lo+(j-1)=lo+j-1 by omega] at z
        exact Eb z (Int.not_lt.mp hless)
theorem qW {st:SortSt} {lo n nrem:Nat} {Q:Option Nat->SortSt->Prop} (L:gT M A E s κ kf D) (hD:∀ x∈(arrOf st₀).toList,D x) (hκ:kindOf st₀=κ) (hn:lo+nrem<=(arrOf st₀).size) (h1:1<=n) (hnn:n<=nrem) (hB:SB st₀ lo (lo+nrem) st)
    (hs:qN kf (arrOf st) lo n) (h:∀ m st',SB st₀ lo (lo+nrem) st'->1<=m->m<=nrem->qR kf (arrOf st') lo m->Q (some m) st'):wpS M A E s (tlL lo n nrem) Q st:=by
 unfold tlL
 have hsz:lo+n<=(arrOf st).size:=by rw [hB.size];omega
 refine Dr (jr ?_)
 have hB':=eW hB (i:=lo) (j:=lo+n) (Dh _) (by omega) (by omega)
 refine Dr (qU L hD hκ hn h1 hnn hB' ?_ fun m hm1 hm2 hsm _=>Dy (h m _ hB' (by omega) hm2 hsm))
 intro i j hij hj
 show kAt kf (mirror (arrOf st) lo (lo+n) ((lo+n-lo) / 2)) (lo+i)<=kAt kf (mirror (arrOf st) lo (lo+n) ((lo+n-lo) / 2)) (lo+j)
 rw [fR hsz,fR hsz,if_pos (by omega),if_pos (by omega),show lo+(lo+n)-1-(lo+i)=lo+(n-1-i) by omega,show lo+(lo+n)-1-(lo+j)=lo+(n-1-j) by omega]
 exact hs _ _ (by omega) (by omega)
end
end BE
namespace BE
open PySem PyProof.Rows
section
variable {M:Model} {A:Around} {E:Value->Shared->Prop} {s:Shared} {kf:Keyed->Int} {κ:SortKind} {D:Keyed->Prop} {st₀:SortSt}
theorem xj {st:SortSt} {lo n nrem:Nat} {Q:DnS->SortSt->Prop} (L:gT M A E s κ kf D) (hD:∀ x∈(arrOf st₀).toList,D x) (hκ:kindOf st₀=κ) (hn:lo+nrem<=(arrOf st₀).size) (h1:1<=n) (hnn:n<=nrem) (hB:SB st₀ lo (lo+nrem) st)
    (hs:qN kf (arrOf st) lo n)
    (h:∀ m neq st',SB st₀ lo (lo+nrem) st'->n<=m->m<=nrem->qN kf (arrOf st') lo m->neq+1<=m->(∀ i,m-(neq+1)<=i->i<m->kAt kf (arrOf st') (lo+i)=kAt kf (arrOf st') (lo+(m-1)))->Q (none,m,neq) st'):
    wpS M A E s (dnL lo n nrem) Q st:=by
 unfold dnL
 refine El (I:=fun x c st'=>∃ neq,c=(none,x,neq)/\SB st₀ lo (lo+nrem) st'/\qN kf (arrOf st') lo x/\neq+1<=x/\
     (∀ i,x-(neq+1)<=i->i<x->kAt kf (arrOf st') (lo+i)=kAt kf (arrOf st') (lo+(x-1)))) ?step ?fin ⟨0,rfl,hB,hs,by omega,fun i h1 h2=>by congr 1;omega⟩
 case fin=>
  rintro c st' ⟨neq,rfl,hB',hs',hq,he⟩
  rw [show max n nrem=nrem by omega] at hs' hq he ⊢
  exact h nrem neq st' hB' hnn (Dh _) hs' hq he
 case step=>
  rintro x c st' hax hxn ⟨neq,rfl,hB',hs',hq,he⟩
  dsimp only
  have hsz:lo+x<=(arrOf st').size:=by rw [hB'.size];omega
  have he':∀ k,lo+x-(neq+1)<=k->k<lo+x->kAt kf (arrOf st') k=kAt kf (arrOf st') (lo+x-1):=fun k h1 h2=>by
   have:=he (k-lo) (by omega) (by omega)
   rw [show lo+(k-lo)=k by omega,show lo+(x-1)=lo+x-1 by omega] at this
   exact this
  refine Dr (gW L hD hκ hB' (by omega) (by omega) ?_)
  by_cases hless:kAt kf (arrOf st') (lo+x)<kAt kf (arrOf st') (lo+x-1)
  . simp only [hless,decide_true,if_true]
    have step1:∀ xs:Array Keyed,(∀ k,kAt kf xs k=kAt kf (arrOf st') k)->qN kf xs lo (x+1):=by
     intro xs hk i j hij hj
     rw [hk,hk]
     by_cases hjx:j<x
     . exact hs' i j hij hjx
     . have hj':j=x:=by omega
       subst hj'
       by_cases hi':i=j
       . subst hi';exact DK _
       . have z:=hs' i (j-1) (by omega) (by omega)
         rw [show lo+(j-1)=lo+j-1 by omega] at z
         exact Eb (Int.le_of_lt hless) z
    by_cases hneq:neq>0
    . rw [if_pos hneq]
      refine Dr (jr (Dy ⟨0,rfl,eW hB' (by omega) (by omega) (by omega),step1 _ (bu hsz he'),by omega,fun i h1 h2=>by congr 1;omega⟩))
    . rw [if_neg hneq]
      exact Dy ⟨0,rfl,hB',step1 _ (fun _=>rfl),by omega,fun i h1 h2=>by congr 1;omega⟩
  . simp only [hless,decide_false,DJ,Es]
    refine Dr (gW L hD hκ hB' (by omega) (by omega) ?_)
    by_cases hlarger:kAt kf (arrOf st') (lo+x-1)<kAt kf (arrOf st') (lo+x)
    . simp only [hlarger,decide_true,if_true]
      exact Dy (h x neq st' hB' hax (by omega) hs' hq he)
    . simp only [hlarger,decide_false,DJ,Es]
      have heqx:kAt kf (arrOf st') (lo+x)=kAt kf (arrOf st') (lo+(x-1)):=by rw [show lo+(x-1)=lo+x-1 by omega];omega
      refine Dy ⟨neq+1,rfl,hB',fun i j hij hj=>?_,by omega,fun i h1 h2=>?_⟩
      . by_cases hjx:j<x
        . exact hs' i j hij hjx
        . have hj':j=x:=by omega
          subst hj'
          by_cases hi':i=j
          . subst hi';exact DK _
          . rw [heqx];exact hs' i (j-1) (by omega) (by omega)
      . rw [show x+1-1=x by omega]
        by_cases hix:i=x
        . subst hix;rfl
        . rw [heqx];exact he i (by omega) (by omega)
theorem qZ {st:SortSt} {lo n nrem:Nat} {Q:Option Nat->SortSt->Prop} (L:gT M A E s κ kf D) (hD:∀ x∈(arrOf st₀).toList,D x) (hκ:kindOf st₀=κ) (hn:lo+nrem<=(arrOf st₀).size) (hnn:n+1<=nrem) (hB:SB st₀ lo (lo+nrem) st)
    (hs:qN kf (arrOf st) lo (n+1)) (h:∀ m st',SB st₀ lo (lo+nrem) st'->1<=m->m<=nrem->qR kf (arrOf st') lo m->Q (some m) st'):wpS M A E s (dpL lo n nrem) Q st:=by
 unfold dpL
 refine Dr (wpS_lift (wpAny_rule ⟨rfl,?_⟩))
 refine Dr (xj L hD hκ hn (by omega) hnn hB hs fun m neq st' hB' hm1 hm2 hs' hq he=>?_)
 dsimp only
 have hsz:lo+m<=(arrOf st').size:=by rw [hB'.size];omega
 have he':∀ k,lo+m-(neq+1)<=k->k<lo+m->kAt kf (arrOf st') k=kAt kf (arrOf st') (lo+m-1):=fun k h1 h2=>by
  have:=he (k-lo) (by omega) (by omega)
  rw [show lo+(k-lo)=k by omega,show lo+(m-1)=lo+m-1 by omega] at this
  exact this
 by_cases hneq:neq>0
 . rw [if_pos hneq]
   refine Dr (jr (qW L hD hκ hn (by omega) hm2 (eW hB' (by omega) (by omega) (by omega)) ?_ h))
   intro i j hij hj
   show kAt kf (mirror (arrOf st') _ _ _) (lo+j)<=kAt kf (mirror (arrOf st') _ _ _) (lo+i)
   rw [bu hsz he',bu hsz he']
   exact hs' i j hij hj
 . rw [if_neg hneq]
   exact qW L hD hκ hn (by omega) hm2 hB' hs' h
theorem jt {st:SortSt} {lo nrem:Nat} {Q:Option Nat->SortSt->Prop} (L:gT M A E s κ kf D) (hD:∀ x∈(arrOf st₀).toList,D x) (hκ:kindOf st₀=κ) (hn:lo+nrem<=(arrOf st₀).size) (h1:1<=nrem) (hB:SB st₀ lo (lo+nrem) st)
    (h:∀ m st',SB st₀ lo (lo+nrem) st'->1<=m->m<=nrem->qR kf (arrOf st') lo m->Q (some m) st'):wpS M A E s (countRun' lo nrem) Q st:=by
 rw [md]
 refine Dr (qU L hD hκ hn (Dh 1) h1 hB (fun i j hij hj=>by
  have:i=j:=by omega
  subst this;exact DK _) fun n hn1 hn2 hsn hor=>?_)
 dsimp only
 by_cases hnn:n=nrem
 . rw [if_pos (by simpa using hnn)]
   exact Dy (h n st hB hn1 hn2 hsn)
 . rw [if_neg (by simpa using hnn)]
   have hlt:kAt kf (arrOf st) (lo+n)<kAt kf (arrOf st) (lo+n-1):=hor.resolve_left hnn
   by_cases hgt:n>1
   . rw [if_pos hgt]
     refine Dr (gW L hD hκ hB (by omega) (by omega) ?_)
     by_cases hrose:kAt kf (arrOf st) lo<kAt kf (arrOf st) (lo+n-1)
     . simp only [hrose,decide_true,if_true]
       exact Dy (h n st hB hn1 hn2 hsn)
     . simp only [hrose,decide_false,DJ,Es]
       have hsz:lo+n<=(arrOf st).size:=by rw [hB.size];omega
       have hall:∀ k,lo<=k->k<lo+n->kAt kf (arrOf st) k=kAt kf (arrOf st) (lo+n-1):=by
        intro k hk0 hk
        have a1:=hsn 0 (k-lo) (by omega) (by omega)
        have a2:=hsn (k-lo) (n-1) (by omega) (by omega)
        rw [show lo+(k-lo)=k by omega] at a1 a2
        rw [show lo+(n-1)=lo+n-1 by omega] at a2
        rw [Nat.add_zero] at a1
        omega
       refine Dr (jr (qZ L hD hκ hn (by omega) (eW hB (Dh _) (by omega) (by omega)) ?_ h))
       intro i j hij hj
       show kAt kf (mirror (arrOf st) _ _ _) (lo+j)<=kAt kf (mirror (arrOf st) _ _ _) (lo+i)
       rw [bu hsz hall,bu hsz hall]
       by_cases hjn:j<n
       . rw [hall (lo+i) (by omega) (by omega),hall (lo+j) (by omega) (by omega)];exact DK _
       . have hj':j=n:=by omega
         subst hj'
         by_cases hi':i=j
         . subst hi';exact DK _
         . rw [hall (lo+i) (by omega) (by omega)];exact Int.le_of_lt hlt
   . rw [if_neg hgt]
     have hn1':n=1:=by omega
     subst hn1'
     refine qZ L hD hκ hn (by omega) hB ?_ h
     intro i j hij hj
     by_cases hi':i=j
     . subst hi';exact DK _
     . have hi0:i=0:=by omega
       have hj1:j=1:=by omega
       subst hi0;subst hj1
       exact Int.le_of_lt hlt
end
end BE
namespace BE
open PySem PySem.Spec PyProof.Rows
theorem vQ:typeLookup (.type "dict") "__len__"=pure (some (.builtin "dict.__len__")):=by rw [typeLookup_type,builtinLookup_eq_fast];kernel_rfl
section
variable {prog:Program} {w:World} {A:Around} {E:Value->Shared->Prop} {s:Shared}
theorem tM {x:Addr} {Q:Bool->Shared->Prop} (hT:s.TypeIs (.ref x) "dict") (h:Q false s):wpAny (model prog w) A (Builtin.List.listLengthHint (.ref x)) Q E s:=by
 unfold Builtin.List.listLengthHint
 refine C8 (wpAny_specialOf hT vQ ?_)
 generalize hid:("dict.__len__":String)=id0
 wp_delta
 rw [show splitId id0=some ("dict","__len__") from by subst hid;decide+kernel]
 subst hid
 refine C8 (wpAny_isInstance (T:="dict") (b:=true) hT (by rw [isSubtype_type];kernel_rfl) ?_)
 refine wpAny_ite_split (fun hab=>absurd hab (by decide)) (fun _=>?_)
 refine wpAny_ite_split (fun _=>?_) (fun hab=>absurd (by decide+kernel) hab)
 refine C8 (wpAny_typeOf hT ?_)
 exact Df h
end
end BE
namespace BE
open PySem PySem.Spec PyProof.Rows
section
variable {prog:Program} {w:World} {A:Around} {E:Value->Shared->Prop} {s:Shared} {κ:Type} [DecidableEq κ] {knd:KeyKind prog w κ}
end
end BE
namespace L2
open PySem PySem.Spec PyProof.Rows
section
variable {X:Cx} {tg:Expr}
end
end L2
namespace BE
open PySem PySem.Spec PyProof.Rows
section
variable {prog:Program} {w:World} {A:Around} {E:Value->Shared->Prop} {s:Shared}
theorem sT {it d:Addr} {i ep:Nat} {es:Array DictEntry} {o:Obj} {e:DictEntry} {Q:Option Value->Shared->Prop}
    (hit:s.heap.IsKeyIter it d i es.size ep) (ho:s.heap.get? d=some o) (hd:o.data=.dict es ep) (he:es[i]? =some e)
    (q:∀ h':Heap,h'.IsKeyIter it d (i+1) es.size ep->Heap.SameBut it s.heap h'->Q (some e.key) { s with heap:=h' }):
    wpAny (model prog w) A (pyNext (.ref it)) Q E s:=by
 have hT:s.TypeIs (.ref it) "dict_keyiterator":=hit.typeIs
 obtain ⟨oi,hoi,hci,hdi⟩:=hit
 unfold pyNext
 refine C8 (wpAny_attempt (D1 hT F.slot_dict_keyiterator_next (D8 F.slot_dict_keyiterator_next hT F.entry_dict_keyiterator_next ?_ (F.args_dict_keyiterator_next_1 _))))
 unfold Builtin.«dict_keyiterator.__next__»
 wp_delta
 refine C8 (Df ?_)
 refine C8 ?_
 wp_delta
 refine C8 ?_
 wp_delta
 refine C8 (wpAny_typeNameOfWhole_keyiter hT ?_)
 refine Df ?_
 refine C8 (wpAny_fieldsOf hoi hdi ?_)
 have ow:Builtin.Dict_items.ownsTuple "dict_keyiterator"=false:=by decide
 have hn:(Value.ref d==Value.none)=false:=by simp
 rw [ow]
 simp only [DJ,Es,List.drop_zero]
 show wpAny (model prog w) A.in1 (if (Value.ref d==Value.none)=true then _ else _) _ _ _
 rw [hn]
 simp only [DJ,Es]
 refine C8 (Df ?_)
 refine C8 (wpAny_dictEntries ho hd ?_)
 simp only [bne_self_eq_false,DJ,Es]
 refine C8 (Df ?_)
 refine C8 (wpAny_dictEpoch ho hd ?_)
 simp only [bne_self_eq_false,DJ,Es]
 refine Df ?_
 have hi:¬ ((i:Int)<0):=by omega
 simp only [hi,Es,Dz,he]
 refine C8 ?_
 wp_delta
 refine C8 (wpAny_typeNameOfWhole_keyiter hT ?_)
 refine Df ?_
 rw [ow]
 simp only [DJ,Es]
 refine C8 (wpAny_isOneOf_keyiter hT ?_)
 rw [if_neg (by decide)]
 refine C8 (wpAny_setField hoi hdi (by show 1<4;omega) ?_)
 have hb:=Em s.heap it (Obj.mapFields fun x=>x.setIfInBounds (0+1) (rawInt ((i:Int)+1)))
 have hk:(s.heap.update it (Obj.mapFields fun x=>x.setIfInBounds (0+1) (rawInt ((i:Int)+1)))).IsKeyIter it d (i+1) es.size ep:=
  ⟨_,Heap.get?_update_self _ hoi (Obj.isFreed_of_fields (Obj.data_mapFields hdi _)),(Obj.cls_mapFields _ _).trans hci,(Obj.data_mapFields hdi _).trans rfl⟩
 generalize s.heap.update it (Obj.mapFields fun x=>x.setIfInBounds (0+1) (rawInt ((i:Int)+1)))=h' at*
 refine C8 (Eo ?_)
 wp_delta
 have hT':Shared.TypeIs { s with heap:=h' } (.ref it) "dict_keyiterator":=hk.typeIs (s:={ s with heap:=h' })
 refine C8 (wpAny_isOneOf_keyiter hT' ?_)
 rw [if_pos (by decide)]
 refine Df ?_
 exact Df ⟨_,rfl,Df (q h' hk hb)⟩
theorem vO {it d:Addr} {i ep:Nat} {es:Array DictEntry} {o:Obj} {Q:Option Value->Shared->Prop} (hh:A.handled=none)
    (hit:s.heap.IsKeyIter it d i es.size ep) (ho:s.heap.get? d=some o) (hd:o.data=.dict es ep) (he:es[i]? =none)
    (q:∀ h':Heap,Heap.ExtBut it s.heap h'->Q none { s with heap:=h' }):
    wpAny (model prog w) A (pyNext (.ref it)) Q E s:=by
 have hT:s.TypeIs (.ref it) "dict_keyiterator":=hit.typeIs
 obtain ⟨oi,hoi,hci,hdi⟩:=hit
 unfold pyNext
 refine C8 (wpAny_attempt (D1 hT F.slot_dict_keyiterator_next (D8 F.slot_dict_keyiterator_next hT F.entry_dict_keyiterator_next ?_ (F.args_dict_keyiterator_next_1 _))))
 unfold Builtin.«dict_keyiterator.__next__»
 wp_delta
 refine C8 (Df ?_)
 refine C8 ?_
 wp_delta
 refine C8 ?_
 wp_delta
 refine C8 (wpAny_typeNameOfWhole_keyiter hT ?_)
 refine Df ?_
 refine C8 (wpAny_fieldsOf hoi hdi ?_)
 have ow:Builtin.Dict_items.ownsTuple "dict_keyiterator"=false:=by decide
 have hn:(Value.ref d==Value.none)=false:=by simp
 rw [ow]
 simp only [DJ,Es,List.drop_zero]
 show wpAny (model prog w) A.in1 (if (Value.ref d==Value.none)=true then _ else _) _ _ _
 rw [hn]
 simp only [DJ,Es]
 refine C8 (Df ?_)
 refine C8 (wpAny_dictEntries ho hd ?_)
 simp only [bne_self_eq_false,DJ,Es]
 refine C8 (Df ?_)
 refine C8 (wpAny_dictEpoch ho hd ?_)
 simp only [bne_self_eq_false,DJ,Es]
 refine Df ?_
 have hi:¬ ((i:Int)<0):=by omega
 simp only [hi,Es,Dz,he]
 refine C8 ?_
 wp_delta
 refine C8 (wpAny_typeNameOfWhole_keyiter hT ?_)
 refine Df ?_
 rw [ow]
 simp only [DJ,Es]
 refine C8 (wpAny_setField hoi hdi (by show 0<4;omega) ?_)
 have hb:=(Em s.heap it (Obj.mapFields fun x=>x.setIfInBounds 0 Value.none)).extBut
 generalize s.heap.update it (Obj.mapFields fun x=>x.setIfInBounds 0 Value.none)=h' at*
 refine C8 ?_
 unfold newExc
 refine C8 (Ed ?_)
 refine C8 (wpAny_of_eq rfl ?_)
 refine Ed ?_ (sizeOk_excFields _ _ _ _ _ _ _ _)
 unfold raiseNew
 refine C8 (wpAny_handled ?_)
 rw [show A.in1.handled=none from hh]
 refine wpAny_throw ?_
 refine C8 (wpAny_isInstance ⟨_,Ds _ rfl,rfl⟩ isSubtype_stop ?_)
 exact Df (q _ ((hb.push _).push _))
theorem tH {d:Addr} {ep:Nat} {es:Array DictEntry} {o:Obj} {Q:Value->Shared->Prop} (hs:(d==sysModules)=false) (ho:s.heap.get? d=some o) (hx:o.ExactDict) (hd:o.data=.dict es ep)
    (q:Q (.ref s.heap.objs.size) { s with heap:=s.heap.push { cls:=.type "dict_keyiterator",data:=.fields #[.ref d,.int 0 0,.int es.size 0,.int ep 0] } }):wpAny (model prog w) A (pyIter (.ref d)) Q E s:=by
 have hT:s.TypeIs (.ref d) "dict":=⟨o,ho,hx.1⟩
 refine wpAny_pyIter_slot hT F.slot_dict_iter (D8 F.slot_dict_iter hT F.entry_dict_iter ?_ (F.args_dict_iter_1 _))
 unfold Builtin.«dict.__iter__»
 unfold Builtin.Dict.dictSlotNone
 refine C8 (C8 (wpAny_notOrdered_dict hT ?_))
 refine C8 (Df ?_)
 refine Df ?_
 refine C8 (Df ?_)
 refine C8 ?_
 unfold Builtin.Dict.showsAll
 rw [hs]
 simp only [DJ,Es]
 refine Df ?_
 refine C8 (wpAny_dictEntries ho hd (C8 (wpAny_dictEpoch ho hd (C8 (Ed ?_)))))
 exact Df ⟨_,rfl,"dict_keyiterator",_,⟨_,Ds _ rfl,rfl⟩,F.slot_dict_keyiterator_next.lookup,q⟩
def Ct (h:Heap) (d:Addr) (es:Array DictEntry) (ep:Nat):Prop:=∃ o,h.get? d=some o/\o.ExactDict/\o.data=.dict es ep
theorem pO (hh:A.handled=none) (I d:Addr) (hne:d≠I) (es:Array DictEntry) (ep:Nat):Walks prog w A I [I,d] [I] es.size (fun i v=>∃ e,es[i]? =some e/\v=e.key) fun i h=>h.IsKeyIter I d i es.size ep/\Ct h d es ep where
 sub:=fun b hb=>by simp at hb;simp [hb]
 frame:=fun i h h' st k=>⟨st.1.at fun o e=>k I (by simp) o e,let ⟨o,ho,r⟩:=st.2;⟨o,k d (by simp) o ho,r⟩⟩
 item:=fun i s Q E hi st q=>by
  obtain ⟨o,ho,hx,hd⟩:=st.2
  have he:es[i]? =some es[i]:=De hi
  refine sT st.1 ho hd he fun h' st' sb=>?_
  refine q _ h' s.toks ⟨_,he,rfl⟩ ⟨st',o,(sb.2 d hne).trans ho,hx,hd⟩ fun b o hb e=>(sb.2 b (by simpa using hb)).trans e
 done:=fun s Q E st q=>by
  obtain ⟨o,ho,hx,hd⟩:=st.2
  exact vO hh st.1 ho hd (Array.getElem?_eq_none (Dh _)) fun h' eb=>q h' s.toks fun b o hb e=>eb b o (by simpa using hb) e
 self:=fun i s Q E st q=>wpAny_pyIter_keyiter st.1 q
theorem u7 {d:Addr} {es:Array DictEntry} {ep:Nat} (hs:(d==sysModules)=false):W.KdlSrc prog w "dict" d d es.size (fun i v=>∃ e,es[i]? =some e/\v=e.key) (fun h=>Ct h d es ep) where
 type:=fun s ⟨o,ho,hx,_⟩=>⟨o,ho,hx.1⟩
 there:=fun h ⟨o,ho,_⟩=>⟨Dp ho,Dp ho⟩
 keep:=fun h h' ⟨o,ho,r⟩ k=>⟨o,k d (.inl rfl) o ho,r⟩
 notList:=by decide
 notTuple:=by decide
 hint:=fun A E s Q ⟨o,ho,hx,_⟩ q=>tM ⟨o,ho,hx.1⟩ q
 iter:=fun A s hh ok=>by
  obtain ⟨o,ho,hx,hd⟩:=id ok
  refine ⟨_,_,fun E Q q=>tH hs ho hx hd q,pO hh s.heap.objs.size d (DC (Dp ho)) es ep,⟨_,Ds _ rfl,rfl,rfl⟩,o,Dd _ ho,hx,hd⟩
end
end BE
namespace BE
open PySem PySem.W PySem.Spec PyProof.Rows
def kT:List Int->Int
 | []=>0
 | x::xs=>x*1000^xs.length+kT xs
def RgT (m:Nat) (k:List Int):Prop:=k.length=m/\1<=m/\∀ x∈k,0<=x/\x<1000
theorem ym:∀ {k:List Int},(∀ x∈k,0<=x/\x<1000)->0<=kT k/\kT k<1000^k.length
 | [],_=>⟨DK _,by decide⟩
 | x::xs,h=>by
  have ih:=ym (k:=xs) fun y hy=>h y (Dk _ hy)
  have hx:=h x Dx
  show 0<=x*1000^xs.length+kT xs/\x*1000^xs.length+kT xs<1000^(xs.length+1)
  rw [Int.pow_succ]
  generalize (1000:Int)^xs.length=B at*
  have h0:0<=B:=by omega
  have h1:0<=x*B:=Int.mul_nonneg hx.1 h0
  have h2:x*B<=999*B:=Int.mul_le_mul_of_nonneg_right (by omega) h0
  constructor<;>omega
theorem vW {x y:Int} {xs ys:List Int} (hl:xs.length=ys.length) (hx:∀ z∈xs,0<=z/\z<1000) (hy:∀ z∈ys,0<=z/\z<1000) (h:x<y):kT (x::xs)<kT (y::ys):=by
 have a:=ym hx
 have b:=ym hy
 show x*1000^xs.length+kT xs<y*1000^ys.length+kT ys
 rw [<- hl] at b ⊢
 generalize (1000:Int)^xs.length=B at*
 have h0:0<=B:=by omega
 have h2:(x+1)*B<=y*B:=Int.mul_le_mul_of_nonneg_right (by omega) h0
 rw [Int.add_mul] at h2
 omega
theorem yo {x:Int} {xs ys:List Int} (hl:xs.length=ys.length):decide (kT (x::xs)<kT (x::ys))=decide (kT xs<kT ys):=by
 show decide (x*1000^xs.length+kT xs<x*1000^ys.length+kT ys)=_
 rw [hl]
 generalize x*(1000:Int)^ys.length=B
 exact decide_eq_decide.mpr ⟨fun h=>by omega,fun h=>by omega⟩
def IV:List Value->List Int->Prop
 | [],[]=>True
 | u::us,x::xs=>(∃ t,u=.int x t)/\IV us xs
 | _,_=>False
theorem IV.len:∀ {us:List Value} {xs:List Int},IV us xs->us.length=xs.length
 | [],[],_=>rfl
 | u::us,x::xs,h=>by rw [DF,DF,IV.len h.2]
 | [],_::_,h=>h.elim
 | _::_,[],h=>h.elim
def TT (h:Heap) (vs:List Value) (ps:List (List Int)):Prop:=vs.length=ps.length/\∀ (i:Nat) (p:List Int),ps[i]? =some p->∃ q o us n,vs[i]? =some (.ref q)/\h.get? q=some o/\o.cls=.type "tuple"/\o.data=.seq us n/\IV us.toList p
theorem TT.mv {h h':Heap} {vs:List Value} {ps:List (List Int)} (x:TT h vs ps) (e:∀ q o,h.get? q=some o->o.cls=.type "tuple"->h'.get? q=some o):TT h' vs ps:=⟨x.1,fun i p hp=>by
 obtain ⟨q,o,us,n,h1,h2,h3,h4⟩:=x.2 i p hp
 exact ⟨q,o,us,n,h1,e q o h2 h3,h3,h4⟩⟩
section
variable {prog:Program} {w:World} {A:Around} {E:Value->Shared->Prop} {s:Shared}
end
end BE
namespace L2
open PySem PySem.SeqAt PySem.Spec PyProof.Rows
def gs (H:Hp) (ws:List V) (ks:List (List Int)):Prop:=ws.length=ks.length/\∀ (i:Nat) (k:List Int),ks[i]? =some k->∃ q,ws[i]? =some (.ref q)/\H q=some (.tup (k.map V.int))
def leT (p q:List Int):Prop:=BE.kT p<=BE.kT q
theorem yq:∀ {k:List Int} {us:List Value},ba (k.map V.int) us->BE.IV us k
 | [],us,r=>by cases r;exact trivial
 | x::k,us,r=>by
  cases r with
  | cons h t=>exact ⟨h,yq t⟩
section
variable {X:Cx}
def zP:List V->Hp->VK->Prop:=fun xs H Q=>∃ (a:Addr) (kvs:List (List Key×V)) (m:Nat) (ks:List (List Int)),xs=[.ref a]/\H a=some (.dT kvs)/\kvs.map (·.1)=ks.map (fun k=>k.map Sum.inl)/\(∀ k∈ks,BE.RgT m k)/\ks.length<64/\
 ∀ (l:Addr) (ws':List V) (ks':List (List Int)),H l=none->ks'.Perm ks->ks'.Pairwise leT->gs H ws' ks'->Q (.ref l) (upd H l (.lst ws'))
theorem BV {H:Hp} {kvs:List (List Key×V)} {xs:List (List Key×Addr×Value)} (r:KT H kvs xs):∀ {i:Nat} {kv:List Key×V},kvs[i]? =some kv->∃ x,xs[i]? =some x/\H x.2.1=some (.tup (kv.1.map kV)):=by
 induction r with
 | nil=>intro i kv h;simp at h
 | @cons p q ps qs h t ih=>
  intro i kv hk
  cases i with
  | zero=>
   have e:p=kv:=by simpa using hk
   subst e
   exact ⟨q,rfl,h.2.1⟩
  | succ n=>exact ih (by simpa using hk)
theorem An {H:Hp} {kvs:List (List Key×V)} {xs:List (List Key×Addr×Value)} (r:KT H kvs xs):kvs.length=xs.length:=by
 induction r with
 | nil=>rfl
 | cons _ _ ih=>rw [DF,DF,ih]
end
end L2
namespace BE
open PySem PySem.W PySem.Spec PyProof.Rows
theorem wP:∀ {us:List Value} {p:List Int},IV us p->us.map numOf=p
 | [],[],_=>rfl
 | u::us,x::p,h=>by
  obtain ⟨t,rfl⟩:=h.1
  rw [DS,wP h.2];rfl
 | [],_::_,h=>h.elim
 | _::_,[],h=>h.elim
section
variable {prog:Program} {w:World} {A:Around} {E:Value->Shared->Prop} {s:Shared}
end
end BE
namespace BE
open PySem PyProof.Rows
def dh:Nat->List (List Keyed)->List (Nat×Nat)
 | _,[]=>[]
 | b,X::Xs=>(b,X.length)::dh (b+X.length) Xs
theorem dL:∀ (Xs Ys:List (List Keyed)) (b:Nat),dh b (Xs++Ys)=dh b Xs++dh (b+Xs.flatten.length) Ys
 | [],Ys,b=>by simp [dh]
 | X::Xs,Ys,b=>by
  show (b,X.length)::dh (b+X.length) (Xs++Ys)=_
  rw [dL Xs Ys]
  show _=(b,X.length)::(dh (b+X.length) Xs++_)
  rw [List.flatten_cons,Dm,Nat.add_assoc]
theorem cO:∀ (Xs:List (List Keyed)) (b:Nat),(dh b Xs).length=Xs.length
 | [],b=>rfl
 | X::Xs,b=>by show (dh (b+X.length) Xs).length+1=_;rw [cO Xs];rfl
def g2 (p:Nat×Nat×Nat):Nat×Nat:=(p.1,p.2.1)
theorem Cp {α:Type} {l:List α} {i:Nat} (h:i+1<l.length):l=l.take i++l[i]::l[i+1]::l.drop (i+2):=by
 rw [<- List.drop_eq_getElem_cons (i:=i+1) h,<- List.drop_eq_getElem_cons (by omega:i<l.length),Ek]
theorem qf {l:List (Nat×Nat×Nat)} {f:Nat×Nat×Nat->Nat×Nat×Nat} (h:∀ x,g2 (f x)=g2 x) (i:Nat):(l.modify i f).map g2=l.map g2:=by
 apply Er
 intro j
 rw [Di,Di,List.getElem?_modify]
 cases l[j]? with
 | none=>rfl
 | some x=>
  show some (g2 (if i=j then f x else x))=some (g2 x)
  split
  . rw [h]
  . rfl
structure gS (κ:SortKind) (kf:Keyed->Int) (a₀:Array Keyed) (S:List Keyed) (st:SortSt):Prop where
 kind:kindOf st=κ
 failed:failedOf st=none
 perm:(arrOf st).Perm a₀
 rn:∃ Xs:List (List Keyed),(arrOf st).toList=Xs.flatten++S/\(pendingOf st).toList.map g2=dh 0 Xs/\∀ X∈Xs,0<X.length/\UpK kf X
section
variable {M:Model} {A:Around} {E:Value->Shared->Prop} {s:Shared} {kf:Keyed->Int} {κ:SortKind} {D:Keyed->Prop} {a₀:Array Keyed}
theorem gS.size {S:List Keyed} {st:SortSt} (r:gS κ kf a₀ S st):(arrOf st).size=a₀.size:=r.perm.size_eq
theorem o5:∀ {Xs:List (List Keyed)},(∀ X∈Xs,0<X.length)->Xs.length<=Xs.flatten.length
 | [],_=>DD _
 | X::Xs,h=>by
  have:=o5 (Xs:=Xs) fun Y hY=>h Y (Dk _ hY)
  have:=h X Dx
  rw [List.flatten_cons,Dm,DF]
  omega
theorem gS.few {S:List Keyed} {st:SortSt} (r:gS κ kf a₀ S st):(pendingOf st).size<=a₀.size:=by
 obtain ⟨Xs,e,p,h⟩:=r.rn
 have:=o5 fun X hX=>(h X hX).1
 have l1:(pendingOf st).size=Xs.length:=by
  have:=Ee List.length p
  rw [Da,Dc,cO] at this
  exact this
 have l2:(arrOf st).size=Xs.flatten.length+S.length:=by rw [<- Dc,e,Dm]
 have:=r.size
 omega
theorem i0 {i:Nat} {S:List Keyed} {st:SortSt} {Q:Bool->SortSt->Prop} (L:gT M A E s κ kf D) (hD:∀ x∈a₀.toList,D x) (r:gS κ kf a₀ S st) (hi:i+1<(pendingOf st).size)
    (h:∀ st',gS κ kf a₀ S st'->(pendingOf st').size+1=(pendingOf st).size->Q true st'):wpS M A E s (mergeAt' i) Q st:=by
 obtain ⟨Xs,e,p,hu⟩:=r.rn
 have pl:(pendingOf st).toList.length=Xs.length:=by
  have:=Ee List.length p
  rw [Da,cO] at this
  exact this
 have hi':i+1<(pendingOf st).toList.length:=by rw [Dc];exact hi
 have cp:=Cp hi'
 have cX:=Cp (show i+1<Xs.length by omega)
 have u1:=hu _ (DX (show i<Xs.length by omega))
 have u2:=hu _ (DX (show i+1<Xs.length by omega))
 have uT:∀ X∈Xs.take i,0<X.length/\UpK kf X:=fun X hX=>hu X (Eh hX)
 have uD:∀ X∈Xs.drop (i+2),0<X.length/\UpK kf X:=fun X hX=>hu X (Ey hX)
 have pI:(pendingOf st)[i]? =some (pendingOf st).toList[i]:=by rw [<- Dq,C7]
 have pJ:(pendingOf st)[i+1]? =some (pendingOf st).toList[i+1]:=by rw [<- Dq,C7]
 have lT:((pendingOf st).toList.take i).length=(Xs.take i).length:=by rw [Dv,Dv,pl]
 generalize Xs.take i=X1 at*
 generalize Xs.drop (i+2)=X2 at*
 generalize Xs[i]'(by omega)=X at*
 generalize Xs[i+1]'(by omega)=Y at*
 have lti:((pendingOf st).toList.take i).length=i:=by rw [Dv];omega
 generalize hp1:(pendingOf st).toList.take i=p1 at*
 generalize hp2:(pendingOf st).toList.drop (i+2)=p2 at*
 generalize (pendingOf st).toList[i]=pa at*
 generalize (pendingOf st).toList[i+1]=pb at*
 rw [cX] at e p
 rw [cp,DR,dL] at p
 have pq:=List.append_inj p (by rw [Da,cO,lT])
 have q2:g2 pa::g2 pb::p2.map g2=(0+X1.flatten.length,X.length)::(0+X1.flatten.length+X.length,Y.length)::dh (0+X1.flatten.length+X.length+Y.length) X2:=pq.2
 obtain ⟨sa,na,pwa⟩:=pa
 obtain ⟨sb,nb,pwb⟩:=pb
 injection q2 with ea q3
 injection q3 with eb ec
 injection ea with ea1 ea2
 injection eb with eb1 eb2
 have ar:(arrOf st).toList=X1.flatten++(X++Y)++(X2.flatten++S):=by rw [e];simp
 have hDs:∀ x∈(arrOf st).toList,D x:=fun x hx=>hD x ((Ez.mp r.perm).mem_iff.mp hx)
 refine mL L r.kind r.failed hDs pI pJ ar (by dsimp at ea1;omega) ea2.symm eb2.symm (by dsimp at ea1 ea2 eb1;omega) (by dsimp at ea2;have:=u1.1;omega) (by dsimp at eb2;have:=u2.1;omega) u1.2 u2.2 fun st' R k1 k2 k3 k4 k5=>?_
 have k3':(pendingOf st').toList=p1++(sa,na+nb,pwa)::p2:=by
  rw [k3,Array.toList_eraseIdxIfInBounds,Array.toList_setIfInBounds,cp]
  rw [List.set_append_right _ _ (by omega),List.eraseIdx_append_of_length_le (by omega),show i-p1.length=0 by omega,show i+1-p1.length=1 by omega]
  rfl
 have lR:R.length=X.length+Y.length:=by rw [k5.1.length_eq,Dm]
 refine h st' ⟨k1,k2,?_,X1++R::X2,?_,?_,?_⟩ ?_
 . refine Array.Perm.trans ?_ r.perm
   refine Ez.mpr ?_
   rw [k4,ar]
   exact (k5.1.append_left _).append_right _
 . rw [k4];simp
 . rw [k3',DR,dL,pq.1]
   congr 1
   show (sa,na+nb)::p2.map g2=(0+X1.flatten.length,R.length)::dh (0+X1.flatten.length+R.length) X2
   rw [ec,lR]
   dsimp at ea1 ea2 eb2
   rw [ea1,ea2,eb2,Nat.add_assoc (0+X1.flatten.length)]
 . intro Z hZ
   rcases DN.mp hZ with hZ | hZ
   . exact uT Z hZ
   . rcases DI.mp hZ with rfl | hZ
     . exact ⟨by have:=u1.1;omega,k5.2⟩
     . exact uD Z hZ
 . have l1:(pendingOf st').size=p1.length+(p2.length+1):=by rw [<- Dc,k3'];simp
   have l2:(pendingOf st).size=p1.length+(p2.length+1+1):=by rw [<- Dc,cp];simp
   omega
end
end BE
namespace BE
open PySem PyProof.Rows
def mgS (size pw:Nat):StateT SortSt Sem (Option Unit×Unit):=
 forIn [0:size] ((none,()):Option Unit×Unit) fun _ _=>do
  let t <- get
  match if (pendingOf t).size>1 then (pendingOf t)[(pendingOf t).size-2]? else none with
  | some (_,_,older)=>
   if older<=pw then pure (ForInStep.done (none,()))
   else do
    let b <- mergeAt' ((pendingOf t).size-2)
    if (!b)=true then pure (ForInStep.done (some (),())) else pure (ForInStep.yield (none,()))
  | _=>pure (ForInStep.done (none,()))
def tlR (size lo n:Nat):StateT SortSt Sem (ForInStep (Option Unit×Nat)):=do
 let t <- get
 match (pendingOf t).back? with
 | some (s1,n1,_)=>do
  let c <- mgS size (power' size (2*s1+n1) (2*s1+n1+n1+n) size)
  match c.1 with
  | some r=>pure (ForInStep.done (some r,lo))
  | none=>do
   modify fun s=>setPending s ((pendingOf s).modify ((pendingOf s).size-1) fun x=>(x.1,x.2.1,power' size (2*s1+n1) (2*s1+n1+n1+n) size))
   modify fun s=>setPending s ((pendingOf s).push (lo,n,0))
   pure (ForInStep.yield (none,lo+n))
 | _=>do
  modify fun s=>setPending s ((pendingOf s).push (lo,n,0))
  pure (ForInStep.yield (none,lo+n))
section
variable {M:Model} {A:Around} {E:Value->Shared->Prop} {s:Shared} {kf:Keyed->Int} {κ:SortKind} {D:Keyed->Prop} {a₀:Array Keyed}
theorem xi {size pw:Nat} {S:List Keyed} {st:SortSt} {Q:Option Unit×Unit->SortSt->Prop} (L:gT M A E s κ kf D) (hD:∀ x∈a₀.toList,D x) (r:gS κ kf a₀ S st)
    (h:∀ st',gS κ kf a₀ S st'->Q (none,()) st'):wpS M A E s (mgS size pw) Q st:=by
 unfold mgS
 refine El (I:=fun _ c st'=>c=(none,())/\gS κ kf a₀ S st') ?step (fun c st' hI=>by rw [hI.1];exact h st' hI.2) ⟨rfl,r⟩
 rintro x c st' _ _ ⟨rfl,r'⟩
 refine Dr (wpS_get ?_)
 split
 . rename_i v hv
   have g:(pendingOf st').size>1:=by
    apply DB
    intro z
    rw [if_neg z] at hv
    cases hv
   split
   . exact Dy (h st' r')
   . refine Dr (i0 L hD r' (by omega) fun st2 r2 _=>?_)
     rw [if_neg (by decide)]
     exact Dy ⟨rfl,r2⟩
 . exact Dy (h st' r')
theorem gS.push {lo n:Nat} {X S:List Keyed} {st:SortSt} (r:gS κ kf a₀ (X++S) st) (hX:X.length=n) (h0:0<n) (u:UpK kf X) (hlo:lo+n+S.length=a₀.size):gS κ kf a₀ S (setPending st ((pendingOf st).push (lo,n,0))):=by
 obtain ⟨Xs,e,p,hu⟩:=r.rn
 refine ⟨r.kind,r.failed,r.perm,Xs++[X],by show (arrOf st).toList=_;rw [e];simp,?_,fun Y hY=>?_⟩
 . show ((pendingOf st).push (lo,n,0)).toList.map g2=_
   have lz:a₀.size=Xs.flatten.length+(n+S.length):=by rw [<- r.size,<- Dc,e,Dm,Dm,hX]
   rw [Array.toList_push,DR,p,dL]
   congr 1
   show [(lo,n)]=[(0+Xs.flatten.length,X.length)]
   rw [hX,show lo=0+Xs.flatten.length by omega]
 . rcases DN.mp hY with hY | hY
   . exact hu Y hY
   . rw [D5.mp hY]
     exact ⟨by omega,u⟩
theorem qV {size lo n:Nat} {X S:List Keyed} {st:SortSt} {Q:ForInStep (Option Unit×Nat)->SortSt->Prop} (L:gT M A E s κ kf D) (hD:∀ x∈a₀.toList,D x) (r:gS κ kf a₀ (X++S) st) (hX:X.length=n) (h0:0<n) (u:UpK kf X) (hlo:lo+n+S.length=a₀.size)
    (h:∀ st',gS κ kf a₀ S st'->Q (.yield (none,lo+n)) st'):wpS M A E s (tlR size lo n) Q st:=by
 unfold tlR
 refine Dr (wpS_get ?_)
 split
 . refine Dr (xi L hD r fun st2 r2=>?_)
   dsimp only
   refine Dr (wpS_modify (Dr (wpS_modify (Dy (h _ ?_)))))
   refine gS.push (st:=setPending st2 _) ?_ hX h0 u hlo
   obtain ⟨Xs,e,p,hu⟩:=r2.rn
   refine ⟨r2.kind,r2.failed,r2.perm,Xs,e,?_,hu⟩
   show (Array.modify _ _ _).toList.map g2=_
   rw [Array.toList_modify]
   refine Eq.trans (qf ?_ _) p
   intro _;rfl
 . exact Dr (wpS_modify (Dy (h _ (r.push hX h0 u hlo))))
theorem A8 {xs:Array Keyed} {lo n:Nat} (h:qR kf xs lo n) (hn:lo+n<=xs.size):UpK kf ((xs.toList.drop lo).take n):=by
 have at_:∀ i,i<n->∀ x,((xs.toList.drop lo).take n)[i]? =some x->kAt kf xs (lo+i)=kf x:=fun i hi x hx=>by
  rw [D9 hi,List.getElem?_drop,Dq] at hx
  unfold kAt
  rw [hx]
 refine EC.mpr fun i j hi hj hij=>?_
 have l:((xs.toList.drop lo).take n).length<=n:=List.length_take_le _ _
 rw [<- at_ i (by omega) _ (C7 hi),<- at_ j (by omega) _ (C7 hj)]
 exact h i j (by omega) (by omega)
theorem Aw {a:Nat} {c:Prop} [Decidable c] (h:1<a):(if c then a-2-1 else a-2)+1<a:=by split<;>omega
theorem wB {α:Type} {m m':StateT SortSt Sem α} {Q:α->SortSt->Prop} {st:SortSt} (e:m=m') (h:wpS M A E s m' Q st):wpS M A E s m Q st:=e ▸ h
theorem gS.found {lo n hi:Nat} {S:List Keyed} {st st':SortSt} (r:gS κ kf a₀ S st) (b:SB st lo hi st') (hlo:lo+S.length=a₀.size) (hn:n<=S.length) (hs:qR kf (arrOf st') lo n):
    ∃ X S',X.length=n/\UpK kf X/\S'.length+n=S.length/\gS κ kf a₀ (X++S') st':=by
 obtain ⟨Xs,e,p,hu⟩:=r.rn
 have sz:=b.size
 have lz:a₀.size=Xs.flatten.length+S.length:=by rw [<- r.size,<- Dc,e,Dm]
 have s0:=r.size
 have tk:(arrOf st').toList.take lo=Xs.flatten:=by
  have:(arrOf st').toList.take lo=(arrOf st).toList.take lo:=by
   apply Er
   intro j
   rw [List.getElem?_take,List.getElem?_take]
   split
   . rw [Dq,Dq]
     exact b.out j (.inl (by assumption))
   . rfl
  rw [this,e,show lo=Xs.flatten.length by omega,List.take_left]
 refine ⟨((arrOf st').toList.drop lo).take n,((arrOf st').toList.drop lo).drop n,?_,A8 hs (by omega),?_,b.kind.trans r.kind,b.failed.trans r.failed,b.perm.trans r.perm,Xs,?_,by rw [b.pend];exact p,hu⟩
 . rw [Dv,DU,Dc];omega
 . rw [DU,DU,Dc];omega
 . rw [Ek,<- tk,Ek]
theorem mI {st:SortSt} {Q:Unit->SortSt->Prop} (L:gT M A E s κ kf D) (hD:∀ x∈(arrOf st).toList,D x) (hκ:kindOf st=κ) (hf:failedOf st=none) (hp:pendingOf st=#[])
    (h:∀ st',(arrOf st').Perm (arrOf st)->failedOf st'=none->UpK kf (arrOf st').toList->Q () st'):wpS M A E s sortRuns' Q st:=by
 have R0:gS κ kf (arrOf st) (arrOf st).toList st:=⟨hκ,hf,Array.Perm.refl _,[],rfl,by rw [hp];rfl,fun X hX=>by cases hX⟩
 have inD:∀ {S:List Keyed} {st':SortSt},gS κ kf (arrOf st) S st'->∀ x∈(arrOf st').toList,D x:=fun r x hx=>hD x ((Ez.mp r.perm).mem_iff.mp hx)
 rw [sortRuns'_eq]
 refine Dr (wpS_get ?_)
 dsimp only
 generalize hsz:(arrOf st).size=size at*
 generalize minRun' size size 0=mr
 refine Dr (wpS_mono (El (I:=fun x c st'=>∃ lo S,c=(none,lo)/\lo+S.length=size/\(lo=size\/x<=lo)/\gS κ kf (arrOf st) S st') (Q:=fun c st'=>c=(none,size)/\gS κ kf (arrOf st) [] st') ?step ?fin ⟨0,(arrOf st).toList,rfl,by rw [Dc];omega,.inr (Dh _),R0⟩) ?post)
 case fin=>
  rintro c st' ⟨lo,S,rfl,hS,hx,r⟩
  have e:lo=size:=by omega
  subst e
  have:S=[]:=List.eq_nil_of_length_eq_zero (by omega)
  subst this
  exact ⟨rfl,r⟩
 case step=>
  rintro x c st' _ hx ⟨lo,S,rfl,hS,hxl,r⟩
  dsimp only
  by_cases hge:lo>=size
  . rw [if_pos hge]
    have e:lo=size:=by omega
    subst e
    have:S=[]:=List.eq_nil_of_length_eq_zero (by omega)
    subst this
    exact Dy ⟨rfl,r⟩
  rw [if_neg hge]
  have rs:=r.size
  refine Dr (jt L (inD r) r.kind (by omega) (by omega) (SB.refl st' lo (lo+(size-lo))) fun m st2 b2 m1 m2 a2=>?_)
  dsimp only
  by_cases hlt:m<mr
  . rw [if_pos hlt]
    refine Dr (wpS_lift (wpAny_rule ⟨rfl,?_⟩))
    refine Dr (gX (st₀:=st2) L (fun x hx=>inD r x ((Ez.mp b2.perm).mem_iff.mp hx)) (b2.kind.trans r.kind) (by rw [b2.size];omega) (by omega) (SB.refl st2 lo _) a2 fun st3 b3 a3=>?_)
    rw [if_neg (by decide)]
    have b4:SB st' lo (lo+(size-lo)) st3:=⟨b3.perm.trans b2.perm,b3.kind.trans b2.kind,b3.failed.trans b2.failed,b3.pend.trans b2.pend,fun j hj=>(b3.out j (by omega)).trans (b2.out j hj)⟩
    obtain ⟨X,S',lX,uX,lS,r3⟩:=r.found b4 (by omega) (by omega) a3
    refine wB (m':=tlR size lo (min (size-lo) mr)) ?_ ?_
    . unfold tlR mgS
      congr 1
      funext t
      cases (pendingOf t).back? with
      | none=>rfl
      | some v=>
       obtain ⟨s1,n1,p⟩:=v
       dsimp only
       congr 1
       funext c
       obtain ⟨r,u⟩:=c
       cases r<;>rfl
    exact qV L hD r3 lX (by omega) uX (by omega) fun st5 r5=>⟨_,S',rfl,by omega,by omega,r5⟩
  . rw [if_neg hlt]
    obtain ⟨X,S',lX,uX,lS,r3⟩:=r.found b2 (by omega) (by omega) a2
    refine wB (m':=tlR size lo m) ?_ ?_
    . unfold tlR mgS
      congr 1
      funext t
      cases (pendingOf t).back? with
      | none=>rfl
      | some v=>
       obtain ⟨s1,n1,p⟩:=v
       dsimp only
       congr 1
       funext c
       obtain ⟨r,u⟩:=c
       cases r<;>rfl
    exact qV L hD r3 lX (by omega) uX (by omega) fun st5 r5=>⟨_,S',rfl,by omega,by omega,r5⟩
 case post=>
  rintro c st' ⟨rfl,r⟩
  dsimp only
  refine Dr (wpS_mono (El (I:=fun x c st2=>c=(none,())/\gS κ kf (arrOf st) [] st2/\(pendingOf st2).size+x<=size) (Q:=fun c st2=>c=(none,())/\gS κ kf (arrOf st) [] st2/\(pendingOf st2).size<=1) ?_ (fun c st2 hI=>⟨hI.1,hI.2.1,by have:=hI.2.2;omega⟩) ⟨rfl,r,by have:=r.few;omega⟩) ?_)
  . rintro x c st2 _ hx ⟨rfl,r2,hl⟩
    refine Dr (wpS_get ?_)
    by_cases h1:(pendingOf st2).size<=1
    . rw [if_pos h1]
      exact Dy ⟨rfl,r2,h1⟩
    rw [if_neg h1]
    refine Dr (i0 L hD r2 (Aw (by omega)) fun st3 r3 e3=>?_)
    rw [if_neg (by decide)]
    exact Dy ⟨rfl,r3,by omega⟩
  . rintro c st2 ⟨rfl,r2,hl⟩
    dsimp only
    refine Dy (h st2 r2.perm r2.failed ?_)
    obtain ⟨Xs,e,p,hu⟩:=r2.rn
    have lX:Xs.length<=1:=by
     have:=Ee List.length p
     rw [Da,Dc,cO] at this
     omega
    rw [e,D7]
    match Xs,lX,hu with
    | [],_,_=>exact List.Pairwise.nil
    | [X],_,hu=>rw [List.flatten_cons,List.flatten_nil,D7];exact (hu X Dx).2
    | _::_::_,l,_=>simp at l
end
end BE
namespace BE
open PySem PySem.SetTable
def Ris (xs:Array Nat):Prop:=∀ i j (hi:i<xs.size) (hj:j<xs.size),i<j->xs[i]<xs[j]
theorem ky {xs:Array Nat} (hr:Ris xs) (j:Nat):∀ (f lo hi:Nat),hi-lo<=f->lo<=hi->hi<=xs.size->(∀ i (h:i<xs.size),i<lo->xs[i]<j)->(∀ i (h:i<xs.size),hi<=i->j<=xs[i])->
    below.go xs j f lo hi<=xs.size/\(∀ i (h:i<xs.size),i<below.go xs j f lo hi->xs[i]<j)/\(∀ i (h:i<xs.size),below.go xs j f lo hi<=i->j<=xs[i])
 | 0,lo,hi,hf,hl,hz,h1,h2=>by
  have:lo=hi:=by omega
  subst this
  exact ⟨hz,h1,h2⟩
 | f+1,lo,hi,hf,hl,hz,h1,h2=>by
  unfold below.go
  by_cases c:lo<hi
  . rw [if_pos c]
    have hm:(lo+hi) / 2<xs.size:=by omega
    have eg:xs.getD ((lo+hi) / 2) j=xs[(lo+hi) / 2]:=by rw [Ei,De hm];rfl
    dsimp only
    rw [eg]
    by_cases d:xs[(lo+hi) / 2]<j
    . rw [if_pos d]
      refine ky hr j f _ _ (by omega) (by omega) hz (fun i h hi'=>?_) h2
      rcases Nat.lt_or_ge i ((lo+hi) / 2) with e | e
      . exact Nat.lt_trans (hr i _ h hm e) d
      . have:i=(lo+hi) / 2:=by omega
        subst this;exact d
    . rw [if_neg d]
      refine ky hr j f _ _ (by omega) (by omega) (by omega) h1 fun i h hi'=>?_
      rcases Nat.lt_or_ge ((lo+hi) / 2) i with e | e
      . have:=hr _ i hm h e
        omega
      . have:i=(lo+hi) / 2:=by omega
        subst this;omega
  . rw [if_neg c]
    have:lo=hi:=by omega
    subst this
    exact ⟨hz,h1,h2⟩
theorem ku {xs:Array Nat} (hr:Ris xs) (j:Nat):below xs j<=xs.size/\(∀ i (h:i<xs.size),i<below xs j->xs[i]<j)/\(∀ i (h:i<xs.size),below xs j<=i->j<=xs[i]):=
 ky hr j xs.size 0 xs.size (by omega) (DD _) (Dh _) (fun i h z=>absurd z (Nat.not_lt_zero _)) fun i h z=>absurd h (by omega)
theorem pC {xs:Array Nat} (hr:Ris xs) {i:Nat} (hi:i<xs.size):below xs xs[i]=i:=by
 obtain ⟨h0,h1,h2⟩:=ku hr xs[i]
 rcases Nat.lt_trichotomy (below xs xs[i]) i with h | h | h
 . have a:=h2 (below xs xs[i]) (by omega) (Dh _)
   have b:=hr _ i (by omega) hi h
   omega
 . exact h
 . have:=h1 i hi h
   omega
theorem fB {xs:Array Nat} (hr:Ris xs) (j:Nat):xs[below xs j]? =some j ↔ j∈xs.toList:=by
 constructor
 . intro h
   exact Dj (by rw [Dq];exact h)
 . intro h
   obtain ⟨i,hi,e⟩:=DG.mp h
   have hi':i<xs.size:=by rw [Dc] at hi;exact hi
   have e':xs[i]=j:=by rw [<- e,Array.getElem_toList]
   rw [<- e',pC hr hi',De hi']
def adv (M:Nat) (p:Probe):Probe:=if p.more>0 then { p with j:=p.j+1,more:=p.more-1 } else { p with j:=(leap M p.i p.perturb).1,more:=runEnd M (leap M p.i p.perturb).1-(leap M p.i p.perturb).1,i:=(leap M p.i p.perturb).1,perturb:=(leap M p.i p.perturb).2 }
theorem jq (t:SetTable) (p:Probe):t.advance p=adv t.mask p:=by
 unfold SetTable.advance adv
 split<;>rfl
def start (M:Nat) (h:Int):Probe:={ j:=bits h%(M+1),more:=runEnd M (bits h%(M+1))-bits h%(M+1),i:=bits h%(M+1),perturb:=bits h,dummy:=none }
theorem u3 (t:SetTable) (h:Int):t.probeStart h=start t.mask h:=rfl
def aU (M:Nat):Nat->Probe->Probe
 | 0,p=>p
 | n+1,p=>aU M n (adv M p)
theorem i5 (M:Nat):∀ (n:Nat) (p:Probe),aU M (n+1) p=adv M (aU M n p)
 | 0,p=>rfl
 | n+1,p=>i5 M n (adv M p)
theorem cN (M:Nat):∀ (a b:Nat) (p:Probe),aU M (a+b) p=aU M b (aU M a p)
 | 0,b,p=>by rw [Nat.zero_add];rfl
 | a+1,b,p=>by rw [show a+1+b=(a+b)+1 by omega];exact cN M a b (adv M p)
def js (M:Nat) (h:Int) (n:Nat):Nat:=(aU M n (start M h)).j
structure Hd (M:Nat) (p:Probe) (i q:Nat):Prop where
 j:p.j=i
 i_:p.i=i
 pe:p.perturb=q
 mo:p.more=runEnd M i-i
theorem yd (M i:Nat):runEnd M i-i<=9:=by unfold runEnd;split<;>omega
theorem jH (M:Nat):∀ (k:Nat) (p:Probe),p.more=k->Hd M (aU M (k+1) p) (leap M p.i p.perturb).1 (leap M p.i p.perturb).2
 | 0,p,h=>by
  show Hd M (adv M p) _ _
  unfold adv
  rw [if_neg (by omega)]
  exact ⟨rfl,rfl,rfl,rfl⟩
 | k+1,p,h=>by
  show Hd M (aU M (k+1) (adv M p)) _ _
  have e:adv M p={ p with j:=p.j+1,more:=p.more-1 }:=by unfold adv;rw [if_pos (by omega)]
  have:=jH M k (adv M p) (by rw [e];show p.more-1=k;omega)
  rw [e] at this ⊢
  exact this
def hdI (M:Nat) (h:Int):Nat->Nat×Nat
 | 0=>(bits h%(M+1),bits h)
 | r+1=>leap M (hdI M h r).1 (hdI M h r).2
theorem tP (M:Nat) (h:Int):∀ r:Nat,∃ n,n<=10*r/\Hd M (aU M n (start M h)) (hdI M h r).1 (hdI M h r).2
 | 0=>⟨0,Dh _,rfl,rfl,rfl,rfl⟩
 | r+1=>by
  obtain ⟨n,hn,hd⟩:=tP M h r
  have a:=jH M _ (aU M n (start M h)) rfl
  have ml:=yd M (hdI M h r).1
  refine ⟨n+((aU M n (start M h)).more+1),by rw [hd.mo];omega,?_⟩
  rw [cN]
  rw [hd.i_,hd.pe] at a
  exact a
theorem sD (M:Nat) (h:Int):∀ r:Nat,(hdI M h r).2=bits h / 32^r
 | 0=>by show bits h=_;rw [Nat.pow_zero,Nat.div_one]
 | r+1=>by
  show (hdI M h r).2 / 32=_
  rw [sD M h r,Nat.div_div_eq_div_mul,Nat.pow_succ]
theorem yQ (h:Int):bits h<2^64:=by
 unfold bits
 have a:=Int.emod_nonneg h (show (2^64:Int)≠0 by decide)
 have b:=Int.emod_lt_of_pos h (show (0:Int)<2^64 by decide)
 omega
theorem sC (M:Nat) (h:Int) {r:Nat} (hr:13<=r):(hdI M h r).2=0:=by
 rw [sD]
 refine Nat.div_eq_of_lt (Do (yQ h) ?_)
 have:32^13<=32^r:=Nat.pow_le_pow_right (by decide) hr
 exact DP (by decide) this
def lcg (m i:Nat):Nat:=(i*5+1)%m
def orb (m:Nat):Nat->Nat->Nat
 | 0,i=>i
 | n+1,i=>orb m n (lcg m i)
theorem oM (m:Nat):∀ (n i:Nat),orb m (n+1) i=lcg m (orb m n i)
 | 0,i=>rfl
 | n+1,i=>oM m n (lcg m i)
theorem jP (m:Nat):∀ (a b i:Nat),orb m (a+b) i=orb m b (orb m a i)
 | 0,b,i=>by rw [Nat.zero_add];rfl
 | a+1,b,i=>by rw [show a+1+b=(a+b)+1 by omega];exact jP m a b (lcg m i)
def pK (m:Nat):Prop:=orb m m 0=0/\∀ j,j<m->∃ n,n<m/\orb m n 0=j
def zd (m:Nat):Nat->Nat->List Nat
 | 0,_=>[]
 | n+1,i=>i::zd m n (lcg m i)
theorem oN (m:Nat):∀ (n i k:Nat),k<n->(zd m n i)[k]? =some (orb m k i)
 | 0,_,_,h=>absurd h (Nat.not_lt_zero _)
 | n+1,i,0,_=>rfl
 | n+1,i,k+1,h=>oN m n (lcg m i) k (by omega)
theorem j8 {m:Nat} (h0:orb m m 0=0) (h1:(List.range m).all (fun j=>(zd m m 0).contains j)=true):pK m:=by
 refine ⟨h0,fun j hj=>?_⟩
 have a:=List.all_eq_true.mp h1 j (DQ.mpr hj)
 rw [List.contains_iff_mem] at a
 obtain ⟨k,hk,e⟩:=DG.mp a
 have hl:(zd m m 0).length=m:=by
  have:∀ n i,(zd m n i).length=n:=by
   intro n
   induction n with
   | zero=>intro i;rfl
   | succ n ih=>intro i;show (zd m n _).length+1=_;rw [ih]
  exact this m 0
 have:=oN m m 0 k (by omega)
 rw [C7 hk,e] at this
 exact ⟨k,by omega,(Dg this).symm⟩
theorem pK.from {m:Nat} (f:pK m) {i j:Nat} (hi:i<m) (hj:j<m):∃ n,n<m/\orb m n i=j:=by
 obtain ⟨a,ha,ea⟩:=f.2 i hi
 obtain ⟨b,hb,eb⟩:=f.2 j hj
 rcases Nat.lt_or_ge b a with c | c
 . refine ⟨m-a+b,by omega,?_⟩
   rw [<- ea,<- jP,show a+(m-a+b)=m+b by omega,jP,f.1]
   exact eb
 . refine ⟨b-a,by omega,?_⟩
   rw [<- ea,<- jP,show a+(b-a)=b by omega]
   exact eb
theorem AG:pK 8:=j8 (by decide+kernel) (by decide+kernel)
theorem wV:pK 32:=j8 (by decide+kernel) (by decide+kernel)
theorem tU:pK 128:=j8 (by decide+kernel) (by decide+kernel)
theorem tT:pK 512:=j8 (by decide+kernel) (by decide+kernel)
theorem v4 (M:Nat) (h:Int):∀ r:Nat,(hdI M h r).1<M+1
 | 0=>Nat.mod_lt _ (by omega)
 | r+1=>Nat.mod_lt _ (by omega)
theorem tQ (M:Nat) (h:Int) {r:Nat} (hr:13<=r):∀ n,(hdI M h (r+n)).1=orb (M+1) n (hdI M h r).1
 | 0=>rfl
 | n+1=>by
  rw [oM,<- tQ M h hr n]
  show ((hdI M h (r+n)).1*5+1+(hdI M h (r+n)).2 / 32)%(M+1)=_
  rw [sC M h (by omega)]
  rfl
theorem At {M:Nat} (f:pK (M+1)) (h:Int) {j:Nat} (hj:j<M+1):∃ n,n<10*turns M/\js M h n=j:=by
 obtain ⟨k,hk,ek⟩:=f.from (v4 M h 13) hj
 obtain ⟨n,hn,hd⟩:=tP M h (13+k)
 refine ⟨n,by unfold turns;omega,?_⟩
 unfold js
 rw [hd.j,tQ M h (Dh _) k]
 exact ek
structure Tab (t:SetTable):Prop where
 ri:Ris t.place
 du:t.dummies=#[]
 le:∀ j∈t.place.toList,j<t.mask+1
theorem tR (j:Nat):has #[] j=false:=by
 unfold has
 show ((#[]:Array Nat)[_]? ==some j)=false
 rw [Array.getElem?_empty]
 rfl
theorem mT {t:SetTable} (T:Tab t) {j:Nat} (h:j∈t.place.toList):t.slot j=.live (below t.place j):=by
 unfold SetTable.slot
 dsimp only
 rw [(fB T.ri j).mpr h]
 rw [if_pos (by exact beq_self_eq_true _)]
theorem vj {t:SetTable} (T:Tab t) {j:Nat} (h:j∉t.place.toList):t.slot j=.empty:=by
 unfold SetTable.slot
 dsimp only
 rw [if_neg (fun e=>h ((fB T.ri j).mp (beq_iff_eq.mp e))),T.du,tR]
 rfl
theorem yy {t:SetTable} (T:Tab t) {hs:Nat->Int} {h:Int} {g:Nat} {p:Probe} (c:p.j∈t.place.toList) (e:(hs (below t.place p.j)==h)=false):probe.go t hs h (g+1) p=probe.go t hs h g (adv t.mask p):=by
 conv=>lhs;unfold probe.go
 rw [mT T c]
 dsimp only
 rw [if_neg (by rw [e];exact Dn),jq]
theorem uM {M:Nat} {p:Probe} (h:p.dummy=none):(adv M p).dummy=none:=by unfold adv;split<;>exact h
theorem yz {t:SetTable} (T:Tab t) {hs:Nat->Int} {h:Int}:∀ (n f:Nat) (p:Probe),n<=f->
    (∀ m,m<n->(aU t.mask m p).j∈t.place.toList/\(hs (below t.place (aU t.mask m p).j)==h)=false)->probe.go t hs h f p=probe.go t hs h (f-n) (aU t.mask n p)
 | 0,f,p,_,_=>rfl
 | n+1,f,p,hf,hm=>by
  obtain ⟨g,rfl⟩:∃ g,f=g+1:=⟨f-1,by omega⟩
  have ce:=hm 0 (by omega)
  rw [yy (p:=p) T ce.1 ce.2,yz T n g (adv t.mask p) (by omega) fun m h'=>hm (m+1) (by omega),show g+1-(n+1)=g-n by omega]
  rfl
theorem fH {M:Nat}:∀ (n:Nat) {p:Probe},p.dummy=none->(aU M n p).dummy=none
 | 0,p,h=>h
 | n+1,p,h=>fH n (uM h)
theorem v5 {t:SetTable} (T:Tab t) {hs:Nat->Int} {h:Int} {n f:Nat} {p:Probe} (hd:p.dummy=none) (hf:n<f)
    (hm:∀ m,m<n->(aU t.mask m p).j∈t.place.toList/\(hs (below t.place (aU t.mask m p).j)==h)=false) (c:(aU t.mask n p).j∉t.place.toList):probe.go t hs h f p=some (.empty (aU t.mask n p).j none):=by
 rw [yz T n f p (by omega) hm]
 obtain ⟨g,hg⟩:∃ g,f-n=g+1:=⟨f-n-1,by omega⟩
 rw [hg]
 unfold probe.go
 rw [vj T c]
 dsimp only
 rw [fH n hd]
theorem tS {t:SetTable} (T:Tab t) {hs:Nat->Int} {h:Int} {n f:Nat} {p:Probe} (hf:n<f)
    (hm:∀ m,m<n->(aU t.mask m p).j∈t.place.toList/\(hs (below t.place (aU t.mask m p).j)==h)=false) (c:(aU t.mask n p).j∈t.place.toList) (e:(hs (below t.place (aU t.mask n p).j)==h)=true):
    probe.go t hs h f p=some (.candidate (aU t.mask n p).j (below t.place (aU t.mask n p).j) (aU t.mask (n+1) p)):=by
 rw [yz T n f p (by omega) hm,i5]
 obtain ⟨g,hg⟩:∃ g,f-n=g+1:=⟨f-n-1,by omega⟩
 rw [hg]
 unfold probe.go
 rw [mT T c]
 dsimp only
 rw [if_pos e,jq]
theorem qx {t:SetTable} (T:Tab t) (F:pK (t.mask+1)) (hz:t.place.size<t.mask+1) (h:Int):∃ n,n<10*turns t.mask/\js t.mask h n∉t.place.toList/\∀ m,m<n->js t.mask h m∈t.place.toList:=by
 have ex:∃ j,j<t.mask+1/\j∉t.place.toList:=by
  apply DB
  intro c
  have all:∀ j∈List.range (t.mask+1),j∈t.place.toList:=fun j hj=>by
   apply DB
   intro d
   exact c ⟨j,DQ.mp hj,d⟩
  have nle:∀ (l k:List Nat),l.Nodup->(∀ x∈l,x∈k)->l.length<=k.length:=by
   intro l
   induction l with
   | nil=>intro k _ _;exact DD _
   | cons x r ih=>
    intro k nd hk
    have hx:=hk x Dx
    have nd':=EB.mp nd
    have:=ih (k.erase x) nd'.2 fun y hy=>(List.mem_erase_of_ne (fun e:y=x=>nd'.1 (by rw [<- e];exact hy))).mpr (hk y (Dk _ hy))
    rw [List.length_erase_of_mem hx] at this
    have pos:=List.length_pos_of_mem hx
    rw [DF]
    omega
  have:=nle _ _ List.nodup_range all
  rw [DZ,Dc] at this
  omega
 obtain ⟨j,hj,hn⟩:=ex
 obtain ⟨n,hn',e⟩:=At F h hj
 have:∀ k,(∃ n,n<k/\js t.mask h n∉t.place.toList)->∃ n,n<k/\js t.mask h n∉t.place.toList/\∀ m,m<n->js t.mask h m∈t.place.toList:=by
  intro k
  induction k with
  | zero=>rintro ⟨n,hn,_⟩;omega
  | succ k ih=>
   rintro ⟨n,hn,hc⟩
   by_cases d:∃ n,n<k/\js t.mask h n∉t.place.toList
   . obtain ⟨n',a,b,c⟩:=ih d
     exact ⟨n',by omega,b,c⟩
   . have hnk:n=k:=by
       apply DB
       intro z
       exact d ⟨n,by omega,hc⟩
     refine ⟨n,hn,hc,fun m hm=>?_⟩
     apply DB
     intro z
     exact d ⟨m,by omega,z⟩
 exact this _ ⟨n,hn',by rw [e];exact hn⟩
end BE
namespace BE
open PySem PySem.SetTable
def nR (M:Nat) (h:Int):Nat->Nat
 | 0=>0
 | r+1=>nR M h r+(runEnd M (hdI M h r).1-(hdI M h r).1+1)
theorem wQ (M:Nat):∀ (k:Nat) (p:Probe),k<=p.more->(aU M k p).j=p.j+k/\(aU M k p).i=p.i/\(aU M k p).perturb=p.perturb/\(aU M k p).more=p.more-k
 | 0,p,_=>⟨rfl,rfl,rfl,rfl⟩
 | k+1,p,h=>by
  have e:adv M p={ p with j:=p.j+1,more:=p.more-1 }:=by unfold adv;rw [if_pos (by omega)]
  obtain ⟨a,b,c,d⟩:=wQ M k (adv M p) (by rw [e];show k<=p.more-1;omega)
  rw [e] at a b c d
  show (aU M k (adv M p)).j=_/\(aU M k (adv M p)).i=_/\(aU M k (adv M p)).perturb=_/\(aU M k (adv M p)).more=_
  rw [e]
  refine ⟨by rw [a];show p.j+1+k=_;omega,b,c,by rw [d];show p.more-1-k=_;omega⟩
theorem tO (M:Nat) (h:Int):∀ r:Nat,Hd M (aU M (nR M h r) (start M h)) (hdI M h r).1 (hdI M h r).2
 | 0=>⟨rfl,rfl,rfl,rfl⟩
 | r+1=>by
  have hd:=tO M h r
  have a:=jH M _ (aU M (nR M h r) (start M h)) rfl
  show Hd M (aU M (nR M h r+(runEnd M (hdI M h r).1-(hdI M h r).1+1)) (start M h)) _ _
  rw [cN]
  rw [hd.i_,hd.pe,hd.mo] at a
  exact a
theorem tF (M:Nat) (h:Int) (r:Nat) {k:Nat} (hk:k<=runEnd M (hdI M h r).1-(hdI M h r).1):js M h (nR M h r+k)=(hdI M h r).1+k:=by
 have hd:=tO M h r
 unfold js
 rw [cN,(wQ M k _ (by rw [hd.mo];exact hk)).1,hd.j]
theorem eZ (M i:Nat):i<=runEnd M i:=by unfold runEnd;split<;>omega
theorem wH {M i:Nat} (h:i<M+1):runEnd M i<M+1:=by unfold runEnd;split<;>omega
theorem sU (M:Nat) (h:Int) {r:Nat}:∀ {r2:Nat},r<r2->nR M h r+(runEnd M (hdI M h r).1-(hdI M h r).1+1)<=nR M h r2
 | 0,c=>absurd c (Nat.not_lt_zero _)
 | r2+1,c=>by
  show _<=nR M h r2+(_+1)
  rcases Nat.lt_or_ge r r2 with d | d
  . have:=sU M h d
    omega
  . have:r=r2:=by omega
    subst this
    exact Dh _
theorem rT (M:Nat) (h:Int):∀ n:Nat,∃ r k,k<=runEnd M (hdI M h r).1-(hdI M h r).1/\n=nR M h r+k
 | 0=>⟨0,0,DD _,rfl⟩
 | n+1=>by
  obtain ⟨r,k,hk,e⟩:=rT M h n
  rcases Nat.lt_or_ge k (runEnd M (hdI M h r).1-(hdI M h r).1) with c | c
  . exact ⟨r,k+1,by omega,by omega⟩
  . exact ⟨r+1,0,DD _,by show n+1=nR M h r+(_+1)+0;omega⟩
theorem tV {M:Nat} {owner:Array (Option Nat)} {h:Int}:∀ (f r:Nat),(∃ r' k,r<=r'/\r'<r+f/\k<=runEnd M (hdI M h r').1-(hdI M h r').1/\(owner.getD ((hdI M h r').1+k) (some 0)).isNone=true)->
    ∃ r' k,r<=r'/\k<=runEnd M (hdI M h r').1-(hdI M h r').1/\layClean.free M owner f (hdI M h r).1 (hdI M h r).2=some ((hdI M h r').1+k)/\(owner.getD ((hdI M h r').1+k) (some 0)).isNone=true/\
     (∀ r2 k2,r<=r2->r2<r'->k2<=runEnd M (hdI M h r2).1-(hdI M h r2).1->(owner.getD ((hdI M h r2).1+k2) (some 0)).isNone=false)/\∀ k2,k2<k->(owner.getD ((hdI M h r').1+k2) (some 0)).isNone=false
 | 0,r,⟨r',k,h1,h2,_⟩=>by omega
 | f+1,r,⟨r',k,h1,h2,h3,h4⟩=>by
  unfold layClean.free
  cases e:(List.range (runEnd M (hdI M h r).1+1-(hdI M h r).1)).find? fun k=>(owner.getD ((hdI M h r).1+k) (some 0)).isNone with
  | some k0=>
   have hp:=List.find?_some e
   have hm:=DQ.mp (List.mem_of_find?_eq_some e)
   have ge:=eZ M (hdI M h r).1
   refine ⟨r,k0,Dh _,by omega,rfl,hp,fun r2 k2 a b=>by omega,fun k2 hk2=>?_⟩
   obtain ⟨_,as,bs,eq,hn⟩:=List.find?_eq_some_iff_append.mp e
   have hl:as=List.range k0:=by
    have e1:(List.range (runEnd M (hdI M h r).1+1-(hdI M h r).1))[as.length]? =some k0:=by rw [eq,DH (Dh _),Nat.sub_self];rfl
    have al:as.length=k0:=by
     obtain ⟨hlt,e2⟩:=Db.mp e1
     rw [List.getElem_range] at e2
     exact e2
    have e3:(List.range (runEnd M (hdI M h r).1+1-(hdI M h r).1)).take k0=as:=by rw [eq,<- al,List.take_left]
    rw [<- e3,List.take_range,Nat.min_eq_left (by omega)]
   have:=hn k2 (by rw [hl];exact DQ.mpr hk2)
   cases x:(owner.getD ((hdI M h r).1+k2) (some 0)).isNone with
   | false=>rfl
   | true=>rw [x] at this;cases this
  | none=>
   have hn:=List.find?_eq_none.mp e
   have ge:=eZ M (hdI M h r).1
   have no:∀ k2,k2<=runEnd M (hdI M h r).1-(hdI M h r).1->(owner.getD ((hdI M h r).1+k2) (some 0)).isNone=false:=fun k2 hk2=>by
    have:=hn k2 (DQ.mpr (by omega))
    exact Bool.eq_false_iff.mpr this
   have hr:r<r':=by
    rcases Nat.lt_or_ge r r' with c | c
    . exact c
    . have:r'=r:=by omega
      subst this
      rw [no k h3] at h4
      cases h4
   obtain ⟨r3,k3,a,b,c,d,e1,e2⟩:=tV (owner:=owner) (h:=h) f (r+1) ⟨r',k,by omega,by omega,h3,h4⟩
   refine ⟨r3,k3,by omega,b,c,d,fun r2 k2 a1 a2 a3=>?_,e2⟩
   rcases Nat.lt_or_ge r r2 with x | x
   . exact e1 r2 k2 (by omega) a2 a3
   . have:r2=r:=by omega
     subst this
     exact no k2 a3
structure Bm (M:Nat) (hs:List Int) (owner:Array (Option Nat)) (k:Nat) (sl:Nat->Nat):Prop where
 sz:owner.size=M+1
 kl:k<=hs.length
 lt:∀ i,i<k->sl i<M+1
 at_:∀ i,i<k->owner[sl i]? =some (some i)
 own:∀ j i,owner[j]? =some (some i)->i<k/\sl i=j
 rch:∀ i h,i<k->hs[i]? =some h->∃ n,js M h n=sl i/\∀ m,m<n->∃ i',owner[js M h m]? =some (some i')
theorem getD_none {owner:Array (Option Nat)} {j:Nat}:(owner.getD j (some 0)).isNone=true ↔ owner[j]? =some none:=by
 rw [Ei]
 cases e:owner[j]? with
 | none=>simp
 | some x=>cases x<;>simp
theorem getD_some {owner:Array (Option Nat)} {j:Nat} (hj:j<owner.size):(owner.getD j (some 0)).isNone=false ↔ ∃ i,owner[j]? =some (some i):=by
 rw [Ei,De hj]
 cases e:owner[j] with
 | none=>simp
 | some x=>simp
theorem Bm.next {M:Nat} (F:pK (M+1)) {hs:List Int} {owner:Array (Option Nat)} {k:Nat} {sl:Nat->Nat} (L:Bm M hs owner k sl) (hk:k<M+1) {h:Int} (hh:hs[k]? =some h):
    ∃ j,layClean.free M owner (turns M) (bits h%(M+1)) (bits h)=some j/\Bm M hs (owner.setIfInBounds j (some k)) (k+1) (fun i=>if i=k then j else sl i):=by
 have ex:∃ j,j<M+1/\owner[j]? =some none:=by
  apply DB
  intro c
  have all:∀ j,j<M+1->∃ i,i<k/\sl i=j:=fun j hj=>by
   have hjs:j<owner.size:=by rw [L.sz];exact hj
   cases e:owner[j] with
   | none=>exact absurd ⟨j,hj,by rw [De hjs,e]⟩ c
   | some i=>exact ⟨i,L.own j i (by rw [De hjs,e])⟩
  have sub:∀ j∈List.range (M+1),j∈(List.range k).map sl:=fun j hj=>by
   obtain ⟨i,hi,e⟩:=all j (DQ.mp hj)
   exact DM.mpr ⟨i,DQ.mpr hi,e⟩
  have nle:∀ (l k:List Nat),l.Nodup->(∀ x∈l,x∈k)->l.length<=k.length:=by
   intro l
   induction l with
   | nil=>intro k _ _;exact DD _
   | cons x r ih=>
    intro k nd hk
    have hx:=hk x Dx
    have nd':=EB.mp nd
    have:=ih (k.erase x) nd'.2 fun y hy=>(List.mem_erase_of_ne (fun e:y=x=>nd'.1 (by rw [<- e];exact hy))).mpr (hk y (Dk _ hy))
    rw [List.length_erase_of_mem hx] at this
    have pos:=List.length_pos_of_mem hx
    rw [DF]
    omega
  have:=nle _ _ List.nodup_range sub
  rw [DZ,Da,DZ] at this
  omega
 obtain ⟨j0,hj0,e0⟩:=ex
 obtain ⟨c,hc,ec⟩:=F.from (v4 M h 13) hj0
 obtain ⟨r,kk,_,hkk,ef,hn,h1,h2⟩:=tV (M:=M) (owner:=owner) (h:=h) (turns M) 0 ⟨13+c,0,by omega,by unfold turns;omega,DD _,by
  rw [Nat.add_zero,tQ M h (Dh _) c,ec]
  exact getD_none.mpr e0⟩
 have ef:layClean.free M owner (turns M) (bits h%(M+1)) (bits h)=some ((hdI M h r).1+kk):=ef
 refine ⟨_,ef,?_⟩
 have hjn:=getD_none.mp hn
 have jlt:(hdI M h r).1+kk<owner.size:=(Array.getElem?_eq_some_iff.mp hjn).1
 have ejs:js M h (nR M h r+kk)=(hdI M h r).1+kk:=tF M h r hkk
 generalize hJ:(hdI M h r).1+kk=J at*
 have jsl:∀ m,js M h m<M+1\/True:=fun _=>.inr trivial
 have ne:∀ i,i<k->sl i≠J:=fun i hi z=>by
  have:=L.at_ i hi
  rw [z,hjn] at this
  cases this
 have getS:∀ j,(owner.setIfInBounds J (some k))[j]? =if j=J then some (some k) else owner[j]? :=fun j=>by
  rw [Array.getElem?_setIfInBounds]
  by_cases c:J=j
  . rw [if_pos c,if_pos c.symm,if_pos jlt]
  . rw [if_neg c,if_neg (fun z=>c z.symm)]
 refine ⟨by rw [Array.size_setIfInBounds,L.sz],by have:=(Db.mp hh).1;omega,fun i hi=>?_,fun i hi=>?_,fun j i e=>?_,fun i h' hi e=>?_⟩
 . by_cases c:i=k
   . rw [if_pos c];rw [<- L.sz];exact jlt
   . rw [if_neg c];exact L.lt i (by omega)
 . show (owner.setIfInBounds J (some k))[if i=k then J else sl i]? =_
   rw [getS]
   by_cases c:i=k
   . rw [if_pos c,if_pos rfl,c]
   . rw [if_neg c,if_neg (ne i (by omega))]
     exact L.at_ i (by omega)
 . rw [getS] at e
   by_cases c:j=J
   . rw [if_pos c] at e
     have:k=i:=Dg (Dg e)
     subst this
     exact ⟨by omega,by rw [if_pos rfl];exact c.symm⟩
   . rw [if_neg c] at e
     obtain ⟨a,b⟩:=L.own j i e
     exact ⟨by omega,by rw [if_neg (by omega)];exact b⟩
 . have up:∀ (j i':Nat),owner[j]? =some (some i')->∃ i2,(owner.setIfInBounds J (some k))[j]? =some (some i2):=fun j i' e=>by
     rw [getS]
     by_cases c:j=J
     . exact ⟨k,by rw [if_pos c]⟩
     . exact ⟨i',by rw [if_neg c];exact e⟩
   by_cases c:i=k
   . subst c
     rw [hh] at e
     obtain rfl:=Dg e
     refine ⟨nR M h r+kk,by rw [if_pos rfl];exact ejs,fun m hm=>?_⟩
     obtain ⟨r2,k2,hk2,em⟩:=rT M h m
     have hjm:js M h m=(hdI M h r2).1+k2:=by rw [em];exact tF M h r2 hk2
     have bd:(hdI M h r2).1+k2<owner.size:=by
      have a:=wH (v4 M h r2)
      have b:=eZ M (hdI M h r2).1
      rw [L.sz]
      omega
     have oc:(owner.getD ((hdI M h r2).1+k2) (some 0)).isNone=false:=by
      rcases Nat.lt_trichotomy r2 r with c | c | c
      . exact h1 r2 k2 (DD _) c hk2
      . subst c
        exact h2 k2 (by omega)
      . have:=sU M h c
        omega
     obtain ⟨i',e'⟩:=(getD_some bd).mp oc
     rw [hjm]
     exact up _ _ e'
   . obtain ⟨n,a,b⟩:=L.rch i h' (by omega) e
     refine ⟨n,by rw [if_neg c];exact a,fun m hm=>?_⟩
     obtain ⟨i',e'⟩:=b m hm
     exact up _ _ e'
def cy (M:Nat) (acc:Option (Array (Option Nat)×Nat)) (h:Int):Option (Array (Option Nat)×Nat):=acc.bind fun a=>(layClean.free M a.1 (turns M) (bits h%(M+1)) (bits h)).bind fun j=>some (a.1.setIfInBounds j (some a.2),a.2+1)
theorem nP (M:Nat) (hs:Array Int):layClean M hs=(hs.toList.foldl (cy M) (some (Array.replicate (M+1) none,0))).map (·.1):=by
 unfold layClean
 rw [<- Array.foldl_toList]
 rfl
theorem t7 {M:Nat} (F:pK (M+1)) {hs:List Int} (hl:hs.length<=M):∀ k,k<=hs.length->∃ owner sl,(hs.take k).foldl (cy M) (some (Array.replicate (M+1) none,0))=some (owner,k)/\Bm M hs owner k sl
 | 0,_=>⟨Array.replicate (M+1) none,fun _=>0,rfl,by rw [Array.size_replicate],DD _,fun i h=>absurd h (Nat.not_lt_zero _),fun i h=>absurd h (Nat.not_lt_zero _),(fun j i e=>by
     rw [Array.getElem?_replicate] at e
     split at e<;>cases e),fun i h hi=>absurd hi (Nat.not_lt_zero _)⟩
 | k+1,hk=>by
  obtain ⟨owner,sl,e,L⟩:=t7 F hl k (by omega)
  have hh:=C7 (show k<hs.length by omega)
  obtain ⟨j,ej,L2⟩:=L.next F (by omega) hh
  refine ⟨_,_,?_,L2⟩
  rw [Ep,hh]
  show ((hs.take k)++[hs[k]]).foldl (cy M) _=_
  rw [List.foldl_append,e]
  show (layClean.free M owner (turns M) (bits hs[k]%(M+1)) (bits hs[k])).bind _=_
  rw [ej]
  rfl
def eA (M:Nat) (owner:Array (Option Nat)):List (Nat×Nat):=(List.range (M+1)).filterMap fun j=>(owner.getD j none).map (j,·)
theorem cE {M:Nat} {owner:Array (Option Nat)} (hs:owner.size=M+1) {j i:Nat}:(j,i)∈eA M owner ↔ owner[j]? =some (some i):=by
 unfold eA
 rw [List.mem_filterMap]
 constructor
 . rintro ⟨j',hj',e⟩
   have hj':=DQ.mp hj'
   rw [Ei,De (by omega)] at e
   cases h:owner[j']'(by omega) with
   | none=>
    simp only [Option.getD_some] at e
    rw [h] at e
    cases e
   | some x=>
    simp only [Option.getD_some] at e
    rw [h] at e
    have e:=Dg e
    injection e with e1 e2
    subst e1 e2
    rw [De (by omega),h]
 . intro e
   obtain ⟨hlt,e2⟩:=Array.getElem?_eq_some_iff.mp e
   refine ⟨j,DQ.mpr (by omega),?_⟩
   rw [Ei,e]
   rfl
theorem lL (M:Nat) (owner:Array (Option Nat)):((eA M owner).map (·.1)).Pairwise (·<·):=by
 unfold eA
 have key:∀ l:List Nat,l.Pairwise (·<·)->((l.filterMap fun j=>(owner.getD j none).map (j,·)).map (·.1)).Pairwise (·<·)/\∀ x∈(l.filterMap fun j=>(owner.getD j none).map (j,·)).map (·.1),x∈l:=by
  intro l
  induction l with
  | nil=>intro _;exact ⟨.nil,fun x hx=>by cases hx⟩
  | cons a r ih=>
   intro h
   obtain ⟨h1,h2⟩:=List.pairwise_cons.mp h
   obtain ⟨i1,i2⟩:=ih h2
   rw [List.filterMap_cons]
   cases e:(owner.getD a none).map (a,·) with
   | none=>exact ⟨i1,fun x hx=>Dk _ (i2 x hx)⟩
   | some p=>
    have ep:p.1=a:=by
     obtain ⟨y,_,rfl⟩:=Option.map_eq_some_iff.mp e
     rfl
    rw [DS,ep]
    refine ⟨List.pairwise_cons.mpr ⟨fun b hb=>h1 b (i2 b hb),i1⟩,fun x hx=>?_⟩
    rcases DI.mp hx with rfl | hx
    . exact Dx
    . exact Dk _ (i2 x hx)
 exact (key _ List.pairwise_lt_range).1
theorem zK {l:List Nat} (h:l.Pairwise (·<·)):Ris l.toArray:=fun i j hi hj hij=>by
 have:=(EC.mp h) i j (by simpa using hi) (by simpa using hj) hij
 simpa using this
def Rch (t:SetTable) (hs:List Int):Prop:=hs.length=t.place.size/\∀ (i:Nat) (h:Int) (j:Nat),hs[i]? =some h->t.place[i]? =some j->∃ n,js t.mask h n=j/\∀ m,m<n->js t.mask h m∈t.place.toList
theorem be {α β:Type} {f:α->Option β}:∀ {l:List α},(∀ a∈l,(f a).isSome=true)->∀ (i:Nat),(l.filterMap f)[i]? =(l[i]?).bind f/\(l.filterMap f).length=l.length
 | [],_,i=>⟨by simp,rfl⟩
 | a::r,h,i=>by
  obtain ⟨b,hb⟩:=Option.isSome_iff_exists.mp (h a Dx)
  have ih:=fun i=>be (l:=r) (fun x hx=>h x (Dk _ hx)) i
  rw [List.filterMap_cons,hb]
  refine ⟨?_,by show _+1=_+1;rw [(ih 0).2]⟩
  cases i with
  | zero=>show some b=_;exact hb.symm
  | succ i=>exact (ih i).1
theorem vw {t:SetTable} {hs:Array Int} {wanted:Nat} (F:pK (sizeAbove wanted-1+1)) (hl:hs.size<=sizeAbove wanted-1):
    ∃ t' order,t.relaid hs wanted=some (t',order)/\Tab t'/\t'.mask=sizeAbove wanted-1/\t'.led=t.led/\t'.plain=t.plain/\order.toList.Perm (List.range hs.size)/\Rch t' (order.toList.filterMap fun i=>hs[i]?):=by
 generalize hM:sizeAbove wanted-1=M at*
 obtain ⟨owner,sl,e,L⟩:=t7 F (hs:=hs.toList) (by rw [Dc];exact hl) hs.toList.length (Dh _)
 rw [DE] at e
 have ln:hs.toList.length=hs.size:=Dc
 have ec:layClean M hs=some owner:=by rw [nP,e];rfl
 refine ⟨{ mask:=M,place:=((eA M owner).map (·.1)).toArray,dummies:=#[],finger:=t.finger,led:=t.led,moves:=t.movedTo M,plain:=t.plain },((eA M owner).map (·.2)).toArray,?_,?_,rfl,rfl,rfl,?_,?_⟩
 . unfold SetTable.relaid SetTable.laid
   rw [hM,ec]
   rfl
 . refine ⟨zK (lL M owner),rfl,fun j hj=>?_⟩
   have hj:j∈(eA M owner).map (·.1):=by simpa using hj
   obtain ⟨p,hp,rfl⟩:=DM.mp hj
   have:=(cE L.sz).mp (show (p.1,p.2)∈_ from hp)
   have:=(Array.getElem?_eq_some_iff.mp this).1
   rw [L.sz] at this
   exact this
 . show ((eA M owner).map (·.2)).toArray.toList.Perm _
   rw [List.toList_toArray]
   have nd:((eA M owner).map (·.2)).Nodup:=by
    refine List.pairwise_map.mpr ?_
    have h:=List.pairwise_map.mp (lL M owner)
    refine List.Pairwise.imp_of_mem (fun {a b} ha hb hab z=>?_) h
    have h1:=L.own _ _ ((cE L.sz).mp (show (a.1,a.2)∈_ from ha))
    have h2:=L.own _ _ ((cE L.sz).mp (show (b.1,b.2)∈_ from hb))
    have:a.1=b.1:=by rw [<- h1.2,<- h2.2,z]
    omega
   refine (List.perm_ext_iff_of_nodup nd List.nodup_range).mpr fun i=>?_
   rw [DQ]
   constructor
   . intro hi
     obtain ⟨p,hp,rfl⟩:=DM.mp hi
     have:=(L.own _ _ ((cE L.sz).mp (show (p.1,p.2)∈_ from hp))).1
     omega
   . intro hi
     exact DM.mpr ⟨(sl i,i),(cE L.sz).mpr (L.at_ i (by omega)),rfl⟩
 . have allS:∀ a∈(eA M owner).map (·.2),(hs[a]?).isSome=true:=fun a ha=>by
     obtain ⟨p,hp,rfl⟩:=DM.mp ha
     have:=(L.own _ _ ((cE L.sz).mp (show (p.1,p.2)∈_ from hp))).1
     rw [De (by omega)];rfl
   show Rch _ (((eA M owner).map (·.2)).toArray.toList.filterMap fun i=>hs[i]?)
   rw [List.toList_toArray]
   refine ⟨?_,fun i h j e1 e2=>?_⟩
   . rw [(be allS 0).2,Da]
     show _=((eA M owner).map (·.1)).toArray.size
     rw [Du,Da]
   . rw [(be allS i).1] at e1
     have e2:((eA M owner).map (·.1)).toArray[i]? =some j:=e2
     rw [Ev] at e2
     rw [Di] at e1 e2
     cases ep:(eA M owner)[i]? with
     | none=>rw [ep] at e2;cases e2
     | some p=>
      rw [ep] at e1 e2
      have e2:p.1=j:=Dg e2
      have e1:hs[p.2]? =some h:=e1
      have hp:=(cE L.sz).mp (show (p.1,p.2)∈_ from Dj ep)
      obtain ⟨hk,hsl⟩:=L.own _ _ hp
      obtain ⟨n,a,b⟩:=L.rch p.2 h hk (by rw [Dq];exact e1)
      refine ⟨n,by show js M h n=j;rw [a,hsl,e2],fun m hm=>?_⟩
      obtain ⟨i',e'⟩:=b m hm
      show js M h m∈((eA M owner).map (·.1)).toArray.toList
      rw [List.toList_toArray]
      exact DM.mpr ⟨(js M h m,i'),(cE L.sz).mpr e',rfl⟩
end BE
namespace BE
open PySem PySem.SetTable
def iV {α:Type} (l:List α) (p:Nat) (x:α):List α:=l.take p++x::l.drop p
theorem j4 {α:Type} {l:List α} {p:Nat} (hp:p<=l.length) {x:α} (i:Nat):(iV l p x)[i]? =if i<p then l[i]? else if i=p then some x else l[i-1]? :=by
 unfold iV
 by_cases c:i<p
 . rw [if_pos c,DL (by rw [Dv];omega),D9 c]
 . rw [if_neg c,DH (by rw [Dv];omega),Dv,Nat.min_eq_left hp]
   by_cases d:i=p
   . rw [if_pos d,d,Nat.sub_self];rfl
   . rw [if_neg d]
     obtain ⟨k,hk⟩:∃ k,i-p=k+1:=⟨i-p-1,by omega⟩
     rw [hk,List.getElem?_cons_succ,List.getElem?_drop,show p+k=i-1 by omega]
theorem zV {t:SetTable} (T:Tab t) {hs:List Int} (R:Rch t hs) {h:Int} {n:Nat} (hj:js t.mask h n∉t.place.toList) (hm:∀ m,m<n->js t.mask h m∈t.place.toList) (hlt:js t.mask h n<t.mask+1):
    ∃ t' p,t.put (js t.mask h n)=(t',p)/\p<=t.place.size/\Tab t'/\t'.mask=t.mask/\t'.led=t.led/\t'.plain=t.plain/\t'.moves=t.moves/\t'.place.size=t.place.size+1/\Rch t' (iV hs p h):=by
 generalize hJ:js t.mask h n=J at*
 obtain ⟨b0,b1,b2⟩:=ku T.ri J
 have el:(insertAt t.place (below t.place J) J).toList=iV t.place.toList (below t.place J) J:=by
  rw [SetTable.toList_insertAt]
  unfold iV
  simp
 have pl:t.place.toList.length=t.place.size:=Dc
 have at_:∀ i,(insertAt t.place (below t.place J) J)[i]? =if i<below t.place J then t.place[i]? else if i=below t.place J then some J else t.place[i-1]? :=fun i=>by
  rw [<- Dq,el,j4 (by omega),Dq,Dq]
 have sz:(insertAt t.place (below t.place J) J).size=t.place.size+1:=by
  rw [<- Dc,el]
  unfold iV
  rw [Dm,DF,Dv,DU,pl]
  omega
 have memN:∀ x,x∈(insertAt t.place (below t.place J) J).toList ↔ x=J\/x∈t.place.toList:=fun x=>by
  rw [el]
  unfold iV
  rw [DN,DI]
  constructor
  . rintro (h | h | h)
    . exact .inr (Eh h)
    . exact .inl h
    . exact .inr (Ey h)
  . rintro (h | h)
    . exact .inr (.inl h)
    . have:=Ek (below t.place J) t.place.toList
      rw [<- this] at h
      rcases DN.mp h with h | h
      . exact .inl h
      . exact .inr (.inr h)
 refine ⟨{ t with place:=insertAt t.place (below t.place J) J },below t.place J,?_,b0,⟨?_,T.du,fun j hj'=>?_⟩,rfl,rfl,rfl,rfl,sz,?_,?_⟩
 . unfold SetTable.put
   dsimp only
   rw [T.du,tR]
   rfl
 . intro i k hi hk hik
   have hi':i<t.place.size+1:=by rw [<- sz];exact hi
   have hk':k<t.place.size+1:=by rw [<- sz];exact hk
   have gi:=at_ i
   have gk:=at_ k
   rw [De hi] at gi
   rw [De hk] at gk
   show (insertAt t.place (below t.place J) J)[i]<(insertAt t.place (below t.place J) J)[k]
   have ne:∀ (q:Nat) (hq:q<t.place.size),t.place[q]≠J:=fun q hq z=>hj (by rw [<- z];exact Ec hq)
   by_cases c1:i<below t.place J
   . rw [if_pos c1,De (by omega)] at gi
     have gi:=Dg gi
     rw [gi]
     by_cases c2:k<below t.place J
     . rw [if_pos c2,De (by omega)] at gk
       rw [Dg gk]
       exact T.ri i k (by omega) (by omega) hik
     . rw [if_neg c2] at gk
       by_cases c3:k=below t.place J
       . rw [if_pos c3] at gk
         rw [Dg gk]
         exact b1 i (by omega) c1
       . rw [if_neg c3,De (by omega)] at gk
         rw [Dg gk]
         exact T.ri i (k-1) (by omega) (by omega) (by omega)
   . rw [if_neg c1] at gi
     by_cases c4:i=below t.place J
     . rw [if_pos c4] at gi
       rw [Dg gi]
       rw [if_neg (by omega),if_neg (by omega),De (by omega)] at gk
       rw [Dg gk]
       have a:=b2 (k-1) (by omega) (by omega)
       have b:=ne (k-1) (by omega)
       omega
     . rw [if_neg c4,De (by omega)] at gi
       rw [Dg gi]
       rw [if_neg (by omega),if_neg (by omega),De (by omega)] at gk
       rw [Dg gk]
       exact T.ri (i-1) (k-1) (by omega) (by omega) (by omega)
 . rcases (memN j).mp hj' with rfl | hj'
   . exact hlt
   . exact T.le j hj'
 . show (iV hs (below t.place J) h).length=(insertAt t.place (below t.place J) J).size
   rw [sz]
   unfold iV
   rw [Dm,DF,Dv,DU]
   have:=R.1
   omega
 . intro i h' j e1 e2
   have e2:(insertAt t.place (below t.place J) J)[i]? =some j:=e2
   have hl:=R.1
   rw [j4 (by omega)] at e1
   rw [at_] at e2
   have up:∀ (i2:Nat),hs[i2]? =some h'->t.place[i2]? =some j->∃ n,js t.mask h' n=j/\∀ m,m<n->js t.mask h' m∈(insertAt t.place (below t.place J) J).toList:=fun i2 a b=>by
    obtain ⟨n,x,y⟩:=R.2 i2 h' j a b
    exact ⟨n,x,fun m hm=>(memN _).mpr (.inr (y m hm))⟩
   by_cases c:i<below t.place J
   . rw [if_pos c] at e1 e2
     exact up i e1 e2
   . rw [if_neg c] at e1 e2
     by_cases d:i=below t.place J
     . rw [if_pos d] at e1 e2
       obtain rfl:=Dg e1
       obtain rfl:=Dg e2
       exact ⟨n,hJ,fun m h0=>(memN _).mpr (.inr (hm m h0))⟩
     . rw [if_neg d] at e1 e2
       exact up (i-1) e1 e2
end BE
namespace BE
open PySem
def lOf (m:Nat):List Nat:=(List.range 8).filter fun j=>m.testBit j
def Tb (l:Bool) (m:Nat):SetTable:=⟨7,(lOf m).toArray,#[],0,l,0,true⟩
end BE
namespace BE
open PySem
theorem vI {α:Type} {l:List α} {i:Nat} (h:i<l.length):([l[i]]++l.eraseIdx i).Perm l:=by
 rw [List.eraseIdx_eq_take_drop_succ]
 have e:l=l.take i++l[i]::l.drop (i+1):=by rw [List.getElem_cons_drop,Ek]
 exact (List.perm_middle (a:=l[i]) (l₁:=l.take i) (l₂:=l.drop (i+1))).symm.trans (by rw [<- e])
theorem lp {α:Type} (next:Nat->Nat):∀ (f k:Nat) (left:List α) (out:Array α),f=left.length->(pickOrder.go next f k left out).toList.Perm (out.toList++left)
 | 0,k,left,out,h=>by
  have:left=[]:=List.length_eq_zero_iff.mp h.symm
  subst this
  show out.toList.Perm (out.toList++[])
  rw [D7]
 | f+1,k,left,out,h=>by
  have hl:next k%left.length<left.length:=Nat.mod_lt _ (by omega)
  unfold pickOrder.go
  rw [C7 hl]
  refine (lp next f (k+1) _ _ (by rw [List.length_eraseIdx,if_pos hl];omega)).trans ?_
  rw [Array.toList_push,DV]
  refine List.Perm.append_left _ ?_
  exact vI hl
theorem vC {α:Type} (next:Nat->Nat) (es:Array α):(pickOrder next es).toList.Perm es.toList:=by
 have:=lp next es.size 0 es.toList #[] (by rw [Dc])
 show (pickOrder.go next es.size 0 es.toList #[]).toList.Perm es.toList
 simpa using this
end BE
namespace BE
open PySem PySem.Spec PyProof.Rows
def dn (w:World):Bool:=w.params.followText "set-order"
section
variable {prog:Program} {w:World} {A:Around} {E:Value->Shared->Prop} {s:Shared}
variable {R:Result->Shared->Prop} {I:Addr} {fp wr:List Addr} {G:Array GenState->Array GenState->Prop} {n:Nat} {P:Nat->Value->Prop} {St:Nat->Shared->Prop}
end
end BE
namespace BE
open PySem PySem.Spec PyProof.Rows
theorem dM:Slot "set_iterator" "__next__" "set_iterator.__next__":=.of (owner:="set_iterator") (n:="__next__") (by rw [typeLookup_type,builtinLookup_eq_fast];kernel_rfl) (by decide+kernel) (by decide+kernel) (by decide+kernel) (by first | exact .inl (by decide+kernel) | exact .inr (by decide+kernel)) (by rw [isSubtype_type];kernel_rfl)
theorem ou:Slot "set_iterator" "__iter__" "set_iterator.__iter__":=.of (owner:="set_iterator") (n:="__iter__") (by rw [typeLookup_type,builtinLookup_eq_fast];kernel_rfl) (by decide+kernel) (by decide+kernel) (by decide+kernel) (by first | exact .inl (by decide+kernel) | exact .inr (by decide+kernel)) (by rw [isSubtype_type];kernel_rfl)
theorem o9:entryFor table "set_iterator.__next__"=some Builtin.«set_iterator.__next__»:=entryFor_of_tree (by kernel_rfl)
theorem v8:entryFor table "set_iterator.__iter__"=some Builtin.«dict_keyiterator.__iter__»:=entryFor_alias (id':="dict_keyiterator.__iter__") (by kernel_rfl) rfl (by decide+kernel) (by kernel_rfl)
theorem lZ:entryFor table "set.__iter__"=some Builtin.«frozenset.__iter__»:=entryFor_alias (id':="frozenset.__iter__") (by kernel_rfl) rfl (by decide+kernel) (by kernel_rfl)
theorem sJ:Manifest.owners.lookup (String.ofList ['r','o','t','a','r','e','t','i','_','t','e','s'].reverse)=some Manifest.sig_set_iterator:=by kernel_rfl
theorem mC (a:Value):argsOk "set_iterator.__next__" ⟨[a],[]⟩:=by unfold argsOk;rw [signature?_of (id:="set_iterator.__next__") (n:=['_','_','t','x','e','n','_','_']) (o:=['r','o','t','a','r','e','t','i','_','t','e','s']) (by kernel_rfl) sJ];kernel_rfl
theorem uJ (a:Value):argsOk "set_iterator.__iter__" ⟨[a],[]⟩:=by unfold argsOk;rw [signature?_of (id:="set_iterator.__iter__") (n:=['_','_','r','e','t','i','_','_']) (o:=['r','o','t','a','r','e','t','i','_','t','e','s']) (by kernel_rfl) sJ];kernel_rfl
theorem yf:typeLookup (.type "set") "__len__"=pure (some (.builtin "set.__len__")):=by rw [typeLookup_type,builtinLookup_eq_fast];kernel_rfl
def oj (h:Heap) (it a:Addr) (slot i n ep:Nat):Prop:=∃ o,h.get? it=some o/\o.cls=.type "set_iterator"/\o.data=.fields #[.int slot 0,.int i 0,.ref a,.int n 0,.int ep 0]
theorem oj.typeIs {s:Shared} {it a:Addr} {slot i n ep:Nat} (x:oj s.heap it a slot i n ep):s.TypeIs (.ref it) "set_iterator":=let ⟨o,h,c,_⟩:=x;⟨o,h,c⟩
def seen (w:World) (a:Addr) (ep:Nat) (es:Array (Int×Value)):Array (Int×Value):=if dn w then pickOrder (w.params.setOrder a ep) es else es
theorem kQ (w:World) (a:Addr) (ep:Nat) (es:Array (Int×Value)):(seen w a ep es).toList.Perm es.toList:=by
 unfold seen
 split
 . exact vC _ _
 . exact .rfl
theorem eQ (w:World) (a:Addr) (ep:Nat) (es:Array (Int×Value)):(seen w a ep es).size=es.size:=by
 rw [<- Dc,(kQ w a ep es).length_eq,Dc]
section
variable {prog:Program} {w:World} {A:Around} {E:Value->Shared->Prop} {s:Shared}
theorem vZ {x:Addr} {Q:Bool->Shared->Prop} (hT:s.TypeIs (.ref x) "set") (h:Q false s):wpAny (model prog w) A (Builtin.List.listLengthHint (.ref x)) Q E s:=by
 unfold Builtin.List.listLengthHint
 refine C8 (wpAny_specialOf hT yf ?_)
 generalize hid:("set.__len__":String)=id0
 wp_delta
 rw [show splitId id0=some ("set","__len__") from by subst hid;decide+kernel]
 subst hid
 refine C8 (wpAny_isInstance (T:="set") (b:=true) hT (by rw [isSubtype_type];kernel_rfl) ?_)
 refine wpAny_ite_split (fun hab=>absurd hab (by decide)) (fun _=>?_)
 refine wpAny_ite_split (fun _=>?_) (fun hab=>absurd (by decide+kernel) hab)
 exact C8 (wpAny_typeOf hT (Df h))
theorem vk {it a:Addr} {slot i n ep:Nat} {Q:Value->Shared->Prop} (hit:oj s.heap it a slot i n ep) (h:Q (.ref it) s):wpAny (model prog w) A (pyIter (.ref it)) Q E s:=by
 refine wpAny_pyIter_slot hit.typeIs ou (D8 ou hit.typeIs v8 ?_ (uJ _))
 exact C8 (Df (Df ⟨_,rfl,"set_iterator",_,hit.typeIs,dM.lookup,h⟩))
theorem vX {α:Type} {l:List α} {f:α->Value} {acc:Array Value} (h:ItemsOf (fun i v=>∃ e,l[i]? =some e/\v=f e) acc l.length):acc.toList=l.map f:=by
 apply Er
 intro i
 rcases Nat.lt_or_ge i acc.size with c | c
 . have hv:acc[i]? =some acc[i]:=De c
   obtain ⟨e,he,hve⟩:=h.2 i _ hv
   rw [Dq,hv,Di,he,hve];rfl
 . rw [Dq,Array.getElem?_eq_none c,Di,DO (by rw [<- h.1];exact c)];rfl
end
end BE
namespace BE
open PySem PySem.SetTable PySem.Spec PyProof.Rows
section
variable {prog:Program} {w:World} {A:Around} {E:Value->Shared->Prop} {s:Shared}
abbrev tk (prog:Program) (w:World):HeapKind prog w (List Int):=tupleKind (intKind prog w)
structure SH (prog:Program) (w:World) (h:Heap) (a:Addr) (es:Array (Int×Value)) (ep:Nat) (t:SetTable) (ks:List (List Int)):Prop where
 ob:∃ o,h.get? a=some o/\o.ExactSet/\o.data=.set es ep t
 T:Tab t
 ma:t.mask=7\/t.mask=31\/t.mask=127\/t.mask=511
 sz:t.place.size=es.size
 room:t.place.size*5<t.mask*3
 led:t.led=!dn w
 pla:t.plain=true
 R:Rch t (es.toList.map (·.1))
 kl:ks.length=es.size
 el:∀ (i:Nat) (k:List Int),ks[i]? =some k->∃ b:Addr,es[i]? =some ((tk prog w).hash k,Value.ref b)/\(tk prog w).is h k b
 nd:ks.Nodup
theorem SH.F {h:Heap} {a:Addr} {es:Array (Int×Value)} {ep:Nat} {t:SetTable} {ks:List (List Int)} (S:SH prog w h a es ep t ks):pK (t.mask+1):=by
 rcases S.ma with e | e | e | e<;>rw [e]
 . exact AG
 . exact wV
 . exact tU
 . exact tT
theorem SH.odd {h:Heap} {a:Addr} {es:Array (Int×Value)} {ep:Nat} {t:SetTable} {ks:List (List Int)} (S:SH prog w h a es ep t ks):t.mask%2=1:=by
 rcases S.ma with e | e | e | e<;>rw [e]
theorem SH.m9 {h:Heap} {a:Addr} {es:Array (Int×Value)} {ep:Nat} {t:SetTable} {ks:List (List Int)} (S:SH prog w h a es ep t ks):t.mask<=511:=by
 rcases S.ma with e | e | e | e<;>rw [e]<;>decide
theorem SH.fits {h:Heap} {a:Addr} {es:Array (Int×Value)} {ep:Nat} {t:SetTable} {ks:List (List Int)} (S:SH prog w h a es ep t ks):t.fits es.size=true:=by
 unfold SetTable.fits SetTable.fill
 rw [S.T.du]
 have:=S.room
 simp [S.sz]
 have:=S.sz
 omega
theorem SH.at_slot {h:Heap} {a:Addr} {es:Array (Int×Value)} {ep:Nat} {t:SetTable} {ks:List (List Int)} (S:SH prog w h a es ep t ks) {j:Nat} (hj:j∈t.place.toList):
    ∃ (k:List Int) (b:Addr),ks[below t.place j]? =some k/\es[below t.place j]? =some ((tk prog w).hash k,Value.ref b)/\(tk prog w).is h k b:=by
 have e:=(fB S.T.ri j).mpr hj
 have hlt:=(Array.getElem?_eq_some_iff.mp e).1
 have hk:below t.place j<ks.length:=by rw [S.kl,<- S.sz];exact hlt
 obtain ⟨b,h1,h2⟩:=S.el _ _ (C7 hk)
 exact ⟨_,b,C7 hk,h1,h2⟩
theorem jh {ks:List Int} {vs:List Value} (h:ItemsAre (intKind prog w) ks vs):∀ v∈vs,∃ n t,v=.int n t:=by
 induction h with
 | nil=>intro v hv;cases hv
 | cons hk hs ih=>
  intro v hv
  rcases DI.mp hv with rfl | hv
  . obtain ⟨t,rfl⟩:=Value.isInt_shape hk;exact ⟨_,t,rfl⟩
  . exact ih v hv
theorem fq {f:Value->Option Bool×Unit->Sem (ForInStep (Option Bool×Unit))}:∀ (l:List Value),(∀ v∈l,∀ R:ForInStep (Option Bool×Unit)->Shared->Prop,R (.yield (none,())) s->wpAny (model prog w) A (f v (none,())) R E s)->∀ {Q:Option Bool×Unit->Shared->Prop},Q (none,()) s->wpAny (model prog w) A (forIn l ((none:Option Bool),()) f) Q E s
 | [],_,Q,h=>by simp only [List.forIn_nil];exact Df h
 | v::r,hf,Q,h=>by
  simp only [List.forIn_cons]
  exact C8 (hf v Dx _ (fq r (fun x hx=>hf x (Dk _ hx)) h))
theorem pj {a:Addr} {k:List Int} {Q:Bool->Shared->Prop} (hk:(tk prog w).is s.heap k a) (q:Q false s):wpAny (model prog w) A (ofAClassStatement 8 (.ref a)) Q E s:=by
 obtain ⟨o,items,n,ho,hc,hd,hi⟩:=hk
 have hT:s.TypeIs (.ref a) "tuple":=⟨o,ho,hc⟩
 unfold ofAClassStatement
 refine C8 (wpAny_typeOf hT ?_)
 dsimp only
 refine C8 (Df ?_)
 rw [if_neg (by decide)]
 refine C8 (wpAny_seqItems ho hd ?_)
 dsimp only
 refine C8 ?_
 rw [<- Array.forIn_toList]
 refine fq items.toList (fun v hv R h=>?_) (Df q)
 obtain ⟨n,t,rfl⟩:=jh hi v hv
 refine C8 ?_
 unfold ofAClassStatement
 refine Df ?_
 rw [if_neg (by decide)]
 exact Df h
theorem uy {a:Addr} {k:List Int} {Q:Bool->Shared->Prop} (hk:(tk prog w).is s.heap k a) (q:Q true s):wpAny (model prog w) A (hashByValue 8 (.ref a)) Q E s:=by
 obtain ⟨o,items,n,ho,hc,hd,hi⟩:=hk
 have hT:s.TypeIs (.ref a) "tuple":=⟨o,ho,hc⟩
 unfold hashByValue
 refine C8 (wpAny_specialOf hT F.slot_tuple_hash.lookup ?_)
 dsimp only
 refine C8 (wpAny_seqItems ho hd ?_)
 refine C8 ?_
 rw [<- Array.forIn_toList]
 refine fq _ (fun v hv R h=>?_) (Df q)
 obtain ⟨n,t,rfl⟩:=jh hi v hv
 refine C8 ?_
 unfold hashByValue
 refine Df ?_
 rw [if_neg (by decide)]
 exact Df h
theorem xF {b:Addr} {k:List Int} (hb:(tk prog w).is s.heap k b):∀ (ys:List Value),(∀ y∈ys,∃ k' b',y=Value.ref b'/\(tk prog w).is s.heap k' b')->∀ {Q:Bool->Shared->Prop},Q false s->wpAny (model prog w) A (searchCouldBeSeen (.ref b) ys) Q E s:=by
 intro ys hy Q q
 unfold searchCouldBeSeen
 refine C8 ?_
 refine fq ys (fun v hv R h=>?_) (Df q)
 obtain ⟨k',b',rfl,hb'⟩:=hy v hv
 dsimp only
 refine wpAny_ite_split (fun _=>Df h) (fun _=>?_)
 refine C8 ((tk prog w).quiet hb ?_)
 rw [if_neg (by decide)]
 refine C8 ((tk prog w).quiet hb' ?_)
 rw [if_neg (by decide)]
 refine C8 (pj hb ?_)
 rw [if_neg (by decide)]
 refine C8 (pj hb' ?_)
 rw [if_neg (by decide)]
 exact Df h
theorem kR {a b:Addr} {es:Array (Int×Value)} {ep:Nat} {t:SetTable} {ks:List (List Int)} {k:List Int} (S:SH prog w s.heap a es ep t ks) (hb:(tk prog w).is s.heap k b) (hu:A.units<cLine) {N:Nat} (hN:N<10*turns t.mask)
    (hm:∀ m,m<N->js t.mask ((tk prog w).hash k) m∈t.place.toList/\ks[below t.place (js t.mask ((tk prog w).hash k) m)]?≠some k) {Q:SetFound->Shared->Prop}
    (q1:js t.mask ((tk prog w).hash k) N∉t.place.toList->Q (.free (js t.mask ((tk prog w).hash k) N) false) s)
    (q2:js t.mask ((tk prog w).hash k) N∈t.place.toList->ks[below t.place (js t.mask ((tk prog w).hash k) N)]? =some k->Q (.there none) s)
    (hor:js t.mask ((tk prog w).hash k) N∉t.place.toList\/ks[below t.place (js t.mask ((tk prog w).hash k) N)]? =some k):
    ∀ (d c f:Nat) (st:Option Probe),N-c=d->c<=N->d<f->st.getD (start t.mask ((tk prog w).hash k))=aU t.mask c (start t.mask ((tk prog w).hash k))->
     wpAny (model prog w) A (setSearchFrom a (.ref b) ((tk prog w).hash k) true f st) Q E s:=by
 intro d
 induction d using Nat.strongRecOn with
 | ind d ih=>
  intro c f st hd hc hf hst
  obtain ⟨g,rfl⟩:∃ g,f=g+1:=⟨f-1,by omega⟩
  obtain ⟨o,ho,hex,hda⟩:=S.ob
  unfold setSearchFrom
  refine C8 (wpAny_setState_of ho hda S.fits ?_)
  dsimp only
  rw [if_neg (by unfold SetTable.gaveWay;rw [S.odd];decide)]
  generalize hP:t.probe _ _ _=pr
  have hP:t.probe (fun i=>(es[i]?.map (·.1)).getD 0) ((tk prog w).hash k) (st.getD (t.probeStart ((tk prog w).hash k)))=pr:=hP
  rw [u3,hst] at hP
  generalize hH:(tk prog w).hash k=hk at*
  have stj:∀ m,(aU t.mask m (aU t.mask c (start t.mask hk))).j=js t.mask hk (c+m):=fun m=>by rw [<- cN];rfl
  have hP:probe.go t (fun i=>(es[i]?.map (·.1)).getD 0) hk (10*turns t.mask) (aU t.mask c (start t.mask hk))=pr:=hP
  have hd0:(aU t.mask c (start t.mask hk)).dummy=none:=fH c rfl
  have nx:∀ n,(∃ m,m<n/\((es[below t.place (js t.mask hk (c+m))]?.map (·.1)).getD 0==hk)=true)->∃ m,m<n/\((es[below t.place (js t.mask hk (c+m))]?.map (·.1)).getD 0==hk)=true/\∀ m',m'<m->((es[below t.place (js t.mask hk (c+m'))]?.map (·.1)).getD 0==hk)=false:=by
   intro n
   induction n with
   | zero=>rintro ⟨m,hm',_⟩;omega
   | succ n ihn=>
    rintro ⟨m,hm',hc'⟩
    by_cases d':∃ m,m<n/\((es[below t.place (js t.mask hk (c+m))]?.map (·.1)).getD 0==hk)=true
    . obtain ⟨m2,a1,a2,a3⟩:=ihn d'
      exact ⟨m2,by omega,a2,a3⟩
    . refine ⟨m,hm',hc',fun m' h'=>?_⟩
      cases x:((es[below t.place (js t.mask hk (c+m'))]?.map (·.1)).getD 0==hk) with
      | false=>rfl
      | true=>
       have:m=n:=by
        apply DB
        intro z
        exact d' ⟨m,by omega,hc'⟩
       exact absurd ⟨m',by omega,x⟩ d'
  have fin:∀ {Z:Sem SetFound},wpAny (model prog w) A Z Q E s->wpAny (model prog w) A (if (!t.led)=true then (do
      let r <- searchCouldBeSeen (.ref b) ((es.filter (·.1==hk)).toList.map (·.2))
      if r=true then (do
       unsupported "set:the-search-would-show-the-table"
       Z) else Z) else Z) Q E s:=fun hZ=>by
   refine wpAny_ite_split (fun _=>?_) (fun _=>hZ)
   refine C8 (xF hb _ (fun y hy=>?_) ?_)
   . obtain ⟨e,he,rfl⟩:=DM.mp hy
     have he:e∈es.toList:=by
      have:=Array.mem_toList_iff.mp he
      rw [Array.mem_filter] at this
      exact Array.mem_toList_iff.mpr this.1
     obtain ⟨i,hi,ei⟩:=DG.mp he
     have hi':i<es.size:=by rw [Dc] at hi;exact hi
     have hik:i<ks.length:=by rw [S.kl];exact hi'
     obtain ⟨b2,h1,h2⟩:=S.el i _ (C7 hik)
     rw [<- Dq,C7 hi,ei] at h1
     exact ⟨_,b2,by rw [Dg h1],h2⟩
   . rw [if_neg (by decide)]
     exact hZ
  by_cases ev:∃ m,m<N-c/\((es[below t.place (js t.mask hk (c+m))]?.map (·.1)).getD 0==hk)=true
  . obtain ⟨m,hm1,hm2,hm3⟩:=nx _ ev
    obtain ⟨oc,nk⟩:=hm (c+m) (by omega)
    have gc:=tS S.T (hs:=fun i=>(es[i]?.map (·.1)).getD 0) (h:=hk) (n:=m) (f:=10*turns t.mask) (p:=aU t.mask c (start t.mask hk)) (by omega) (fun m' h'=>by rw [stj];exact ⟨(hm (c+m') (by omega)).1,hm3 m' h'⟩) (by rw [stj];exact oc) (by rw [stj];exact hm2)
    rw [hP] at gc
    subst gc
    dsimp only
    obtain ⟨k',b',e1,e2,e3⟩:=S.at_slot oc
    have kne:k'≠k:=fun z=>nk (by rw [e1,z])
    refine fin ?_
    simp only [stj]
    rw [e2]
    dsimp only
    refine C8 (Eo ((tk prog w).eqBool hu e3 hb ?_))
    rw [Dw kne]
    refine C8 (wpAny_setState_of ho hda S.fits ?_)
    dsimp only
    rw [if_neg (by decide)]
    have sm:t.sameMemory t.moves t.mask=some true:=by unfold SetTable.sameMemory;rw [if_pos (beq_self_eq_true _)]
    rw [sm]
    dsimp only
    rw [if_pos rfl,mT S.T oc]
    dsimp only
    rw [e2]
    dsimp only
    refine C8 (wpAny_isSame_ref_self ?_)
    rw [if_pos rfl]
    refine C8 (Df ?_)
    dsimp only
    rw [if_neg (by decide)]
    refine ih (N-(c+m+1)) (by omega) (c+m+1) g _ rfl (by omega) (by omega) ?_
    show aU t.mask (m+1) (aU t.mask c (start t.mask hk))=_
    rw [<- cN]
    rfl
  . have no:∀ m,m<N-c->((es[below t.place (js t.mask hk (c+m))]?.map (·.1)).getD 0==hk)=false:=fun m hm'=>by
      cases x:((es[below t.place (js t.mask hk (c+m))]?.map (·.1)).getD 0==hk) with
      | false=>rfl
      | true=>exact absurd ⟨m,hm',x⟩ ev
    have ecN:c+(N-c)=N:=by omega
    by_cases oc:js t.mask hk N∈t.place.toList
    . have hkN:=hor.resolve_left (fun z=>z oc)
      obtain ⟨k',b',e1,e2,e3⟩:=S.at_slot oc
      have kk:k'=k:=by rw [e1] at hkN;exact Dg hkN
      subst kk
      have gc:=tS S.T (hs:=fun i=>(es[i]?.map (·.1)).getD 0) (h:=hk) (n:=N-c) (f:=10*turns t.mask) (p:=aU t.mask c (start t.mask hk)) (by omega) (fun m' h'=>by rw [stj];exact ⟨(hm (c+m') (by omega)).1,no m' h'⟩) (by rw [stj,ecN];exact oc) (by rw [stj,ecN,e2];show ((tk prog w).hash k'==hk)=true;rw [hH];exact beq_self_eq_true _)
      rw [hP] at gc
      subst gc
      dsimp only
      refine fin ?_
      simp only [stj,ecN]
      rw [e2]
      dsimp only
      refine C8 (Eo ((tk prog w).eqBool hu e3 hb ?_))
      rw [decide_eq_true rfl]
      refine C8 (wpAny_setState_of ho hda S.fits ?_)
      dsimp only
      rw [if_pos (by decide)]
      exact Df (q2 oc hkN)
    . have gc:=v5 S.T (hs:=fun i=>(es[i]?.map (·.1)).getD 0) (h:=hk) (n:=N-c) (f:=10*turns t.mask) (p:=aU t.mask c (start t.mask hk)) hd0 (by omega) (fun m' h'=>by rw [stj];exact ⟨(hm (c+m') (by omega)).1,no m' h'⟩) (by rw [stj,ecN];exact oc)
      rw [hP] at gc
      subst gc
      dsimp only
      rw [stj,ecN]
      exact Df (q1 oc)
theorem vR {P:Nat->Prop} {n:Nat} (h:P n):∃ m,m<=n/\P m/\∀ i,i<m->¬ P i:=by
 induction n using Nat.strongRecOn with
 | ind n ih=>
  by_cases c:∃ i,i<n/\P i
  . obtain ⟨i,hi,hp⟩:=c
    obtain ⟨m,a,b,d⟩:=ih i hi hp
    exact ⟨m,by omega,b,d⟩
  . exact ⟨n,Dh _,h,fun i hi hp=>c ⟨i,hi,hp⟩⟩
theorem yC {a b:Addr} {es:Array (Int×Value)} {ep:Nat} {t:SetTable} {ks:List (List Int)} {k:List Int} (S:SH prog w s.heap a es ep t ks) (hb:(tk prog w).is s.heap k b) (hu:A.units<cLine) {Q:SetFound->Shared->Prop}
    (q1:k∉ks->∀ n,n<10*turns t.mask->js t.mask ((tk prog w).hash k) n∉t.place.toList->(∀ m,m<n->js t.mask ((tk prog w).hash k) m∈t.place.toList)->Q (.free (js t.mask ((tk prog w).hash k) n) false) s) (q2:k∈ks->Q (.there none) s):
    wpAny (model prog w) A (setSearch a (.ref b) ((tk prog w).hash k) (adding:=true)) Q E s:=by
 have room:=S.room
 have m9:=S.m9
 obtain ⟨n0,h1,h2,h3⟩:=qx S.T S.F (by omega) ((tk prog w).hash k)
 unfold setSearch
 by_cases c:k∈ks
 . obtain ⟨i,hi,ei⟩:=DG.mp c
   have hik:=C7 hi
   rw [ei] at hik
   obtain ⟨b2,e1,e2⟩:=S.el i k hik
   have hip:i<t.place.size:=by rw [S.sz,<- S.kl];exact hi
   have hpl:=De hip
   obtain ⟨n,hn,hocc⟩:=S.R.2 i ((tk prog w).hash k) t.place[i] (by rw [Di,Dq,e1];rfl) hpl
   obtain ⟨N,hNn,hN,hmin⟩:=vR (P:=fun m=>js t.mask ((tk prog w).hash k) m=t.place[i]) hn
   have inP:t.place[i]∈t.place.toList:=Ec hip
   have bi:below t.place t.place[i]=i:=pC S.T.ri hip
   have occ:∀ m,m<N->js t.mask ((tk prog w).hash k) m∈t.place.toList:=fun m hm=>hocc m (by omega)
   have lt0:N<n0:=by
    rcases Nat.lt_trichotomy N n0 with h | h | h
    . exact h
    . rw [<- h,hN] at h2;exact absurd inP h2
    . exact absurd (occ n0 h) h2
   refine kR S hb hu (N:=N) (by omega) (fun m hm=>⟨occ m hm,fun z=>?_⟩) (fun z=>absurd (by rw [hN];exact inP) z) (fun _ _=>q2 c) (.inr (by rw [hN,bi];exact hik)) N 0 100000 none (by omega) (DD _) (by have:turns t.mask=t.mask+15:=rfl;omega) rfl
   have he:=(fB S.T.ri (js t.mask ((tk prog w).hash k) m)).mpr (occ m hm)
   have hbl:=(Array.getElem?_eq_some_iff.mp he)
   obtain ⟨hb1,hb2⟩:=hbl
   have hbk:below t.place (js t.mask ((tk prog w).hash k) m)<ks.length:=by rw [S.kl,<- S.sz];exact hb1
   have:below t.place (js t.mask ((tk prog w).hash k) m)=i:=by
    apply DB
    intro hne
    rw [C7 hbk] at z
    have z:=Dg z
    have nd:=EC.mp S.nd
    rcases Nat.lt_or_gt_of_ne hne with h | h
    . exact nd _ _ hbk hi h (by rw [z,ei])
    . exact nd _ _ hi hbk h (by rw [z,ei])
   refine hmin m hm ?_
   show js t.mask ((tk prog w).hash k) m=t.place[i]
   rw [<- hb2]
   simp only [this]
 . refine kR S hb hu (N:=n0) h1 (fun m hm=>⟨h3 m hm,fun z=>c (Dj z)⟩) (fun z=>q1 c n0 h1 h2 h3) (fun z=>absurd z h2) (.inl h2) n0 0 100000 none (by omega) (DD _) (by have:turns t.mask=t.mask+15:=rfl;omega) rfl
end
end BE
namespace BE
open PySem PySem.SetTable PySem.Spec PyProof.Rows
section
variable {prog:Program} {w:World} {A:Around} {E:Value->Shared->Prop} {s:Shared}
def Lo (B:Addr->Prop) (es:Array (Int×Value)):Prop:=∀ e∈es.toList,∃ b:Addr,e.2=.ref b/\B b
def SHP (prog:Program) (w:World) (B:Addr->Prop) (h:Heap) (a:Addr) (ks:List (List Int)):Prop:=∃ es ep t ks',SH prog w h a es ep t ks'/\ks'.Perm ks/\Lo B es
theorem mP {h h':Heap} {k:List Int} {b:Addr} (x:(tk prog w).is h k b) (e:∀ o,h.get? b=some o->h'.get? b=some o):(tk prog w).is h' k b:=by
 obtain ⟨o,items,n,ho,hc,hd,hi⟩:=x
 exact ⟨o,items,n,e o ho,hc,hd,hi⟩
theorem zh {h:Heap} {k:List Int} {a b:Addr} {o:Obj} {es:Array (Int×Value)} {ep:Nat} {t:SetTable} (x:(tk prog w).is h k b) (ho:h.get? a=some o) (hd:o.data=.set es ep t):b≠a:=by
 rintro rfl
 obtain ⟨o2,items,n,ho2,hc,hd2,hi⟩:=x
 rw [ho] at ho2
 obtain rfl:=Dg ho2
 rw [hd] at hd2
 cases hd2
theorem SH.mv {B:Addr->Prop} {h h':Heap} {a:Addr} {es:Array (Int×Value)} {ep:Nat} {t:SetTable} {ks:List (List Int)} (S:SH prog w h a es ep t ks) (lo:Lo B es) (ea:∀ o,h.get? a=some o->h'.get? a=some o) (e:∀ b o,B b->h.get? b=some o->h'.get? b=some o):SH prog w h' a es ep t ks where
 ob:=let ⟨o,ho,r⟩:=S.ob;⟨o,ea o ho,r⟩
 T:=S.T
 ma:=S.ma
 sz:=S.sz
 room:=S.room
 led:=S.led
 pla:=S.pla
 R:=S.R
 kl:=S.kl
 el:=fun i k hk=>by
  obtain ⟨b,h1,h2⟩:=S.el i k hk
  obtain ⟨b',eb,hb⟩:=lo _ (Dj (by rw [Dq];exact h1))
  have:b=b':=by injection eb
  exact ⟨b,h1,mP h2 fun o=>e b o (by rw [this];exact hb)⟩
 nd:=S.nd
theorem SHP.mv {B:Addr->Prop} {h h':Heap} {a:Addr} {ks:List (List Int)} (S:SHP prog w B h a ks) (ea:∀ o,h.get? a=some o->h'.get? a=some o) (e:∀ b o,B b->h.get? b=some o->h'.get? b=some o):SHP prog w B h' a ks:=let ⟨es,ep,t,ks',x,y,z⟩:=S;⟨es,ep,t,ks',x.mv z ea e,y,z⟩
theorem yB {t:SetTable} {n:Nat} (T:Tab t) (hz:t.place.size=n) (hr:n<=t.mask):t.fits n=true:=by
 unfold SetTable.fits SetTable.fill
 rw [T.du]
 simp [hz]
 omega
theorem jK {l:List Nat} {n:Nat} (h:l.Perm (List.range n)) {α:Type} {xs:List α} (hx:xs.length=n):(l.filterMap fun i=>xs[i]?).Perm xs:=by
 refine (h.filterMap _).trans (List.Perm.of_eq ?_)
 subst hx
 apply Er
 intro i
 rw [(be (fun a ha=>?_) i).1]
 . rcases Nat.lt_or_ge i xs.length with c | c
   . rw [List.getElem?_range c];rfl
   . rw [DO (by rw [DZ];exact c),DO c];rfl
 . rw [C7 (DQ.mp ha)];rfl
theorem BW (M:Nat) (h:Int) (n:Nat):js M h n<M+1:=by
 obtain ⟨r,k,hk,rfl⟩:=rT M h n
 rw [tF M h r hk]
 have a:=wH (v4 M h r)
 have b:=eZ M (hdI M h r).1
 omega
theorem xK {a:Addr} {o:Obj} {es:Array (Int×Value)} {ep:Nat} {t:SetTable} {ks:List (List Int)} {wanted M:Nat} (hM:sizeAbove wanted=M+1) (hM2:M=7\/M=31\/M=127\/M=511)
    (ho:s.heap.get? a=some o) (hex:o.ExactSet) (hd:o.data=.set es ep t) (hf:t.fits es.size=true) (hr:es.size*5<M*3) (hled:t.led=!dn w) (hpla:t.plain=true)
    (kl:ks.length=es.size) (el:∀ (i:Nat) (k:List Int),ks[i]? =some k->∃ b:Addr,es[i]? =some ((tk prog w).hash k,Value.ref b)/\(tk prog w).is s.heap k b) (nd:ks.Nodup) {Q:Unit->Shared->Prop}
    (q:∀ h' es' t' ks',Heap.SameBut a s.heap h'->SH prog w h' a es' (ep+1) t' ks'->ks'.Perm ks->es'.toList.Perm es.toList->Q () { s with heap:=h' }):wpAny (model prog w) A (setRelay a wanted) Q E s:=by
 have M5:M<=511:=by rcases hM2 with e | e | e | e<;>omega
 have F:pK (sizeAbove wanted-1+1):=by
  rw [hM]
  rcases hM2 with e | e | e | e<;>rw [e]
  . exact AG
  . exact wV
  . exact tU
  . exact tT
 obtain ⟨t',order,e1,T',m',l',p',pm,R'⟩:=vw (t:=t) (hs:=es.map (·.1)) F (by rw [Array.size_map,hM];omega)
 rw [Array.size_map] at pm
 have es':(order.filterMap (es[·]?)).toList=order.toList.filterMap fun i=>es.toList[i]? :=by simp
 have ps:((order.filterMap (es[·]?)).toList).Perm es.toList:=by rw [es'];exact jK pm (Dc)
 have sz':(order.filterMap (es[·]?)).size=es.size:=by rw [<- Dc,ps.length_eq,Dc]
 have all1:∀ i∈order.toList,i<es.size:=fun i hi=>DQ.mp (pm.mem_iff.mp hi)
 unfold setRelay
 refine C8 (wpAny_setState_of ho hd hf ?_)
 dsimp only
 rw [if_neg (by rw [hM];show ¬ (M+1>16777216);omega),e1]
 refine C8 ?_
 refine (?_:wpAny _ A (if ((order.filterMap (es[·]?)).size !=es.size)=true then _ else pure (order.filterMap (es[·]?),t')) _ E s)
 rw [if_neg (by rw [sz'];simp)]
 refine Df ?_
 dsimp only
 refine wpAny_storeSet_of ho hd ?_ (by rw [sz'];show _<=16777216;omega)
 have g:=Heap.get?_update_self (Obj.putSet (order.filterMap (es[·]?)) t') ho (by rw [putSet_of _ _ hd];rfl)
 rw [putSet_of _ _ hd] at g
 refine q _ (order.filterMap (es[·]?)) t' (order.toList.filterMap fun i=>ks[i]?) (Em s.heap a _) ⟨⟨_,g,hex,rfl⟩,T',?_,?_,?_,l'.trans hled,p'.trans hpla,?_,?_,fun i k hk=>?_,?_⟩ (jK pm kl) ps
 . rw [m',hM];exact hM2
 . rw [sz',<- R'.1,(be (fun i hi=>?_) 0).2,pm.length_eq,DZ]
   rw [Array.getElem?_map,De (all1 i hi)];rfl
 . have:=R'.1
   rw [(be (fun i hi=>by rw [Array.getElem?_map,De (all1 i hi)];rfl) 0).2,pm.length_eq,DZ] at this
   rw [m',hM,<- this];exact hr
 . have:(order.filterMap (es[·]?)).toList.map (·.1)=order.toList.filterMap fun i=>(es.map (·.1))[i]? :=by
     rw [es',List.map_filterMap]
     congr 1
     funext i
     simp
   rw [this];exact R'
 . rw [(jK pm kl).length_eq,sz',kl]
 . have allk:∀ i∈order.toList,(ks[i]?).isSome=true:=fun i hi=>by rw [C7 (by rw [kl];exact all1 i hi)];rfl
   have alle:∀ i∈order.toList,(es.toList[i]?).isSome=true:=fun i hi=>by rw [Dq,De (all1 i hi)];rfl
   rw [(be allk i).1] at hk
   cases eo:order.toList[i]? with
   | none=>rw [eo] at hk;cases hk
   | some j=>
    rw [eo] at hk
    obtain ⟨b,h1,h2⟩:=el j k hk
    refine ⟨b,?_,mP h2 fun o2 e=>?_⟩
    . rw [<- Dq,es',(be alle i).1,eo]
      show es.toList[j]? =_
      rw [Dq];exact h1
    . rw [(Em s.heap a _).2 b (zh h2 ho hd)];exact e
 . exact (jK pm kl).nodup_iff.mpr nd
theorem Bb {B:Addr->Prop} {a b:Addr} {ks:List (List Int)} {k:List Int} {Q:Bool->Shared->Prop} (hS:SHP prog w B s.heap a ks) (hbN:B b) (hb:(tk prog w).is s.heap k b) (hu:A.units<cLine) (hl:ks.length<=300)
    (q:∀ h' x,Heap.SameBut a s.heap h'->SHP prog w B h' a (if k∈ks then ks else ks++[k])->Q x { s with heap:=h' }):
    wpAny (model prog w) A (setAddHashed a (.ref b) ((tk prog w).hash k)) Q E s:=by
 obtain ⟨es,ep,t,ks1,S,pm,lo⟩:=hS
 obtain ⟨o,ho,hex,hd⟩:=S.ob
 have hl1:es.size<=300:=by rw [<- S.kl,pm.length_eq];exact hl
 unfold setAddHashed setAddHashedIn
 refine Eo (C8 (wpAny_setState_of ho hd S.fits ?_))
 dsimp only
 rw [if_neg (by unfold byScan;exact Dn)]
 refine C8 (yC S hb hu (fun hn n hlt hj hm=>?_) fun hin=>?_)
 . dsimp only
   refine C8 (wpAny_setState_of ho hd S.fits ?_)
   dsimp only
   have jlt:js t.mask ((tk prog w).hash k) n<t.mask+1:=BW _ _ _
   obtain ⟨t',p,ep1,hp,T',m',l',p',mo',z',R'⟩:=zV S.T S.R hj hm jlt
   rw [ep1]
   dsimp only
   rw [if_pos (p'.trans S.pla)]
   refine C8 (uy hb ?_)
   rw [if_pos rfl]
   have hpe:p<=es.size:=by rw [<- S.sz];exact hp
   have tl:(SetTable.insertAt es p ((tk prog w).hash k,Value.ref b)).toList=iV es.toList p ((tk prog w).hash k,Value.ref b):=by
    rw [SetTable.toList_insertAt]
    unfold iV
    simp
   have zs:(SetTable.insertAt es p ((tk prog w).hash k,Value.ref b)).size=es.size+1:=by
    rw [<- Dc,tl]
    unfold iV
    rw [Dm,DF,Dv,DU,Dc]
    omega
   refine C8 (wpAny_storeSet_of ho hd ?_ (by rw [zs];show _<=16777216;omega))
   have g:=Heap.get?_update_self (Obj.putSet (SetTable.insertAt es p ((tk prog w).hash k,Value.ref b)) t') ho (by rw [putSet_of _ _ hd];rfl)
   have sb:=Em s.heap a (Obj.putSet (SetTable.insertAt es p ((tk prog w).hash k,Value.ref b)) t')
   rw [putSet_of _ _ hd] at g
   generalize s.heap.update a (Obj.putSet (SetTable.insertAt es p ((tk prog w).hash k,Value.ref b)) t')=h1 at*
   have pk:(iV ks1 p k).Perm (ks1++[k]):=by
    unfold iV
    refine List.perm_middle.trans ?_
    rw [Ek]
    exact (List.perm_append_comm (l₁:=[k]) (l₂:=ks1))
   have nk:k∉ks1:=hn
   have pk2:(iV ks1 p k).Perm (if k∈ks then ks else ks++[k]):=by
    rw [if_neg (fun z=>nk (pm.mem_iff.mpr z))]
    exact pk.trans (pm.append_right _)
   have kl':(iV ks1 p k).length=(SetTable.insertAt es p ((tk prog w).hash k,Value.ref b)).size:=by
    rw [pk.length_eq,zs,Dm,S.kl];rfl
   have el':∀ (i:Nat) (k':List Int),(iV ks1 p k)[i]? =some k'->∃ b':Addr,(SetTable.insertAt es p ((tk prog w).hash k,Value.ref b))[i]? =some ((tk prog w).hash k',Value.ref b')/\(tk prog w).is h1 k' b':=fun i k' hk'=>by
    have mvb:∀ {k2 b2},(tk prog w).is s.heap k2 b2->(tk prog w).is h1 k2 b2:=fun h2=>mP h2 fun o2 e=>by rw [sb.2 _ (zh h2 ho hd)];exact e
    rw [<- Dq,tl,j4 (by rw [Dc];exact hpe)]
    rw [j4 (by rw [S.kl];exact hpe)] at hk'
    by_cases c:i<p
    . rw [if_pos c] at hk' ⊢
      obtain ⟨b2,x,y⟩:=S.el i k' hk'
      exact ⟨b2,by rw [Dq];exact x,mvb y⟩
    . rw [if_neg c] at hk' ⊢
      by_cases d:i=p
      . rw [if_pos d] at hk' ⊢
        obtain rfl:=Dg hk'
        exact ⟨b,rfl,mvb hb⟩
      . rw [if_neg d] at hk' ⊢
        obtain ⟨b2,x,y⟩:=S.el (i-1) k' hk'
        exact ⟨b2,by rw [Dq];exact x,mvb y⟩
   have nd':(iV ks1 p k).Nodup:=by
    refine pk.nodup_iff.mpr (List.nodup_append.mpr ⟨S.nd,by simp,fun x hx y hy=>?_⟩)
    rw [D5.mp hy]
    exact fun e=>nk (e ▸ hx)
   have Rn:Rch t' ((SetTable.insertAt es p ((tk prog w).hash k,Value.ref b)).toList.map (·.1)):=by
    have:(SetTable.insertAt es p ((tk prog w).hash k,Value.ref b)).toList.map (·.1)=iV (es.toList.map (·.1)) p ((tk prog w).hash k):=by
     rw [tl];unfold iV;rw [DR,DS,List.map_take,List.map_drop]
    rw [this];exact R'
   have lo':Lo B (SetTable.insertAt es p ((tk prog w).hash k,Value.ref b)):=fun e he=>by
    rw [tl] at he
    unfold iV at he
    rcases DN.mp he with he | he
    . exact lo e (Eh he)
    . rcases DI.mp he with rfl | he
      . exact ⟨b,rfl,hbN⟩
      . exact lo e (Ey he)
   have hsz:=S.sz
   have room:=S.room
   have tf:t'.tooFull=decide ((es.size+1)*5>=t.mask*3):=by
    unfold SetTable.tooFull SetTable.fill
    rw [T'.du,z',m',hsz]
    simp
   by_cases full:(es.size+1)*5>=t.mask*3
   . rw [tf,decide_eq_true full,Bool.and_true,if_pos (by decide)]
     have cs:∃ M,sizeAbove (grown (es.size+1))=M+1/\(M=7\/M=31\/M=127\/M=511)/\(es.size+1)*5<M*3:=by
      rcases S.ma with e | e | e | e
      . have:es.size=4:=by omega
        rw [this];exact ⟨31,by decide,by decide,by decide⟩
      . have:es.size=18:=by omega
        rw [this];exact ⟨127,by decide,by decide,by decide⟩
      . have:es.size=76:=by omega
        rw [this];exact ⟨511,by decide,by decide,by decide⟩
      . omega
     obtain ⟨M,c1,c2,c3⟩:=cs
     refine C8 (xK (s:={ s with heap:=h1 }) c1 c2 g hex rfl (yB T' (by rw [z',zs,hsz]) (by rw [zs,m'];have:=S.m9;rcases S.ma with e | e | e | e<;>omega)) (by rw [zs];exact c3) (l'.trans S.led) (p'.trans S.pla) kl' el' nd' fun h2 es2 t2 ks2 sb2 S2 pm2 pe2=>?_)
     refine Df (q h2 true (sb.trans sb2) ⟨_,_,_,_,S2,pm2.trans pk2,fun e he=>lo' e (pe2.mem_iff.mp he)⟩)
   . rw [tf,Dw full,Bool.and_false,if_neg (by decide)]
     refine Df (q h1 true sb ⟨_,_,_,_,⟨⟨_,g,hex,rfl⟩,T',by rw [m'];exact S.ma,by rw [z',zs,hsz],by rw [z',m',hsz];omega,l'.trans S.led,p'.trans S.pla,Rn,kl',el',nd'⟩,pk2,lo'⟩)
 . dsimp only
   refine Df ?_
   have hin':k∈ks:=pm.mem_iff.mp hin
   exact q s.heap false (Heap.SameBut.refl a s.heap) (by rw [if_pos hin'];exact ⟨es,ep,t,ks1,S,pm,lo⟩)
end
end BE
namespace BE
open PySem PySem.Spec PyProof.Rows
def dB (w:World):Obj:={ cls:=.type "set",dict:=none,data:=.set #[] 0 (Tb (!dn w) 0) }
section
variable {prog:Program} {w:World} {A:Around} {E:Value->Shared->Prop} {s:Shared}
theorem made (a:Value) {Q:Value->Shared->Prop} (q:Q (.ref s.heap.objs.size) { s with heap:=s.heap.push (dB w) }):
    codeAny (model prog w) A (.call (.builtin "set.__new__") ⟨[.type "set",a],[]⟩) (wants Q E) s:=by
 refine codeAny_of_tree ?_
 show wpAny _ A.in1 (checkBuiltinCall "set.__new__" ⟨[.type "set",a],[]⟩>>=fun _=>again (.builtin "set.__new__" ⟨[.type "set",a],[]⟩)) _ _ s
 refine C8 (wpAny_of_eq (F.newCall_set_1 a) (Df ⟨plainId_quiet F.plain_set_new _,codeAny_builtin F.entry_set_new ?_⟩))
 rw [Around.under_plainId F.plain_set_new _]
 unfold Builtin.«set.__new__» Builtin.Frozenset.newClass
 have sub:=sub_set_self
 obtain ⟨hp,g,d,tk,os⟩:=s
 dsimp only
 wp_walk
 refine wpAny_askSetting (Df ?_)
 dsimp only
 simp only [newObj]
 exact C8 (wpAny_alloc (Df (Df q)))
end
end BE
namespace BE
open PySem PySem.SetTable PySem.Spec PyProof.Rows
def kA (val:Nat->List Int):Nat->List (List Int)
 | 0=>[]
 | i+1=>if val i∈kA val i then kA val i else kA val i++[val i]
theorem oS (val:Nat->List Int) {x:List Int}:∀ n:Nat,x∈kA val n ↔ ∃ i<n,val i=x
 | 0=>⟨(fun h=>absurd h En),fun ⟨i,hi,_⟩=>absurd hi (Nat.not_lt_zero _)⟩
 | n+1=>by
  have ih:=oS val (x:=x) n
  show x∈(if val n∈kA val n then kA val n else kA val n++[val n]) ↔ _
  constructor
  . intro h
    by_cases c:val n∈kA val n
    . rw [if_pos c] at h
      obtain ⟨i,hi,e⟩:=ih.mp h
      exact ⟨i,by omega,e⟩
    . rw [if_neg c] at h
      rcases DN.mp h with h | h
      . obtain ⟨i,hi,e⟩:=ih.mp h
        exact ⟨i,by omega,e⟩
      . exact ⟨n,by omega,(D5.mp h).symm⟩
  . rintro ⟨i,hi,e⟩
    by_cases c:val n∈kA val n
    . rw [if_pos c]
      rcases Nat.lt_or_ge i n with d | d
      . exact ih.mpr ⟨i,d,e⟩
      . have:i=n:=by omega
        rw [<- e,this];exact c
    . rw [if_neg c]
      rcases Nat.lt_or_ge i n with d | d
      . exact List.mem_append_left _ (ih.mpr ⟨i,d,e⟩)
      . have:i=n:=by omega
        rw [<- e,this];exact DT _ Dx
theorem sX (val:Nat->List Int):∀ n:Nat,(kA val n).length<=n
 | 0=>Dh _
 | n+1=>by
  have:=sX val n
  show (if val n∈kA val n then kA val n else kA val n++[val n]).length<=_
  split
  . omega
  . rw [Dm];simp;omega
theorem AH {prog:Program} {w:World} {B:Addr->Prop} {h:Heap} {a:Addr} (e:h.get? a=some (dB w)):SHP prog w B h a []:=by
 refine ⟨#[],0,Tb (!dn w) 0,[],⟨⟨_,e,⟨rfl,rfl,rfl⟩,rfl⟩,⟨?_,rfl,fun j hj=>?_⟩,.inl rfl,rfl,(by decide:(0:Nat)*5<7*3),rfl,rfl,⟨rfl,fun i h j e=>?_⟩,rfl,fun i k hk=>?_,List.nodup_nil⟩,.rfl,fun e he=>by cases he⟩
 . intro i j hi
   exact absurd (show i<0 from hi) (Nat.not_lt_zero _)
 . cases (show j∈([]:List Nat) from hj)
 . simp at e
 . simp at hk
section
variable {prog:Program} {w:World} {A:Around} {E:Value->Shared->Prop} {s:Shared}
variable {R:Result->Shared->Prop} {I:Addr} {fp wr:List Addr} {G:Array GenState->Array GenState->Prop} {n:Nat} {P:Nat->Value->Prop} {St:Nat->Shared->Prop}
theorem rQ {B:Addr->Prop} (W:WalksS prog w A.in1 I fp wr G n P St) (S:Addr) (hfp:S∉fp) (hB:∀ b,B b->b≠S/\b∉wr) (val:Nat->List Int) (bs:Nat->Addr) (hv:∀ i v,i<n->P i v->v=.ref (bs i)) (hbs:∀ i,i<n->B (bs i)) (hu:A.units+5<cLine) (hn:n<=300):
    ∀ (k i:Nat) (s:Shared),n-i=k->i<=n->St i s->(∀ j,j<n->(tk prog w).is s.heap (val j) (bs j))->SHP prog w B s.heap S (kA val i)->
     (∀ s',Moved (S::wr) G s s'->SHP prog w B s'.heap S (kA val n)->R (.ok (.ret .none)) s')->codeAny (model prog w) A (.builtin "set.update.loop" ⟨[.ref S,.ref I],[]⟩) R s:=by
 have hwr:S∉wr:=fun h=>hfp (W.sub _ h)
 have more:∀ b∈wr,b∈S::wr:=fun b h=>Dk _ h
 have low:∀ {b:Addr},B b->b∉wr:=fun hb=>(hB _ hb).2
 intro k
 induction k with
 | zero=>
  intro i s hk hi st hb hS q
  obtain rfl:i=n:=by omega
  refine codeAny_builtin F.entry_set_update_loop ?_
  rw [Around.under_plainId F.plain_set_update_loop _]
  show wpAny _ A.in1 (pyNext (.ref I)>>=fun _=>_) _ _ s
  refine C8 (W.done s _ _ st fun s1 mv=>?_)
  exact Df (q s1 (mv.mono more) (hS.mv (fun o e=>mv.heap S _ hwr e) fun b o h e=>mv.heap b _ (low h) e))
 | succ k ih=>
  intro i s hk hi st hb hS q
  have hin:i<n:=by omega
  refine codeAny_builtin F.entry_set_update_loop ?_
  rw [Around.under_plainId F.plain_set_update_loop _]
  show wpAny _ A.in1 (pyNext (.ref I)>>=fun _=>_) _ _ s
  refine C8 (W.item i s _ _ hin st fun v s1 hp st1 mv=>?_)
  obtain rfl:=hv i v hin hp
  have hS1:SHP prog w B s1.heap S (kA val i):=hS.mv (fun o e=>mv.heap S _ hwr e) fun b o h e=>mv.heap b _ (low h) e
  have hb1:∀ j,j<n->(tk prog w).is s1.heap (val j) (bs j):=fun j hj=>mP (hb j hj) fun o e=>mv.heap _ _ (low (hbs j hj)) e
  show wpAny _ A.in1 (holding [Value.ref (bs i)] (setAdd S (.ref (bs i)))>>=fun _=>_) _ _ s1
  refine C8 (Eo ?_)
  unfold setAdd
  refine Eo (C8 ((tk prog w).pyHash (k:=val i) (show A.units+1<cLine by omega) (hb1 i hin) ?_))
  refine Bb (s:={ s1 with toks:=s1.toks+(tk prog w).draws (val i) }) hS1 (hbs i hin) (hb1 i hin) (show A.units+1<cLine by omega) (DP (sX val i) (by omega)) fun h' b sb hS2=>?_
  refine Df ⟨plainId_quiet F.plain_set_update_loop _,ih (i+1) _ (by omega) hin (W.frame _ s1 _ _ st1 (Nat.le_add_right _ _) fun c hc o e=>?_) (fun j hj=>mP (hb1 j hj) fun o e=>?_) hS2 fun s2 mv2 hS3=>?_⟩
  . rw [sb.2 c (fun z=>hfp (z ▸ hc))];exact e
  . have:=hbs j hj
    rw [sb.2 (bs j) (hB _ this).1];exact e
  . refine q s2 (Moved.trans W.gtrans ((mv.mono more).then_heap (Nat.le_add_right _ _) fun c o hc e=>?_) mv2) hS3
    rw [sb.2 c (fun z=>hc (z ▸ Dx))];exact e
set_option maxHeartbeats 3200000 in
theorem xD {l:Addr} {its:Array Value} {val:Nat->List Int} {bs:Nat->Addr} {Q:Value->Shared->Prop} (hh:A.handled=none) (hl:s.heap.IsList l its) (hi:∀ i,i<its.size->its[i]? =some (.ref (bs i))/\(tk prog w).is s.heap (val i) (bs i)) (hf:its.size<=300) (hu:A.units+12<cLine)
    (q:∀ (h':Heap) (tk:Nat),SHP prog w (fun b=>∃ j,j<its.size/\b=bs j) h' s.heap.objs.size (kA val its.size)->(∀ b o,s.heap.get? b=some o->h'.get? b=some o)->Q (.ref s.heap.objs.size) { s with heap:=h',toks:=tk }):
    wpAny (model prog w) A (call (.type "set") [.ref l]) Q E s:=by
 obtain ⟨c,tl,mro⟩:=F.called_set.mro
 have m1:=F.called_set.made
 have m2:=F.called_set.sub
 refine wpAny_call (codeAny_of_tree ?_)
 show wpAny _ _ (callAny (.type "set") _) _ _ _
 refine Df ⟨Code.quiet_builtin _ (by decide+kernel),codeAny_builtin F.entry_type_call ?_⟩
 rw [Around.under_plain (weight_type_call_type "set" [.ref l] []) rfl]
 have m3:=F.called_set.notType
 have m4:=F.called_set.canCreate
 have m5:=F.typeCall_set_1 (.ref l)
 (repeat (any_goals (first | assumption | wp_step)))
 refine codeAny_mono (made (.ref l) (E:=E) (Q:=fun v s1=>v=.ref s.heap.objs.size/\s1={ s with heap:=s.heap.push (dB w) }) ⟨rfl,rfl⟩) fun r s1 hr=>?_
 cases r with
 | error e=>exact hr
 | ok fl=>
  cases fl with
  | ret obj=>
   obtain ⟨rfl,rfl⟩:=hr
   have g1:(s.heap.push (dB w)).get? s.heap.objs.size=some (dB w):=Ds _ rfl
   have ty:Shared.TypeIs { s with heap:=s.heap.push (dB w) } (.ref s.heap.objs.size) "set":=⟨_,g1,rfl⟩
   have m6:=F.called_set.init.lookup
   have m7:=F.called_set.init.bind (.ref s.heap.objs.size)
   (repeat (any_goals (first | assumption | wp_step)))
   refine codeAny_mono (codeAny_call_builtin (R:=wants (fun r s2=>r=.none/\∃ h' tk,s2={ s with heap:=h',toks:=tk }/\SHP prog w (fun b=>∃ j,j<its.size/\b=bs j) h' s.heap.objs.size (kA val its.size)/\(∀ b o,s.heap.get? b=some o->h'.get? b=some o)) E)
    F.called_set.init.plain F.entry_set_init (check_set_init_1 ty ?_)) fun r2 s2 hr2=>?_
   . obtain ⟨ol,hol,hcl,nl,hdl⟩:=hl
     obtain ⟨ocls,odict,odata,oslots⟩:=ol
     simp only at hcl hdl
     subst hcl hdl
     have g2:(s.heap.push (dB w)).get? l=some { cls:=.type "list",dict:=odict,data:=.seq its nl,slots:=oslots }:=Dd _ hol
     have m8:=F.sub_list_set
     have m9:=F.sub_list_frozenset
     have m10:(Value.type "list"==Value.type "dict")=false:=by decide
     have l1:(s.heap.push (dB w)).IsList l its:=⟨_,g2,rfl,nl,rfl⟩
     unfold Builtin.«set.__init__» noKeywords Builtin.Frozenset.updateFrom
     generalize hPI:pyIter=PI
     wp_walk
     subst hPI
     refine wpAny_pyIter_list l1 (C8 (wpAny_runValue ?_))
     have ltl:l<s.heap.objs.size:=Dp hol
     have hh3:A.in1.in1.in1.handled=none:=by simp [hh]
     have ne1:l≠(s.heap.push (dB w)).objs.size:=by rw [Et];exact DC (Nat.lt_succ_of_lt ltl)
     have nf:s.heap.objs.size∉[(s.heap.push (dB w)).objs.size,l]:=by
      rw [Et]
      simp only [DI,En,or_false,not_or]
      exact ⟨DC (Nat.lt_succ_self _),Nat.ne_of_gt ltl⟩
     have lo:∀ i,i<its.size->bs i<s.heap.objs.size:=fun i h=>let ⟨o,_,_,ho,_⟩:=(hi i h).2;Dp ho
     refine rQ (B:=fun b=>∃ j,j<its.size/\b=bs j) ((Walks.list hh3 _ l ne1 its).toS) s.heap.objs.size nf (fun b hb=>?_) val bs (fun i v hiz hv=>?_) (fun i h=>⟨i,h,rfl⟩) (by show A.units+1+1+5<cLine;omega) hf (its.size-0) 0 _ (by omega) (DD _)
      ⟨⟨_,Ds _ rfl,rfl,rfl⟩,l1.push _⟩ (fun j hj=>mP (hi j hj).2 fun o e=>Dd _ (Dd _ e)) (AH (Dd _ g1)) fun s3 mv hS=>?_
     . obtain ⟨j,hj,rfl⟩:=hb
       have:=lo j hj
       refine ⟨DC this,fun z=>?_⟩
       have z:bs j=(s.heap.push (dB w)).objs.size:=by simpa using z
       rw [Et] at z
       rw [z] at this
       exact absurd this (Nat.not_lt.mpr (Nat.le_succ _))
     . have h1:=(hi i hiz).1
       have hv:its[i]? =some v:=hv
       rw [hv] at h1
       exact Dg h1
     obtain ⟨h',g',d',tk',os'⟩:=s3
     have eg:g'=s.gens:=mv.gens
     have ed:d'=s.drawn:=mv.drawn
     have eo:os'=s.os:=mv.os
     subst eg ed eo
     refine Df ?_
     refine Df ⟨rfl,h',tk',rfl,hS,fun b o e=>?_⟩
     have hb:=Dp e
     refine mv.heap b o ?_ (Dd _ (Dd _ e))
     rw [Et]
     simp only [DI,En,or_false,not_or]
     exact ⟨DC hb,DC (Nat.lt_succ_of_lt hb)⟩
   . cases r2 with
     | error e=>exact hr2
     | ok fl2=>
      cases fl2 with
      | ret r=>
       obtain ⟨rfl,h',tk,rfl,hS,hk⟩:=hr2
       (repeat (any_goals (first | assumption | wp_step)))
       exact q _ _ hS hk
      | _=>exact hr2.elim
  | _=>exact hr.elim
end
end BE
namespace BE
open PySem PySem.SetTable PySem.Spec PyProof.Rows
structure ST (w:World) (h:Heap) (a:Addr) (es:Array (Int×Value)) (ep:Nat) (t:SetTable):Prop where
 ob:∃ o,h.get? a=some o/\o.ExactSet/\o.data=.set es ep t
 ri:Ris t.place
 sz:t.place.size=es.size
 ft:t.fits es.size=true
 led:t.led=!dn w
 pla:t.plain=true
theorem ST.mv {w:World} {h h':Heap} {a:Addr} {es:Array (Int×Value)} {ep:Nat} {t:SetTable} (x:ST w h a es ep t) (e:∀ o,h.get? a=some o->h'.get? a=some o):ST w h' a es ep t:=⟨let ⟨o,ho,r⟩:=x.ob;⟨o,e o ho,r⟩,x.ri,x.sz,x.ft,x.led,x.pla⟩
theorem SH.st {prog:Program} {w:World} {h:Heap} {a:Addr} {es:Array (Int×Value)} {ep:Nat} {t:SetTable} {ks:List (List Int)} (S:SH prog w h a es ep t ks):ST w h a es ep t:=⟨S.ob,S.T.ri,S.sz,S.fits,S.led,S.pla⟩
def jx (t:SetTable):Nat->Nat
 | 0=>0
 | i+1=>t.place.getD i 0+1
def dW (w:World) (t:SetTable) (i:Nat):Nat:=if dn w then 0 else jx t i
theorem pU {t:SetTable} (hr:Ris t.place) {i:Nat} (hi:i<=t.place.size):SetTable.below t.place (jx t i)=i:=by
 obtain ⟨b0,b1,b2⟩:=ku hr (jx t i)
 cases i with
 | zero=>
  rcases Nat.eq_zero_or_pos (SetTable.below t.place (jx t 0)) with h | h
  . exact h
  . have:=b1 0 (by omega) h
    exact absurd this (Nat.not_lt_zero _)
 | succ i=>
  have e:jx t (i+1)=t.place[i]+1:=by show t.place.getD i 0+1=_;rw [Ei,De hi];rfl
  rcases Nat.lt_trichotomy (SetTable.below t.place (jx t (i+1))) (i+1) with h | h | h
  . have:=b2 i hi (by omega)
    omega
  . exact h
  . have a:=b1 (i+1) (by omega) h
    have b:=hr i (i+1) (by omega) (by omega) (by omega)
    omega
section
variable {prog:Program} {w:World} {A:Around} {E:Value->Shared->Prop} {s:Shared}
theorem kO {a:Addr} {es:Array (Int×Value)} {ep i:Nat} {t:SetTable} {Q:Option (Value×Nat)->Shared->Prop} (hS:ST w s.heap a es ep t) (hi:i<=es.size)
    (q:Q (((seen w a ep es)[i]?).map fun e=>(e.2,dW w t (i+1))) s):wpAny (model prog w) A (setNext a (dW w t i) i ep) Q E s:=by
 obtain ⟨o,ho,hx,hd⟩:=hS.ob
 have hfi:=hS.ft
 unfold setNext
 refine C8 (wpAny_setState_of ho hd hfi ?_)
 dsimp only
 unfold setsByText
 refine C8 (C8 (wpAny_askSetting (Df ?_)))
 show wpAny _ _ (if dn w=true then _ else _) _ _ _
 unfold seen dW at q
 unfold dW
 by_cases c:dn w=true
 . rw [if_pos c] at q ⊢
   rw [if_pos c] at q
   simp only [bne_self_eq_false,DJ,Es]
   refine C8 ?_
   unfold setWalk
   refine C8 (wpAny_setState_of ho hd hfi ?_)
   dsimp only
   unfold setsByText
   refine C8 (C8 (wpAny_askSetting (Df ?_)))
   show wpAny _ _ (if dn w=true then _ else _) _ _ _
   rw [if_pos c]
   refine C8 (wpAny_askSetting (Df (Df ?_)))
   rw [if_pos c]
   exact q
 . rw [if_neg c] at q ⊢
   rw [if_neg c] at q
   have c':dn w=false:=by simpa using c
   refine wpAny_ite_split (fun hab=>absurd (show ((!t.plain) && decide (es.size>1))=true from hab) (by rw [hS.pla];simp)) (fun _=>?_)
   refine C8 ?_
   wp_delta
   refine wpAny_ite_split (fun hab=>absurd (show ((!t.led) && !es.isEmpty)=true from hab) (by rw [hS.led,c'];simp)) (fun _=>?_)
   refine Df (Df ?_)
   rw [if_neg c]
   show Q (match es[SetTable.below t.place (jx t i)]?,t.place[SetTable.below t.place (jx t i)]? with | some (_,x),some j=>some (x,j+1) | _,_=>none) s
   rw [pU hS.ri (by rw [hS.sz];exact hi)]
   by_cases hl:i<es.size
   . have hl':i<t.place.size:=by rw [hS.sz];exact hl
     rw [De hl] at q ⊢
     rw [De hl']
     have e:jx t (i+1)=t.place[i]+1:=by show t.place.getD i 0+1=_;rw [Ei,De hl'];rfl
     rw [e] at q
     exact q
   . rw [Array.getElem?_eq_none (by omega)] at q ⊢
     exact q
theorem rP {a:Addr} {es:Array (Int×Value)} {ep:Nat} {t:SetTable} {Q:Value->Shared->Prop} (hS:ST w s.heap a es ep t)
    (q:Q (.ref s.heap.objs.size) { s with heap:=s.heap.push { cls:=.type "set_iterator",data:=.fields #[.int 0 0,.int 0 0,.ref a,.int es.size 0,.int ep 0] } }):wpAny (model prog w) A (pyIter (.ref a)) Q E s:=by
 obtain ⟨o,ho,hx,hd⟩:=hS.ob
 have hfi:=hS.ft
 have hT:s.TypeIs (.ref a) "set":=⟨o,ho,hx.1⟩
 refine wpAny_pyIter_slot hT F.slot_set_iter (D8 F.slot_set_iter hT lZ ?_ (F.args_set_iter_1 _))
 unfold Builtin.«frozenset.__iter__»
 refine C8 ?_
 wp_delta
 refine C8 (Df ?_)
 refine Df ?_
 refine C8 ?_
 unfold Builtin.Frozenset.sizeOf
 refine C8 (wpAny_setEntries_of ho hd hfi (Df ?_))
 refine C8 ?_
 unfold setDrawn setsByText
 refine C8 (wpAny_setState_of ho hd hfi (C8 (C8 (wpAny_askSetting (Df (Df ?_))))))
 refine wpAny_ite_split (fun hab=>absurd (show ((!dn w) && ((!t.plain) && decide (es.size>1)))=true from hab) (by rw [hS.pla];simp)) (fun _=>?_)
 refine C8 (Df ?_)
 refine C8 (wpAny_setEpoch_of ho hd hfi (C8 (Ed ?_)))
 exact Df ⟨_,rfl,"set_iterator",_,⟨_,Ds _ rfl,rfl⟩,dM.lookup,q⟩
theorem rO {it a:Addr} {es:Array (Int×Value)} {ep i:Nat} {t:SetTable} {e:Int×Value} {Q:Option Value->Shared->Prop} (hit:oj s.heap it a (dW w t i) i es.size ep) (hS:ST w s.heap a es ep t) (he:(seen w a ep es)[i]? =some e)
    (q:∀ h':Heap,oj h' it a (dW w t (i+1)) (i+1) es.size ep->Heap.SameBut it s.heap h'->Q (some e.2) { s with heap:=h' }):wpAny (model prog w) A (pyNext (.ref it)) Q E s:=by
 have hT:s.TypeIs (.ref it) "set_iterator":=hit.typeIs
 obtain ⟨oi,hoi,hci,hdi⟩:=hit
 obtain ⟨o,ho,hx,hd⟩:=hS.ob
 have hfi:=hS.ft
 have hi:i<es.size:=by
  rcases Nat.lt_or_ge i es.size with h | h
  . exact h
  . rw [Array.getElem?_eq_none (by rw [eQ];exact h)] at he;cases he
 unfold pyNext
 refine C8 (wpAny_attempt (D1 hT dM (D8 dM hT o9 ?_ (mC _))))
 unfold Builtin.«set_iterator.__next__»
 refine C8 (Df ?_)
 refine C8 (wpAny_fieldsOf hoi hdi ?_)
 dsimp only
 refine C8 (wpAny_setEntries_of ho hd hfi ?_)
 simp only [bne_self_eq_false,DJ,Es,Dz]
 refine C8 (kO hS (Nat.le_of_lt hi) ?_)
 rw [he]
 dsimp only [Option.map]
 refine C8 (wpAny_setField hoi hdi (by show 0<5;omega) ?_)
 have b1:=Em s.heap it (Obj.mapFields fun x=>x.setIfInBounds 0 (rawInt (dW w t (i+1))))
 have g1:=Heap.get?_update_self (Obj.mapFields fun x=>x.setIfInBounds 0 (rawInt (dW w t (i+1)))) hoi (Obj.isFreed_of_fields (Obj.data_mapFields hdi _))
 have c1:=(Obj.cls_mapFields oi (fun x=>x.setIfInBounds 0 (rawInt (dW w t (i+1))))).trans hci
 have d1:=Obj.data_mapFields hdi (fun x=>x.setIfInBounds 0 (rawInt (dW w t (i+1))))
 generalize s.heap.update it (Obj.mapFields fun x=>x.setIfInBounds 0 (rawInt (dW w t (i+1))))=h1 at*
 generalize Obj.mapFields (fun x=>x.setIfInBounds 0 (rawInt (dW w t (i+1)))) oi=o1 at*
 refine C8 (wpAny_setField (s:={ s with heap:=h1 }) g1 d1 (by show 1<5;omega) ?_)
 have b2:=Em h1 it (Obj.mapFields fun x=>x.setIfInBounds 1 (rawInt ((i:Int)+1)))
 refine Df ⟨_,rfl,Df (q _ ⟨_,Heap.get?_update_self _ g1 (Obj.isFreed_of_fields (Obj.data_mapFields d1 _)),(Obj.cls_mapFields _ _).trans c1,(Obj.data_mapFields d1 _).trans rfl⟩ (b1.trans b2))⟩
theorem vm {it a:Addr} {es:Array (Int×Value)} {ep i:Nat} {t:SetTable} {Q:Option Value->Shared->Prop} (hh:A.handled=none) (hit:oj s.heap it a (dW w t i) i es.size ep) (hS:ST w s.heap a es ep t) (hi:i<=es.size) (he:(seen w a ep es)[i]? =none)
    (q:∀ h':Heap,Heap.ExtBut it s.heap h'->Q none { s with heap:=h' }):wpAny (model prog w) A (pyNext (.ref it)) Q E s:=by
 have hT:s.TypeIs (.ref it) "set_iterator":=hit.typeIs
 obtain ⟨oi,hoi,hci,hdi⟩:=hit
 obtain ⟨o,ho,hx,hd⟩:=hS.ob
 have hfi:=hS.ft
 unfold pyNext
 refine C8 (wpAny_attempt (D1 hT dM (D8 dM hT o9 ?_ (mC _))))
 unfold Builtin.«set_iterator.__next__»
 refine C8 (Df (C8 (wpAny_fieldsOf hoi hdi ?_)))
 dsimp only
 refine C8 (wpAny_setEntries_of ho hd hfi ?_)
 simp only [bne_self_eq_false,DJ,Es,Dz]
 refine C8 (kO hS hi ?_)
 rw [he]
 dsimp only [Option.map]
 refine C8 (wpAny_setField hoi hdi (by show 2<5;omega) ?_)
 have hb:=(Em s.heap it (Obj.mapFields fun x=>x.setIfInBounds 2 Value.none)).extBut
 generalize s.heap.update it (Obj.mapFields fun x=>x.setIfInBounds 2 Value.none)=h' at*
 refine C8 ?_
 unfold newExc
 refine C8 (Ed (C8 (wpAny_of_eq rfl ?_)))
 refine Ed ?_ (sizeOk_excFields _ _ _ _ _ _ _ _)
 unfold raiseNew
 refine C8 (wpAny_handled ?_)
 rw [show A.in1.handled=none from hh]
 refine wpAny_throw (C8 (wpAny_isInstance ⟨_,Ds _ rfl,rfl⟩ isSubtype_stop ?_))
 exact Df (q _ ((hb.push _).push _))
theorem pN (hh:A.handled=none) (I a:Addr) (hne:a≠I) (es:Array (Int×Value)) (ep:Nat) (t:SetTable):
    Walks prog w A I [I,a] [I] es.size (fun i v=>∃ e,(seen w a ep es)[i]? =some e/\v=e.2) fun i h=>oj h I a (dW w t i) i es.size ep/\ST w h a es ep t where
 sub:=fun b hb=>by simp at hb;simp [hb]
 frame:=fun i h h' st k=>⟨let ⟨o,ho,r⟩:=st.1;⟨o,k I (by simp) o ho,r⟩,st.2.mv fun o e=>k a (by simp) o e⟩
 item:=fun i s Q E hi st q=>by
  have hi':i<(seen w a ep es).size:=by rw [eQ];exact hi
  have he:(seen w a ep es)[i]? =some (seen w a ep es)[i]:=De hi'
  refine rO st.1 st.2 he fun h' st' sb=>?_
  refine q _ h' s.toks ⟨_,he,rfl⟩ ⟨st',st.2.mv fun o e=>(sb.2 a hne).trans e⟩ fun b o hb e=>(sb.2 b (by simpa using hb)).trans e
 done:=fun s Q E st q=>vm hh st.1 st.2 (Dh _) (Array.getElem?_eq_none (by rw [eQ];exact Dh _)) fun h' eb=>q h' s.toks fun b o hb e=>eb b o (by simpa using hb) e
 self:=fun i s Q E st q=>vk st.1 q
theorem u6 {a:Addr} {es:Array (Int×Value)} {ep:Nat} {t:SetTable}:W.KdlSrc prog w "set" a a es.size (fun i v=>∃ e,(seen w a ep es)[i]? =some e/\v=e.2) (fun h=>ST w h a es ep t) where
 type:=fun s st=>let ⟨o,ho,hx,_⟩:=st.ob;⟨o,ho,hx.1⟩
 there:=fun h st=>let ⟨o,ho,_⟩:=st.ob;⟨Dp ho,Dp ho⟩
 keep:=fun h h' st k=>st.mv fun o e=>k a (.inl rfl) o e
 notList:=by decide
 notTuple:=by decide
 hint:=fun A E s Q st q=>let ⟨o,ho,hx,_⟩:=st.ob;vZ ⟨o,ho,hx.1⟩ q
 iter:=fun A s hh st=>by
  obtain ⟨o,ho,hx,hd⟩:=st.ob
  have z:dW w t 0=0:=by unfold dW;split<;>rfl
  exact ⟨_,_,fun E Q q=>rP st q,pN hh s.heap.objs.size a (DC (Dp ho)) es ep t,⟨_,Ds _ rfl,rfl,by rw [z];rfl⟩,st.mv fun o e=>Dd _ e⟩
end
end BE
namespace BE
open PySem PyProof.Rows
theorem A1:bootBuiltins "set"=some (.type "set"):=by decide+kernel
end BE
namespace L2
open PySem PySem.Spec PyProof.Rows BE
section
variable {X:Cx}
end
end L2
namespace L2
open PySem PySem.SeqAt PySem.Spec PyProof.Rows
theorem shI (ms:List Int):SeqAt.shaped (.tuple (ms.map .int))=true:=by
 have dep:∀ ms:List Int,PyData.depthAll (ms.map PyData.int)<=10:=by
  intro ms
  induction ms with
  | nil=>decide
  | cons m r ih=>rw [DS,PyData.depthAll];show max _ _<=10;simp [PyData.depth];omega
 have lay:∀ ms:List Int,PyData.canLayAll0 (ms.map PyData.int)=true:=by
  intro ms
  induction ms with
  | nil=>rfl
  | cons m r ih=>rw [DS,PyData.canLayAll0,ih];rfl
 have e1:=dep ms
 unfold SeqAt.shaped
 rw [PyData.canLay0,lay]
 have e:PyData.depth (.tuple (ms.map .int))<=20:=by rw [PyData.depth];omega
 exact decide_eq_true (by omega)
theorem CW (ns ms:List Int):PyData.eqv (.tuple (ns.map PyData.int)) (.tuple (ms.map PyData.int))=decide (ns=ms):=by
 rw [<- SeqAt.same_eq_eqv _ _ (by simp only [SeqAt.noMix];exact PySem.W.noMix_ints ns ms)]
 simp only [PySem.Spec.same]
 exact PySem.W.same_ints ns ms
theorem oY:∀ {a b:List Int},a.map V.int=b.map V.int->a=b
 | [],[],_=>rfl
 | [],_::_,h=>by cases h
 | _::_,[],h=>by cases h
 | x::a,y::b,h=>by
  obtain ⟨h1,h2⟩:=List.cons.inj h
  injection h1 with h1
  rw [h1,oY h2]
section
variable {X:Cx}
def xM:R2:=fun x y H Q=>∃ (p l:Addr) (ws:List V) (k:List Int) (ks:List (List Int)),x=.ref p/\y=.ref l/\H p=some (.tup (k.map V.int))/\H l=some (.lst ws)/\gs H ws ks/\Q (.bl (!decide (k∈ks))) H
open Classical in
theorem sM (hu:X.A.units+65<cLine):OpR X (compareOp .NotIn) xM:=by
 intro pins s σ H x y v u Q I rx ry h
 obtain ⟨p,l,ws,k,ks,rfl,rfl,hp,hl,tin,q⟩:=h
 cases rx
 cases ry
 obtain ⟨z,its,n,rv,hlen,e⟩:=I.lstM hl
 have rk:Rep H (.ref p) (.tuple (k.map .int)):=.tup hp Reps.ints
 obtain ⟨as,za⟩:=rk.reads I.hok rfl
 have atI:∀ (i:Nat) (v:Value),its[i]? =some v->∃ q k',ks[i]? =some k'/\v=.ref q/\H q=some (.tup (k'.map V.int)):=fun i v hv=>by
  have hi:i<ks.length:=by rw [<- tin.1,hlen];exact (Db.mp hv).1
  obtain ⟨q,hq,hQ⟩:=tin.2 i _ (C7 hi)
  obtain ⟨u,hu,ru⟩:=rv.get hq
  rw [hv] at hu
  obtain rfl:=Dg hu
  exact ⟨q,_,C7 hi,ru,hQ⟩
 refine SeqAt.notIn_listAt (fun v=>decide (∃ i:Nat,its[i]? =some v/\ks[i]? =some k)) ⟨_,e,rfl,n,rfl⟩ (fun v hv=>?_) ⟨.bl _,H,I,rfl,?_⟩
 . have hv:v∈its:=by simpa using hv
   obtain ⟨i,hi,ei⟩:=DG.mp hv
   have hvi:its[i]? =some v:=by rw [C7 hi,ei]
   obtain ⟨q',k',hk',rfl,hQ'⟩:=atI i v hvi
   have rk':Rep H (.ref q') (.tuple (k'.map .int)):=.tup hQ' Reps.ints
   obtain ⟨bs,zb⟩:=rk'.reads I.hok rfl
   have x:=PySem.W.keq_at (A:=X.A) zb za (shI k') (shI k) (by show X.A.units+1+64<cLine;omega)
   rw [CW] at x
   have eb:decide (∃ i:Nat,its[i]? =some (Value.ref q')/\ks[i]? =some k)=decide (k'=k):=by
    apply decide_eq_decide.mpr
    constructor
    . rintro ⟨j,hj,hkj⟩
      obtain ⟨q2,k2,hk2,e2,hQ2⟩:=atI j _ hj
      injection e2 with e2
      rw [hkj] at hk2
      obtain rfl:=Dg hk2
      rw [<- e2,hQ'] at hQ2
      injection hQ2 with hQ2
      injection hQ2 with hQ2
      exact oY hQ2
    . intro hkk
      exact ⟨i,hvi,by rw [hk',hkk]⟩
   rw [eb]
   exact x
 . have eb:its.toArray.any (fun v=>decide (∃ i:Nat,its[i]? =some v/\ks[i]? =some k))=decide (k∈ks):=by
     rw [show its.toArray.any (fun v=>decide (∃ i:Nat,its[i]? =some v/\ks[i]? =some k))=its.any (fun v=>decide (∃ i:Nat,its[i]? =some v/\ks[i]? =some k)) by simp]
     apply Bool.eq_iff_iff.mpr
     rw [List.any_eq_true,decide_eq_true_eq]
     constructor
     . rintro ⟨v,_,hv⟩
       obtain ⟨i,_,hk⟩:=of_decide_eq_true hv
       exact Dj hk
     . intro hk
       obtain ⟨i,hi,ei⟩:=DG.mp hk
       have hil:i<its.length:=by rw [<- hlen,tin.1];exact hi
       exact ⟨its[i],DX hil,decide_eq_true ⟨i,C7 hil,by rw [C7 hi,ei]⟩⟩
   rw [eb]
   exact q
end
end L2
namespace BE
open PySem PySem.SetTable PySem.Spec PyProof.Rows
def yW {α β:Type} (R:α->β->Prop):List α->List β->Prop
 | [],[]=>True
 | x::xs,y::ys=>R x y/\yW R xs ys
 | _,_=>False
theorem mV {α β:Type} {R:α->β->Prop}:∀ {xs:List α} {ys:List β},xs.length=ys.length->(∀ (i:Nat) (y:β),ys[i]? =some y->∃ x,xs[i]? =some x/\R x y)->yW R xs ys
 | [],[],_,_=>trivial
 | x::xs,y::ys,hl,h=>by
  obtain ⟨x',e,r⟩:=h 0 y rfl
  obtain rfl:x=x':=by simpa using e
  exact ⟨r,mV (by simpa using hl) fun i y hy=>h (i+1) y hy⟩
 | [],_::_,hl,_=>by simp at hl
 | _::_,[],hl,_=>by simp at hl
theorem mW {α β:Type} {R:α->β->Prop}:∀ {xs:List α} {ys:List β},yW R xs ys->xs.length=ys.length/\∀ (i:Nat) (y:β),ys[i]? =some y->∃ x,xs[i]? =some x/\R x y
 | [],[],_=>⟨rfl,fun i y h=>by simp at h⟩
 | x::xs,y::ys,h=>by
  obtain ⟨a,b⟩:=mW h.2
  refine ⟨by simp [a],fun i y' hy=>?_⟩
  cases i with
  | zero=>
   obtain rfl:y=y':=by simpa using hy
   exact ⟨x,rfl,h.1⟩
  | succ i=>exact b i y' hy
 | [],_::_,h=>h.elim
 | _::_,[],h=>h.elim
theorem kN {α β:Type} {R:α->β->Prop} {xs xs':List α} (p:xs.Perm xs'):∀ {ys:List β},yW R xs ys->∃ ys',yW R xs' ys'/\ys.Perm ys':=by
 induction p with
 | nil=>intro ys h;exact ⟨ys,h,.rfl⟩
 | cons x p ih=>
  intro ys h
  cases ys with
  | nil=>exact h.elim
  | cons y ys=>
   obtain ⟨zs,a,b⟩:=ih h.2
   exact ⟨y::zs,⟨h.1,a⟩,b.cons y⟩
 | swap x x' l=>
  intro ys h
  match ys,h with
  | y::y'::ys,h=>exact ⟨y'::y::ys,⟨h.2.1,h.1,h.2.2⟩,.swap _ _ _⟩
 | trans p1 p2 ih1 ih2=>
  intro ys h
  obtain ⟨zs,a,b⟩:=ih1 h
  obtain ⟨zs',a',b'⟩:=ih2 a
  exact ⟨zs',a',b.trans b'⟩
theorem lC:∀ {l ks:List (List Int)},l.Nodup->(∀ x∈l,x∈ks)->l.length<=ks.length
 | [],ks,_,_=>DD _
 | x::l,ks,nd,h=>by
  have hx:=h x Dx
  have nd':=EB.mp nd
  have:=lC (l:=l) (ks:=ks.erase x) nd'.2 fun y hy=>(List.mem_erase_of_ne (fun e:y=x=>nd'.1 (by rw [<- e];exact hy))).mpr (h y (Dk _ hy))
  rw [List.length_erase_of_mem hx] at this
  have pos:=List.length_pos_of_mem hx
  rw [DF]
  omega
theorem Au:∀ {us:List Value} {k:List Int} {prog:Program} {w:World},IV us k->ItemsAre (intKind prog w) k us
 | [],[],_,_,_=>.nil
 | u::us,x::k,_,_,h=>by
  obtain ⟨t,rfl⟩:=h.1
  exact .cons (intKind_is _ _ _ _) (Au h.2)
 | [],_::_,_,_,h=>h.elim
 | _::_,[],_,_,h=>h.elim
end BE
namespace L2
open PySem PySem.SeqAt PySem.Spec PyProof.Rows BE
section
variable {X:Cx}
def toV:Value->V
 | .ref b=>.ref b
 | _=>.non
theorem kD:∀ {l:List Value},(∀ v∈l,∃ b,v=.ref b)->ba (l.map toV) l
 | [],_=>.nil
 | v::l,h=>by
  obtain ⟨b,rfl⟩:=h v Dx
  exact .cons rfl (kD fun x hx=>h x (Dk _ hx))
end
end L2
namespace BE
open PySem PySem.W PySem.Spec PyProof.Rows
theorem xW {α:Type} {l l':List α} (d:α) (p:l'.Perm l):∃ ix:List Nat,ix.Perm (List.range l.length)/\l'=ix.map fun i=>l.getD i d:=by
 have sd:yW (fun (x:α) (i:Nat)=>l[i]? =some x) l (List.range l.length):=mV (by simp) fun i y hy=>by
  have hi:i<l.length:=by have:=(Db.mp hy).1;simpa using this
  have:y=i:=by rw [List.getElem?_range hi] at hy;exact (Dg hy).symm
  subst this
  exact ⟨_,C7 hi,C7 hi⟩
 obtain ⟨ix,s2,pp⟩:=kN p.symm sd
 obtain ⟨e,a⟩:=mW s2
 refine ⟨ix,pp.symm,?_⟩
 apply Er
 intro j
 rw [Di]
 cases h:ix[j]? with
 | none=>
  have:=List.getElem?_eq_none_iff.mp h
  rw [DO (by omega)];rfl
 | some i=>
  obtain ⟨x,hx,r⟩:=a j i h
  rw [hx]
  show some x=some (l.getD i d)
  rw [C9,r];rfl
section
variable {prog:Program} {w:World} {A:Around} {E:Value->Shared->Prop} {s:Shared}
end
end BE
namespace L2
open PySem PySem.SeqAt PySem.Spec PyProof.Rows BE
section
variable {X:Cx}
def xL:List V->Hp->VK->Prop:=fun xs H Q=>∃ (a:Addr) (ws:List V) (m:Nat) (ks:List (List Int)),xs=[.ref a]/\H a=some (.lst ws)/\gs H ws ks/\(∀ k∈ks,BE.RgT m k)/\ks.length<=300/\
 ∀ (l:Addr) (ws':List V) (ks':List (List Int)),H l=none->(∀ k,k∈ks' ↔ k∈ks)->ks'.Nodup->ks'.Pairwise leT->gs H ws' ks'->Q (.ref l) (upd H l (.lst ws'))
end
end L2
namespace BE
open PySem PySem.W PySem.Spec PyProof.Rows
def kW:List Int->Int
 | []=>0
 | x::xs=>x*100000^xs.length+kW xs
def InW (xs:List Int):Prop:=∀ z∈xs,0<=z/\z<100000
def RgW (m:Nat) (k:List Int):Prop:=k.length=m/\1<=m/\InW k.tail
def tu (ps:List (List Int)) (i:Nat):Int:=kW (ps.getD i [])
theorem yk:∀ {k:List Int},InW k->0<=kW k/\kW k<100000^k.length
 | [],_=>⟨DK _,by decide⟩
 | x::xs,h=>by
  have ih:=yk (k:=xs) fun y hy=>h y (Dk _ hy)
  have hx:=h x Dx
  show 0<=x*100000^xs.length+kW xs/\x*100000^xs.length+kW xs<100000^(xs.length+1)
  rw [Int.pow_succ]
  generalize (100000:Int)^xs.length=B at*
  have h0:0<=B:=by omega
  have h1:0<=x*B:=Int.mul_nonneg hx.1 h0
  have h2:x*B<=99999*B:=Int.mul_le_mul_of_nonneg_right (by omega) h0
  constructor<;>omega
theorem vV {x y:Int} {xs ys:List Int} (hl:xs.length=ys.length) (hx:InW xs) (hy:InW ys) (h:x<y):kW (x::xs)<kW (y::ys):=by
 have a:=yk hx
 have b:=yk hy
 show x*100000^xs.length+kW xs<y*100000^ys.length+kW ys
 rw [<- hl] at b ⊢
 generalize (100000:Int)^xs.length=B at*
 have h0:0<=B:=by omega
 have h2:(x+1)*B<=y*B:=Int.mul_le_mul_of_nonneg_right (by omega) h0
 rw [Int.add_mul] at h2
 omega
theorem tD {x:Int} {xs ys:List Int} (hl:xs.length=ys.length):decide (kW (x::xs)<kW (x::ys))=decide (kW xs<kW ys):=by
 show decide (x*100000^xs.length+kW xs<x*100000^ys.length+kW ys)=_
 rw [hl]
 generalize x*(100000:Int)^ys.length=B
 exact decide_eq_decide.mpr ⟨fun h=>by omega,fun h=>by omega⟩
theorem As:∀ {p q:List Int},p.length=q.length->(∀ z∈p,0<=z/\z<1000)->(∀ z∈q,0<=z/\z<1000)->decide (kW p<kW q)=decide (kT p<kT q)
 | [],[],_,_,_=>rfl
 | x::p,y::q,hl,hp,hq=>by
  have hl':p.length=q.length:=by simpa using hl
  have hp':∀ z∈p,0<=z/\z<1000:=fun z hz=>hp z (Dk _ hz)
  have hq':∀ z∈q,0<=z/\z<1000:=fun z hz=>hq z (Dk _ hz)
  have wp:InW p:=fun z hz=>by have:=hp' z hz;omega
  have wq:InW q:=fun z hz=>by have:=hq' z hz;omega
  rcases Int.lt_trichotomy x y with c | c | c
  . rw [decide_eq_true (vV hl' wp wq c),decide_eq_true (vW hl' hp' hq' c)]
  . subst c
    rw [tD hl',yo hl',As hl' hp' hq']
  . rw [Dw (Int.lt_asymm (vV hl'.symm wq wp c)),Dw (Int.lt_asymm (vW hl'.symm hq' hp' c))]
 | [],_::_,hl,_,_=>by simp at hl
 | _::_,[],hl,_,_=>by simp at hl
theorem RgT.w {m:Nat} {k:List Int} (h:RgT m k):RgW m k:=⟨h.1,h.2.1,fun z hz=>by have:=h.2.2 z (List.mem_of_mem_tail hz);omega⟩
theorem BU {m:Nat} {p q:List Int} (hp:RgT m p) (hq:RgT m q) (h:kW p<=kW q):kT p<=kT q:=by
 have:=As (hq.1.trans hp.1.symm) hq.2.2 hp.2.2
 rw [Dw (Int.not_lt.mpr h)] at this
 exact Int.not_lt.mp (of_decide_eq_false this.symm)
theorem kH {h:Heap} {m:Nat}:∀ {vs:List Value} {ps:List (List Int)},(∀ p∈ps,RgW m p)->TT h vs ps->∃ fs:List Value,KatTups h vs fs/\fs.length=vs.length/\∀ f∈fs,∃ x t,f=.int x t
 | [],ps,_,x=>⟨[],trivial,rfl,fun f hf=>by cases hf⟩
 | v::vs,[],_,x=>by have:=x.1;simp at this
 | v::vs,p::ps,hr,x=>by
  obtain ⟨q,o,us,n,h1,h2,h3,h4,h5⟩:=x.2 0 p rfl
  have ev:v=.ref q:=by simpa using h1
  subst ev
  obtain ⟨fs,k,l,a⟩:=kH (h:=h) (m:=m) (vs:=vs) (ps:=ps) (fun p hp=>hr p (Dk _ hp)) ⟨by have:=x.1;simpa using this,fun i p' hp=>by
   obtain ⟨q,o,us,n,h1,r⟩:=x.2 (i+1) p' (by simpa using hp)
   exact ⟨q,o,us,n,by simpa using h1,r⟩⟩
  have rp:=hr p Dx
  obtain ⟨u0,t0,hu0⟩:∃ y t,us[0]? =some (.int y t):=by
   cases p with
   | nil=>have:=rp.1;have:=rp.2.1;simp at*;omega
   | cons y ys=>
    cases hu:us.toList with
    | nil=>rw [hu] at h5;exact h5.elim
    | cons u us'=>
     rw [hu] at h5
     obtain ⟨t,rfl⟩:=h5.1
     refine ⟨y,t,?_⟩
     rw [<- Dq,hu];rfl
  refine ⟨.int u0 t0::fs,KatTups.cons h2 h3 h4 hu0 k,by rw [DF,DF,l],fun f hf=>?_⟩
  rcases DI.mp hf with rfl | hf
  . exact ⟨_,_,rfl⟩
  . exact a f hf
def kfW (h:Heap) (x:Keyed):Int:=match x.1 with
 | .ref q=>match h.get? q with
  | some o=>match o.data with
   | .seq us _=>kW (us.toList.map numOf)
   | _=>0
  | none=>0
 | _=>0
def DW (h:Heap) (m:Nat) (x:Keyed):Prop:=∃ q o us n p,x.1=.ref q/\h.get? q=some o/\o.cls=.type "tuple"/\o.data=.seq us n/\IV us.toList p/\RgW m p
theorem tp {h:Heap} {x:Keyed} {q:Addr} {o:Obj} {us:Array Value} {n:Nat} {p:List Int} (e:x.1=.ref q) (ho:h.get? q=some o) (hd:o.data=.seq us n) (hv:IV us.toList p):kfW h x=kW p:=by
 unfold kfW
 rw [e]
 dsimp only
 rw [ho]
 dsimp only
 rw [hd]
 dsimp only
 rw [wP hv]
section
variable {prog:Program} {w:World} {A:Around} {E:Value->Shared->Prop} {s:Shared}
theorem Ak {C:Bool->Shared->Prop}:∀ {xs ys:List Int} {us vs:List Value} {i:Nat},xs.length=ys.length->InW xs.tail->InW ys.tail->IV us xs->IV vs ys->C (decide (kW xs<kW ys)) s->KatLex prog w A true false C (us.zip vs) i s
 | [],[],[],[],i,_,_,_,_,_,h=>kat_nil h
 | x::xs,y::ys,u::us,v::vs,i,hl,hx,hy,hu,hv,h=>by
  obtain ⟨⟨t1,rfl⟩,hu⟩:=hu
  obtain ⟨⟨t2,rfl⟩,hv⟩:=hv
  have hl':xs.length=ys.length:=by simpa using hl
  refine kat_cons (wpAny_eqBool_int (kat_go (fun c=>kat_yes ?_) (fun c=>kat_no ?_)))
  . have e:x=y:=beq_iff_eq.mp c
    subst e
    rw [tD hl'] at h
    exact Ak hl' (fun z hz=>hx z (List.mem_of_mem_tail hz)) (fun z hz=>hy z (List.mem_of_mem_tail hz)) hu hv h
  . have ne:x≠y:=fun z=>by rw [z,beq_self_eq_true] at c;cases c
    have e:decide (x<y)=decide (kW (x::xs)<kW (y::ys)):=by
     by_cases d:x<y
     . rw [decide_eq_true d,decide_eq_true (vV hl' hx hy d)]
     . rw [Dw d,Dw (Int.lt_asymm (vV hl'.symm hy hx (by omega)))]
    rw [<- e] at h
    cases i with
    | zero=>exact oneLt_int h
    | succ n=>exact kat_one _ _ (lt_int h)
 | [],[],_::_,_,_,_,_,_,h,_,_=>h.elim
 | [],[],[],_::_,_,_,_,_,_,h,_=>h.elim
 | _::_,_,[],_,_,_,_,_,h,_,_=>h.elim
 | _,_::_,_,[],_,_,_,_,_,h,_=>h.elim
 | [],_::_,_,_,_,hl,_,_,_,_,_=>by simp at hl
 | _::_,[],_,_,_,hl,_,_,_,_,_=>by simp at hl
theorem Aj (m:Nat):gT (model prog w) A E s (tuples' true) (kfW s.heap) (DW s.heap m):=fun x y st Q hx hy hκ h=>by
 obtain ⟨q1,o1,us1,n1,p1,e1,b1,c1,d1,v1,r1⟩:=hx
 obtain ⟨q2,o2,us2,n2,p2,e2,b2,c2,d2,v2,r2⟩:=hy
 rw [tp e1 b1 d1 v1,tp e2 b2 d2 v2] at h
 rw [lt'_eq]
 refine Dr (wpS_get ?_)
 rw [hκ,e1,e2]
 refine Dr (wpS_lift (wpAny_attempt ?_))
 refine kat_lt b1 d1 b2 d2 ?_
 have l1:=v1.len
 have l2:=v2.len
 rw [Dc] at l1 l2
 rw [Dw (show ¬ us1.size<us2.size by rw [l1,l2,r1.1,r2.1];omega)]
 exact Ak (r1.1.trans r2.1.symm) r1.2.2 r2.2.2 v1 v2 ⟨rfl,Dy h⟩
theorem BM {vs:List Value} {ps:List (List Int)} {m:Nat} (x:TT s.heap vs ps) (hr:∀ p∈ps,RgW m p):
    wpAny (model prog w) A ((sortRuns').run (SortSt.mk' (tuples' true) (vs.toArray.zip vs.toArray) #[] 7 none)) (fun r s'=>s'=s/\failedOf r.2=none/\∃ ix:List Nat,ix.Perm (List.range vs.length)/\ix.Pairwise (fun i j=>tu ps i<=tu ps j)/\
     (arrOf r.2).map (·.2)=List.toArray (ix.map fun i=>vs.getD i Value.none)) E s:=by
 have zl:(vs.toArray.zip vs.toArray).toList=vs.map fun v=>(v,v):=by
  apply List.ext_getElem
  . simp
  . intro i h1 h2;simp
 have item:∀ i,i<vs.length->kfW s.heap (vs.getD i Value.none,vs.getD i Value.none)=tu ps i/\DW s.heap m (vs.getD i Value.none,vs.getD i Value.none):=fun i hi=>by
  have hi':i<ps.length:=by rw [<- x.1];exact hi
  obtain ⟨q,o,us,n,a,b,c,d,v⟩:=x.2 i _ (C7 hi')
  have e:vs.getD i Value.none=.ref q:=by rw [C9,a];rfl
  have k:tu ps i=kW ps[i]:=by unfold tu;rw [C9,C7 hi'];rfl
  refine ⟨by rw [k];exact tp e b d v,q,o,us,n,ps[i],e,b,c,d,v,hr _ (DX hi')⟩
 have hD:∀ y∈(arrOf (SortSt.mk' (tuples' true) (vs.toArray.zip vs.toArray) #[] 7 none)).toList,DW s.heap m y:=fun y hy=>by
  have hy':y∈(vs.toArray.zip vs.toArray).toList:=hy
  rw [zl] at hy'
  obtain ⟨v,hv,rfl⟩:=DM.mp hy'
  obtain ⟨i,hi,rfl⟩:=DG.mp hv
  have:=(item i hi).2
  rw [C9,C7 hi] at this
  exact this
 refine wpAny_mono (mI (s:=s) (E:=E) (A:=A) (Aj m) hD rfl rfl rfl (Q:=fun _ st'=>failedOf st'=none/\∃ ix:List Nat,ix.Perm (List.range vs.length)/\ix.Pairwise (fun i j=>tu ps i<=tu ps j)/\(arrOf st').map (·.2)=List.toArray (ix.map fun i=>vs.getD i Value.none)) fun st' pm hf up=>?_) (fun r s' hq=>hq) fun _ _ e=>e
 have pl:(arrOf st').toList.Perm (vs.map fun v=>(v,v)):=by rw [<- zl];exact Ez.mp pm
 obtain ⟨ix,p1,e1⟩:=xW (Value.none,Value.none) pl
 rw [Da] at p1
 have e2:(arrOf st').toList=ix.map fun i=>(vs.getD i Value.none,vs.getD i Value.none):=by
  rw [e1]
  refine List.map_congr_left fun i hi=>?_
  have:i<vs.length:=by have:=p1.mem_iff.mp hi;simpa using this
  rw [C9,Di,C7 this,C9,C7 this];rfl
 refine ⟨hf,ix,p1,?_,?_⟩
 . unfold UpK at up
   rw [e2,List.pairwise_map] at up
   refine List.Pairwise.imp_of_mem (fun {i j} hi hj h=>?_) up
   have hi':i<vs.length:=by have:=p1.mem_iff.mp hi;simpa using this
   have hj':j<vs.length:=by have:=p1.mem_iff.mp hj;simpa using this
   rw [(item i hi').1,(item j hj').1] at h
   exact h
 . apply Array.toList_inj.mp
   rw [Array.toList_map,e2,List.map_map]
   rfl
theorem pZ {a:Addr} {vs:List Value} {ps:List (List Int)} {n m:Nat} {P:PySem.Fin->Shared->Prop} (ho:s.heap.get? a=some (seqObj "list" vs.toArray n)) (x:TT s.heap vs ps) (hr:∀ p∈ps,RgW m p) (h64:vs.length<=300)
    (q:∀ ix:List Nat,ix.Perm (List.range vs.length)->ix.Pairwise (fun i j=>tu ps i<=tu ps j)->P (.done (.ret .none)) { s with heap:=sortedHeap s.heap a vs (List.toArray (ix.map fun i=>vs.getD i Value.none)) }):
    wpAny (model prog w) A (Builtin.«list.sort» ⟨[.ref a],[]⟩) P E s:=by
 rw [list_sort_plain];have alt:a<s.heap.objs.size:=Dp ho
 refine C8 (listItems_at ho rfl (C8 (listUpdate_at ho rfl ?_)))
 obtain ⟨e1,b1⟩:∃ e1,(s.heap.update a (Obj.mapSeq fun _=>#[])).get? a=some (seqObj "list" #[] e1):=⟨_,get?_update_seq ho (fun _=>#[])⟩
 refine C8 (seqEpoch_at b1 rfl (C8 (wpAny_newTuple (C8 (wpAny_newList (Eo ?_))))))
 have b6:(((s.heap.update a (Obj.mapSeq fun _=>#[])).push (seqObj "tuple" vs.toArray 0)).push (seqObj "list" #[] 0)).get? a=some (seqObj "list" #[] e1):=Dd _ (Dd _ b1)
 have x6:TT (((s.heap.update a (Obj.mapSeq fun _=>#[])).push (seqObj "tuple" vs.toArray 0)).push (seqObj "list" #[] 0)) vs ps:=x.mv fun b o e hc=>by
  have ne:b≠a:=fun z=>by
   rw [z,ho] at e
   cases e
   exact absurd (Value.type.inj hc) (by decide)
  exact Dd _ (Dd _ (by rw [Heap.get?_update_ne _ _ _ _ ne];exact e))
 show wpAny (model prog w) A _ P E { s with heap:=((s.heap.update a (Obj.mapSeq fun _=>#[])).push (seqObj "tuple" vs.toArray 0)).push (seqObj "list" #[] 0) }
 dsimp only
 have hsz:vs.toArray.size=vs.length:=by simp
 by_cases h2:vs.toArray.size<2
 . rw [if_pos h2,if_pos h2]
   refine C8 (Df ?_);rw [StateT.run_pure];refine C8 (Df ?_)
   dsimp only
   refine C8 (seqEpoch_at b6 rfl (C8 (listUpdate_at b6 rfl ?_ (hsz2:=by rw [Array.size_map];show (pairsOf vs).size<=_;rw [pairsOf_size,sizeLine_eq];omega))))
   simp only [bne_self_eq_false,DJ,Es]
   have eo:(arrOf (SortSt.mk' general' (vs.toArray.zip vs.toArray) #[] 7 none)).map (·.2)=List.toArray ((List.range vs.length).map fun i=>vs.getD i Value.none):=by
    have ea:arrOf (SortSt.mk' general' (vs.toArray.zip vs.toArray) #[] 7 none)=vs.toArray.zip vs.toArray:=rfl
    rw [ea]
    exact yD (by omega)
   have fin:=q (List.range vs.length) (List.Perm.refl _) (AI (by omega))
   rw [<- eo] at fin
   exact Df fin
 . rw [if_neg h2,if_neg h2]
   have h2':2<=vs.length:=by omega
   obtain ⟨fs,kt,fl,fi⟩:=kH hr x6
   refine C8 (kat_kind (T:=.type "int") kt (by omega) (fun v hv=>?_) rfl ?_)
   . obtain ⟨y,t,rfl⟩:=fi v hv
     exact Looks.of_pure rfl
   show wpAny _ _ _ _ _ _
   have kx:(Value.type "int" !=Value.type "tuple")=true:=by rfl
   rw [kx]
   generalize hS:({ s with heap:=((s.heap.update a (Obj.mapSeq fun _=>#[])).push (seqObj "tuple" vs.toArray 0)).push (seqObj "list" #[] 0) }:Shared)=S at*
   have xS:TT S.heap vs ps:=by rw [<- hS];exact x6
   refine C8 (wpAny_mono (BM xS hr) (fun r s' hq=>?_) fun _ _ e=>e)
   obtain ⟨⟨⟩,st'⟩:=r
   obtain ⟨rfl,hf,ix,pml,pw,sn⟩:=hq
   subst hS
   dsimp only
   refine C8 (seqEpoch_at b6 rfl (C8 (listUpdate_at b6 rfl ?_ (hsz2:=by show ((arrOf st').map (·.2)).size<=_;rw [sn,Du,Da,pml.length_eq,DZ,sizeLine_eq];omega))))
   rw [show failedOf (st':SortSt)=none from hf]
   simp only [bne_self_eq_false,DJ,Es]
   have fin:=q ix pml pw
   rw [<- sn] at fin
   exact Df fin
theorem xz {v:Value} {vs:List Value} {ps:List (List Int)} {m:Nat} {Q:Value->Shared->Prop} (x:TT s.heap vs ps) (hr:∀ p∈ps,RgW m p) (h64:vs.length<=300)
    (hc:∀ R:List Value->Shared->Prop,(∀ (h1:Heap) (tk:Nat),(∀ b u,s.heap.get? b=some u->h1.get? b=some u)->R vs { s with heap:=h1,toks:=tk })->wpAny (model prog w) A.in1 (collect v) R E s)
    (q:∀ (h1:Heap) (tk:Nat) (ix:List Nat),(∀ b u,s.heap.get? b=some u->h1.get? b=some u)->ix.Perm (List.range vs.length)->ix.Pairwise (fun i j=>tu ps i<=tu ps j)->
     Q (.ref h1.objs.size) { s with heap:=sortedHeap (h1.push (seqObj "list" vs.toArray 0)) h1.objs.size vs (List.toArray (ix.map fun i=>vs.getD i Value.none)),toks:=tk }):
    wpAny (model prog w) A (call (.builtin "sorted") [v]) Q E s:=by
 refine Calls.call_function_entry kind_sorted plain_sorted entry_sorted (args_sorted1 _) ?_
 unfold Builtin.«sorted»;refine C8 (m:=checkCount "sorted" 1 1 _) (Df ?_)
 refine C8 (hc _ (fun h1 tk hk=>C8 (wpAny_newList ?_ (by rw [sizeLine_eq];omega))))
 have hL:(h1.push (seqObj "list" vs.toArray 0)).get? h1.objs.size=some (seqObj "list" vs.toArray 0):=Ds _ rfl
 have x1:TT (h1.push (seqObj "list" vs.toArray 0)) vs ps:=x.mv fun b o e _=>Dd _ (hk b o e)
 refine C8 (Eo (D8 slot_list_sort ⟨_,hL,rfl⟩ entry_list_sort (pZ (s:={ s with heap:=h1.push (seqObj "list" vs.toArray 0),toks:=tk }) hL x1 hr h64 fun ix a1 a2=>⟨_,rfl,?_⟩) (args_list_sort _)))
 exact Df ⟨_,rfl,q h1 tk ix hk a1 a2⟩
end
end BE
namespace L2
open PySem PySem.SeqAt PySem.Spec PyProof.Rows BE
section
variable {X:Cx}
theorem rM {pins:List (Addr×Obj)} {s:Shared} {σ:St} {H:Hp} {v:Value} {vs:List Value} {ws:List V} {m:Nat} {ks:List (List Int)} {Q:VK} (I:Inv X pins σ H s) (rv:ba ws vs) (tin:gs H ws ks) (hr:∀ k∈ks,RgW m k) (h300:ks.length<=300)
    (hc:∀ R:List Value->Shared->Prop,(∀ (h1:Heap) (tk:Nat),(∀ b u,s.heap.get? b=some u->h1.get? b=some u)->R vs { s with heap:=h1,toks:=tk })->wpAny (model X.prog X.w) X.A.in1 (collect v) R X.xe s)
    (q:∀ (l:Addr) (ws':List V) (ks':List (List Int)),H l=none->ks'.Perm ks->ks'.Pairwise (fun a b=>kW a<=kW b)->gs H ws' ks'->Q (.ref l) (upd H l (.lst ws'))):
    wpAny (model X.prog X.w) X.A (call (.builtin "sorted") [v]) (EP X pins σ Q) X.xe s:=by
 have hl:ws.length=vs.length:=rv.length
 have x:BE.TT s.heap vs ks:=⟨by rw [<- hl];exact tin.1,fun i p hi=>by
  obtain ⟨q,hq,hQ⟩:=tin.2 i p hi
  obtain ⟨u,hu,ru⟩:=rv.get hq
  cases ru
  obtain ⟨ts,rt,⟨o,ho,hc,m,hd⟩,_⟩:=I.tuple (SqT.of hQ)
  exact ⟨q,o,_,m,hu,ho,hc,hd,by simpa using yq rt⟩⟩
 refine BE.xz x hr (by rw [<- hl,tin.1];exact h300) hc fun h1 tk ix hk a1 a2=>?_
 rw [<- hl] at a1
 have lt:∀ i∈ix,i<ws.length:=fun i hi=>by
  have:=a1.mem_iff.mp hi
  simpa using this
 obtain ⟨c,hc'⟩:=sortedHeap_at (h:=h1.push (seqObj "list" vs.toArray 0)) (a:=h1.objs.size) (vs:=vs) (n:=0) (out:=List.toArray (ix.map fun i=>vs.getD i Value.none)) (Ds _ rfl)
 have I1:Inv X pins σ H { s with heap:=h1,toks:=tk }:=I.kept (t':=tk) hk
 have lx:ix.length=ws.length:=by rw [a1.length_eq,DZ]
 have pp:(ix.map fun i=>ks.getD i []).Perm ks:=by
  have h1:=a1.map fun i=>ks.getD i []
  rw [tin.1] at h1
  have h2:(List.range ks.length).map (fun i=>ks.getD i [])=ks:=by
   apply List.ext_getElem
   . simp
   . intro i k1 k2
     simp [C9,k2]
  rw [h2] at h1
  exact h1
 have zs:ws.length<=sizeLine:=by rw [tin.1,sizeLine_eq];omega
 refine ⟨.ref h1.objs.size,_,I1.laid (o:=.lst (ix.map fun i=>ws.getD i .non)) (t':=tk) (BE.kL fun _ _ e=>e) (Dh _) ?_,rfl,
  q _ (ix.map fun i=>ws.getD i .non) (ix.map fun i=>ks.getD i []) (I1.hok.fresh (Dh _)) pp (List.pairwise_map.mpr a2) ⟨by rw [Da,Da],fun i p hi=>?_⟩⟩
 . refine ⟨by rw [Da,lx];exact zs,_,c,kE rv ix lt,hc'⟩
 . rw [Di] at hi
   cases ei:ix[i]? with
   | none=>rw [ei] at hi;cases hi
   | some k=>
    rw [ei] at hi
    have hk':k<ws.length:=lt k (Dj ei)
    have hkp:k<ks.length:=by rw [<- tin.1];exact hk'
    obtain ⟨q',hq',hQ'⟩:=tin.2 k _ (C7 hkp)
    have ep:ks[k]=p:=by
     have:(ks.getD k [])=p:=Dg hi
     rw [C9,C7 hkp] at this
     exact this
    refine ⟨q',?_,by rw [<- ep];exact hQ'⟩
    rw [Di,ei]
    show some (ws.getD k .non)=_
    rw [C9,hq'];rfl
theorem zS {m:Nat} {ks:List (List Int)} (hr:∀ k∈ks,RgT m k) (h:ks.Pairwise (fun a b=>kW a<=kW b)):ks.Pairwise leT:=List.Pairwise.imp_of_mem (fun ha hb h=>BU (hr _ ha) (hr _ hb) h) h
def tlP (p:Int×Int):List Int:=[p.1,p.2]
theorem nY:dF X (.builtin "sorted") zN:=by
 intro pins s σ H xs us Q I r h
 obtain ⟨a,ws,ps,rfl,ha,hp,hr,h64,q⟩:=h
 obtain ⟨u,rfl,rfl⟩:=gY r
 obtain ⟨z,its,n,rv,hl,e⟩:=I.lstM ha
 refine rM (ks:=ps.map tlP) (m:=2) I rv ⟨by rw [Da];exact hp.1,fun i k hk=>?_⟩ (fun k hk=>?_) (by rw [Da];omega) (fun R hR=>?_) fun l ws' ks' hl pm pw tin=>?_
 . rw [Di] at hk
   obtain ⟨p,hp1,rfl⟩:=Option.map_eq_some_iff.mp hk
   exact hp.2 i p hp1
 . obtain ⟨p,hp1,rfl⟩:=DM.mp hk
   have:=hr p hp1
   exact ⟨rfl,by omega,fun z hz=>by rw [show z=p.2 by simpa [tlP] using hz];exact this⟩
 . exact wpAny_collect_seq a (.inl rfl) e rfl rfl (fun h1 hk=>by have:=hR h1 s.toks hk;simpa using this) (by rw [sizeLine_eq,Du,<- hl,hp.1];omega)
 . have back:∀ ks:List (List Int),(∀ k∈ks,∃ p,k=tlP p)->∃ qs:List (Int×Int),ks=qs.map tlP:=by
     intro ks
     induction ks with
     | nil=>exact fun _=>⟨[],rfl⟩
     | cons k ks ih=>
      intro h
      obtain ⟨p,rfl⟩:=h k Dx
      obtain ⟨qs,rfl⟩:=ih fun k hk=>h k (Dk _ hk)
      exact ⟨p::qs,rfl⟩
   obtain ⟨qs,rfl⟩:=back ks' fun k hk=>let ⟨p,_,e⟩:=DM.mp (pm.mem_iff.mp hk);⟨p,e.symm⟩
   have inj:∀ p q:Int×Int,tlP p=tlP q->p=q:=fun p q e=>by
    unfold tlP at e
    injection e with e1 e2
    injection e2 with e2 _
    exact Prod.ext e1 e2
   have pm':qs.Perm ps:=by
    have h:=pm.map fun k:List Int=>(k.getD 0 0,k.getD 1 0)
    rw [List.map_map,List.map_map] at h
    have e:((fun k:List Int=>(k.getD 0 0,k.getD 1 0)) ∘ tlP)=id:=rfl
    rw [e,List.map_id,List.map_id] at h
    exact h
   refine q l ws' qs hl pm' ((List.pairwise_map.mp pw).imp fun {p q} h=>?_) ⟨by rw [<- tin.1.symm,Da],fun i p hp1=>tin.2 i (tlP p) (by rw [Di,hp1];rfl)⟩
   show kP p<=kP q
   simp only [tlP,kW,DF,List.length_nil] at h
   unfold kP
   omega
theorem nZ (hc:X.calm=true):dF X (.builtin "sorted") zP:=by
 intro pins s σ H xs us Q I r h
 obtain ⟨a,kvs,m,ks,rfl,ha,hks,hr,h64,q⟩:=h
 obtain ⟨u,rfl,rfl⟩:=gY r
 obtain ⟨z,hn,es0,rel,o,es,ep,ho,hx,hd,hes,_,_⟩:=AS I.hok ha
 have kl:kvs.length=ks.length:=by have:=Ee List.length hks;simpa using this
 have xl:=An rel
 let its:List Value:=es0.map fun x=>Value.ref x.2.1
 let ws:List V:=es0.map fun x=>V.ref x.2.1
 have hits:es.toList.map (·.key)=its:=by rw [hes,List.map_map];rfl
 have tin:gs H ws ks:=⟨by rw [Da];omega,fun i k hi=>by
  have:(kvs.map (·.1))[i]? =some (k.map Sum.inl):=by rw [hks,Di,hi];rfl
  rw [Di] at this
  obtain ⟨kv,hkv,e⟩:=Option.map_eq_some_iff.mp this
  obtain ⟨x,hx',hq⟩:=BV rel hkv
  refine ⟨x.2.1,by rw [Di,hx'];rfl,?_⟩
  rw [hq,e,List.map_map];rfl⟩
 have rv:ba ws its:=by
  have:∀ l:List (List Key×Addr×Value),ba (l.map fun x=>V.ref x.2.1) (l.map fun x=>Value.ref x.2.1):=by
   intro l
   induction l with
   | nil=>exact .nil
   | cons y l ih=>exact .cons rfl ih
  exact this es0
 have hl:ws.length=its.length:=by rw [Da,Da]
 refine rM (m:=m) I rv tin (fun k hk=>(hr k hk).w) (by omega) (fun R hR=>?_) fun l ws' ks' hl pm pw tin'=>q l ws' ks' hl pm (zS (fun k hk=>hr k (pm.mem_iff.mp hk)) pw) tin'
 have szs:es.size=es0.length:=by rw [<- Dc,hes,Da]
 refine PySem.W.kdu_collect (BE.u7 (es:=es) (ep:=ep) hn) (I.ok.hd hc) ⟨o,ho,hx,hd⟩ (by rw [szs,sizeLine_eq];omega) fun h' tk acc kp it=>?_
 have e:acc.toList=its:=by
  rw [<- hits]
  apply Er
  intro j
  rw [Dq,Di,Dq]
  cases h:acc[j]? with
  | none=>
   rw [Array.getElem?_eq_none (show es.size<=j by rw [<- it.1];exact Array.getElem?_eq_none_iff.mp h)];rfl
  | some v=>
   obtain ⟨e,he,rfl⟩:=it.2 j v h
   rw [he];rfl
 rw [e]
 exact hR h' tk kp
theorem nv {e:Expr} {te:TE} {p1 p2 c1 c2:Pos} (hc:X.calm=true) (hu:X.A.units+65<cLine) (hg1:Gl X "sorted") (hm1:X.mg "sorted"=none) (hg2:Gl X "set") (hm2:X.mg "set"=none) (ha:PE X e te)
    (hs:starEach [e] X.env=[(false,eval e X.env)]:=by rfl) (hs1:starEach [.Call (.Name "set" p2) [e] [] c2] X.env=[(false,eval (.Call (.Name "set" p2) [e] [] c2) X.env)]:=by rfl):
    PE X (.Call (.Name "sorted" p1) [.Call (.Name "set" p2) [e] [] c2] [] c1) (tCB xL (uZ te Bd)):=by
 intro pins s σ H Q I h
 refine wpAny_Call_Name_kw (fj I hg1 hm1 (by decide+kernel:bootBuiltins "sorted"=some (.builtin "sorted")) ?_)
 refine PyProof.Rows.callWith_builtin1 ?_ hs1 rfl
 rw [hs1]
 refine Calls.spliced_cons ?_
 refine wpAny_Call_Name_kw (fj I hg2 hm2 A1 ?_)
 refine Ew (thn (ad ha af hs c2 pins s σ H _ I h) fun us s1 ⟨vs,H1,I1,r1,q1⟩=>?_) hs rfl
 obtain ⟨a,ws,m,ks,rfl,hH,tin,hr,h300,q⟩:=q1
 obtain ⟨u,rfl,rfl⟩:=gY r1
 obtain ⟨z,its,n,rv,hl,he⟩:=I1.lstM hH
 have kl:its.length=ks.length:=by rw [<- hl];exact tin.1
 have atI:∀ i,i<its.length->∃ b,its[i]? =some (.ref b)/\H1 b=some (.tup ((ks.getD i []).map V.int)):=fun i hi=>by
  have hk:ks[i]? =some ks[i]:=C7 (by omega)
  obtain ⟨b,hb,hB⟩:=tin.2 i _ hk
  obtain ⟨u,hu',ru⟩:=rv.get hb
  cases ru
  exact ⟨b,hu',by rw [C9,hk];exact hB⟩
 have hsel:∃ bs:Nat->Addr,∀ i,i<its.length->its[i]? =some (.ref (bs i))/\H1 (bs i)=some (.tup ((ks.getD i []).map V.int)):=
  ⟨fun i=>if h:i<its.length then Classical.choose (atI i h) else 0,fun i h=>by simp only [dif_pos h];exact Classical.choose_spec (atI i h)⟩
 obtain ⟨bs,hbs⟩:=hsel
 have isT:∀ {b:Addr} {k:List Int},H1 b=some (.tup (k.map V.int))->(BE.tk X.prog X.w).is s1.heap k b:=fun {b k} hb=>by
  obtain ⟨ts,rt,⟨o,ho,hc,m,hd⟩,_⟩:=I1.tuple (SqT.of hb)
  exact ⟨o,_,m,ho,hc,hd,BE.Au (by simpa using yq rt)⟩
 have hz:its.toArray.size=its.length:=Du
 refine BE.xD (val:=fun i=>ks.getD i []) (bs:=bs) (I1.ok.hd hc) ⟨_,he,rfl,n,rfl⟩ (fun i hi=>?_) (by rw [hz];omega) (by omega) fun h' tk hS hk=>?_
 . rw [hz] at hi
   exact ⟨by rw [Ev];exact (hbs i hi).1,isT (hbs i hi).2⟩
 refine Calls.spliced_nil ?_
 obtain ⟨es,ep,t,ks1,S,pm,lo⟩:=hS
 rw [hz] at pm lo
 have I2:Inv X pins σ H1 { s1 with heap:=h',toks:=tk }:=I1.kept hk
 have sd0:BE.yW (fun (e:Int×Value) (k:List Int)=>∃ b,e.2=.ref b/\H1 b=some (.tup (k.map V.int))) es.toList ks1:=by
  refine BE.mV (by rw [Dc];exact S.kl.symm) fun i k hk1=>?_
  obtain ⟨b,h1,h2⟩:=S.el i k hk1
  have h1':es.toList[i]? =some ((BE.tk X.prog X.w).hash k,Value.ref b):=by rw [Dq];exact h1
  refine ⟨_,h1',b,rfl,?_⟩
  obtain ⟨b',eb,j,hj,ej⟩:=lo _ (Dj h1')
  have ebb:b=b':=by injection eb
  have hB:=(hbs j hj).2
  rw [<- ej,<- ebb] at hB
  have kk:=(BE.tk X.prog X.w).inj h2 (BE.mP (isT hB) (hk b))
  rw [kk];exact hB
 obtain ⟨ps,sd,pp1⟩:=BE.kN (BE.kQ X.w s1.heap.objs.size ep es).symm sd0
 obtain ⟨sl,sa⟩:=BE.mW sd
 generalize hV:(BE.seen X.w s1.heap.objs.size ep es).toList.map (·.2)=vs
 have vl:vs.length=ps.length:=by rw [<- hV,Da];exact sl
 have va:∀ (i:Nat) (k:List Int),ps[i]? =some k->∃ b,vs[i]? =some (.ref b)/\H1 b=some (.tup (k.map V.int)):=fun i k hk1=>by
  obtain ⟨e,he,b,hb,hB⟩:=sa i k hk1
  exact ⟨b,by rw [<- hV,Di,he];exact Ee some hb,hB⟩
 have pk:∀ k,k∈ps ↔ k∈ks:=fun k=>by
  rw [<- pp1.mem_iff,pm.mem_iff,BE.oS]
  constructor
  . rintro ⟨i,hi,rfl⟩
    rw [C9,C7 (by omega:i<ks.length)]
    exact DX _
  . intro hk1
    obtain ⟨i,hi,ei⟩:=DG.mp hk1
    exact ⟨i,by omega,by rw [C9,C7 hi];exact ei⟩
 have pnd:ps.Nodup:=pp1.nodup_iff.mp S.nd
 have pl:ps.length<=300:=DP (BE.lC pnd fun x hx=>(pk x).mp hx) h300
 have sts:=S.st
 have rv2:ba (vs.map toV) vs:=kD fun v hv=>by
  obtain ⟨i,hi,rfl⟩:=DG.mp hv
  obtain ⟨b,hb,_⟩:=va i _ (C7 (by omega))
  rw [C7 hi] at hb
  exact ⟨b,Dg hb⟩
 have tin2:gs H1 (vs.map toV) ps:=⟨by rw [Da];exact vl,fun i k hk1=>by
  obtain ⟨b,hb,hB⟩:=va i k hk1
  exact ⟨b,by rw [Di,hb];rfl,hB⟩⟩
 have rgp:∀ p∈ps,RgT m p:=fun p hp=>hr p ((pk p).mp hp)
 refine rM (m:=m) I2 rv2 tin2 (fun p hp=>(rgp p hp).w) pl (fun R hR=>?_) fun l ws' ks' hl pm2 pw tin'=>q l ws' ks' hl (fun k=>pm2.mem_iff.trans (pk k)) (pm2.nodup_iff.mpr pnd) (zS (fun k hk=>rgp k (pm2.mem_iff.mp hk)) pw) tin'
 refine PySem.W.kdu_collect (BE.u6 (es:=es) (ep:=ep) (t:=t)) (I2.ok.hd hc) sts (by rw [sizeLine_eq];have:=S.kl;have:=pp1.length_eq;omega) fun h2 tk2 acc kp it=>?_
 have e:acc.toList=vs:=by
  rw [<- hV]
  exact BE.vX (by
   rw [Dc,BE.eQ]
   exact ⟨it.1,fun i v hv=>by
    obtain ⟨e,he,hve⟩:=it.2 i v hv
    exact ⟨e,by rw [Dq];exact he,hve⟩⟩)
 rw [e]
 exact hR h2 tk2 kp
end
end L2
namespace Be.G
open PySem L2
section
variable {P:Program} {w:World} {K:PySem.W.Frag} {mg:Str->Option Value} {base:Heap}
def enp (ls:List Int):List (Int×Int):=(List.range ls.length).map fun (k:Nat)=>(ls.getD k 0,(k:Int))
theorem kh (ls:List Int):(enp ls).length=ls.length:=by unfold enp;rw [Da,DZ]
theorem AQ {ls:List Int} {i:Nat} {x:Int} (h:ls[i]? =some x):(enp ls)[i]? =some (x,(i:Int)):=by
 have hi:=(Db.mp h).1
 unfold enp
 rw [Di,List.getElem?_range hi]
 show some (ls.getD i 0,(i:Int))=_
 rw [C9,h];rfl
theorem yF {ls:List Int} {p:Int×Int} (h:p∈enp ls):0<=p.2/\p.2<(ls.length:Int)/\p.1=ls.getD p.2.toNat 0:=by
 obtain ⟨k,hk,rfl⟩:=DM.mp h
 have:=DQ.mp hk
 refine ⟨by show (0:Int)<=(k:Int);omega,by show (k:Int)<_;omega,?_⟩
 show ls.getD k 0=ls.getD ((k:Int)).toNat 0
 rw [Dz]
theorem ud {ls:List Int} (h10:ls.length<=10) {ps:List (Int×Int)} (pm:ps.Perm (enp ls)):∀ p∈ps,BE.RgP p:=fun p hp=>by
 have:=yF (pm.mem_iff.mp hp)
 exact ⟨this.1,by omega⟩
theorem _root_.L2.bM.ts {H H':Hp} {ws:List V} {ps:List (Int×Int)} (x:bM H ws ps) (g:bG H H'):bM H' ws ps:=⟨x.1,fun i p hp=>by
 obtain ⟨q,h1,h2⟩:=x.2 i p hp
 exact ⟨q,h1,g _ _ h2⟩⟩
theorem _root_.L2.bM.snoc {H:Hp} {ws:List V} {ps:List (Int×Int)} {q:Addr} {p:Int×Int} (x:bM H ws ps) (h:H q=some (.tup [.int p.1,.int p.2])):bM H (ws++[.ref q]) (ps++[p]):=by
 refine ⟨by simp [x.1],fun i p' hp=>?_⟩
 by_cases c:i<ps.length
 . rw [DL c] at hp
   obtain ⟨q',h1,h2⟩:=x.2 i p' hp
   exact ⟨q',by rw [DL (by rw [x.1];exact c)];exact h1,h2⟩
 . have hl:=(Db.mp hp).1
   rw [Dm] at hl
   simp only [DF,List.length_nil] at hl
   have e:i=ps.length:=by omega
   subst e
   rw [DH (Dh _),Nat.sub_self] at hp
   have:p=p':=by simpa using hp
   subst this
   exact ⟨q,by rw [DH (by rw [x.1];exact Dh _),x.1,Nat.sub_self];rfl,h⟩
theorem _root_.L2.bM.at {H:Hp} {ws:List V} {ps:List (Int×Int)} (x:bM H ws ps) {i:Nat} {u:V} (h:ws[i]? =some u):∃ (p:Int×Int) (q:Addr),ps[i]? =some p/\u=.ref q/\H q=some (.tup [.int p.1,.int p.2]):=by
 have hi:=(Db.mp h).1
 have hp:i<ps.length:=by rw [<- x.1];exact hi
 obtain ⟨q,h1,h2⟩:=x.2 i _ (C7 hp)
 rw [h] at h1
 exact ⟨_,q,C7 hp,Dg h1,h2⟩
theorem rN {a b:List (Int×Int)} (p:a.Perm b) (ha:a.Pairwise leP) (hb:b.Pairwise leP) (hr:∀ x∈a,BE.RgP x):a=b:=by
 refine List.Perm.eq_of_pairwise (fun x y hx hy h1 h2=>?_) ha hb p
 have r1:=hr x hx
 have r2:=hr y (p.mem_iff.mpr hy)
 unfold leP BE.kP at h1 h2
 unfold BE.RgP at r1 r2
 have e1:x.1=y.1:=by omega
 have e2:x.2=y.2:=by omega
 exact Prod.ext e1 e2
def rK:Sp:=fun vs H Q _=>∃ (v:V) (t:Addr) (W:Wd) (ls:List Int),vs=[v,.ref t]/\Rep H v (cv W)/\W.Ok/\H t=some (.tup (ls.map V.int))/\InB W ls/\
 ∀ (p a l:Addr) (ps:List (Int×Int)) (H':Hp),aM H H'->ps.Perm (enp (ens W.b.toNat ls))->ps.Pairwise leP->H' p=some (.tup [.ref a,.ref l])->H' a=some (.tup ((ps.map fun p=>p.2).map V.int))->H' l=some (.lst ((ps.map fun p=>p.1).map V.int))->Q (.ref p) H'
set_option maxHeartbeats 1000000 in
theorem iq (T:Txt K mg):bP P w K mg base (CXr P w) 7 T.played.a T.played.d ["world","lengths"] rK:=by
 refine T.played.F.okN kU (fun vs H Q E h=>?_) (fun cdv A outer s H vs Q E hr h=>?_)
 . obtain ⟨v,t,W,ls,rfl,_⟩:=h;rfl
 obtain ⟨v,t,W,ls,rfl,hW,hok,ht,hin,q⟩:=h
 refine ⟨_,(ai (bn (aj (gE T) (hr.mono (by decide)) rfl T.check_lengths.m T.check_lengths.F.kp T.check_lengths.b .nil aw (ad (pv 0) (ad (pv 1) af)))) (ai (aD (i:=2) kU.nd rfl (by first|exact .inl rfl|exact .inr rfl) (az nY rfl T.n_sorted mq (ad (bS (NB:=["work","part"]) (js:=[none,none]) rfl (bA rfl (by decide+kernel) rfl (by decide+kernel) (by decide+kernel) (by with_unfolding_all rfl) (by with_unfolding_all rfl) (by with_unfolding_all rfl) (by with_unfolding_all rfl)) (oF rfl T.n_enumerate (ad (aj (nA T) (hr.mono (by decide)) rfl T.taken_up.m T.taken_up.F.kp T.taken_up.b .nil aw (ad (pv 0) (ad (pv 1) af))) af)) (fun _ _ _ _=>(df K (n:=2) rfl (aP (aC (i:=0) (show (["work","part"]:List Str).Nodup by decide+kernel) rfl (by first|exact .inl rfl|exact .inr rfl)) (aP (aC (i:=1) (show (["work","part"]:List Str).Nodup by decide+kernel) rfl (by first|exact .inl rfl|exact .inr rfl)) cI)))) (fun _ _ _ _=>dk) (fun _ _ _ _=>(bV (ad (aO (fC K) (pv 1) ap (fun _ _=>rfl)) (ad (pv 0) af))))) af))) (am (aB (bV (ad (cz cZ rfl T.n_tuple de (ad (bS (NB:=["moment","work"]) (js:=[none,none]) rfl (bA rfl (by decide+kernel) rfl (by decide+kernel) (by decide+kernel) (by with_unfolding_all rfl) (by with_unfolding_all rfl) (by with_unfolding_all rfl) (by with_unfolding_all rfl)) (cj (pv 2)) (fun _ _ _ _=>(df K (n:=2) rfl (aP (aC (i:=0) (show (["moment","work"]:List Str).Nodup by decide+kernel) rfl (by first|exact .inl rfl|exact .inr rfl)) (aP (aC (i:=1) (show (["moment","work"]:List Str).Nodup by decide+kernel) rfl (by first|exact .inl rfl|exact .inr rfl)) cI)))) (fun _ _ _ _=>dk) (fun _ _ _ _=>(pv 1))) af)) (ad (bS (NB:=["moment","work"]) (js:=[none,none]) rfl (bA rfl (by decide+kernel) rfl (by decide+kernel) (by decide+kernel) (by with_unfolding_all rfl) (by with_unfolding_all rfl) (by with_unfolding_all rfl) (by with_unfolding_all rfl)) (cj (pv 2)) (fun _ _ _ _=>(df K (n:=2) rfl (aP (aC (i:=0) (show (["moment","work"]:List Str).Nodup by decide+kernel) rfl (by first|exact .inl rfl|exact .inr rfl)) (aP (aC (i:=1) (show (["moment","work"]:List Str).Nodup by decide+kernel) rfl (by first|exact .inl rfl|exact .inr rfl)) cI)))) (fun _ _ _ _=>dk) (fun _ _ _ _=>(pv 0))) af))))))),?_⟩
 have hl10:=hin.l10 hok
 refine ⟨_,rfl,_,rfl,v,t,W,ls,rfl,hW,hok,ht,hin,fun H1 g1=>?_⟩
 refine ⟨_,rfl,_,rfl,v,t,W,ls,rfl,hW.mono g1,hok,g1 _ _ ht,hl10,fun le ws H2 g2 fle hle rs=>?_⟩
 have el:=eE W.b.toNat ls
 refine ⟨le,_,rfl,SqL.of hle,fun D hD=>?_⟩
 refine nX (K:=K) (a:=le) (xs:=ws) (fun i ys H3=>aM H2 H3/\H3 D=some (.lst ys)/\bM H3 ys ((enp (ens W.b.toNat ls)).take i)) ⟨ak hD _,ah,rfl,fun i p hp=>by simp at hp⟩ (fun i ys H3 _ hP=>SqL.of (hP.1 _ _ hle)) (fun i ys v p H3 hv hp hP=>?_) (fun ys H3 hP=>?_)
 . obtain ⟨g,hD2,pin⟩:=hP
   obtain ⟨t3,q3,ht3,rfl,hq3⟩:=Bq (rs.mono g) hv
   have hx:(ens W.b.toNat ls)[i]? =some t3.2.2:=by unfold ens;rw [Di,ht3];rfl
   have hi:i<ls.length:=by rw [<- el];exact (Db.mp hx).1
   have gp:=ak hp (.tup [.int i,.ref q3])
   have wl:=pin.1
   rw [Dv,kh] at wl
   refine ⟨p,_,rfl,SqT.of ah,rfl,_,_,rfl,_,_,rfl,rfl,mD,cg ⟨_,rfl,q3,_,_,_,rfl,rfl,SqT.of (gp _ _ hq3),rfl,_,rfl,by show 2<=sizeLine;decide,fun pe hpe=>?_⟩⟩
   have ge:=ak hpe (.tup [.int t3.2.2,.int i])
   have g3:=g.trans (gp.trans ge)
   refine ⟨(gp.trans ge) _ _ hD2,Do (show ys.length<100 by omega) (by decide),g3.write hD _,ah,?_⟩
   rw [bE (AQ hx)]
   have ts:=(gp.trans ge).ts.trans (bG.lst ((gp.trans ge) _ _ hD2) (.lst (ys++[.ref pe])))
   refine (pin.ts ts).snoc ?_
   exact (bG.lst ((gp.trans ge) _ _ hD2) (.lst (ys++[.ref pe]))) _ _ ah
 . obtain ⟨g,hD2,pin⟩:=hP
   have wl:=rs.length
   rw [Da,kI] at wl
   rw [wl,DA (by rw [kh,el];exact Dh _)] at pin
   refine ⟨D,ys,enp (ens W.b.toNat ls),rfl,hD2,pin,ud (by rw [el];exact hl10) (List.Perm.refl _),by rw [kh,el];omega,fun l ws' ps' hl pm pw pin'=>?_⟩
   have gl:=ak hl (.lst ws')
   have pin2:=pin'.ts gl.ts
   have hl2:upd H3 l (.lst ws') l=some (.lst ws'):=ah
   generalize upd H3 l (.lst ws')=H5 at*
   have plen:ps'.length=ls.length:=by rw [pm.length_eq,kh,el]
   refine ⟨_,rfl,l,rfl,⟨_,SqL.of hl2⟩,fun D2 hD2=>?_⟩
   refine bR (K:=K) (a:=l) (xs:=ws') (fun i ys H4=>aM H5 H4/\H4 D2=some (.lst ys)/\ys=((ps'.take i).map fun p=>p.2).map V.int) ⟨ak hD2 _,ah,rfl⟩ (fun i ys H4 _ hP=>SqL.of (hP.1 _ _ hl2)) (fun i ys y H4 hy hP=>?_) (fun ys H4 hP=>?_)
   . obtain ⟨g4,hz,rfl⟩:=hP
     obtain ⟨pp,qq,hpp,rfl,hq⟩:=(pin2.ts g4.ts).at hy
     refine ⟨qq,_,rfl,SqT.of hq,rfl,_,_,rfl,_,_,rfl,rfl,mD,cg ⟨_,rfl,hz,?_,g4.write hD2 _,ah,lK hpp _⟩⟩
     rw [Da,Da]
     have:=List.length_take_le' i ps'
     exact Do (show _<100 by omega) (by decide)
   obtain ⟨gA,hz,rfl⟩:=hP
   rw [pin'.1,DE] at hz
   refine ⟨D2,_,rfl,.inl ⟨SqL.of hz,fun pt hpt=>?_⟩⟩
   have gB:=gA.trans (ak hpt (.tup ((ps'.map fun p=>p.2).map V.int)))
   have ept:upd H4 pt (.tup ((ps'.map fun p=>p.2).map V.int)) pt=some (.tup ((ps'.map fun p=>p.2).map V.int)):=ah
   generalize upd H4 pt (.tup ((ps'.map fun p=>p.2).map V.int))=H6 at*
   have hl6:=gB _ _ hl2
   have pin6:=pin2.ts gB.ts
   refine ⟨_,rfl,l,rfl,⟨_,SqL.of hl6⟩,fun D3 hD3=>?_⟩
   refine bR (K:=K) (a:=l) (xs:=ws') (fun i ys H4=>aM H6 H4/\H4 D3=some (.lst ys)/\ys=((ps'.take i).map fun p=>p.1).map V.int) ⟨ak hD3 _,ah,rfl⟩ (fun i ys H4 _ hP=>SqL.of (hP.1 _ _ hl6)) (fun i ys y H4 hy hP=>?_) (fun ys H4 hP=>?_)
   . obtain ⟨g4,hz,rfl⟩:=hP
     obtain ⟨pp,qq,hpp,rfl,hq⟩:=(pin6.ts g4.ts).at hy
     refine ⟨qq,_,rfl,SqT.of hq,rfl,_,_,rfl,_,_,rfl,rfl,mD,cg ⟨_,rfl,hz,?_,g4.write hD3 _,ah,lK hpp _⟩⟩
     rw [Da,Da]
     have:=List.length_take_le' i ps'
     exact Do (show _<100 by omega) (by decide)
   obtain ⟨gC,hz3,rfl⟩:=hP
   rw [pin'.1,DE] at hz3
   refine ⟨by show 2<=sizeLine;decide,fun pr hpr=>?_⟩
   have gD:=ak hpr (.tup [.ref pt,.ref D3])
   exact q pr pt D3 ps' _ (g1.trans (g2.trans (g.trans (gl.trans (gB.trans (gC.trans gD)))))) pm pw ah (gD _ _ (gC _ _ ept)) (gD _ _ hz3)
end
end Be.G
namespace Be
theorem Ai {f:List Int} {x:Int} (hx:0<=x) (hne:f≠[]):∀ y∈nxt f x,mn f<=y:=fun y hy=>by
 unfold nxt at hy
 rcases List.mem_or_eq_of_mem_set hy with h | h
 . exact vP h
 . omega
theorem sW {f:List Int} {x:Int} (hx:0<=x) (hne:f≠[]):mn f<=mn (nxt f x):=Ai hx hne _ (je (iu hne))
theorem v6:∀ {ls f:List Int},(∀ x∈ls,0<=x)->f≠[]->∀ y∈fr f ls,mn f<=y
 | [],f,_,_,y,hy=>vP hy
 | x::ls,f,h,hne,y,hy=>by
  have a:=v6 (ls:=ls) (f:=nxt f x) (fun z hz=>h z (by simp [hz])) (iu hne) y hy
  have b:=sW (h x (by simp)) hne
  omega
theorem wo:∀ {ls f:List Int},(∀ x∈ls,0<=x)->f≠[]->∀ y∈(tk f ls).map (fun t=>t.2.1),mn f<=y
 | [],f,_,_,y,hy=>by simp [tk] at hy
 | x::ls,f,h,hne,y,hy=>by
  rcases DI.mp (show y∈mn f::(tk (nxt f x) ls).map (fun t=>t.2.1) from hy) with e | hy
  . omega
  have a:=wo (ls:=ls) (f:=nxt f x) (fun z hz=>h z (by simp [hz])) (iu hne) y hy
  have b:=sW (h x (by simp)) hne
  omega
theorem uE:∀ {ls f:List Int},(∀ x∈ls,0<=x)->f≠[]->((tk f ls).map (fun t=>t.2.1)).Pairwise (·<=·)/\∀ a∈(tk f ls).map (fun t=>t.2.1),∀ y∈fr f ls,a<=y
 | [],f,_,_=>⟨by simp [tk],by simp [tk]⟩
 | x::ls,f,h,hne=>by
  have h':∀ z∈ls,0<=z:=fun z hz=>h z (by simp [hz])
  obtain ⟨p,q⟩:=uE (ls:=ls) (f:=nxt f x) h' (iu hne)
  have b:=sW (h x (by simp)) hne
  refine ⟨?_,fun a ha y hy=>?_⟩
  . show (mn f::(tk (nxt f x) ls).map (fun t=>t.2.1)).Pairwise (·<=·)
    rw [List.pairwise_cons]
    exact ⟨fun y hy=>by have:=wo h' (iu hne) y hy;omega,p⟩
  . rcases DI.mp (show a∈mn f::(tk (nxt f x) ls).map (fun t=>t.2.1) from ha) with e | ha
    . have:=v6 h' (iu hne) y hy
      omega
    . exact q a ha y hy
theorem kq:∀ {ls f:List Int},f≠[]->((tk f ls).map (fun t=>t.2.1)++fr f ls).Perm (f++(tk f ls).map (fun t=>t.2.2))
 | [],f,_=>by show ([]++f).Perm (f++[]);rw [D7];exact List.Perm.refl _
 | x::ls,f,hne=>by
  have ih:=kq (ls:=ls) (f:=nxt f x) (iu hne)
  obtain ⟨r,p1,p2⟩:=oy (v:=mn f+x) (sA hne)
  show (mn f::((tk (nxt f x) ls).map (fun t=>t.2.1)++fr (nxt f x) ls)).Perm (f++(mn f+x)::(tk (nxt f x) ls).map (fun t=>t.2.2))
  refine (ih.cons (mn f)).trans ?_
  refine (((show (nxt f x).Perm ((mn f+x)::r) from p2).append_right _).cons (mn f)).trans ?_
  refine List.Perm.trans ?_ (p1.symm.append_right _)
  show (mn f::(mn f+x)::(r++(tk (nxt f x) ls).map (fun t=>t.2.2))).Perm (mn f::(r++(mn f+x)::(tk (nxt f x) ls).map (fun t=>t.2.2)))
  exact (List.perm_middle.symm).cons _
theorem pX {A F C:List Int} (p:(A++F).Perm C) (hA:A.Pairwise (·<=·)) (hC:C.Pairwise (·<=·)) (h:∀ a∈A,∀ y∈F,a<=y):C.take A.length=A:=by
 have hs:(F.mergeSort fun a b=>decide (a<=b)).Pairwise (·<=·):=(List.pairwise_mergeSort (le:=fun a b:Int=>decide (a<=b)) (fun a b c h1 h2=>by simp at h1 h2 ⊢;omega) (fun a b=>by simp;omega) F).imp fun h=>by simpa using h
 have pm:=List.mergeSort_perm F fun a b=>decide (a<=b)
 have e:C=A++F.mergeSort fun a b=>decide (a<=b):=by
  refine pY (p.symm.trans ((pm.symm).append_left A)) hC ?_
  rw [Eg]
  exact ⟨hA,hs,fun a ha y hy=>h a ha y (pm.mem_iff.mp hy)⟩
 rw [e,List.take_left]
theorem uC {b:Nat} {ls S:List Int} (hb:0<b) (hl:∀ x∈ls,1<=x) (pS:S.Perm (ens b ls)) (so:S.Pairwise (·<=·)):bgs b ls=(zf b++S).take ls.length:=by
 have h0:∀ x∈ls,0<=x:=fun x hx=>by have:=hl x hx;omega
 obtain ⟨r1,r2⟩:=uE h0 (gU hb)
 have S0:∀ y∈S,0<=y:=fun y hy=>by
  obtain ⟨t,ht,rfl⟩:=DM.mp (pS.mem_iff.mp hy)
  have:=kq (ls:=ls) (gU hb)
  have m:t.2.2∈(tk (zf b) ls).map (fun t=>t.2.1)++fr (zf b) ls:=this.mem_iff.mpr (DT _ (List.mem_map_of_mem ht))
  have z0:mn (zf b)=0:=by have:=(xg b _ (je (gU hb)));omega
  rcases DN.mp m with m | m
  . have:=wo h0 (gU hb) _ m;omega
  . have:=v6 h0 (gU hb) _ m;omega
 have e:=pX (A:=(tk (zf b) ls).map (fun t=>t.2.1)) (F:=fr (zf b) ls) (C:=zf b++S) ((kq (gU hb)).trans (pS.symm.append_left _)) r1 (by
  rw [Eg]
  refine ⟨?_,so,fun a ha y hy=>by have:=xg b a ha;have:=S0 y hy;omega⟩
  exact List.pairwise_replicate.mpr (.inr (DK _))) r2
 rw [Da,kI] at e
 exact e.symm
theorem AR:∀ {ls f:List Int} {k:Nat},k<ls.length->((tk f ls).map (fun t=>t.2.2)).getD k 0=((tk f ls).map (fun t=>t.2.1)).getD k 0+ls.getD k 0
 | x::ls,f,0,_=>rfl
 | x::ls,f,k+1,h=>AR (ls:=ls) (f:=nxt f x) (k:=k) (by simp at h;omega)
def d0 (b:Nat) (ls:List Int):List (Int×Int):=(List.range ls.length).map fun (k:Nat)=>((ens b ls).getD k 0,(k:Int))
structure bv (W:Wd) (ls:List Int) (ps:List (Int×Int)):Prop where
 len:ls.length=W.bs.length
 bd:∀ k,k<ls.length->(bnd W (k:Int)).1<=ls.getD k 0/\ls.getD k 0<=(bnd W (k:Int)).2
 pm:ps.Perm (d0 W.b.toNat ls)
 so:ps.Pairwise fun p q=>p.1<=q.1
section
variable {W:Wd} {ls:List Int} {ps:List (Int×Int)}
theorem z6 (b:Nat) (ls:List Int):(d0 b ls).map (fun p=>p.1)=ens b ls:=by
 unfold d0
 rw [List.map_map]
 apply Er
 intro i
 rw [Di]
 by_cases h:i<ls.length
 . rw [List.getElem?_range h,C7 (by rw [eE];exact h)]
   show some ((ens b ls).getD i 0)=_
   rw [C9,C7 (by rw [eE];exact h)]
   rfl
 . rw [DO (by rw [DZ];omega),DO (by rw [eE];omega)]
   rfl
theorem bv.plen (h:bv W ls ps):ps.length=W.bs.length:=by
 rw [h.pm.length_eq,<- h.len];unfold d0;rw [Da,DZ]
theorem bv.pos (h:bv W ls ps) (hok:W.Ok):∀ x∈ls,1<=x:=fun x hx=>by
 obtain ⟨k,hk,e⟩:=List.getElem_of_mem hx
 have a:=h.bd k hk
 have b:=mw hok (x:=(k:Int)) (by omega) (by rw [<- h.len];omega)
 rw [C9,C7 hk] at a
 have e2:(some ls[k]).getD 0=ls[k]:=rfl
 rw [e2,e] at a
 omega
theorem bv.S (h:bv W ls ps):(ps.map (fun p=>p.1)).Perm (ens W.b.toNat ls):=by
 have:=h.pm.map (fun p=>p.1)
 rw [z6] at this
 exact this
theorem bv.rise (h:bv W ls ps):(ps.map (fun p=>p.1)).Pairwise (·<=·):=by rw [List.pairwise_map];exact h.so
theorem bv.at (h:bv W ls ps) {j:Nat} {p:Int×Int} (e:ps[j]? =some p):0<=p.2/\p.2<(W.bs.length:Int)/\p.1=(ens W.b.toNat ls).getD p.2.toNat 0:=by
 obtain ⟨k,hk,rfl⟩:=DM.mp (h.pm.mem_iff.mp (Dj e))
 have:=DQ.mp hk
 rw [h.len] at this
 exact ⟨Int.natCast_nonneg _,by omega,rfl⟩
def evs (ps:List (Int×Int)):List Int:=0::ps.map (fun p=>p.1)
theorem bv.begin (h:bv W ls ps) (hok:W.Ok) {x:Nat} (hx:x<ls.length):(bgs W.b.toNat ls).getD x 0=fn (evs ps) (bg W (x:Int)).toNat:=by
 have b1:=hok.b1
 rw [uC (by omega) (h.pos hok) h.S h.rise]
 unfold fn evs bg
 rw [C9,D9 hx]
 by_cases c:(x:Int)<W.b
 . rw [if_pos c,DL (by rw [oo];omega)]
   show ((List.replicate W.b.toNat (0:Int))[x]?).getD 0=0
   rw [List.getElem?_replicate,if_pos (by omega)];rfl
 . rw [if_neg c,DH (by rw [oo];omega),oo]
   have e:((x:Int)-W.b+1).toNat=(x-W.b.toNat)+1:=by omega
   rw [e,List.getD_cons_succ,C9]
theorem bv.end_ (h:bv W ls ps) (hok:W.Ok) {j:Nat} {p:Int×Int} (e:ps[j]? =some p):fn (evs ps) (j+1)=fn (evs ps) (bg W p.2).toNat+ls.getD p.2.toNat 0/\fn (evs ps) (j+1)=p.1:=by
 obtain ⟨a,b,c⟩:=h.at e
 have hx:p.2.toNat<ls.length:=by rw [h.len];omega
 have d:=h.begin hok hx
 have en:=AR (f:=zf W.b.toNat) hx
 have e2:((p.2.toNat:Nat):Int)=p.2:=by omega
 rw [e2] at d
 have f1:fn (evs ps) (j+1)=p.1:=by
  unfold fn evs
  rw [List.getD_cons_succ,C9,Di,e];rfl
 refine ⟨?_,f1⟩
 rw [f1,c,<- d]
 exact en
theorem bv.up (h:bv W ls ps) {i j:Nat} (hij:i<=j) (hj:j<ps.length):fn (evs ps) (i+1)<=fn (evs ps) (j+1):=by
 unfold fn evs
 rw [List.getD_cons_succ,List.getD_cons_succ,C9,C9,C7 (by rw [Da];omega),C7 (by rw [Da];omega)]
 show (ps.map fun p=>p.1)[i]'_<=(ps.map fun p=>p.1)[j]'_
 rcases Nat.lt_or_ge i j with c | c
 . exact EC.mp h.rise i j _ _ c
 . have:i=j:=by omega
   subst this
   exact DK _
theorem bv.nn (h:bv W ls ps) (hok:W.Ok):∀ v,0<=fn (evs ps) v:=fun v=>by
 rcases v with _ | v
 . exact DK _
 by_cases c:v<ps.length
 . have b1:=hok.b1
   have S0:∀ y∈ps.map (fun p=>p.1),0<=y:=fun y hy=>by
    obtain ⟨t,ht,rfl⟩:=DM.mp (h.S.mem_iff.mp hy)
    have hb:0<W.b.toNat:=by omega
    have h0:∀ x∈ls,0<=x:=fun x hx=>by have:=h.pos hok x hx;omega
    have m:t.2.2∈(tk (zf W.b.toNat) ls).map (fun t=>t.2.1)++fr (zf W.b.toNat) ls:=(kq (ls:=ls) (gU hb)).mem_iff.mpr (DT _ (List.mem_map_of_mem ht))
    have z0:mn (zf W.b.toNat)=0:=by have:=(xg W.b.toNat _ (je (gU hb)));omega
    rcases DN.mp m with m | m
    . have:=wo h0 (gU hb) _ m;omega
    . have:=v6 h0 (gU hb) _ m;omega
   unfold fn evs
   rw [List.getD_cons_succ,C9,C7 (by rw [Da];exact c)]
   exact S0 _ (DX _)
 . unfold fn evs
   rw [List.getD_cons_succ,C9,DO (by rw [Da];omega)]
   exact DK _
theorem A7 {j:Nat} {x:Int} (e:(ps.map (fun p=>p.2))[j]? =some x):∃ p,ps[j]? =some p/\p.2=x:=by
 rw [Di] at e
 cases h:ps[j]? with
 | none=>rw [h] at e;cases e
 | some p=>rw [h] at e;exact ⟨p,rfl,Dg e⟩
theorem bv.vo (h:bv W ls ps) (hok:W.Ok):VO W (ps.map (fun p=>p.2)):=by
 refine ⟨?_,fun i x e=>?_⟩
 . have p2:=h.pm.map (fun p=>p.2)
   have e:(d0 W.b.toNat ls).map (fun p=>p.2)=hG ls.length:=by unfold d0 hG;rw [List.map_map];rfl
   rw [e] at p2
   exact p2.nodup_iff.mpr (i4 _)
 . obtain ⟨p,hp,rfl⟩:=A7 e
   obtain ⟨a,b,c⟩:=h.at hp
   have hi:i<ps.length:=(Db.mp hp).1
   refine ⟨a,?_⟩
   have b1:=hok.b1
   have key:p.2<(i:Int)+W.b:=by
    rcases Int.lt_or_le p.2 ((i:Int)+W.b) with c | c
    . exact c
    exfalso
    have f:=(h.end_ hok hp).1
    have hx:p.2.toNat<ls.length:=by rw [h.len];omega
    have l:=h.bd p.2.toNat hx
    have bo:=mw hok (x:=p.2) a b
    have e2:((p.2.toNat:Nat):Int)=p.2:=by omega
    rw [e2] at l
    have ebg:(bg W p.2).toNat=(p.2-W.b).toNat+1:=by unfold bg;rw [if_neg (by omega)];omega
    rw [ebg] at f
    have u:=h.up (i:=i) (j:=(p.2-W.b).toNat) (by omega) (by rw [h.plen];omega)
    omega
   unfold b9
   omega
theorem bv.feas (h:bv W ls ps) (hok:W.Ok):bw (ao W (ps.map (fun p=>p.2))) (fn (evs ps)):=by
 intro r hr
 rcases DN.mp hr with hr | hr
 . obtain ⟨j,hj,hr⟩:=iw hr
   rw [Da] at hj
   have hp:ps[j]? =some ps[j]:=C7 hj
   have eo:(ps.map (fun p=>p.2)).getD j 0=ps[j].2:=by rw [C9,Di,hp];rfl
   rw [eo] at hr
   generalize ps[j]=p at*
   obtain ⟨a,b,c⟩:=h.at hp
   have f:=(h.end_ hok hp).1
   have hx:p.2.toNat<ls.length:=by rw [h.len];omega
   have l:=h.bd p.2.toNat hx
   have e2:((p.2.toNat:Nat):Int)=p.2:=by omega
   rw [e2] at l
   have ej:((j:Int)+1).toNat=j+1:=by omega
   unfold d9 at hr
   simp only [DI,En,or_false] at hr
   rcases hr with rfl | rfl | rfl
   . show fn (evs ps) ((j:Int)+1).toNat-fn (evs ps) (bg W p.2).toNat<=(bnd W p.2).2
     rw [ej];omega
   . show fn (evs ps) (bg W p.2).toNat-fn (evs ps) ((j:Int)+1).toNat<= -(bnd W p.2).1
     rw [ej];omega
   . show fn (evs ps) (j:Int).toNat-fn (evs ps) ((j:Int)+1).toNat<=0
     rw [ej,Dz]
     rcases j with _ | j
     . have:=h.nn hok (0+1)
       have z:fn (evs ps) 0=0:=rfl
       omega
     . have:=h.up (i:=j) (j:=j+1) (by omega) hj
       omega
 . exfalso
   obtain ⟨x,hx,rfl⟩:=DM.mp hr
   obtain ⟨⟨x0,x1⟩,xn⟩:=ck.mp hx
   have bl:=bT W (ps.map (fun p=>p.2)).length
   refine xn ?_
   have p2:=h.pm.map (fun p=>p.2)
   have e:(d0 W.b.toNat ls).map (fun p=>p.2)=hG ls.length:=by unfold d0 hG;rw [List.map_map];rfl
   rw [e] at p2
   exact p2.mem_iff.mpr (fg.mpr ⟨x0,by rw [h.len];omega⟩)
theorem bv.early (h:bv W ls ps) (hok:W.Ok) (k:Nat):VO W ((ps.map (fun p=>p.2)).take k)/\∃ r,early W ((ps.map (fun p=>p.2)).take k)=some r:=by
 have vo:=h.vo hok
 obtain ⟨r,hr⟩:=fS hok vo (h.feas hok) (fun v _=>h.nn hok v)
 refine ⟨vo.take k,?_⟩
 by_cases c:k<=(ps.map (fun p=>p.2)).length
 . exact qz hok vo hr k c
 . rw [DA (by omega)]
   exact ⟨r,hr⟩
end
end Be
namespace Be
end Be
namespace Be
theorem t8 {W:Wd} {o:List Int} {f:Nat->Int} (hok:W.Ok) (vo:VO W o) (hf:bw (ao W o) f) (k:Nat) (hk:k<=o.length):bw (ao W (o.take k)) f:=fun q hq=>by
 have tl:(o.take k).length=k:=by rw [Dv];omega
 unfold ao at hq
 rcases DN.mp hq with hq | hq
 . obtain ⟨j,hj,hq⟩:=iw hq
   rw [tl] at hj
   have e:(o.take k).getD j 0=o.getD j 0:=by
    rw [C9,C9,D9 hj]
   rw [e] at hq
   exact hf q (dz (by omega) hq)
 . obtain ⟨y,hy,rfl⟩:=DM.mp hq
   obtain ⟨⟨y0,y1⟩,yn⟩:=ck.mp hy
   rw [tl] at y1
   unfold dZ
   dsimp only
   rw [tl,Dz]
   by_cases hm:y∈o
   . obtain ⟨j,hj,ej⟩:=List.getElem_of_mem hm
     have jk:k<=j:=by
      apply DB
      intro z
      exact yn (by rw [<- ej];exact List.mem_take_iff_getElem.mpr ⟨j,by omega,rfl⟩)
     have ed:o.getD j 0=y:=by rw [C9,C7 hj];exact ej
     have a:=hf ((j:Int)+1,bg W y,(bnd W y).2) (dz hj (by rw [ed];unfold d9;simp))
     dsimp only at a
     rw [show ((j:Int)+1).toNat=j+1 by omega] at a
     have b:=kZ hf (k:=k) (j+1) (by omega) (by omega)
     omega
   . have a:=hf _ (lJ (W:=W) (o:=o) (y:=y) (ck.mpr ⟨⟨y0,by have:=jp W hok hk;omega⟩,hm⟩))
     unfold dZ at a
     dsimp only at a
     rw [Dz] at a
     have b:=kZ hf (k:=k) o.length hk (Dh _)
     omega
section
variable {W:Wd} {o:List Int} {f:Nat->Int}
theorem wS {l:List Int} (nd:l.Nodup) {j:Nat} {x:Int} (h:l[j]? =some x):l.idxOf x=j:=by
 have hj:=(Db.mp h).1
 have e:=(Db.mp h).2
 rw [<- e]
 exact nd.idxOf_getElem j hj
end
end Be
namespace Be
def o8 (p:Int×Int) (r:List Int):List (List Int):=(List.range (p.2+1-p.1).toNat).map fun (k:Nat)=>r++[p.1+(k:Int)]
def cy (rows:List (List Int)) (p:Int×Int):List (List Int):=rows.flatMap (o8 p)
def bD (bs:List (Int×Int)):List (List Int):=bs.foldl cy [[]]
theorem fD (bs:List (Int×Int)) (p:Int×Int):bD (bs++[p])=cy (bD bs) p:=by
 unfold bD;rw [List.foldl_append];rfl
theorem gO {p:Int×Int} {r l:List Int}:l∈o8 p r ↔ ∃ x,p.1<=x/\x<=p.2/\l=r++[x]:=by
 unfold o8
 rw [DM]
 constructor
 . rintro ⟨k,hk,rfl⟩
   have:=DQ.mp hk
   exact ⟨_,by omega,by omega,rfl⟩
 . rintro ⟨x,h1,h2,rfl⟩
   exact ⟨(x-p.1).toNat,DQ.mpr (by omega),by congr 2;omega⟩
theorem oT:∀ {bs:List (Int×Int)} {rows:List (List Int)} {l:List Int},l∈bs.foldl cy rows ↔ ∃ r∈rows,∃ t:List Int,l=r++t/\t.length=bs.length/\∀ (k:Nat) (p:Int×Int) (x:Int),bs[k]? =some p->t[k]? =some x->p.1<=x/\x<=p.2
 | [],rows,l=>by
  constructor
  . intro h
    exact ⟨l,h,[],(D7 l).symm,rfl,fun k p x h=>by simp at h⟩
  . rintro ⟨r,hr,t,rfl,ht,_⟩
    have:t=[]:=List.length_eq_zero_iff.mp ht
    rw [this,D7];exact hr
 | p::bs,rows,l=>by
  show l∈bs.foldl cy (cy rows p) ↔ _
  rw [oT (bs:=bs)]
  constructor
  . rintro ⟨r,hr,t,rfl,ht,hb⟩
    obtain ⟨r0,hr0,hx⟩:=List.mem_flatMap.mp hr
    obtain ⟨x,h1,h2,rfl⟩:=gO.mp hx
    refine ⟨r0,hr0,x::t,by rw [DV];rfl,by rw [DF,DF,ht],fun k q y hq hy=>?_⟩
    cases k with
    | zero=>cases hq;cases hy;exact ⟨h1,h2⟩
    | succ k=>exact hb k q y hq hy
  . rintro ⟨r,hr,t,rfl,ht,hb⟩
    cases t with
    | nil=>simp at ht
    | cons x t=>
     have b0:=hb 0 p x rfl rfl
     refine ⟨r++[x],List.mem_flatMap.mpr ⟨r,hr,gO.mpr ⟨x,b0.1,b0.2,rfl⟩⟩,t,by rw [DV];rfl,by simpa using ht,fun k q y hq hy=>hb (k+1) q y hq hy⟩
theorem dP {bs:List (Int×Int)} {l:List Int}:l∈bD bs ↔ l.length=bs.length/\∀ (k:Nat) (p:Int×Int) (x:Int),bs[k]? =some p->l[k]? =some x->p.1<=x/\x<=p.2:=by
 unfold bD
 rw [oT]
 constructor
 . rintro ⟨r,hr,t,rfl,ht,hb⟩
   have:r=[]:=by simpa using hr
   subst this
   exact ⟨ht,hb⟩
 . rintro ⟨h1,h2⟩
   exact ⟨[],by simp,l,rfl,h1,h2⟩
theorem xJ {bs:List (Int×Int)} {l:List Int} (h:l∈bD bs):l.length=bs.length:=(dP.mp h).1
section
variable {W:Wd} {o r:List Int}
end
end Be
namespace L2
open PySem PySem.Spec PyProof.Rows
section
variable {M:Model} {A:Around} {E:Value->Shared->Prop} {s:Shared}
end
section
variable {X:Cx} {pins:List (Addr×Obj)} {σ:St} {H:Hp} {s:Shared}
end
end L2
namespace L2
open PySem PySem.Spec PyProof.Rows
theorem kC (lo:Int):∀ (us:List Value) (k:Nat),(∀ j v,us[j]? =some v->∃ t,v=Value.int (lo+((k+j:Nat):Int)) t)->ba ((List.range' k us.length).map fun (j:Nat)=>V.int (lo+(j:Int))) us
 | [],_,_=>.nil
 | u::us,k,h=>by
  obtain ⟨t,e⟩:=h 0 u rfl
  rw [DF,List.range'_succ,DS]
  refine .cons ⟨t,by rw [e];rfl⟩ (kC lo us (k+1) fun j v q=>?_)
  obtain ⟨t',e'⟩:=h (j+1) v (by simpa using q)
  exact ⟨t',by rw [e',show k+(j+1)=k+1+j by omega]⟩
section
variable {X:Cx}
def BP:List V->Hp->VK->Prop:=fun xs H Q=>∃ lo hi:Int,xs=[.int lo,.int hi]/\∀ r,H r=none->Q (.ref r) (upd H r (.rng lo hi))
theorem uv:dF X (.type "range") BP:=by
 intro pins s σ H xs us Q I rs h
 obtain ⟨lo,hi,rfl,q⟩:=h
 cases rs with
 | cons r1 rs=>
  cases rs with
  | cons r2 rs=>
   cases rs
   obtain ⟨t,rfl⟩:=r1
   obtain ⟨t',rfl⟩:=r2
   refine call_range_2 ⟨.ref s.heap.objs.size,_,I.laid (o:=.rng lo hi) (t':=_) (fun b o e=>Dd _ e) (Dh _) ?_,rfl,q _ (I.hok.fresh (Dh _))⟩
   exact ⟨_,_,_,Ds _ rfl⟩
def xN:List V->Hp->VK->Prop:=fun xs H Q=>∃ (p:Addr) (lo hi:Int),xs=[.ref p]/\H p=some (.rng lo hi)/\0<=lo/\lo<=hi/\hi<=1000/\∀ l,H l=none->Q (.ref l) (upd H l (.lst ((List.range (hi-lo).toNat).map fun (j:Nat)=>V.int (lo+(j:Int)))))
theorem n6 (hc:X.calm=true):dF X (.type "list") xN:=by
 intro pins s σ H xs us Q I rs h
 obtain ⟨p,lo,hi,rfl,hp,h0,h1,h2,q⟩:=h
 obtain ⟨u,rfl,ru⟩:=gY rs
 cases ru
 obtain ⟨t,u,v,e⟩:=I.hok p _ hp
 have e1:Builtin.Range.rangeSize lo hi 1=(((hi-lo).toNat:Nat):Int):=by rw [rangeSize_one];split<;>omega
 refine call_list_range (n:=(hi-lo).toNat) (I.ok.hd hc) e (small_one (by omega) (by omega) (by omega) (by omega)) e1 (by omega) fun h' tk acc c' kp hl it=>?_
 have hv:ba ((List.range (hi-lo).toNat).map fun (j:Nat)=>V.int (lo+(j:Int))) acc.toList:=by
  have z:=kC lo acc.toList 0 fun j v q=>by
   obtain ⟨t,e⟩:=it.2 j v (by rw [<- Dq];exact q)
   exact ⟨t,by rw [e];congr 1;(try push_cast);(try omega)⟩
  have hs:acc.toList.length=(hi-lo).toNat:=by rw [Dc];exact it.1
  rw [hs,<- List.range_eq_range'] at z
  exact z
 refine ⟨.ref s.heap.objs.size,_,I.laid (o:=.lst ((List.range (hi-lo).toNat).map fun (j:Nat)=>V.int (lo+(j:Int)))) (t':=tk) kp (Dh _) ?_,rfl,q _ (I.hok.fresh (Dh _))⟩
 refine ⟨?_,acc.toList,c',hv,?_⟩
 . rw [Da,DZ]
   exact DP (show _<=1000 by omega) (by decide)
 . exact hl
end
end L2
namespace Be.G
open PySem L2
theorem pd {xs:List Int} (j:Int) (h:0<=j):qD (xs.map V.int) none (some j)=(xs.take j.toNat).map V.int:=by
 unfold qD
 show ((xs.map V.int).drop 0).take ((if j<0 then _ else min j.toNat (xs.map V.int).length)-0)=_
 rw [if_neg (by omega),List.drop_zero,List.map_take,Da,Nat.sub_zero]
 by_cases c:j.toNat<=xs.length
 . rw [Nat.min_eq_left c]
 . rw [Nat.min_eq_right (by omega),DA (by rw [Da];exact Dh _),DA (by rw [Da];omega)]
end Be.G
namespace Be
open PySem L2
def bH (H:Hp) (ws:List V) (rs:List (List Int)):Prop:=ws.length=rs.length/\∀ (i:Nat) (r:List Int),rs[i]? =some r->∃ q,ws[i]? =some (.ref q)/\H q=some (.tup (r.map V.int))
theorem bH.nil {H:Hp}:bH H [] []:=⟨rfl,fun i r h=>by simp at h⟩
theorem bH.ts {H H':Hp} {ws:List V} {rs:List (List Int)} (x:bH H ws rs) (g:bG H H'):bH H' ws rs:=⟨x.1,fun i p hp=>by
 obtain ⟨q,h1,h2⟩:=x.2 i p hp
 exact ⟨q,h1,g _ _ h2⟩⟩
theorem bH.append {H:Hp} {ws us:List V} {rs ss:List (List Int)} (x:bH H ws rs) (y:bH H us ss):bH H (ws++us) (rs++ss):=by
 refine ⟨by rw [Dm,Dm,x.1,y.1],fun i r h=>?_⟩
 by_cases c:i<rs.length
 . rw [DL c] at h
   obtain ⟨q,h1,h2⟩:=x.2 i r h
   exact ⟨q,by rw [DL (by rw [x.1];exact c)];exact h1,h2⟩
 . rw [DH (by omega)] at h
   obtain ⟨q,h1,h2⟩:=y.2 _ r h
   exact ⟨q,by rw [DH (by rw [x.1];omega),x.1];exact h1,h2⟩
theorem bH.one {H:Hp} {q:Addr} {r:List Int} (h:H q=some (.tup (r.map V.int))):bH H [.ref q] [r]:=⟨rfl,fun i p hp=>by
 cases i with
 | zero=>cases hp;exact ⟨q,rfl,h⟩
 | succ i=>simp at hp⟩
theorem bH.snoc {H:Hp} {ws:List V} {rs:List (List Int)} {q:Addr} {r:List Int} (x:bH H ws rs) (h:H q=some (.tup (r.map V.int))):bH H (ws++[.ref q]) (rs++[r]):=x.append (bH.one h)
theorem bH.at {H:Hp} {ws:List V} {rs:List (List Int)} (x:bH H ws rs) {i:Nat} {u:V} (h:ws[i]? =some u):∃ (r:List Int) (q:Addr),rs[i]? =some r/\u=.ref q/\H q=some (.tup (r.map V.int)):=by
 have hi:i<rs.length:=by rw [<- x.1];exact (Db.mp h).1
 obtain ⟨q,h1,h2⟩:=x.2 i _ (C7 hi)
 rw [h] at h1
 exact ⟨_,q,C7 hi,Dg h1,h2⟩
theorem AN {p:Int×Int} (h:1<=p.1/\p.1<=p.2/\p.2<=99) (r:List Int):(o8 p r).length<=99:=by
 unfold o8;rw [Da,DZ];omega
theorem AL (p:Int×Int) (r:List Int):(o8 p r).length=(p.2+1-p.1).toNat:=by unfold o8;rw [Da,DZ]
theorem rE (rows:List (List Int)) (p:Int×Int) (j:Nat):(cy (rows.take j) p).length<=(cy rows p).length:=by
 have e:cy rows p=cy (rows.take j) p++cy (rows.drop j) p:=by
  unfold cy
  rw [<- List.flatMap_append,Ek]
 rw [e,Dm];omega
theorem wD (p:Int×Int):∀ rows:List (List Int),(cy rows p).length=rows.length*(p.2+1-p.1).toNat
 | []=>by simp [cy]
 | r::rows=>by
  show (o8 p r++cy rows p).length=_
  rw [Dm,AL,wD p rows,DF,Nat.succ_mul];omega
theorem wt {bs:List (Int×Int)} {i:Nat} {p:Int×Int} (h:bs[i]? =some p):(bD (bs.take (i+1))).length=(bD (bs.take i)).length*(p.2+1-p.1).toNat:=by
 rw [show bs.take (i+1)=bs.take i++[p] by rw [Ep,h];rfl,fD,wD]
theorem uK {W:Wd} (hok:W.Ok):∀ i,0<(bD (W.bs.take i)).length
 | 0=>by rw [List.take_zero];decide
 | i+1=>by
  by_cases h:i<W.bs.length
  . have e:=wt (C7 h)
    have b:=hok.bd _ (DX h)
    rw [e]
    exact Nat.mul_pos (uK hok i) (by omega)
  . have:=uK hok i
    rw [DA (by omega)] at this ⊢
    exact this
theorem A9 {W:Wd} (hok:W.Ok) (i:Nat):(bD (W.bs.take i)).length<=(bD (W.bs.take (i+1))).length:=by
 by_cases h:i<W.bs.length
 . have e:=wt (C7 h)
   have b:=hok.bd _ (DX h)
   rw [e]
   exact Nat.le_mul_of_pos_right _ (by omega)
 . rw [DA (by omega),DA (by omega)];exact Dh _
theorem pG {W:Wd} (hok:W.Ok) {i:Nat}:∀ k,(bD (W.bs.take i)).length<=(bD (W.bs.take (i+k))).length
 | 0=>Dh _
 | k+1=>DP (pG hok k) (A9 hok (i+k))
theorem w9 {W:Wd} (hok:W.Ok) {n:Nat} (h:(bD W.bs).length<=n) (i:Nat):(bD (W.bs.take i)).length<=n:=by
 have:=pG hok (i:=i) W.bs.length
 rw [DA (l:=W.bs) (i:=i+W.bs.length) (by omega)] at this
 omega
noncomputable def io (W:Wd) (ls:List Int):List Int:=Classical.epsilon fun o=>∃ ps:List (Int×Int),ps.Perm (G.enp (ens W.b.toNat ls))/\ps.Pairwise leP/\o=ps.map fun p=>p.2
theorem jO {W:Wd} {ls:List Int} {ps:List (Int×Int)} (h10:ls.length<=10) (pm:ps.Perm (G.enp (ens W.b.toNat ls))) (pw:ps.Pairwise leP):(ps.map fun p=>p.2)=io W ls:=by
 obtain ⟨qs,qm,qw,e⟩:=Classical.epsilon_spec (p:=fun o=>∃ ps:List (Int×Int),ps.Perm (G.enp (ens W.b.toNat ls))/\ps.Pairwise leP/\o=ps.map fun p=>p.2) ⟨_,ps,pm,pw,rfl⟩
 have:io W ls=qs.map fun p=>p.2:=e
 rw [this,G.rN (pm.trans qm.symm) pw qw (G.ud (by rw [eE];exact h10) pm)]
noncomputable def cH (W:Wd) (o:List Int):List (List Int):=(bD W.bs).filter fun ls=>decide ((io W ls).take o.length=o)
noncomputable def CO (W:Wd) (o:List Int) (ls:List Int):List Int:=((io W ls).drop o.length).take 1
theorem eD {W:Wd} {ls:List Int} (h:ls∈bD W.bs):InB W ls:=⟨(dP.mp h).1,fun k p x hp hx=>(dP.mp h).2 k p x hp hx⟩
theorem fM {H:Hp}:∀ {ws:List V} {rs:List (List Int)},bH H ws rs->Reps H ws (rs.map fun r=>.tuple (r.map .int))
 | [],[],_=>.nil
 | [],r::rs,h=>by have:=h.1;simp at this
 | w::ws,[],h=>by have:=h.1;simp at this
 | w::ws,r::rs,h=>by
  obtain ⟨q,e,hq⟩:=h.2 0 r rfl
  have ew:w=.ref q:=Dg e
  subst ew
  exact .cons (.tup hq Reps.ints) (fM ⟨by have:=h.1;simpa using this,fun i r' hr=>h.2 (i+1) r' hr⟩)
theorem wE:∀ rs:List (List Int),PyData.canLayAll0 (rs.map fun r=>.tuple (r.map .int))=true/\PyData.depthAll (rs.map fun r=>.tuple (r.map .int))<=12
 | []=>⟨rfl,DD _⟩
 | r::rs=>by
  obtain ⟨a,b⟩:=wE rs
  have:=G.kj r
  refine ⟨?_,?_⟩
  . rw [DS,PyData.canLayAll0,a,PyData.canLay0,G.jX];rfl
  . rw [DS,PyData.depthAll,PyData.depth];omega
theorem xA (rs:List (List Int)):SeqAt.shaped (.list (rs.map fun r=>.tuple (r.map .int)))=true:=by
 obtain ⟨a,b⟩:=wE rs
 unfold SeqAt.shaped
 rw [PyData.canLay0,a,Bool.true_and,PyData.depth]
 exact decide_eq_true (by omega)
theorem ox (ns:List Int):SeqAt.shaped (.tuple (ns.map .int))=true:=G.xB ns
theorem uc (ns ms:List Int):PyData.eqv (.tuple (ns.map .int)) (.tuple (ms.map .int))=decide (ns=ms):=by
 show PyData.eqvAll _ _=_
 exact G.nV ns ms
section
variable {P:Program} {w:World} {K:PySem.W.Frag} {mg:Str->Option Value} {base:Heap}
def zx:Sp:=fun vs H Q _=>∃ (v:V) (W:Wd),vs=[v]/\Rep H v (cv W)/\W.Ok/\∀ H',aM H H'->Q (.int (bD W.bs).length) H'
theorem bq (T:Txt K mg):bP P w K mg base (CXr P w) 6 T.how_many_lengths.a T.how_many_lengths.d ["world"] zx:=by
 refine T.how_many_lengths.F.okN bf (fun vs H Q E h=>?_) (fun cdv A outer s H vs Q E hr h=>?_)
 . obtain ⟨v,W,rfl,_⟩:=h;rfl
 obtain ⟨v,W,rfl,hW,hok,q⟩:=h
 refine ⟨_,(ai (bn (aj (bN T) (hr.mono (by decide)) rfl T.check_world.m T.check_world.F.kp T.check_world.b .nil aw (ad (pv 0) af))) (ai (aD (i:=1) bf.nd rfl (by first|exact .inl rfl|exact .inr rfl) ap) (ai (cD Ea rfl (cQ rfl T.n_range (ad (aj (aI T) (hr.mono (by decide)) rfl T.how_many_works.m T.how_many_works.F.kp T.how_many_works.b .nil aw (ad (pv 0) af)) af)) (aC (i:=2) bf.nd rfl (by first|exact .inl rfl|exact .inr rfl)) (am (aD (i:=1) bf.nd rfl (by first|exact .inl rfl|exact .inr rfl) (aN ja (pv 1) (aN bt (aN ip (aj (bz T) (hr.mono (by decide)) rfl T.greatest_length.m T.greatest_length.F.kp T.greatest_length.b .nil aw (ad (pv 0) (ad (pv 2) af))) (aj (cA T) (hr.mono (by decide)) rfl T.least_length.m T.least_length.F.kp T.least_length.b .nil aw (ad (pv 0) (ad (pv 2) af)))) ap))))) (am (aB (pv 1)))))),?_⟩
 have l10:=hok.l10
 refine ⟨_,rfl,v,cv W,rfl,hW,fun _ H1 g1=>?_,fun z=>by rw [eB hok] at z;cases z⟩
 have hW1:=hW.mono g1
 refine ⟨_,rfl,v,W,rfl,hW1,_,rfl,by omega,by omega,?_⟩
 rw [Dz]
 refine dC (n:=W.bs.length) (fun i σ H2=>∃ x2:Option V,σ=[some v,some (.int (bD (W.bs.take i)).length),x2]/\H2=H1/\(bD (W.bs.take i)).length<=99^i) ⟨none,rfl,rfl,by rw [List.take_zero];decide⟩ ?_ ?_
 . rintro i σ H2 hi ⟨x2,rfl,rfl,h99⟩
   have hx:=C7 hi
   have b:=hok.bd _ (DX hi)
   have eb:bnd W (0+(i:Int))=W.bs[i]:=by
    unfold bnd
    rw [show (0+(i:Int)).toNat=i by omega,C9,hx];rfl
   have en:=wt hx
   have p99:(99:Nat)^i<=99^10:=Nat.pow_le_pow_right (by decide) (by omega)
   have c99:(99:Nat)^10<2^70:=by decide
   refine ⟨_,rfl,_,rfl,_,rfl,v,W,0+(i:Int),rfl,hW1,by omega,by omega,_,rfl,_,rfl,v,W,0+(i:Int),rfl,hW1,by omega,by omega,_,_,rfl,rfl,_,_,rfl,rfl,_,_,rfl,rfl,?_,?_⟩
   . refine .inr ⟨?_,?_⟩<;>rw [eb]<;>omega
   . refine ⟨some (.int (0+(i:Int))),?_,rfl,?_⟩
     . rw [eb,en]
       have:(((bD (W.bs.take i)).length:Nat):Int)*((W.bs[i]).2-(W.bs[i]).1+1)=(((bD (W.bs.take i)).length*((W.bs[i]).2+1-(W.bs[i]).1).toNat:Nat):Int):=by
        rw [Int.natCast_mul,show ((((W.bs[i]).2+1-(W.bs[i]).1).toNat:Nat):Int)=(W.bs[i]).2-(W.bs[i]).1+1 by omega]
       exact Ee (fun z:Int=>[some v,some (V.int z),some (V.int (0+(i:Int)))]) this
     . rw [en,Nat.pow_succ]
       exact Nat.mul_le_mul h99 (by omega)
 . rintro σ H2 ⟨x2,rfl,rfl,_⟩
   rw [DE]
   exact ⟨_,rfl,q _ g1⟩
def vi:Sp:=fun vs H Q _=>∃ (v:V) (W:Wd),vs=[v]/\Rep H v (cv W)/\W.Ok/\(bD W.bs).length<=600/\∀ H',aM H H'->Q .non H'
theorem fc (T:Txt K mg):bP P w K mg base (CXr P w) 7 T.check_many.a T.check_many.d ["world"] vi:=by
 refine T.check_many.F.okN jE (fun vs H Q E h=>?_) (fun cdv A outer s H vs Q E hr h=>?_)
 . obtain ⟨v,W,rfl,_⟩:=h;rfl
 obtain ⟨v,W,rfl,hW,hok,hN,q⟩:=h
 refine ⟨_,(am (cV (bF Af (aj (bq T) (hr.mono (by decide)) rfl T.how_many_lengths.m T.how_many_lengths.F.kp T.how_many_lengths.b .nil aw (ad (pv 0) af)) (ij (v:=.int 600) rfl T.c_MOST_LENGTHS_GONE_THROUGH.choose_spec ⟨_,rfl⟩) (cf _)) su bj)),?_⟩
 refine ⟨_,rfl,v,W,rfl,hW,hok,fun H1 g1=>⟨_,_,rfl,rfl,_,rfl,oZ (Dw (by omega)) (q H1 g1)⟩⟩
def xy:Sp:=fun vs H Q _=>∃ (v:V) (W:Wd),vs=[v]/\Rep H v (cv W)/\W.Ok/\(∀ i,(bD (W.bs.take i)).length<=1000)/\∀ (l:Addr) (ws:List V) (H':Hp),aM H H'->H l=none->H' l=some (.lst ws)->bH H' ws (bD W.bs)->Q (.ref l) H'
set_option maxHeartbeats 1000000 in
theorem d4 (T:Txt K mg):bP P w K mg base (CXr P w) 12 T.all_lengths.a T.all_lengths.d ["world"] xy:=by
 refine T.all_lengths.F.okN aW (fun vs H Q E h=>?_) (fun cdv A outer s H vs Q E hr h=>?_)
 . obtain ⟨v,W,rfl,_⟩:=h;rfl
 obtain ⟨v,W,rfl,hW,hok,hN,q⟩:=h
 refine ⟨_,(ai (aD (i:=1) aW.nd rfl (by first|exact .inl rfl|exact .inr rfl) (dl (ad (bV af) af))) (ai (cD Ea rfl (cQ rfl T.n_range (ad (aj (aI T) (hr.mono (by decide)) rfl T.how_many_works.m T.how_many_works.F.kp T.how_many_works.b .nil aw (ad (pv 0) af)) af)) (aC (i:=2) aW.nd rfl (by first|exact .inl rfl|exact .inr rfl)) (ai (aD (i:=3) aW.nd rfl (by first|exact .inl rfl|exact .inr rfl) (cz (n6 rfl) rfl T.n_list uA (ad (cz uv rfl T.n_range wg (ad (aj (cA T) (hr.mono (by decide)) rfl T.least_length.m T.least_length.F.kp T.least_length.b .nil aw (ad (pv 0) (ad (pv 2) af))) (ad (aN bt (aj (bz T) (hr.mono (by decide)) rfl T.greatest_length.m T.greatest_length.F.kp T.greatest_length.b .nil aw (ad (pv 0) (ad (pv 2) af))) ap) af))) af))) (ai (aD (i:=4) aW.nd rfl (by first|exact .inl rfl|exact .inr rfl) (dl af)) (ai (cD Ea rfl (cj (pv 1)) (aC (i:=5) aW.nd rfl (by first|exact .inl rfl|exact .inr rfl)) (am (bn (ny Ex PySem.F.slot_list_extend PySem.F.type_list_extend lG (pv 4) (ad (bS (NB:=["length","lengths"]) (js:=[none,some 5]) rfl (bA rfl (by decide+kernel) rfl (by decide+kernel) (by decide+kernel) (by with_unfolding_all rfl) (by with_unfolding_all rfl) (by with_unfolding_all rfl) (by with_unfolding_all rfl)) (cj (pv 3)) (fun _ _ _ _=>(aC (i:=0) (show (["length","lengths"]:List Str).Nodup by decide+kernel) rfl (by first|exact .inl rfl|exact .inr rfl))) (fun _ _ _ _=>dk) (fun _ _ _ _=>(aN sO (pv 1) (bV (ad (pv 0) af))))) af))))) (am (aD (i:=1) aW.nd rfl (by first|exact .inl rfl|exact .inr rfl) (pv 4))))))) (am (aB (pv 1))))),?_⟩
 have l10:=hok.l10
 refine ⟨by show 0<=sizeLine;decide,fun e0 he0=>?_⟩
 have g0:=ak he0 (.tup [])
 refine ⟨by show 1<=sizeLine;decide,fun f0 hf0=>?_⟩
 have g01:=ak hf0 (.lst [.ref e0])
 have ff0:H f0=none:=g0.free hf0
 have hf1:upd (upd H e0 (.tup [])) f0 (.lst [.ref e0]) f0=some (.lst [.ref e0]):=ah
 have he1:upd (upd H e0 (.tup [])) f0 (.lst [.ref e0]) e0=some (.tup (([]:List Int).map V.int)):=g01 _ _ ah
 have g1:=g0.trans g01
 generalize upd (upd H e0 (.tup [])) f0 (.lst [.ref e0])=H1 at*
 refine ⟨_,rfl,v,W,rfl,hW.mono g1,_,rfl,by omega,by omega,?_⟩
 rw [Dz]
 refine dC (n:=W.bs.length) (fun i σ H2=>∃ (f:Addr) (ws:List V) (x2 x3 x4 x5:Option V),σ=[some v,some (.ref f),x2,x3,x4,x5]/\aM H H2/\H f=none/\H2 f=some (.lst ws)/\bH H2 ws (bD (W.bs.take i))) ?_ ?_ ?_
 . exact ⟨f0,_,none,none,none,none,rfl,g1,ff0,hf1,bH.one he1⟩
 . rintro i σ H2 hi ⟨f,ws,x2,x3,x4,x5,rfl,g,ff,hf,rt⟩
   have bp:=hok.bd _ (DX hi)
   have et:W.bs.take (i+1)=W.bs.take i++[W.bs[i]]:=G.bE (C7 hi)
   have eb:bnd W (0+(i:Int))=W.bs[i]:=by
    unfold bnd
    rw [show (0+(i:Int)).toNat=i by omega,C9,C7 hi];rfl
   generalize W.bs[i]=pp at*
   have hW2:=hW.mono g
   refine ⟨_,rfl,_,rfl,v,W,0+(i:Int),rfl,hW2,by omega,by omega,_,rfl,_,rfl,v,W,0+(i:Int),rfl,hW2,by omega,by omega,_,_,rfl,rfl,?_⟩
   rw [eb]
   refine ⟨pp.1,pp.2+1,rfl,fun rg hrg=>?_⟩
   have kr:=ak hrg (.rng pp.1 (pp.2+1))
   refine ⟨rg,pp.1,pp.2+1,rfl,ah,by omega,by omega,by omega,fun lw hlw=>?_⟩
   have kw:=ak hlw (.lst ((List.range (pp.2+1-pp.1).toNat).map fun (j:Nat)=>V.int (pp.1+(j:Int))))
   have elw:upd (upd H2 rg (.rng pp.1 (pp.2+1))) lw (.lst ((List.range (pp.2+1-pp.1).toNat).map fun (j:Nat)=>V.int (pp.1+(j:Int)))) lw=some (.lst ((List.range (pp.2+1-pp.1).toNat).map fun (j:Nat)=>V.int (pp.1+(j:Int)))):=ah
   have krw:=kr.trans kw
   generalize upd (upd H2 rg (.rng pp.1 (pp.2+1))) lw (.lst ((List.range (pp.2+1-pp.1).toNat).map fun (j:Nat)=>V.int (pp.1+(j:Int))))=HW at*
   refine ⟨DD _,fun l hl=>?_⟩
   have k0:=krw.trans (ak hl (.lst []))
   have fl:H l=none:=(g.trans krw).free hl
   have lf:l≠f:=fun z=>by rw [z,krw _ _ hf] at hl;cases hl
   have lwl:lw≠l:=fun z=>by rw [<- z,elw] at hl;cases hl
   have hl1:upd HW l (.lst []) l=some (.lst []):=ah
   have hf1':=k0 _ _ hf
   have elw':upd HW l (.lst []) lw=some (.lst ((List.range (pp.2+1-pp.1).toNat).map fun (j:Nat)=>V.int (pp.1+(j:Int)))):=ak hl (.lst []) _ _ elw
   have rt1:=rt.ts k0.ts
   have gl:=g.trans k0
   have wl:=rt.1
   have rl:=hN i
   have rn:=hN (i+1)
   rw [et,fD] at rn
   generalize upd HW l (.lst [])=H3 at*
   refine ⟨_,rfl,f,rfl,⟨_,SqL.of hf1'⟩,gQ (K:=K) (a:=f) (xs:=ws) (fun j σ H4=>∃ (us:List V) (z:Option V),σ=[some v,some (.ref f),some (.int (0+(i:Int))),some (.ref lw),some (.ref l),z]/\aM H H4/\H4 f=some (.lst ws)/\H4 lw=some (.lst ((List.range (pp.2+1-pp.1).toNat).map fun (j:Nat)=>V.int (pp.1+(j:Int))))/\bH H4 ws (bD (W.bs.take i))/\H4 l=some (.lst us)/\bH H4 us (cy ((bD (W.bs.take i)).take j) pp)) ?_ ?_ ?_ ?_⟩
   . exact ⟨[],_,rfl,gl,hf1',elw',rt1,hl1,bH.nil⟩
   . rintro j σ H4 _ ⟨us,z,rfl,g4,hf4,_⟩
     exact SqL.of hf4
   . rintro j u σ H4 hu ⟨us,z,rfl,g4,hf4,hlw4,rt4,hl4,ru4⟩
     obtain ⟨row,qr,hrow,rfl,hqr⟩:=rt4.at hu
     have hra:=xJ (Dj hrow)
     rw [Dv] at hra
     have hj:j<ws.length:=(Db.mp hu).1
     refine ⟨_,rfl,.inl ⟨rfl,_,SqL.of hl4⟩,_,rfl,lw,rfl,⟨_,SqL.of hlw4⟩,fun D hD=>?_⟩
     have Dl:D≠l:=fun z=>by rw [z,hl4] at hD;cases hD
     have e3:=AN bp row
     refine bR (K:=K) (a:=lw) (xs:=(List.range (pp.2+1-pp.1).toNat).map fun (j:Nat)=>V.int (pp.1+(j:Int))) (fun m ys H5=>aM H4 H5/\H5 D=some (.lst ys)/\bH H5 ys ((o8 pp row).take m)) ⟨ak hD _,ah,by rw [List.take_zero];exact bH.nil⟩ (fun m ys H5 _ hP=>SqL.of (hP.1 _ _ hlw4)) (fun m ys y H5 hy hP=>?_) (fun ys H5 hP=>?_)
     . obtain ⟨g5,hD5,ry⟩:=hP
       have hm:m<(pp.2+1-pp.1).toNat:=by
        have:=(Db.mp hy).1
        rw [Da,DZ] at this
        exact this
       rw [Di,List.getElem?_range hm] at hy
       obtain rfl:=Dg hy
       have yl:=ry.1
       rw [Dv] at yl
       have em:(o8 pp row)[m]? =some (row++[pp.1+(m:Int)]):=by unfold o8;rw [Di,List.getElem?_range hm];rfl
       refine ⟨gr,cg ⟨_,rfl,_,rfl,by show 1<=sizeLine;decide,fun p1 hp1=>?_⟩⟩
       have kp:=ak hp1 (.tup [.int (pp.1+(m:Int))])
       have e1:upd H5 p1 (.tup [.int (pp.1+(m:Int))]) p1=some (.tup [.int (pp.1+(m:Int))]):=ah
       generalize upd H5 p1 (.tup [.int (pp.1+(m:Int))])=H6 at*
       refine ⟨qr,p1,_,_,rfl,rfl,kp _ _ (g5 _ _ hqr),e1,?_,fun p2 H7 g7 h7=>?_⟩
       . rw [Da]
         exact DP (show _+1<=100 by omega) (by decide)
       have k7:=kp.trans g7
       have hD7:=k7 _ _ hD5
       refine ⟨hD7,Do (show ys.length<100 by omega) (by decide),(g5.trans k7).write hD _,ah,?_⟩
       rw [G.bE em]
       refine bH.snoc (ry.ts (k7.ts.trans (bG.lst hD7 _))) ?_
       refine (bG.lst hD7 _) _ _ ?_
       rw [h7,DR]
       rfl
     obtain ⟨g5,hD5,ry⟩:=hP
     rw [Da,DZ,<- AL pp row,DE] at ry
     have hl5:=g5 _ _ hl4
     have ul:=ru4.1
     have ul4:us.length<=1000:=by
      have:us.length=(cy ((bD (W.bs.take i)).take j) pp).length:=ul
      have:=rE (bD (W.bs.take i)) pp j
      omega
     have yl:=ry.1
     refine ⟨l,D,us,ys,rfl,rfl,hl5,hD5,DP (show _<=2000 by omega) (by decide),?_⟩
     have tsl:bG H5 (upd H5 l (.lst (us++ys))):=bG.lst hl5 _
     refine ⟨us++ys,_,rfl,(g4.trans g5).write fl _,by rw [aA (Ne.symm lf)];exact g5 _ _ hf4,by rw [aA lwl];exact g5 _ _ hlw4,(rt4.ts g5.ts).ts tsl,ah,?_⟩
     unfold cy
     rw [G.bE hrow,List.flatMap_append,List.flatMap_cons,List.flatMap_nil,D7]
     exact ((ru4.ts g5.ts).ts tsl).append (ry.ts tsl)
   . rintro σ H4 ⟨us,z,rfl,g4,hf4,hlw4,rt4,hl4,ru4⟩
     rw [rt.1,DE] at ru4
     refine ⟨_,rfl,l,us,_,_,_,_,rfl,g4,fl,hl4,?_⟩
     rw [et,fD]
     exact ru4
 . rintro σ H2 ⟨f,ws,x2,x3,x4,x5,rfl,g,ff,hf,rt⟩
   rw [DE] at rt
   exact ⟨_,rfl,q f ws H2 g ff hf rt⟩
def BC:Sp:=fun vs H Q _=>∃ (v:V) (po:Addr) (W:Wd) (o:List Int),vs=[v,.ref po]/\Rep H v (cv W)/\W.Ok/\H po=some (.tup (o.map V.int))/\VO W o/\(bD W.bs).length<=600/\∀ (l:Addr) (ws:List V) (H':Hp),aM H H'->H l=none->H' l=some (.lst ws)->bH H' ws (cH W o)->Q (.ref l) H'
set_option maxHeartbeats 1000000 in
theorem iR (T:Txt K mg):bP P w K mg base (CXr P w) 13 T.lengths_for.a T.lengths_for.d ["world","order"] BC:=by
 refine T.lengths_for.F.okN iI (fun vs H Q E h=>?_) (fun cdv A outer s H vs Q E hr h=>?_)
 . obtain ⟨v,po,W,o,rfl,_⟩:=h;rfl
 obtain ⟨v,po,W,o,rfl,hW,hok,hpo,vo,hN,q⟩:=h
 have hu64:(A.deeper (PyProof.Rows.envOfC "lengths_for" (ae (top 53)) s.heap.objs.size T.lengths_for.a cdv)).units+64<cLine:=by have:=hr.un;omega
 refine ⟨_,(ai (bn (aj (cJ T) (hr.mono (by decide)) rfl T.check_order.m T.check_order.F.kp T.check_order.b .nil aw (ad (pv 0) (ad (pv 1) af)))) (ai (bn (aj (fc T) (hr.mono (by decide)) rfl T.check_many.m T.check_many.F.kp T.check_many.b .nil aw (ad (pv 0) af))) (am (aB (bS (NB:=["lengths","order","world"]) (js:=[none,some 1,some 0]) rfl (bA rfl (by decide+kernel) rfl (by decide+kernel) (by decide+kernel) (by with_unfolding_all rfl) (by with_unfolding_all rfl) (by with_unfolding_all rfl) (by with_unfolding_all rfl)) (cj (aj (d4 T) (hr.mono (by decide)) rfl T.all_lengths.m T.all_lengths.F.kp T.all_lengths.b .nil aw (ad (pv 0) af))) (fun _ _ _ _=>(aC (i:=0) (show (["lengths","order","world"]:List Str).Nodup by decide+kernel) rfl (by first|exact .inl rfl|exact .inr rfl))) (fun _ _ _ _=>(wK (bF (Ag hu64) (jL mU (aO (fC K) (aj (G.iq T) (hr.mono (by decide)) rfl T.played.m T.played.F.kp T.played.b .nil aw (ad (pv 2) (ad (pv 0) af))) ap (fun _ _=>rfl)) nu (nr (az (iY K) rfl T.n_len cn (ad (pv 1) af)))) (pv 1) (cf _)))) (fun _ _ _ _=>(pv 0))))))),?_⟩
 have l10:=hok.l10
 have vl:=vo.len
 refine ⟨_,rfl,_,rfl,v,.ref po,cv W,iW o,rfl,hW,.tup hpo Reps.ints,(fun ds e=>by injection e with e;rw [<- e,Da];omega),(fun z=>by rw [eB hok] at z;cases z),fun W' hok' e=>?_⟩
 obtain rfl:=cF e
 refine ⟨(fun z=>by rw [ik vo] at z;cases z),fun _ H1 g1=>?_⟩
 refine ⟨_,rfl,v,W,rfl,hW.mono g1,hok,hN,fun H2 g2=>?_⟩
 have g12:=g1.trans g2
 refine ⟨_,rfl,v,W,rfl,hW.mono g12,hok,w9 hok (by omega),fun la wa H3 g3 fla hla rta=>?_⟩
 have g13:=g12.trans g3
 refine ⟨la,rfl,⟨_,SqL.of hla⟩,fun D hD=>?_⟩
 refine bR (K:=K) (a:=la) (xs:=wa) (fun i ys H4=>aM H3 H4/\H4 D=some (.lst ys)/\bH H4 ys (((bD W.bs).take i).filter fun ls=>decide ((io W ls).take o.length=o))) ⟨ak hD _,ah,bH.nil⟩ (fun i ys H4 _ hP=>SqL.of (hP.1 _ _ hla)) (fun i ys y H4 hy hP=>?_) (fun ys H4 hP=>?_)
 . obtain ⟨g4,hD4,ry⟩:=hP
   obtain ⟨ls,qr,hls,rfl,hqr⟩:=(rta.ts g4.ts).at hy
   have hin:=eD (Dj hls)
   have h10:=hin.l10 hok
   have g14:=g13.trans g4
   have yl:=ry.1
   have fle:=List.length_filter_le (fun ls=>decide ((io W ls).take o.length=o)) ((bD W.bs).take i)
   rw [Dv] at fle
   refine ⟨gr,_,rfl,_,rfl,v,qr,W,ls,rfl,hW.mono g14,hok,hqr,hin,fun pp a l ps H5 g5 pm pw hpp ha hl=>?_⟩
   have oe:=jO h10 pm pw
   rw [oe] at ha
   refine ⟨pp,_,_,_,rfl,rfl,SqT.of hpp,rfl,_,rfl,po,_,rfl,.inr (SqT.of (g5 _ _ (g14 _ _ hpo))),_,rfl,a,_,rfl,ha,fun p6 H6 g6 hp6=>?_⟩
   rw [G.pd _ (Int.natCast_nonneg _),Dz,Da] at hp6
   have g46:=g5.trans g6
   refine ⟨_,rfl,_,_,.tup hp6 Reps.ints,.tup (g6 _ _ (g5 _ _ (g14 _ _ hpo))) Reps.ints,ox _,ox _,_,rfl,?_⟩
   rw [uc]
   by_cases c:(io W ls).take o.length=o
   . refine wR (decide_eq_true c) ⟨_,rfl,g46 _ _ hD4,Do (show ys.length<1000 by omega) (by decide),(g4.trans g46).write hD _,ah,?_⟩
     rw [G.bE hls,List.filter_append,List.filter_cons,if_pos (decide_eq_true c)]
     have ts:=g46.ts.trans (bG.lst (g46 _ _ hD4) (.lst (ys++[.ref qr])))
     exact (ry.ts ts).snoc (ts _ _ hqr)
   . refine oZ (Dw c) ⟨g4.trans g46,g46 _ _ hD4,?_⟩
     rw [G.bE hls,List.filter_append,List.filter_cons,if_neg (by rw [Dw c];decide),List.filter_nil,D7]
     exact ry.ts g46.ts
 . obtain ⟨g4,hD4,ry⟩:=hP
   rw [rta.1,DE] at ry
   exact q D ys H4 (g13.trans g4) (g13.free hD) hD4 ry
end
end Be
namespace Be
open PySem L2
theorem e6 {W:Wd} {ls:List Int} {ps:List (Int×Int)} (hin:InB W ls) (h10:ls.length<=10) (pm:ps.Perm (G.enp (ens W.b.toNat ls))) (pw:ps.Pairwise leP):bv W ls ps:=by
 have e:G.enp (ens W.b.toNat ls)=d0 W.b.toNat ls:=by unfold G.enp d0;rw [eE]
 have rg:=G.ud (by rw [eE];exact h10) pm
 refine ⟨hin.1,fun k hk=>?_,e ▸ pm,List.Pairwise.imp_of_mem (fun {a b} ha hb h=>?_) pw⟩
 . have hk':k<W.bs.length:=by rw [<- hin.1];exact hk
   have c:=hin.2 k _ _ (C7 hk') (C7 hk)
   unfold bnd
   rw [Dz,C9,C7 hk',C9,C7 hk]
   exact c
 . have r1:=rg a ha
   have r2:=rg b hb
   unfold leP BE.kP at h
   unfold BE.RgP at r1 r2
   omega
theorem im {W:Wd} {ls:List Int} (hok:W.Ok) (hin:InB W ls):∃ ps:List (Int×Int),ps.Perm (G.enp (ens W.b.toNat ls))/\ps.Pairwise leP/\io W ls=ps.map fun p=>p.2:=by
 have h10:=hin.l10 hok
 let qs:=(G.enp (ens W.b.toNat ls)).mergeSort fun p q=>decide (BE.kP p<=BE.kP q)
 have pm:qs.Perm (G.enp (ens W.b.toNat ls)):=List.mergeSort_perm _ _
 have pw:qs.Pairwise leP:=by
  have:=List.pairwise_mergeSort (le:=fun p q:Int×Int=>decide (BE.kP p<=BE.kP q)) (fun a b c h1 h2=>decide_eq_true (Eb (of_decide_eq_true h1) (of_decide_eq_true h2))) (fun a b=>by
   rcases Int.le_total (BE.kP a) (BE.kP b) with h | h
   . rw [decide_eq_true h];rfl
   . rw [decide_eq_true h,Bool.or_true]) (G.enp (ens W.b.toNat ls))
  exact this.imp fun h=>of_decide_eq_true h
 exact ⟨qs,pm,pw,(jO h10 pm pw).symm⟩
theorem gL {W:Wd} {ls:List Int} (hok:W.Ok) (hin:InB W ls):(io W ls).length=W.bs.length/\∀ x∈io W ls,0<=x/\x<(W.bs.length:Int):=by
 obtain ⟨ps,pm,pw,e⟩:=im hok hin
 have h10:=hin.l10 hok
 have pl:=e6 hin h10 pm pw
 refine ⟨by rw [e,Da,pl.plen],fun x hx=>?_⟩
 rw [e] at hx
 exact (pl.vo hok).lt hx
section
variable {α κ:Type} [DecidableEq α] [DecidableEq κ]
def hmn (F:List α) (x:α):Nat:=(F.filter fun y=>decide (y=x)).length
theorem j6 (F:List α) (x y:α):hmn (F++[x]) y=hmn F y+if x=y then 1 else 0:=by
 unfold hmn
 rw [List.filter_append,Dm,List.filter_cons]
 by_cases c:x=y
 . rw [if_pos (decide_eq_true c),if_pos c];rfl
 . rw [if_neg (by rw [Dw c];decide),if_neg c];rfl
theorem tL {F:List α} {x:α} (h:x∈F):0<hmn F x:=by
 unfold hmn
 exact List.length_pos_of_mem (List.mem_filter.mpr ⟨h,decide_eq_true rfl⟩)
theorem vY {F:List α} {x:α} (h:x∉F):hmn F x=0:=by
 unfold hmn
 rw [List.length_eq_zero_iff]
 exact List.filter_eq_nil_iff.mpr fun y hy z=>h (of_decide_eq_true z ▸ hy)
theorem wT (F:List α) (x:α):hmn F x<=F.length:=List.length_filter_le _ _
def bkG (f:α->κ) (F dd:List α):List (κ×V):=dd.map fun x=>(f x,V.int ((hmn F x:Nat):Int))
theorem yP (f:α->κ) (F dd:List α):(bkG f F dd).length=dd.length:=Da _
theorem wn (f:α->κ) (F dd:List α):(bkG f F dd).map (·.1)=dd.map f:=by unfold bkG;rw [List.map_map];rfl
theorem ko {f:α->κ} (inj:∀ x y,f x=f y->x=y) (F:List α) (x:α):∀ dd:List α,iH (bkG f F dd) (f x)=if x∈dd then some (V.int ((hmn F x:Nat):Int)) else none
 | []=>rfl
 | y::dd=>by
  show iH ((f y,V.int ((hmn F y:Nat):Int))::bkG f F dd) (f x)=_
  by_cases c:y=x
  . rw [dI (by rw [c]),if_pos (by rw [c];exact Dx),c]
  . rw [dJ (fun z=>c (inj _ _ z)),ko inj F x dd]
    by_cases d:x∈dd
    . rw [if_pos d,if_pos (Dk _ d)]
    . rw [if_neg d,if_neg (fun z=>by rcases DI.mp z with e | e;exact c e.symm;exact d e)]
theorem yO {f:α->κ} (inj:∀ x y,f x=f y->x=y) {F dd:List α} {x:α}:lh (bkG f F dd) (f x) (V.int (((hmn F x:Nat):Int)+1))=bkG f (F++[x]) (if x∈dd then dd else dd++[x]):=by
 have hv:=ko inj F x dd
 unfold lh
 rw [gJ]
 by_cases c:x∈dd
 . rw [if_pos c] at hv
   rw [hv,if_pos (show (some (V.int ((hmn F x:Nat):Int))).isSome=true from rfl),if_pos c]
   unfold bkG
   rw [List.map_map]
   refine List.map_congr_left fun y _=>?_
   show (if f y=f x then _ else _)=_
   rw [j6]
   by_cases d:y=x
   . subst d;rw [if_pos rfl,if_pos rfl];rfl
   . rw [if_neg (fun z=>d (inj _ _ z)),if_neg (Ne.symm d)];rfl
 . rw [if_neg c] at hv
   rw [hv,if_neg (show ¬ ((none:Option V).isSome=true) by decide),if_neg c]
   unfold bkG
   rw [DR]
   congr 1
   . refine List.map_congr_left fun y hy=>?_
     rw [j6,if_neg (fun z:x=y=>c (z ▸ hy))];rfl
   . show [(f x,_)]=[(f x,_)]
     rw [j6,if_pos rfl];rfl
theorem AU {dd:List α} {x:α} (h:dd.Nodup):(if x∈dd then dd else dd++[x]).Nodup:=by
 by_cases c:x∈dd
 . rw [if_pos c];exact h
 . rw [if_neg c,List.nodup_append]
   exact ⟨h,by simp,fun a ha b hb e=>by rw [D5] at hb;subst e;subst hb;exact c ha⟩
theorem yH {F dd:List α} {x:α} (h:∀ y,y∈dd ↔ y∈F) (y:α):y∈(if x∈dd then dd else dd++[x]) ↔ y∈F++[x]:=by
 rw [DN,D5]
 by_cases c:x∈dd
 . rw [if_pos c]
   exact ⟨fun z=>.inl ((h y).mp z),fun z=>z.elim (fun z=>(h y).mpr z) (fun z=>z ▸ c)⟩
 . rw [if_neg c,DN,D5,h]
end
def oK (o:List Int):List Key:=o.map Sum.inl
theorem oP (x y:List Int) (h:oK x=oK y):x=y:=by
 unfold oK at h
 exact (List.map_inj_right fun a b e=>Sum.inl.inj e).mp h
theorem oO (o:List Int):(oK o).map kV=o.map V.int:=by unfold oK;rw [List.map_map];rfl
noncomputable def OF (W:Wd):List (List Int):=(bD W.bs).map (io W)
theorem sR (W:Wd):(OF W).length=(bD W.bs).length:=Da _
def Cs (W:Wd):Prop:=∀ ks:List (List Int),ks.Nodup->(∀ k∈ks,k∈OF W)->ks.length<64
noncomputable def shF (W:Wd) (k:List Int):Nat×Nat:=(hmn (OF W) k / Nat.gcd (hmn (OF W) k) (bD W.bs).length,(bD W.bs).length / Nat.gcd (hmn (OF W) k) (bD W.bs).length)
def qQ (H:Hp) (ws:List V) (L:List (List Int×Nat×Nat)):Prop:=ws.length=L.length/\∀ (i:Nat) (k:List Int) (p q:Nat),L[i]? =some (k,p,q)->∃ a b c,ws[i]? =some (.ref a)/\H a=some (.tup [.ref b,.ref c])/\H b=some (.tup (k.map V.int))/\H c=some (.tup [.int (p:Int),.int (q:Int)])
theorem qQ.ts {H H':Hp} {ws:List V} {L:List (List Int×Nat×Nat)} (x:qQ H ws L) (g:bG H H'):qQ H' ws L:=⟨x.1,fun i k p q hp=>by
 obtain ⟨a,b,c,h1,h2,h3,h4⟩:=x.2 i k p q hp
 exact ⟨a,b,c,h1,g _ _ h2,g _ _ h3,g _ _ h4⟩⟩
theorem qQ.nil {H:Hp}:qQ H [] []:=⟨rfl,fun i k p q h=>by simp at h⟩
theorem qQ.snoc {H:Hp} {ws:List V} {L:List (List Int×Nat×Nat)} (x:qQ H ws L) {a b c:Addr} {k:List Int} {p q:Nat} (h2:H a=some (.tup [.ref b,.ref c])) (h3:H b=some (.tup (k.map V.int))) (h4:H c=some (.tup [.int (p:Int),.int (q:Int)])):qQ H (ws++[.ref a]) (L++[(k,p,q)]):=by
 refine ⟨by rw [Dm,Dm,x.1];rfl,fun i k' p' q' h=>?_⟩
 by_cases hi:i<L.length
 . rw [DL hi] at h
   obtain ⟨a',b',c',h1,r⟩:=x.2 i k' p' q' h
   exact ⟨a',b',c',by rw [DL (by rw [x.1];exact hi)];exact h1,r⟩
 . rw [DH (by omega)] at h
   have hz:i-L.length=0:=by
    have:=(Db.mp h).1
    simp at this;omega
   rw [hz] at h
   obtain ⟨rfl,e⟩:=Prod.mk.inj (Dg h)
   obtain ⟨rfl,rfl⟩:=Prod.mk.inj e
   exact ⟨a,b,c,by rw [DH (by rw [x.1];omega),x.1,hz];rfl,h2,h3,h4⟩
section
variable {P:Program} {w:World} {K:PySem.W.Frag} {mg:Str->Option Value} {base:Heap}
def BD:Sp:=fun vs H Q _=>∃ (x y:Nat),vs=[.int (x:Int),.int (y:Int)]/\Q (.int ((Nat.gcd x y:Nat):Int)) H
theorem er (T:Txt K mg):bP P w K mg base (CXr P w) 1 T.greatest_divisor.a T.greatest_divisor.d ["one","other"] BD:=by
 refine T.greatest_divisor.F.okN bh (fun vs H Q E h=>?_) (fun cdv A outer s H vs Q E hr h=>?_)
 . obtain ⟨x,y,rfl,_⟩:=h;rfl
 obtain ⟨x,y,rfl,q⟩:=h
 refine ⟨_,(ai (oC Ea (bF ya (pv 1) ap (cf _)) (ai (aD (i:=2) bh.nd rfl (by first|exact .inl rfl|exact .inr rfl) (aN jb (pv 0) (pv 1))) (ai (aD (i:=0) bh.nd rfl (by first|exact .inl rfl|exact .inr rfl) (pv 1)) (am (aD (i:=1) bh.nd rfl (by first|exact .inl rfl|exact .inr rfl) (pv 2)))))) (am (aB (pv 0)))),?_⟩
 refine ⟨fun m σ H'=>∃ (x' y':Nat) (z:Option V),σ=[some (.int (x':Int)),some (.int (y':Int)),z]/\H'=H/\m=y'/\Nat.gcd x' y'=Nat.gcd x y,⟨y,x,y,none,rfl,rfl,rfl,rfl⟩,?_⟩
 rintro m σ H' ⟨x',y',z,rfl,rfl,em,e⟩
 refine ⟨_,rfl,rfl,_,rfl,?_⟩
 by_cases c:y'=0
 . subst c
   refine oZ rfl ⟨_,rfl,?_⟩
   rw [Nat.gcd_zero_right] at e
   rw [e];exact q
 . refine wR (show (!decide (V.int (y':Int)=V.int 0))=true by rw [Dw (fun z=>c (by have:=V.int.inj z;omega))];rfl) ?_
   refine ⟨_,fun σ' H' h=>h,_,rfl,_,rfl,_,_,rfl,rfl,by show (0:Int)<(y':Int);omega,_,rfl,_,rfl,x'%y',by rw [em];exact Nat.mod_lt _ (by omega),y',x'%y',some (V.int ((x':Int)%(y':Int))),?_,rfl,rfl,?_⟩
   . show _=[some (V.int (y':Int)),some (V.int ((x'%y':Nat):Int)),some (V.int ((x':Int)%(y':Int)))]
     rw [Int.natCast_emod];rfl
   . rw [<- e,Nat.gcd_comm x' y',Nat.gcd_rec y' x',Nat.gcd_comm]
def vd:Sp:=fun vs H Q _=>∃ (x y:Nat),vs=[.int (x:Int),.int (y:Int)]/\0<x/\x<1000000/\∀ p,H p=none->Q (.ref p) (upd H p (.tup [.int ((x / Nat.gcd x y:Nat):Int),.int ((y / Nat.gcd x y:Nat):Int)]))
theorem vL (T:Txt K mg):bP P w K mg base (CXr P w) 2 T.share.a T.share.d ["part","whole"] vd:=by
 refine T.share.F.okN oz (fun vs H Q E h=>?_) (fun cdv A outer s H vs Q E hr h=>?_)
 . obtain ⟨x,y,rfl,_⟩:=h;rfl
 obtain ⟨x,y,rfl,hx,hz,q⟩:=h
 refine ⟨_,(ai (aD (i:=2) oz.nd rfl (by first|exact .inl rfl|exact .inr rfl) (aj (er T) (hr.mono (by decide)) rfl T.greatest_divisor.m T.greatest_divisor.F.kp T.greatest_divisor.b .nil aw (ad (pv 0) (ad (pv 1) af)))) (am (aB (bV (ad (aN sN (pv 0) (pv 2)) (ad (aN sN (pv 1) (pv 2)) af)))))),?_⟩
 have g0:0<Nat.gcd x y:=Nat.gcd_pos_of_pos_left y hx
 have g1:Nat.gcd x y<=x:=Nat.gcd_le_left y hx
 refine ⟨_,rfl,_,rfl,x,y,rfl,_,rfl,_,rfl,_,_,rfl,rfl,⟨by omega,by omega⟩,_,rfl,_,rfl,_,_,rfl,rfl,⟨by omega,by omega⟩,by show 2<=sizeLine;decide,fun p hp=>?_⟩
 show Q (.ref p) (upd H p (.tup [.int ((x:Int) / ((Nat.gcd x y:Nat):Int)),.int ((y:Int) / ((Nat.gcd x y:Nat):Int))]))
 rw [<- Int.natCast_ediv,<- Int.natCast_ediv]
 exact q p hp
def BI:Sp:=fun vs H Q _=>∃ (v:V) (W:Wd),vs=[v]/\Rep H v (cv W)/\W.Ok/\(bD W.bs).length<=600/\Cs W/\∀ (l:Addr) (ws:List V) (ks:List (List Int)) (H':Hp),aM H H'->H l=none->ks.Nodup->(∀ k,k∈ks ↔ k∈OF W)->ks.Pairwise leT->H' l=some (.lst ws)->qQ H' ws (ks.map fun k=>(k,shF W k))->Q (.ref l) H'
set_option maxHeartbeats 1000000 in
theorem qd (T:Txt K mg):bP P w K mg base (CXr P w) 13 T.chances.a T.chances.d ["world"] BI:=by
 refine T.chances.F.okN dN (fun vs H Q E h=>?_) (fun cdv A outer s H vs Q E hr h=>?_)
 . obtain ⟨v,W,rfl,_⟩:=h;rfl
 obtain ⟨v,W,rfl,hW,hok,hN,few,q⟩:=h
 refine ⟨_,(ai (bn (aj (fc T) (hr.mono (by decide)) rfl T.check_many.m T.check_many.F.kp T.check_many.b .nil aw (ad (pv 0) af))) (ai (aD (i:=1) dN.nd rfl (by first|exact .inl rfl|exact .inr rfl) vD) (ai (cD Ea rfl (cj (aj (d4 T) (hr.mono (by decide)) rfl T.all_lengths.m T.all_lengths.F.kp T.all_lengths.b .nil aw (ad (pv 0) af))) (aC (i:=2) dN.nd rfl (by first|exact .inl rfl|exact .inr rfl)) (ai (aD (i:=3) dN.nd rfl (by first|exact .inl rfl|exact .inr rfl) (aO aL (aj (G.iq T) (hr.mono (by decide)) rfl T.played.m T.played.F.kp T.played.b .nil aw (ad (pv 0) (ad (pv 2) af))) ap (fun _ _=>rfl))) (am (sv (qt hr) (pv 1) (pv 3) (aN bt (vF (qt hr) (pv 1) (pv 3) ap ⟨rfl,rfl,rfl,rfl⟩) ap) rfl)))) (am (aB (bS (NB:=["order","counts","world"]) (js:=[none,some 1,some 0]) rfl (bA rfl (by decide+kernel) rfl (by decide+kernel) (by decide+kernel) (by with_unfolding_all rfl) (by with_unfolding_all rfl) (by with_unfolding_all rfl) (by with_unfolding_all rfl)) (cj (az (nZ rfl) rfl T.n_sorted mq (ad (pv 1) af))) (fun _ _ _ _=>(aC (i:=0) (show (["order","counts","world"]:List Str).Nodup by decide+kernel) rfl (by first|exact .inl rfl|exact .inr rfl))) (fun _ _ _ _=>dk) (fun _ _ _ _=>(bV (ad (pv 0) (ad (aj (vL T) (hr.mono (by decide)) rfl T.share.m T.share.F.kp T.share.b .nil aw (ad (sE (qt hr) (pv 1) (pv 0) (fun _ _=>rfl)) (ad (aj (bq T) (hr.mono (by decide)) rfl T.how_many_lengths.m T.how_many_lengths.F.kp T.how_many_lengths.b .nil aw (ad (pv 2) af)) af))) af)))))))))),?_⟩
 have l1:=hok.l1
 have l10:=hok.l10
 refine ⟨_,rfl,v,W,rfl,hW,hok,hN,fun H1 g1=>?_⟩
 refine fun d hd=>?_
 have fd:H d=none:=g1.free hd
 have gd:=ak hd (.dT [])
 have hd0:upd H1 d (.dT []) d=some (.dT (bkG oK [] [])):=ah
 generalize upd H1 d (.dT [])=H2 at*
 have g2:=g1.trans gd
 refine ⟨_,rfl,v,W,rfl,hW.mono g2,hok,w9 hok (by omega),fun la wa H3 g3 fla hla rta=>?_⟩
 have dla:la≠d:=fun z=>by rw [z,hd0] at fla;cases fla
 have wl:=rta.1
 refine ⟨la,rfl,⟨_,SqL.of hla⟩,gQ (K:=K) (a:=la) (xs:=wa) (fun i σ H4=>∃ (x2 x3:Option V) (dd:List (List Int)),σ=[some v,some (.ref d),x2,x3]/\aM H H4/\H4 la=some (.lst wa)/\bH H4 wa (bD W.bs)/\H4 d=some (.dT (bkG oK ((OF W).take i) dd))/\dd.Nodup/\∀ y,y∈dd ↔ y∈(OF W).take i) ⟨none,none,[],rfl,g2.trans g3,hla,rta,g3 _ _ hd0,List.nodup_nil,fun y=>Iff.rfl⟩ ?_ ?_ ?_⟩
 . rintro i σ H4 _ ⟨x2,x3,dd,rfl,_,h4,_⟩
   exact SqL.of h4
 . rintro i u σ H4 hu ⟨x2,x3,dd,rfl,g4,hla4,rt4,hd4,nd,dm⟩
   obtain ⟨ls,qr,hls,rfl,hqr⟩:=rt4.at hu
   have hin:=eD (Dj hls)
   have h10:=hin.l10 hok
   have hO:(OF W)[i]? =some (io W ls):=by unfold OF;rw [Di,hls];rfl
   have ddF:=few dd nd fun k hk=>Eh ((dm k).mp hk)
   refine ⟨_,rfl,_,rfl,v,qr,W,ls,rfl,hW.mono g4,hok,hqr,hin,fun pp a l ps H5 g5 pm pw hpp ha hl=>?_⟩
   rw [jO h10 pm pw] at ha
   have ha':H5 a=some (.tup ((oK (io W ls)).map kV)):=by rw [oO];exact ha
   have hd5:=g5 _ _ hd4
   rw [G.bE hO]
   refine ⟨pp,_,_,_,rfl,rfl,SqT.of hpp,rfl,?_⟩
   generalize (OF W).take i=F at*
   have ev:(iH (bkG oK F dd) (oK (io W ls))).getD (.int 0)=.int ((hmn F (io W ls):Nat):Int):=by
    rw [ko oP]
    by_cases c:io W ls∈dd
    . rw [if_pos c];rfl
    . rw [if_neg c,vY (fun z=>c ((dm _).mpr z))];rfl
   refine ⟨_,rfl,d,rfl,.inr ⟨_,.inl hd5⟩,_,rfl,_,mF.t hd5 ha',_,1,ev,rfl,_,rfl,_,rfl,d,_,rfl,xf.t hd5 ha' (by rw [yP];exact Do (show _<1000 by omega) (by decide)),?_⟩
   have ts:bG H5 (upd H5 d (.dT (lh (bkG oK F dd) (oK (io W ls)) (.int (((hmn F (io W ls):Nat):Int)+1))))):=fun b ys hb=>by
    rw [aA (fun z=>by rw [z,hd5] at hb;cases hb)];exact hb
   exact ⟨_,_,_,rfl,(g4.trans g5).write fd _,by rw [aA dla];exact g5 _ _ hla4,(rt4.ts g5.ts).ts ts,by rw [ah,yO oP],AU nd,yH dm⟩
 rintro σ H4 ⟨x2,x3,dd,rfl,g4,hla4,rt4,hd4,nd,dm⟩
 have eO:(OF W).take wa.length=OF W:=by rw [wl,<- sR,DE]
 rw [eO] at hd4 dm
 have ddF:=few dd nd fun k hk=>(dm k).mp hk
 have rg:∀ k∈dd,BE.RgT W.bs.length k:=fun k hk=>by
  obtain ⟨ls,hls,rfl⟩:=DM.mp ((dm k).mp hk)
  have om:=gL hok (eD hls)
  exact ⟨om.1,l1,fun x hx=>by have:=om.2 x hx;omega⟩
 refine ⟨_,rfl,d,_,W.bs.length,dd,rfl,hd4,wn oK _ _,rg,ddF,fun l ws ks hl pm pw tin=>?_⟩
 have kl:=ak hl (.lst ws)
 have el:upd H4 l (.lst ws) l=some (.lst ws):=ah
 have hd5:=kl _ _ hd4
 have rk:bH (upd H4 l (.lst ws)) ws ks:=bH.ts ⟨tin.1,tin.2⟩ kl.ts
 have g5:=g4.trans kl
 generalize upd H4 l (.lst ws)=H5 at*
 have kd:∀ k,k∈ks ↔ k∈OF W:=fun k=>(pm.mem_iff).trans (dm k)
 have kn:ks.Nodup:=(pm.nodup_iff).mpr nd
 have kln:ks.length=dd.length:=pm.length_eq
 refine ⟨l,rfl,⟨_,SqL.of el⟩,fun D hD=>?_⟩
 have wk:=rk.1
 refine bR (K:=K) (a:=l) (xs:=ws) (fun i ys H6=>aM H5 H6/\H6 D=some (.lst ys)/\qQ H6 ys ((ks.take i).map fun k=>(k,shF W k))) ⟨ak hD _,ah,qQ.nil⟩ (fun i ys H6 _ hP=>SqL.of (hP.1 _ _ el)) (fun i ys y H6 hy hP=>?_) (fun ys H6 hP=>?_)
 . obtain ⟨g6,hD6,ci⟩:=hP
   obtain ⟨k,qr,hk,rfl,hqr⟩:=(rk.ts g6.ts).at hy
   have hi:i<ws.length:=(Db.mp hy).1
   have hkm:=Dj hk
   have hkO:=(kd k).mp hkm
   have cl:=ci.1
   rw [Da,Dv] at cl
   have c0:=tL hkO
   have c1:=wT (OF W) k
   rw [sR] at c1
   have hqr':H6 qr=some (.tup ((oK k).map kV)):=by rw [oO];exact hqr
   have hget:mF H6 d (.ref qr) (some (.int ((hmn (OF W) k:Nat):Int))):=by
    have:=mF.t (g6 _ _ hd5) hqr'
    rw [ko oP,if_pos (pm.mem_iff.mp hkm)] at this
    exact this
   refine ⟨gr,cg ⟨_,rfl,_,rfl,_,rfl,d,_,rfl,hget,_,rfl,v,W,rfl,(hW.mono g5).mono g6,hok,fun H7 g7=>?_⟩⟩
   refine ⟨hmn (OF W) k,(bD W.bs).length,rfl,c0,by omega,fun ps hps=>?_⟩
   have ks1:=ak hps (.tup [.int ((hmn (OF W) k / Nat.gcd (hmn (OF W) k) (bD W.bs).length:Nat):Int),.int (((bD W.bs).length / Nat.gcd (hmn (OF W) k) (bD W.bs).length:Nat):Int)])
   have es1:upd H7 ps (.tup [.int ((hmn (OF W) k / Nat.gcd (hmn (OF W) k) (bD W.bs).length:Nat):Int),.int (((bD W.bs).length / Nat.gcd (hmn (OF W) k) (bD W.bs).length:Nat):Int)]) ps=some (.tup [.int ((shF W k).1:Int),.int ((shF W k).2:Int)]):=ah
   generalize upd H7 ps (.tup [.int ((hmn (OF W) k / Nat.gcd (hmn (OF W) k) (bD W.bs).length:Nat):Int),.int (((bD W.bs).length / Nat.gcd (hmn (OF W) k) (bD W.bs).length:Nat):Int)])=H8 at*
   refine ⟨by show 2<=sizeLine;decide,fun pe hpe=>?_⟩
   have ke:=ak hpe (.tup [.ref qr,.ref ps])
   have ee:upd H8 pe (.tup [.ref qr,.ref ps]) pe=some (.tup [.ref qr,.ref ps]):=ah
   have es2:=ke _ _ es1
   generalize upd H8 pe (.tup [.ref qr,.ref ps])=H9 at*
   have g69:=g7.trans (ks1.trans ke)
   have hD9:=g69 _ _ hD6
   refine ⟨hD9,Do (show ys.length<100 by omega) (by decide),(g6.trans g69).write hD _,ah,?_⟩
   rw [G.bE hk,DR]
   have ts:=bG.lst hD9 (.lst (ys++[.ref pe]))
   exact (ci.ts (g69.ts.trans ts)).snoc (ts _ _ ee) (ts _ _ (g69 _ _ hqr)) (ts _ _ es2)
 . obtain ⟨g6,hD6,ci⟩:=hP
   rw [wk,DE] at ci
   exact q D ys ks H6 (g5.trans g6) (g5.free hD) kn kd pw hD6 ci
end
end Be
namespace Be
open PySem L2 BE
theorem uL {W:Wd} (hok:W.Ok) (hw:∀ p∈W.bs,p.2<=p.1+4-1):∀ i,(bD (W.bs.take i)).length<=4^i
 | 0=>by rw [List.take_zero];exact Dh _
 | i+1=>by
  have ih:=uL hok hw i
  cases e:W.bs[i]? with
  | none=>
   have:W.bs.length<=i:=List.getElem?_eq_none_iff.mp e
   rw [DA (by omega)]
   rw [DA this] at ih
   exact DP ih (Nat.pow_le_pow_right (by decide) (by omega))
  | some p=>
   rw [wt e,Nat.pow_succ]
   have:=hw p (Dj e)
   exact Nat.mul_le_mul ih (by omega)
theorem yT {W:Wd} (hok:W.Ok) (hl:(W.bs.length:Int)<=4) (hw:∀ p∈W.bs,p.2<=p.1+4-1):(bD W.bs).length<=256:=by
 have:=uL hok hw W.bs.length
 rw [DE] at this
 exact DP this (Nat.pow_le_pow_right (by decide) (show W.bs.length<=4 by omega))
theorem z9 {W:Wd} {k:List Int} (hok:W.Ok) (h:k∈OF W):VO W k/\(early W k).isSome=true:=by
 obtain ⟨ls,hls,rfl⟩:=DM.mp h
 have hin:=eD hls
 obtain ⟨ps,pm,pw,e⟩:=im hok hin
 obtain ⟨vo,r,he⟩:=(e6 hin (hin.l10 hok) pm pw).early hok (ps.map fun p=>p.2).length
 rw [DE,<- e] at vo he
 exact ⟨vo,by rw [he];rfl⟩
theorem lD {α:Type} [DecidableEq α]:∀ {l1 l2:List α},l1.Nodup->(∀ x∈l1,x∈l2)->l1.length<=l2.length
 | [],_,_,_=>DD _
 | x::l1,l2,nd,sub=>by
  have nd':=EB.mp nd
  have hx:x∈l2:=sub x Dx
  have:=lD (l1:=l1) (l2:=l2.erase x) nd'.2 fun y hy=>(List.mem_erase_of_ne (fun e=>nd'.1 (by rw [<- e];exact hy))).mpr (sub y (Dk _ hy))
  rw [List.length_erase_of_mem hx] at this
  have:=List.length_pos_of_mem hx
  rw [DF];omega
def pmN (n:Nat):List (List Int):=(bD (List.replicate n (0,(n:Int)-1))).filter fun k=>decide k.Nodup
theorem xU:(List.range 5).all (fun n=>decide ((pmN n).length<64))=true:=by decide+kernel
theorem CV {W:Wd} (hok:W.Ok) (hl:(W.bs.length:Int)<=4):Cs W:=fun ks nd sub=>by
 have a:=lD (l2:=pmN W.bs.length) nd fun k hk=>by
  have hk:=sub k hk
  have vo:=(z9 hok hk).1
  obtain ⟨ls,hls,rfl⟩:=DM.mp hk
  obtain ⟨e,m⟩:=gL hok (eD hls)
  refine List.mem_filter.mpr ⟨dP.mpr ⟨by rw [D4];exact e,fun j p x hp hx=>?_⟩,decide_eq_true vo.nd⟩
  have hx:=m x (Dj hx)
  have hp:=List.eq_of_mem_replicate (Dj hp)
  subst hp
  show 0<=x/\x<=(W.bs.length:Int)-1
  omega
 have b:=of_decide_eq_true (List.all_eq_true.mp xU W.bs.length (DQ.mpr (by omega)))
 omega
theorem wO:∀ {p q:List Int},p.length=q.length->(∀ z∈p,0<=z/\z<1000)->(∀ z∈q,0<=z/\z<1000)->BE.kT p=BE.kT q->p=q
 | [],[],_,_,_,_=>rfl
 | [],_::_,h,_,_,_=>by simp at h
 | _::_,[],h,_,_,_=>by simp at h
 | x::xs,y::ys,hl,hx,hy,h=>by
  have hl':xs.length=ys.length:=by simpa using hl
  have hx':∀ z∈xs,0<=z/\z<1000:=fun z hz=>hx z (Dk _ hz)
  have hy':∀ z∈ys,0<=z/\z<1000:=fun z hz=>hy z (Dk _ hz)
  rcases Int.lt_trichotomy x y with c | c | c
  . have:=BE.vW hl' hx' hy' c;omega
  . subst c
    have h:x*1000^xs.length+BE.kT xs=x*1000^ys.length+BE.kT ys:=h
    rw [hl'] at h
    rw [wO hl' hx' hy' (by omega)]
  . have:=BE.vW hl'.symm hy' hx' c;omega
theorem Bp {m:Nat}:∀ {a b:List (List Int)},(∀ k∈a,BE.RgT m k)->a.Nodup->b.Nodup->(∀ k,k∈a ↔ k∈b)->a.Pairwise leT->b.Pairwise leT->a=b:=by
 intro a b hr na nb hm pa pb
 have pm:a.Perm b:=(List.perm_ext_iff_of_nodup na nb).mpr hm
 refine List.Perm.eq_of_pairwise (le:=leT) (fun x y hx hy h1 h2=>?_) pa pb pm
 have rx:=hr x hx
 have ry:=hr y ((hm y).mpr hy)
 unfold leT at h1 h2
 exact wO (rx.1.trans ry.1.symm) rx.2.2 ry.2.2 (by omega)
theorem vn (c n:Nat):c / Nat.gcd c n*n=c*(n / Nat.gcd c n):=by
 have h1:=Nat.gcd_dvd_left c n
 have h2:=Nat.gcd_dvd_right c n
 generalize Nat.gcd c n=g at*
 obtain ⟨x,rfl⟩:=h1
 obtain ⟨y,rfl⟩:=h2
 rcases Nat.eq_zero_or_pos g with rfl | hg
 . simp
 . rw [Nat.mul_div_cancel_left _ hg,Nat.mul_div_cancel_left _ hg,Nat.mul_left_comm,Nat.mul_assoc]
end Be
namespace Be
open PySem L2
theorem pd {xs:List Int} (j:Int) (h:0<=j):qD (xs.map V.int) none (some j)=(xs.take j.toNat).map V.int:=by
 unfold qD
 show ((xs.map V.int).drop 0).take ((if j<0 then _ else min j.toNat (xs.map V.int).length)-0)=_
 rw [if_neg (by omega),List.drop_zero,List.map_take,Da,Nat.sub_zero]
 by_cases c:j.toNat<=xs.length
 . rw [Nat.min_eq_left c]
 . rw [Nat.min_eq_right (by omega),DA (by rw [Da];exact Dh _),DA (by rw [Da];omega)]
def far (W:Wd) (o:List Int) (g v:Nat):Int:=(ge (rnd (ao W o) (o.length+1) (aR (o.length+1) g)).1 v).getD 0
theorem AJ {W:Wd} {o r:List Int} (hok:W.Ok) (vo:VO W o) (he:early W o=some r) {g:Nat} (hg:g<o.length+1):
    ∃ L:Nat->Int,bw (ao W o) L/\L g=0/\∀ v,v<o.length+1->ge (rnd (ao W o) (o.length+1) (aR (o.length+1) g)).1 v=some (far W o g v)/\far W o g v=-(L v):=by
 obtain ⟨L,hL⟩:=oX hok vo he hg
 refine ⟨L,hL.fe.fe,hL.fe.z,fun v hv=>?_⟩
 have e:=nT hL (inR hok vo) hg hv
 unfold far
 rw [e]
 exact ⟨rfl,rfl⟩
theorem o7 {W:Wd} {o r:List Int} (hok:W.Ok) (vo:VO W o) (he:early W o=some r) {g v:Nat} (hg:g<o.length+1) (hv:v<o.length+1) {f:Nat->Int} (hf:bw (ao W o) f):f g-f v<=far W o g v:=by
 obtain ⟨L,hL⟩:=oX hok vo he hg
 have hi:=inR hok vo
 have T:=jw (g:=g) hi hL.fe.fe (o.length+1)
 have lo:=fL hL.fe.fe (fo L (o.length+1) g) (o.length+1)
 obtain ⟨tm,hl⟩:=Al hi hL.fe T lo
 obtain ⟨p,xs,hp,nd,hx⟩:=hl _ _ v _ rfl rfl hv (nT hL hi hg hv)
 have e:nq (ao W o) p=-(L v):=by
  refine hp.sum (ms:=(rnd (ao W o) (o.length+1) (aR (o.length+1) g)).1) hL.fe (by rw [T.l1];exact hi) (fun u hu=>nT hL hi hg (by rw [T.l1] at hu;exact hu)) (fun u k hk=>?_) (by rw [T.l1];exact hv)
  obtain ⟨tm',now,_,ok⟩:=T.ok
  obtain ⟨r',y1,yv,_,h1,h2,h3,h4,h5⟩:=ok u k hk
  exact ⟨r',y1,yv,h1,h2,h3,h4,by rcases h5 with h5 | h5<;>omega⟩
 have b:=hp.walk.bound hf
 unfold far
 rw [nT hL hi hg hv]
 show f g-f v<= -(L v)
 omega
theorem sf {H:Hp}:∀ {ws:List V} {ps:List (Int×Int)},bM H ws ps->Reps H ws (ps.map jl)
 | [],[],_=>.nil
 | [],p::ps,h=>by have:=h.1;simp at this
 | w::ws,[],h=>by have:=h.1;simp at this
 | w::ws,p::ps,h=>by
  obtain ⟨q,e,hq⟩:=h.2 0 p rfl
  have ew:w=.ref q:=Dg e
  subst ew
  refine .cons (.tup hq (Reps.ints (ns:=[p.1,p.2]))) (sf ⟨by have:=h.1;simpa using this,fun i p' hp=>?_⟩)
  exact h.2 (i+1) p' hp
def yi (W:Wd) (o:List Int) (x:Int):Int×Int:=(-(far W o (bg W x).toNat (o.idxOf x+1)),far W o (o.idxOf x+1) (bg W x).toNat)
def bsT (W:Wd) (o:List Int) (i:Nat):List (Int×Int):=(hG W.bs.length).map fun x=>if x∈o.take i then yi W o x else bnd W x
def tW (W:Wd) (o:List Int):Wd:=⟨W.b,bsT W o o.length⟩
section
variable {W:Wd} {o r:List Int}
theorem eG (i:Nat):(bsT W o i).length=W.bs.length:=by unfold bsT;rw [Da,eK]
theorem pA {i x:Nat} (h:x<W.bs.length):(bsT W o i)[x]? =some (if (x:Int)∈o.take i then yi W o (x:Int) else bnd W (x:Int)):=by
 unfold bsT hG
 rw [List.map_map,Di,List.getElem?_range h];rfl
theorem wj:bsT W o 0=W.bs:=by
 apply Er
 intro k
 by_cases h:k<W.bs.length
 . rw [pA h,List.take_zero,if_neg (by simp),C7 h]
   unfold bnd
   rw [Dz,C9,C7 h];rfl
 . rw [DO (by rw [eG];omega),DO (by omega)]
theorem yL (vo:VO W o) {i:Nat} {x:Int} (h:o[i]? =some x):(bsT W o i).set x.toNat (yi W o x)=bsT W o (i+1):=by
 have xb:=vo.lt (Dj h)
 have e2:((x.toNat:Nat):Int)=x:=by omega
 have et:o.take (i+1)=o.take i++[x]:=by rw [Ep,h];rfl
 apply Er
 intro k
 by_cases hk:k<W.bs.length
 . rw [pA hk]
   by_cases c:k=x.toNat
   . rw [c,List.getElem?_set_self (by rw [eG];omega),if_pos (by rw [et,e2];simp),e2]
   . rw [List.getElem?_set_ne (Ne.symm c),pA hk,et]
     have hne:(k:Int)≠x:=by omega
     by_cases d:(k:Int)∈o.take i
     . rw [if_pos d,if_pos (by simp [d])]
     . rw [if_neg d,if_neg (by simp [d,hne])]
 . rw [DO (by rw [Ef,eG];omega),DO (by rw [eG];omega)]
theorem yh (vo:VO W o) {j:Nat} (hj:j<o.length):yi W o (o.getD j 0)=(-(far W o (bg W (o.getD j 0)).toNat (j+1)),far W o (j+1) (bg W (o.getD j 0)).toNat):=by
 have e:o[j]? =some (o.getD j 0):=by rw [C9,C7 hj];rfl
 unfold yi
 rw [wS vo.nd e]
theorem Cc (hok:W.Ok) (vo:VO W o) {j:Nat} (hj:j<o.length):(bg W (o.getD j 0)).toNat<o.length+1:=by
 have g:=vo.getD hj
 have b:=qI hok g.1 g.2
 omega
theorem Len.eq (hok:W.Ok) (vo:VO W o) (he:early W o=some r) {j:Nat} {x:Int} (hx:o[j]? =some x) {l m:Int} (L:Len W o x j l m):(l,m)=yi W o x:=by
 have hj:j<o.length:=(Db.mp hx).1
 have vb:=vo.at_ j x hx
 have b:=qI hok vb.1 vb.2
 have bi:(bg W x).toNat<o.length+1:=by omega
 unfold yi
 rw [wS vo.nd hx]
 obtain ⟨f1,F1,e1⟩:=L.m1
 obtain ⟨p2,w2,s2⟩:=L.m2
 obtain ⟨f3,F3,e3⟩:=L.l1
 obtain ⟨p4,w4,s4⟩:=L.l2
 obtain ⟨L1,hL1,_,hv1⟩:=AJ hok vo he (g:=j+1) (by omega)
 obtain ⟨L2,hL2,_,hv2⟩:=AJ hok vo he bi
 have a1:=o7 hok vo he (g:=j+1) (by omega) bi F1
 have a2:=w2.bound hL1
 have a3:=o7 hok vo he bi (v:=j+1) (by omega) F3
 have a4:=w4.bound hL2
 have d1:=(hv1 _ bi).2
 have d2:=(hv2 (j+1) (by omega)).2
 have e1':m=far W o (j+1) (bg W x).toNat:=by omega
 have e2':l=-(far W o (bg W x).toNat (j+1)):=by omega
 rw [e1',e2']
end
theorem wv {H:Hp} {us:List V} {ps:List (Int×Int)} {k:Nat} {q:Addr} {p:Int×Int} (h:bM H us ps) (hq:H q=some (.tup [.int p.1,.int p.2])):bM H (us.set k (.ref q)) (ps.set k p):=by
 refine ⟨by rw [Ef,Ef,h.1],fun i p' hp=>?_⟩
 by_cases c:k=i
 . subst c
   have hk:k<ps.length:=by have:=(Db.mp hp).1;rw [Ef] at this;exact this
   rw [List.getElem?_set_self hk] at hp
   obtain rfl:=Dg hp
   exact ⟨q,List.getElem?_set_self (by rw [h.1];exact hk),hq⟩
 . rw [List.getElem?_set_ne c] at hp
   obtain ⟨q',a,b⟩:=h.2 i p' hp
   exact ⟨q',by rw [List.getElem?_set_ne c];exact a,b⟩
theorem zX {H:Hp} {v:V} {W:Wd} {a p:Addr} {vs:List V} (A:AtW H v W a p vs):bM H vs W.bs:=⟨A.len,fun i x hx=>A.it i x hx⟩
theorem iG (n:Nat):(List.replicate n true).all id=true:=by simp
theorem fG (n:Nat):(List.replicate n true).map V.bl++[.bl true]=(List.replicate (n+1) true).map V.bl:=by rw [List.replicate_succ',DR];rfl
theorem hU {n:Nat} (h:n<=100):((List.replicate n true).map V.bl).length<sizeLine:=by
 rw [Da,D4]
 exact Nat.lt_of_le_of_lt h (by decide)
section
variable {P:Program} {w:World} {K:PySem.W.Frag} {mg:Str->Option Value} {base:Heap}
def u9 (T:Txt K mg):Sp:=fun vs H Q _=>∃ (v t:V) (W:Wd) (o r:List Int),vs=[v,t]/\Rep H v (cv W)/\W.Ok/\Rep H t (iW o)/\VO W o/\early W o=some r/\∀ (u:V) (H':Hp),aM H H'->Rep H' u (cv (tW W o))->Q u H'
set_option maxHeartbeats 1000000 in
theorem qb (T:Txt K mg):bP P w K mg base (CXr P w) 12 T.tighter.a T.tighter.d ["world","order"] (u9 T):=by
 refine T.tighter.F.okN fI (fun vs H Q E h=>?_) (fun cdv A outer s H vs Q E hr h=>?_)
 . obtain ⟨v,t,W,o,r,rfl,_⟩:=h;rfl
 obtain ⟨v,t,W,o,r,rfl,hW,hok,ho,vo,he,q⟩:=h
 refine ⟨_,(ai (bn (aj (d3 T) (hr.mono (by decide)) rfl T.check_could.m T.check_could.F.kp T.check_could.b .nil aw (ad (pv 0) (ad (pv 1) af)))) (ai (aD (i:=2) fI.nd rfl (by first|exact .inl rfl|exact .inr rfl) (cz mm rfl T.n_list uA (ad (aO aL (pv 0) ap (fun _ _=>rfl)) af))) (ai (cD Ea rfl (oD (pv 1)) (aC (i:=3) fI.nd rfl (by first|exact .inl rfl|exact .inr rfl)) (am (li (aj (sP T) (hr.mono (by decide)) rfl T.length.m T.length.F.kp T.length.b .nil aw (ad (pv 0) (ad (pv 1) (ad (pv 3) af)))) (lq (pv 2) (pv 3) eN)))) (am (aB (bV (ad (aj (aJ T) (hr.mono (by decide)) rfl T.how_many_benches.m T.how_many_benches.F.kp T.how_many_benches.b .nil aw (ad (pv 0) af)) (ad (cz cZ rfl T.n_tuple de (ad (pv 2) af)) af)))))))),?_⟩
 obtain ⟨po,rfl,hpo⟩:=xE (K:=K) ho
 have l10:=hok.l10
 have vl:=vo.len
 refine ⟨_,rfl,_,rfl,v,.ref po,W,o,rfl,hW,hok,ho,vo,fun _ H1 g1=>?_,fun z=>by rw [he] at z;cases z⟩
 have hW1:=hW.mono g1
 have hpo1:=g1 _ _ hpo
 obtain ⟨ca,cp,cvs,AW⟩:=atW hW1
 obtain rfl:=AW.v
 refine ⟨_,rfl,ca,_,_,_,rfl,rfl,SqT.of AW.a,rfl,cp,_,rfl,.inr (SqT.of AW.p),fun d hd=>?_⟩
 have g2:=ak hd (.lst cvs)
 have fd:H d=none:=g1.free hd
 refine ⟨_,rfl,po,rfl,⟨_,SqT.of (g2 _ _ hpo1)⟩,tY (K:=K) (a:=po) (xs:=o.map V.int) (fun i σ H2=>∃ (us:List V) (x3:Option V),σ=[some (.ref ca),some (.ref po),some (.ref d),x3]/\aM H H2/\H2 d=some (.lst us)/\bM H2 us (bsT W o i)) ?_ ?_ ?_ ?_⟩
 . refine ⟨cvs,none,rfl,g1.trans g2,ah,?_⟩
   rw [wj]
   exact (zX AW).ts g2.ts
 . rintro i σ H2 _ ⟨us,x3,rfl,g,_⟩
   exact SqT.of (g _ _ hpo)
 . rintro i u σ H2 hu ⟨us,x3,rfl,g,hd2,pin⟩
   obtain ⟨x,hx,rfl⟩:=G.iz hu
   have xb:=vo.lt (Dj hx)
   refine ⟨_,rfl,_,rfl,_,rfl,.ref ca,.ref po,W,o,r,x,i,rfl,hW.mono g,hok,ho.mono g,vo,he,hx,fun least most p H3 L g3 hp=>?_⟩
   have e:=L.eq hok vo he hx
   have hd3:=g3 _ _ hd2
   have pl:=pin.1
   rw [eG] at pl
   refine ⟨_,rfl,_,rfl,d,us,_,x.toNat,rfl,rfl,hd3,gh xb.1 (by omega),?_⟩
   have tsd:=bG.lst hd3 (.lst (us.set x.toNat (.ref p)))
   refine ⟨_,_,rfl,(g.trans g3).write fd _,ah,?_⟩
   rw [<- yL vo hx,<- e]
   exact wv (pin.ts (g3.ts.trans tsd)) (tsd _ _ hp)
 . rintro σ H2 ⟨us,x3,rfl,g,hd2,pin⟩
   rw [Da] at pin
   refine ⟨_,rfl,.ref ca,W,rfl,hW.mono g,_,rfl,d,_,rfl,.inl ⟨SqL.of hd2,fun p1 hp1=>?_⟩⟩
   have k1:=ak hp1 (.tup us)
   have e1:upd H2 p1 (.tup us) p1=some (.tup us):=ah
   generalize upd H2 p1 (.tup us)=H3 at*
   refine ⟨by show 2<=sizeLine;decide,fun p2 hp2=>?_⟩
   have k2:=ak hp2 (.tup [.int W.b,.ref p1])
   exact q _ _ (g.trans (k1.trans k2)) (.tup ah (.cons (.int _) (.cons (.tup (k2 _ _ e1) (sf (pin.ts (k1.trans k2).ts))) .nil)))
end
end Be
namespace Be
open PySem L2 BE
def ltT (p q:List Int):Prop:=BE.kT p<BE.kT q
theorem jY (r:List Int) (x:Int):BE.kT (r++[x])=BE.kT r*1000+x:=by
 induction r with
 | nil=>simp [BE.kT]
 | cons y r ih=>
  show y*1000^(r++[x]).length+BE.kT (r++[x])=(y*1000^r.length+BE.kT r)*1000+x
  rw [ih,Dm,List.length_singleton,Int.pow_succ,Int.add_mul,Int.mul_assoc]
  omega
theorem AK {p:Int×Int} (r:List Int):(o8 p r).Pairwise ltT:=by
 unfold o8
 rw [List.pairwise_map]
 refine List.Pairwise.imp (fun {i j} (h:i<j)=>?_) List.pairwise_lt_range
 show BE.kT _<BE.kT _
 rw [jY,jY]
 omega
theorem rD {p:Int×Int} (h0:0<=p.1) (h1:p.2<1000):∀ {rows:List (List Int)},rows.Pairwise ltT->(cy rows p).Pairwise ltT
 | [],_=>List.Pairwise.nil
 | r::rows,h=>by
  have hc:=List.pairwise_cons.mp h
  show (o8 p r++cy rows p).Pairwise ltT
  refine Eg.mpr ⟨AK r,rD h0 h1 hc.2,fun a ha b hb=>?_⟩
  obtain ⟨x,x0,x1,rfl⟩:=gO.mp ha
  obtain ⟨r',hr',hb⟩:=List.mem_flatMap.mp hb
  obtain ⟨y,y0,y1,rfl⟩:=gO.mp hb
  have:=hc.1 r' hr'
  unfold ltT at this ⊢
  rw [jY,jY]
  omega
theorem pF {W:Wd} (hok:W.Ok):∀ i,(bD (W.bs.take i)).Pairwise ltT
 | 0=>by rw [List.take_zero];exact List.pairwise_singleton _ _
 | i+1=>by
  have ih:=pF hok i
  cases e:W.bs[i]? with
  | none=>
   have:W.bs.length<=i:=List.getElem?_eq_none_iff.mp e
   rw [DA (by omega)]
   rw [DA this] at ih
   exact ih
  | some p=>
   have b:=hok.bd p (Dj e)
   rw [show W.bs.take (i+1)=W.bs.take i++[p] by rw [Ep,e];rfl,fD]
   exact rD (by omega) (by omega) ih
theorem rZ {W:Wd} (hok:W.Ok) (o:List Int):(cH W o).Pairwise ltT:=by
 have:=pF hok W.bs.length
 rw [DE] at this
 exact List.Pairwise.sublist List.filter_sublist this
theorem xH {W:Wd} (hok:W.Ok) (o:List Int):(cH W o).Pairwise leT:=(rZ hok o).imp fun h=>Int.le_of_lt h
theorem xG {W:Wd} (hok:W.Ok) (o:List Int):(cH W o).Nodup:=(rZ hok o).imp fun {a b} h e=>by
 subst e
 exact absurd h (Int.lt_irrefl _)
theorem jI {W:Wd} {o ls:List Int}:ls∈cH W o ↔ ls∈bD W.bs/\(io W ls).take o.length=o:=by
 unfold cH
 rw [List.mem_filter]
 exact ⟨fun h=>⟨h.1,of_decide_eq_true h.2⟩,fun h=>⟨h.1,decide_eq_true h.2⟩⟩
theorem oA {W:Wd} {o:List Int}:(cH W o).length<=(bD W.bs).length:=List.length_filter_le _ _
theorem nh {W:Wd} (hok:W.Ok) {o k:List Int} (h:k∈cH W o):BE.RgT W.bs.length k:=by
 have a:=dP.mp (jI.mp h).1
 refine ⟨a.1,hok.l1,fun x hx=>?_⟩
 obtain ⟨i,hi,rfl⟩:=DG.mp hx
 have hi':i<W.bs.length:=by rw [<- a.1];exact hi
 have b:=a.2 i _ _ (C7 hi') (C7 hi)
 have c:=hok.bd _ (DX hi')
 omega
theorem qa {W:Wd} {o:List Int} {k:Nat} (hk:k<o.length):(cH W (o.take (k+1))).length<=(cH W (o.take k)).length:=by
 unfold cH
 rw [<- List.countP_eq_length_filter,<- List.countP_eq_length_filter]
 refine List.countP_mono_left fun ls _ h=>?_
 have h:=of_decide_eq_true h
 refine decide_eq_true ?_
 have l1:(o.take (k+1)).length=k+1:=by rw [Dv];omega
 have l2:(o.take k).length=k:=by rw [Dv];omega
 rw [l1] at h
 rw [l2]
 have:=Ee (List.take k) h
 rw [List.take_take,List.take_take,Nat.min_eq_left (by omega)] at this
 exact this
theorem xI {W:Wd} (hok:W.Ok) {o ls:List Int} (h:ls∈cH W o) {r:List Int} (vo:VO W o) (he:early W o=some r) {x:Nat} {p:Int×Int} {y:Int} (hp:(bsT W o o.length)[x]? =some p) (hy:ls[x]? =some y):p.1<=y/\y<=p.2:=by
 obtain ⟨ha,ht⟩:=jI.mp h
 have hin:=eD ha
 obtain ⟨ps,pm,pw,e⟩:=im hok hin
 have pl:=e6 hin (hin.l10 hok) pm pw
 have hx:x<W.bs.length:=by have:=(Db.mp hp).1;rw [eG] at this;exact this
 rw [pA hx,DE] at hp
 obtain rfl:=Dg hp
 by_cases c:(x:Int)∈o
 . rw [if_pos c]
   obtain ⟨j,hj,ej⟩:=List.getElem_of_mem c
   have exo:o.getD j 0=(x:Int):=by rw [C9,C7 hj];exact ej
   have tl:o.length<=(ps.map fun p=>p.2).length:=by
    have:=Ee List.length ht
    rw [Dv,e] at this
    omega
   have hf:=t8 hok (pl.vo hok) (pl.feas hok) o.length tl
   rw [e] at ht
   rw [ht] at hf
   have hq:(ps.map fun p=>p.2)[j]? =some (x:Int):=by
    have:((ps.map fun p=>p.2).take o.length)[j]? =some (x:Int):=by rw [ht,C7 hj,ej]
    rw [D9 hj] at this
    exact this
   rw [Di] at hq
   cases hps:ps[j]? with
   | none=>rw [hps] at hq;cases hq
   | some q=>
    rw [hps] at hq
    have eq2:q.2=(x:Int):=Dg hq
    have en:=(pl.end_ hok hps).1
    rw [eq2,Dz,C9,hy] at en
    have en':fn (evs ps) (j+1)=fn (evs ps) (bg W (x:Int)).toNat+y:=en
    rw [<- exo,yh vo hj,exo]
    dsimp only
    have bi:=Cc hok vo hj
    rw [exo] at bi
    have u1:=o7 hok vo he (g:=j+1) (by omega) bi hf
    have u2:=o7 hok vo he bi (v:=j+1) (by omega) hf
    omega
 . rw [if_neg c]
   unfold bnd
   rw [Dz,C9,C7 hx]
   exact hin.2 x _ _ (C7 hx) hy
theorem vt {W:Wd} (hok:W.Ok) {o:List Int} (hl:o.length=W.bs.length):(cH W o).length=hmn (OF W) o:=by
 unfold cH hmn OF
 rw [List.filter_map,Da]
 congr 1
 refine List.filter_congr fun ls hls=>?_
 have:=(gL hok (eD hls)).1
 show decide _=decide _
 rw [DA (by omega)]
end Be
namespace BE
open PySem PySem.Spec PyProof.Rows
theorem lM:typeLookup (.type "list") "keys"=pure none:=am_miss_of_fast (by decide+kernel)
theorem yJ:bootBuiltins "dict"=some (.type "dict"):=by decide+kernel
theorem d5:entryFor table "dict.update.loop"=some Builtin.«dict.update.loop»:=entryFor_of_tree (by kernel_rfl)
theorem cb:plainId "dict.update.loop"=true:=by decide+kernel
section
variable {prog:Program} {w:World} {A:Around} {E:Value->Shared->Prop} {s:Shared}
theorem tq {a:Addr} {o:Obj} {xs:Array Value} {k:Nat} {Q:Option Value->Shared->Prop}
    (hx:s.heap.get? a=some o) (hc:o.cls=.type "list") (hdat:o.data=.seq xs k) (hd:o.dict=none) (hA:A.handled=none)
    (h:∀ h' tk,(∀ b ob,s.heap.get? b=some ob->h'.get? b=some ob)->Q none { s with heap:=h',toks:=tk }):
    wpAny (model prog w) A (getAttr? (.ref a) "keys") Q E s:=by
 obtain ⟨c,dct,dat,sl⟩:=o
 simp only at hc hdat hd
 subst hc hdat hd
 obtain ⟨hp,g,d,tk,os⟩:=s
 have hT:∀ tk',(⟨hp,g,d,tk',os⟩:Shared).TypeIs (.ref a) "list":=fun _=>⟨_,hx,rfl⟩
 have f1:=sub_AttributeError
 have f3:=F.slot_list_getattribute.lookup
 have f4:=F.slot_list_getattribute.bind (.ref a)
 have f5:=am_list_getattr_none
 unfold getAttr? getAttrBy? getAttrBy
 repeat (any_goals (first | assumption | exact hT _ | ((with_reducible show wpAny _ _ (call (Value.builtin "list.__getattribute__") _ _) _ _ _);refine call_meets F.slot_list_getattribute (hT _) am_entry_list_getattribute (F.args_list_getattribute_2 _ _) (meets_getattribute_miss_list a xs k sl "keys" _ lM (by decide+kernel) (by decide+kernel)) ⟨hx,hA,fun h' tk' e hx'=>?_⟩) | wp_step))
 obtain ⟨t',u',he⟩:=hx'.there
 show wpAny _ _ (getattributeRaised _ _ _ _ _ _ _) _ _ _
 unfold getattributeRaised
 repeat (any_goals (first | assumption | wp_step))
 all_goals exact h _ _ hx'.keeps
end
section
variable {prog:Program} {w:World} {K:Type} [DecidableEq K] {knd:KeyKind prog w K} {A:Around} {R:Result->Shared->Prop}
end
section
variable {prog:Program} {w:World} {K:Type} [DecidableEq K] {knd:KeyKind prog w K} {A:Around} {E:Value->Shared->Prop} {s:Shared}
end
end BE
namespace L2
open PySem PySem.Spec PyProof.Rows BE
section
variable {X:Cx}
theorem lv {α β:Type} {F:α->β->Prop}:∀ {l₁:List α} {l₂:List β},l₁.length=l₂.length->(∀ (i:Nat) a b,l₁[i]? =some a->l₂[i]? =some b->F a b)->Paired F l₁ l₂
 | [],[],_,_=>.nil
 | [],_::_,h,_=>by cases h
 | _::_,[],h,_=>by cases h
 | a::l,b::l',h,hF=>.cons (hF 0 a b rfl rfl) (lv (Nat.succ.inj h) fun i a b ha hb=>hF (i+1) a b ha hb)
end
end L2
namespace BE
open PySem PySem.Spec PyProof.Rows
section
variable {prog:Program} {w:World} {K:Type} [DecidableEq K] {knd:HeapKind prog w K} {A:Around} {R:Result->Shared->Prop}
def KMv (knd:HeapKind prog w K):Prop:=∀ (h h':Heap) (k:K) (a:Addr),knd.is h k a->(∀ o,h.get? a=some o->h'.get? a=some o)->knd.is h' k a
theorem kJ {kvs:List (K×Addr×Value)} (nd:(kvs.map (·.1)).Nodup) {i:Nat} (hi:i<kvs.length):storedH (kvs.take i) kvs[i].1 kvs[i].2.1 kvs[i].2.2=kvs.take (i+1):=by
 have hno:atKey (kvs.take i) kvs[i].1=none:=by
  refine atKey_none_of_get fun j p hj=>?_
  have hji:j<i:=by
   have:=(Db.mp hj).1
   rw [Dv] at this
   omega
  rw [D9 hji,C7 (by omega:j<kvs.length)] at hj
  have hj:=Dg hj
  have:=(EC.mp nd) j i (by rw [Da];omega) (by rw [Da];exact hi) hji
  rw [List.getElem_map,List.getElem_map,hj] at this
  exact this rfl
 rw [storedH_new hno,Ep,C7 hi]
 rfl
theorem nN {I l d:Addr} {its:Array Value} (hh:A.in1.handled=none) (mv:KMv knd) (hu:knd.room A.in1) (hlI:l≠I) (hd:d∉[I,l]) {kvs:List (K×Addr×Value)} (ts:Nat->Addr)
    (hit:∀ (i:Nat) (v:Value),its[i]? =some v->v=.ref (ts i)) (hn:kvs.length=its.size) (hb:kvs.length<=1000) (nd:(kvs.map (·.1)).Nodup) (htI:∀ i,i<its.size->ts i≠I/\ts i≠d) (hkI:∀ (i:Nat) (kv:K×Addr×Value),kvs[i]? =some kv->kv.2.1≠I/\kv.2.1≠d):
    ∀ (k i:Nat) (s:Shared),its.size-i=k->i<=its.size->s.heap.IsListIter I l i->s.heap.IsList l its->s.heap.DictOfH knd d (kvs.take i)->
     (∀ (i:Nat) (kv:K×Addr×Value),kvs[i]? =some kv->s.heap.IsTuple (ts i) #[.ref kv.2.1,kv.2.2]/\knd.is s.heap kv.1 kv.2.1)->
     (∀ h' tk,(∀ b o,b∉[d,I]->s.heap.get? b=some o->h'.get? b=some o)->h'.DictOfH knd d kvs->R (.ok (.ret .none)) { s with heap:=h',toks:=tk })->
     codeAny (model prog w) A (.builtin "dict.update.loop" ⟨[.ref d,.ref I,.int i 0,.none],[]⟩) R s:=by
 have W:=Walks.list (prog:=prog) (w:=w) (A:=A.in1) hh I l hlI its
 have hdI:d≠I:=fun e=>hd (by simp [e])
 have hdl:d≠l:=fun e=>hd (by simp [e])
 have kmem:∀ {i:Nat} {x:K×Addr×Value},x∈kvs.take i->x.2.1≠I/\x.2.1≠d:=fun {i x} hx=>by
  obtain ⟨j,hj⟩:=List.mem_iff_getElem?.mp (Eh hx)
  exact hkI j x hj
 intro k
 induction k with
 | zero=>
  intro i s hi hle st1 st2 hD hT hR
  have e:i=its.size:=by omega
  subst e
  refine codeAny_builtin d5 ?_
  rw [Around.under_plainId cb _]
  show wpAny _ A.in1 (pyNext (.ref I)>>=_) _ _ s
  refine C8 (W.done s _ _ ⟨st1,st2⟩ fun h' tk hm=>?_)
  show wpAny _ A.in1 (Builtin.Dict.addKeywords d []>>=_) _ _ _
  refine C8 (Df ?_)
  refine Df (hR h' tk (fun b o hb e=>hm b o (fun z=>hb (by simp at z;simp [z])) e) ?_)
  obtain ⟨o,es,ep,ho,h2,h3,h4,h5,h6⟩:=hD
  have h7:∀ x∈kvs.take its.size,knd.is h' x.1 x.2.1:=fun x hx=>mv _ _ _ _ (h5 x hx) fun o e=>hm _ o (by simpa using (kmem hx).1) e
  rw [<- hn,DE] at h4 h6 h7
  exact ⟨o,es,ep,hm d o (by simpa using hdI) ho,h2,h3,h4,h7,h6⟩
 | succ k ih=>
  intro i s hi hle st1 st2 hD hT hR
  have hlt:i<its.size:=by omega
  refine codeAny_builtin d5 ?_
  rw [Around.under_plainId cb _]
  show wpAny _ A.in1 (pyNext (.ref I)>>=_) _ _ s
  refine C8 (W.item i s _ _ hlt ⟨st1,st2⟩ fun v h' tk hv st' hm=>?_)
  obtain rfl:=hit i v hv
  have hi2:i<kvs.length:=by omega
  have hkv:=C7 hi2
  have tup:h'.IsTuple (ts i) #[.ref kvs[i].2.1,kvs[i].2.2]:=by
   obtain ⟨o,ho,r⟩:=(hT i _ hkv).1
   exact ⟨o,hm _ o (by simpa using (htI i hlt).1) ho,r⟩
  have key:knd.is h' kvs[i].1 kvs[i].2.1:=mv _ _ _ _ (hT i _ hkv).2 fun o e=>hm _ o (by simpa using (hkI i _ hkv).1) e
  have hD':h'.DictOfH knd d (kvs.take i):=by
   obtain ⟨o,es,ep,ho,h2,h3,h4,h5,h6⟩:=hD
   exact ⟨o,es,ep,hm d o (by simpa using hdI) ho,h2,h3,h4,fun x hx=>mv _ _ _ _ (h5 x hx) fun o e=>hm _ o (by simpa using (kmem hx).1) e,h6⟩
  obtain ⟨ot,hot,hct,nt,hdt⟩:=tup
  refine C8 (Eo (C8 (wpAny_tryCatch ?_)))
  unfold Builtin.Dict.pairItems
  refine C8 (wpAny_typeOf (T:="tuple") ⟨ot,hot,hct⟩ ?_)
  rw [if_pos (by decide+kernel)]
  refine C8 (wpAny_seqItems hot hdt (Df ?_))
  show wpAny _ _ (holding [.ref kvs[i].2.1,kvs[i].2.2] (dictSet d (.ref kvs[i].2.1) kvs[i].2.2)) _ _ _
  refine Eo (wpAny_dictSet_heap (s:={ s with heap:=h',toks:=tk }) hu key hD' (fun h2 hD2 sb=>?_) (by rw [Dv];exact DP (Nat.min_le_right _ _) (DP hb (by decide))))
  have hst:=kJ nd hi2
  rw [hst] at hD2
  have keep:∀ b o,b∉[d,I]->s.heap.get? b=some o->h2.get? b=some o:=fun b o hb e=>by
   simp only [DI,En,or_false,not_or] at hb
   rw [sb.2 b hb.1]
   exact hm b o (by simpa using hb.2) e
  refine Df ⟨plainId_quiet cb _,?_⟩
  have e1:((i:Int)+1)=((i+1:Nat):Int):=by omega
  show codeAny _ _ (.builtin "dict.update.loop" ⟨[.ref d,.ref I,.int ((i:Int)+1) 0,.none],[]⟩) _ _
  rw [e1]
  refine ih (i+1) { s with heap:=h2,toks:=tk+knd.draws kvs[i].1 } (by omega) hlt (st'.1.at fun o e=>by rw [sb.2 I (Ne.symm hdI)];exact e) (st'.2.at fun o e=>by rw [sb.2 l (Ne.symm hdl)];exact e) hD2 (fun j kv hj=>?_) fun h3 tk3 hk3 hD3=>?_
  . obtain ⟨⟨o,ho,r⟩,kk⟩:=hT j kv hj
    have hj2:j<its.size:=by have:=(Db.mp hj).1;omega
    have a:=htI j hj2
    have b:=hkI j kv hj
    exact ⟨⟨o,keep _ o (by simpa using ⟨a.2,a.1⟩) ho,r⟩,mv _ _ _ _ kk fun o e=>keep _ o (by simpa using ⟨b.2,b.1⟩) e⟩
  . exact hR h3 tk3 (fun b o hb e=>hk3 b o hb (keep b o hb e)) hD3
end
section
variable {prog:Program} {w:World} {K:Type} [DecidableEq K] {knd:HeapKind prog w K} {A:Around} {E:Value->Shared->Prop} {s:Shared}
theorem we {l:Addr} {its:Array Value} {nl:Nat} (hh:A.handled=none) (mv:KMv knd) (hu:∀ B:Around,B.units<=A.units+5->knd.room B) (hl:s.heap.get? l=some { cls:=.type "list",data:=.seq its nl }) {kvs:List (K×Addr×Value)} (ts:Nat->Addr)
    (hit:∀ (i:Nat) (v:Value),its[i]? =some v->v=.ref (ts i)) (hn:kvs.length=its.size) (hb:kvs.length<=1000) (nd:(kvs.map (·.1)).Nodup)
    (hT:∀ (i:Nat) (kv:K×Addr×Value),kvs[i]? =some kv->s.heap.IsTuple (ts i) #[.ref kv.2.1,kv.2.2]/\knd.is s.heap kv.1 kv.2.1/\kv.2.1<s.heap.objs.size) {Q:Value->Shared->Prop}
    (q:∀ h' tk,(∀ b o,s.heap.get? b=some o->h'.get? b=some o)->h'.DictOfH knd s.heap.objs.size kvs->Q (.ref s.heap.objs.size) { s with heap:=h',toks:=tk }):
    wpAny (model prog w) A (call (.type "dict") [.ref l]) Q E s:=by
 refine callType_codes (Q₁:=fun obj s₁=>obj=.ref s.heap.objs.size/\s₁={ s with heap:=s.heap.push { cls:=.type "dict",data:=.dict #[] } }) F.kt_called_dict (F.kt_typeCall_dict_1 _) F.entry_dict_init (kt_code_dict_new _ ⟨rfl,rfl⟩) ?_
 rintro obj s₁ ⟨rfl,rfl⟩
 have hnew:(s.heap.push { cls:=.type "dict",data:=.dict #[] }).DictOfH knd s.heap.objs.size []:=Heap.DictOfH.new s.heap
 have hl1:(s.heap.push { cls:=.type "dict",data:=.dict #[] }).get? l=some { cls:=.type "list",data:=.seq its nl }:=Dd _ hl
 have ltl:l<s.heap.objs.size:=Dp hl
 have tyD:({ s with heap:=s.heap.push { cls:=.type "dict",data:=.dict #[] } }:Shared).TypeIs (.ref s.heap.objs.size) "dict":=Heap.DictOfH.typeIs hnew
 refine ⟨tyD,F.args_dict_init_2 _ _,?_⟩
 unfold Builtin.«dict.__init__»
 refine C8 ?_
 unfold Builtin.Dict.selfAndRest
 refine C8 (wpAny_notOrdered_dict tyD ?_)
 show wpAny _ _ (pure (s.heap.objs.size,[Value.ref l])) _ _ _
 refine Df ?_
 show wpAny _ _ (Builtin.Dict.updateFrom "dict.__init__" s.heap.objs.size (.ref l) [] .none) _ _ _
 unfold Builtin.Dict.updateFrom
 refine C8 (wpAny_typeOf (T:="list") ⟨_,hl1,rfl⟩ ?_)
 rw [if_pos (by decide+kernel)]
 refine C8 (tq (s:={ s with heap:=s.heap.push { cls:=.type "dict",data:=.dict #[] } }) hl1 rfl rfl rfl (by simp [hh]) fun h1 tk1 k1=>?_)
 rw [if_pos (show (none:Option Value).isNone=true from rfl)]
 refine C8 (wpAny_rule ?_)
 have hl2:h1.get? l=some { cls:=.type "list",data:=.seq its nl }:=k1 _ _ hl1
 refine C8 (wpAny_pyIter_list (s:={ s with heap:=h1,toks:=tk1 }) (items:=its) ⟨_,hl2,rfl,nl,rfl⟩ ?_)
 refine Df ⟨plainId_quiet cb _,?_⟩
 have old:∀ b o,s.heap.get? b=some o->h1.get? b=some o:=fun b o e=>k1 _ _ (Dd _ e)
 have lt1:∀ b o,h1.get? b=some o->b<h1.objs.size:=fun b o e=>Dp e
 obtain ⟨od,esd,epd,hod,rd1,rd2,rd3,rd4,rd5⟩:=hnew
 have ltd:=lt1 _ _ (k1 _ _ hod)
 have tlt:∀ i,i<its.size->ts i<s.heap.objs.size:=fun i hi=>by
  obtain ⟨⟨o,ho,_⟩,_⟩:=hT i _ (C7 (by omega:i<kvs.length))
  exact Dp ho
 refine nN (knd:=knd) (l:=l) (its:=its) (kvs:=kvs) (by simp [hh]) mv (hu _ ?_) (DC (lt1 _ _ hl2)) ?_ ts hit hn hb nd (fun i hi=>⟨?_,DC (tlt i hi)⟩) (fun i kv hkv=>?_) (its.size-0) 0 _ rfl (DD _) ⟨_,Ds _ rfl,rfl,rfl⟩ ⟨_,Dd _ hl2,rfl,nl,rfl⟩ ?_ (fun i kv hkv=>?_) fun h' tk hk' hD=>?_
 . simp
 . simp only [DI,En,or_false,not_or]
   exact ⟨DC ltd,Nat.ne_of_gt ltl⟩
 . have:=tlt i hi
   exact DC (Nat.lt_trans this ltd)
 . have:=(hT i kv hkv).2.2
   exact ⟨DC (Nat.lt_trans this ltd),DC this⟩
 . exact ⟨od,esd,epd,Dd _ (k1 _ _ hod),rd1,rd2,rd3,fun x hx=>by simp at hx,rd5⟩
 . obtain ⟨⟨o,ho,r⟩,kk,_⟩:=hT i kv hkv
   exact ⟨⟨o,Dd _ (old _ _ ho),r⟩,mv _ _ _ _ kk fun o e=>Dd _ (old _ _ e)⟩
 . refine ⟨rfl,q h' tk (fun b o e=>hk' b o ?_ (Dd _ (old _ _ e))) hD⟩
   have lb:=Dp e
   simp only [DI,En,or_false,not_or]
   exact ⟨DC lb,DC (Nat.lt_trans lb ltd)⟩
end
end BE
namespace L2
open PySem PySem.Spec PyProof.Rows BE
section
variable {X:Cx}
def zR:List V->Hp->VK->Prop:=fun xs H Q=>∃ (l:Addr) (ps:List V) (kvs:List (List Key×V)),xs=[.ref l]/\H l=some (.lst ps)/\ps.length=kvs.length/\kvs.length<=1000/\(kvs.map (·.1)).Nodup/\
 (∀ (i:Nat) (kv:List Key×V),kvs[i]? =some kv->∃ p b,ps[i]? =some (.ref p)/\H p=some (.tup [.ref b,kv.2])/\H b=some (.tup (kv.1.map kV)))/\∀ d,H d=none->Q (.ref d) (upd H d (.dT kvs))
theorem sZ {P:Program} {w:World}:KMv (tupleKind (bx P w)):=fun h h' k a x e=>by
 obtain ⟨o,us,n,ho,r⟩:=x
 exact ⟨o,us,n,e o ho,r⟩
theorem qH (hc:X.calm=true) (hu:X.A.units+6<cLine):dF X (.type "dict") zR:=by
 intro pins s σ H xs us Q I r h
 obtain ⟨l,ps,kvs,rfl,hl,hlen,hb,nd,hT,q⟩:=h
 obtain ⟨u,rfl,rfl⟩:=gY r
 obtain ⟨z,its,n,rv,hl2,e⟩:=I.lstM hl
 have ex:∀ i:Nat,∃ f:Addr×Addr×Value,∀ (kv:List Key×V),kvs[i]? =some kv->its[i]? =some (.ref f.1)/\s.heap.IsTuple f.1 #[.ref f.2.1,f.2.2]/\bB kv.2 f.2.2/\H f.2.1=some (.tup (kv.1.map kV)):=fun i=>by
  rcases Nat.lt_or_ge i kvs.length with hi | hi
  . have h2:=C7 hi
    obtain ⟨p,b,hp,hP,hB⟩:=hT i _ h2
    obtain ⟨its',rv',p',hz⟩:=I.tuple (SqT.of hP)
    obtain ⟨u1,u2,rfl,r1,r2⟩:=xk rv'
    cases r1
    obtain ⟨u,hu',ru⟩:=rv.get hp
    cases ru
    refine ⟨(p,b,u2),fun kv' e2=>?_⟩
    rw [h2] at e2
    obtain rfl:=Dg e2
    exact ⟨hu',p',r2,hB⟩
  . refine ⟨(0,0,.none),fun kv' e2=>?_⟩
    rw [DO hi] at e2;cases e2
 have f1:=fun i=>Classical.choose_spec (ex i)
 generalize hfe:(fun i=>Classical.choose (ex i))=f at*
 have f1:∀ (i:Nat) (kv:List Key×V),kvs[i]? =some kv->its[i]? =some (.ref (f i).1)/\s.heap.IsTuple (f i).1 #[.ref (f i).2.1,(f i).2.2]/\bB kv.2 (f i).2.2/\H (f i).2.1=some (.tup (kv.1.map kV)):=fun i=>by
  rw [<- hfe];exact f1 i
 have atV:∀ i:Nat,(kvs.mapIdx fun i kv=>(kv.1,(f i).2))[i]? =(kvs[i]?).map fun kv=>(kv.1,(f i).2):=fun i=>List.getElem?_mapIdx
 have ek:(kvs.mapIdx fun i kv=>(kv.1,(f i).2)).map (·.1)=kvs.map (·.1):=by
  apply Er
  intro i
  rw [Di,atV,Di]
  cases kvs[i]? <;>rfl
 have vlen:(kvs.mapIdx fun i kv=>(kv.1,(f i).2)).length=kvs.length:=List.length_mapIdx
 have rel:KT H kvs (kvs.mapIdx fun i kv=>(kv.1,(f i).2)):=lv vlen.symm fun i a b ha hb=>by
  rw [atV,ha] at hb
  obtain rfl:=Dg hb
  exact ⟨rfl,(f1 i _ ha).2.2.2,(f1 i _ ha).2.2.1⟩
 refine BE.we (knd:=tupleKind (bx X.prog X.w)) (kvs:=kvs.mapIdx fun i kv=>(kv.1,(f i).2)) (I.ok.hd hc) sZ (fun B hB=>Nat.lt_of_le_of_lt hB (by omega)) e (fun i=>(f i).1) (fun i v hv=>?_) (by rw [vlen,Du];omega) (by rw [vlen];exact hb) (by rw [ek];exact nd) (fun i kv hkv=>?_) fun h' tk hk hD=>?_
 . have hv:its[i]? =some v:=by simpa using hv
   have hi:i<kvs.length:=by have:=(Db.mp hv).1;omega
   have a:=(f1 i _ (C7 hi)).1
   rw [hv] at a
   exact Dg a
 . rw [atV] at hkv
   cases hk:kvs[i]? with
   | none=>rw [hk] at hkv;cases hkv
   | some kv'=>
    rw [hk] at hkv
    obtain rfl:=Dg hkv
    have F:=f1 i _ hk
    have kk:(tupleKind (bx X.prog X.w)).is s.heap kv'.1 (f i).2.1:=jf I.hok F.2.2.2
    exact ⟨F.2.1,kk,let ⟨o,_,_,ho,_⟩:=kk;Dp ho⟩
 . obtain ⟨o,es,ep,h1,h2,h3,h4,_,h5⟩:=hD
   refine ⟨.ref s.heap.objs.size,_,I.laid (a:=s.heap.objs.size) (o:=.dT kvs) (t':=tk) hk (Dh _) ⟨DP hb (by decide),beq_eq_false_iff_ne.mpr (Ne.symm (DC I.big)),_,rel.keeps fun c ys ec=>?_,o,es,ep,h1,h2,h3,h4,h5⟩,rfl,q _ (I.hok.fresh (Dh _))⟩
   have fr:H s.heap.objs.size=none:=I.hok.fresh (Dh _)
   rw [aA (fun z=>by rw [z,fr] at ec;cases ec)]
   exact ec
end
end L2
namespace L2
open PySem PySem.SeqAt PySem.Spec PyProof.Rows
section
variable {X:Cx} {a b c d e:Expr} {ta tb tc td te:TE} {pos:Pos}
end
end L2
namespace Be
open PySem L2
theorem yI {H:Hp} {ws:List V} {ks:List (List Int)} {f:List Int->Nat×Nat} (ci:qQ H ws (ks.map fun k=>(k,f k))):∃ cs:Nat->Addr,∀ (i:Nat) (k:List Int),ks[i]? =some k->∃ a b,ws[i]? =some (.ref a)/\H a=some (.tup [.ref b,.ref (cs i)])/\H b=some (.tup (k.map V.int))/\H (cs i)=some (.tup [.int ((f k).1:Int),.int ((f k).2:Int)]):=by
 have ex:∀ i:Nat,∃ c:Addr,∀ k:List Int,ks[i]? =some k->∃ a b,ws[i]? =some (.ref a)/\H a=some (.tup [.ref b,.ref c])/\H b=some (.tup (k.map V.int))/\H c=some (.tup [.int ((f k).1:Int),.int ((f k).2:Int)]):=fun i=>by
  cases h:ks[i]? with
  | none=>exact ⟨0,fun k hk=>by cases hk⟩
  | some k=>
   obtain ⟨a,b,c,h1,h2,h3,h4⟩:=ci.2 i k (f k).1 (f k).2 (by rw [Di,h];rfl)
   exact ⟨c,fun k' hk=>by obtain rfl:=Dg hk;exact ⟨a,b,h1,h2,h3,h4⟩⟩
 exact ⟨fun i=>Classical.choose (ex i),fun i=>Classical.choose_spec (ex i)⟩
theorem AY {ks:List (List Int)} {cs:Nat->Addr}:(ks.mapIdx fun i k=>(oK k,V.ref (cs i))).map (·.1)=ks.map oK:=by
 apply Er
 intro i
 rw [Di,List.getElem?_mapIdx,Di]
 cases ks[i]? <;>rfl
theorem ur {ks:List (List Int)} {cs:Nat->Addr} (nd:ks.Nodup):((ks.mapIdx fun i k=>(oK k,V.ref (cs i))).map (·.1)).Nodup:=by
 rw [AY]
 exact List.pairwise_map.mpr (nd.imp fun h e=>h (oP _ _ e))
theorem ra {κ:Type} [DecidableEq κ]:∀ {kvs:List (κ×V)} {j:Nat} {k:κ} {v:V},(kvs.map (·.1)).Nodup->kvs[j]? =some (k,v)->iH kvs k=some v
 | [],j,k,v,_,h=>by simp at h
 | p::r,0,k,v,nd,h=>by
  obtain rfl:p=(k,v):=by simpa using h
  exact dI rfl
 | p::r,j+1,k,v,nd,h=>by
  rw [DS,EB] at nd
  have h:r[j]? =some (k,v):=by simpa using h
  rw [dJ fun e=>nd.1 (e ▸ DM.mpr ⟨(k,v),Dj h,rfl⟩)]
  exact ra nd.2 h
theorem AX {ks:List (List Int)} {cs:Nat->Addr} {o:List Int} {j:Nat} (nd:ks.Nodup) (h:ks[j]? =some o):iH (ks.mapIdx fun i k=>(oK k,V.ref (cs i))) (oK o)=some (.ref (cs j)):=
 ra (ur nd) (by rw [List.getElem?_mapIdx,h];rfl)
section
variable {P:Program} {w:World} {K:PySem.W.Frag} {mg:Str->Option Value} {base:Heap}
def sp_law (K:PySem.W.Frag):Sp:=fun vs H Q _=>∃ (a:Addr) (ns:List Int),vs=[.ref a]/\Scr K H a ns/\∀ H',Q (.bl true) H'
set_option maxHeartbeats 4000000 in
theorem Ah (T:Txt K mg):bP P w K mg base (CXr P w) 14 T.law.a T.law.d ["_law_script"] (sp_law K):=by
 refine T.law.F.okN dj (fun vs H Q E h=>?_) (fun cdv A outer s H vs Q E hr h=>?_)
 . obtain ⟨a,ns,rfl,_⟩:=h;rfl
 obtain ⟨a,ns,rfl,hS,q⟩:=h
 have hu64:(A.deeper (PyProof.Rows.envOfC "law" (ae (top 71)) s.heap.objs.size T.law.a cdv)).units+64<cLine:=by have:=hr.un;omega
 have hu65:(A.deeper (PyProof.Rows.envOfC "law" (ae (top 71)) s.heap.objs.size T.law.a cdv)).units+65<cLine:=by have:=hr.un;omega
 have hu6:(A.deeper (PyProof.Rows.envOfC "law" (ae (top 71)) s.heap.objs.size T.law.a cdv)).units+6<cLine:=by omega
 refine ⟨_,(ai (aD (i:=1) dj.nd rfl (by first|exact .inl rfl|exact .inr rfl) (dl af)) (ai (aD (i:=2) dj.nd rfl (by first|exact .inl rfl|exact .inr rfl) (aj (lA T) (hr.mono (by decide)) rfl T.law_world.m T.law_world.F.kp T.law_world.b .nil aw (ad (pv 0) (ad (pv 1) (ad ap (ad ap af)))))) (ai (aD (i:=3) dj.nd rfl (by first|exact .inl rfl|exact .inr rfl) (aj (nB T) (hr.mono (by decide)) rfl T.law_some.m T.law_some.F.kp T.law_some.b .nil aw (ad (pv 0) (ad (pv 1) (ad (pv 2) af))))) (ai (aD (i:=4) dj.nd rfl (by first|exact .inl rfl|exact .inr rfl) (aO aL (aj (G.iq T) (hr.mono (by decide)) rfl T.played.m T.played.F.kp T.played.b .nil aw (ad (pv 2) (ad (pv 3) af))) ap (fun _ _=>rfl))) (ai (aD (i:=5) dj.nd rfl (by first|exact .inl rfl|exact .inr rfl) (aN bt (aj (bq T) (hr.mono (by decide)) rfl T.how_many_lengths.m T.how_many_lengths.F.kp T.how_many_lengths.b .nil aw (ad (pv 2) af)) ap)) (ai (cD Ea rfl (cQ rfl T.n_range (ad (aN bt (az aF rfl T.n_len cn (ad (pv 4) af)) ap) af)) (aC (i:=6) dj.nd rfl (by first|exact .inl rfl|exact .inr rfl)) (ai (aD (i:=7) dj.nd rfl (by first|exact .inl rfl|exact .inr rfl) (aj (iR T) (hr.mono (by decide)) rfl T.lengths_for.m T.lengths_for.F.kp T.lengths_for.b .nil aw (ad (pv 2) (ad (jL mU (pv 4) nu (nr (pv 6))) af)))) (ai (cV (PW.pt (jJ (bF (sM hu65) (pv 3) (pv 7) (by with_unfolding_all rfl)) (jJ (bF Af (az aF rfl T.n_len cn (ad (pv 7) af)) (pv 5) (cf _)) (fW (bF (Ac hu64) (pv 7) (nv rfl hu65 rfl T.n_sorted rfl T.n_set (pv 7)) (cf _)))))) (am (aB iQ)) bj) (ai (aD (i:=5) dj.nd rfl (by first|exact .inl rfl|exact .inr rfl) (az aF rfl T.n_len cn (ad (pv 7) af))) (ai (aD (i:=8) dj.nd rfl (by first|exact .inl rfl|exact .inr rfl) (aO aL (aj (qb T) (hr.mono (by decide)) rfl T.tighter.m T.tighter.F.kp T.tighter.b .nil aw (ad (pv 2) (ad (jL mU (pv 4) nu (nr (pv 6))) af))) ap (fun _ _=>rfl))) (am (cD Ea rfl (cj (pv 7)) (aC (i:=9) dj.nd rfl (by first|exact .inl rfl|exact .inr rfl)) (am (cV (cC (cB (az (fA rfl) rfl T.n_all py (ad (bS (NB:=["_law_low","_law_high","_law_one"]) (js:=[none,none,none]) rfl (bA rfl (by decide+kernel) rfl (by decide+kernel) (by decide+kernel) (by with_unfolding_all rfl) (by with_unfolding_all rfl) (by with_unfolding_all rfl) (by with_unfolding_all rfl)) (sB true true rfl T.n_zip (ad (pv 8) (ad (pv 9) af))) (fun _ _ _ _=>(df K (n:=2) rfl (aP (df K (n:=2) rfl (aP (aC (i:=0) (show (["_law_low","_law_high","_law_one"]:List Str).Nodup by decide+kernel) rfl (by first|exact .inl rfl|exact .inr rfl)) (aP (aC (i:=1) (show (["_law_low","_law_high","_law_one"]:List Str).Nodup by decide+kernel) rfl (by first|exact .inl rfl|exact .inr rfl)) cI))) (aP (aC (i:=2) (show (["_law_low","_law_high","_law_one"]:List Str).Nodup by decide+kernel) rfl (by first|exact .inl rfl|exact .inr rfl)) cI)))) (fun _ _ _ _=>dk) (fun _ _ _ _=>(oI nz nz (pv 0) (pv 2) (pv 1)))) af)))) (am (aB iQ)) bj))))))))) (ai (aD (i:=10) dj.nd rfl (by first|exact .inl rfl|exact .inr rfl) (sE (qt hr) (cz (qH rfl hu6) rfl T.n_dict BE.yJ (ad (aj (qd T) (hr.mono (by decide)) rfl T.chances.m T.chances.F.kp T.chances.b .nil aw (ad (pv 2) af)) af)) (pv 4) (fun _ _=>rfl))) (am (aB (nw vK (aN ja (aO aL (pv 10) ap (fun _ _=>rfl)) (aj (bq T) (hr.mono (by decide)) rfl T.how_many_lengths.m T.how_many_lengths.F.kp T.how_many_lengths.b .nil aw (ad (pv 2) af))) (aN ja (aO aL (pv 10) ap (fun _ _=>rfl)) (pv 5)) (cf _))))))))))),?_⟩
 refine ⟨DD _,fun t ht=>?_⟩
 have g1:=ak ht (.lst [])
 have hS1:=hS.same g1
 have t1:upd H t (.lst []) t=some (.lst (dU 0)):=ah
 generalize upd H t (.lst [])=HA at*
 refine ⟨_,rfl,_,rfl,a,t,ns,0,4,4,rfl,hS1,t1,by omega,by omega,by omega,by omega,by omega,fun W v n1 HB hok hwl hwd hW g2 t2 hn1=>?_⟩
 have hS2:=g2.scr t1 hS1
 have l1:=hok.l1
 have l10:=hok.l10
 have n256:=yT hok hwl hwd
 have few:=CV hok hwl
 refine ⟨_,rfl,_,rfl,_,rfl,a,t,v,ns,n1,W,rfl,hS2,t2,by omega,hW,hok,fun ls sm n2 HE hin hsm g5 t5 hn2=>?_⟩
 have hW5:Rep HE v (cv W):=hW.tmono (g5.ts t2) (CQ W)
 have h10:=hin.l10 hok
 refine ⟨_,rfl,_,rfl,v,sm,W,ls,rfl,hW5,hok,hsm,hin,fun pp po le ps HF g6 pm pw hpp hpo hle=>?_⟩
 have pl:=e6 hin h10 pm pw
 have hea:=pl.early hok
 have plen:=pl.plen
 rw [jO h10 pm pw] at hpo hea
 have olen:(io W ls).length=W.bs.length:=(gL hok hin).1
 have hW6:=hW5.mono g6
 have hsm6:=g6 _ _ hsm
 have lmem:ls∈bD W.bs:=dP.mpr ⟨hin.1,fun k p x hp hx=>hin.2 k p x hp hx⟩
 refine ⟨pp,_,_,_,rfl,rfl,SqT.of hpp,rfl,?_⟩
 have lin:∀ k,ls∈cH W ((io W ls).take k):=fun k=>jI.mpr ⟨lmem,by rw [Dv];exact (List.take_eq_take_iff.mpr (by omega))⟩
 have oin:io W ls∈OF W:=DM.mpr ⟨ls,lmem,rfl⟩
 generalize io W ls=o at*
 clear hW hW5 hsm g5 g6 pm pw hpp hle pl hS1 hS2 t1 t2 t5 g1 g2 hn1 hn2
 refine ⟨_,rfl,v,W,rfl,hW6,hok,fun HG gG=>⟨_,_,rfl,rfl,?_⟩⟩
 have hWG:=hW6.mono gG
 have hpoG:=gG _ _ hpo
 have hsmG:=gG _ _ hsm6
 refine ⟨_,rfl,po,_,rfl,.inr (SqT.of hpoG),_,_,rfl,rfl,_,rfl,by omega,by rw [Da];omega,?_⟩
 rw [Da,show ((o.length:Nat):Int)+1=((o.length+1:Nat):Int) by omega,Dz]
 refine dC (n:=o.length+1) (fun i σ H2=>∃ (last:Nat) (x6 x7 x8 x9:Option V),σ=[some (.ref a),some (.ref t),some v,some (.ref sm),some (.ref po),some (.int (last:Int)),x6,x7,x8,x9,none]/\aM HG H2/\(i=0->last=(bD W.bs).length+1)/\∀ j,i=j+1->last=(cH W (o.take j)).length) ?_ ?_ ?_
 . exact ⟨(bD W.bs).length+1,none,none,none,none,rfl,aM.refl _,fun _=>rfl,fun j z=>by omega⟩
 . rintro i σ H2 hi ⟨last,x6,x7,x8,x9,rfl,g2,hl0,hl1⟩
   have hW2:=hWG.mono g2
   have hpo2:=g2 _ _ hpoG
   refine ⟨_,rfl,_,rfl,_,rfl,_,rfl,po,_,rfl,hpo2,fun q1 H3 g3 hq1=>?_⟩
   rw [pd _ (by omega),show (0+(i:Int)).toNat=i by omega] at hq1
   obtain ⟨vok,r,he⟩:=hea i
   have hrl:(cH W (o.take i)).length<=last:=by
    rcases Nat.eq_zero_or_pos i with z | z
    . have:=oA (W:=W) (o:=o.take i)
      rw [hl0 z]
      omega
    . obtain ⟨j,rfl⟩:∃ j,i=j+1:=⟨i-1,by omega⟩
      rw [hl1 j rfl]
      exact qa (by omega)
   refine ⟨v,q1,W,o.take i,rfl,hW2.mono g3,hok,hq1,vok,by omega,fun lr wr H4 g4 flr hlr rt=>?_⟩
   have g24:=g2.trans (g3.trans g4)
   have rfew:=oA (W:=W) (o:=o.take i)
   have wl:=rt.1
   refine ⟨_,rfl,_,rfl,sm,lr,wr,ls,cH W (o.take i),rfl,rfl,g24 _ _ hsmG,hlr,⟨rt.1,rt.2⟩,_,rfl,oZ (by rw [decide_eq_true (lin i)];rfl) ?_⟩
   refine ⟨_,rfl,lr,_,rfl,.inl (SqL.of hlr),_,rfl,_,_,rfl,rfl,_,rfl,oZ (Dw (by omega)) ?_⟩
   refine ⟨_,rfl,_,rfl,lr,wr,W.bs.length,cH W (o.take i),rfl,hlr,⟨rt.1,rt.2⟩,fun k hk=>nh hok hk,by omega,fun l2 w2 k2 hl2 mk2 nd2 pw2 tin2=>?_⟩
   have ek:cH W (o.take i)=k2:=Bp (fun k hk=>nh hok hk) (xG hok _) nd2 (fun k=>(mk2 k).symm) (xH hok _) pw2
   rw [<- ek] at tin2
   have k8:=ak hl2 (.lst w2)
   have e8:upd H4 l2 (.lst w2) l2=some (.lst w2):=ah
   have r2':bH (upd H4 l2 (.lst w2)) w2 (cH W (o.take i)):=bH.ts ⟨tin2.1,tin2.2⟩ k8.ts
   generalize upd H4 l2 (.lst w2)=H5 at*
   refine ⟨_,_,.lst (k8 _ _ hlr) (fM (rt.ts k8.ts)),.lst e8 (fM r2'),xA _,xA _,_,rfl,oZ (by rw [SeqAt.eqv_refl _ (SeqAt.canLay_of_shaped (xA _))];rfl) ?_⟩
   have g25:=g24.trans k8
   have hlr5:=k8 _ _ hlr
   have rt5:=rt.ts k8.ts
   clear e8 r2' tin2 k8 hl2
   refine ⟨_,rfl,lr,_,rfl,.inl (SqL.of hlr5),?_⟩
   refine ⟨_,rfl,_,rfl,_,rfl,_,rfl,po,_,rfl,g25 _ _ hpoG,fun q2 H6 g6 hq2=>?_⟩
   rw [pd _ (by omega),show (0+(i:Int)).toNat=i by omega] at hq2
   refine ⟨v,.ref q2,W,o.take i,r,rfl,(hWG.mono g25).mono g6,hok,.tup hq2 Reps.ints,vok,he,fun mv H7 g7 hmv=>?_⟩
   obtain ⟨ma,mp,mvs,AM⟩:=atW hmv
   have pinT:=zX AM
   refine ⟨ma,_,_,_,AM.v,rfl,SqT.of AM.a,rfl,?_⟩
   have g67:=g6.trans g7
   have hlr7:=g67 _ _ hlr5
   have rt7:=rt5.ts g67.ts
   have bl:(tW W (o.take i)).bs.length=W.bs.length:=eG _
   have ml:=AM.len
   refine ⟨_,rfl,lr,rfl,⟨_,SqL.of hlr7⟩,gQ (K:=K) (a:=lr) (xs:=wr) (fun j σ H8=>∃ (y9:Option V),σ=[some (.ref a),some (.ref t),some v,some (.ref sm),some (.ref po),some (.int ((wr.length:Nat):Int)),some (.int (0+(i:Int))),some (.ref lr),some (.ref mp),y9,none]/\aM H7 H8) ?_ ?_ ?_ ?_⟩
   . exact ⟨_,rfl,aM.refl _⟩
   . rintro j σ H8 _ ⟨y9,rfl,g8⟩
     exact SqL.of (g8 _ _ hlr7)
   . rintro j u σ H8 hu ⟨y9,rfl,g8⟩
     obtain ⟨row,qr,hrow,rfl,hqr⟩:=(rt7.ts g8.ts).at hu
     have hrm:=Dj hrow
     have rl:=(nh hok hrm).1
     refine ⟨_,rfl,_,rfl,mp,qr,_,_,rfl,SqT.of (g8 _ _ AM.p),SqT.of hqr,fun D hD=>?_⟩
     refine me (k1:=true) (k2:=true) (K:=K) (a:=mp) (b:=qr) (xs:=mvs) (ys:=row.map V.int) (fun k ys H9=>aM H8 H9/\H9 D=some (.lst ys)/\ys=(List.replicate k true).map V.bl/\k<=mvs.length) ⟨ak hD _,ah,rfl,DD _⟩ (fun k ys H9 hP=>⟨SqT.of (hP.1 _ _ (g8 _ _ AM.p)),SqT.of (hP.1 _ _ hqr)⟩) (fun k ys u1 u2 pz H9 hu1 hu2 hpz hP=>?_) (fun ys H9 hP=>?_)
     . obtain ⟨g9,hD9,rfl,_⟩:=hP
       have gz:=ak hpz (.tup [u1,u2])
       have hk:k<mvs.length:=(Db.mp hu1).1
       obtain ⟨pa1,qa1,ha1,rfl,hqa1⟩:=(pinT.ts (g8.trans (g9.trans gz)).ts).at hu1
       obtain ⟨e,hye,rfl⟩:=G.iz hu2
       have ha1:(bsT W (o.take i) (o.take i).length)[k]? =some pa1:=ha1
       obtain ⟨z1,z2⟩:=xI hok hrm vok he ha1 hye
       refine ⟨pz,_,rfl,SqT.of ah,rfl,_,_,rfl,qa1,_,rfl,SqT.of hqa1,rfl,_,_,rfl,_,_,rfl,rfl,_,_,rfl,rfl,Ba,cg ⟨_,rfl,_,rfl,_,_,rfl,rfl,_,rfl,wR (decide_eq_true z1) ⟨_,rfl,_,_,rfl,rfl,gz _ _ hD9,hU (by omega),(g9.trans gz).write hD _,ah,?_,hk⟩⟩⟩
       show (List.replicate k true).map V.bl++[V.bl (decide (e<=pa1.2))]=_
       rw [decide_eq_true z2];exact fG k
     obtain ⟨g9,hD9,rfl,_⟩:=hP
     refine ⟨D,_,rfl,hD9,_,rfl,oZ (by rw [iG];rfl) ?_⟩
     exact ⟨_,rfl,g8.trans g9⟩
   . rintro σ H8 ⟨y9,rfl,g8⟩
     exact ⟨wr.length,_,_,_,_,rfl,g25.trans (g67.trans g8),fun z=>by omega,fun j z=>by rw [wl,show j=i by omega]⟩
 . rintro σ H2 ⟨last,x6,x7,x8,x9,rfl,g2,hl0,hl1⟩
   have el:last=hmn (OF W) o:=by rw [hl1 o.length rfl,DE,vt hok olen]
   have hW2:=hWG.mono g2
   have hpo2:=g2 _ _ hpoG
   refine ⟨_,rfl,v,W,rfl,hW2,hok,by omega,few,fun lm wm ks H3 g3 flm nd mk pwk hlm ci=>?_⟩
   obtain ⟨cs,hcs⟩:=yI ci
   have kfew:=few ks nd fun k hk=>(mk k).mp hk
   have wml:=ci.1
   rw [Da] at wml
   obtain ⟨j,hj⟩:=List.mem_iff_getElem?.mp ((mk o).mpr oin)
   refine ⟨lm,wm,ks.mapIdx fun i k=>(oK k,V.ref (cs i)),rfl,hlm,by rw [List.length_mapIdx];exact wml,by rw [List.length_mapIdx];omega,ur nd,fun i kv hkv=>?_,fun d hd=>?_⟩
   . rw [List.getElem?_mapIdx] at hkv
     cases hk:ks[i]? with
     | none=>rw [hk] at hkv;cases hkv
     | some k=>
      rw [hk] at hkv
      obtain rfl:=Dg hkv
      obtain ⟨p,b,h1,h2,h3,_⟩:=hcs i k hk
      exact ⟨p,b,h1,h2,by rw [oO];exact h3⟩
   have k4:=ak hd (.dT (ks.mapIdx fun i k=>(oK k,V.ref (cs i))))
   have e4:upd H3 d (.dT (ks.mapIdx fun i k=>(oK k,V.ref (cs i)))) d=some (.dT (ks.mapIdx fun i k=>(oK k,V.ref (cs i)))):=ah
   generalize upd H3 d (.dT (ks.mapIdx fun i k=>(oK k,V.ref (cs i))))=H4 at*
   have g34:=g3.trans k4
   have hpo4:H4 po=some (.tup ((oK o).map kV)):=by rw [oO];exact g34 _ _ hpo2
   have hget:mF H4 d (.ref po) (some (.ref (cs j))):=by
    have:=mF.t e4 hpo4
    rw [AX nd hj] at this
    exact this
   obtain ⟨_,_,_,_,_,hc⟩:=hcs j o hj
   have hc4:=k4 _ _ hc
   have c0:=tL oin
   have c1:=wT (OF W) o
   rw [sR] at c1
   have shi:=vn (hmn (OF W) o) (bD W.bs).length
   have d1:hmn (OF W) o / Nat.gcd (hmn (OF W) o) (bD W.bs).length<=hmn (OF W) o:=Nat.div_le_self _ _
   have d2:(bD W.bs).length / Nat.gcd (hmn (OF W) o) (bD W.bs).length<=(bD W.bs).length:=Nat.div_le_self _ _
   have hc':H4 (cs j)=some (.tup [.int ((hmn (OF W) o / Nat.gcd (hmn (OF W) o) (bD W.bs).length:Nat):Int),.int (((bD W.bs).length / Nat.gcd (hmn (OF W) o) (bD W.bs).length:Nat):Int)]):=hc4
   generalize hmn (OF W) o / Nat.gcd (hmn (OF W) o) (bD W.bs).length=sa at*
   generalize (bD W.bs).length / Nat.gcd (hmn (OF W) o) (bD W.bs).length=sb at*
   have ee:((sa:Nat):Int)*(((bD W.bs).length:Nat):Int)=((sb:Nat):Int)*((last:Nat):Int):=by
    rw [el,<- Int.natCast_mul,<- Int.natCast_mul,shi,Nat.mul_comm]
   refine ⟨_,rfl,d,_,rfl,hget,?_⟩
   refine ⟨_,rfl,cs j,_,_,_,rfl,rfl,SqT.of hc',rfl,_,rfl,v,W,rfl,hW2.mono g34,hok,fun H5 g5=>⟨_,_,rfl,rfl,.inl ⟨by omega,by omega⟩,_,rfl,cs j,_,_,_,rfl,rfl,SqT.of (g5 _ _ hc'),rfl,_,rfl,_,_,rfl,rfl,.inl ⟨by omega,by omega⟩,rfl,?_⟩⟩
   show Q (.bl (decide (V.int (((sa:Nat):Int)*(((bD W.bs).length:Nat):Int))=V.int (((sb:Nat):Int)*((last:Nat):Int))))) _
   rw [ee,decide_eq_true rfl]
   exact q _
end
end Be
namespace Be
open PySem L2
theorem ar1 {F:List Value->Prop} (h:∀ a,F [a]):∀ us,us.length=1->F us
 | [a],_=>h a
theorem ar2 {F:List Value->Prop} (h:∀ a b,F [a,b]):∀ us,us.length=2->F us
 | [a,b],_=>h a b
theorem ar3 {F:List Value->Prop} (h:∀ a b c,F [a,b,c]):∀ us,us.length=3->F us
 | [a,b,c],_=>h a b c
theorem ar4 {F:List Value->Prop} (h:∀ a b c d,F [a,b,c,d]):∀ us,us.length=4->F us
 | [a,b,c,d],_=>h a b c d
theorem ar5 {F:List Value->Prop} (h:∀ a b c d e,F [a,b,c,d,e]):∀ us,us.length=5->F us
 | [a,b,c,d,e],_=>h a b c d e
theorem ar6 {F:List Value->Prop} (h:∀ a b c d e f,F [a,b,c,d,e,f]):∀ us,us.length=6->F us
 | [a,b,c,d,e,f],_=>h a b c d e f
def aE {K:PySem.W.Frag} {h:Heap} {mg:Str->Option Value} {x:Str} {st:Stmt} {ps:List Str} {f:Addr} {od an:Option Addr} {sl:Array (Option Value)} {oc kV dc pm cd ct:Value} (X:K.In h) (G:h.Ns mainGlobals mg) (a:PySem.W.nsIn K mainGlobals x=some (some (.ref f)))
    (l:K.lookup f=some ⟨oc,od,.func (PySem.W.fnOf x x (au st) (aq st) (ae st) .none kV dc pm an cd ct),sl⟩) (c:PySem.W.codeIn K cd x=true) (k:PySem.W.keepIn K (.ref f)=true)
    (hb:∀ (kV doc pm:Value) (an:Option Addr) (cdv ct:Value) (us:List Value),us.length=ps.length->bindArgs (PySem.W.fnOf x x (au st) (aq st) (ae st) .none kV doc pm an cdv ct) ⟨us,[]⟩=pure (ps.zip us)):aQ K mg x st ps:=
 ⟨f,_,wU l c k,(wU l c k).binds hb,PySem.W.mg_of X G a⟩
set_option maxHeartbeats 4000000 in
theorem txt_mk {K:PySem.W.Frag} {h:Heap} {mg:Str->Option Value} (X:K.In h) (G:h.Ns mainGlobals mg)
    {f0:Addr} {od0 an0:Option Addr} {sl0:Array (Option Value)} {oc0 kV0 dc0 pm0 cd0 ct0:Value}
    {f1:Addr} {od1 an1:Option Addr} {sl1:Array (Option Value)} {oc1 kV1 dc1 pm1 cd1 ct1:Value}
    {f2:Addr} {od2 an2:Option Addr} {sl2:Array (Option Value)} {oc2 kV2 dc2 pm2 cd2 ct2:Value}
    {f3:Addr} {od3 an3:Option Addr} {sl3:Array (Option Value)} {oc3 kV3 dc3 pm3 cd3 ct3:Value}
    {f4:Addr} {od4 an4:Option Addr} {sl4:Array (Option Value)} {oc4 kV4 dc4 pm4 cd4 ct4:Value}
    {f5:Addr} {od5 an5:Option Addr} {sl5:Array (Option Value)} {oc5 kV5 dc5 pm5 cd5 ct5:Value}
    {f6:Addr} {od6 an6:Option Addr} {sl6:Array (Option Value)} {oc6 kV6 dc6 pm6 cd6 ct6:Value}
    {f7:Addr} {od7 an7:Option Addr} {sl7:Array (Option Value)} {oc7 kV7 dc7 pm7 cd7 ct7:Value}
    {f8:Addr} {od8 an8:Option Addr} {sl8:Array (Option Value)} {oc8 kV8 dc8 pm8 cd8 ct8:Value}
    {f9:Addr} {od9 an9:Option Addr} {sl9:Array (Option Value)} {oc9 kV9 dc9 pm9 cd9 ct9:Value}
    {f10:Addr} {od10 an10:Option Addr} {sl10:Array (Option Value)} {oc10 kV10 dc10 pm10 cd10 ct10:Value}
    {f11:Addr} {od11 an11:Option Addr} {sl11:Array (Option Value)} {oc11 kV11 dc11 pm11 cd11 ct11:Value}
    {f12:Addr} {od12 an12:Option Addr} {sl12:Array (Option Value)} {oc12 kV12 dc12 pm12 cd12 ct12:Value}
    {f13:Addr} {od13 an13:Option Addr} {sl13:Array (Option Value)} {oc13 kV13 dc13 pm13 cd13 ct13:Value}
    {f14:Addr} {od14 an14:Option Addr} {sl14:Array (Option Value)} {oc14 kV14 dc14 pm14 cd14 ct14:Value}
    {f15:Addr} {od15 an15:Option Addr} {sl15:Array (Option Value)} {oc15 kV15 dc15 pm15 cd15 ct15:Value}
    {f16:Addr} {od16 an16:Option Addr} {sl16:Array (Option Value)} {oc16 kV16 dc16 pm16 cd16 ct16:Value}
    {f17:Addr} {od17 an17:Option Addr} {sl17:Array (Option Value)} {oc17 kV17 dc17 pm17 cd17 ct17:Value}
    {f18:Addr} {od18 an18:Option Addr} {sl18:Array (Option Value)} {oc18 kV18 dc18 pm18 cd18 ct18:Value}
    {f19:Addr} {od19 an19:Option Addr} {sl19:Array (Option Value)} {oc19 kV19 dc19 pm19 cd19 ct19:Value}
    {f20:Addr} {od20 an20:Option Addr} {sl20:Array (Option Value)} {oc20 kV20 dc20 pm20 cd20 ct20:Value}
    {f21:Addr} {od21 an21:Option Addr} {sl21:Array (Option Value)} {oc21 kV21 dc21 pm21 cd21 ct21:Value}
    {f22:Addr} {od22 an22:Option Addr} {sl22:Array (Option Value)} {oc22 kV22 dc22 pm22 cd22 ct22:Value}
    {f23:Addr} {od23 an23:Option Addr} {sl23:Array (Option Value)} {oc23 kV23 dc23 pm23 cd23 ct23:Value}
    {f24:Addr} {od24 an24:Option Addr} {sl24:Array (Option Value)} {oc24 kV24 dc24 pm24 cd24 ct24:Value}
    {f25:Addr} {od25 an25:Option Addr} {sl25:Array (Option Value)} {oc25 kV25 dc25 pm25 cd25 ct25:Value}
    {f26:Addr} {od26 an26:Option Addr} {sl26:Array (Option Value)} {oc26 kV26 dc26 pm26 cd26 ct26:Value}
    {f27:Addr} {od27 an27:Option Addr} {sl27:Array (Option Value)} {oc27 kV27 dc27 pm27 cd27 ct27:Value}
    {f28:Addr} {od28 an28:Option Addr} {sl28:Array (Option Value)} {oc28 kV28 dc28 pm28 cd28 ct28:Value}
    {f29:Addr} {od29 an29:Option Addr} {sl29:Array (Option Value)} {oc29 kV29 dc29 pm29 cd29 ct29:Value}
    {f30:Addr} {od30 an30:Option Addr} {sl30:Array (Option Value)} {oc30 kV30 dc30 pm30 cd30 ct30:Value}
    {f31:Addr} {od31 an31:Option Addr} {sl31:Array (Option Value)} {oc31 kV31 dc31 pm31 cd31 ct31:Value}
    {f32:Addr} {od32 an32:Option Addr} {sl32:Array (Option Value)} {oc32 kV32 dc32 pm32 cd32 ct32:Value}
    {f33:Addr} {od33 an33:Option Addr} {sl33:Array (Option Value)} {oc33 kV33 dc33 pm33 cd33 ct33:Value}
    {f34:Addr} {od34 an34:Option Addr} {sl34:Array (Option Value)} {oc34 kV34 dc34 pm34 cd34 ct34:Value}
    {f35:Addr} {od35 an35:Option Addr} {sl35:Array (Option Value)} {oc35 kV35 dc35 pm35 cd35 ct35:Value}
    {f36:Addr} {od36 an36:Option Addr} {sl36:Array (Option Value)} {oc36 kV36 dc36 pm36 cd36 ct36:Value}
    {f37:Addr} {od37 an37:Option Addr} {sl37:Array (Option Value)} {oc37 kV37 dc37 pm37 cd37 ct37:Value}
    {f38:Addr} {od38 an38:Option Addr} {sl38:Array (Option Value)} {oc38 kV38 dc38 pm38 cd38 ct38:Value}
    {f39:Addr} {od39 an39:Option Addr} {sl39:Array (Option Value)} {oc39 kV39 dc39 pm39 cd39 ct39:Value}
    {f40:Addr} {od40 an40:Option Addr} {sl40:Array (Option Value)} {oc40 kV40 dc40 pm40 cd40 ct40:Value}
    {f41:Addr} {od41 an41:Option Addr} {sl41:Array (Option Value)} {oc41 kV41 dc41 pm41 cd41 ct41:Value}
    {f42:Addr} {od42 an42:Option Addr} {sl42:Array (Option Value)} {oc42 kV42 dc42 pm42 cd42 ct42:Value}
    {f43:Addr} {od43 an43:Option Addr} {sl43:Array (Option Value)} {oc43 kV43 dc43 pm43 cd43 ct43:Value}
    {f44:Addr} {od44 an44:Option Addr} {sl44:Array (Option Value)} {oc44 kV44 dc44 pm44 cd44 ct44:Value}
    {f45:Addr} {od45 an45:Option Addr} {sl45:Array (Option Value)} {oc45 kV45 dc45 pm45 cd45 ct45:Value}
    {f46:Addr} {od46 an46:Option Addr} {sl46:Array (Option Value)} {oc46 kV46 dc46 pm46 cd46 ct46:Value}
    {f47:Addr} {od47 an47:Option Addr} {sl47:Array (Option Value)} {oc47 kV47 dc47 pm47 cd47 ct47:Value}
    {f48:Addr} {od48 an48:Option Addr} {sl48:Array (Option Value)} {oc48 kV48 dc48 pm48 cd48 ct48:Value}
    {f49:Addr} {od49 an49:Option Addr} {sl49:Array (Option Value)} {oc49 kV49 dc49 pm49 cd49 ct49:Value}
    {t_MOST_BENCHES:Tok}
    {t_MOST_WORKS:Tok}
    {t_MOST_LENGTH:Tok}
    {t_MOST_LENGTHS_GONE_THROUGH:Tok}
    {C_NoWorld:Addr}
    {C_NoOrder:Addr}
    {C_NoLengths:Addr}
    {C_NoWork:Addr}
    {C_Never:Addr}
    {C_TooMany:Addr}
    (a0:PySem.W.nsIn K mainGlobals "is_whole_within"=some (some (.ref f0)))
    (l0:K.lookup f0=some ⟨oc0,od0,.func (PySem.W.fnOf "is_whole_within" "is_whole_within" (au (top 12)) (aq (top 12)) (ae (top 12)) .none kV0 dc0 pm0 an0 cd0 ct0),sl0⟩)
    (c0:PySem.W.codeIn K cd0 "is_whole_within"=true)
    (k0:PySem.W.keepIn K (.ref f0)=true)
    (a1:PySem.W.nsIn K mainGlobals "is_pair"=some (some (.ref f1)))
    (l1:K.lookup f1=some ⟨oc1,od1,.func (PySem.W.fnOf "is_pair" "is_pair" (au (top 13)) (aq (top 13)) (ae (top 13)) .none kV1 dc1 pm1 an1 cd1 ct1),sl1⟩)
    (c1:PySem.W.codeIn K cd1 "is_pair"=true)
    (k1:PySem.W.keepIn K (.ref f1)=true)
    (a2:PySem.W.nsIn K mainGlobals "are_bounds_of_work"=some (some (.ref f2)))
    (l2:K.lookup f2=some ⟨oc2,od2,.func (PySem.W.fnOf "are_bounds_of_work" "are_bounds_of_work" (au (top 14)) (aq (top 14)) (ae (top 14)) .none kV2 dc2 pm2 an2 cd2 ct2),sl2⟩)
    (c2:PySem.W.codeIn K cd2 "are_bounds_of_work"=true)
    (k2:PySem.W.keepIn K (.ref f2)=true)
    (a3:PySem.W.nsIn K mainGlobals "are_bounds"=some (some (.ref f3)))
    (l3:K.lookup f3=some ⟨oc3,od3,.func (PySem.W.fnOf "are_bounds" "are_bounds" (au (top 15)) (aq (top 15)) (ae (top 15)) .none kV3 dc3 pm3 an3 cd3 ct3),sl3⟩)
    (c3:PySem.W.codeIn K cd3 "are_bounds"=true)
    (k3:PySem.W.keepIn K (.ref f3)=true)
    (a4:PySem.W.nsIn K mainGlobals "is_world"=some (some (.ref f4)))
    (l4:K.lookup f4=some ⟨oc4,od4,.func (PySem.W.fnOf "is_world" "is_world" (au (top 16)) (aq (top 16)) (ae (top 16)) .none kV4 dc4 pm4 an4 cd4 ct4),sl4⟩)
    (c4:PySem.W.codeIn K cd4 "is_world"=true)
    (k4:PySem.W.keepIn K (.ref f4)=true)
    (a5:PySem.W.nsIn K mainGlobals "check_world"=some (some (.ref f5)))
    (l5:K.lookup f5=some ⟨oc5,od5,.func (PySem.W.fnOf "check_world" "check_world" (au (top 17)) (aq (top 17)) (ae (top 17)) .none kV5 dc5 pm5 an5 cd5 ct5),sl5⟩)
    (c5:PySem.W.codeIn K cd5 "check_world"=true)
    (k5:PySem.W.keepIn K (.ref f5)=true)
    (a6:PySem.W.nsIn K mainGlobals "is_order"=some (some (.ref f6)))
    (l6:K.lookup f6=some ⟨oc6,od6,.func (PySem.W.fnOf "is_order" "is_order" (au (top 18)) (aq (top 18)) (ae (top 18)) .none kV6 dc6 pm6 an6 cd6 ct6),sl6⟩)
    (c6:PySem.W.codeIn K cd6 "is_order"=true)
    (k6:PySem.W.keepIn K (.ref f6)=true)
    (a7:PySem.W.nsIn K mainGlobals "check_order"=some (some (.ref f7)))
    (l7:K.lookup f7=some ⟨oc7,od7,.func (PySem.W.fnOf "check_order" "check_order" (au (top 19)) (aq (top 19)) (ae (top 19)) .none kV7 dc7 pm7 an7 cd7 ct7),sl7⟩)
    (c7:PySem.W.codeIn K cd7 "check_order"=true)
    (k7:PySem.W.keepIn K (.ref f7)=true)
    (a8:PySem.W.nsIn K mainGlobals "are_lengths"=some (some (.ref f8)))
    (l8:K.lookup f8=some ⟨oc8,od8,.func (PySem.W.fnOf "are_lengths" "are_lengths" (au (top 20)) (aq (top 20)) (ae (top 20)) .none kV8 dc8 pm8 an8 cd8 ct8),sl8⟩)
    (c8:PySem.W.codeIn K cd8 "are_lengths"=true)
    (k8:PySem.W.keepIn K (.ref f8)=true)
    (a9:PySem.W.nsIn K mainGlobals "check_lengths"=some (some (.ref f9)))
    (l9:K.lookup f9=some ⟨oc9,od9,.func (PySem.W.fnOf "check_lengths" "check_lengths" (au (top 21)) (aq (top 21)) (ae (top 21)) .none kV9 dc9 pm9 an9 cd9 ct9),sl9⟩)
    (c9:PySem.W.codeIn K cd9 "check_lengths"=true)
    (k9:PySem.W.keepIn K (.ref f9)=true)
    (a10:PySem.W.nsIn K mainGlobals "how_many_benches"=some (some (.ref f10)))
    (l10:K.lookup f10=some ⟨oc10,od10,.func (PySem.W.fnOf "how_many_benches" "how_many_benches" (au (top 22)) (aq (top 22)) (ae (top 22)) .none kV10 dc10 pm10 an10 cd10 ct10),sl10⟩)
    (c10:PySem.W.codeIn K cd10 "how_many_benches"=true)
    (k10:PySem.W.keepIn K (.ref f10)=true)
    (a11:PySem.W.nsIn K mainGlobals "how_many_works"=some (some (.ref f11)))
    (l11:K.lookup f11=some ⟨oc11,od11,.func (PySem.W.fnOf "how_many_works" "how_many_works" (au (top 23)) (aq (top 23)) (ae (top 23)) .none kV11 dc11 pm11 an11 cd11 ct11),sl11⟩)
    (c11:PySem.W.codeIn K cd11 "how_many_works"=true)
    (k11:PySem.W.keepIn K (.ref f11)=true)
    (a12:PySem.W.nsIn K mainGlobals "least_length"=some (some (.ref f12)))
    (l12:K.lookup f12=some ⟨oc12,od12,.func (PySem.W.fnOf "least_length" "least_length" (au (top 24)) (aq (top 24)) (ae (top 24)) .none kV12 dc12 pm12 an12 cd12 ct12),sl12⟩)
    (c12:PySem.W.codeIn K cd12 "least_length"=true)
    (k12:PySem.W.keepIn K (.ref f12)=true)
    (a13:PySem.W.nsIn K mainGlobals "greatest_length"=some (some (.ref f13)))
    (l13:K.lookup f13=some ⟨oc13,od13,.func (PySem.W.fnOf "greatest_length" "greatest_length" (au (top 25)) (aq (top 25)) (ae (top 25)) .none kV13 dc13 pm13 an13 cd13 ct13),sl13⟩)
    (c13:PySem.W.codeIn K cd13 "greatest_length"=true)
    (k13:PySem.W.keepIn K (.ref f13)=true)
    (a14:PySem.W.nsIn K mainGlobals "how_many_began"=some (some (.ref f14)))
    (l14:K.lookup f14=some ⟨oc14,od14,.func (PySem.W.fnOf "how_many_began" "how_many_began" (au (top 26)) (aq (top 26)) (ae (top 26)) .none kV14 dc14 pm14 an14 cd14 ct14),sl14⟩)
    (c14:PySem.W.codeIn K cd14 "how_many_began"=true)
    (k14:PySem.W.keepIn K (.ref f14)=true)
    (a15:PySem.W.nsIn K mainGlobals "running"=some (some (.ref f15)))
    (l15:K.lookup f15=some ⟨oc15,od15,.func (PySem.W.fnOf "running" "running" (au (top 27)) (aq (top 27)) (ae (top 27)) .none kV15 dc15 pm15 an15 cd15 ct15),sl15⟩)
    (c15:PySem.W.codeIn K cd15 "running"=true)
    (k15:PySem.W.keepIn K (.ref f15)=true)
    (a16:PySem.W.nsIn K mainGlobals "begin_event"=some (some (.ref f16)))
    (l16:K.lookup f16=some ⟨oc16,od16,.func (PySem.W.fnOf "begin_event" "begin_event" (au (top 28)) (aq (top 28)) (ae (top 28)) .none kV16 dc16 pm16 an16 cd16 ct16),sl16⟩)
    (c16:PySem.W.codeIn K cd16 "begin_event"=true)
    (k16:PySem.W.keepIn K (.ref f16)=true)
    (a17:PySem.W.nsIn K mainGlobals "rules_of_ended"=some (some (.ref f17)))
    (l17:K.lookup f17=some ⟨oc17,od17,.func (PySem.W.fnOf "rules_of_ended" "rules_of_ended" (au (top 30)) (aq (top 30)) (ae (top 30)) .none kV17 dc17 pm17 an17 cd17 ct17),sl17⟩)
    (c17:PySem.W.codeIn K cd17 "rules_of_ended"=true)
    (k17:PySem.W.keepIn K (.ref f17)=true)
    (a18:PySem.W.nsIn K mainGlobals "rule_of_running"=some (some (.ref f18)))
    (l18:K.lookup f18=some ⟨oc18,od18,.func (PySem.W.fnOf "rule_of_running" "rule_of_running" (au (top 31)) (aq (top 31)) (ae (top 31)) .none kV18 dc18 pm18 an18 cd18 ct18),sl18⟩)
    (c18:PySem.W.codeIn K cd18 "rule_of_running"=true)
    (k18:PySem.W.keepIn K (.ref f18)=true)
    (a19:PySem.W.nsIn K mainGlobals "rules"=some (some (.ref f19)))
    (l19:K.lookup f19=some ⟨oc19,od19,.func (PySem.W.fnOf "rules" "rules" (au (top 32)) (aq (top 32)) (ae (top 32)) .none kV19 dc19 pm19 an19 cd19 ct19),sl19⟩)
    (c19:PySem.W.codeIn K cd19 "rules"=true)
    (k19:PySem.W.keepIn K (.ref f19)=true)
    (a20:PySem.W.nsIn K mainGlobals "holds"=some (some (.ref f20)))
    (l20:K.lookup f20=some ⟨oc20,od20,.func (PySem.W.fnOf "holds" "holds" (au (top 33)) (aq (top 33)) (ae (top 33)) .none kV20 dc20 pm20 an20 cd20 ct20),sl20⟩)
    (c20:PySem.W.codeIn K cd20 "holds"=true)
    (k20:PySem.W.keepIn K (.ref f20)=true)
    (a21:PySem.W.nsIn K mainGlobals "walk_most"=some (some (.ref f21)))
    (l21:K.lookup f21=some ⟨oc21,od21,.func (PySem.W.fnOf "walk_most" "walk_most" (au (top 34)) (aq (top 34)) (ae (top 34)) .none kV21 dc21 pm21 an21 cd21 ct21),sl21⟩)
    (c21:PySem.W.codeIn K cd21 "walk_most"=true)
    (k21:PySem.W.keepIn K (.ref f21)=true)
    (a22:PySem.W.nsIn K mainGlobals "shorten_walks"=some (some (.ref f22)))
    (l22:K.lookup f22=some ⟨oc22,od22,.func (PySem.W.fnOf "shorten_walks" "shorten_walks" (au (top 35)) (aq (top 35)) (ae (top 35)) .none kV22 dc22 pm22 an22 cd22 ct22),sl22⟩)
    (c22:PySem.W.codeIn K cd22 "shorten_walks"=true)
    (k22:PySem.W.keepIn K (.ref f22)=true)
    (a23:PySem.W.nsIn K mainGlobals "shortest_walks"=some (some (.ref f23)))
    (l23:K.lookup f23=some ⟨oc23,od23,.func (PySem.W.fnOf "shortest_walks" "shortest_walks" (au (top 36)) (aq (top 36)) (ae (top 36)) .none kV23 dc23 pm23 an23 cd23 ct23),sl23⟩)
    (c23:PySem.W.codeIn K cd23 "shortest_walks"=true)
    (k23:PySem.W.keepIn K (.ref f23)=true)
    (a24:PySem.W.nsIn K mainGlobals "walk_by_firsts"=some (some (.ref f24)))
    (l24:K.lookup f24=some ⟨oc24,od24,.func (PySem.W.fnOf "walk_by_firsts" "walk_by_firsts" (au (top 37)) (aq (top 37)) (ae (top 37)) .none kV24 dc24 pm24 an24 cd24 ct24),sl24⟩)
    (c24:PySem.W.codeIn K cd24 "walk_by_firsts"=true)
    (k24:PySem.W.keepIn K (.ref f24)=true)
    (a25:PySem.W.nsIn K mainGlobals "earliest_moments"=some (some (.ref f25)))
    (l25:K.lookup f25=some ⟨oc25,od25,.func (PySem.W.fnOf "earliest_moments" "earliest_moments" (au (top 39)) (aq (top 39)) (ae (top 39)) .none kV25 dc25 pm25 an25 cd25 ct25),sl25⟩)
    (c25:PySem.W.codeIn K cd25 "earliest_moments"=true)
    (k25:PySem.W.keepIn K (.ref f25)=true)
    (a26:PySem.W.nsIn K mainGlobals "could"=some (some (.ref f26)))
    (l26:K.lookup f26=some ⟨oc26,od26,.func (PySem.W.fnOf "could" "could" (au (top 40)) (aq (top 40)) (ae (top 40)) .none kV26 dc26 pm26 an26 cd26 ct26),sl26⟩)
    (c26:PySem.W.codeIn K cd26 "could"=true)
    (k26:PySem.W.keepIn K (.ref f26)=true)
    (a27:PySem.W.nsIn K mainGlobals "check_could"=some (some (.ref f27)))
    (l27:K.lookup f27=some ⟨oc27,od27,.func (PySem.W.fnOf "check_could" "check_could" (au (top 41)) (aq (top 41)) (ae (top 41)) .none kV27 dc27 pm27 an27 cd27 ct27),sl27⟩)
    (c27:PySem.W.codeIn K cd27 "check_could"=true)
    (k27:PySem.W.keepIn K (.ref f27)=true)
    (a28:PySem.W.nsIn K mainGlobals "taken_up"=some (some (.ref f28)))
    (l28:K.lookup f28=some ⟨oc28,od28,.func (PySem.W.fnOf "taken_up" "taken_up" (au (top 43)) (aq (top 43)) (ae (top 43)) .none kV28 dc28 pm28 an28 cd28 ct28),sl28⟩)
    (c28:PySem.W.codeIn K cd28 "taken_up"=true)
    (k28:PySem.W.keepIn K (.ref f28)=true)
    (a29:PySem.W.nsIn K mainGlobals "played"=some (some (.ref f29)))
    (l29:K.lookup f29=some ⟨oc29,od29,.func (PySem.W.fnOf "played" "played" (au (top 44)) (aq (top 44)) (ae (top 44)) .none kV29 dc29 pm29 an29 cd29 ct29),sl29⟩)
    (c29:PySem.W.codeIn K cd29 "played"=true)
    (k29:PySem.W.keepIn K (.ref f29)=true)
    (a30:PySem.W.nsIn K mainGlobals "how_many_lengths"=some (some (.ref f30)))
    (l30:K.lookup f30=some ⟨oc30,od30,.func (PySem.W.fnOf "how_many_lengths" "how_many_lengths" (au (top 47)) (aq (top 47)) (ae (top 47)) .none kV30 dc30 pm30 an30 cd30 ct30),sl30⟩)
    (c30:PySem.W.codeIn K cd30 "how_many_lengths"=true)
    (k30:PySem.W.keepIn K (.ref f30)=true)
    (a31:PySem.W.nsIn K mainGlobals "check_many"=some (some (.ref f31)))
    (l31:K.lookup f31=some ⟨oc31,od31,.func (PySem.W.fnOf "check_many" "check_many" (au (top 48)) (aq (top 48)) (ae (top 48)) .none kV31 dc31 pm31 an31 cd31 ct31),sl31⟩)
    (c31:PySem.W.codeIn K cd31 "check_many"=true)
    (k31:PySem.W.keepIn K (.ref f31)=true)
    (a32:PySem.W.nsIn K mainGlobals "all_lengths"=some (some (.ref f32)))
    (l32:K.lookup f32=some ⟨oc32,od32,.func (PySem.W.fnOf "all_lengths" "all_lengths" (au (top 49)) (aq (top 49)) (ae (top 49)) .none kV32 dc32 pm32 an32 cd32 ct32),sl32⟩)
    (c32:PySem.W.codeIn K cd32 "all_lengths"=true)
    (k32:PySem.W.keepIn K (.ref f32)=true)
    (a33:PySem.W.nsIn K mainGlobals "greatest_divisor"=some (some (.ref f33)))
    (l33:K.lookup f33=some ⟨oc33,od33,.func (PySem.W.fnOf "greatest_divisor" "greatest_divisor" (au (top 50)) (aq (top 50)) (ae (top 50)) .none kV33 dc33 pm33 an33 cd33 ct33),sl33⟩)
    (c33:PySem.W.codeIn K cd33 "greatest_divisor"=true)
    (k33:PySem.W.keepIn K (.ref f33)=true)
    (a34:PySem.W.nsIn K mainGlobals "share"=some (some (.ref f34)))
    (l34:K.lookup f34=some ⟨oc34,od34,.func (PySem.W.fnOf "share" "share" (au (top 51)) (aq (top 51)) (ae (top 51)) .none kV34 dc34 pm34 an34 cd34 ct34),sl34⟩)
    (c34:PySem.W.codeIn K cd34 "share"=true)
    (k34:PySem.W.keepIn K (.ref f34)=true)
    (a35:PySem.W.nsIn K mainGlobals "chances"=some (some (.ref f35)))
    (l35:K.lookup f35=some ⟨oc35,od35,.func (PySem.W.fnOf "chances" "chances" (au (top 52)) (aq (top 52)) (ae (top 52)) .none kV35 dc35 pm35 an35 cd35 ct35),sl35⟩)
    (c35:PySem.W.codeIn K cd35 "chances"=true)
    (k35:PySem.W.keepIn K (.ref f35)=true)
    (a36:PySem.W.nsIn K mainGlobals "lengths_for"=some (some (.ref f36)))
    (l36:K.lookup f36=some ⟨oc36,od36,.func (PySem.W.fnOf "lengths_for" "lengths_for" (au (top 53)) (aq (top 53)) (ae (top 53)) .none kV36 dc36 pm36 an36 cd36 ct36),sl36⟩)
    (c36:PySem.W.codeIn K cd36 "lengths_for"=true)
    (k36:PySem.W.keepIn K (.ref f36)=true)
    (a37:PySem.W.nsIn K mainGlobals "check_work"=some (some (.ref f37)))
    (l37:K.lookup f37=some ⟨oc37,od37,.func (PySem.W.fnOf "check_work" "check_work" (au (top 55)) (aq (top 55)) (ae (top 55)) .none kV37 dc37 pm37 an37 cd37 ct37),sl37⟩)
    (c37:PySem.W.codeIn K cd37 "check_work"=true)
    (k37:PySem.W.keepIn K (.ref f37)=true)
    (a38:PySem.W.nsIn K mainGlobals "chain_start"=some (some (.ref f38)))
    (l38:K.lookup f38=some ⟨oc38,od38,.func (PySem.W.fnOf "chain_start" "chain_start" (au (top 56)) (aq (top 56)) (ae (top 56)) .none kV38 dc38 pm38 an38 cd38 ct38),sl38⟩)
    (c38:PySem.W.codeIn K cd38 "chain_start"=true)
    (k38:PySem.W.keepIn K (.ref f38)=true)
    (a39:PySem.W.nsIn K mainGlobals "chain_goal"=some (some (.ref f39)))
    (l39:K.lookup f39=some ⟨oc39,od39,.func (PySem.W.fnOf "chain_goal" "chain_goal" (au (top 57)) (aq (top 57)) (ae (top 57)) .none kV39 dc39 pm39 an39 cd39 ct39),sl39⟩)
    (c39:PySem.W.codeIn K cd39 "chain_goal"=true)
    (k39:PySem.W.keepIn K (.ref f39)=true)
    (a40:PySem.W.nsIn K mainGlobals "shortest_chain"=some (some (.ref f40)))
    (l40:K.lookup f40=some ⟨oc40,od40,.func (PySem.W.fnOf "shortest_chain" "shortest_chain" (au (top 58)) (aq (top 58)) (ae (top 58)) .none kV40 dc40 pm40 an40 cd40 ct40),sl40⟩)
    (c40:PySem.W.codeIn K cd40 "shortest_chain"=true)
    (k40:PySem.W.keepIn K (.ref f40)=true)
    (a41:PySem.W.nsIn K mainGlobals "length"=some (some (.ref f41)))
    (l41:K.lookup f41=some ⟨oc41,od41,.func (PySem.W.fnOf "length" "length" (au (top 59)) (aq (top 59)) (ae (top 59)) .none kV41 dc41 pm41 an41 cd41 ct41),sl41⟩)
    (c41:PySem.W.codeIn K cd41 "length"=true)
    (k41:PySem.W.keepIn K (.ref f41)=true)
    (a42:PySem.W.nsIn K mainGlobals "tighter"=some (some (.ref f42)))
    (l42:K.lookup f42=some ⟨oc42,od42,.func (PySem.W.fnOf "tighter" "tighter" (au (top 61)) (aq (top 61)) (ae (top 61)) .none kV42 dc42 pm42 an42 cd42 ct42),sl42⟩)
    (c42:PySem.W.codeIn K cd42 "tighter"=true)
    (k42:PySem.W.keepIn K (.ref f42)=true)
    (a43:PySem.W.nsIn K mainGlobals "_law_cell_at"=some (some (.ref f43)))
    (l43:K.lookup f43=some ⟨oc43,od43,.func (PySem.W.fnOf "_law_cell_at" "_law_cell_at" (au (top 63)) (aq (top 63)) (ae (top 63)) .none kV43 dc43 pm43 an43 cd43 ct43),sl43⟩)
    (c43:PySem.W.codeIn K cd43 "_law_cell_at"=true)
    (k43:PySem.W.keepIn K (.ref f43)=true)
    (a44:PySem.W.nsIn K mainGlobals "_law_mixed"=some (some (.ref f44)))
    (l44:K.lookup f44=some ⟨oc44,od44,.func (PySem.W.fnOf "_law_mixed" "_law_mixed" (au (top 64)) (aq (top 64)) (ae (top 64)) .none kV44 dc44 pm44 an44 cd44 ct44),sl44⟩)
    (c44:PySem.W.codeIn K cd44 "_law_mixed"=true)
    (k44:PySem.W.keepIn K (.ref f44)=true)
    (a45:PySem.W.nsIn K mainGlobals "_law_draw"=some (some (.ref f45)))
    (l45:K.lookup f45=some ⟨oc45,od45,.func (PySem.W.fnOf "_law_draw" "_law_draw" (au (top 65)) (aq (top 65)) (ae (top 65)) .none kV45 dc45 pm45 an45 cd45 ct45),sl45⟩)
    (c45:PySem.W.codeIn K cd45 "_law_draw"=true)
    (k45:PySem.W.keepIn K (.ref f45)=true)
    (a46:PySem.W.nsIn K mainGlobals "_law_pick"=some (some (.ref f46)))
    (l46:K.lookup f46=some ⟨oc46,od46,.func (PySem.W.fnOf "_law_pick" "_law_pick" (au (top 66)) (aq (top 66)) (ae (top 66)) .none kV46 dc46 pm46 an46 cd46 ct46),sl46⟩)
    (c46:PySem.W.codeIn K cd46 "_law_pick"=true)
    (k46:PySem.W.keepIn K (.ref f46)=true)
    (a47:PySem.W.nsIn K mainGlobals "_law_world"=some (some (.ref f47)))
    (l47:K.lookup f47=some ⟨oc47,od47,.func (PySem.W.fnOf "_law_world" "_law_world" (au (top 67)) (aq (top 67)) (ae (top 67)) .none kV47 dc47 pm47 an47 cd47 ct47),sl47⟩)
    (c47:PySem.W.codeIn K cd47 "_law_world"=true)
    (k47:PySem.W.keepIn K (.ref f47)=true)
    (a48:PySem.W.nsIn K mainGlobals "_law_some"=some (some (.ref f48)))
    (l48:K.lookup f48=some ⟨oc48,od48,.func (PySem.W.fnOf "_law_some" "_law_some" (au (top 68)) (aq (top 68)) (ae (top 68)) .none kV48 dc48 pm48 an48 cd48 ct48),sl48⟩)
    (c48:PySem.W.codeIn K cd48 "_law_some"=true)
    (k48:PySem.W.keepIn K (.ref f48)=true)
    (a49:PySem.W.nsIn K mainGlobals "law"=some (some (.ref f49)))
    (l49:K.lookup f49=some ⟨oc49,od49,.func (PySem.W.fnOf "law" "law" (au (top 71)) (aq (top 71)) (ae (top 71)) .none kV49 dc49 pm49 an49 cd49 ct49),sl49⟩)
    (c49:PySem.W.codeIn K cd49 "law"=true)
    (k49:PySem.W.keepIn K (.ref f49)=true)
    (z_all:PySem.W.nsIn K mainGlobals "all"=some none)
    (z_bool:PySem.W.nsIn K mainGlobals "bool"=some none)
    (z_dict:PySem.W.nsIn K mainGlobals "dict"=some none)
    (z_enumerate:PySem.W.nsIn K mainGlobals "enumerate"=some none)
    (z_int:PySem.W.nsIn K mainGlobals "int"=some none)
    (z_isinstance:PySem.W.nsIn K mainGlobals "isinstance"=some none)
    (z_len:PySem.W.nsIn K mainGlobals "len"=some none)
    (z_list:PySem.W.nsIn K mainGlobals "list"=some none)
    (z_max:PySem.W.nsIn K mainGlobals "max"=some none)
    (z_min:PySem.W.nsIn K mainGlobals "min"=some none)
    (z_range:PySem.W.nsIn K mainGlobals "range"=some none)
    (z_set:PySem.W.nsIn K mainGlobals "set"=some none)
    (z_sorted:PySem.W.nsIn K mainGlobals "sorted"=some none)
    (z_sum:PySem.W.nsIn K mainGlobals "sum"=some none)
    (z_tuple:PySem.W.nsIn K mainGlobals "tuple"=some none)
    (z_zip:PySem.W.nsIn K mainGlobals "zip"=some none)
    (x_MOST_BENCHES:PySem.W.nsIn K mainGlobals "MOST_BENCHES"=some (some (.int 4 t_MOST_BENCHES)))
    (x_MOST_WORKS:PySem.W.nsIn K mainGlobals "MOST_WORKS"=some (some (.int 10 t_MOST_WORKS)))
    (x_MOST_LENGTH:PySem.W.nsIn K mainGlobals "MOST_LENGTH"=some (some (.int 99 t_MOST_LENGTH)))
    (x_MOST_LENGTHS_GONE_THROUGH:PySem.W.nsIn K mainGlobals "MOST_LENGTHS_GONE_THROUGH"=some (some (.int 600 t_MOST_LENGTHS_GONE_THROUGH)))
    (x_NoWorld:PySem.W.nsIn K mainGlobals "NoWorld"=some (some (.ref C_NoWorld)))
    (q_NoWorld:PySem.W.excIn K C_NoWorld [.type "ValueError",.type "Exception",.type "BaseException",.type "object"] "ValueError.__new__"=true)
    (x_NoOrder:PySem.W.nsIn K mainGlobals "NoOrder"=some (some (.ref C_NoOrder)))
    (q_NoOrder:PySem.W.excIn K C_NoOrder [.type "ValueError",.type "Exception",.type "BaseException",.type "object"] "ValueError.__new__"=true)
    (x_NoLengths:PySem.W.nsIn K mainGlobals "NoLengths"=some (some (.ref C_NoLengths)))
    (q_NoLengths:PySem.W.excIn K C_NoLengths [.type "ValueError",.type "Exception",.type "BaseException",.type "object"] "ValueError.__new__"=true)
    (x_NoWork:PySem.W.nsIn K mainGlobals "NoWork"=some (some (.ref C_NoWork)))
    (q_NoWork:PySem.W.excIn K C_NoWork [.type "ValueError",.type "Exception",.type "BaseException",.type "object"] "ValueError.__new__"=true)
    (x_Never:PySem.W.nsIn K mainGlobals "Never"=some (some (.ref C_Never)))
    (q_Never:PySem.W.excIn K C_Never [.type "ValueError",.type "Exception",.type "BaseException",.type "object"] "ValueError.__new__"=true)
    (x_TooMany:PySem.W.nsIn K mainGlobals "TooMany"=some (some (.ref C_TooMany)))
    (q_TooMany:PySem.W.excIn K C_TooMany [.type "ValueError",.type "Exception",.type "BaseException",.type "object"] "ValueError.__new__"=true):Nonempty (Txt K mg):=
 ⟨{ is_whole_within:=aE X G a0 l0 c0 k0 (fun _ _ _ _ _ _=>ar3 fun _ _ _=>rfl),
    is_pair:=aE X G a1 l1 c1 k1 (fun _ _ _ _ _ _=>ar1 fun _=>rfl),
    are_bounds_of_work:=aE X G a2 l2 c2 k2 (fun _ _ _ _ _ _=>ar1 fun _=>rfl),
    are_bounds:=aE X G a3 l3 c3 k3 (fun _ _ _ _ _ _=>ar1 fun _=>rfl),
    is_world:=aE X G a4 l4 c4 k4 (fun _ _ _ _ _ _=>ar1 fun _=>rfl),
    check_world:=aE X G a5 l5 c5 k5 (fun _ _ _ _ _ _=>ar1 fun _=>rfl),
    is_order:=aE X G a6 l6 c6 k6 (fun _ _ _ _ _ _=>ar2 fun _ _=>rfl),
    check_order:=aE X G a7 l7 c7 k7 (fun _ _ _ _ _ _=>ar2 fun _ _=>rfl),
    are_lengths:=aE X G a8 l8 c8 k8 (fun _ _ _ _ _ _=>ar2 fun _ _=>rfl),
    check_lengths:=aE X G a9 l9 c9 k9 (fun _ _ _ _ _ _=>ar2 fun _ _=>rfl),
    how_many_benches:=aE X G a10 l10 c10 k10 (fun _ _ _ _ _ _=>ar1 fun _=>rfl),
    how_many_works:=aE X G a11 l11 c11 k11 (fun _ _ _ _ _ _=>ar1 fun _=>rfl),
    least_length:=aE X G a12 l12 c12 k12 (fun _ _ _ _ _ _=>ar2 fun _ _=>rfl),
    greatest_length:=aE X G a13 l13 c13 k13 (fun _ _ _ _ _ _=>ar2 fun _ _=>rfl),
    how_many_began:=aE X G a14 l14 c14 k14 (fun _ _ _ _ _ _=>ar2 fun _ _=>rfl),
    running:=aE X G a15 l15 c15 k15 (fun _ _ _ _ _ _=>ar2 fun _ _=>rfl),
    begin_event:=aE X G a16 l16 c16 k16 (fun _ _ _ _ _ _=>ar2 fun _ _=>rfl),
    rules_of_ended:=aE X G a17 l17 c17 k17 (fun _ _ _ _ _ _=>ar3 fun _ _ _=>rfl),
    rule_of_running:=aE X G a18 l18 c18 k18 (fun _ _ _ _ _ _=>ar3 fun _ _ _=>rfl),
    rules:=aE X G a19 l19 c19 k19 (fun _ _ _ _ _ _=>ar2 fun _ _=>rfl),
    holds:=aE X G a20 l20 c20 k20 (fun _ _ _ _ _ _=>ar2 fun _ _=>rfl),
    walk_most:=aE X G a21 l21 c21 k21 (fun _ _ _ _ _ _=>ar2 fun _ _=>rfl),
    shorten_walks:=aE X G a22 l22 c22 k22 (fun _ _ _ _ _ _=>ar3 fun _ _ _=>rfl),
    shortest_walks:=aE X G a23 l23 c23 k23 (fun _ _ _ _ _ _=>ar3 fun _ _ _=>rfl),
    walk_by_firsts:=aE X G a24 l24 c24 k24 (fun _ _ _ _ _ _=>ar4 fun _ _ _ _=>rfl),
    earliest_moments:=aE X G a25 l25 c25 k25 (fun _ _ _ _ _ _=>ar2 fun _ _=>rfl),
    could:=aE X G a26 l26 c26 k26 (fun _ _ _ _ _ _=>ar2 fun _ _=>rfl),
    check_could:=aE X G a27 l27 c27 k27 (fun _ _ _ _ _ _=>ar2 fun _ _=>rfl),
    taken_up:=aE X G a28 l28 c28 k28 (fun _ _ _ _ _ _=>ar2 fun _ _=>rfl),
    played:=aE X G a29 l29 c29 k29 (fun _ _ _ _ _ _=>ar2 fun _ _=>rfl),
    how_many_lengths:=aE X G a30 l30 c30 k30 (fun _ _ _ _ _ _=>ar1 fun _=>rfl),
    check_many:=aE X G a31 l31 c31 k31 (fun _ _ _ _ _ _=>ar1 fun _=>rfl),
    all_lengths:=aE X G a32 l32 c32 k32 (fun _ _ _ _ _ _=>ar1 fun _=>rfl),
    greatest_divisor:=aE X G a33 l33 c33 k33 (fun _ _ _ _ _ _=>ar2 fun _ _=>rfl),
    share:=aE X G a34 l34 c34 k34 (fun _ _ _ _ _ _=>ar2 fun _ _=>rfl),
    chances:=aE X G a35 l35 c35 k35 (fun _ _ _ _ _ _=>ar1 fun _=>rfl),
    lengths_for:=aE X G a36 l36 c36 k36 (fun _ _ _ _ _ _=>ar2 fun _ _=>rfl),
    check_work:=aE X G a37 l37 c37 k37 (fun _ _ _ _ _ _=>ar3 fun _ _ _=>rfl),
    chain_start:=aE X G a38 l38 c38 k38 (fun _ _ _ _ _ _=>ar4 fun _ _ _ _=>rfl),
    chain_goal:=aE X G a39 l39 c39 k39 (fun _ _ _ _ _ _=>ar4 fun _ _ _ _=>rfl),
    shortest_chain:=aE X G a40 l40 c40 k40 (fun _ _ _ _ _ _=>ar4 fun _ _ _ _=>rfl),
    length:=aE X G a41 l41 c41 k41 (fun _ _ _ _ _ _=>ar3 fun _ _ _=>rfl),
    tighter:=aE X G a42 l42 c42 k42 (fun _ _ _ _ _ _=>ar2 fun _ _=>rfl),
    law_cell_at:=aE X G a43 l43 c43 k43 (fun _ _ _ _ _ _=>ar2 fun _ _=>rfl),
    law_mixed:=aE X G a44 l44 c44 k44 (fun _ _ _ _ _ _=>ar3 fun _ _ _=>rfl),
    law_draw:=aE X G a45 l45 c45 k45 (fun _ _ _ _ _ _=>ar3 fun _ _ _=>rfl),
    law_pick:=aE X G a46 l46 c46 k46 (fun _ _ _ _ _ _=>ar3 fun _ _ _=>rfl),
    law_world:=aE X G a47 l47 c47 k47 (fun _ _ _ _ _ _=>ar4 fun _ _ _ _=>rfl),
    law_some:=aE X G a48 l48 c48 k48 (fun _ _ _ _ _ _=>ar3 fun _ _ _=>rfl),
    law:=aE X G a49 l49 c49 k49 (fun _ _ _ _ _ _=>ar1 fun _=>rfl),
    n_all:=DY X G z_all,
    n_bool:=DY X G z_bool,
    n_dict:=DY X G z_dict,
    n_enumerate:=DY X G z_enumerate,
    n_int:=DY X G z_int,
    n_isinstance:=DY X G z_isinstance,
    n_len:=DY X G z_len,
    n_list:=DY X G z_list,
    n_max:=DY X G z_max,
    n_min:=DY X G z_min,
    n_range:=DY X G z_range,
    n_set:=DY X G z_set,
    n_sorted:=DY X G z_sorted,
    n_sum:=DY X G z_sum,
    n_tuple:=DY X G z_tuple,
    n_zip:=DY X G z_zip,
    c_MOST_BENCHES:=⟨_,PySem.W.mg_of X G x_MOST_BENCHES⟩,
    c_MOST_WORKS:=⟨_,PySem.W.mg_of X G x_MOST_WORKS⟩,
    c_MOST_LENGTH:=⟨_,PySem.W.mg_of X G x_MOST_LENGTH⟩,
    c_MOST_LENGTHS_GONE_THROUGH:=⟨_,PySem.W.mg_of X G x_MOST_LENGTHS_GONE_THROUGH⟩,
    e_NoWorld:=⟨C_NoWorld,PySem.W.mg_of X G x_NoWorld,q_NoWorld⟩,
    e_NoOrder:=⟨C_NoOrder,PySem.W.mg_of X G x_NoOrder,q_NoOrder⟩,
    e_NoLengths:=⟨C_NoLengths,PySem.W.mg_of X G x_NoLengths,q_NoLengths⟩,
    e_NoWork:=⟨C_NoWork,PySem.W.mg_of X G x_NoWork,q_NoWork⟩,
    e_Never:=⟨C_Never,PySem.W.mg_of X G x_Never,q_Never⟩,
    e_TooMany:=⟨C_TooMany,PySem.W.mg_of X G x_TooMany,q_TooMany⟩ }⟩
theorem walk {l:PySem.W.OpenLaw} {q:Program} {loose:List Str} {XP:(Str->Option Value)->Heap->Prop} {YP:World->Heap->Prop} {d:DefRec} {K:Params->PySem.W.Frag} (hn:l.most=some 63) (hdf:d.params.defaults=[])
    (hY:∀ (w:World) (h:Heap),YP w h->(K w.params).In h) (hd:d.name="law")
    (F:∀ (w:World) (mg:Str->Option Value) (h:Heap),(K w.params).In h->h.Ns mainGlobals mg->Nonempty (Txt (K w.params) mg)):
    PySem.W.WalkO q loose XP YP l.row.toRowW d [] (fun f vs=>PySem.call f vs):=by
 refine q8 (l:=l) (n:=63) (k:=14) (x:="_law_script") (K:=K) (CX:=fun w=>CXr l.prog w) (sp:=fun w=>sp_law (K w.params)) hn (by decide) hdf ⟨rfl,by decide,by decide⟩ hY ?_ ?_ ?_
 . intro w mg fa h KX G hmg
   obtain ⟨T⟩:=F w mg h KX G
   rw [hd] at hmg
   have e:T.law.a=fa:=by
    have z:=T.law.m.symm.trans hmg
    injection z with z
    injection z
   subst e
   obtain ⟨oc,od,kV,doc,pm,an,cdv,ct,osl,ed,lk,hcd⟩:=T.law.F.ex
   refine ⟨T.law.d,fun s u=>?_,fun base _ _=>Ah T⟩
   rw [ed]
   exact .of_eq rfl
 . intro w H a ns hl hO hS
   exact ⟨a,ns,rfl,Scr.of hS hO,fun _=>rfl⟩
 . intro w H s e s' h
   obtain ⟨_,_,_,_,_,_,_,z⟩:=h
   exact z
end Be
def PySem.W.Fast.tw14900217844390864033:Unit:=()
def PySem.W.Fast.tw11588230990154722397:Unit:=()
def PySem.W.Fast.tw2371501579621182782:Unit:=()
def PySem.W.Fast.tw4970194022139697920:Unit:=()
def PySem.W.Fast.tw2366957671568219631:Unit:=()
def PySem.W.Fast.tw2242828069908779597:Unit:=()
def PySem.W.Fast.tw9562308186118055988:Unit:=()
def PySem.W.Fast.tw13413026209192484280:Unit:=()
def PySem.W.Fast.tw3652267494573558823:Unit:=()
def PySem.W.Fast.tw1343538131036943713:Unit:=()
def PySem.W.Fast.tw17496592682398326405:Unit:=()
def PySem.W.Fast.tw12916212898979906348:Unit:=()
def PySem.W.Fast.tw3128885840544238175:Unit:=()
def PySem.W.Fast.tw11481108816498147033:Unit:=()
def PySem.W.Fast.tw14534471452886804767:Unit:=()
def PySem.W.Fast.tw12660148107804207425:Unit:=()
def PySem.W.Fast.tw15035573436950958042:Unit:=()
def PySem.W.Fast.tw803947606294332118:Unit:=()
def PySem.W.Fast.tw3525696393661024562:Unit:=()
def PySem.W.Fast.tw8600424023457730299:Unit:=()
def PySem.W.Fast.tw17511522207930390277:Unit:=()
def PySem.W.Fast.tw6326022669774884995:Unit:=()
def PySem.W.Fast.tw3628740901280512830:Unit:=()
def PySem.W.Fast.tw18233576689677807617:Unit:=()
def PySem.W.Fast.tw9363888814739755871:Unit:=()
def PySem.W.Fast.tw3978069016423644888:Unit:=()
def PySem.W.Fast.tw16110017539034464856:Unit:=()
def PySem.W.Fast.tw10803480897679174517:Unit:=()
def PySem.W.Fast.tw8524380515496233019:Unit:=()
def PySem.W.Fast.tw10328964449608817210:Unit:=()
def PySem.W.Fast.tw16517749635945514811:Unit:=()
def PySem.W.Fast.tw15464446374933388937:Unit:=()
def PySem.W.Fast.tw8590029372992527792:Unit:=()
def PySem.W.Fast.tw2711915084324337223:Unit:=()
def PySem.W.Fast.tw6120482700865558107:Unit:=()
def PySem.W.Fast.tw13939924596875473784:Unit:=()
def PySem.W.Fast.tw15372095956251389961:Unit:=()
def PySem.W.Fast.tw9758366521498367136:Unit:=()
def PySem.W.Fast.tw14326509374627536774:Unit:=()
def PySem.W.Fast.tw16568992162414245902:Unit:=()
def PySem.W.Fast.tw18295401400333392674:Unit:=()
def PySem.W.Fast.tw36542356245311479:Unit:=()
def PySem.W.Fast.tw4229191284040367081:Unit:=()
def PySem.W.Fast.tw1717912902651356887:Unit:=()
def PySem.W.Fast.tw7944618589118997105:Unit:=()
def PySem.W.Fast.tw14213095869314554773:Unit:=()
def PySem.W.Fast.tw18230126487691058931:Unit:=()
def PySem.W.Fast.tw10790812666810023817:Unit:=()
def PySem.W.Fast.tw12990612840669517527:Unit:=()
def PySem.W.Fast.tw17128329451258412221:Unit:=()
def PySem.W.Fast.tw16864220433166962269:Unit:=()
def PySem.W.Fast.tw2096035300936358349:Unit:=()
def PySem.W.Fast.tw2001386429665726520:Unit:=()
def PySem.W.Fast.tw14601445863611176012:Unit:=()
def PySem.W.Fast.tw16371498738874445978:Unit:=()
def PySem.W.Fast.tw6166436388546139821:Unit:=()
def PySem.W.Fast.tw9086661044714682712:Unit:=()
def PySem.W.Fast.tw9972843387047726299:Unit:=()
def PySem.W.Fast.tw8585605931831210638:Unit:=()
def PySem.W.Fast.tw15198502566847844126:Unit:=()
def PySem.W.Fast.tw7904036456512091581:Unit:=()
def PySem.W.Fast.tw3831110406336995332:Unit:=()
def PySem.W.Fast.tw1467241769264074895:Unit:=()
def PySem.W.Fast.tw7389426521891732866:Unit:=()
def PySem.W.Fast.tw3049738628310802293:Unit:=()
def PySem.W.Fast.tw3237953768488551056:Unit:=()
def PySem.W.Fast.tw15892917044670908817:Unit:=()
def PySem.W.Fast.tw716468685124643417:Unit:=()
def PySem.W.Fast.tw14411909528434851926:Unit:=()
def PySem.W.Fast.tw11044610143125957403:Unit:=()
def PySem.W.Fast.tw4577649567938383501:Unit:=()
def PySem.W.Fast.tw9488394609162306684:Unit:=()
def PySem.W.Fast.tw13078440981229527443:Unit:=()
def PySem.W.Fast.tw11617095466863973187:Unit:=()
def PySem.W.Fast.tw8758113107891963074:Unit:=()
def PySem.W.Fast.tw5738842844652883425:Unit:=()
def PySem.W.Fast.tw14728184400680370885:Unit:=()
def PySem.W.Fast.tw12532950483842488658:Unit:=()
def PySem.W.Fast.tw9592384432285819265:Unit:=()
def PySem.W.Fast.tw3155668337388027331:Unit:=()
def PySem.W.Fast.tw2163190152452428054:Unit:=()
def PySem.W.Fast.tw11335478960101046258:Unit:=()
def PySem.W.Fast.tw15547890787278597581:Unit:=()
def PySem.W.Fast.tw2820786484632570793:Unit:=()
def PySem.W.Fast.tw5923648166892372896:Unit:=()
def PySem.W.Fast.tw8995276893255899923:Unit:=()
def PySem.W.Fast.tw8227286404240858459:Unit:=()
def PySem.W.Fast.tw7623009042613535724:Unit:=()
def PySem.W.Fast.tw16501493206348432342:Unit:=()
def PySem.W.Fast.tw6630029326029798511:Unit:=()
def PySem.W.Fast.tw3553467555821833462:Unit:=()
def PySem.W.Fast.tw5976132697677666666:Unit:=()
def PySem.W.Fast.tw10028504674903090248:Unit:=()
def PySem.W.Fast.tw7118865871573357138:Unit:=()
def PySem.W.Fast.tw6957572503678074545:Unit:=()
def PySem.W.Fast.tw16386293551747044877:Unit:=()
def PySem.W.Fast.tw4882103177413792548:Unit:=()
def PySem.W.Fast.tw15270321548024228886:Unit:=()
def PySem.W.Fast.tw1350535316313485290:Unit:=()
def PySem.W.Fast.tw7711956411362370893:Unit:=()
def PySem.W.Fast.tw4128021429970798897:Unit:=()
def PySem.W.Fast.tw10212102491664247435:Unit:=()
def PySem.W.Fast.tw11956117885806456338:Unit:=()
def PySem.W.Fast.tw11012361294627956346:Unit:=()
def PySem.W.Fast.tw290890897033462303:Unit:=()
def PySem.W.Fast.tw15413471703986016732:Unit:=()
def PySem.W.Fast.tw4814545158111854334:Unit:=()
def PySem.W.Fast.tw12333863150729826134:Unit:=()
def PySem.W.Fast.tw10239702732849590754:Unit:=()
def PySem.W.Fast.tw2460198982657062644:Unit:=()
def PySem.W.Fast.tw4239936628666248320:Unit:=()
def PySem.W.Fast.tw16264277278907053861:Unit:=()
def PySem.W.Fast.tw15158895828568827739:Unit:=()
def PySem.W.Fast.tw17778769767045361719:Unit:=()
def PySem.W.Fast.tw14839960873775155165:Unit:=()
def PySem.W.Fast.tw4391991723132820709:Unit:=()
def PySem.W.Fast.tw9961850203966856056:Unit:=()
def PySem.W.Fast.tw3884127144080341471:Unit:=()
def PySem.W.Fast.tw559068352027683004:Unit:=()
def PySem.W.Fast.tw4254942639901692594:Unit:=()
def PySem.W.Fast.tw3415509990920726018:Unit:=()
def PySem.W.Fast.tw8658769342323306440:Unit:=()
def PySem.W.Fast.tw7643744933734213262:Unit:=()
def PySem.W.Fast.tw6113645456843412209:Unit:=()
def PySem.W.Fast.tw11166364561310732846:Unit:=()
def PySem.W.Fast.tw4466624415140110593:Unit:=()
def PySem.W.Fast.tw7021189492177504940:Unit:=()
def PySem.W.Fast.tw2757197233817354183:Unit:=()
def PySem.W.Fast.tw18009067907778273495:Unit:=()
def PySem.W.Fast.tw7968935615123243022:Unit:=()
def PySem.W.Fast.tw15302605672591405441:Unit:=()
open PySem PySem.W PyProof.Rows
set_option maxRecDepth 100000 in
set_option maxHeartbeats 0 in
theorem PySem.Challenge.cw_benchends_k36_whole_played_and_told_holds : PySem.Challenge.rw_benchends_k36_whole_played_and_told.Holds := by
 w_on;o_law;k_head;(case hw=>w_witness2)
 k_fill
 refine Be.walk (l:=PySem.Challenge.rw_benchends_k36_whole_played_and_told) rfl rfl (fun w h Y=>PySem.W.kIn_of Y) rfl ?F
 case F=>
  intro w mg h KX G
  refine' Be.txt_mk KX G ?a0 ?l0 ?c0 ?k0 ?a1 ?l1 ?c1 ?k1 ?a2 ?l2 ?c2 ?k2 ?a3 ?l3 ?c3 ?k3 ?a4 ?l4 ?c4 ?k4 ?a5 ?l5 ?c5 ?k5 ?a6 ?l6 ?c6 ?k6 ?a7 ?l7 ?c7 ?k7 ?a8 ?l8 ?c8 ?k8 ?a9 ?l9 ?c9 ?k9 ?a10 ?l10 ?c10 ?k10 ?a11 ?l11 ?c11 ?k11 ?a12 ?l12 ?c12 ?k12 ?a13 ?l13 ?c13 ?k13 ?a14 ?l14 ?c14 ?k14 ?a15 ?l15 ?c15 ?k15 ?a16 ?l16 ?c16 ?k16 ?a17 ?l17 ?c17 ?k17 ?a18 ?l18 ?c18 ?k18 ?a19 ?l19 ?c19 ?k19 ?a20 ?l20 ?c20 ?k20 ?a21 ?l21 ?c21 ?k21 ?a22 ?l22 ?c22 ?k22 ?a23 ?l23 ?c23 ?k23 ?a24 ?l24 ?c24 ?k24 ?a25 ?l25 ?c25 ?k25 ?a26 ?l26 ?c26 ?k26 ?a27 ?l27 ?c27 ?k27 ?a28 ?l28 ?c28 ?k28 ?a29 ?l29 ?c29 ?k29 ?a30 ?l30 ?c30 ?k30 ?a31 ?l31 ?c31 ?k31 ?a32 ?l32 ?c32 ?k32 ?a33 ?l33 ?c33 ?k33 ?a34 ?l34 ?c34 ?k34 ?a35 ?l35 ?c35 ?k35 ?a36 ?l36 ?c36 ?k36 ?a37 ?l37 ?c37 ?k37 ?a38 ?l38 ?c38 ?k38 ?a39 ?l39 ?c39 ?k39 ?a40 ?l40 ?c40 ?k40 ?a41 ?l41 ?c41 ?k41 ?a42 ?l42 ?c42 ?k42 ?a43 ?l43 ?c43 ?k43 ?a44 ?l44 ?c44 ?k44 ?a45 ?l45 ?c45 ?k45 ?a46 ?l46 ?c46 ?k46 ?a47 ?l47 ?c47 ?k47 ?a48 ?l48 ?c48 ?k48 ?a49 ?l49 ?c49 ?k49 ?z_all ?z_bool ?z_dict ?z_enumerate ?z_int ?z_isinstance ?z_len ?z_list ?z_max ?z_min ?z_range ?z_set ?z_sorted ?z_sum ?z_tuple ?z_zip ?x_MOST_BENCHES ?x_MOST_WORKS ?x_MOST_LENGTH ?x_MOST_LENGTHS_GONE_THROUGH ?x_NoWorld ?q_NoWorld ?x_NoOrder ?q_NoOrder ?x_NoLengths ?q_NoLengths ?x_NoWork ?q_NoWork ?x_Never ?q_Never ?x_TooMany ?q_TooMany
  (case a0=>k_is)
  (case l0=>k_is)
  (case c0=>k_is)
  (case k0=>k_is)
  (case a1=>k_is)
  (case l1=>k_is)
  (case c1=>k_is)
  (case k1=>k_is)
  (case a2=>k_is)
  (case l2=>k_is)
  (case c2=>k_is)
  (case k2=>k_is)
  (case a3=>k_is)
  (case l3=>k_is)
  (case c3=>k_is)
  (case k3=>k_is)
  (case a4=>k_is)
  (case l4=>k_is)
  (case c4=>k_is)
  (case k4=>k_is)
  (case a5=>k_is)
  (case l5=>k_is)
  (case c5=>k_is)
  (case k5=>k_is)
  (case a6=>k_is)
  (case l6=>k_is)
  (case c6=>k_is)
  (case k6=>k_is)
  (case a7=>k_is)
  (case l7=>k_is)
  (case c7=>k_is)
  (case k7=>k_is)
  (case a8=>k_is)
  (case l8=>k_is)
  (case c8=>k_is)
  (case k8=>k_is)
  (case a9=>k_is)
  (case l9=>k_is)
  (case c9=>k_is)
  (case k9=>k_is)
  (case a10=>k_is)
  (case l10=>k_is)
  (case c10=>k_is)
  (case k10=>k_is)
  (case a11=>k_is)
  (case l11=>k_is)
  (case c11=>k_is)
  (case k11=>k_is)
  (case a12=>k_is)
  (case l12=>k_is)
  (case c12=>k_is)
  (case k12=>k_is)
  (case a13=>k_is)
  (case l13=>k_is)
  (case c13=>k_is)
  (case k13=>k_is)
  (case a14=>k_is)
  (case l14=>k_is)
  (case c14=>k_is)
  (case k14=>k_is)
  (case a15=>k_is)
  (case l15=>k_is)
  (case c15=>k_is)
  (case k15=>k_is)
  (case a16=>k_is)
  (case l16=>k_is)
  (case c16=>k_is)
  (case k16=>k_is)
  (case a17=>k_is)
  (case l17=>k_is)
  (case c17=>k_is)
  (case k17=>k_is)
  (case a18=>k_is)
  (case l18=>k_is)
  (case c18=>k_is)
  (case k18=>k_is)
  (case a19=>k_is)
  (case l19=>k_is)
  (case c19=>k_is)
  (case k19=>k_is)
  (case a20=>k_is)
  (case l20=>k_is)
  (case c20=>k_is)
  (case k20=>k_is)
  (case a21=>k_is)
  (case l21=>k_is)
  (case c21=>k_is)
  (case k21=>k_is)
  (case a22=>k_is)
  (case l22=>k_is)
  (case c22=>k_is)
  (case k22=>k_is)
  (case a23=>k_is)
  (case l23=>k_is)
  (case c23=>k_is)
  (case k23=>k_is)
  (case a24=>k_is)
  (case l24=>k_is)
  (case c24=>k_is)
  (case k24=>k_is)
  (case a25=>k_is)
  (case l25=>k_is)
  (case c25=>k_is)
  (case k25=>k_is)
  (case a26=>k_is)
  (case l26=>k_is)
  (case c26=>k_is)
  (case k26=>k_is)
  (case a27=>k_is)
  (case l27=>k_is)
  (case c27=>k_is)
  (case k27=>k_is)
  (case a28=>k_is)
  (case l28=>k_is)
  (case c28=>k_is)
  (case k28=>k_is)
  (case a29=>k_is)
  (case l29=>k_is)
  (case c29=>k_is)
  (case k29=>k_is)
  (case a30=>k_is)
  (case l30=>k_is)
  (case c30=>k_is)
  (case k30=>k_is)
  (case a31=>k_is)
  (case l31=>k_is)
  (case c31=>k_is)
  (case k31=>k_is)
  (case a32=>k_is)
  (case l32=>k_is)
  (case c32=>k_is)
  (case k32=>k_is)
  (case a33=>k_is)
  (case l33=>k_is)
  (case c33=>k_is)
  (case k33=>k_is)
  (case a34=>k_is)
  (case l34=>k_is)
  (case c34=>k_is)
  (case k34=>k_is)
  (case a35=>k_is)
  (case l35=>k_is)
  (case c35=>k_is)
  (case k35=>k_is)
  (case a36=>k_is)
  (case l36=>k_is)
  (case c36=>k_is)
  (case k36=>k_is)
  (case a37=>k_is)
  (case l37=>k_is)
  (case c37=>k_is)
  (case k37=>k_is)
  (case a38=>k_is)
  (case l38=>k_is)
  (case c38=>k_is)
  (case k38=>k_is)
  (case a39=>k_is)
  (case l39=>k_is)
  (case c39=>k_is)
  (case k39=>k_is)
  (case a40=>k_is)
  (case l40=>k_is)
  (case c40=>k_is)
  (case k40=>k_is)
  (case a41=>k_is)
  (case l41=>k_is)
  (case c41=>k_is)
  (case k41=>k_is)
  (case a42=>k_is)
  (case l42=>k_is)
  (case c42=>k_is)
  (case k42=>k_is)
  (case a43=>k_is)
  (case l43=>k_is)
  (case c43=>k_is)
  (case k43=>k_is)
  (case a44=>k_is)
  (case l44=>k_is)
  (case c44=>k_is)
  (case k44=>k_is)
  (case a45=>k_is)
  (case l45=>k_is)
  (case c45=>k_is)
  (case k45=>k_is)
  (case a46=>k_is)
  (case l46=>k_is)
  (case c46=>k_is)
  (case k46=>k_is)
  (case a47=>k_is)
  (case l47=>k_is)
  (case c47=>k_is)
  (case k47=>k_is)
  (case a48=>k_is)
  (case l48=>k_is)
  (case c48=>k_is)
  (case k48=>k_is)
  (case a49=>k_is)
  (case l49=>k_is)
  (case c49=>k_is)
  (case k49=>k_is)
  (case z_all=>k_is)
  (case z_bool=>k_is)
  (case z_dict=>k_is)
  (case z_enumerate=>k_is)
  (case z_int=>k_is)
  (case z_isinstance=>k_is)
  (case z_len=>k_is)
  (case z_list=>k_is)
  (case z_max=>k_is)
  (case z_min=>k_is)
  (case z_range=>k_is)
  (case z_set=>k_is)
  (case z_sorted=>k_is)
  (case z_sum=>k_is)
  (case z_tuple=>k_is)
  (case z_zip=>k_is)
  (case x_MOST_BENCHES=>k_is)
  (case x_MOST_WORKS=>k_is)
  (case x_MOST_LENGTH=>k_is)
  (case x_MOST_LENGTHS_GONE_THROUGH=>k_is)
  (case x_NoWorld=>k_is)
  (case q_NoWorld=>k_exc)
  (case x_NoOrder=>k_is)
  (case q_NoOrder=>k_exc)
  (case x_NoLengths=>k_is)
  (case q_NoLengths=>k_exc)
  (case x_NoWork=>k_is)
  (case q_NoWork=>k_exc)
  (case x_Never=>k_is)
  (case q_Never=>k_exc)
  (case x_TooMany=>k_is)
  (case q_TooMany=>k_exc)
