import PyProof.Rows.All
import Wide.All
import OpenK.AllK
import Wide.FinOn
import Lean
import PyProof.EqAt
import PyProof.EqKinds
import PyProof.TupleCall
import PyProof.NeKinds
import PyProof.ZipIter
import PyProof.ListRange
import PyProof.TupleOfSeq
import PyProof.ConsumeWalk
import PyProof.IsRules
import PyProof.SetKind
import PyProof.SetRoads
import PyProof.Rows.SetFrom
import PyProof.Draws
import PyProof.EnumMake
import PyProof.DictCompW
import PyProof.ListMulRoad
import PyProof.Rows.SeqMore2
import PyProof.WalkInts
import PyProof.DictRoadsH
import PyProof.DictItems
import KE.KDictList
import PySem.Challenge.RW_bringhome_k24_ladders_shown
namespace PySem.W.Fast
def tw896364334733994137:=0
def tw440976192639258285:=0
def tw974428791998030413:=0
def tw5769825665249000468:=0
def tw13407031475671285157:=0
def tw9612822812207939102:=0
def tw9448405846318748377:=0
def tw14449901249338915021:=0
def tw15071060528980914096:=0
def tw5788201775795494318:=0
def tw6638539103206900559:=0
def tw6516576092812748318:=0
def tw13790619709350144885:=0
def tw14705444467522390481:=0
def tw7745615683222570971:=0
def tw11227432406445959843:=0
def tw17252477884681827003:=0
def tw354012414447932215:=0
def tw17131630419433395812:=0
def tw5727422898729980847:=0
def tw4167423557655910140:=0
def tw16256935907665535088:=0
def tw6026075536688979782:=0
def tw1906481019395986882:=0
def tw17727769692571699796:=0
def tw13654134424386152797:=0
def tw2193527641405820335:=0
def tw2872604711758341373:=0
def tw7365158743621201269:=0
def tw4741561406016451038:=0
def tw245336048286327798:=0
def tw14850575977267048587:=0
def tw17888618926948905085:=0
def tw6379755756291387172:=0
def tw5351042548492429445:=0
def tw1838326224264069980:=0
def tw3531280775679790753:=0
def tw16861733690362321401:=0
def tw11705998440518106422:=0
def tw1952059980298583974:=0
end PySem.W.Fast
section
open PySem PySem.Spec PyProof.Rows
theorem zWk:type_of% @wpAny_bind:=@wpAny_bind
theorem zWl:type_of% @Heap.get?_push_of_some:=@Heap.get?_push_of_some
theorem zWm:type_of% @wpAny_pure:=@wpAny_pure
theorem zWn:type_of% @List.getElem?_eq_some_iff:=@List.getElem?_eq_some_iff
theorem zWo:type_of% @List.getElem?_eq_getElem:=@List.getElem?_eq_getElem
theorem zWp:type_of% @List.getD_eq_getElem?_getD:=@List.getD_eq_getElem?_getD
theorem zWq:type_of% @Nat.le_refl:=@Nat.le_refl
theorem zWr:type_of% @List.getElem?_append_left:=@List.getElem?_append_left
theorem zWs:type_of% @List.size_toArray:=@List.size_toArray
theorem zWt:type_of% @List.length_map:=@List.length_map
theorem zWu:type_of% @Heap.get?_push_size:=@Heap.get?_push_size
theorem zWv:type_of% @Heap.lt_size:=@Heap.lt_size
theorem zWw:type_of% @List.mem_cons:=@List.mem_cons
theorem zWx:type_of% @List.mem_cons_of_mem:=@List.mem_cons_of_mem
theorem zWy:type_of% @List.mem_cons_self:=@List.mem_cons_self
theorem zWz:type_of% @if_pos:=@if_pos
theorem zW0:type_of% @List.length_append:=@List.length_append
theorem zW1:type_of% @List.mem_map:=@List.mem_map
theorem zW2:type_of% @if_neg:=@if_neg
theorem zW3:type_of% @List.map_cons:=@List.map_cons
theorem zW4:type_of% @List.mem_append_right:=@List.mem_append_right
theorem zW5:type_of% @Nat.ne_of_lt:=@Nat.ne_of_lt
theorem zW6:type_of% @Bool.false_ne_true:=@Bool.false_ne_true
theorem zW7:type_of% @List.getElem?_map:=@List.getElem?_map
theorem zW8:type_of% @List.map_map:=@List.map_map
theorem zW9:type_of% @Nat.lt_of_lt_of_le:=@Nat.lt_of_lt_of_le
theorem zXA:type_of% @List.mem_append:=@List.mem_append
theorem zXB:type_of% @Nat.le_trans:=@Nat.le_trans
theorem zXC:type_of% @List.mem_singleton:=@List.mem_singleton
theorem zXD:type_of% @wpAny_newObj_type:=@wpAny_newObj_type
theorem zXE:type_of% @List.getElem?_set_ne:=@List.getElem?_set_ne
theorem zXF:type_of% @List.not_mem_nil:=@List.not_mem_nil
theorem zXG:type_of% @wpAny_mono:=@wpAny_mono
theorem zXH:type_of% @List.length_cons:=@List.length_cons
theorem zXI:type_of% @List.getElem_mem:=@List.getElem_mem
theorem zXJ:type_of% @decide_eq_false:=@decide_eq_false
theorem zXK:type_of% @Bool.and_eq_true:=@Bool.and_eq_true
theorem zXL:type_of% @List.all_eq_true:=@List.all_eq_true
theorem zXM:type_of% @wpAny_callSpecial?_slot:=@wpAny_callSpecial?_slot
theorem zXN:type_of% @wpAny_call_entry:=@wpAny_call_entry
theorem zXO:type_of% @List.mem_range:=@List.mem_range
theorem zXP:type_of% @wpAny_field:=@wpAny_field
theorem zXQ:type_of% @Heap.size_push:=@Heap.size_push
theorem zXR:type_of% @Heap.get?_update_other:=@Heap.get?_update_other
theorem zXS:type_of% @Nat.lt_irrefl:=@Nat.lt_irrefl
theorem zXT:type_of% @Array.length_toList:=@Array.length_toList
theorem zXU:type_of% @List.append_nil:=@List.append_nil
theorem zXV:type_of% @Array.getElem?_eq_getElem:=@Array.getElem?_eq_getElem
theorem zXW:type_of% @Nat.zero_le:=@Nat.zero_le
theorem zXX:type_of% @Heap.get?_update_self:=@Heap.get?_update_self
theorem zXZ:type_of% @Nat.lt_succ_of_lt:=@Nat.lt_succ_of_lt
theorem zXa:type_of% @wpAny_seqItems:=@wpAny_seqItems
theorem zXc:type_of% @List.map_append:=@List.map_append
theorem zXd:type_of% @wpAny_holding:=@wpAny_holding
theorem zXe:type_of% @List.getElem?_set_self:=@List.getElem?_set_self
theorem zXg:type_of% @of_decide_eq_true:=@of_decide_eq_true
theorem zXh:type_of% @Nat.lt_succ_self:=@Nat.lt_succ_self
theorem zXi:type_of% @wpAny_standAt:=@wpAny_standAt
theorem zXj:type_of% @PySem.W.mg_none_of:=@PySem.W.mg_none_of
theorem zXk:type_of% @Option.some.inj:=@Option.some.inj
theorem zXl:type_of% @Bool.false_eq_true:=@Bool.false_eq_true
theorem zXm:type_of% @PySem.mem_of_lookup:=@PySem.mem_of_lookup
theorem zXn:type_of% @Heap.SameBut.update:=@Heap.SameBut.update
theorem zXo:type_of% @List.cons.inj:=@List.cons.inj
theorem zXq:type_of% @List.append_assoc:=@List.append_assoc
theorem zXs:type_of% @decide_eq_true:=@decide_eq_true
theorem zXu:type_of% @List.getElem?_append_right:=@List.getElem?_append_right
theorem zXv:type_of% @List.mem_filter:=@List.mem_filter
theorem zXw:type_of% @wpAny_truthy_bool:=@wpAny_truthy_bool
theorem zXx:type_of% @decide_eq_true_eq:=@decide_eq_true_eq
theorem zXy:type_of% @List.nodup_append:=@List.nodup_append
theorem zXz:type_of% @List.mem_append_left:=@List.mem_append_left
theorem zX0:type_of% @wpAny_setField_rec:=@wpAny_setField_rec
theorem zX1:type_of% @Obj.data_mapFields:=@Obj.data_mapFields
theorem zX5:type_of% @or_false:=@or_false
theorem zX7:type_of% @wpAny_rule:=@wpAny_rule
theorem zX8:type_of% @List.length_take:=@List.length_take
theorem zYD:type_of% @PassesOwn.never:=@PassesOwn.never
theorem zYF:type_of% @Nat.ne_of_gt:=@Nat.ne_of_gt
theorem zYI:type_of% @PyProof.Rows.slot_tuple_getitem:=@PyProof.Rows.slot_tuple_getitem
theorem zYJ:type_of% @List.getElem?_set:=@List.getElem?_set
theorem zYM:type_of% @Nat.mul_le_mul:=@Nat.mul_le_mul
theorem zYN:type_of% @PySem.W.kia_one:=@PySem.W.kia_one
theorem zYS:type_of% @Nat.le_succ:=@Nat.le_succ
theorem zYV:type_of% @wpAny_setField:=@wpAny_setField
theorem zYW:type_of% @List.find?_cons:=@List.find?_cons
theorem zYe:type_of% @wpAny_comprehension_free:=@wpAny_comprehension_free
theorem zYh:type_of% @List.length_range:=@List.length_range
theorem zYp:type_of% @List.lookup_cons:=@List.lookup_cons
theorem zZD:type_of% @List.length_drop:=@List.length_drop
end
set_option Elab.async false
set_option linter.all false
set_option maxRecDepth 100000
set_option genSizeOf false
set_option genInjectivity false
noncomputable section
namespace L2
open PySem PySem.Spec PyProof.Rows
abbrev Key:=Sum Int Str
def zJe:Key->Value->Bool
 |.inl k,v=>Value.isInt k v
 |.inr x,v=>Value.isStrOf x v
def zWi (w:World):Key->Int
 |.inl k=>hashInt k
 |.inr x=>hashStr w x
theorem zBF:∀ {k:Key} {v:Value},zJe k v=true->(∃ i t,k=Sum.inl i/\v=Value.int i t)\/(∃ x t,k=Sum.inr x/\v=Value.str x t)
 |.inl i,v,h=>by
  obtain ⟨t,e⟩:=Value.isInt_shape (k:=i) (v:=v) h;exact .inl ⟨i,t,rfl,e⟩
 |.inr x,v,h=>by
  obtain ⟨t,e⟩:=Value.isStrOf_shape (x:=x) (v:=v) h;exact .inr ⟨x,t,rfl,e⟩
theorem zOl (i:Int) (t:Tok):zJe (.inl i) (.int i t)=true:=by simp[zJe,Value.isInt]
theorem zPG (x:Str) (t:Tok):zJe (.inr x) (.str x t)=true:=by simp[zJe,Value.isStrOf]
theorem zUw (a b:Int):decide ((Sum.inl a:Key)=Sum.inl b)=(a==b):=by
 by_cases e:a=b
 ·subst e;simp
 ·have h:¬ (Sum.inl a:Key)=Sum.inl b:=fun q=>e (Sum.inl.inj q);rw[zXJ h];exact (beq_eq_false_iff_ne.mpr e).symm
theorem zUM (a b:Str):decide ((Sum.inr a:Key)=Sum.inr b)=decide (a=b):=by
 by_cases e:a=b
 ·subst e;simp
 ·have h:¬ (Sum.inr a:Key)=Sum.inr b:=fun q=>e (Sum.inr.inj q);rw[zXJ h,zXJ e]
theorem zUP (a:Int) (b:Str):decide ((Sum.inl a:Key)=Sum.inr b)=false:=zXJ (fun q=>nomatch q)
theorem zT6 (a:Str) (b:Int):decide ((Sum.inr a:Key)=Sum.inl b)=false:=zXJ (fun q=>nomatch q)
def zA0 (prog:Program) (w:World):PySem.KeyKind prog w Key where
 is:=zJe
 hash:=zWi w
 inj:=fun v a b ha hb=>by
  rcases zBF ha with ⟨i,t,rfl,rfl⟩|⟨x,t,rfl,rfl⟩
  ·rcases zBF hb with ⟨j,u,rfl,e⟩|⟨y,u,rfl,e⟩
   ·injection e with e1 _;rw[e1]
   ·exact nomatch e
  ·rcases zBF hb with ⟨j,u,rfl,e⟩|⟨y,u,rfl,e⟩
   ·exact nomatch e
   ·injection e with e1 _;rw[e1]
 byValue:=fun k v h=>by
  rcases zBF h with ⟨i,t,rfl,rfl⟩|⟨x,t,rfl,rfl⟩ <;> rfl
 pyHash:=fun hv h=>by
  rcases zBF hv with ⟨i,t,rfl,rfl⟩|⟨x,t,rfl,rfl⟩
  ·exact wpAny_pyHash_int h
  ·exact wpAny_pyHash_str h
 eqBool:=fun hu hv h=>by
  rcases zBF hu with ⟨i,t,rfl,rfl⟩|⟨x,t,rfl,rfl⟩
  ·rcases zBF hv with ⟨j,u,rfl,rfl⟩|⟨y,u,rfl,rfl⟩
   ·rw[zUw]at h;exact wpAny_eqBool_int h
   ·rw[zUP]at h;exact SeqAt.EqAt.int_str i t y u _ _ _ _ h
  ·rcases zBF hv with ⟨j,u,rfl,rfl⟩|⟨y,u,rfl,rfl⟩
   ·rw[zT6]at h;exact SeqAt.EqAt.str_int x t j u _ _ _ _ h
   ·rw[zUM]at h;exact wpAny_eqBool_str h
 «strs»:=fun k x t v h=>by
  rcases zBF h with ⟨i,u,rfl,e⟩|⟨y,u,rfl,e⟩
  ·exact nomatch e
  ·injection e with e1 _
   subst e1
   cases v <;> rfl
theorem zLu (prog:Program) (w:World) (i:Int) (t:Tok):(zA0 prog w).is (.inl i) (.int i t)=true:=zOl i t
theorem zMJ (prog:Program) (w:World) (x:Str) (t:Tok):(zA0 prog w).is (.inr x) (.str x t)=true:=zPG x t
set_option genInjectivity true in
inductive V where
 |non|bl (b:Bool)|int (i:Int)|str (x:Str)|byt (b:Array UInt8)|flt (b:UInt64)|ref (a:Addr)|ty (n:String)
 deriving DecidableEq
def zAT:V->Value->Prop
 |.non,u=>u=Value.none
 |.bl b,u=>u=Value.bool b
 |.int i,u=>∃ t,u=Value.int i t
 |.str x,u=>∃ t,u=Value.str x t
 |.byt b,u=>∃ t,u=Value.bytes b t
 |.flt b,u=>∃ t,u=Value.float b t
 |.ref a,u=>u=Value.ref a
 |.ty n,u=>u=Value.type n
abbrev zy:List V->List Value->Prop:=Paired zAT
theorem zy.length {xs:List V} {us:List Value} (r:zy xs us):xs.length=us.length:=Paired.length r
theorem zy.get:∀ {xs:List V} {us:List Value} {i:Nat} {x:V},zy xs us->xs[i]?=some x -> ∃ u,us[i]?=some u/\zAT x u
 |_,_,_,_,.nil,e=>by simp at e
 |_,_,0,_,.cons r _,e=>by simp at e;subst e;exact ⟨_,rfl,r⟩
 |_,_,i+1,x,.cons _ t,e=>by
  obtain ⟨u,h1,h2⟩:=zy.get (i:=i) (x:=x) t (by simpa using e);exact ⟨u,by simpa using h1,h2⟩
theorem zy.set {x:V} {u:Value} (r:zAT x u):∀ {xs:List V} {us:List Value} (i:Nat),zy xs us->zy (xs.set i x) (us.set i u)
 |_,_,_,.nil=> .nil
 |_,_,0,.cons _ t=> .cons r t
 |_,_,i+1,.cons q t=> .cons q (zy.set r i t)
theorem zy.append:∀ {xs ys:List V} {us ws:List Value},zy xs us->zy ys ws->zy (xs++ys) (us++ws)
 |_,_,_,_,.nil,s=>s
 |_,_,_,_,.cons r t,s=> .cons r (zy.append t s)
theorem zy.take:∀ {xs:List V} {us:List Value} (n:Nat),zy xs us->zy (xs.take n) (us.take n)
 |_,_,0,_=> .nil
 |_,_,_+1,.nil=> .nil
 |_,_,n+1,.cons r t=> .cons r (zy.take n t)
theorem zy.drop:∀ {xs:List V} {us:List Value} (n:Nat),zy xs us->zy (xs.drop n) (us.drop n)
 |_,_,0,r=>r
 |_,_,_+1,.nil=> .nil
 |_,_,n+1,.cons _ t=>zy.drop n t
def zG6:Option V->Option Value->Prop
 |some v,some u=>zAT v u
 |none,none=>True
 |_,_=>False
def KV {κ:Type}:List (κ × V)->List (κ × Value)->Prop:=Paired fun (p:κ × V) (q:κ × Value)=>p.1=q.1/\zAT p.2 q.2
def kV:Key->V
 |.inl i=> .int i
 |.inr x=> .str x
set_option genInjectivity true in
inductive HO where
 |lst (xs:List V)
 |tup (xs:List V)
 |dK (kvs:List (Key × V))|dT (kvs:List (List Key × V))
 |set (S:Int->Bool) (n:Nat)
 |ins (C dx:Addr) (fs:List (Str × V))
 |own (x:Addr)
 |xd (fs:List (Str × V))
 |met (f x:Addr)
 |rng (lo hi:Int)
 |frz (o:Obj) (u:HO)
 |tbl (ps:Array Value)
 |ext (φ:Heap->Prop)
abbrev Hp:=Addr->Option HO
def upd (H:Hp) (a:Addr) (o:HO):Hp:=fun b=>if b=a then some o else H b
theorem zAh {H:Hp} {a:Addr} {o:HO}:upd H a o a=some o:=by unfold upd;rw[zWz rfl]
theorem zn {H:Hp} {a b:Addr} {o:HO} (h:b≠a):upd H a o b=H b:=by unfold upd;rw[zW2 h]
theorem zH6 {H:Hp} {a b:Addr} {o u:HO} (h:H a=some o) (h':H b=some u) (d:o≠u):a≠b:=by
 intro e;subst e;rw[h]at h';exact d (zXk h')
theorem zAa {H:Hp} {a b:Addr} {o:HO} (h:H a=some o) (h':H b=none):a≠b:=by
 intro e;subst e;rw[h]at h';cases h'
def zDT (h:Heap) (a:Addr) (items:Array Value):Prop:=∃ o,h.get? a=some o/\o.cls=.type "tuple" /\ (∃ n,o.data=.seq items n)/\o.dict=none
theorem zDT.tup {h:Heap} {a:Addr} {items:Array Value} (x:zDT h a items):IsTup h a items:=let ⟨o,e,c,d,_⟩:=x;⟨o,e,c,d⟩
theorem zDT.lt {h:Heap} {a:Addr} {items:Array Value} (x:zDT h a items):a<h.objs.size:=let ⟨_,e,_⟩:=x;zWv e
theorem zDT.new (h:Heap) (items:Array Value):zDT (h.push { cls:=.type "tuple", data:=.seq items }) h.objs.size items:=⟨_,zWu _ rfl,rfl,⟨_,rfl⟩,rfl⟩
section
variable (P:Program) (w:World)
def zAl (H:Hp) (h:Heap) (a:Addr):HO->Prop
 |.lst xs=>xs.length<=sizeLine /\ ∃ (its:List Value) (n:Nat),zy xs its/\h.get? a=some { cls:=.type "list", data:=.seq its.toArray n }
 |.tup xs=>xs.length<=sizeLine /\ ∃ its:List Value,zy xs its/\zDT h a its.toArray
 |.dK kvs=>kvs.length<=sizeLine/\(a==sysModules)=false /\ ∃ vs,KV kvs vs/\h.DictOf (zA0 P w) a vs
 |.dT kvs=>kvs.length<=sizeLine/\(a==sysModules)=false /\ ∃ xs:List (List Key × Addr × Value),
   Paired (fun (p:List Key × V) (q:List Key × Addr × Value)=>p.1=q.1/\H q.2.1=some (.tup (p.1.map kV))/\zAT p.2 q.2.2) kvs xs /\
   ∃ o es ep,h.get? a=some o/\o.ExactDict/\o.data=.dict es ep/\es.toList=xs.map (entryOfKey (tupleKind (zA0 P w)))/\(xs.map (·.1)).Nodup
 |.set S n=>h.SetOf (intKind P w) a S n
 |.ins C dx fs=>H dx=some (.own a)/\fs.length<=1000/\dx≠a/\h.get? a=some (PySem.W.instObj C dx) /\
   ∃ mA,h.Ns1 dx mA/\(∀ f,zG6 (fs.lookup f) (mA f))/\PySem.Within mA (fs.map (·.1))
 |.own _=>∃ o,h.get? a=some o
 |.xd fs=>∃ mA,h.Ns1 a mA /\ ∀ f,zG6 (fs.lookup f) (mA f)
 |.rng lo hi=>∃ t u v,h.get? a=some { cls:=.type "range", data:=.fields #[.int lo t,.int hi u,.int 1 v] }
 |.frz o u=>h.get? a=some o/\zAl H h a u
 |.tbl ps=>h.get? a=some { cls:=.none,data:=.fields ps }
 |.met f x=>h.get? a=some (PySem.W.methodObj (.ref f) (.ref x))
 |.ext φ=>φ h/\(∃ o,h.get? a=some o) /\ ∀ h1 h2:Heap,φ h1->(∀ o,h1.get? a=some o->h2.get? a=some o)->φ h2
def HOk (H:Hp) (h:Heap):Prop:=∀ a o,H a=some o->zAl P w H h a o
end
section
variable {P:Program} {w:World} {H H':Hp} {h h':Heap} {a:Addr} {o:HO}
theorem zAl.lt (x:zAl P w H h a o):a<h.objs.size:=by
 cases o with
 |lst xs=>obtain ⟨_,_,_,_,e⟩:=x;exact zWv e
 |tup xs=>obtain ⟨_,_,_,p⟩:=x;exact p.lt
 |dK kvs=>obtain ⟨_,_,_,_,o,_,_,e,_⟩:=x;exact zWv e
 |dT kvs=>obtain ⟨_,_,_,_,o,_,_,e,_⟩:=x;exact zWv e
 |set S n=>obtain ⟨o,_,_,_,e,_⟩:=x;exact zWv e
 |ins C dx fs=>obtain ⟨_,_,_,e,_⟩:=x;exact zWv e
 |own y=>obtain ⟨_,e⟩:=x;exact zWv e
 |xd fs=>obtain ⟨_,⟨_,_,_,e,_⟩,_⟩:=x;exact zWv e
 |rng lo hi=>obtain ⟨_,_,_,e⟩:=x;exact zWv e
 |frz ob u=>obtain ⟨e,_⟩:=x;exact zWv e
 |tbl ps=>exact zWv (show h.get? a=some _ from x)
 |met f y=>exact zWv (show h.get? a=some _ from x)
 |ext φ=>obtain ⟨_,⟨_,e⟩,_⟩:=x;exact zWv e
theorem Paired.mapP {α β:Type} {F G:α->β->Prop}:∀ {l₁:List α} {l₂:List β},Paired F l₁ l₂->(∀ a b,F a b->G a b)->Paired G l₁ l₂
 |_,_,.nil,_=> .nil
 |_,_,.cons r t,f=> .cons (f _ _ r) (Paired.mapP t f)
theorem zAl.stay (x:zAl P w H h a o) (k:∀ b u,(b=a\/H b=some (.own a))->h.get? b=some u->h'.get? b=some u)
  (ho:∀ b,H b=some (.own a)->H' b=some (.own a)) (ht:∀ b xs,H b=some (.tup xs)->H' b=some (.tup xs)):zAl P w H' h' a o:=by
 induction o with
 |lst xs=>obtain ⟨z,its,n,r,e⟩:=x;exact ⟨z,its,n,r,k _ _ (.inl rfl) e⟩
 |tup xs=>obtain ⟨z,its,r,ob,e,c⟩:=x;exact ⟨z,its,r,ob,k _ _ (.inl rfl) e,c⟩
 |dK kvs=>obtain ⟨z,y,vs,r,ob,es,ep,e,c⟩:=x;exact ⟨z,y,vs,r,ob,es,ep,k _ _ (.inl rfl) e,c⟩
 |dT kvs=>
  obtain ⟨z,y,xs,r,ob,es,ep,e,c⟩:=x;exact ⟨z,y,xs,Paired.mapP r fun p q z=>⟨z.1,ht _ _ z.2.1,z.2.2⟩,ob,es,ep,k _ _ (.inl rfl) e,c⟩
 |set S n=>obtain ⟨ob,es,ep,t,e,c⟩:=x;exact ⟨ob,es,ep,t,k _ _ (.inl rfl) e,c⟩
 |ins C dx fs=>
  obtain ⟨d,z,ne,e,mA,⟨od,es,ep,e2,c⟩,r⟩:=x;exact ⟨ho _ d,z,ne,k _ _ (.inl rfl) e,mA,⟨od,es,ep,k _ _ (.inr d) e2,c⟩,r⟩
 |own y=>obtain ⟨ob,e⟩:=x;exact ⟨ob,k _ _ (.inl rfl) e⟩
 |xd fs=>obtain ⟨mA,⟨od,es,ep,e,c⟩,r⟩:=x;exact ⟨mA,⟨od,es,ep,k _ _ (.inl rfl) e,c⟩,r⟩
 |rng lo hi=>obtain ⟨t,u,v,e⟩:=x;exact ⟨t,u,v,k _ _ (.inl rfl) e⟩
 |frz ob u ih=>obtain ⟨e,q⟩:=x;exact ⟨k _ _ (.inl rfl) e,ih q⟩
 |tbl ps=>
  have e:h.get? a=some { cls:=.none,data:=.fields ps }:=x;show h'.get? a=some { cls:=.none,data:=.fields ps };exact k a _ (.inl rfl) e
 |met f y=>
  have e:h.get? a=some (PySem.W.methodObj (.ref f) (.ref y)):=x;show h'.get? a=some (PySem.W.methodObj (.ref f) (.ref y));exact k a _ (.inl rfl) e
 |ext φ=>obtain ⟨p,⟨o,e⟩,st⟩:=x;exact ⟨st _ _ p fun o q=>k _ _ (.inl rfl) q,⟨o,k _ _ (.inl rfl) e⟩,st⟩
theorem HOk.lt (x:HOk P w H h) (e:H a=some o):a<h.objs.size:=(x a o e).lt
theorem HOk.fresh (x:HOk P w H h) (e:h.objs.size<=a):H a=none:=by
 cases q:H a with
 |none=>rfl
 |some u=>exact absurd (zW9 (x.lt q) e) (zXS _)
theorem HOk.kept (x:HOk P w H h) (k:∀ b u,h.get? b=some u->h'.get? b=some u):HOk P w H h':=fun a o e=>
 (x a o e).stay (fun b u _ q=>k b u q) (fun _ q=>q) fun _ _ q=>q
theorem HOk.laid (x:HOk P w H h) (k:∀ b u,h.get? b=some u->h'.get? b=some u) (hp:h.objs.size<=a) (new:zAl P w (upd H a o) h' a o):HOk P w (upd H a o) h':=fun b u e=>by
 have hn:=x.fresh hp;by_cases hb:b=a
 ·subst hb;rw[zAh]at e;cases e;exact new
 ·rw[zn hb]at e;exact (x b u e).stay (fun c v _ q=>k c v q) (fun c q=>by rw[zn (zAa q hn)];exact q) fun c xs q=>by rw[zn (zAa q hn)];exact q
end
def Rd (H:Hp) (a:Addr) (u:HO):Prop:=H a=some u \/ ∃ o,H a=some (.frz o u)
theorem Rd.ok {P:Program} {w:World} {H:Hp} {h:Heap} {a:Addr} {u:HO} (r:Rd H a u) (x:HOk P w H h):zAl P w H h a u:=by
 rcases r with r|⟨o,r⟩
 ·exact x a u r
 ·obtain ⟨_,q⟩:=x a _ r;exact q
def Mut:Option HO->Prop
 |some (.lst _)=>True
 |some (.dK _)=>True
 |some (.dT _)=>True
 |some (.set _ _)=>True
 |some (.ins _ _ _)=>True
 |some (.ext _)=>True
 |_=>False
section
variable {P:Program} {w:World} {H:Hp} {h h':Heap} {x e:Addr} {o':HO}
theorem HOk.write (ok:HOk P w H h) (mu:Mut (H x)) (he:e=x\/H e=some (.own x)) (k:∀ b u,b≠e->h.get? b=some u->h'.get? b=some u) (heo:∃ u,h'.get? e=some u)
  (new:zAl P w (upd H x o') h' x o'):HOk P w (upd H x o') h':=fun b u q=>by
 have nown:∀ c y,H c=some (.own y)->c≠x:=fun c y r z=>by subst z;rw[r]at mu;exact mu
 have ntup:∀ c xs,H c=some (.tup xs)->c≠x:=fun c xs r z=>by subst z;rw[r]at mu;exact mu
 by_cases hb:b=x
 ·subst hb;rw[zAh]at q;cases q;exact new
 ·rw[zn hb]at q;by_cases hbe:b=e
  ·have q':H b=some (.own x):=by
    rcases he with z|z
    ·exact absurd (hbe.trans z) hb
    ·rw[hbe];exact z
   rw[q]at q';cases q';obtain ⟨v,hv⟩:=heo;exact ⟨v,by rw[hbe];exact hv⟩
  ·refine (ok b u q).stay (fun c v hc r=>k c v ?_ r) (fun c r=>by rw[zn (nown c b r)];exact r) fun c xs r=>by rw[zn (ntup c xs r)];exact r
   rcases hc with rfl|hc
   ·exact hbe
   ·rintro rfl;rcases he with z|z
    ·exact nown c b hc z
    ·rw[hc]at z;cases z;exact hb rfl
end
structure Un (fs ex:List Addr) (H H':Hp) (h h':Heap):Prop where
 keep:∀ b o,h.get? b=some o->H b=none->b∉fs->b∉ex->h'.get? b=some o
 slot:∀ b o,h.get? b=some o->H b=none->b∈fs->b∉ex -> ∃ sl,h'.get? b=some { o with slots:=sl }
 free:∀ b o,h.get? b=some o->H b=none->b∉ex->H' b=none
 there:∀ b o,h.get? b=some o->b∉ex -> ∃ o',h'.get? b=some o'
 tups:∀ b xs,H b=some (.tup xs)->H' b=some (.tup xs)
 frzs:∀ b o u,H b=some (.frz o u)->H' b=some (.frz o u)
 tbls:∀ b ps,H b=some (.tbl ps) -> ∃ more,H' b=some (.tbl (ps++more))
section
variable {fs fs' ex ex':List Addr} {H H1 H2:Hp} {h h1 h2 h':Heap} {a x e:Addr} {o:HO}
theorem Un.any (u:Un fs ex H H1 h h1) {b:Addr} {ob:Obj} (q:h.get? b=some ob) (n:H b=none) (hx:b∉ex):∃ sl,h1.get? b=some { ob with slots:=sl }:=by
 by_cases hb:b∈fs
 ·exact u.slot b ob q n hb hx
 ·exact ⟨ob.slots,u.keep b ob q n hb hx⟩
theorem Un.kept (k:∀ b u,h.get? b=some u->h'.get? b=some u):Un fs ex H H h h' :=
 ⟨fun b ob q _ _ _=>k b ob q,fun b ob q _ _ _=>⟨ob.slots,k b ob q⟩,fun _ _ _ n _=>n,fun b ob q _=>⟨ob,k b ob q⟩,fun _ _ q=>q,fun _ _ _ q=>q,fun _ ps q=>⟨#[],by rw[q];simp⟩⟩
theorem Un.refl:Un fs ex H H h h:=Un.kept fun _ _ q=>q
theorem Un.laid (k:∀ b u,h.get? b=some u->h'.get? b=some u) (hp:h.objs.size<=a) (hn:H a=none):Un fs ex H (upd H a o) h h' where
 keep:=fun b u q _ _ _=>k b u q;slot:=fun b u q _ _ _=>⟨u.slots,k b u q⟩;free:=fun b u q n _=>by rw[zn (zW5 (zW9 (zWv q) hp))];exact n
 there:=fun b u q _=>⟨u,k b u q⟩;tups:=fun b xs q=>by rw[zn (zAa q hn)];exact q
 frzs:=fun b u xs q=>by rw[zn (zAa q hn)];exact q
 tbls:=fun b ps q=>⟨#[],by rw[zn (zAa q hn),q];simp⟩
theorem Un.write (mu:Mut (H x)) (he:e=x\/H e=some (.own x)) (k:∀ b u,b≠e->h.get? b=some u->h'.get? b=some u) (heo:∃ u,h'.get? e=some u):Un fs ex H (upd H x o) h h':=by
 have hx:∀ b,H b=none->b≠x:=fun b n z=>by subst z;rw[n]at mu;exact mu
 have hb:∀ b,H b=none->b≠e:=fun b n z=>by
  subst z;rcases he with r|r
  ·exact hx b n r
  ·rw[n]at r;cases r
 have hm:∀ b u,H b=some u -> ¬ Mut (some u)->b≠x:=fun b u q nm z=>by subst z;rw[q]at mu;exact nm mu
 refine ⟨fun b u q n _ _=>k b u (hb b n) q,fun b u q n _ _=>⟨u.slots,k b u (hb b n) q⟩,fun b u q n _=>by rw[zn (hx b n)];exact n,fun b u q _=>?_,
  fun b xs q=>by rw[zn (hm b _ q fun z=>z)];exact q,fun b u xs q=>by rw[zn (hm b _ q fun z=>z)];exact q,fun b ps q=>⟨#[],by rw[zn (hm b _ q fun z=>z),q];simp⟩⟩
 by_cases hbe:b=e
 ·subst hbe;exact heo
 ·exact ⟨u,k b u hbe q⟩
end
def trk (h:Heap) (H:Hp):List Addr:=(List.range h.objs.size).filter fun a=>(H a).isSome
def zKg (h:Heap) (H:Hp):Heap:=PySem.W.hideAll h (trk h H)
theorem zPf (h:Heap) (H:Hp):(zKg h H).objs.size=h.objs.size:=PySem.W.hideAll_size _ _
theorem zQ0 {h:Heap} {H:Hp} {b:Addr} {o:Obj} (e:h.get? b=some o) (n:H b=none):(zKg h H).get? b=some o :=
 PySem.W.hideAll_get _ e fun hm=>by
  have q:(H b).isSome=true:=(zXv.mp hm).2;rw[n]at q;simp at q
theorem zTO {h:Heap} {H:Hp} {b:Addr} {o:Obj} (e:(zKg h H).get? b=some o):h.get? b=some o/\H b=none:=by
 have e':h.get? b=some o:=PySem.W.of_hideAll (trk h H) e;refine ⟨e',?_⟩;cases q:H b with
 |none=>rfl
 |some x=>
  have hm:b∈trk h H:=zXv.mpr ⟨zXO.mpr (zWv e'),by simp[q]⟩;have z:(zKg h H).get? b=none:=PySem.W.hideAll_none (trk h H) hm;rw[z]at e;cases e
structure Mod (K:PySem.W.Frag) (mg:Str->Option Value) (base:Heap):Prop where
 kin:K.In base
 glob:base.Ns mainGlobals mg
 blt:∃ mb,base.Ns builtinsNs mb /\ ∀ x:Str,x ≠ "__name__" -> mb x=bootBuiltins x
 nolimit:base.NoLimit
structure Cx where
 prog:Program
 w:World
 K:PySem.W.Frag
 mg:Str->Option Value
 base:Heap
 A:Around
 N:List Str
 s₀:Shared
 H₀:Hp
 env:Env
 outer:List Env
 stack:List Env
 ex:List Addr
 fn:Str->Bool
 calm:Bool
 pn:List (Addr × Obj)
 xe:Value->Shared->Prop
def frs (l:List Env):List Addr:=l.filterMap (·.frame)
abbrev Cx.fs (X:Cx):List Addr:=frs X.outer
def Vis (sc:Scope) (x:Str):Prop:=sc.names.lookup x=some .local\/sc.names.lookup x=some .cell\/sc.names.lookup x=some .free
def Loc (sc:Scope) (x:Str):Prop:=sc.names.lookup x=some .local\/sc.names.lookup x=some .cell
def zWh (env:Env) (h:Heap) (m:Str->Option Value) (x:Str) (u:Value):Prop :=
 (env.kindOf x=some .local/\m x=some u)\/((env.kindOf x=some .cell\/env.kindOf x=some .free) /\ ∃ c,env.cells.lookup x=some c/\h.IsCell c (some u))
structure Cx.Ok (X:Cx):Prop where
 mod:Mod X.K X.mg X.base
 kind:X.env.scope.kind=.function
 glob:X.env.globals=mainGlobals
 blt:X.env.builtins=builtinsNs
 above:X.s₀.heap.objs.size<=X.env.locals
 inj:∀ x y c,X.env.cells.lookup x=some c->X.env.cells.lookup y=some c->x=y
 has:∀ x,(X.env.kindOf x=some .cell\/X.env.kindOf x=some .free) -> ∃ c,X.env.cells.lookup x=some c
 cab:∀ x c,X.fn x=true->X.env.cells.lookup x=some c->X.s₀.heap.objs.size<=c
 hd:X.calm=true->X.A.handled=none
 frames:X.A.frames=some X.stack
 stk:X.stack=X.outer\/(X.stack=X.env::X.outer/\X.env.frame=some X.env.locals)
 exf:∀ b∈X.ex,b≠X.env.locals /\ ∀ x c,X.env.cells.lookup x=some c->c≠b
 bs:∀ b o,X.base.get? b=some o->X.s₀.heap.get? b=some o/\X.H₀ b=none
 bsz:X.base.objs.size<=X.s₀.heap.objs.size
 noex:∀ b o,X.base.get? b=some o->b∉X.ex
 exfs:∀ b∈X.ex,b∉X.fs
 funs:X.s₀.heap.FunFrames X.base X.outer
 frf:∀ b∈X.fs,X.H₀ b=none
structure Inv (X:Cx) (zB:List (Addr × Obj)) (σ:List (Option V)) (H:Hp) (s:Shared):Prop where
 ok:X.Ok
 os:s.os=X.s₀.os
 bare:AllBare s.gens
 base:Un X.fs X.ex X.H₀ H X.s₀.heap s.heap
 loc:∃ m,s.heap.Ns X.env.locals m /\ ∀ (i:Nat) (x:Str) (v:V),X.N[i]?=some x->σ[i]?=some (some v)->Vis X.env.scope x -> ∃ u,zAT v u/\zWh X.env s.heap m x u
 cell:∀ x c,X.env.cells.lookup x=some c -> ∃ v,s.heap.IsCell c v
 free:H X.env.locals=none
 freeC:∀ x c,X.env.cells.lookup x=some c->H c=none
 pin:∀ p∈X.pn++zB,s.heap.get? p.1=some p.2/\H p.1=none/\p.1≠X.env.locals/\p.1∉X.fs /\ ∀ v,p.2.data≠.cell v
 hok:HOk X.prog X.w H s.heap
 len:σ.length=X.N.length
section
variable {X:Cx} {zB:List (Addr × Obj)} {σ:List (Option V)} {H H':Hp} {s:Shared} {h':Heap}
theorem Cx.Ok.nofr (ok:X.Ok) {b:Addr} {o:Obj} (e:X.base.get? b=some o):b∉X.fs:=fun hb=>by
 have:=(ok.funs.mem hb).1;rw[e]at this;cases this
theorem Inv.bs (I:Inv X zB σ H s):∀ b o,X.base.get? b=some o->s.heap.get? b=some o/\H b=none:=fun b o e=>
 ⟨I.base.keep b o (I.ok.bs b o e).1 (I.ok.bs b o e).2 (I.ok.nofr e) (I.ok.noex b o e),I.base.free b o (I.ok.bs b o e).1 (I.ok.bs b o e).2 (I.ok.noex b o e)⟩
theorem Inv.bk (I:Inv X zB σ H s):∀ b o,X.base.get? b=some o->s.heap.get? b=some o:=fun b o e=>(I.bs b o e).1
theorem Inv.mod (I:Inv X zB σ H s):Mod X.K X.mg X.base:=I.ok.mod
theorem Inv.kIn (I:Inv X zB σ H s):X.K.In s.heap:=I.ok.mod.kin.keeps I.bk
theorem Inv.lt (I:Inv X zB σ H s):X.env.locals<s.heap.objs.size:=let ⟨_,hn,_⟩:=I.loc;hn.lt
theorem Inv.sz (I:Inv X zB σ H s):X.s₀.heap.objs.size<=s.heap.objs.size:=zXB I.ok.above (Nat.le_of_lt I.lt)
theorem Inv.nofs (I:Inv X zB σ H s) {a:Addr} (h:s.heap.objs.size<=a):a∉X.fs:=fun hb=>by
 obtain ⟨_,o,ho,_⟩:=I.ok.funs.mem hb;exact absurd (zW9 (zWv ho) (zXB I.sz h)) (zXS _)
theorem Inv.cne (I:Inv X zB σ H s):∀ x c,X.env.cells.lookup x=some c->c≠X.env.locals:=fun x c e z=>by
 obtain ⟨v,o,ho,hd⟩:=I.cell x c e;obtain ⟨m,⟨o',es,ep,ho',hd',_⟩,_⟩:=I.loc;rw[z,ho']at ho;cases ho;rw[hd']at hd;cases hd
theorem Inv.funs (I:Inv X zB σ H s):s.heap.FunFrames X.base X.outer:=by
 have all:∀ (l:List Env),(∀ b∈frs l,b∈X.fs)->X.s₀.heap.FunFrames X.base l->s.heap.FunFrames X.base l:=by
  intro l;induction l with
  |nil=>intro _ _;trivial
  |cons env r ih=>
   intro hs hl;obtain ⟨hk,⟨L,o,hf,hn,ho,hd⟩,hr⟩:=hl;have hL:L∈X.fs:=hs L (by unfold frs;rw[List.filterMap_cons,hf];exact zWy);obtain ⟨sl,e⟩:=I.base.slot L o ho (I.ok.frf L hL) hL fun z=>I.ok.exfs L z hL;exact ⟨hk,⟨L,_,hf,hn,e,hd⟩,ih (fun b hb=>hs b (by unfold frs;rw[List.filterMap_cons,hf];exact zWx _ hb)) hr⟩
 exact all X.outer (fun _ hb=>hb) I.ok.funs
theorem Inv.stack (I:Inv X zB σ H s):s.heap.FunFrames X.base X.stack:=by
 rcases I.ok.stk with e|⟨e,hf⟩
 ·rw[e];exact I.funs
 ·rw[e];obtain ⟨m,hn,_⟩:=I.loc;refine .cons (by rw[I.ok.kind];decide) hf hn ?_ I.funs;exact Heap.get?_none_of_le (zXB I.ok.bsz I.ok.above)
theorem Inv.stkSub (I:Inv X zB σ H s):∀ b∈frs X.stack,b∈X.env.locals::X.fs:=fun b hb=>by
 rcases I.ok.stk with e|⟨e,hf⟩
 ·rw[e]at hb;exact zWx _ hb
 ·rw[e]at hb;unfold frs at hb;rw[List.filterMap_cons,hf]at hb;exact hb
theorem Inv.stkFree (I:Inv X zB σ H s):∀ b∈frs X.stack,H b=none:=fun b hb=>by
 rcases zWw.mp (I.stkSub b hb)with e|hb
 ·rw[e];exact I.free
 ·obtain ⟨_,o,ho,_⟩:=I.ok.funs.mem hb;exact I.base.free b o ho (I.ok.frf b hb) fun z=>I.ok.exfs b z hb
theorem Inv.step {g':Array GenState} {t':Nat} {d':Drawn} {ch:List Addr} (I:Inv X zB σ H s)
  (hch:∀ b∈ch,(b∈X.ex\/X.s₀.heap.objs.size<=b)/\b≠X.env.locals/\(∀ x c,X.env.cells.lookup x=some c->c≠b) /\ ∀ p∈X.pn++zB,p.1≠b)
  (keep:∀ b o,b≠X.env.locals->b∉X.fs->b∉ch->s.heap.get? b=some o->H b=none->h'.get? b=some o)
  (slot:∀ b o,b≠X.env.locals->b∈X.fs->b∉ch->s.heap.get? b=some o->H b=none -> ∃ sl,h'.get? b=some { o with slots:=sl }) (free:∀ b o,b∉ch->s.heap.get? b=some o->H b=none->H' b=none)
  (there:∀ b o,b∉ch->s.heap.get? b=some o -> ∃ o',h'.get? b=some o')
  (tups:∀ b xs,H b=some (.tup xs)->H' b=some (.tup xs)) (frzs:∀ b o u,H b=some (.frz o u)->H' b=some (.frz o u)) (tbls:∀ b ps,H b=some (.tbl ps) -> ∃ more,H' b=some (.tbl (ps++more)))
  (ns:∀ m,s.heap.Ns X.env.locals m->h'.Ns X.env.locals m) (hok:HOk X.prog X.w H' h') (hg:AllBare g') :
  Inv X zB σ H' { s with heap:=h',gens:=g',drawn:=d',toks:=t' }:=by
 have neL:∀ b o,X.s₀.heap.get? b=some o->b≠X.env.locals:=fun b o e=>zW5 (zW9 (zWv e) I.ok.above);have neC:∀ b o,X.s₀.heap.get? b=some o->b∉X.ex->b∉ch:=fun b o e hx hb=>by
  rcases (hch b hb).1 with z|z
  ·exact hx z
  ·exact absurd (zW9 (zWv e) z) (zXS _)
 have cellK:∀ x c,X.env.cells.lookup x=some c -> ∀ v,s.heap.IsCell c v->h'.IsCell c v:=fun x c e v ⟨o,ho,hd⟩=>by
  have nch:c∉ch:=fun z=>(hch c z).2.2.1 x c e rfl;by_cases hc:c∈X.fs
  ·obtain ⟨sl,q⟩:=slot c o (I.cne x c e) hc nch ho (I.freeC x c e);exact ⟨_,q,hd⟩
  ·exact ⟨o,keep c o (I.cne x c e) hc nch ho (I.freeC x c e),hd⟩
 refine ⟨I.ok,I.os,hg,⟨fun b o e n hb hx=>?_,fun b o e n hb hx=>?_,fun b o e n hx=>?_,fun b o e hx=>?_,fun b xs e=>tups b xs (I.base.tups b xs e),fun b o xs e=>frzs b o xs (I.base.frzs b o xs e),fun b ps e=>?_⟩,?_,fun x c e=>?_,?_,fun x c e=>?_,fun p hp=>?_,hok,I.len⟩
 ·exact keep b o (neL b o e) hb (neC b o e hx) (I.base.keep b o e n hb hx) (I.base.free b o e n hx)
 ·obtain ⟨sl,e1⟩:=I.base.slot b o e n hb hx;obtain ⟨sl',e2⟩:=slot b _ (neL b o e) hb (neC b o e hx) e1 (I.base.free b o e n hx);exact ⟨sl',e2⟩
 ·obtain ⟨o',e1⟩:=I.base.there b o e hx;exact free b o' (neC b o e hx) e1 (I.base.free b o e n hx)
 ·obtain ⟨o',e1⟩:=I.base.there b o e hx;exact there b o' (neC b o e hx) e1
 ·obtain ⟨m1,e1⟩:=I.base.tbls b ps e;obtain ⟨m2,e2⟩:=tbls b _ e1;exact ⟨m1++m2,by rw[e2,Array.append_assoc]⟩
 ·obtain ⟨m,hn,hl⟩:=I.loc;refine ⟨m,ns m hn,fun i x v e1 e2 e3=>?_⟩;obtain ⟨u,r,l⟩:=hl i x v e1 e2 e3;refine ⟨u,r,?_⟩;rcases l with l|⟨k,c,e,z⟩
  ·exact .inl l
  ·exact .inr ⟨k,c,e,cellK x c e _ z⟩
 ·obtain ⟨v,z⟩:=I.cell x c e;exact ⟨v,cellK x c e v z⟩
 ·obtain ⟨m,⟨o,_,_,ho,_⟩,_⟩:=I.loc;exact free _ o (fun z=>(hch _ z).2.1 rfl) ho I.free
 ·obtain ⟨v,o,ho,hd⟩:=I.cell x c e;exact free c o (fun z=>(hch c z).2.2.1 x c e rfl) ho (I.freeC x c e)
 ·obtain ⟨e,n,ne,nf,d⟩:=I.pin p hp;have nch:p.1∉ch:=fun z=>(hch p.1 z).2.2.2 p hp rfl;exact ⟨keep p.1 p.2 ne nf nch e n,free p.1 p.2 nch e n,ne,nf,d⟩
theorem Inv.un {t':Nat} (I:Inv X zB σ H s) (u:Un X.fs [] H H' s.heap h') (hok:HOk X.prog X.w H' h'):Inv X zB σ H' { s with heap:=h',toks:=t' }:=by
 obtain ⟨m,⟨o,es,ep,ho,r⟩,_⟩:=id I.loc;obtain ⟨sl,hL⟩:=u.any ho I.free (by simp);exact I.step (g':=s.gens) (d':=s.drawn) (ch:=[]) (fun _ z=>nomatch z) (fun b o _ hb _ e n=>u.keep b o e n hb (by simp)) (fun b o _ hb _ e n=>u.slot b o e n hb (by simp)) (fun b o _ e n=>u.free b o e n (by simp)) (fun b o _ e=>u.there b o e (by simp)) u.tups u.frzs u.tbls (fun m' hm=>by
  obtain ⟨o',es',ep',ho',r'⟩:=hm;rw[ho]at ho';cases ho';exact ⟨_,es',ep',hL,r'⟩) hok I.bare
theorem Inv.call {g':Array GenState} {t':Nat} {d':Drawn} {ch:List Addr} (I:Inv X zB σ H s) (u:Un (frs X.stack) ch H H' s.heap h') (hok:HOk X.prog X.w H' h') (hg:AllBare g')
  (hch:∀ b∈ch,(b∈X.ex\/X.s₀.heap.objs.size<=b)/\b≠X.env.locals/\(∀ x c,X.env.cells.lookup x=some c->c≠b) /\ ∀ p∈X.pn++zB,p.1≠b) :
  Inv X zB σ H' { s with heap:=h',gens:=g',drawn:=d',toks:=t' }:=by
 obtain ⟨m,⟨o,es,ep,ho,r⟩,_⟩:=id I.loc;obtain ⟨sl,hL⟩:=u.any ho I.free fun z=>(hch _ z).2.1 rfl;exact I.step (ch:=ch) hch (fun b o hL hb hc e n=>u.keep b o e n (fun z=>(zWw.mp (I.stkSub b z)).elim hL hb) hc) (fun b o _ _ hc e n=>u.any e n hc) (fun b o hc e n=>u.free b o e n hc) (fun b o hc e=>u.there b o e hc) u.tups u.frzs u.tbls (fun m' hm=>by
  obtain ⟨o',es',ep',ho',r'⟩:=hm;rw[ho]at ho';cases ho';exact ⟨_,es',ep',hL,r'⟩) hok hg
theorem Inv.turned {t':Nat} {it:Addr} (I:Inv X zB σ H s) (k:∀ b o,b≠it->s.heap.get? b=some o->h'.get? b=some o) (hn:H it=none) (hL:it≠X.env.locals)
  (h1:it∈X.ex\/X.s₀.heap.objs.size<=it) (h2:∀ x c,X.env.cells.lookup x=some c->c≠it) (h3:∀ p∈X.pn++zB,p.1≠it):Inv X zB σ H { s with heap:=h',toks:=t' }:=by
 have nit:∀ b u,H b=some u->b≠it:=fun b u e z=>by rw[z,hn]at e;cases e
 refine I.step (g':=s.gens) (d':=s.drawn) (ch:=[it]) (fun b hb=>?_) (fun b o _ _ hc e _=>k b o (fun z=>hc (by simp[z])) e) (fun b o _ _ hc e _=>⟨o.slots,k b o (fun z=>hc (by simp[z])) e⟩) (fun _ _ _ _ n=>n)
  (fun b o hc e=>⟨o,k b o (fun z=>hc (by simp[z])) e⟩) (fun _ _ e=>e) (fun _ _ _ e=>e) (fun b ps e=>⟨#[],by rw[e];simp⟩) (fun m hm=>?_) (fun b u e=>?_) I.bare
 ·have e:b=it:=by simpa using hb
  subst e;exact ⟨h1,hL,h2,h3⟩
 ·obtain ⟨o,es,ep,ho,r⟩:=hm;exact ⟨o,es,ep,k _ o (Ne.symm hL) ho,r⟩
 ·refine (I.hok b u e).stay (fun c v hc q=>k c v ?_ q) (fun _ q=>q) fun _ _ q=>q;rcases hc with z|z
  ·rw[z];exact nit b u e
  ·exact nit c _ z
theorem Inv.tok (I:Inv X zB σ H s) (t:Nat):Inv X zB σ H { s with toks:=t }:=I.un (h':=s.heap) (t':=t) Un.refl I.hok
theorem Inv.kept {t':Nat} (I:Inv X zB σ H s) (k:∀ b u,s.heap.get? b=some u->h'.get? b=some u):Inv X zB σ H { s with heap:=h',toks:=t' }:=I.un (Un.kept k) (I.hok.kept k)
theorem Inv.laid {a:Addr} {o:HO} {t':Nat} (I:Inv X zB σ H s) (k:∀ b u,s.heap.get? b=some u->h'.get? b=some u) (hp:s.heap.objs.size<=a) (new:zAl X.prog X.w (upd H a o) h' a o) :
  Inv X zB σ (upd H a o) { s with heap:=h',toks:=t' }:=I.un (Un.laid k hp (I.hok.fresh hp)) (I.hok.laid k hp new)
theorem Inv.write {x e:Addr} {o:HO} {t':Nat} (I:Inv X zB σ H s) (mu:Mut (H x)) (he:e=x\/H e=some (.own x)) (k:∀ b u,b≠e->s.heap.get? b=some u->h'.get? b=some u) (heo:∃ u,h'.get? e=some u)
  (new:zAl X.prog X.w (upd H x o) h' x o):Inv X zB σ (upd H x o) { s with heap:=h',toks:=t' }:=I.un (Un.write mu he k heo) (I.hok.write mu he k heo new)
theorem Inv.weak {σ':List (Option V)} (I:Inv X zB σ H s) (hl:σ'.length=σ.length) (w:∀ (i:Nat) v,σ'[i]?=some (some v)->σ[i]?=some (some v)):Inv X zB σ' H s :=
 ⟨I.ok,I.os,I.bare,I.base,let ⟨m,hn,hl'⟩:=I.loc;⟨m,hn,fun i x v e1 e2 e3=>hl' i x v e1 (w i v e2) e3⟩,I.cell,I.free,I.freeC,I.pin,I.hok,hl.trans I.len⟩
theorem Inv.pins_of {pins':List (Addr × Obj)} (I:Inv X zB σ H s) (h:∀ p∈pins',s.heap.get? p.1=some p.2/\H p.1=none/\p.1≠X.env.locals/\p.1∉X.fs /\ ∀ v,p.2.data≠.cell v):Inv X pins' σ H s :=
 ⟨I.ok,I.os,I.bare,I.base,I.loc,I.cell,I.free,I.freeC,fun p hp=>(zXA.mp hp).elim (fun z=>I.pin p (zXz _ z)) (h p),I.hok,I.len⟩
theorem zL3 {N:List Str} (hN:N.Nodup) {i j:Nat} {x:Str} (a:N[i]?=some x) (b:N[j]?=some x):i=j:=by
 obtain ⟨h1,e1⟩:=zWn.mp a;obtain ⟨h2,e2⟩:=zWn.mp b;exact (List.getElem_inj hN).mp (e1.trans e2.symm)
theorem zOi {M:Model} {A:Around} {E:Value->Shared->Prop} {i:Nat} {x:Str} {v:V} {u:Value} {Q:Unit->Shared->Prop} (I:Inv X zB σ H s) (hN:X.N.Nodup) (hi:X.N[i]?=some x) (hx:Loc X.env.scope x) (r:zAT v u)
  (h:∀ s',Inv X zB (σ.set i (some v)) H s'->(∃ a,Heap.SameBut a s.heap s'.heap/\(a=X.env.locals\/X.env.cells.lookup x=some a))->Q () s') (hf:X.fn x=true\/X.env.scope.names.lookup x=some .local:=by first|exact .inl rfl|exact .inr rfl|assumption):wpAny M A (storeName X.env x u) Q E s:=by
 obtain ⟨m,hn,hl⟩:=id I.loc;have hcls:(X.env.scope.kind == .class||(X.env.scope.kind == .module&&X.env.locals != X.env.globals))=false:=by rw[I.ok.kind];rfl
 have hiσ:i<σ.length:=by rw[I.len];exact (zWn.mp hi).1
 have cne:=I.cne;have tracked:∀ {a:Addr} {h':Heap},(∃ o,s.heap.get? a=some o/\H a=none)->Heap.SameBut a s.heap h'->HOk X.prog X.w H h':=fun {a h'} ha hs b ob e=>by
  obtain ⟨_,_,hfree⟩:=ha;refine (I.hok b ob e).stay (fun c w' hc q=>(hs.2 c ?_).trans q) (fun _ q=>q) fun _ _ q=>q;rintro rfl;rcases hc with rfl|hc
  ·rw[hfree]at e;cases e
  ·rw[hfree]at hc;cases hc
 rcases hx with hk|hk
 ·refine wpAny_storeName_local hk hn (fun h' hn' hs=>?_) hcls;obtain ⟨oL,_,_,hoL,_⟩:=id hn;refine h _ ⟨I.ok,I.os,I.bare,⟨fun b o e n hb hx=>?_,fun b o e n hb hx=>?_,I.base.free,fun b o e hx=>?_,I.base.tups,I.base.frzs,I.base.tbls⟩,⟨_,hn',fun j y v' e1 e2 e3=>?_⟩,fun y c e=>?_,I.free,I.freeC,fun p hp=>?_,tracked ⟨oL,hoL,I.free⟩ hs,by simpa using I.len⟩ ⟨_,hs,.inl rfl⟩
  ·exact (hs.2 b (zW5 (zW9 (zWv e) I.ok.above))).trans (I.base.keep b o e n hb hx)
  ·obtain ⟨sl,e1⟩:=I.base.slot b o e n hb hx;exact ⟨sl,(hs.2 b (zW5 (zW9 (zWv e) I.ok.above))).trans e1⟩
  ·obtain ⟨o',e1⟩:=I.base.there b o e hx;exact ⟨o',(hs.2 b (zW5 (zW9 (zWv e) I.ok.above))).trans e1⟩
  ·by_cases hj:j=i
   ·subst hj;rw[hi]at e1;cases e1;rw[zXe hiσ]at e2;cases e2;exact ⟨u,r,.inl ⟨hk,by simp⟩⟩
   ·rw[zXE (Ne.symm hj)]at e2;obtain ⟨u',r',q⟩:=hl j y v' e1 e2 e3;refine ⟨u',r',?_⟩;rcases q with ⟨k,e⟩|⟨k,c,e,z⟩
    ·refine .inl ⟨k,?_⟩;have:y≠x:=fun e=>hj (zL3 hN e1 (e▸hi));simp[this,e]
    ·exact .inr ⟨k,c,e,z.sameBut hs (cne y c e)⟩
  ·obtain ⟨w',z⟩:=I.cell y c e;exact ⟨w',z.sameBut hs (cne y c e)⟩
  ·obtain ⟨e,n,ne,nf,d⟩:=I.pin p hp;exact ⟨(hs.2 p.1 ne).trans e,n,ne,nf,d⟩
 ·have hfn:X.fn x=true:=by
   rcases hf with z|z
   ·exact z
   ·rw[z]at hk;cases hk
  obtain ⟨c,hc⟩:=I.ok.has x (.inl hk);obtain ⟨w',z⟩:=I.cell x c hc;refine wpAny_storeName_cell I.ok.kind hk hc z (fun h' hc' hs=>?_);obtain ⟨oc,hoc,hocd⟩:=id z;refine h { s with heap:=h' } ⟨I.ok,I.os,I.bare,⟨fun b o e n hb hx=>?_,fun b o e n hb hx=>?_,I.base.free,fun b o e hx=>?_,I.base.tups,I.base.frzs,I.base.tbls⟩,⟨m,hn.sameBut hs (Ne.symm (cne x c hc)),fun j y v' e1 e2 e3=>?_⟩,fun y c' e=>?_,I.free,I.freeC,fun p hp=>?_,tracked ⟨oc,hoc,I.freeC x c hc⟩ hs,by simpa using I.len⟩ ⟨c,hs,.inr hc⟩
  ·exact (hs.2 b (zW5 (zW9 (zWv e) (I.ok.cab x c hfn hc)))).trans (I.base.keep b o e n hb hx)
  ·obtain ⟨sl,e1⟩:=I.base.slot b o e n hb hx;exact ⟨sl,(hs.2 b (zW5 (zW9 (zWv e) (I.ok.cab x c hfn hc)))).trans e1⟩
  ·obtain ⟨o',e1⟩:=I.base.there b o e hx;exact ⟨o',(hs.2 b (zW5 (zW9 (zWv e) (I.ok.cab x c hfn hc)))).trans e1⟩
  ·by_cases hj:j=i
   ·subst hj;rw[hi]at e1;cases e1;rw[zXe hiσ]at e2;cases e2;exact ⟨u,r,.inr ⟨.inl hk,c,hc,hc'⟩⟩
   ·rw[zXE (Ne.symm hj)]at e2;obtain ⟨u',r',q⟩:=hl j y v' e1 e2 e3;refine ⟨u',r',?_⟩;rcases q with q|⟨k,c',e,z'⟩
    ·exact .inl q
    ·refine .inr ⟨k,c',e,z'.sameBut hs ?_⟩;rintro rfl;exact hj (zL3 hN e1 (I.ok.inj _ _ _ e hc▸hi))
  ·by_cases hcc:c'=c
   ·subst hcc;exact ⟨_,hc'⟩
   ·obtain ⟨w2,z2⟩:=I.cell y c' e;exact ⟨w2,z2.sameBut hs hcc⟩
  ·obtain ⟨e,n,ne,nf,d⟩:=I.pin p hp;refine ⟨(hs.2 p.1 ?_).trans e,n,ne,nf,d⟩;intro q;rw[q,hoc]at e;have q':oc=p.2:=zXk e;exact d w' (by rw[<-q'];exact hocd)
theorem zMD {M:Model} {A:Around} {E:Value->Shared->Prop} {i:Nat} {x:Str} {v:V} {u:Value} {Q:Unit->Shared->Prop} (I:Inv X zB σ H s) (hN:X.N.Nodup) (hi:X.N[i]?=some x) (hx:Loc X.env.scope x) (r:zAT v u)
  (h:∀ s',Inv X zB (σ.set i (some v)) H s'->Q () s') (hf:X.fn x=true\/X.env.scope.names.lookup x=some .local:=by first|exact .inl rfl|exact .inr rfl|assumption):wpAny M A (storeName X.env x u) Q E s :=
 zOi I hN hi hx r (fun s' I' _=>h s' I') hf
theorem Inv.call' {s':Shared} {ch:List Addr} (I:Inv X zB σ H s) (ho:s'.os=s.os) (u:Un (frs X.stack) ch H H' s.heap s'.heap) (hok:HOk X.prog X.w H' s'.heap) (hg:AllBare s'.gens)
  (hch:∀ b∈ch,(b∈X.ex\/X.s₀.heap.objs.size<=b)/\b≠X.env.locals/\(∀ x c,X.env.cells.lookup x=some c->c≠b) /\ ∀ p∈X.pn++zB,p.1≠b):Inv X zB σ H' s':=by
 obtain ⟨h',g',d',t',o'⟩:=s';have e:o'=s.os:=ho;subst e;exact I.call (g':=g') (t':=t') (d':=d') u hok hg hch
end
abbrev XK:=Value->Option Addr->Hp->Prop
abbrev St:=List (Option V)
abbrev VK:=V->Hp->Prop
abbrev TE:=St->Hp->VK->Prop
abbrev TT:=St->Hp->(Bool->Hp->Prop)->Prop
abbrev TA:=St->Hp->(List V->Hp->Prop)->Prop
structure Ends where
 nx:St->Hp->Prop
 rt:VK
 bk:St->Hp->Prop:=fun _ _=>False
 ct:St->Hp->Prop:=fun _ _=>False
abbrev TS:=Ends->St->Hp->Prop
def EP (X:Cx) (zB:List (Addr × Obj)) (σ:St) (Q:VK) (u:Value) (s':Shared):Prop:=∃ v H',Inv X zB σ H' s'/\zAT v u/\Q v H'
def TP (X:Cx) (zB:List (Addr × Obj)) (σ:St) (Q:Bool->Hp->Prop) (b:Bool) (s':Shared):Prop:=∃ H',Inv X zB σ H' s'/\Q b H'
def AP (X:Cx) (zB:List (Addr × Obj)) (σ:St) (Q:List V->Hp->Prop) (us:List Value) (s':Shared):Prop:=∃ vs H',Inv X zB σ H' s'/\zy vs us/\Q vs H'
def SP (X:Cx) (zB:List (Addr × Obj)) (D:Ends) (f:Flow) (s':Shared):Prop :=
 match f with
 |.next=>∃ σ' H',Inv X zB σ' H' s'/\D.nx σ' H'
 |.brk=>∃ σ' H',Inv X zB σ' H' s'/\D.bk σ' H'
 |.cont=>∃ σ' H',Inv X zB σ' H' s'/\D.ct σ' H'
 |.ret u=>∃ v σ' H',Inv X zB σ' H' s'/\zAT v u/\D.rt v H'
def PE (X:Cx) (e:Expr) (t:TE):Prop :=
 ∀ (zB:List (Addr × Obj)) (s:Shared) (σ:St) (H:Hp) (Q:VK),Inv X zB σ H s->t σ H Q->wpAny (model X.prog X.w) X.A (eval e X.env) (EP X zB σ Q) X.xe s
def PT (X:Cx) (e:Expr) (t:TT):Prop :=
 ∀ (zB:List (Addr × Obj)) (s:Shared) (σ:St) (H:Hp) (Q:Bool->Hp->Prop),Inv X zB σ H s->t σ H Q->wpAny (model X.prog X.w) X.A (isTrue e X.env (eval e X.env)) (TP X zB σ Q) X.xe s
def PW (X:Cx) (e:Expr) (t:TT):Prop :=
 ∀ (whole:Sem Value) (zB:List (Addr × Obj)) (s:Shared) (σ:St) (H:Hp) (Q:Bool->Hp->Prop),Inv X zB σ H s->t σ H Q->wpAny (model X.prog X.w) X.A (isTrue e X.env whole) (TP X zB σ Q) X.xe s
theorem PW.pt {X:Cx} {e:Expr} {t:TT} (h:PW X e t):PT X e t:=h _
def PA (X:Cx) (es:List Expr) (t:TA):Prop :=
 ∀ (pos:Pos) (zB:List (Addr × Obj)) (s:Shared) (σ:St) (H:Hp) (Q:List V->Hp->Prop),Inv X zB σ H s->t σ H Q->wpAny (model X.prog X.w) X.A (spliced (backTo pos (starEach es X.env))) (AP X zB σ Q) X.xe s
def PS (X:Cx) (st:Stmt) (t:TS):Prop :=
 ∀ (zB:List (Addr × Obj)) (s:Shared) (σ:St) (H:Hp) (D:Ends),Inv X zB σ H s->t D σ H->wpAny (model X.prog X.w) X.A (exec st X.env) (SP X zB D) X.xe s
def PSs (X:Cx) (st:List Stmt) (t:TS):Prop :=
 ∀ (zB:List (Addr × Obj)) (s:Shared) (σ:St) (H:Hp) (D:Ends),Inv X zB σ H s->t D σ H->wpAny (model X.prog X.w) X.A (execs st X.env) (SP X zB D) X.xe s
theorem thn {α:Type} {t:Sem α} {Q Q':α->Shared->Prop} {M:Model} {A:Around} {E:Value->Shared->Prop} {s:Shared} (h:wpAny M A t Q E s) (hQ:∀ a s,Q a s->Q' a s):wpAny M A t Q' E s:=zXG h hQ fun _ _ x=>x
section
variable {X:Cx}
def zVE (i:Nat):TE:=fun σ H Q=>∃ v,σ[i]?=some (some v)/\Q v H
def tC (v:V):TE:=fun _ H Q=>Q v H
theorem zUz {i:Nat} {x:Str} {pos:Pos} (hN:X.N[i]?=some x) (hv:Vis X.env.scope x) (hd:(x==("__debug__" : Str))=false:=by decide) (hcd:(x==("__classdict__" : Str))=false:=by decide):PE X (.Name x pos) (zVE i):=by
 intro zB s σ H Q I h;obtain ⟨v,e,h⟩:=h;obtain ⟨m,hn,hl⟩:=I.loc;obtain ⟨u,r,l⟩:=hl i x v hN e hv;have fin:EP X zB σ Q u s:=⟨v,H,I,r,h⟩;rcases l with ⟨hk,hm⟩|⟨hk,c,hc,hcell⟩
 ·exact wpAny_Name (wpAny_loadName_local I.ok.kind hk hn hm fin) hd
 ·rcases hk with hk|hk
  ·exact wpAny_Name (wpAny_loadName_cell I.ok.kind hk hc hcell fin) hd
  ·exact wpAny_Name (wpAny_loadName_free I.ok.kind hk hc hcell fin hcd) hd
theorem zUG {i j pos}:PE X (.Constant (.int i) j pos) (tC (.int i)):=fun _ _ _ H _ I h=>wpAny_Constant_int ⟨.int i,H,I.tok _,⟨_,rfl⟩,h⟩
theorem zVL {b j pos}:PE X (.Constant (.bool b) j pos) (tC (.bl b)):=fun _ _ _ H _ I h=>Constant_bool ⟨.bl b,H,I,rfl,h⟩
theorem zU4 {j pos}:PE X (.Constant .none j pos) (tC .non):=fun _ _ _ H _ I h=>Constant_none ⟨.non,H,I,rfl,h⟩
theorem zUC {x j pos}:PE X (.Constant (.str x) j pos) (tC (.str x)):=fun _ _ _ H _ I h=>Calls.Constant_str ⟨.str x,H,I.tok _,⟨_,rfl⟩,h⟩
def Gl (X:Cx) (x:Str):Prop:=X.env.kindOf x=some .globalImplicit
theorem zST {E:Value->Shared->Prop} {zB:List (Addr × Obj)} {s:Shared} {σ:St} {H:Hp} {x:Str} {u:Value} {pos:Pos} {Q:Value->Shared->Prop} (I:Inv X zB σ H s) (hg:Gl X x) (hm:X.mg x=some u) (h:Q u s)
  (hd:(x==("__debug__" : Str))=false:=by decide):wpAny (model X.prog X.w) X.A (eval (.Name x pos) X.env) Q E s :=
 Calls.Name_function_global I.ok.kind hg (Calls.loadGlobal_global (by rw[I.ok.glob];exact I.mod.glob.keeps I.bk) hm h) hd
theorem zGF {E:Value->Shared->Prop} {zB:List (Addr × Obj)} {s:Shared} {σ:St} {H:Hp} {x:Str} {u:Value} {pos:Pos} {Q:Value->Shared->Prop} (I:Inv X zB σ H s) (hg:Gl X x) (hm:X.mg x=none) (hv:bootBuiltins x=some u) (h:Q u s)
  (hn:x ≠ "__name__" := by decide) (hd:(x==("__debug__" : Str))=false:=by decide):wpAny (model X.prog X.w) X.A (eval (.Name x pos) X.env) Q E s:=by
 obtain ⟨mb,h1,h2⟩:=I.mod.blt;exact Calls.Name_function_global I.ok.kind hg (Calls.loadGlobal_builtin (by rw[I.ok.glob];exact I.mod.glob.keeps I.bk) hm (by rw[I.ok.blt];exact h1.keeps I.bk) ((h2 x hn).trans hv) h) hd
theorem zS3 {x:Str} {v:V} {u:Value} {pos:Pos} (hg:Gl X x) (hm:X.mg x=none) (hv:bootBuiltins x=some u) (r:zAT v u) (hn:x ≠ "__name__" := by decide) (hd:(x==("__debug__" : Str))=false:=by decide):PE X (.Name x pos) (tC v) :=
 fun _ _ _ H _ I h=>zGF I hg hm hv ⟨v,H,I,r,h⟩ hn hd
variable {a b:Expr} {ta tb:TE} {pos:Pos}
def PC (X:Cx) (op:CmpOp) (a b:Expr) (t:TE):Prop :=
 ∀ (zB:List (Addr × Obj)) (s:Shared) (σ:St) (H:Hp) (Q:VK),Inv X zB σ H s->t σ H Q ->
  wpAny (model X.prog X.w) X.A (eval a X.env) (fun v s₁=>wpAny (model X.prog X.w) X.A (eval b X.env) (fun u s₂=>wpAny (model X.prog X.w) X.A (compareOp op v u) (EP X zB σ Q) X.xe s₂) X.xe s₁) X.xe s
def tB (t:TE):TT:=fun σ H Q=>t σ H fun x H1=>∃ c,x=.bl c/\Q c H1
theorem zVF {op:CmpOp} {t:TE} (h:PC X op a b t) (h1:behindInMarks op b=false:=by first|exact nobehind _ (by decide) (by decide)|rfl):PE X (.Compare a [op] [b] pos) t:=fun zB s σ H Q I hw=>wpAny_Compare1 (h zB s σ H Q I hw) h1
theorem zQa {op:CmpOp} {t:TE} (h:PC X op a b t) (h1:behindInMarks op b=false:=by first|exact nobehind _ (by decide) (by decide)|rfl):PT X (.Compare a [op] [b] pos) (tB t):=by
 intro zB s σ H Q I hw;refine wpAny_isTrue_Compare1 (thn (h zB s σ H _ I hw) fun v s1 h1=>thn h1 fun u s2 h2=>thn h2 fun c s3 ⟨x,H1,I1,r1,q1⟩=>?_) h1;obtain ⟨d,rfl,q⟩:=q1;cases r1;exact zXw ⟨H1,I1,q⟩
theorem zUR {e:Expr} {t:TE} (h:PE X e t) (he:∀ whole,isTrue e X.env whole=(do let v <- whole;standAt e.pos;holding [v] (truthy v)):=by intro _;rfl):PT X e (tB t):=by
 intro zB s σ H Q I hw;refine isTrue_plain (thn (h zB s σ H _ I hw) fun v s1 ⟨x,H1,I1,r1,q1⟩=>?_) (he _);obtain ⟨d,rfl,q⟩:=q1;cases r1;exact zXw ⟨H1,I1,q⟩
variable {tA tB':TT} {rest:List Expr}
def zWV (t u:TT):TT:=fun σ H Q=>t σ H fun c H1=>if c=true then u σ H1 Q else Q false H1
def tOr (t u:TT):TT:=fun σ H Q=>t σ H fun c H1=>if c=true then Q true H1 else u σ H1 Q
def zWN (t:TT):TT:=fun σ H Q=>t σ H fun c H1=>Q (!c) H1
theorem zSP (ha:PT X a tA):PW X (.BoolOp .And [a] pos) tA:=by
 intro wh zB s σ H Q I h;refine isTrue_and (thn (ha zB s σ H Q I h) fun c s1 e=>?_);cases c with
 |true=>exact isTrue_and_nil e
 |false=>exact e
theorem zUx (ha:PT X a tA):PW X (.BoolOp .Or [a] pos) tA:=by
 intro wh zB s σ H Q I h;refine isTrue_or (thn (ha zB s σ H Q I h) fun c s1 e=>?_);cases c with
 |false=>exact isTrue_or_nil e
 |true=>exact e
theorem zUh (ha:PT X a tA) (hb:PW X (.BoolOp .And (b::rest) pos) tB'):PW X (.BoolOp .And (a::b::rest) pos) (zWV tA tB'):=by
 intro wh zB s σ H Q I h;refine isTrue_and (thn (ha zB s σ H _ I h) fun c s1 ⟨H1,I1,q1⟩=>?_);cases c with
 |true=>exact hb wh zB s1 σ H1 Q I1 q1
 |false=>exact ⟨H1,I1,q1⟩
theorem zWD (ha:PT X a tA) (hb:PW X (.BoolOp .Or (b::rest) pos) tB'):PW X (.BoolOp .Or (a::b::rest) pos) (tOr tA tB'):=by
 intro wh zB s σ H Q I h;refine isTrue_or (thn (ha zB s σ H _ I h) fun c s1 ⟨H1,I1,q1⟩=>?_);cases c with
 |true=>exact ⟨H1,I1,q1⟩
 |false=>exact hb wh zB s1 σ H1 Q I1 q1
theorem zVI (ha:PT X a tA):PT X (.UnaryOp .Not a pos) (zWN tA):=by
 intro zB s σ H Q I h;exact isTrue_not (ha zB s σ H (fun c H1=>Q (!c) H1) I h)
def zVx (ta tb:TE):TE:=fun σ H Q=>ta σ H fun x H1=>∃ c,x=.bl c/\if c=true then tb σ H1 Q else Q (.bl false) H1
def zVR (ta:TE):TE:=fun σ H Q=>ta σ H fun x H1=>∃ c,x=.bl c/\Q (.bl (!c)) H1
theorem zUJ {op} {t:TE} (h:PE X a t):PE X (.BoolOp op [a] pos) t:=fun zB s σ H Q I hw=>BoolOp_one (h zB s σ H Q I hw)
theorem zUQ (ha:PE X a ta) (hb:PE X (.BoolOp .And (b::rest) pos) tb):PE X (.BoolOp .And (a::b::rest) pos) (zVx ta tb):=by
 intro zB s σ H Q I h;refine BoolOp_and (thn (ha zB s σ H _ I h) fun v s1 ⟨x,H1,I1,r1,q1⟩=>?_);obtain ⟨c,rfl,q1⟩:=q1;cases r1;refine zXw ?_;cases c with
 |true=>exact hb zB s1 σ H1 Q I1 q1
 |false=>exact ⟨.bl false,H1,I1,rfl,q1⟩
theorem zUm (ha:PE X a ta):PE X (.UnaryOp .Not a pos) (zVR ta):=by
 intro zB s σ H Q I h;refine UnaryOp_ (thn (ha zB s σ H _ I h) fun v s1 ⟨x,H1,I1,r1,q1⟩=>?_);obtain ⟨c,rfl,q1⟩:=q1;cases r1;exact not_of (zXw ⟨.bl (!c),H1,I1,rfl,q1⟩)
end
def SqL (K:PySem.W.Frag) (H:Hp) (a:Addr) (xs:List V):Prop :=
 Rd H a (.lst xs) \/
  ∃ (o:Obj) (its:Array Value) (n:Nat),K.lookup a=some o/\o.cls=.type "list" /\ o.dict=none/\o.data=.seq its n/\its.size<=sizeLine/\zy xs its.toList
def SqT (K:PySem.W.Frag) (H:Hp) (a:Addr) (xs:List V):Prop :=
 Rd H a (.tup xs) \/
  ∃ (o:Obj) (its:Array Value) (n:Nat),K.lookup a=some o/\o.cls=.type "tuple" /\ o.data=.seq its n/\its.size<=sizeLine/\zy xs its.toList
def zWI:Value->Option V
 |.none=>some .non
 |.bool b=>some (.bl b)
 |.int i _=>some (.int i)
 |.str x _=>some (.str x)
 |.bytes b _=>some (.byt b)
 |.float b _=>some (.flt b)
 |.ref a=>some (.ref a)
 |.type n=>some (.ty n)
 |_=>none
theorem zAT.abs {x:V} {u:Value} (r:zAT x u):zWI u=some x:=by
 cases x with
 |non=>cases r;rfl
 |bl _=>cases r;rfl
 |int _=>obtain ⟨t,rfl⟩:=r;rfl
 |str _=>obtain ⟨t,rfl⟩:=r;rfl
 |byt _=>obtain ⟨t,rfl⟩:=r;rfl
 |flt _=>obtain ⟨t,rfl⟩:=r;rfl
 |ref _=>cases r;rfl
 |ty _=>cases r;rfl
theorem zAT.inj {x y:V} {u:Value} (r:zAT x u) (q:zAT y u):x=y:=zXk (r.abs.symm.trans q.abs)
theorem zy.inj:∀ {xs ys:List V} {us:List Value},zy xs us->zy ys us->xs=ys
 |_,_,_,.nil,.nil=>rfl
 |_,_,_,.cons r t,.cons r' t'=>by rw[r.inj r',zy.inj t t']
section
variable {X:Cx} {zB:List (Addr × Obj)} {σ:St} {H:Hp} {s:Shared} {a:Addr} {xs ys:List V}
theorem SqL.of {K:PySem.W.Frag} (h:H a=some (.lst xs)):SqL K H a xs:=.inl (.inl h)
theorem SqT.of {K:PySem.W.Frag} (h:H a=some (.tup xs)):SqT K H a xs:=.inl (.inl h)
theorem Inv.list (I:Inv X zB σ H s) (h:SqL X.K H a xs):∃ its:List Value,zy xs its/\PlainL s.heap a its.toArray/\xs.length<=sizeLine:=by
 rcases h with h|⟨o,its,n,hk,hc,hd,hs,hz,r⟩
 ·obtain ⟨z,its,n,r,e⟩:=h.ok I.hok;exact ⟨its,r,⟨_,n,e,rfl,rfl,rfl⟩,z⟩
 ·refine ⟨its.toList,r,⟨o,n,I.kIn a o hk,hc,hd,by simpa using hs⟩,?_⟩;have e:=r.length;simp only[zXT]at e;omega
theorem Inv.tuple (I:Inv X zB σ H s) (h:SqT X.K H a xs):∃ its:List Value,zy xs its/\IsTup s.heap a its.toArray/\xs.length<=sizeLine:=by
 rcases h with h|⟨o,its,n,hk,hc,hs,hz,r⟩
 ·obtain ⟨z,its,r,p⟩:=h.ok I.hok;exact ⟨its,r,p.tup,z⟩
 ·refine ⟨its.toList,r,⟨o,I.kIn a o hk,hc,n,by simpa using hs⟩,?_⟩;have e:=r.length;simp only[zXT]at e;omega
theorem Inv.list_inj (I:Inv X zB σ H s) (h:SqL X.K H a xs) (h':SqL X.K H a ys):xs=ys:=by
 obtain ⟨its,r,⟨o,n,e,_,_,d⟩,_⟩:=I.list h;obtain ⟨its',r',⟨o',n',e',_,_,d'⟩,_⟩:=I.list h';rw[e]at e';cases e';rw[d]at d';injection d' with d1 _
 have:its=its':=by simpa using congrArg Array.toList d1
 subst this;exact r.inj r'
theorem Inv.tuple_inj (I:Inv X zB σ H s) (h:SqT X.K H a xs) (h':SqT X.K H a ys):xs=ys:=by
 obtain ⟨its,r,⟨o,e,_,n,d⟩,_⟩:=I.tuple h;obtain ⟨its',r',⟨o',e',_,n',d'⟩,_⟩:=I.tuple h';rw[e]at e';cases e';rw[d]at d';injection d' with d1 _
 have:its=its':=by simpa using congrArg Array.toList d1
 subst this;exact r.inj r'
end
abbrev Cx.wish (X:Cx) (E:Value->Shared->Prop):Cx:={ X with xe:=E }
abbrev Cx.nox (X:Cx):Cx:=X.wish fun _ _=>False
theorem Cx.Ok.wish {X:Cx} (ok:X.Ok) (E:Value->Shared->Prop):(X.wish E).Ok :=
 ⟨ok.mod,ok.kind,ok.glob,ok.blt,ok.above,ok.inj,ok.has,ok.cab,ok.hd,ok.frames,ok.stk,ok.exf,ok.bs,ok.bsz,ok.noex,ok.exfs,ok.funs,ok.frf⟩
theorem Cx.Ok.unwish {X:Cx} {E:Value->Shared->Prop} (ok:(X.wish E).Ok):X.Ok :=
 ⟨ok.mod,ok.kind,ok.glob,ok.blt,ok.above,ok.inj,ok.has,ok.cab,ok.hd,ok.frames,ok.stk,ok.exf,ok.bs,ok.bsz,ok.noex,ok.exfs,ok.funs,ok.frf⟩
section
variable {X:Cx} {zB:List (Addr × Obj)} {σ:St} {H:Hp} {s:Shared} {E:Value->Shared->Prop}
theorem Inv.wish (I:Inv X zB σ H s) (E:Value->Shared->Prop):Inv (X.wish E) zB σ H s:=⟨I.ok.wish E,I.os,I.bare,I.base,I.loc,I.cell,I.free,I.freeC,I.pin,I.hok,I.len⟩
theorem Inv.unwish (I:Inv (X.wish E) zB σ H s):Inv X zB σ H s:=⟨I.ok.unwish,I.os,I.bare,I.base,I.loc,I.cell,I.free,I.freeC,I.pin,I.hok,I.len⟩
theorem SP.unwish {D:Ends} {f:Flow} {s':Shared} (h:SP (X.wish E) zB D f s'):SP X zB D f s':=by
 cases f with
 |next=>obtain ⟨σ',H',I,q⟩:=h;exact ⟨σ',H',I.unwish,q⟩
 |brk=>obtain ⟨σ',H',I,q⟩:=h;exact ⟨σ',H',I.unwish,q⟩
 |cont=>obtain ⟨σ',H',I,q⟩:=h;exact ⟨σ',H',I.unwish,q⟩
 |ret u=>obtain ⟨v,σ',H',I,r,q⟩:=h;exact ⟨v,σ',H',I.unwish,r,q⟩
theorem PSs.nox {st:List Stmt} {t:TS} (h:PSs X.nox st t):PSs X st t:=fun zB s σ H D I hw=>
 zXG (h zB s σ H D (I.wish _) hw) (fun _ _ q=>q.unwish) fun _ _ z=>False.elim z
end
section
variable {X:Cx} {st:Stmt} {rest:List Stmt} {t u:TS} {e:Expr} {te:TE} {pos:Pos}
def zWF:TS:=fun D σ H=>D.nx σ H
def zWK (t u:TS):TS:=fun D σ H=>t { D with nx:=u D } σ H
theorem zSc:PSs X [] zWF:=fun _ _ σ H _ I h=>wpAny_execs_nil ⟨σ,H,I,h⟩
theorem zR6 (h1:PS X st t) (h2:PSs X rest u):PSs X (st::rest) (zWK t u):=by
 intro zB s σ H D I h;refine wpAny_execs_cons (thn (h1 zB s σ H { D with nx:=u D } I h) fun f s1 q=>?_);cases f with
 |next=>
  obtain ⟨σ',H',I',q⟩:=q;exact h2 zB s1 σ' H' D I' q
 |ret v=>exact q
 |brk=>exact q
 |cont=>exact q
theorem zSf (h1:PS X st t):PSs X [st] t:=by
 intro zB s σ H D I h;refine wpAny_execs_cons (thn (h1 zB s σ H D I h) fun f s1 q=>?_);cases f with
 |next=>exact wpAny_execs_nil q
 |ret v=>exact q
 |brk=>exact q
 |cont=>exact q
theorem Inv.quiet {zB:List (Addr × Obj)} {σ:St} {H:Hp} {s:Shared} (I:Inv X zB σ H s):interactive X.env=false:=by simp[interactive,I.ok.kind]
def zVy (te:TE):TS:=fun D σ H=>te σ H fun _ H1=>D.nx σ H1
theorem zTa (he:PE X e te) (hs:swapsWith e none pos.line X.env=pure false:=by rfl):PS X (.Expr e pos) (zVy te):=by
 intro zB s σ H D I h;exact wpAny_Expr_any (thn (he zB s σ H _ I h) fun v s1 ⟨x,H1,I1,r1,q1⟩=>⟨σ,H1,I1,q1⟩) I.quiet hs
def zWP (te:TE):TS:=fun D σ H=>te σ H D.rt
theorem zVA (he:PE X e te):PS X (.Return (some e) pos) (zWP te):=by
 intro zB s σ H D I h;exact wpAny_Return_some (thn (he zB s σ H _ I h) fun v s1 ⟨x,H1,I1,r1,q1⟩=>⟨x,σ,H1,I1,r1,q1⟩)
def zWS (c:TT) (t u:TS):TS:=fun D σ H=>c σ H fun b H1=>if b=true then t D σ H1 else u D σ H1
theorem zVV {c:Expr} {a b:List Stmt} {tc:TT} (hc:PT X c tc) (ha:PSs X a t) (hb:PSs X b u):PS X (.If c a b pos) (zWS tc t u):=by
 intro zB s σ H D I h;refine wpAny_If (thn (hc zB s σ H _ I h) fun d s1 ⟨H1,I1,q1⟩=>?_);cases d with
 |true=>exact ha zB s1 σ H1 D I1 q1
 |false=>exact hb zB s1 σ H1 D I1 q1
end
abbrev TG:=V->St->Hp->(St->Hp->Prop)->Prop
abbrev TGs:=List V->St->Hp->(St->Hp->Prop)->Prop
def PG (X:Cx) (target:Expr) (t:TG):Prop :=
 ∀ (zB:List (Addr × Obj)) (s:Shared) (σ:St) (H:Hp) (v:V) (u:Value) (Q:St->Hp->Prop),Inv X zB σ H s->zAT v u->t v σ H Q ->
  wpAny (model X.prog X.w) X.A (assign target X.env u) (fun _ s'=>∃ σ' H',Inv X zB σ' H' s'/\Q σ' H') X.xe s
def PGs (X:Cx) (ts:List Expr) (t:TGs):Prop :=
 ∀ (zB:List (Addr × Obj)) (s:Shared) (σ:St) (H:Hp) (vs:List V) (us:List Value) (Q:St->Hp->Prop),Inv X zB σ H s->zy vs us->t vs σ H Q ->
  wpAny (model X.prog X.w) X.A (assignInOrder ((assignEach ts X.env).map (·.2)) us) (fun _ s'=>∃ σ' H',Inv X zB σ' H' s'/\Q σ' H') X.xe s
abbrev zUS:=V->V->V->Hp->(Hp->Prop)->Prop
def zVp (X:Cx) (t:zUS):Prop :=
 ∀ (zB:List (Addr × Obj)) (s:Shared) (σ:St) (H:Hp) (o i v:V) (ov iv u:Value) (Q:Hp->Prop),Inv X zB σ H s->zAT o ov->zAT i iv->zAT v u->t o i v H Q ->
  wpAny (model X.prog X.w) X.A (setItem ov iv u) (fun _ s'=>∃ H',Inv X zB σ H' s'/\Q H') X.xe s
section
variable {X:Cx} {pos:Pos}
def zCe (i:Nat):TG:=fun v σ H Q=>Q (σ.set i (some v)) H
theorem zKB {i:Nat} {x:Str} (hN:X.N.Nodup) (hi:X.N[i]?=some x) (hx:Loc X.env.scope x) (hf:X.fn x=true\/X.env.scope.names.lookup x=some .local:=by first|exact .inl rfl|exact .inr rfl|assumption):PG X (.Name x pos) (zCe i):=by
 intro zB s σ H v u Q I r h;exact wpAny_assign_Name (zMD I hN hi hx r (fun s' I'=>⟨_,H,I',h⟩) hf)
def zRr:TGs:=fun vs σ H Q=>vs=[]/\Q σ H
def zFr (t:TG) (u:TGs):TGs:=fun vs σ H Q=>∃ v r,vs=v::r/\t v σ H fun σ' H'=>u r σ' H' Q
theorem zCs:PGs X [] zRr:=by
 intro zB s σ H vs us Q I r h;obtain ⟨e,h⟩:=h;subst e;cases r;exact assignInOrder_nil ⟨σ,H,I,h⟩
theorem zAF {e:Expr} {es:List Expr} {t:TG} {u:TGs} (h1:PG X e t) (h2:PGs X es u)
  (hs:(assignEach (e::es) X.env).map (·.2)=assign e X.env::(assignEach es X.env).map (·.2):=by rfl):PGs X (e::es) (zFr t u):=by
 intro zB s σ H vs us Q I r h;obtain ⟨v,vr,e1,h⟩:=h;subst e1;cases r with
 |cons r rr=>
  rw[hs];refine assignInOrder_cons (thn (h1 zB s σ H _ _ _ I r h) fun _ s1 ⟨σ1,H1,I1,q1⟩=>?_);exact h2 zB s1 σ1 H1 _ _ Q I1 rr q1
def zQb (K:PySem.W.Frag) (n:Nat) (t:TGs):TG:=fun v σ H Q=>∃ a xs,v=.ref a/\SqT K H a xs/\xs.length=n/\t xs σ H Q
theorem zD0 {es:List Expr} {k:Nat} {t:TGs} {n:Nat} (hc:X.calm=true) (h:PGs X es t)
  (hn:(assignEach es X.env).length=n:=by rfl) (hst:(assignEach es X.env).findIdx? (·.1)=none:=by rfl):PG X (.Tuple es k pos) (zQb X.K n t):=by
 intro zB s σ H v u Q I r hw;obtain ⟨a,xs,e1,hq,hl,hw⟩:=hw;subst e1;cases r;obtain ⟨its,rv,ht,hz⟩:=I.tuple hq;refine assign_Tuple_tuple (I.ok.hd hc) ht (by simp[hn,<-hl,rv.length]) hst fun h' hx=>?_;have I1:Inv X zB σ H { s with heap:=h' }:=I.kept (t':=s.toks) fun b o e=>hx b o (zW5 (zWv e)) e;exact h zB _ σ H xs _ Q I1 (by simpa using rv) hw
def zWf (to ti:TE) (t:zUS):TG:=fun v σ H Q=>to σ H fun o H1=>ti σ H1 fun i H2=>t o i v H2 fun H3=>Q σ H3
theorem zUl {o i:Expr} {to ti:TE} {t:zUS} (ho:PE X o to) (hi:PE X i ti) (hs:zVp X t)
  (ha:∀ v,assign (.Subscript o i pos) X.env v=(do
   let ov <- holding [v] (eval o X.env);let iv <- holding [v,ov] (eval i X.env);standAt pos;holding [v,ov,iv] (setItem ov iv v);release [v,ov,iv] []):=by intro _;rfl):PG X (.Subscript o i pos) (zWf to ti t):=by
 intro zB s σ H v u Q I r h;rw[ha];refine zWk (zXd (thn (ho zB s σ H _ I h) fun ov s1 ⟨x,H1,I1,r1,q1⟩=>?_));refine zWk (zXd (thn (hi zB s1 σ H1 _ I1 q1) fun iv s2 ⟨y,H2,I2,r2,q2⟩=>?_));refine zWk (zXi (zWk (zXd (thn (hs zB s2 σ H2 x y v ov iv u _ I2 r1 r2 r q2) fun _ s3 ⟨H3,I3,q3⟩=>?_))));exact wpAny_release ⟨σ,H3,I3,q3⟩
def zQE (te:TE) (g:TG):TS:=fun D σ H=>te σ H fun x H1=>g x σ H1 D.nx
theorem zRh {tg e:Expr} {te:TE} {g:TG} (he:PE X e te) (hg:PG X tg g) (hs:swapsWithSole [tg] e pos.line X.env=pure false:=by rfl) (hw:swappedStores [tg] e X.env=pure none:=by rfl)
  (h1:(assignEach [tg] X.env).map (·.2)=[assign tg X.env]:=by rfl):PS X (.Assign [tg] e pos) (zQE te g):=by
 intro zB s σ H D I h;refine wpAny_Assign_stores (thn (he zB s σ H _ I h) fun v s1 ⟨x,H1,I1,r1,q1⟩=>?_) hs hw;rw[h1];exact thn (hg zB s1 σ H1 x v _ I1 r1 q1) fun _ s2 q=>q
theorem zU3 {i:Nat} {x:Str} {e:Expr} {te:TE} {pos':Pos} (hN:X.N.Nodup) (hi:X.N[i]?=some x) (hx:Loc X.env.scope x) (he:PE X e te) (hs:swapsWith e (some (.Name x pos')) pos.line X.env=pure false:=by rfl) (hf:X.fn x=true\/X.env.scope.names.lookup x=some .local:=by first|exact .inl rfl|exact .inr rfl|assumption) :
  PS X (.Assign [.Name x pos'] e pos) (zQE te (zCe i)):=by
 intro zB s σ H D I h;refine wpAny_Assign_Name (thn (he zB s σ H _ I h) fun v s1 ⟨y,H1,I1,r1,q1⟩=>?_) hs;exact zMD I1 hN hi hx r1 (fun s2 I2=>⟨_,H1,I2,q1⟩) hf
def zQ4 (c:TT) (tb:TS):TS:=fun D σ H=>∃ W:Nat->St->Hp->Prop,(∃ m,W m σ H) /\ ∀ m σ H,W m σ H ->
 c σ H fun b H1=>if b=true then ∃ N:St->Hp->Prop,(∀ σ' H',N σ' H' -> ∃ m',m'<m/\W m' σ' H')/\tb { D with nx:=N,ct:=N,bk:=D.nx } σ H1 else D.nx σ H1
theorem zQC {c:Expr} {body:List Stmt} {tc:TT} {tb:TS} (hp:PassesOwn (model X.prog X.w) X.A X.env X.xe) (hc:PT X c tc) (hb:PSs X body tb):PS X (.While c body [] pos) (zQ4 tc tb):=by
 intro zB s σ H D I h;obtain ⟨W,⟨m0,w0⟩,turn⟩:=h;refine wpAny_While (codeAny_whileLoop (fun n s'=>∃ σ' H',Inv X zB σ' H' s'/\W n σ' H') ?_ m0 ⟨σ,H,I,w0⟩);rintro n s1 ⟨σ1,H1,I1,w1⟩;refine wpAny_passesOwn hp (thn (hc zB s1 σ1 H1 _ I1 (turn n σ1 H1 w1)) fun b s2 ⟨H2,I2,q2⟩=>?_);cases b with
 |true=>
  obtain ⟨N,hN,q2⟩:=q2;rw[zWz rfl];refine wpAny_passesOwn hp (thn (hb zB s2 σ1 H2 _ I2 q2) fun f s3 q3=>?_);cases f with
  |next=>
   obtain ⟨σ3,H3,I3,n3⟩:=q3;obtain ⟨m',hm,w3⟩:=hN σ3 H3 n3;exact ⟨m',hm,σ3,H3,I3,w3⟩
  |cont=>
   obtain ⟨σ3,H3,I3,n3⟩:=q3;obtain ⟨m',hm,w3⟩:=hN σ3 H3 n3;exact ⟨m',hm,σ3,H3,I3,w3⟩
  |brk=>exact q3
  |ret v=>exact q3
 |false=>
  rw[zW2 zW6];exact wpAny_execs_nil ⟨σ1,H2,I2,q2⟩
end
structure It where
 go:Nat->Hp->Prop
 yld:Nat->Hp->V->Hp->Prop
 stop:Nat->Hp->Prop
def zDB (X:Cx) (zB:List (Addr × Obj)) (H:Hp) (b:Addr):Prop :=
 H b=none/\b≠X.env.locals/\b∉X.fs/\(b∈X.ex\/X.s₀.heap.objs.size<=b)/\(∀ x c,X.env.cells.lookup x=some c->c≠b) /\ ∀ p∈X.pn++zB,p.1≠b
theorem Inv.fpOk {X:Cx} {zB:List (Addr × Obj)} {σ:St} {H H':Hp} {s:Shared} {b:Addr} (I:Inv X zB σ H s) (hb:s.heap.objs.size<=b) (hn:H' b=none):zDB X zB H' b:=by
 refine ⟨hn,zYF (zW9 I.lt hb),I.nofs hb,.inr (zXB I.sz hb),fun x c e z=>?_,fun p hp z=>?_⟩
 ·obtain ⟨v,q⟩:=I.cell x c e;exact absurd (zW9 q.lt (by rw[z];exact hb)) (zXS _)
 ·exact absurd (zW9 (zWv (I.pin p hp).1) (by rw[z];exact hb)) (zXS _)
structure Turn (P:Program) (w:World) (K:PySem.W.Frag) (tg:Expr) (J:It) (fp:List Addr) (it:Addr) (tn:Nat->Heap->Prop):Prop where
 mem:it∈fp
 obj:∀ i h,tn i h -> ∀ b∈fp,∃ o,h.get? b=some o /\ ∀ v,o.data≠.cell v
 keep:∀ i h h',tn i h->(∀ b∈fp,∀ o,h.get? b=some o->h'.get? b=some o)->tn i h'
 item:∀ (X:Cx),X.prog=P->X.w=w->X.K=K->X.calm=true -> ∀ (i:Nat) (zB:List (Addr × Obj)) (s:Shared) (σ:St) (H:Hp) (E:Value->Shared->Prop),Inv X zB σ H s->(∀ b∈fp,zDB X zB H b)->tn i s.heap->J.go i H ->
  wpAny (model P w) X.A (pyNext (.ref it)) (fun r s1=>∃ u,r=some u /\
   wpAny (model P w) X.A (letOwnedTupleGo tg (.ref it) u) (fun _ s2=>∃ x H',Inv X zB σ H' s2/\zAT x u/\J.yld i H x H'/\tn (i+1) s2.heap /\ ∀ b∈fp,H' b=none) E s1) E s
 done:∀ (X:Cx),X.prog=P->X.w=w->X.K=K->X.calm=true -> ∀ (i:Nat) (zB:List (Addr × Obj)) (s:Shared) (σ:St) (H:Hp) (E:Value->Shared->Prop),Inv X zB σ H s->(∀ b∈fp,zDB X zB H b)->tn i s.heap->J.stop i H ->
  wpAny (model P w) X.A (pyNext (.ref it)) (fun r s1=>r=none/\Inv X zB σ H s1) E s
 self:∀ (A:Around) (i:Nat) (s:Shared) (Q:Value->Shared->Prop) (E:Value->Shared->Prop),tn i s.heap->Q (.ref it) s->wpAny (model P w) A (pyIter (.ref it)) Q E s
abbrev TI:=St->Hp->(It->Hp->Prop)->Prop
def PIE (X:Cx) (zB:List (Addr × Obj)) (σ:St) (tg:Expr) (R:It->Hp->Prop) (itv:Value) (s2:Shared):Prop :=
 ∃ (it:Addr) (fp:List Addr) (tn:Nat->Heap->Prop) (J:It) (H':Hp),itv=.ref it/\Inv X zB σ H' s2/\Turn X.prog X.w X.K tg J fp it tn/\tn 0 s2.heap/\(∀ b∈fp,zDB X zB H' b)/\R J H'
def PI (X:Cx) (tg iter:Expr) (wi:TI):Prop :=
  ∀ (zB:List (Addr × Obj)) (s:Shared) (σ:St) (H:Hp) (R:It->Hp->Prop),Inv X zB σ H s->wi σ H R ->
    wpAny (model X.prog X.w) X.A (eval iter X.env) (fun v s1=>wpAny (model X.prog X.w) X.A (pyIter v) (PIE X zB σ tg R) X.xe s1) X.xe s
theorem zRc {M:Model} {A:Around} {E:Value->Shared->Prop} {s:Shared} {tg:Expr} {it:Addr} {u:Value} {o:Obj} {n:String} {vs:Array Value} {Q:Unit->Shared->Prop} (ho:s.heap.get? it=some o) (hc:o.cls=.type n) (hd:o.data=.fields vs)
    (hn:["enumerate", "zip", "dict_itemiterator", "dict_reverseitemiterator", "odict_iterator", "itertools.zip_longest", "itertools.pairwise"].contains n=false) (hQ:Q () s):wpAny M A (letOwnedTupleGo tg (.ref it) u) Q E s:=by
  unfold letOwnedTupleGo
  cases tg <;> first
    |exact zWm hQ
    |(cases u <;> first
        |exact zWm hQ
        | (refine zWk (wpAny_load ho ?_)
           rw[hc,hd];show wpAny M A (if (["enumerate", "zip", "dict_itemiterator", "dict_reverseitemiterator", "odict_iterator", "itertools.zip_longest", "itertools.pairwise"].contains n&&vs[0]?==some (rawInt _))=true then _ else _) Q E s;rw[zW2 (by intro h;rw[hn,Bool.false_and]at h;cases h)];exact zWm hQ))
def Itl (K:PySem.W.Frag) (a:Addr):It :=
 ⟨fun i H=>∃ xs x,SqL K H a xs/\xs[i]?=some x,fun i H x H'=>H'=H /\ ∀ xs,SqL K H a xs->xs[i]?=some x,fun i H=>∃ xs,SqL K H a xs/\xs.length<=i⟩
def Itt (K:PySem.W.Frag) (a:Addr):It :=
 ⟨fun i H=>∃ xs x,SqT K H a xs/\xs[i]?=some x,fun i H x H'=>H'=H /\ ∀ xs,SqT K H a xs->xs[i]?=some x,fun i H=>∃ xs,SqT K H a xs/\xs.length<=i⟩
def Itr (lo:Int) (n:Nat):It:=⟨fun i _=>i<n,fun i H x H'=>H'=H/\x=.int (lo+i),fun i _=>n<=i⟩
theorem zPY {P:Program} {w:World} {K:PySem.W.Frag} {tg:Expr} (a it:Addr):Turn P w K tg (Itl K a) [it] it (fun i h=>h.IsListIter it a i) where
 mem:=by simp
 obj:=fun i h st b hb=>by
  have e:b=it:=by simpa using hb
  subst e;obtain ⟨o,e,c,d⟩:=st;exact ⟨o,e,fun v z=>by rw[d]at z;cases z⟩
 keep:=fun i h h' st k=>st.at fun o e=>k it (by simp) o e;item:=by
  intro X hP hw hK hc i zB s σ H E I hf st hg;subst hP hw hK;obtain ⟨xs,x,hq,hx⟩:=hg;obtain ⟨its,rv,p,hz⟩:=I.list hq;obtain ⟨u,hu,ru⟩:=rv.get hx;obtain ⟨f0,f1,f2,f3,f4,f5⟩:=hf it (by simp);refine wpAny_pyNext_list_item st p.isList (x:=u) (by simpa using hu) fun h' st' sb=>?_;have I1:Inv X zB σ H { s with heap:=h' }:=I.turned (t':=s.toks) (fun b o hb e=>(sb.2 b hb).trans e) f0 f1 f3 f4 f5;obtain ⟨o,e,c,d⟩:=id st';exact ⟨u,rfl,zRc (s:={ s with heap:=h' }) e c d (by decide) ⟨x,H,I1,ru,⟨rfl,fun ys hy=>by rw[I.list_inj hy hq];exact hx⟩,st',fun b hb=>(hf b hb).1⟩⟩
 done:=by
  intro X hP hw hK hc i zB s σ H E I hf st hg;subst hP hw hK;obtain ⟨xs,hq,hx⟩:=hg;obtain ⟨its,rv,p,hz⟩:=I.list hq;obtain ⟨f0,f1,f2,f3,f4,f5⟩:=hf it (by simp);have hl:=rv.length;exact wpAny_pyNext_list_end (I.ok.hd hc) st p.isList (by simp;omega) fun h' eb=>⟨rfl,I.turned (t':=s.toks) (fun b o hb e=>eb b o hb e) f0 f1 f3 f4 f5⟩
 self:=fun _ _ _ _ _ st h=>wpAny_pyIter_listiter st h
theorem zM0 {P:Program} {w:World} {K:PySem.W.Frag} {tg:Expr} (a it:Addr):Turn P w K tg (Itt K a) [it] it (fun i h=>h.IsTupleIter it a i) where
 mem:=by simp
 obj:=fun i h st b hb=>by
  have e:b=it:=by simpa using hb
  subst e;obtain ⟨o,e,c,d⟩:=st;exact ⟨o,e,fun v z=>by rw[d]at z;cases z⟩
 keep:=fun i h h' st k=>st.at fun o e=>k it (by simp) o e;item:=by
  intro X hP hw hK hc i zB s σ H E I hf st hg;subst hP hw hK;obtain ⟨xs,x,hq,hx⟩:=hg;obtain ⟨its,rv,p,hz⟩:=I.tuple hq;obtain ⟨u,hu,ru⟩:=rv.get hx;obtain ⟨f0,f1,f2,f3,f4,f5⟩:=hf it (by simp);refine wpAny_pyNext_tuple_item st (show s.heap.IsTuple a its.toArray from p) (x:=u) (by simpa using hu) fun h' st' sb=>?_;have I1:Inv X zB σ H { s with heap:=h' }:=I.turned (t':=s.toks) (fun b o hb e=>(sb.2 b hb).trans e) f0 f1 f3 f4 f5;obtain ⟨o,e,c,d⟩:=id st';exact ⟨u,rfl,zRc (s:={ s with heap:=h' }) e c d (by decide) ⟨x,H,I1,ru,⟨rfl,fun ys hy=>by rw[I.tuple_inj hy hq];exact hx⟩,st',fun b hb=>(hf b hb).1⟩⟩
 done:=by
  intro X hP hw hK hc i zB s σ H E I hf st hg;subst hP hw hK;obtain ⟨xs,hq,hx⟩:=hg;obtain ⟨its,rv,p,hz⟩:=I.tuple hq;obtain ⟨f0,f1,f2,f3,f4,f5⟩:=hf it (by simp);have hl:=rv.length;exact wpAny_pyNext_tuple_end (I.ok.hd hc) st (show s.heap.IsTuple a its.toArray from p) (by simp;omega) fun h' eb=>⟨rfl,I.turned (t':=s.toks) (fun b o hb e=>eb b o hb e) f0 f1 f3 f4 f5⟩
 self:=fun _ _ _ _ _ st h=>wpAny_pyIter_tupleiter st h
theorem zM9 {P:Program} {w:World} {K:PySem.W.Frag} {tg:Expr} (it:Addr) (lo:Int) (n:Nat):Turn P w K tg (Itr lo n) [it] it (fun i h=>IsRangeIter h it (lo+(i:Nat)*1) ((n:Int)-(i:Nat)) 1) where
 mem:=by simp
 obj:=fun i h st b hb=>by
  have e:b=it:=by simpa using hb
  subst e;exact ⟨_,st,fun v z=>by
   have z':Data.fields _=Data.cell v:=z;cases z'⟩
 keep:=fun i h h' st k=>k it (by simp) _ st;item:=by
  intro X hP hw hK hc i zB s σ H E I hf st hg;subst hP hw hK;obtain ⟨f0,f1,f2,f3,f4,f5⟩:=hf it (by simp);have W:=Walks.range (prog:=X.prog) (w:=X.w) (I.ok.hd hc) it lo 1 n;refine W.item i s _ _ hg st fun v h' tk hv st' kk=>?_;obtain ⟨t,rfl⟩:=hv;have I1:Inv X zB σ H { s with heap:=h',toks:=tk }:=I.turned (fun b o hb e=>kk b o (by simpa using hb) e) f0 f1 f3 f4 f5;refine ⟨_,rfl,zRc (s:={ s with heap:=h',toks:=tk }) (n := "range_iterator") st' rfl rfl (by decide) ⟨.int (lo+i),H,I1,⟨t,?_⟩,⟨rfl,rfl⟩,st',fun b hb=>(hf b hb).1⟩⟩;rw[Int.mul_one]
 done:=by
  intro X hP hw hK hc i zB s σ H E I hf st hg;subst hP hw hK;obtain ⟨f0,f1,f2,f3,f4,f5⟩:=hf it (by simp);exact wpAny_pyNext_range_end (I.ok.hd hc) st (by have:n<=i:=hg;omega) fun h' eb=>⟨rfl,I.turned (t':=s.toks) (fun b o hb e=>eb b o hb e) f0 f1 f3 f4 f5⟩
 self:=fun _ _ _ _ _ st h=>wpAny_pyIter_rangeiter st h
section
variable {X:Cx} {tg:Expr}
theorem zSF {zB:List (Addr × Obj)} {σ:St} {H:Hp} {s:Shared} {R:It->Hp->Prop} {E:Value->Shared->Prop} {lo hi:Int} {t u v:Tok} {tk:Nat} (I:Inv X zB σ H s) (h1 : -(2 ^ 62)<=lo) (h2:lo<2 ^ 62) (h3 : -(2 ^ 62)<=hi) (h4:hi<2 ^ 62)
  (q:R (Itr lo (hi-lo).toNat) H):wpAny (model X.prog X.w) X.A (pyIter (.ref s.heap.objs.size)) (PIE X zB σ tg R) E { s with heap:=s.heap.push { cls:=.type "range", data:=.fields #[.int lo t,.int hi u,.int 1 v] },toks:=tk }:=by
 refine wpAny_pyIter_range (IsRange.new ..) (small_one h1 h2 h3 h4) ?_;have I1:Inv X zB σ H { s with heap:=s.heap.push { cls:=.type "range", data:=.fields #[.int lo t,.int hi u,.int 1 v] },toks:=tk }:=I.kept fun b o e=>zWl _ e
 refine ⟨(s.heap.push { cls:=.type "range", data:=.fields #[.int lo t,.int hi u,.int 1 v] }).objs.size,[(s.heap.push { cls:=.type "range", data:=.fields #[.int lo t,.int hi u,.int 1 v] }).objs.size],_,_,H,rfl,
  I1.kept (t':=tk) fun b o e=>zWl _ e,zM9 _ lo (hi-lo).toNat,?_,fun b hb=>?_,q⟩
 ·have e1:lo+((0:Nat):Int)*1=lo:=by simp
  have e2:(((hi-lo).toNat:Nat):Int)-((0:Nat):Int)=Builtin.Range.rangeSize lo hi 1:=by rw[rangeSize_one];split <;> omega
  show IsRangeIter _ _ (lo+((0:Nat):Int)*1) ((((hi-lo).toNat:Nat):Int)-((0:Nat):Int)) 1;rw[e1,e2];exact zWu _ rfl
 ·have e:b=(s.heap.push { cls:=.type "range", data:=.fields #[.int lo t,.int hi u,.int 1 v] }).objs.size:=by simpa using hb
  subst e;exact I1.fpOk (zWq _) (I1.hok.fresh (zWq _))
def zVm (ta:TA):TI:=fun σ H R=>ta σ H fun vs H1=>∃ j:Int,vs=[.int j] /\ -(2 ^ 62)<=j/\j<2 ^ 62/\R (Itr 0 j.toNat) H1
theorem zPS {a:Expr} {ta:TA} {p pos:Pos} (hg:Gl X "range") (hm:X.mg "range" = none) (ha:PA X [a] ta) (hs:starEach [a] X.env=[(false,eval a X.env)]:=by rfl):PI X tg (.Call (.Name "range" p) [a] [] pos) (zVm ta):=by
 intro zB s σ H R I h;refine Call_ (zGF I hg hm boot_range (PyProof.Rows.callWith_type1 (thn (ha pos zB s σ H _ I h) fun us s1 ⟨vs,H1,I1,r1,q1⟩=>?_) hs rfl));obtain ⟨j,e,q1,q2,q⟩:=q1;subst e;cases r1 with
 |cons r rr=>
  cases rr;obtain ⟨t,rfl⟩:=r;exact call_range_1 (zSF I1 (by omega) (by omega) q1 q2 (by simpa using q))
def zVe (wi:TI) (g:TG) (tb:TS):TS:=fun D σ H=>wi σ H fun J H1=>∃ W:Nat->Nat->St->Hp->Prop,(∃ m,W 0 m σ H1) /\ ∀ i m σ H,W i m σ H ->
 (J.stop i H/\D.nx σ H)\/(J.go i H /\ ∃ N:St->Hp->Prop,(∀ σ' H',N σ' H' -> ∃ m',m'<m/\W (i+1) m' σ' H') /\ ∀ x H',J.yld i H x H'->g x σ H' fun σ2 H2=>tb { D with nx:=N,ct:=N,bk:=D.nx } σ2 H2)
def zDx (fp:List Addr) (h:Heap):List (Addr × Obj):=fp.filterMap fun b=>(h.get? b).map fun o=>(b,o)
theorem zAw {fp:List Addr} {h:Heap} {b:Addr} {o:Obj} (hb:b∈fp) (e:h.get? b=some o):(b,o)∈zDx fp h:=List.mem_filterMap.mpr ⟨b,hb,by rw[e];rfl⟩
theorem zJW {fp:List Addr} {h:Heap} {p:Addr × Obj} (hp:p∈zDx fp h):p.1∈fp/\h.get? p.1=some p.2:=by
 obtain ⟨b,hb,e⟩:=List.mem_filterMap.mp hp;cases q:h.get? b with
 |none=>rw[q]at e;cases e
 |some o=>
  rw[q]at e;have e':(b,o)=p:=zXk e;subst e';exact ⟨hb,q⟩
theorem Inv.pinned {zB:List (Addr × Obj)} {σ:St} {H:Hp} {s:Shared} {fp:List Addr} (I:Inv X zB σ H s) (hf:∀ b∈fp,zDB X zB H b) (ho:∀ b∈fp,∃ o,s.heap.get? b=some o /\ ∀ v,o.data≠.cell v):Inv X (zB++zDx fp s.heap) σ H s :=
 I.pins_of fun p hp=>(zXA.mp hp).elim (fun z=>I.pin p (zW4 _ z)) fun z=>by
  obtain ⟨hb,e⟩:=zJW z;obtain ⟨f0,f1,f2,_⟩:=hf p.1 hb;obtain ⟨o,e',d⟩:=ho p.1 hb;rw[e]at e';cases e';exact ⟨e,f0,f1,f2,d⟩
theorem Inv.unpinned {zB pl:List (Addr × Obj)} {σ:St} {H:Hp} {s:Shared} (I:Inv X (zB++pl) σ H s):Inv X zB σ H s:=I.pins_of fun p hp=>I.pin p (zW4 _ (zXz _ hp))
theorem zUi {iter:Expr} {body:List Stmt} {wi:TI} {g:TG} {tb:TS} {pos:Pos} (hp:PassesOwn (model X.prog X.w) X.A X.env X.xe) (hc:X.calm=true) (hi:PI X tg iter wi) (hg:PG X tg g) (hb:PSs X body tb)
  (hs:∀ x,foldedSetIterable iter X.env x=pure x:=by intro _;rfl):PS X (.For tg iter body [] pos) (zVe wi g tb):=by
 intro zB s σ H D I h;refine wpAny_For (thn (hi zB s σ H _ I h) fun v s1 h1=>thn h1 fun itv s2 h2=>?_) hs;obtain ⟨it,fp,tn,J,H2,e,I2,T,st2,f2,W,⟨m0,w0⟩,turn⟩:=h2;subst e;have stat:∀ {H':Hp},(∀ b∈fp,H' b=none) -> ∀ b∈fp,zDB X zB H' b:=fun hn b hb=>⟨hn b hb,(f2 b hb).2⟩;refine codeAny_forLoop_any (fun n s'=>∃ i σ' H',Inv X zB σ' H' s'/\tn i s'.heap/\(∀ b∈fp,H' b=none)/\W i n σ' H') ?_ m0 ⟨0,σ,H2,I2,st2,fun b hb=>(f2 b hb).1,w0⟩;rintro n s3 ⟨i,σ3,H3,I3,st3,fr3,w3⟩;rcases turn i n σ3 H3 w3 with ⟨stop,qn⟩|⟨go,N,hN,step⟩
 ·refine wpAny_passesOwn hp (thn (T.done X rfl rfl rfl hc i zB s3 σ3 H3 X.xe I3 (stat fr3) st3 stop) fun r s4 ⟨hr,I4⟩=>?_);subst hr;exact wpAny_execs_nil ⟨σ3,H3,I4,qn⟩
 ·refine wpAny_passesOwn hp (thn (T.item X rfl rfl rfl hc i zB s3 σ3 H3 X.xe I3 (stat fr3) st3 go) fun r s4 ⟨u,hr,h4⟩=>?_);subst hr;refine wpAny_passesOwn hp (thn h4 fun _ s5 ⟨x,H5,I5,r5,y5,st5,fr5⟩=>?_);have I5':=I5.pinned (stat fr5) (T.obj _ _ st5);refine wpAny_passesOwn hp (thn (hg _ s5 σ3 H5 x u _ I5' r5 (step x H5 y5)) fun _ s6 ⟨σ6,H6,I6,q6⟩=>?_);refine wpAny_passesOwn hp (thn (hb _ s6 σ6 H6 _ I6 q6) fun f s7 q7=>?_);have again:∀ {σ7:St} {H7:Hp},Inv X (zB++zDx fp s5.heap) σ7 H7 s7->N σ7 H7 -> ∃ m,m<n /\ ∃ i σ' H',Inv X zB σ' H' s7/\tn i s7.heap/\(∀ b∈fp,H' b=none)/\W i m σ' H':=fun {σ7 H7} I7 n7=>by
   obtain ⟨m',hm,w7⟩:=hN σ7 H7 n7;refine ⟨m',hm,i+1,σ7,H7,I7.unpinned,T.keep _ _ _ st5 fun b hb o e=>(I7.pin (b,o) (zW4 _ (zW4 _ (zAw hb e)))).1,fun b hb=>?_,w7⟩;obtain ⟨o,e,d⟩:=T.obj _ _ st5 b hb;exact (I7.pin (b,o) (zW4 _ (zW4 _ (zAw hb e)))).2.1
  cases f with
  |next=>obtain ⟨σ7,H7,I7,n7⟩:=q7;exact again I7 n7
  |cont=>obtain ⟨σ7,H7,I7,n7⟩:=q7;exact again I7 n7
  |brk=>obtain ⟨σ7,H7,I7,q7⟩:=q7;exact ⟨σ7,H7,I7.unpinned,q7⟩
  |ret v=>obtain ⟨x7,σ7,H7,I7,r7,q7⟩:=q7;exact ⟨x7,σ7,H7,I7.unpinned,r7,q7⟩
end
abbrev R2:=V->V->Hp->VK->Prop
def OpR (X:Cx) (f:Value->Value->Sem Value) (r:R2):Prop :=
 ∀ (zB:List (Addr × Obj)) (s:Shared) (σ:St) (H:Hp) (x y:V) (v u:Value) (Q:VK),Inv X zB σ H s->zAT x v->zAT y u->r x y H Q ->
  wpAny (model X.prog X.w) X.A (f v u) (EP X zB σ Q) X.xe s
def UnR (X:Cx) (f:Value->Sem Value) (r:V->Hp->VK->Prop):Prop :=
 ∀ (zB:List (Addr × Obj)) (s:Shared) (σ:St) (H:Hp) (x:V) (v:Value) (Q:VK),Inv X zB σ H s->zAT x v->r x H Q ->
  wpAny (model X.prog X.w) X.A (f v) (EP X zB σ Q) X.xe s
def zCX (X:Cx) (f:Value) (r:List V->Hp->VK->Prop):Prop :=
 ∀ (zB:List (Addr × Obj)) (s:Shared) (σ:St) (H:Hp) (xs:List V) (us:List Value) (Q:VK),Inv X zB σ H s->zy xs us->r xs H Q ->
  wpAny (model X.prog X.w) X.A (call f us) (EP X zB σ Q) X.xe s
def zWJ (X:Cx) (r:V->Hp->(Bool->Hp->Prop)->Prop):Prop :=
 ∀ (zB:List (Addr × Obj)) (s:Shared) (σ:St) (H:Hp) (x:V) (v:Value) (Q:Bool->Hp->Prop),Inv X zB σ H s->zAT x v->r x H Q ->
  wpAny (model X.prog X.w) X.A (truthy v) (TP X zB σ Q) X.xe s
def tOp (r:R2) (ta tb:TE):TE:=fun σ H Q=>ta σ H fun x H1=>tb σ H1 fun y H2=>r x y H2 Q
def tUn (r:V->Hp->VK->Prop) (ta:TE):TE:=fun σ H Q=>ta σ H fun x H1=>r x H1 Q
def rI (C:Int->Int->Prop) (g:Int->Int->V):R2:=fun x y H Q=>∃ i j,x=.int i/\y=.int j/\C i j/\Q (g i j) H
def rI0 (g:Int->Int->V):R2:=fun x y H Q=>∃ i j,x=.int i/\y=.int j/\Q (g i j) H
def rU (g:Int->V):V->Hp->VK->Prop:=fun x H Q=>∃ i,x=.int i/\Q (g i) H
section
variable {X:Cx} {a b c:Expr} {ta tb tc:TE} {pos:Pos}
theorem zT0 (ha:PE X a ta) (hb:PE X b tb) {zB:List (Addr × Obj)} {s:Shared} {σ:St} {H:Hp} {R:V->V->Hp->Prop} (I:Inv X zB σ H s)
  (h:ta σ H fun x H1=>tb σ H1 fun y H2=>R x y H2) {Q:Value->Shared->Prop} {f:Value->Value->Sem Value}
  (hf:∀ v u s2 x y H2,Inv X zB σ H2 s2->zAT x v->zAT y u->R x y H2->wpAny (model X.prog X.w) X.A (f v u) Q X.xe s2) :
  wpAny (model X.prog X.w) X.A (eval a X.env) (fun v s₁=>wpAny (model X.prog X.w) X.A (eval b X.env) (fun u s₂=>wpAny (model X.prog X.w) X.A (f v u) Q X.xe s₂) X.xe s₁) X.xe s:=by
 refine thn (ha zB s σ H _ I h) fun v s1 ⟨x,H1,I1,r1,q1⟩=>?_;refine thn (hb zB s1 σ H1 _ I1 q1) fun u s2 ⟨y,H2,I2,r2,q2⟩=>?_;exact hf v u s2 x y H2 I2 r1 r2 q2
theorem zVt {op:Operator} {r:R2} (ho:OpR X (binaryOp op) r) (ha:PE X a ta) (hb:PE X b tb):PE X (.BinOp a op b pos) (tOp r ta tb):=by
 intro zB s σ H Q I h;exact wpAny_BinOp (zT0 ha hb I h fun v u s2 x y H2 I2 rx ry q=>ho zB s2 σ H2 x y v u Q I2 rx ry q)
theorem zVg {op:UnaryOp} {r:V->Hp->VK->Prop} (ho:UnR X (unaryOp op) r) (ha:PE X a ta):PE X (.UnaryOp op a pos) (tUn r ta):=by
 intro zB s σ H Q I h;exact UnaryOp_ (thn (ha zB s σ H _ I h) fun v s1 ⟨x,H1,I1,r1,q1⟩=>ho zB s1 σ H1 x v Q I1 r1 q1)
theorem opI {f:Value->Value->Sem Value} {C:Int->Int->Prop} {g:Int->Int->Int}
  (rule:∀ (i j:Int) (t u:Tok) (s:Shared) (Q:Value->Shared->Prop) (E:Value->Shared->Prop),C i j->Q (.int (g i j) s.toks) { s with toks:=s.toks+1 }->wpAny (model X.prog X.w) X.A (f (.int i t) (.int j u)) Q E s) :
  OpR X f (rI C fun i j=> .int (g i j)):=by
 intro zB s σ H x y v u Q I rx ry h;obtain ⟨i,j,rfl,rfl,hc,q⟩:=h;obtain ⟨t,rfl⟩:=rx;obtain ⟨t',rfl⟩:=ry;exact rule i j t t' s _ _ hc ⟨.int (g i j),H,I.tok _,⟨_,rfl⟩,q⟩
theorem zVS {f:Value->Value->Sem Value} {g:Int->Int->Int}
  (rule:∀ (i j:Int) (t u:Tok) (s:Shared) (Q:Value->Shared->Prop) (E:Value->Shared->Prop),Q (.int (g i j) s.toks) { s with toks:=s.toks+1 }->wpAny (model X.prog X.w) X.A (f (.int i t) (.int j u)) Q E s) :
  OpR X f (rI0 fun i j=> .int (g i j)):=by
 intro zB s σ H x y v u Q I rx ry h;obtain ⟨i,j,rfl,rfl,q⟩:=h;obtain ⟨t,rfl⟩:=rx;obtain ⟨t',rfl⟩:=ry;exact rule i j t t' s _ _ ⟨.int (g i j),H,I.tok _,⟨_,rfl⟩,q⟩
theorem zS1 {f:Value->Value->Sem Value} {g:Int->Int->Bool}
  (rule:∀ (i j:Int) (t u:Tok) (s:Shared) (Q:Value->Shared->Prop) (E:Value->Shared->Prop),Q (.bool (g i j)) s->wpAny (model X.prog X.w) X.A (f (.int i t) (.int j u)) Q E s) :
  OpR X f (rI0 fun i j=> .bl (g i j)):=by
 intro zB s σ H x y v u Q I rx ry h;obtain ⟨i,j,rfl,rfl,q⟩:=h;obtain ⟨t,rfl⟩:=rx;obtain ⟨t',rfl⟩:=ry;exact rule i j t t' s _ _ ⟨.bl (g i j),H,I,rfl,q⟩
def zWH (i j:Int):Prop:=0<j/\j<1073741824
def zWb (i j:Int):Prop:=0<=j/\j<=1000000/\i.natAbs<2 ^ 64
def zTy (i j:Int):Prop:=(-(2 ^ 64)<i/\i<2 ^ 64)\/(-(2 ^ 64)<j/\j<2 ^ 64)
theorem zTy.ok {i j:Int} (h:zTy i j):IntMulOk i j:=by
 rcases h with ⟨h1,h2⟩|⟨h1,h2⟩
 ·exact .of_left (intBits_le_64 h1 h2)
 ·exact .of_right (intBits_le_64 h1 h2)
theorem zUv:OpR X (binaryOp .Add) (rI0 fun i j=> .int (i+j)):=zVS fun _ _ _ _ _ _ _ q=>add_int q
theorem zU5:OpR X (binaryOp .Sub) (rI0 fun i j=> .int (i-j)):=zVS fun _ _ _ _ _ _ _ q=>sub_int q
theorem zUg:OpR X (binaryOp .Mult) (rI zTy fun i j=> .int (i*j)):=opI fun _ _ _ _ _ _ _ hc q=>mul_int q hc.ok
theorem zSn:OpR X (binaryOp .FloorDiv) (rI zWH fun i j=> .int (i / j)):=opI fun i j _ _ _ _ _ hc q=>by
 have h1:(0:Int)<j:=hc.1;have h2:j<1073741824:=hc.2;exact floordiv_int (by omega) (by rw[Int.fdiv_eq_ediv_of_nonneg i (by omega)];exact q) (.inl (PyProof.noPylong_small (by omega)))
theorem zU0:OpR X (binaryOp .Mod) (rI (fun _ j=>0<j) fun i j=> .int (i % j)):=opI fun i j _ _ _ _ _ hc q=>by
 have h1:(0:Int)<j:=hc;exact mod_int' (by omega) (by rw[Int.fmod_eq_emod_of_nonneg i (by omega)];exact q)
theorem zVH:OpR X (binaryOp .Pow) (rI zWb fun i j=> .int (i ^ j.toNat)):=opI fun _ _ _ _ _ _ _ hc q=>pow_int_small hc.1 hc.2.1 hc.2.2 q
theorem unI {f:Value->Sem Value} {g:Int->Int}
  (rule:∀ (i:Int) (t:Tok) (s:Shared) (Q:Value->Shared->Prop) (E:Value->Shared->Prop),Q (.int (g i) s.toks) { s with toks:=s.toks+1 }->wpAny (model X.prog X.w) X.A (f (.int i t)) Q E s) :
  UnR X f (rU fun i=> .int (g i)):=by
 intro zB s σ H x v Q I rx h;obtain ⟨i,rfl,q⟩:=h;obtain ⟨t,rfl⟩:=rx;exact rule i t s _ _ ⟨.int (g i),H,I.tok _,⟨_,rfl⟩,q⟩
theorem zUY:UnR X (unaryOp .USub) (rU fun i=> .int (-i)):=unI fun _ _ _ _ _ q=>neg_int q
end
def zSz:V->V->Bool
 |.non,.non=>true|.non,.int _=>true|.int _,.non=>true|.non,.bl _=>true|.bl _,.non=>true|.non,.str _=>true|.str _,.non=>true
 |.int _,.int _=>true|.bl _,.bl _=>true|.str _,.str _=>true|.byt _,.byt _=>true
 |.int _,.str _=>true|.str _,.int _=>true|.bl _,.str _=>true|.str _,.bl _=>true
 |_,_=>false
def rEq:R2:=fun x y H Q=>zSz x y=true/\Q (.bl (decide (x=y))) H
def rNe:R2:=fun x y H Q=>zSz x y=true/\Q (.bl (!decide (x=y))) H
theorem zOd {i j:Int}:decide (V.int i=V.int j)=(i==j):=by
 rw[Bool.eq_iff_iff];simp
theorem zRE {i j:Bool}:decide (V.bl i=V.bl j)=(i==j):=by
 rw[Bool.eq_iff_iff];simp
theorem zOF {i j:Str}:decide (V.str i=V.str j)=(i==j):=by
 rw[Bool.eq_iff_iff];simp
theorem zNz {i j:Array UInt8}:decide (V.byt i=V.byt j)=(i.toList==j.toList):=by
 rw[Bool.eq_iff_iff];cases i;cases j;simp
section
variable {X:Cx} {a b c:Expr} {ta tb tc:TE} {pos:Pos}
theorem zAR {zB:List (Addr × Obj)} {σ:St} {H:Hp} {s:Shared} {Q:VK} {k k':Bool} (I:Inv X zB σ H s) (q:Q (.bl k) H) (e:k=k'):EP X zB σ Q (.bool k') s:=by
 subst e;exact ⟨.bl k,H,I,rfl,q⟩
theorem zTi:OpR X (compareOp .Eq) rEq:=by
 intro zB s σ H x y v u Q I rx ry h;obtain ⟨hs,q⟩:=h;cases x with
 |non=>
  cases rx;cases y with
  |non=>cases ry;exact PySem.EqNone.eq_none_none (zAR I q (by simp))
  |bl j=>cases ry;exact PySem.EqNone.eq_none_bool (zAR I q (by simp))
  |int j=>obtain ⟨t',rfl⟩:=ry;exact PySem.EqNone.eq_none_int (zAR I q (by simp))
  |str j=>obtain ⟨t',rfl⟩:=ry;exact PySem.EqNone.eq_none_str (zAR I q (by simp))
  |_=>exact absurd (show false=true from hs) zW6
 |bl i=>
  cases rx;cases y with
  |non=>cases ry;exact PySem.EqNone.eq_bool_none (zAR I q (by simp))
  |bl j=>cases ry;exact eq_bool (zAR I q zRE)
  |str j=>obtain ⟨t',rfl⟩:=ry;exact PySem.EqMixed.eq_bool_str (zAR I q (by simp))
  |_=>exact absurd (show false=true from hs) zW6
 |int i=>
  obtain ⟨t,rfl⟩:=rx;cases y with
  |non=>cases ry;exact PySem.EqNone.eq_int_none (zAR I q (by simp))
  |int j=>obtain ⟨t',rfl⟩:=ry;exact eq_int (zAR I q zOd)
  |str j=>obtain ⟨t',rfl⟩:=ry;exact PySem.EqMixed.eq_int_str (zAR I q (by simp))
  |_=>exact absurd (show false=true from hs) zW6
 |str i=>
  obtain ⟨t,rfl⟩:=rx;cases y with
  |non=>cases ry;exact PySem.EqNone.eq_str_none (zAR I q (by simp))
  |bl j=>cases ry;exact PySem.EqMixed.eq_str_bool (zAR I q (by simp))
  |int j=>obtain ⟨t',rfl⟩:=ry;exact PySem.EqMixed.eq_str_int (zAR I q (by simp))
  |str j=>obtain ⟨t',rfl⟩:=ry;exact eq_str (zAR I q zOF)
  |_=>exact absurd (show false=true from hs) zW6
 |byt i=>
  obtain ⟨t,rfl⟩:=rx;cases y with
  |byt j=>obtain ⟨t',rfl⟩:=ry;exact PySem.W.eq_bytes (zAR I q zNz)
  |_=>exact absurd (show false=true from hs) zW6
 |_=>cases y <;> exact absurd (show false=true from hs) zW6
theorem zVf:OpR X (compareOp .NotEq) rNe:=by
 intro zB s σ H x y v u Q I rx ry h;obtain ⟨hs,q⟩:=h;cases x with
 |non=>
  cases rx;cases y with
  |non=>cases ry;exact PySem.EqNone.ne_none_none (zAR I q (by simp))
  |bl j=>cases ry;exact PySem.EqNone.ne_none_bool (zAR I q (by simp))
  |int j=>obtain ⟨t',rfl⟩:=ry;exact PySem.EqNone.ne_none_int (zAR I q (by simp))
  |str j=>obtain ⟨t',rfl⟩:=ry;exact PySem.EqNone.ne_none_str (zAR I q (by simp))
  |_=>exact absurd (show false=true from hs) zW6
 |bl i=>
  cases rx;cases y with
  |non=>cases ry;exact PySem.EqNone.ne_bool_none (zAR I q (by simp))
  |bl j=>cases ry;exact ne_bool (zAR I q (congrArg not zRE))
  |str j=>obtain ⟨t',rfl⟩:=ry;exact PySem.EqMixed.ne_bool_str (zAR I q (by simp))
  |_=>exact absurd (show false=true from hs) zW6
 |int i=>
  obtain ⟨t,rfl⟩:=rx;cases y with
  |non=>cases ry;exact PySem.EqNone.ne_int_none (zAR I q (by simp))
  |int j=>obtain ⟨t',rfl⟩:=ry;exact ne_int (zAR I q (congrArg not zOd))
  |str j=>obtain ⟨t',rfl⟩:=ry;exact PySem.EqMixed.ne_int_str (zAR I q (by simp))
  |_=>exact absurd (show false=true from hs) zW6
 |str i=>
  obtain ⟨t,rfl⟩:=rx;cases y with
  |non=>cases ry;exact PySem.EqNone.ne_str_none (zAR I q (by simp))
  |bl j=>cases ry;exact PySem.EqMixed.ne_str_bool (zAR I q (by simp))
  |int j=>obtain ⟨t',rfl⟩:=ry;exact PySem.EqMixed.ne_str_int (zAR I q (by simp))
  |str j=>obtain ⟨t',rfl⟩:=ry;exact ne_str (zAR I q (congrArg not zOF))
  |_=>exact absurd (show false=true from hs) zW6
 |byt i=>
  obtain ⟨t,rfl⟩:=rx;cases y with
  |byt j=>obtain ⟨t',rfl⟩:=ry;exact PySem.W.ne_bytes (zAR I q (congrArg not zNz))
  |_=>exact absurd (show false=true from hs) zW6
 |_=>cases y <;> exact absurd (show false=true from hs) zW6
theorem zJi:OpR X (compareOp .Lt) (rI0 fun i j=> .bl (decide (i<j))):=zS1 fun _ _ _ _ _ _ _ q=>lt_int q
theorem zQg:OpR X (compareOp .LtE) (rI0 fun i j=> .bl (decide (i<=j))):=zS1 fun _ _ _ _ _ _ _ q=>le_int q
theorem zVh:OpR X (compareOp .Gt) (rI0 fun i j=> .bl (decide (j<i))):=zS1 fun _ _ _ _ _ _ _ q=>gt_int q
theorem zV0:OpR X (compareOp .GtE) (rI0 fun i j=> .bl (decide (j<=i))):=zS1 fun _ _ _ _ _ _ _ q=>ge_int q
theorem OpR.or {f:Value->Value->Sem Value} {r r':R2} (h:OpR X f r) (h':OpR X f r'):OpR X f (fun x y H Q=>r x y H Q\/r' x y H Q):=by
 intro zB s σ H x y v u Q I rx ry q;rcases q with q|q
 ·exact h zB s σ H x y v u Q I rx ry q
 ·exact h' zB s σ H x y v u Q I rx ry q
theorem zFF (b:Expr) {op:CmpOp} (h:op≠.In:=by decide) (h2:op≠.NotIn:=by decide):behindInMarks op b=false:=by
 have e1:(op==CmpOp.In)=false:=by cases op <;> first|rfl|exact absurd rfl h
 have e2:(op==CmpOp.NotIn)=false:=by cases op <;> first|rfl|exact absurd rfl h2
 cases b <;> simp[behindInMarks,e1,e2]
theorem zSV {op:CmpOp} {r:R2} (ho:OpR X (compareOp op) r) (ha:PE X a ta) (hb:PE X b tb) (hm:behindInMarks op b=false):PE X (.Compare a [op] [b] pos) (tOp r ta tb):=by
 intro zB s σ H Q I h;exact wpAny_Compare1 (zT0 ha hb I h fun v u s2 x y H2 I2 rx ry q=>ho zB s2 σ H2 x y v u Q I2 rx ry q) hm
def zLz (t:TE):TT:=fun σ H Q=>t σ H fun x H'=>∃ k,x=.bl k/\Q k H'
theorem zTQ {op:CmpOp} {r:R2} (ho:OpR X (compareOp op) r) (ha:PE X a ta) (hb:PE X b tb) (hm:behindInMarks op b=false):PT X (.Compare a [op] [b] pos) (zLz (tOp r ta tb)):=by
 intro zB s σ H Q I h;refine wpAny_isTrue_Compare1 (thn (ha zB s σ H _ I h) fun v s1 ⟨x,H1,I1,r1,q1⟩=>thn (hb zB s1 σ H1 _ I1 q1) fun u s2 ⟨y,H2,I2,r2,q2⟩=>
  thn (ho zB s2 σ H2 x y v u _ I2 r1 r2 q2) fun c s3 ⟨z,H3,I3,r3,k,e,q3⟩=>?_) hm
 subst e;cases r3;exact zXw ⟨H3,I3,q3⟩
def zM4 (r r':R2) (ta tb tc:TE):TE:=fun σ H Q=>ta σ H fun x H1=>tb σ H1 fun y H2=>r x y H2 fun z H3=>∃ k,z=.bl k /\
 (if k=true then tc σ H3 fun w' H4=>r' y w' H4 Q else Q (.bl false) H3)
theorem zP6 {op op':CmpOp} {r r':R2} (ho:OpR X (compareOp op) r) (ho':OpR X (compareOp op') r') (ha:PE X a ta) (hb:PE X b tb) (hc:PE X c tc)
  (hm:lastMarks [op,op'] [b,c]=false:=by with_unfolding_all rfl):PE X (.Compare a [op,op'] [b,c] pos) (zM4 r r' ta tb tc):=by
 intro zB s σ H Q I h;refine Compare_chain (thn (ha zB s σ H _ I h) fun v s1 ⟨x,H1,I1,r1,q1⟩=>chain_link (thn (hb zB s1 σ H1 _ I1 q1) fun u s2 ⟨y,H2,I2,r2,q2⟩=>
  thn (ho zB s2 σ H2 x y v u _ I2 r1 r2 q2) fun d s3 ⟨z,H3,I3,r3,k,e,q3⟩=>?_)) hm
 subst e;cases r3;refine zXw ?_;cases k with
 |false=>exact ite_ff ⟨.bl false,H3,I3,rfl,q3⟩
 |true=>exact ite_tt (chain_last (thn (hc zB s3 σ H3 _ I3 q3) fun w' s4 ⟨z',H4,I4,r4,q4⟩=>ho' zB s4 σ H4 y z' u w' Q I4 r2 r4 q4))
theorem zQN {op op':CmpOp} {r r':R2} (ho:OpR X (compareOp op) r) (ho':OpR X (compareOp op') r') (ha:PE X a ta) (hb:PE X b tb) (hc:PE X c tc)
  (hm:lastMarks [op,op'] [b,c]=false:=by with_unfolding_all rfl):PT X (.Compare a [op,op'] [b,c] pos) (zLz (zM4 r r' ta tb tc)):=by
 intro zB s σ H Q I h;refine isTrue_chain (thn (ha zB s σ H _ I h) fun v s1 ⟨x,H1,I1,r1,q1⟩=>test_link (thn (hb zB s1 σ H1 _ I1 q1) fun u s2 ⟨y,H2,I2,r2,q2⟩=>
  thn (ho zB s2 σ H2 x y v u _ I2 r1 r2 q2) fun d s3 ⟨z,H3,I3,r3,k,e,q3⟩=>?_)) hm
 subst e;cases r3;refine zXw ?_;cases k with
 |false=>
  obtain ⟨k',e',q'⟩:=q3;cases e';exact ite_ff ⟨H3,I3,q'⟩
 |true=>
  refine ite_tt (test_last (thn (hc zB s3 σ H3 _ I3 q3) fun w' s4 ⟨z',H4,I4,r4,q4⟩=>thn (ho' zB s4 σ H4 y z' u w' _ I4 r2 r4 q4) fun d' s5 ⟨z2,H5,I5,r5,k2,e2,q5⟩=>?_));subst e2;cases r5;exact zXw ⟨H5,I5,q5⟩
def zV9 (K:PySem.W.Frag) (x:V) (H:Hp) (k:Bool):Prop :=
 match x with
 |.non=>k=false
 |.bl b=>k=b
 |.int i=>k=(i != 0)
 |.str y=>y.length<=sizeLine/\k=((y.length:Int) != 0)
 |.byt y=>y.size<=sizeLine/\k=((y.size:Int) != 0)
 |.ref p=>(∃ xs,SqL K H p xs/\k = !xs.isEmpty)\/(∃ xs,SqT K H p xs/\k = !xs.isEmpty) \/ ∃ kvs,H p=some (.dK kvs)/\k = !kvs.isEmpty
 |_=>False
theorem zNr {κ:Type} {kvs:List (κ × V)} {vs:List (κ × Value)} (r:KV kvs vs):(!vs.isEmpty) = !kvs.isEmpty:=by
 cases r <;> rfl
theorem zIk {xs:List V} {its:List Value} (r:zy xs its):(!its.toArray.isEmpty) = !xs.isEmpty:=by
 cases r <;> simp
theorem zF7:(sizeLine:Nat)<2 ^ 63:=by rw[sizeLine_eq];decide
theorem zUV:zWJ X (fun x H Q=>∃ k,zV9 X.K x H k/\Q k H):=by
 intro zB s σ H x v Q I rx h;obtain ⟨k,e,q⟩:=h;have hl:=zF7;have hs:sizeLine=16777216:=sizeLine_eq;cases x with
 |non=>
  cases rx;have e':k=false:=e;subst e';exact truthy_none ⟨H,I,q⟩
 |bl b=>
  cases rx;have e':k=b:=e;subst e';exact zXw ⟨H,I,q⟩
 |int i=>
  obtain ⟨t,rfl⟩:=rx;have e':k=(i != 0):=e;subst e';exact PySem.P.truthy_int ⟨H,I,q⟩
 |str y=>
  obtain ⟨t,rfl⟩:=rx;obtain ⟨hy,e'⟩:y.length<=sizeLine/\k=((y.length:Int) != 0):=e;subst e';exact PySem.P.truthy_str (by omega) ⟨H,I.tok _,q⟩
 |byt y=>
  obtain ⟨t,rfl⟩:=rx;obtain ⟨hy,e'⟩:y.size<=sizeLine/\k=((y.size:Int) != 0):=e;subst e';exact PySem.W.truthy_bytes (by omega) ⟨H,I.tok _,q⟩
 |ref p=>
  cases rx;have e':(∃ xs,SqL X.K H p xs/\k = !xs.isEmpty)\/(∃ xs,SqT X.K H p xs/\k = !xs.isEmpty) \/ ∃ kvs,H p=some (.dK kvs)/\k = !kvs.isEmpty:=e;rcases e' with ⟨xs,hx,e'⟩|⟨xs,hx,e'⟩|⟨kvs,hx,e'⟩
  ·subst e';obtain ⟨its,r,pl,hz⟩:=I.list hx;have hlen:=r.length;exact wpAny_truthy_list pl.isList (by simp only[zWs];omega) ⟨H,I.tok _,by rw[zIk r];exact q⟩
  ·subst e';obtain ⟨its,r,pl,hz⟩:=I.tuple hx;have hlen:=r.length;exact truthy_tuple pl (by simp only[zWs];omega) ⟨H,I.tok _,by rw[zIk r];exact q⟩
  ·subst e';obtain ⟨hz,hS,vs,r,m⟩:kvs.length<=sizeLine/\(p==sysModules)=false /\ ∃ vs,KV kvs vs/\s.heap.DictOf (zA0 X.prog X.w) p vs:=I.hok p _ hx;have hlen:kvs.length=vs.length:=Paired.length r;exact wpAny_truthy_dict hS m (by omega) ⟨H,I.tok _,by rw[zNr r];exact q⟩
 |_=>exact (show False from e).elim
theorem zRG (ha:PE X a ta) (he:∀ whole,isTrue a X.env whole=(do let v <- whole;standAt a.pos;holding [v] (truthy v))) :
  PT X a (fun σ H Q=>ta σ H fun x H'=>∃ k,zV9 X.K x H' k/\Q k H'):=by
 intro zB s σ H Q I h;exact isTrue_plain (thn (ha zB s σ H _ I h) fun v s1 ⟨x,H1,I1,r1,q1⟩=>zUV zB s1 σ H1 x v Q I1 r1 q1) (he _)
theorem zD8 {x:V} {us:List Value} (r:zy [x] us):∃ u,us=[u]/\zAT x u:=by
 cases r with
 |cons r1 r2=>cases r2;exact ⟨_,rfl,r1⟩
theorem zTb {x y:V} {us:List Value} (r:zy [x,y] us):∃ u w',us=[u,w']/\zAT x u/\zAT y w':=by
 cases r with
 |cons r1 r2=>
  cases r2 with
  |cons r3 r4=>cases r4;exact ⟨_,_,rfl,r1,r3⟩
theorem zRx:zCX X (.builtin "abs") (fun xs H Q=>∃ i,xs=[.int i]/\Q (.int (if i<0 then -i else i)) H):=by
 intro zB s σ H xs us Q I r h;obtain ⟨i,rfl,q⟩:=h;obtain ⟨u,rfl,t,rfl⟩:=zD8 r;exact call_abs_int fun u tk=>⟨.int (if i<0 then -i else i),H,I.tok _,⟨_,rfl⟩,q⟩
theorem zPh (hc:X.calm=true):zCX X (.builtin "max") (fun xs H Q=>∃ i j,xs=[.int i,.int j]/\Q (.int (if j>i then j else i)) H):=by
 intro zB s σ H xs us Q I r h;obtain ⟨i,j,rfl,q⟩:=h;obtain ⟨u,w',rfl,⟨t,rfl⟩,⟨t',rfl⟩⟩:=zTb r;refine max_two_ints (I.ok.hd hc) fun h' tk k=>⟨_,H,I.kept k,?_,q⟩;by_cases hj:j>i
 ·rw[zWz hj,zWz hj];exact ⟨_,rfl⟩
 ·rw[zW2 hj,zW2 hj];exact ⟨_,rfl⟩
theorem zPU (hc:X.calm=true):zCX X (.builtin "min") (fun xs H Q=>∃ i j,xs=[.int i,.int j]/\Q (.int (if j<i then j else i)) H):=by
 intro zB s σ H xs us Q I r h;obtain ⟨i,j,rfl,q⟩:=h;obtain ⟨u,w',rfl,⟨t,rfl⟩,⟨t',rfl⟩⟩:=zTb r;refine min_two_ints (I.ok.hd hc) fun h' tk k=>⟨_,H,I.kept k,?_,q⟩;by_cases hj:j<i
 ·rw[zWz hj,zWz hj];exact ⟨_,rfl⟩
 ·rw[zW2 hj,zW2 hj];exact ⟨_,rfl⟩
theorem zPn:zCX X (.type "int") (fun xs H Q=>(∃ i,xs=[.int i]/\Q (.int i) H) \/ ∃ k,xs=[.bl k]/\Q (.int (if k then 1 else 0)) H):=by
 intro zB s σ H xs us Q I r h;rcases h with ⟨i,rfl,q⟩|⟨k,rfl,q⟩
 ·obtain ⟨u,rfl,t,rfl⟩:=zD8 r;exact call_int_int ⟨.int i,H,I,⟨_,rfl⟩,q⟩
 ·obtain ⟨u,rfl,r1⟩:=zD8 r;cases r1;exact call_int_bool ⟨.int (if k then 1 else 0),H,I.tok _,⟨_,rfl⟩,q⟩
end
structure ObjM (h:Heap) (x dx C:Addr) (mA:Str->Option Value):Prop where
 obj:h.get? x=some (PySem.W.instObj C dx)
 ns:h.Ns1 dx mA
 ne:dx≠x
theorem zOx {h:Heap} {dx:Addr} {mA:Str->Option Value} (n:h.Ns1 dx mA):∃ od,h.get? dx=some od /\ ∀ name,PySem.W.lookIn name od=some (mA name):=by
 obtain ⟨o,es,ep,ho,hd,hk,_,hm⟩:=n;refine ⟨o,ho,fun name=>?_⟩;have e:=hm name;unfold nsFind findBy at e;rw[<-Array.find?_toList]at e;unfold PySem.W.lookIn;rw[hd];dsimp only;split
 ·rename_i y q;rw[q]at e;exact congrArg some e
 ·rename_i q;rw[q]at e;have a:es.toList.any (·.refKey)=false:=by
   rw[List.any_eq_false];intro y hy;obtain ⟨z,t,hkey⟩:=hk y (Array.mem_toList_iff.mp hy);simp[DictEntry.refKey,hkey]
  have a':¬ es.toList.any (·.refKey)=true:=by rw[a];exact zW6
  rw[zW2 a'];exact congrArg some e
theorem ObjM.look {h:Heap} {x dx C:Addr} {mA:Str->Option Value} (I:ObjM h x dx C mA):∃ od,PySem.W.InstAt h x (PySem.W.instObj C dx) C (some od) /\ ∀ name,PySem.W.lookIn name od=some (mA name) :=
 let ⟨od,ho,hl⟩:=zOx I.ns
 ⟨od,⟨I.obj,rfl,rfl,ho⟩,hl⟩
theorem zG6.some_of {v:V} {o:Option Value} (r:zG6 (some v) o):∃ u,o=some u/\zAT v u:=by
 cases o with
 |none=>exact (show False from r).elim
 |some u=>exact ⟨u,rfl,r⟩
section
variable {P:Program} {w:World} {H H':Hp} {h h':Heap} {a C dx:Addr} {fs fs':List (Str × V)}
theorem zSr (hok:HOk P w H h) (e:H a=some (.ins C dx fs)):∃ mA,ObjM h a dx C mA/\(∀ f,zG6 (fs.lookup f) (mA f))/\PySem.Within mA (fs.map (·.1))/\fs.length<=1000/\H dx=some (.own a):=by
 obtain ⟨d,z,ne,ob,mA,n,r,q⟩:=(show zAl P w H h a (.ins C dx fs)from hok a _ e);exact ⟨mA,⟨ob,n,ne⟩,r,q,z,d⟩
end
structure Cls (K:PySem.W.Frag) (C:Addr):Prop where
 pg:PySem.W.plainGet K C Str.empty=true
 hd:PySem.W.hasDictIn K C=true
 po:PySem.W.plainOver K C=true
 sa:PySem.W.findIn K (.ref C) "__setattr__" = some (some (.builtin "object.__setattr__"))
theorem Cls.get {K:PySem.W.Frag} {C:Addr} (c:Cls K C) (f:Str):PySem.W.plainGet K C f=true:=c.pg
section
variable {X:Cx} {zB:List (Addr × Obj)} {σ:St} {H:Hp} {s:Shared} {A:Around} {E:Value->Shared->Prop} {Q:Value->Shared->Prop} {c:Value} {b:Bool}
set_option genInjectivity true in
inductive TyOf (K:PySem.W.Frag) (H:Hp):V->Value->Prop where
 |non:TyOf K H .non (.type "NoneType")
 |bl (x:Bool):TyOf K H (.bl x) (.type "bool")
 |int (i:Int):TyOf K H (.int i) (.type "int")
 |str (x:Str):TyOf K H (.str x) (.type "str")
 |flt (x:UInt64):TyOf K H (.flt x) (.type "float")
 |lst {a:Addr} {xs:List V} (e:H a=some (.lst xs)):TyOf K H (.ref a) (.type "list")
 |frz {a:Addr} {o:Obj} {xs:List V} (e:H a=some (.frz o (.lst xs))):TyOf K H (.ref a) (.type "list")
 |tup {a:Addr} {xs:List V} (e:H a=some (.tup xs)):TyOf K H (.ref a) (.type "tuple")
 |dK {a:Addr} {kvs:List (Key × V)} (e:H a=some (.dK kvs)):TyOf K H (.ref a) (.type "dict")
 |dT {a:Addr} {kvs:List (List Key × V)} (e:H a=some (.dT kvs)):TyOf K H (.ref a) (.type "dict")
 |ins {a C dx:Addr} {fs:List (Str × V)} (e:H a=some (.ins C dx fs)) (cl:Cls K C) (ha:PySem.W.findIn K (.ref C) "__class__" = some (some (.builtin "object.__class__")))
   (hn:PySem.W.specialIn K (.builtin "object.__class__") "__get__" = some (some (.builtin "getset_descriptor.__get__"))) (htk:PySem.W.takesIn K (.builtin "object.__class__")=some true)
   (hm:PySem.W.mroIn K C (.type "object")=some true):TyOf K H (.ref a) (.ref C)
theorem zOf {x:V} {u t:Value} (I:Inv X zB σ H s) (rx:zAT x u) (ty:TyOf X.K H x t) (e:PySem.W.kitOne X.K t c=some b) (h:∀ tk,Q (.bool b) { s with toks:=tk }) :
  wpAny (model X.prog X.w) A (call (.builtin "isinstance") [u,c]) Q E s:=by
 cases ty with
 |non=>cases (show u=Value.none from rx);exact zYN PySem.W.kitx_none I.kIn True.intro e (fun z=>nomatch z) h
 |bl y=>cases (show u=Value.bool y from rx);exact zYN PySem.W.kitx_bool I.kIn True.intro e (fun z=>nomatch z) h
 |int i=>obtain ⟨t,q⟩:=(show ∃ t,u=Value.int i t from rx);cases q;exact zYN PySem.W.kitx_int I.kIn True.intro e (fun z=>nomatch z) h
 |str y=>obtain ⟨t,q⟩:=(show ∃ t,u=Value.str y t from rx);cases q;exact zYN PySem.W.kitx_str I.kIn True.intro e (fun z=>nomatch z) h
 |flt y=>obtain ⟨t,q⟩:=(show ∃ t,u=Value.float y t from rx);cases q;exact zYN PySem.W.kitx_float I.kIn True.intro e (fun z=>nomatch z) h
 | @lst a xs ea=>
  cases (show u=Value.ref a from rx);obtain ⟨_,_,n,_,h1⟩:=(show zAl X.prog X.w H s.heap a (.lst xs)from I.hok a _ ea);exact zYN PySem.W.kitx_list I.kIn ⟨_,h1,rfl⟩ e (fun z=>nomatch z) h
 | @frz a ob xs ea=>
  cases (show u=Value.ref a from rx);obtain ⟨_,_,_,n,_,h1⟩:=(show zAl X.prog X.w H s.heap a (.frz ob (.lst xs))from I.hok a _ ea);exact zYN PySem.W.kitx_list I.kIn ⟨_,h1,rfl⟩ e (fun z=>nomatch z) h
 | @tup a xs ea=>
  cases (show u=Value.ref a from rx);obtain ⟨_,_,_,p⟩:=(show zAl X.prog X.w H s.heap a (.tup xs)from I.hok a _ ea);obtain ⟨o,h1,h2,_⟩:=p;exact zYN PySem.W.kitx_tuple I.kIn ⟨o,h1,h2⟩ e (fun z=>nomatch z) h
 | @dK a kvs ea=>
  cases (show u=Value.ref a from rx);obtain ⟨_,_,vs,_,p⟩:=(show zAl X.prog X.w H s.heap a (.dK kvs)from I.hok a _ ea);obtain ⟨o,es,ep,h1,h2,_⟩:=p;exact zYN PySem.W.kitx_dict I.kIn ⟨o,h1,h2.1⟩ e (fun z=>nomatch z) h
 | @dT a kvs ea=>
  cases (show u=Value.ref a from rx);obtain ⟨_,_,xs,_,o,es,ep,h1,h2,_⟩:=(show zAl X.prog X.w H s.heap a (.dT kvs)from I.hok a _ ea);exact zYN PySem.W.kitx_dict I.kIn ⟨o,h1,h2.1⟩ e (fun z=>nomatch z) h
 | @ins a C dx fs ea cl ha hn htk hm=>
  cases (show u=Value.ref a from rx);obtain ⟨mA,O,_⟩:=zSr I.hok ea;obtain ⟨od,J,_⟩:=O.look;exact zYN (PySem.W.kitx_own (cl.get _) cl.hd ha hn htk hm) I.kIn J e (fun z=>nomatch z) h
end
structure Room (k:Nat) (A:Around):Prop where
 hd:A.handled=none
 dp:A.depth+3*k+5<recursionLimit
 un:A.units+16*k+200<cLine
theorem Room.mono {j k:Nat} {A:Around} (r:Room k A) (h:j<=k):Room j A:=⟨r.hd,by have:=r.dp;omega,by have:=r.un;omega⟩
theorem Room.deeper {k:Nat} {A:Around} (r:Room (k+1) A) (env:Env):Room k (A.deeper env) :=
 ⟨r.hd,by have:=r.dp;show A.depth+1+3*k+5<_;omega,by have:=r.un;show A.units+3+16*k+200<_;omega⟩
theorem Room.depth {k:Nat} {A:Around} (r:Room k A):A.depth<recursionLimit:=by have:=r.dp;omega
theorem Room.units {k:Nat} {A:Around} (r:Room k A):A.units+64<cLine:=by have:=r.un;omega
theorem Room.units0 {k:Nat} {A:Around} (r:Room k A):A.units<cLine:=by have:=r.un;omega
def zWZ:TA:=fun _ H Q=>Q [] H
def zVU (ta:TE) (tr:TA):TA:=fun σ H Q=>ta σ H fun x H1=>tr σ H1 fun xs H2=>Q (x::xs) H2
section
variable {X:Cx} {e:Expr} {es:List Expr} {te:TE} {t:TA} {pos:Pos}
theorem zGL:PA X [] zWZ:=fun _ _ _ _ H Q I h=>Calls.spliced_nil ⟨[],H,I,.nil,h⟩
theorem zDh (ha:PE X e te) (hr:PA X es t) (hs:starEach (e::es) X.env=(false,eval e X.env)::starEach es X.env:=by rfl):PA X (e::es) (zVU te t):=by
 intro pos zB s σ H Q I h;rw[hs];show wpAny _ _ (spliced ((false,eval e X.env)::backTo pos (starEach es X.env))) _ _ s;refine Calls.spliced_cons (thn (ha zB s σ H _ I h) fun u s1 ⟨x,H1,I1,r1,q1⟩=>?_);exact thn (hr pos zB s1 σ H1 _ I1 q1) fun us s2 ⟨xs,H2,I2,r2,q2⟩=>⟨x::xs,H2,I2,.cons r1 r2,q2⟩
def zWO (t:TA):TE:=fun σ H Q=>t σ H fun xs H1=>xs.length<=sizeLine /\ ∀ p,H1 p=none->Q (.ref p) (upd H1 p (.tup xs))
def zWR (t:TA):TE:=fun σ H Q=>t σ H fun xs H1=>xs.length<=sizeLine /\ ∀ p,H1 p=none->Q (.ref p) (upd H1 p (.lst xs))
theorem zUW {x1} (h:PA X es t):PE X (.Tuple es x1 pos) (zWO t):=by
 intro zB s σ H Q I hq;refine wpAny_Tuple_spliced (thn (h pos zB s σ H _ I hq) fun us s1 ⟨xs,H1,I1,r,z,q⟩=>⟨by rw[<-r.length];exact z,?_⟩);have hf:H1 s1.heap.objs.size=none:=I1.hok.fresh (zWq _);refine ⟨.ref s1.heap.objs.size,upd H1 s1.heap.objs.size (.tup xs),I1.laid (t':=s1.toks) (fun b u e=>zWl _ e) (zWq _) ?_,rfl,q _ hf⟩;exact ⟨z,us,r,⟨_,zWu _ rfl,rfl,⟨_,rfl⟩,rfl⟩⟩
theorem zUc (h:PA X es t):PE X (.List es pos) (zWR t):=by
 intro zB s σ H Q I hq;refine wpAny_List_spliced (thn (h pos zB s σ H _ I hq) fun us s1 ⟨xs,H1,I1,r,z,q⟩=>⟨by rw[<-r.length];exact z,?_⟩);have hf:H1 s1.heap.objs.size=none:=I1.hok.fresh (zWq _);refine ⟨.ref s1.heap.objs.size,upd H1 s1.heap.objs.size (.lst xs),I1.laid (t':=s1.toks) (fun b u e=>zWl _ e) (zWq _) ?_,rfl,q _ hf⟩;exact ⟨z,us,0,r,zWu _ rfl⟩
end
abbrev Sp:=List V->Hp->VK->XK->Prop
abbrev CXT:=List Env->Hp->Shared->XK->Value->Shared->Prop
structure Env0 (P:Program) (w:World) (K:PySem.W.Frag) (mg:Str->Option Value) (base:Heap) (A:Around) (outer:List Env) (s:Shared) (H:Hp):Prop where
 frames:A.frames=some outer
 mod:Mod K mg base
 bs:∀ b o,base.get? b=some o->s.heap.get? b=some o/\H b=none
 bsz:base.objs.size<=s.heap.objs.size
 funs:s.heap.FunFrames base outer
 frf:∀ b∈frs outer,H b=none
 hok:HOk P w H s.heap
 bare:AllBare s.gens
def CE (outer:List Env) (P:Program) (w:World) (H:Hp) (s:Shared) (Q:VK) (u:Value) (s':Shared):Prop :=
 ∃ v H',s'.os=s.os/\AllBare s'.gens/\Un (frs outer) [] H H' s.heap s'.heap/\HOk P w H' s'.heap/\zAT v u/\Q v H'
def CR (CX:CXT) (outer:List Env) (P:Program) (w:World) (H:Hp) (s:Shared) (Q:VK) (E:XK) (r:Result) (s':Shared):Prop :=
 match r with
 |.ok (.ret u)=>CE outer P w H s Q u s'
 |.ok _=>False
 |.error e=>CX outer H s E e s'
structure FnOk (P:Program) (w:World) (K:PySem.W.Frag) (mg:Str->Option Value) (base:Heap) (CX:CXT) (k:Nat) (f:Addr) (fd:FuncData) (ps:List Str) (sp:Sp):Prop where
 len:∀ vs H Q E,sp vs H Q E->vs.length=ps.length
 run:∀ (A:Around) (outer:List Env) (s:Shared) (H:Hp) (args:Args) (us:List Value) (vs:List V) (Q:VK) (E:XK),Room k A->Env0 P w K mg base A outer s H->BindsTo s fd args (ps.zip us)->zy vs us->sp vs H Q E ->
  codeAny (model P w) A (.call (.ref f) args) (CR CX outer P w H s Q E) s
theorem FnOk.imp {P:Program} {w:World} {K:PySem.W.Frag} {mg:Str->Option Value} {base:Heap} {CX:CXT} {k:Nat} {f:Addr} {fd:FuncData} {ps:List Str} {sp sp':Sp} (F:FnOk P w K mg base CX k f fd ps sp)
  (h:∀ vs H Q E,sp' vs H Q E->sp vs H Q E):FnOk P w K mg base CX k f fd ps sp' :=
 ⟨fun vs H Q E q=>F.len vs H Q E (h _ _ _ _ q),fun A outer s H args us vs Q E hr he hb hv hs=>F.run A outer s H args us vs Q E hr he hb hv (h _ _ _ _ hs)⟩
section
variable {X:Cx} {zB:List (Addr × Obj)} {σ:St} {H:Hp} {s s':Shared}
theorem Inv.env0 (I:Inv X zB σ H s):Env0 X.prog X.w X.K X.mg X.base X.A X.stack s H :=
 ⟨I.ok.frames,I.ok.mod,I.bs,zXB I.ok.bsz I.sz,I.stack,I.stkFree,I.hok,I.bare⟩
theorem Inv.after {Q:VK} {u:Value} (I:Inv X zB σ H s) (h:CE X.stack X.prog X.w H s Q u s'):EP X zB σ Q u s':=by
 obtain ⟨v,H',os,bare,un,hok,r,q⟩:=h;obtain ⟨hh,g,d,t,os'⟩:=s';obtain rfl:os'=s.os:=os;exact ⟨v,H',I.call (h':=hh) (g':=g) (d':=d) (t':=t) (ch:=[]) un hok bare (fun b z=>absurd z (by simp)),r,q⟩
end
def zVO (sp:Sp) (dvs:List V) (E:XK) (t:TA):TE:=fun σ H Q=>t σ H fun vs H1=>sp (vs++dvs) H1 Q E
def zIm (K:PySem.W.Frag) (fd:FuncData) (ps:List Str) (ds:List Value):Prop :=
 ∀ (s:Shared) (us:List Value),K.In s.heap->(us++ds).length=ps.length->BindsTo s fd ⟨us,[]⟩ (ps.zip (us++ds))
theorem zIm.all {K:PySem.W.Frag} {fd:FuncData} {ps:List Str} (h:∀ us:List Value,us.length=ps.length->bindArgs fd ⟨us,[]⟩=pure (ps.zip us)):zIm K fd ps []:=fun s us _ hl=>by
 rw[zXU]at hl ⊢;exact .of_eq (h us hl)
def zNl (CX:CXT) (X:Cx) (E:XK):Prop:=∀ (zB:List (Addr × Obj)) (σ:St) (H:Hp) (s:Shared) (e:Value) (s':Shared),Inv X zB σ H s->CX X.stack H s E e s'->X.xe e s'
section
variable {X:Cx} {CX:CXT} {k:Nat} {f C:Addr} {fd:FuncData} {ps:List Str} {sp:Sp} {dvs:List V} {ds:List Value} {E:XK} {x m:Str} {p pos apos:Pos} {e o:Expr} {es:List Expr} {ta:TE} {t:TA}
theorem zUd {zB:List (Addr × Obj)} {σ:St} {H:Hp} {s:Shared} {Q:VK} {us:List Value} {vs:List V} (F:FnOk X.prog X.w X.K X.mg X.base CX k f fd ps sp) (hr:Room k X.A) (hb:zIm X.K fd ps ds) (hd:zy dvs ds) (hx:zNl CX X E)
  (I:Inv X zB σ H s) (r:zy vs us) (h:sp (vs++dvs) H Q E):wpAny (model X.prog X.w) X.A (call (.ref f) us) (EP X zB σ Q) X.xe s:=by
 have r2:zy (vs++dvs) (us++ds):=r.append hd;have hl:(us++ds).length=ps.length:=by rw[<-r2.length];exact F.len _ _ _ _ h
 refine wpAny_call (codeAny_mono (F.run X.A X.stack s H ⟨us,[]⟩ (us++ds) (vs++dvs) Q E hr I.env0 (hb s us I.kIn hl) r2 h) fun r s' hq=>?_);cases r with
 |error e=>exact hx zB σ H s e s' I hq
 |ok fl=>
  cases fl with
  |ret u=>exact I.after hq
  |next=>exact False.elim hq
  |brk=>exact False.elim hq
  |cont=>exact False.elim hq
theorem zTN (F:FnOk X.prog X.w X.K X.mg X.base CX k f fd ps sp) (hr:Room k X.A) (hg:Gl X x) (hm:X.mg x=some (.ref f)) (hk:PySem.W.keepIn X.K (.ref f)=true) (hb:zIm X.K fd ps ds) (hd:zy dvs ds) (hx:zNl CX X E)
  (ha:PA X (e::es) t) (hdb:(x==("__debug__" : Str))=false:=by decide) (he:starEach (e::es) X.env=(false,eval e X.env)::starEach es X.env:=by rfl) (hpl:(backTo pos (starEach es X.env)).any (·.1)=false:=by rfl) :
  PE X (.Call (.Name x p) (e::es) [] pos) (zVO sp dvs E t):=by
 intro zB s σ H Q I h;refine wpAny_Call_Name_kw (zST I hg hm ?_ hdb);refine PySem.W.callWith_K (h₀:=X.base) I.ok.mod.kin hk (thn (ha pos zB s σ H _ I h) fun us s1 ⟨vs,H1,I1,r,q⟩=>⟨I1.kIn,?_⟩) he hpl;exact zUd F hr hb hd hx I1 r q
end
structure FnScope (N P:List Str) (sc:Scope):Prop where
 kind:sc.kind=.function
 co:sc.isCoroutine=false
 gen:sc.isGenerator=false
 nd:N.Nodup
 pre:N.take P.length=P
 par:∀ x∈P,sc.names.lookup x=some .local\/sc.names.lookup x=some .cell
 nofree:∀ y∈sc.names,y.2≠.free
theorem zJ3 {kindOf:Str->Option NameKind} {x:Str}:∀ {binds:List (Str × Value)} {m:Str->Option Value},(∀ v,(x,v)∉binds)->bindL kindOf binds m x=m x
 |[],_,_=>rfl
 |(n,v)::r,m,h=>by
  unfold bindL;rw[zJ3 fun w hw=>h w (zWx _ hw)];split
  ·have:x≠n:=by rintro rfl;exact h v zWy
   simp[this]
  ·rfl
theorem zJv {kindOf:Str->Option NameKind} {x:Str}:∀ {binds:List (Str × Value)} {m:Str->Option Value},(∀ v,(x,v)∉binds)->bindC kindOf binds m x=m x
 |[],_,_=>rfl
 |(n,v)::r,m,h=>by
  unfold bindC;rw[zJv fun w hw=>h w (zWx _ hw)];split
  ·rfl
  ·have:x≠n:=by rintro rfl;exact h v zWy
   simp[this]
theorem zJZ {kindOf:Str->Option NameKind} {x:Str} {v:Value}:∀ {P:List Str} {vs:List Value} {i:Nat} {m:Str->Option Value},P.Nodup->P[i]?=some x->vs[i]?=some v->kindOf x=some .local ->
  bindL kindOf (P.zip vs) m x=some v
 |[],_,_,_,_,h,_,_=>by simp at h
 |_::_,[],_,_,_,_,h,_=>by simp at h
 |p::P,w::vs,0,m,nd,h1,h2,hk=>by
  simp at h1 h2;subst h1;subst h2;show bindL kindOf ((p,w)::P.zip vs) m p=_;unfold bindL;rw[zJ3 fun v hv=>(List.nodup_cons.mp nd).1 (List.of_mem_zip hv).1,zWz hk];simp
 |p::P,w::vs,i+1,m,nd,h1,h2,hk=>by
  show bindL kindOf ((p,w)::P.zip vs) m x=_;unfold bindL;exact zJZ (i:=i) (List.nodup_cons.mp nd).2 (by simpa using h1) (by simpa using h2) hk
theorem zJn {kindOf:Str->Option NameKind} {x:Str} {v:Value}:∀ {P:List Str} {vs:List Value} {i:Nat} {m:Str->Option Value},P.Nodup->P[i]?=some x->vs[i]?=some v->kindOf x≠some .local ->
  bindC kindOf (P.zip vs) m x=some v
 |[],_,_,_,_,h,_,_=>by simp at h
 |_::_,[],_,_,_,_,h,_=>by simp at h
 |p::P,w::vs,0,m,nd,h1,h2,hk=>by
  simp at h1 h2;subst h1;subst h2;show bindC kindOf ((p,w)::P.zip vs) m p=_;unfold bindC;rw[zJv fun v hv=>(List.nodup_cons.mp nd).1 (List.of_mem_zip hv).1,zW2 hk];simp
 |p::P,w::vs,i+1,m,nd,h1,h2,hk=>by
  show bindC kindOf ((p,w)::P.zip vs) m x=_;unfold bindC;exact zJn (i:=i) (List.nodup_cons.mp nd).2 (by simpa using h1) (by simpa using h2) hk
def zFo (N:List Str) (vs:List V):St:=vs.map some++List.replicate (N.length-vs.length) none
def zNA (CX:CXT) (P:Program) (w:World) (K:PySem.W.Frag) (mg:Str->Option Value) (base:Heap) (N:List Str) (qual:Str) (scope:Scope) (f:Addr) (cd:Value) (A:Around) (outer:List Env) (s:Shared) (H:Hp) (E:XK):Cx where
 prog:=P
 w:=w
 K:=K
 mg:=mg
 base:=base
 A:=A.deeper (envOfC qual scope s.heap.objs.size f cd)
 N:=N
 s₀:=s
 H₀:=H
 env:=envOfC qual scope s.heap.objs.size f cd
 outer:=outer
 stack:=envOfC qual scope s.heap.objs.size f cd::outer
 ex:=[]
 calm:=true
 fn:=fun _=>true
 pn:=[]
 xe:=fun e s'=>wpAny (model P w) (A.deeper (envOfC qual scope s.heap.objs.size f cd)) (leaving (envOfC qual scope s.heap.objs.size f cd) e) (fun _ s''=>CX outer H s E e s'') (fun e' s''=>CX outer H s E e' s'') s'
theorem zIT {sc:Scope} {n:Nat} {x:Str} (h:sc.names.lookup x=some .cell):∃ c,(cellsFrom n sc.names []).lookup x=some c:=by
 have q:=PySem.W.cellsFrom_some sc.names n [] (.inl h);exact Option.isSome_iff_exists.mp q
theorem zPI {CX:CXT} {P:Program} {w:World} {K:PySem.W.Frag} {mg:Str->Option Value} {base:Heap} {N ps:List Str} {qual:Str} {scope:Scope} {f:Addr} {cd:Value} {A:Around} {outer:List Env} {s s1:Shared} {H:Hp} {E:XK} {us:List Value} {vs:List V}
  (S:FnScope N ps scope) (hd:A.handled=none) (e0:Env0 P w K mg base A outer s H) (hl:vs.length=ps.length) (r:zy vs us)
  (x:InCallC s s.heap.objs.size (bindL (envOfC qual scope s.heap.objs.size f cd).kindOf (ps.zip us) fun _=>none) (cellsFrom (s.heap.objs.size+1) scope.names []) (bindC (envOfC qual scope s.heap.objs.size f cd).kindOf (ps.zip us) fun _=>none) s1) :
  Inv (zNA CX P w K mg base N qual scope f cd A outer s H E) [] (zFo N vs) H s1:=by
 have hpl:ps.length<=N.length:=by have:=congrArg List.length S.pre;rw[zX8]at this;omega
 obtain ⟨h1,tk,rfl,hk⟩:=x.done;have noA:∀ b:Addr,b∉(zNA CX P w K mg base N qual scope f cd A outer s H E).ex:=fun b z=>absurd (show b∈([]:List Addr)from z) (by simp)
 refine ⟨⟨e0.mod,S.kind,rfl,rfl,zWq _,fun y z c h1 h2=>?_,fun y hy=>?_,fun y c _ h=>?_,fun _=>hd,Around.frames_deeper e0.frames,.inr ⟨rfl,rfl⟩,fun b z=>absurd z (noA b),e0.bs,e0.bsz,fun b _ _=>noA b,fun b z=>absurd z (noA b),e0.funs,e0.frf⟩,
  rfl,e0.bare,Un.kept hk,⟨_,x.toInCall.ns,fun i y v h1 h2 h3=>?_⟩,fun y c h=>⟨_,x.cell y c h⟩,e0.hok.fresh (zWq _),fun y c h=>?_,fun p hp=>absurd (show p∈([]:List (Addr × Obj))from hp) (by simp),e0.hok.kept hk,?_⟩
 ·exact name_of_addr x.apart (zXm h1) (zXm h2)
 ·have hy:scope.names.lookup y=some .cell\/scope.names.lookup y=some .free:=hy;rcases hy with hy|hy
  ·exact zIT hy
  ·exact absurd rfl (S.nofree _ (zXm hy))
 ·exact Nat.le_of_lt (x.above y c (zXm h))
 ·have hi:i<vs.length:=by
   unfold zFo at h2;by_cases hi:i<vs.length
   ·exact hi
   ·rw[zXu (by simpa using hi)]at h2;rw[List.getElem?_replicate]at h2;split at h2 <;> cases h2
  have ha:vs[i]?=some v:=by
   unfold zFo at h2;rw[zWr (by simpa using hi),zW7]at h2;cases e:vs[i]? with
   |none=>rw[e]at h2;cases h2
   |some a=>rw[e]at h2;cases h2;rfl
  obtain ⟨u,hu,rv⟩:=r.get ha;have hp:ps[i]?=some y:=by
   rw[<-S.pre,List.getElem?_take_of_lt (by omega)];exact h1
  have ndP:ps.Nodup:=by rw[<-S.pre];exact S.nd.sublist (List.take_sublist _ _)
  refine ⟨u,rv,?_⟩;rcases S.par y (List.mem_of_getElem? hp)with k|k
  ·exact .inl ⟨k,zJZ ndP hp hu k⟩
  ·obtain ⟨c,e⟩:=zIT (n:=s.heap.objs.size+1) k;refine .inr ⟨.inl k,c,e,?_⟩;have q:=x.cell y c e;rw[zJn ndP hp hu (by show scope.names.lookup y≠_;rw[k];decide)]at q;exact q
 ·exact e0.hok.fresh (Nat.le_of_lt (x.above y c (zXm h)))
 ·unfold zFo;show _=N.length;rw[zW0,zWt,List.length_replicate];omega
theorem zVX {CX:CXT} {P:Program} {w:World} {K:PySem.W.Frag} {mg:Str->Option Value} {base:Heap} {k:Nat} {f:Addr} {name qual:Str} {params:Arguments} {body:List Stmt} {scope:Scope} {dV kV doc pm cdv ct oc:Value} {an od:Option Addr}
  {osl:Array (Option Value)} {N ps:List Str} {sp:Sp} (lk:K.lookup f=some ⟨oc,od,.func (PySem.W.fnOf name qual params body scope dV kV doc pm an cdv ct),osl⟩) (hcd:PySem.W.codeIn K cdv qual=true) (S:FnScope N ps scope)
  (len:∀ vs H Q E,sp vs H Q E->vs.length=ps.length)
  (hbody:∀ (A:Around) (outer:List Env) (s:Shared) (H:Hp) (vs:List V) (Q:VK) (E:XK),Room k (A.deeper (envOfC qual scope s.heap.objs.size f cdv))->sp vs H Q E ->
   ∃ t,PSs (zNA CX P w K mg base N qual scope f cdv A outer s H E) body t/\t { nx:=fun _ H'=>Q .non H',rt:=Q } (zFo N vs) H) :
  FnOk P w K mg base CX (k+1) f (PySem.W.fnOf name qual params body scope dV kV doc pm an cdv ct) ps sp:=by
 refine ⟨len,fun A outer s H args us vs Q E hr e0 hb r hsp=>?_⟩;have hl:=len _ _ _ _ hsp;have KX:K.In s.heap:=e0.mod.kin.keeps fun b o e=>(e0.bs b o e).1;have lim:s.heap.NoLimit:=e0.mod.nolimit.keeps fun b o e=>(e0.bs b o e).1;have hkind:∀ y∈ps.zip us,scope.names.lookup y.1=some .local\/(scope.names.lookup y.1=some .cell/\((cellsFrom (s.heap.objs.size+1) scope.names []).lookup y.1).isSome=true):=fun ⟨n,v⟩ hy=>by
  rcases S.par n (List.of_mem_zip hy).1 with q|q
  ·exact .inl q
  ·exact .inr ⟨q,PySem.W.cellsFrom_some _ _ _ (.inl q)⟩
 refine codeAny_call_function hr.depth (KX _ _ lk) rfl S.co S.gen rfl (PySem.W.codeRec_of KX hcd) (hb _ _ _ _ ?_);refine wpAny_newFunctionEnv_cells S.kind hkind fun env he s1 x=>?_;subst he;refine ⟨lim.keeps x.toInCall.keep,codeAny_func ?_⟩;obtain ⟨t,ht,hq⟩:=hbody A outer s H vs Q E (hr.deeper _) hsp;have I:Inv (zNA CX P w K mg base N qual scope f cdv A outer s H E) [] (zFo N vs) H s1:=zPI S hr.hd e0 hl r x;refine zXG (ht [] s1 (zFo N vs) H _ I hq) (fun fl s' hs=>?_) fun e s' hs=>hs;have fin:∀ {σ':St} {H':Hp} {v:V} {u:Value},Inv (zNA CX P w K mg base N qual scope f cdv A outer s H E) [] σ' H' s'->zAT v u->Q v H'->CE outer P w H s Q u s' :=
  fun {σ' H' v u} J rv q=>⟨v,H',J.os,J.bare,J.base,J.hok,rv,q⟩
 cases fl with
 |ret u=>
  obtain ⟨v,σ',H',J,rv,q⟩:=hs;exact fin J rv q
 |next=>
  obtain ⟨σ',H',J,q⟩:=hs;exact fin (v:=V.non) (u:=Value.none) J rfl q
 |brk=>
  obtain ⟨_,_,_,q⟩:=hs;exact False.elim q
 |cont=>
  obtain ⟨_,_,_,q⟩:=hs;exact False.elim q
section
variable {X:Cx} {x:Str} {p pos:Pos} {e:Expr} {es:List Expr} {t:TA} {id T:String} {r:List V->Hp->VK->Prop}
def tCB (r:List V->Hp->VK->Prop) (t:TA):TE:=fun σ H Q=>t σ H fun vs H1=>r vs H1 Q
theorem zMR (hc:zCX X (.builtin id) r) (hg:Gl X x) (hm:X.mg x=none) (hv:bootBuiltins x=some (.builtin id)) (ha:PA X (e::es) t) (hn:x ≠ "__name__" := by decide) (hdb:(x==("__debug__" : Str))=false:=by decide)
  (he:starEach (e::es) X.env=(false,eval e X.env)::starEach es X.env:=by rfl) (hpl:(backTo pos (starEach es X.env)).any (·.1)=false:=by rfl):PE X (.Call (.Name x p) (e::es) [] pos) (tCB r t):=by
 intro zB s σ H Q I h;refine wpAny_Call_Name_kw (zGF I hg hm hv ?_ hn hdb);exact PyProof.Rows.callWith_builtin1 (thn (ha pos zB s σ H _ I h) fun us s1 ⟨vs,H1,I1,r1,q1⟩=>hc zB s1 σ H1 vs us Q I1 r1 q1) he hpl
theorem zEE (hc:zCX X (.type T) r) (hg:Gl X x) (hm:X.mg x=none) (hv:bootBuiltins x=some (.type T)) (ha:PA X (e::es) t) (hn:x ≠ "__name__" := by decide) (hdb:(x==("__debug__" : Str))=false:=by decide)
  (he:starEach (e::es) X.env=(false,eval e X.env)::starEach es X.env:=by rfl) (hpl:(backTo pos (starEach es X.env)).any (·.1)=false:=by rfl):PE X (.Call (.Name x p) (e::es) [] pos) (tCB r t):=by
 intro zB s σ H Q I h;refine wpAny_Call_Name_kw (zGF I hg hm hv ?_ hn hdb);exact PyProof.Rows.callWith_type1 (thn (ha pos zB s σ H _ I h) fun us s1 ⟨vs,H1,I1,r1,q1⟩=>hc zB s1 σ H1 vs us Q I1 r1 q1) he hpl
end
end L2
namespace HT
open PySem PyProof.Rows
section
variable {prog:Program} {w:World} {A:Around} {E:Value->Shared->Prop} {s:Shared}
theorem zTV {t b:Addr} {vs ws:List Value} {Q:Value->Shared->Prop} (ht:IsTup s.heap t vs.toArray) (hb:IsTup s.heap b ws.toArray) (hv:vs≠[])
  (h1:ws=[]->Q (.ref t) s) (h2:ws≠[]->Q (.ref s.heap.objs.size) { s with heap:=s.heap.push { cls:=.type "tuple", data:=.seq (vs++ws).toArray } })
  (hsz:vs.length+ws.length<=sizeLine):wpAny (model prog w) A (binaryOp .Add (.ref t) (.ref b)) Q E s:=by
 obtain ⟨⟨cls,dd,data,sl⟩,ho,hc,n,hd⟩:=id ht;obtain ⟨⟨cls2,dd2,data2,sl2⟩,ho2,hc2,n2,hd2⟩:=id hb;simp only at hc hd hc2 hd2;subst hc hd hc2 hd2;have e:vs.toArray++ws.toArray=(vs++ws).toArray:=by simp
 by_cases hw:ws=[]
 ·exact concat_meets ⟨_,ho,rfl⟩ ⟨_,ho2,rfl⟩ noFill_tuple_add seq_tuple_add PySem.F.slot_tuple_add PySem.F.entry_tuple_add (PySem.F.args_tuple_add_2 _ _)
   (tuple_addW1 t b vs.toArray ws.toArray n n2 dd dd2 sl sl2 (by simpa using hv) (by simp[hw])) ⟨ho,ho2,h1 hw⟩
 ·refine concat_meets ⟨_,ho,rfl⟩ ⟨_,ho2,rfl⟩ noFill_tuple_add seq_tuple_add PySem.F.slot_tuple_add PySem.F.entry_tuple_add (PySem.F.args_tuple_add_2 _ _)
   (tuple_addW2 t b vs.toArray ws.toArray n n2 dd dd2 sl sl2 (by simpa using hv) (by simpa using hw) (by rw[zWs,zWs];exact hsz)) ⟨ho,ho2,?_⟩
  rw[e];exact h2 hw
def sIx (n d:Nat):Option Int->Nat
 |none=>d
 |some v=>if v<0 then (v+(n:Int)).toNat else min v.toNat n
theorem zOM (n d k:Nat):sIx n d (some (k:Int))=min k n:=by
 show (if (k:Int)<0 then ((k:Int)+(n:Int)).toNat else min (k:Int).toNat n)=min k n;rw[zW2 (by omega),Int.toNat_natCast]
theorem zVJ (n d:Nat) (hd:d<=n) (o:Option Int):sIx n d o<=n:=by
 cases o with
 |none=>exact hd
 |some v=>
  show (if v<0 then (v+(n:Int)).toNat else min v.toNat n)<=n;by_cases hv:v<0
  ·rw[zWz hv];omega
  ·rw[zW2 hv];exact Nat.min_le_right _ _
theorem zNx (v:Int) (n d:Nat):(if v<0 then max (v+(n:Int)) 0 else min v (n:Int))=((sIx n d (some v):Nat):Int):=by
 show (if v<0 then max (v+(n:Int)) 0 else min v (n:Int))=(((if v<0 then (v+(n:Int)).toNat else min v.toNat n):Nat):Int);by_cases hv:v<0
 ·simp only[zWz hv];omega
 ·simp only[zW2 hv];omega
theorem zNo (lo hi:Option Int) (n:Nat):Builtin.Slice.sliceAdjust lo hi 1 (n:Int)=(((sIx n 0 lo:Nat):Int),((sIx n n hi:Nat):Int)):=by
 have h1:¬ ((1:Int)<0):=by omega
 unfold Builtin.Slice.sliceAdjust;simp only[h1,if_false];refine Prod.ext ?_ ?_
 ·cases lo with
  |none=>rfl
  |some v=>exact zNx v n 0
 ·cases hi with
  |none=>rfl
  |some v=>exact zNx v n n
theorem zNd (i j:Nat):Builtin.Slice.slicePlaces (i:Int) (j:Int) 1=j-i:=by
 unfold Builtin.Slice.slicePlaces;have h1:(1:Int)>0:=by omega
 simp only[h1,if_true,Int.ediv_one];split <;> omega
theorem zIK {v:Value} {o:Option Int} {Q:Option Int->Shared->Prop} (p:IsPart v o) (h:Q o s):wpAny (model prog w) A (Builtin.Slice.slicePartIndex v) Q E s:=by
 cases p with
 |none=>exact slicePart_none h
 |int i t=>exact slicePart_int h
theorem zD9 {sl:Addr} {vl vu:Value} {lo hi:Option Int} {n:Nat} {Q:Int × Int × Nat->Shared->Prop} (hs:s.heap.IsSliceOf sl vl vu .none) (pl:IsPart vl lo) (pu:IsPart vu hi)
  (h:Q (((sIx n 0 lo:Nat):Int),1,sIx n n hi-sIx n 0 lo) s):wpAny (model prog w) A (Builtin.Slice.sliceApplied (.ref sl) (pure (n:Int))) Q E s:=by
 obtain ⟨os,hos,hcs,hds⟩:=id hs;unfold Builtin.Slice.sliceApplied Builtin.Slice.sliceFields;refine zWk (zWk (zXP hos hds (x:=vl) rfl (zWk (zXP hos hds (x:=vu) rfl (zWk (zXP hos hds (x:=.none) rfl (zWm ?_)))))));refine zWk (slicePart_none ?_);show wpAny _ _ (if ((1:Int)==0)=true then _ else _) _ _ s;rw[zW2 (by decide)];refine zWk (zIK pl (zWk (zIK pu (zWk (zWm ?_)))));show wpAny _ _ (match Builtin.Slice.sliceAdjust lo hi 1 (n:Int) with|(lo,hi)=>pure (lo,(1:Int),Builtin.Slice.slicePlaces lo hi 1)) _ _ s;rw[zNo lo hi n];show wpAny _ _ (pure (((sIx n 0 lo:Nat):Int),(1:Int),Builtin.Slice.slicePlaces ((sIx n 0 lo:Nat):Int) ((sIx n n hi:Nat):Int) 1)) _ _ s;rw[zNd];exact zWm h
theorem zSG (xs:Array Value) (i k:Nat):((List.range k).filterMap fun (m:Nat)=>xs[((i:Int)+(m:Int)*1).toNat]?).toArray=((xs.toList.drop i).take k).toArray:=by
 have e:(fun (m:Nat)=>xs[((i:Int)+(m:Int)*1).toNat]?)=fun m=>xs[i+m]?:=by
  funext m;have:((i:Int)+(m:Int)*1).toNat=i+m:=by omega
  rw[this]
 rw[e];have:=pick_run xs i k;rw[List.filterMap_map]at this;have e2:((fun x=>xs[x]?)∘fun x=>i+x)=fun m=>xs[i+m]?:=rfl;rw[e2]at this;rw[this]
theorem zGO {t sl:Addr} {items:Array Value} {vl vu:Value} {lo hi:Option Int} {Q:Value->Shared->Prop} (ht:IsTup s.heap t items) (hs:s.heap.IsSliceOf sl vl vu .none) (pl:IsPart vl lo) (pu:IsPart vu hi)
  (hw:¬ (sIx items.size 0 lo=0/\sIx items.size items.size hi=items.size))
  (h:Q (.ref s.heap.objs.size) { s with heap:=s.heap.push { cls:=.type "tuple", data:=.seq ((items.toList.drop (sIx items.size 0 lo)).take (sIx items.size items.size hi-sIx items.size 0 lo)).toArray } })
  (hsz:items.size<=sizeLine):wpAny (model prog w) A (getItem (.ref t) (.ref sl)) Q E s:=by
 have htake:sizeOk (.seq ((items.toList.drop (sIx items.size 0 lo)).take (sIx items.size items.size hi-sIx items.size 0 lo)).toArray):=by
  show ((items.toList.drop (sIx items.size 0 lo)).take (sIx items.size items.size hi-sIx items.size 0 lo)).toArray.size<=sizeLine;rw[zWs,zX8,zZD,zXT];omega
 have hj:sIx items.size items.size hi<=items.size:=zVJ _ _ (zWq _) hi;obtain ⟨os,hos,hcs,hds⟩:=id hs;have hTs:s.TypeIs (.ref sl) "slice" := ⟨os,hos,hcs⟩;unfold getItem;try with_reducible refine zXd ?_
 first|refine zWk (zWm ?_)|skip
 refine zWk (wpAny_sequenceKey ht.typeIs (by decide) ?_)
 refine zWk (zXM (name:=Str.ofString "__getitem__") ht.typeIs zYI
  (zXN zYI ht.typeIs entry_tuple_getitem ?_ (args_tuple_getitem _ _)))
 show wpAny _ _ (Builtin.Tuple.tupleItemsOf (.ref t) >>= _) _ _ s;refine zWk (tupleItemsOf_ ht ?_);refine zWk (wpAny_typeOf hTs ?_);rw[zWz (by decide)];refine zWk (zD9 hs pl pu ?_);have hno:¬ ((((sIx items.size 0 lo:Nat):Int)==0&&(1:Int)==1&&(sIx items.size items.size hi-sIx items.size 0 lo)==items.size)=true):=by
  intro q;rw[zXK,zXK]at q;have q1:((sIx items.size 0 lo:Nat):Int)=0:=eq_of_beq q.1.1;have q2:sIx items.size items.size hi-sIx items.size 0 lo=items.size:=eq_of_beq q.2;exact hw ⟨by omega,by omega⟩
 show wpAny _ _ (if (((sIx items.size 0 lo:Nat):Int)==0&&(1:Int)==1&&(sIx items.size items.size hi-sIx items.size 0 lo)==items.size)=true then _ else _) _ _ s;rw[zW2 hno,zSG]
 first
  |exact zWk (m:=Builtin.Tuple.tupleExact _) (zXD (zWm ⟨_,rfl,zWm h⟩) htake)
  |exact zWk (m:=Builtin.Tuple.tupleExact _) (zXD (zWk (zWm (zWm ⟨_,rfl,zWm h⟩))) htake)
  |exact zWk (zWk (m:=Builtin.Tuple.tupleExact _) (zXD (zWm (zWm ⟨_,rfl,zWm h⟩)) htake))
  |exact zWk (zWk (m:=Builtin.Tuple.tupleExact _) (zXD (zWm ⟨_,rfl,zWm h⟩) htake))
end
end HT
namespace L2
open PySem PySem.Spec PyProof.Rows
abbrev TO:=St->Hp->(Option Int->Hp->Prop)->Prop
def PO (X:Cx) (e:Option Expr) (t:TO):Prop :=
 ∀ (zB:List (Addr × Obj)) (s:Shared) (σ:St) (H:Hp) (Q:Option Int->Hp->Prop),Inv X zB σ H s->t σ H Q ->
  wpAny (model X.prog X.w) X.A (evalPart e X.env) (fun u s'=>∃ o H',Inv X zB σ H' s'/\IsPart u o/\Q o H') X.xe s
def zTW:TO:=fun _ H Q=>Q none H
def zV4 (t:TE):TO:=fun σ H Q=>t σ H fun x H1=>∃ i,x=.int i/\Q (some i) H1
section
variable {X:Cx} {e:Expr} {te:TE} {lo hi:Option Expr} {tl th:TO} {pos p2:Pos}
theorem zTR:PO X none zTW:=by
 intro zB s σ H Q I h;rw[evalPart_none];exact zWm ⟨none,H,I,.none,h⟩
theorem zSL (h:PE X e te):PO X (some e) (zV4 te):=by
 intro zB s σ H Q I hw;rw[evalPart_some];refine thn (h zB s σ H _ I hw) fun u s1 ⟨x,H1,I1,r1,q1⟩=>?_;obtain ⟨i,rfl,q⟩:=q1;obtain ⟨t,rfl⟩:=r1;exact ⟨some i,H1,I1,.int i t,q⟩
def SlR (X:Cx) (r:V->Option Int->Option Int->Hp->VK->Prop):Prop :=
 ∀ (zB:List (Addr × Obj)) (s:Shared) (σ:St) (H:Hp) (x:V) (v vl vu:Value) (lo hi:Option Int) (sl:Addr) (Q:VK),Inv X zB σ H s->zAT x v->s.heap.IsSliceOf sl vl vu .none->IsPart vl lo->IsPart vu hi->r x lo hi H Q ->
  ∃ T id,typeLookup (.type T) "__getitem__" = pure (some (.builtin id))/\s.TypeIs v T/\wpAny (model X.prog X.w) X.A (getItem v (.ref sl)) (EP X zB σ Q) X.xe s
theorem SlR.or {r r':V->Option Int->Option Int->Hp->VK->Prop} (h:SlR X r) (h':SlR X r'):SlR X (fun x lo hi H Q=>r x lo hi H Q\/r' x lo hi H Q):=by
 intro zB s σ H x v vl vu lo hi sl Q I rx hs pl pu q;rcases q with q|q
 ·exact h zB s σ H x v vl vu lo hi sl Q I rx hs pl pu q
 ·exact h' zB s σ H x v vl vu lo hi sl Q I rx hs pl pu q
def tSl (r:V->Option Int->Option Int->Hp->VK->Prop) (te:TE) (tl th:TO):TE:=fun σ H Q=>te σ H fun x H1=>tl σ H1 fun l H2=>th σ H2 fun u H3=>r x l u H3 Q
theorem zRK {r:V->Option Int->Option Int->Hp->VK->Prop} (hr:SlR X r) (he:PE X e te) (hl:PO X lo tl) (hu:PO X hi th):PE X (.Subscript e (.Slice lo hi none p2) pos) (tSl r te tl th):=by
 intro zB s σ H Q I h;refine Subscript_ (thn (he zB s σ H _ I h) fun v s1 ⟨x,H1,I1,r1,q1⟩=>?_);refine wpAny_Slice (thn (hl zB s1 σ H1 _ I1 q1) fun vl s2 ⟨l,H2,I2,pl,q2⟩=>thn (hu zB s2 σ H2 _ I2 q2) fun vu s3 ⟨u,H3,I3,pu,q3⟩=>?_);rw[evalPart_none];refine zWm ?_;have I4:Inv X zB σ H3 { s3 with heap:=s3.heap.push { cls:=.type "slice", data:=.fields #[vl,vu,.none] } }:=I3.kept (t':=s3.toks) fun b ob q=>zWl _ q;obtain ⟨T,id,hT,ht,hg⟩:=hr zB { s3 with heap:=s3.heap.push { cls:=.type "slice", data:=.fields #[vl,vu,.none] } } σ H3 x v vl vu l u s3.heap.objs.size Q I4 r1 (Heap.IsSliceOf.new ..) pl pu q3;show wpAny (model X.prog X.w) X.A (subscriptTail e (.Slice lo hi none p2) v (.ref s3.heap.objs.size)) (EP X zB σ Q) X.xe { s3 with heap:=s3.heap.push { cls:=.type "slice", data:=.fields #[vl,vu,.none] } };exact tail_any (ops:=[.ref s3.heap.objs.size,v]) ht hT hg (by with_unfolding_all rfl)
def zLp (xs:List V) (lo hi:Option Int):List V:=(xs.drop (HT.sIx xs.length 0 lo)).take (HT.sIx xs.length xs.length hi-HT.sIx xs.length 0 lo)
theorem zHV (xs:List V) (lo hi:Option Int):(zLp xs lo hi).length<=xs.length:=by
 unfold zLp;rw[zX8,zZD];omega
def zWa (K:PySem.W.Frag):V->Option Int->Option Int->Hp->VK->Prop:=fun x lo hi H Q=>∃ a xs,x=.ref a/\SqT K H a xs /\
 ¬ (HT.sIx xs.length 0 lo=0/\HT.sIx xs.length xs.length hi=xs.length) /\ ∀ p,H p=none->Q (.ref p) (upd H p (.tup (zLp xs lo hi)))
theorem zUf:SlR X (zWa X.K):=by
 intro zB s σ H x v vl vu lo hi sl Q I rx hs pl pu h;obtain ⟨a,xs,rfl,hx,hw,q⟩:=h;cases rx;obtain ⟨its,r,ht,hz⟩:=I.tuple hx;have hlen:its.toArray.size=xs.length:=by rw[zWs];exact r.length.symm
 refine ⟨"tuple", _,zYI.lookup,ht.typeIs,?_⟩;refine HT.zGO ht hs pl pu (by rw[hlen];exact hw) ?_ (by rw[hlen];exact hz);rw[hlen];refine ⟨.ref s.heap.objs.size,_,I.laid (t':=s.toks) (o:=.tup (zLp xs lo hi)) (fun b ob q=>zWl _ q) (zWq _) ?_,rfl,q _ (I.hok.fresh (zWq _))⟩;exact ⟨zXB (zHV xs lo hi) hz,_,(r.drop (HT.sIx xs.length 0 lo)).take (HT.sIx xs.length xs.length hi-HT.sIx xs.length 0 lo),zDT.new _ _⟩
def zTg (K:PySem.W.Frag):R2:=fun x y H Q=>∃ a b xs ys,x=.ref a/\y=.ref b/\SqT K H a xs/\SqT K H b ys/\xs≠[]/\xs.length+ys.length<=sizeLine /\
 (ys=[]->Q (.ref a) H)/\(ys≠[] -> ∀ p,H p=none->Q (.ref p) (upd H p (.tup (xs++ys))))
theorem zy.nil_iff {xs:List V} {us:List Value} (r:zy xs us):us=[] ↔ xs=[]:=by
 cases r with
 |nil=>simp
 |cons _ _=>simp
theorem zSx:OpR X (binaryOp .Add) (zTg X.K):=by
 intro zB s σ H x y v u Q I rx ry h;obtain ⟨a,b,xs,ys,rfl,rfl,ha,hb,hx,hz,q1,q2⟩:=h;cases rx;cases ry;obtain ⟨its,r1,p1,_⟩:=I.tuple ha;obtain ⟨its2,r2,p2,_⟩:=I.tuple hb;refine HT.zTV p1 p2 (fun z=>hx (r1.nil_iff.mp z)) (fun z=>⟨.ref a,H,I,rfl,q1 (r2.nil_iff.mp z)⟩) (fun z=>?_) (by rw[<-r1.length,<-r2.length];exact hz);refine ⟨.ref s.heap.objs.size,_,I.laid (t':=s.toks) (o:=.tup (xs++ys)) (fun b ob q=>zWl _ q) (zWq _) ?_,rfl,q2 (fun w=>z (r2.nil_iff.mpr w)) _ (I.hok.fresh (zWq _))⟩;exact ⟨by rw[zW0];exact hz,_,r1.append r2,zDT.new _ _⟩
end
def ixN (n:Nat) (i:Int):Option Nat:=if 0<=i then (if i<n then some i.toNat else none) else if -(n:Int)<=i then some (i+n).toNat else none
def atI {α:Type} (xs:List α) (i:Int):Option α:=(ixN xs.length i).bind fun j=>xs[j]?
theorem zKu {n:Nat} {i:Int} {j:Nat} (h:ixN n i=some j):seqIndex? i n=some j/\j<n /\ -(n:Int)<=i/\i<n:=by
 unfold ixN at h;by_cases h0:0<=i
 ·rw[zWz h0]at h;by_cases h1:i<n
  ·rw[zWz h1]at h;have e:i.toNat=j:=zXk h;exact ⟨by rw[seqIndex_of h0 h1,e],by omega,by omega,h1⟩
  ·rw[zW2 h1]at h;cases h
 ·rw[zW2 h0]at h;by_cases h1 : -(n:Int)<=i
  ·rw[zWz h1]at h;have e:(i+n).toNat=j:=zXk h;exact ⟨by rw[seqIndex_neg (by omega) h1,e],by omega,h1,by omega⟩
  ·rw[zW2 h1]at h;cases h
theorem zKX {α:Type} {xs:List α} {i:Int} {v:α} (h:atI xs i=some v):∃ j,seqIndex? i xs.length=some j/\xs[j]?=some v/\j<xs.length /\ -(xs.length:Int)<=i/\i<xs.length:=by
 unfold atI at h;cases e:ixN xs.length i with
 |none=>rw[e]at h;cases h
 |some j=>
  rw[e]at h;obtain ⟨h1,h2,h3,h4⟩:=zKu e;exact ⟨j,h1,h,h2,h3,h4⟩
theorem zOG {α:Type} {xs:List α} {j:Nat} {v:α} (h:xs[j]?=some v):atI xs (j:Int)=some v:=by
 have hj:j<xs.length:=(zWn.mp h).1;have e:ixN xs.length (j:Int)=some j:=by
  unfold ixN;rw[zWz (by omega),zWz (by omega)];simp
 unfold atI;rw[e];exact h
def zN9 (b:Expr):Prop:=∀ o i,subscripted b false o i=operate [o,i] (getItem o i)
def IxR (X:Cx) (r:R2):Prop :=
 ∀ (value slice:Expr) (zB:List (Addr × Obj)) (s:Shared) (σ:St) (H:Hp) (x y:V) (v u:Value) (Q:VK),Inv X zB σ H s->zAT x v->zAT y u->r x y H Q ->
  subscripted slice false v u=operate [v,u] (getItem v u)->wpAny (model X.prog X.w) X.A (subscriptTail value slice v u) (EP X zB σ Q) X.xe s
def MtR (X:Cx) (id:String) (r:V->List V->Hp->VK->Prop):Prop :=
 ∀ (zB:List (Addr × Obj)) (s:Shared) (σ:St) (H:Hp) (x:V) (xs:List V) (v:Value) (us:List Value) (Q:VK),Inv X zB σ H s->zAT x v->zy xs us->r x xs H Q ->
  wpAny (model X.prog X.w) X.A (call (.builtin id) (v::us)) (EP X zB σ Q) X.xe s
section
variable {X:Cx} {a b:Expr} {ta tb:TE} {pos:Pos}
theorem IxR.or {r r':R2} (h:IxR X r) (h':IxR X r'):IxR X (fun x y H Q=>r x y H Q\/r' x y H Q):=by
 intro value slice zB s σ H x y v u Q I rx ry q hs;rcases q with q|q
 ·exact h value slice zB s σ H x y v u Q I rx ry q hs
 ·exact h' value slice zB s σ H x y v u Q I rx ry q hs
theorem zVQ {r:R2} (hr:IxR X r) (ha:PE X a ta) (hb:PE X b tb) (hs:zN9 b):PE X (.Subscript a b pos) (tOp r ta tb):=by
 intro zB s σ H Q I h;exact Subscript_ (zT0 ha hb I h fun v u s2 x y H2 I2 rx ry q=>hr a b zB s2 σ H2 x y v u Q I2 rx ry q (hs _ _))
def zWE (K:PySem.W.Frag):R2:=fun x y H Q=>∃ p xs i v,x=.ref p/\y=.int i/\SqL K H p xs/\atI xs i=some v/\Q v H
def zV1 (K:PySem.W.Frag):R2:=fun x y H Q=>∃ p xs i v,x=.ref p/\y=.int i/\SqT K H p xs/\atI xs i=some v/\Q v H
def zVl:R2:=fun x y H Q=>∃ z i c,x=.str z/\y=.int i/\z.length<=sizeLine/\atI z.cps.toList i=some c/\Q (.str ⟨#[c]⟩) H
theorem zTS:IxR X (zWE X.K):=by
 intro value slice zB s σ H x y v u Q I rx ry h hs;obtain ⟨p,xs,i,z,rfl,rfl,hq,he,q⟩:=h;cases rx;obtain ⟨t,rfl⟩:=ry;obtain ⟨its,r,pl,hz⟩:=I.list hq;obtain ⟨j,h1,h2,h3,h4,h5⟩:=zKX he;obtain ⟨w,ew,rw'⟩:=r.get h2;have hl:=r.length;have hn:=zF7;have fin:EP X zB σ Q w s:=⟨z,H,I,rw',q⟩;by_cases h0:0<=i
 ·have hj:i.toNat=j:=by
   rw[seqIndex_of h0 h5]at h1;exact zXk h1
  exact item_listR pl.isList h0 (by omega) (by rw[hj];simpa using ew) fin hs
 ·have hj:(i+(its.toArray.size:Int)).toNat=j:=by
   rw[seqIndex_neg (by omega) h4]at h1;rw[zWs,<-hl];exact zXk h1
  exact subscriptTail_builtinR (x:=w) pl.isList.typeIs slot_list_getitem.lookup
   (wpAny_getItem_list_neg (Q:=fun r s'=>r=w/\EP X zB σ Q r s') pl.isList (by omega) (by rw[zWs] <;> omega) (by omega) (by rw[hj];simpa using ew) ⟨rfl,fin⟩) hs
theorem zUE:IxR X (zV1 X.K):=by
 intro value slice zB s σ H x y v u Q I rx ry h hs;obtain ⟨p,xs,i,z,rfl,rfl,hq,he,q⟩:=h;cases rx;obtain ⟨t,rfl⟩:=ry;obtain ⟨its,r,pl,hz⟩:=I.tuple hq;obtain ⟨j,h1,h2,h3,h4,h5⟩:=zKX he;obtain ⟨w,ew,rw'⟩:=r.get h2;have hl:=r.length;have hn:=zF7;have fin:EP X zB σ Q w s:=⟨z,H,I,rw',q⟩
 exact subscriptTail_builtinR (x:=w) pl.typeIs slot_tuple_getitem.lookup
  (getItem_tuple (j:=j) (Q:=fun r s'=>r=w/\EP X zB σ Q r s') pl (by omega) (by omega) (by rw[zWs,<-hl];exact h1) (by simpa using ew) ⟨rfl,fin⟩) hs
theorem zVD:IxR X zVl:=by
 intro value slice zB s σ H x y v u Q I rx ry h hs;obtain ⟨z,i,c,rfl,rfl,hz,he,q⟩:=h;obtain ⟨t,rfl⟩:=rx;obtain ⟨t',rfl⟩:=ry;obtain ⟨j,h1,h2,h3,h4,h5⟩:=zKX he;have hl:z.cps.toList.length=z.length:=by simp[Str.length]
 rw[hl]at h1 h4 h5;have hn:=zF7;exact tail_any (typeIs_str s z t) slot_str_getitem.lookup (getItem_str (c:=c) (by
  have e1:decide (i < -(2 ^ 63:Int))=false:=zXJ (by omega);have e2:decide (i≥2 ^ 63)=false:=zXJ (by omega);rw[e1,e2,Bool.or_false]) (by rw[h1];simpa using h2) ⟨.str ⟨#[c]⟩,H,I.tok _,⟨_,rfl⟩,q⟩) hs
def rIx (K:PySem.W.Frag):R2:=fun x y H Q=>zWE K x y H Q\/zV1 K x y H Q\/zVl x y H Q
theorem zTw:IxR X (rIx X.K):=zTS.or (zUE.or zVD)
theorem zNS (its:List Value) (n j:Nat) (u:Value):Obj.mapSeq (·.setIfInBounds j u) { cls:=.type "list", data:=.seq its.toArray n }={ cls:=.type "list", data:=.seq (its.set j u).toArray n }:=by
 simp[Obj.mapSeq]
theorem Inv.lst {zB:List (Addr × Obj)} {σ:St} {H:Hp} {s:Shared} {p:Addr} {xs:List V} (I:Inv X zB σ H s) (h:H p=some (.lst xs)) :
  ∃ (its:List Value) (n:Nat),zy xs its/\s.heap.get? p=some { cls:=.type "list", data:=.seq its.toArray n }/\xs.length<=sizeLine:=by
 obtain ⟨z,its,n,r,e⟩:=I.hok p _ h;exact ⟨its,n,r,e,z⟩
theorem Inv.lstUpd {zB:List (Addr × Obj)} {σ:St} {H:Hp} {s:Shared} {p:Addr} {xs ys:List V} {its its':List Value} {n n':Nat} {f:Obj->Obj} (I:Inv X zB σ H s) (h:H p=some (.lst xs))
  (ho:s.heap.get? p=some { cls:=.type "list", data:=.seq its.toArray n }) (hf:f { cls:=.type "list", data:=.seq its.toArray n }={ cls:=.type "list", data:=.seq its'.toArray n' }) (r:zy ys its') (hz:ys.length<=sizeLine) (t:Nat) :
  Inv X zB σ (upd H p (.lst ys)) { s with heap:=s.heap.update p f,toks:=t }:=by
 have e:(s.heap.update p f).get? p=some { cls:=.type "list", data:=.seq its'.toArray n' }:=by
  rw[zXX f ho (by rw[hf] <;> rfl),hf]
 refine I.write (x:=p) (e:=p) (by rw[h];trivial) (.inl rfl) (fun b u hb q=>(zXR _ _ (Ne.symm hb)).trans q) ⟨_,e⟩ ?_;exact ⟨hz,its',n',r,e⟩
def zWA:V->V->V->Hp->(Hp->Prop)->Prop:=fun o i v H Q=>∃ p xs k j,o=.ref p/\i=.int k/\H p=some (.lst xs)/\ixN xs.length k=some j/\Q (upd H p (.lst (xs.set j v)))
theorem zQd:zVp X zWA:=by
 intro zB s σ H o i v ov iv u Q I ro ri rv h;obtain ⟨p,xs,k,j,rfl,rfl,hp,hj,q⟩:=h;cases ro;obtain ⟨t,rfl⟩:=ri;obtain ⟨its,n,r,ho,hz⟩:=I.lst hp;obtain ⟨h1,h2,h3,h4⟩:=zKu hj;have hl:=r.length;have hn:=zF7;have I':Inv X zB σ (upd H p (.lst (xs.set j v))) { s with heap:=s.heap.update p (Obj.mapSeq (·.setIfInBounds j u)) } :=
  I.lstUpd hp ho (zNS its n j u) (r.set rv j) (by rw[List.length_set];exact hz) s.toks
 by_cases h0:0<=k
 ·have hk:k.toNat=j:=by
   rw[seqIndex_of h0 h4]at h1;exact zXk h1
  exact PySem.W.ki_setAt ho h0 (by omega) (by rw[zWs,<-hl];exact h4) (by rw[hk];exact ⟨_,I',q⟩)
 ·have hk:(k+(its.toArray.size:Int)).toNat=j:=by
   rw[seqIndex_neg (by omega) h3]at h1;rw[zWs,<-hl];exact zXk h1
  exact PySem.W.ki_setBack ho (by omega) (by rw[zWs,<-hl];exact h3) (by omega) (by rw[hk];exact ⟨_,I',q⟩)
theorem zKP (lo hi:Option Int) (n:Nat):(sliceBounds lo hi none n).1=((HT.sIx n 0 lo:Nat):Int)/\(sliceBounds lo hi none n).2.1=((HT.sIx n n hi:Nat):Int)/\(sliceBounds lo hi none n).2.2=1:=by
 refine ⟨?_,?_,rfl⟩
 ·cases lo with
  |none=>simp[sliceBounds,HT.sIx]
  |some i=>
   simp only[sliceBounds,HT.sIx,Option.getD_none,show (1:Int)>0 by decide,if_true];by_cases h:i<0
   ·simp only[h,if_true] <;> omega
   ·simp only[h,if_false] <;> omega
 ·cases hi with
  |none=>simp[sliceBounds,HT.sIx]
  |some i=>
   simp only[sliceBounds,HT.sIx,Option.getD_none,show (1:Int)>0 by decide,if_true];by_cases h:i<0
   ·simp only[h,if_true] <;> omega
   ·simp only[h,if_false] <;> omega
theorem zJN (its:List Value) (lo hi:Option Int):slicePick its.toArray lo hi none=((its.drop (HT.sIx its.length 0 lo)).take (HT.sIx its.length its.length hi-HT.sIx its.length 0 lo)).toArray:=by
 obtain ⟨h1,h2,h3⟩:=zKP lo hi its.toArray.size;unfold slicePick;rw[h1,h2,h3];simp only[sliceRange_one,pick_run,zWs] <;> rfl
def zWT (K:PySem.W.Frag):V->Option Int->Option Int->Hp->VK->Prop:=fun x lo hi H Q=>∃ a xs,x=.ref a/\SqL K H a xs /\ ∀ p,H p=none->Q (.ref p) (upd H p (.lst (zLp xs lo hi)))
theorem zTY:SlR X (zWT X.K):=by
 intro zB s σ H x v vl vu lo hi sl Q I rx hs pl pu h;obtain ⟨a,xs,rfl,hx,q⟩:=h;cases rx;obtain ⟨its,r,ht,hz⟩:=I.list hx;have hlen:=r.length;refine ⟨"list", _,slot_list_getitem.lookup,ht.isList.typeIs,?_⟩;refine wpAny_getItem_list_slice ht.isList hs pl pu .none (by simp) ?_ (by rw[zWs] <;> omega);rw[zJN,<-hlen];refine ⟨.ref s.heap.objs.size,_,I.laid (t':=s.toks) (o:=.lst (zLp xs lo hi)) (fun b ob q=>zWl _ q) (zWq _) ?_,rfl,q _ (I.hok.fresh (zWq _))⟩;exact ⟨zXB (zHV xs lo hi) hz,_,0,(r.drop (HT.sIx xs.length 0 lo)).take (HT.sIx xs.length xs.length hi-HT.sIx xs.length 0 lo),zWu _ rfl⟩
theorem zKf:zCX X (.builtin "len") (fun xs H Q=>∃ p ys,xs=[.ref p]/\(SqL X.K H p ys\/SqT X.K H p ys)/\Q (.int ys.length) H):=by
 intro zB s σ H xs us Q I r h;obtain ⟨p,ys,rfl,hq,q⟩:=h;obtain ⟨u,rfl,rx⟩:=zD8 r;cases rx;have hn:=zF7;rcases hq with hq|hq
 ·obtain ⟨its,r',pl,hz⟩:=I.list hq;have hlen:=r'.length;exact Calls.call_len_list pl.isList (by simp only[zWs] <;> omega) ⟨.int ys.length,H,I.tok _,⟨s.toks+1,by rw[zWs,hlen]⟩,q⟩
 ·obtain ⟨its,r',pl,hz⟩:=I.tuple hq;have hlen:=r'.length;exact len_tuple pl (by simp only[zWs] <;> omega) ⟨.int ys.length,H,I.tok _,⟨s.toks+1,by rw[zWs,hlen]⟩,q⟩
theorem zLC:zCX X (.type "list") (fun xs H Q=>∃ p ys,xs=[.ref p]/\(SqL X.K H p ys\/SqT X.K H p ys) /\ ∀ l,H l=none->Q (.ref l) (upd H l (.lst ys))):=by
 intro zB s σ H xs us Q I r h;obtain ⟨p,ys,rfl,hq,q⟩:=h;obtain ⟨u,rfl,rx⟩:=zD8 r;cases rx
 have fin:∀ (its:List Value),zy ys its->ys.length<=sizeLine -> ∀ (h':Heap) (c':Nat),(∀ b o',s.heap.get? b=some o'->h'.get? b=some o') ->
   h'.get? s.heap.objs.size=some { cls:=.type "list", dict:=none,data:=.seq its.toArray c',slots:=#[] }->EP X zB σ Q (.ref s.heap.objs.size) { s with heap:=h' }:=fun its r' hz h' c' kp e=>
  ⟨.ref s.heap.objs.size,_,I.laid (t':=s.toks) kp (zWq _) (show zAl X.prog X.w _ h' _ (.lst ys)from ⟨hz,its,c',r',e⟩),rfl,q _ (I.hok.fresh (zWq _))⟩
 rcases hq with hq|hq
 ·obtain ⟨its,r',pl,hz⟩:=I.list hq;have hlen:=r'.length;obtain ⟨o,ho,hc,n,hd⟩:=pl.isList;exact call_list_seq p (.inl rfl) ho hc hd (fun h' c' kp e=>fin its r' hz h' c' kp e) (by simp only[zWs] <;> omega)
 ·obtain ⟨its,r',pl,hz⟩:=I.tuple hq;have hlen:=r'.length;obtain ⟨o,ho,hc,n,hd⟩:=pl;exact call_list_seq p (.inr rfl) ho hc hd (fun h' c' kp e=>fin its r' hz h' c' kp e) (by simp only[zWs] <;> omega)
theorem zJI:zCX X (.type "tuple") (fun xs H Q=>∃ p ys,xs=[.ref p]/\((SqL X.K H p ys /\ ∀ l,H l=none->Q (.ref l) (upd H l (.tup ys)))\/(SqT X.K H p ys/\Q (.ref p) H))):=by
 intro zB s σ H xs us Q I r h;obtain ⟨p,ys,rfl,h⟩:=h;obtain ⟨u,rfl,rx⟩:=zD8 r;cases rx;rcases h with ⟨hq,q⟩|⟨hq,q⟩
 ·obtain ⟨its,r',pl,hz⟩:=I.list hq;have hlen:=r'.length;refine call_tuple_list pl.isList (fun h' kp=>?_) (by simp only[zWs] <;> omega);have I1:Inv X zB σ H { s with heap:=h' }:=I.kept (t':=s.toks) kp;have I2:Inv X zB σ (upd H h'.objs.size (.tup ys)) { s with heap:=h'.push { cls:=.type "tuple", data:=.seq its.toArray } } :=
   I1.laid (t':=s.toks) (fun b o e=>zWl _ e) (zWq _) (show zAl X.prog X.w _ _ _ (.tup ys)from ⟨hz,its,r',zDT.new _ _⟩)
  exact ⟨.ref h'.objs.size,_,I2,rfl,q _ (I1.hok.fresh (zWq _))⟩
 ·obtain ⟨its,r',pl,hz⟩:=I.tuple hq;exact call_tuple_same pl ⟨.ref p,H,I,rfl,q⟩
def tyV (K:PySem.W.Frag) (T:String) (x:V) (H:Hp):Prop:=match x with
 |.str _=>T = "str"
 |.int _=>T = "int"
 |.ref p=>(T = "list" /\ ∃ xs,SqL K H p xs)\/(T = "tuple" /\ ((∃ o,K.lookup p=some o/\o.cls=.type "tuple" /\ o.dict=none) \/ ∃ xs,H p=some (.tup xs))) \/
   (T = "dict" /\ ((∃ kvs,H p=some (.dK kvs)) \/ ∃ kvs,H p=some (.dT kvs)))\/(T = "set" /\ ∃ S n,H p=some (.set S n))
 |_=>False
theorem zUu {zB:List (Addr × Obj)} {σ:St} {H:Hp} {s:Shared} {T:String} {x:V} {v:Value} (I:Inv X zB σ H s) (r:zAT x v) (ty:tyV X.K T x H) :
  s.TypeIs v T /\ ∀ a,v=.ref a -> ∃ ob,s.heap.get? a=some ob/\ob.dict=none:=by
 cases x with
 |str z=>
  obtain ⟨t,rfl⟩:=r;cases (show T = "str" from ty);exact ⟨typeIs_str s z t,fun _ e=>nomatch e⟩
 |int i=>
  obtain ⟨t,rfl⟩:=r;cases (show T = "int" from ty);exact ⟨typeIs_int s i t,fun _ e=>nomatch e⟩
 |ref p=>
  cases r;rcases ty with ⟨rfl,xs,hq⟩|⟨rfl,⟨o,hk,hc,hd⟩|⟨xs,hq⟩⟩|⟨rfl,hk⟩|⟨rfl,S,n,hk⟩
  ·obtain ⟨its,_,pl,_⟩:=I.list hq;refine ⟨pl.isList.typeIs,fun a e=>?_⟩;cases e;obtain ⟨o,n,e,c,hd,_⟩:=pl;exact ⟨o,e,hd⟩
  ·refine ⟨⟨o,I.kIn p o hk,hc⟩,fun a e=>?_⟩;cases e;exact ⟨o,I.kIn _ o hk,hd⟩
  ·obtain ⟨_,its,_,o,e,c,_,hd⟩:=I.hok p _ hq;refine ⟨⟨o,e,c⟩,fun a e2=>?_⟩;cases e2;exact ⟨o,e,hd⟩
  ·have z:∃ o,s.heap.get? p=some o/\o.ExactDict:=by
    rcases hk with ⟨kvs,hk⟩|⟨kvs,hk⟩
    ·obtain ⟨_,_,_,_,o,_,_,e,ex,_⟩:=I.hok p _ hk;exact ⟨o,e,ex⟩
    ·obtain ⟨_,_,_,_,o,_,_,e,ex,_⟩:=I.hok p _ hk;exact ⟨o,e,ex⟩
   obtain ⟨o,e,ex⟩:=z;refine ⟨⟨o,e,ex.1⟩,fun a e2=>?_⟩;cases e2;exact ⟨o,e,ex.2.1⟩
  ·obtain ⟨o,_,_,_,e,ex,_⟩:=I.hok p _ hk;refine ⟨⟨o,e,ex.1⟩,fun a e2=>?_⟩;cases e2;exact ⟨o,e,ex.2.1⟩
 |_=>exact False.elim ty
def tBM (K:PySem.W.Frag) (T:String) (r:V->List V->Hp->VK->Prop) (to:TE) (t:TA):TE:=fun σ H Q=>to σ H fun x H1=>tyV K T x H1/\t σ H1 fun xs H2=>r x xs H2 Q
variable {o e:Expr} {es:List Expr} {to:TE} {t:TA} {name:Str} {apos cpos:Pos} {T id:String} {r:V->List V->Hp->VK->Prop}
theorem zOY (pa:PlainAttrs T) (slot:Slot T name id) (hty:typeOf (.builtin id)=pure (.type "method_descriptor")) (hm:MtR X id r) (ho:PE X o to) (ha:PA X (e::es) t)
  (hbase:attributeBase o name X.env (eval o X.env)=eval o X.env:=by rfl)
  (hfew:((backTo cpos (starEach (e::es) X.env)).all (fun x=> !x.1)&&(backToKw cpos (keywordEach [] X.env)).all (fun x=>x.1.isSome)
   && decide ((e::es).length+([]:List Keyword).length+(if ([]:List Keyword).isEmpty then 0 else 1)<30))=true:=by rfl)
  (hline:(apos.endLine==cpos.line)=true:=by rfl) (hs:starEach (e::es) X.env=(false,eval e X.env)::starEach es X.env:=by rfl) (hplain:(backTo cpos (starEach es X.env)).any (·.1)=false:=by rfl) :
  PE X (.Call (.Attribute o name apos) (e::es) [] cpos) (tBM X.K T r to t):=by
 intro zB s σ H Q I h;refine wpAny_Call_method_late hbase hfew hline rfl (thn (ho zB s σ H _ I h) fun v s1 ⟨x,H1,I1,r1,ty,q1⟩=>?_);obtain ⟨h1,h2⟩:=zUu I1 r1 ty;refine ⟨T,id,pa,slot,hty,h1,h2,?_⟩;have hA:=ha cpos zB s1 σ H1 _ I1 q1;rw[hs]at hA ⊢;refine Calls.callWith_builtin (by show (false||(backTo cpos (starEach es X.env)).any (·.1))=false;rw[hplain] <;> rfl) (Calls.evalArgs_plain ?_);exact thn hA fun us s2 ⟨vs,H2,I2,r2,q2⟩=>hm zB s2 σ H2 x vs v us Q I2 r1 r2 q2
end
def MtM (X:Cx) (id:String) (r:V->List V->Hp->VK->Prop):Prop :=
 ∀ (zB:List (Addr × Obj)) (s:Shared) (σ:St) (H:Hp) (x:V) (xs:List V) (v:Value) (us:List Value) (Q:VK),Inv X zB σ H s->zAT x v->zy xs us->r x xs H Q ->
  wpAny (model X.prog X.w) X.A (call (.builtin id) (v::us)) (EP X zB σ Q) X.xe s
theorem zy.one:∀ {x:V} {us:List Value},zy [x] us -> ∃ u,us=[u]/\zAT x u
 |_,_,.cons r .nil=>⟨_,rfl,r⟩
theorem zy.two:∀ {x y:V} {us:List Value},zy [x,y] us -> ∃ u v,us=[u,v]/\zAT x u/\zAT y v
 |_,_,_,.cons r (.cons q .nil)=>⟨_,_,rfl,r,q⟩
theorem zy.eraseIdx:∀ {xs:List V} {us:List Value} (i:Nat),zy xs us->zy (xs.eraseIdx i) (us.eraseIdx i)
 |_,_,_,.nil=> .nil
 |_,_,0,.cons _ t=>t
 |_,_,i+1,.cons r t=> .cons r (zy.eraseIdx i t)
theorem zJu {α:Type}:∀ (l:List α) (i:Nat),(l.eraseIdx i).length<=l.length
 |[],_=>zWq _
 |_::_,0=>zYS _
 |_::r,i+1=>Nat.succ_le_succ (zJu r i)
section
variable {X:Cx} {zB:List (Addr × Obj)} {σ:St} {H:Hp} {s:Shared} {l b:Addr} {xs ys zs:List V}
theorem Inv.lset {its its':List Value} {n:Nat} {f:Array Value->Array Value} {t':Nat} (I:Inv X zB σ H s) (hH:H l=some (.lst xs))
  (e:s.heap.get? l=some { cls:=.type "list", data:=.seq its.toArray n }) (hf:f its.toArray=its'.toArray) (hv:zy ys its') (hz:ys.length<=sizeLine) :
  Inv X zB σ (upd H l (.lst ys)) { s with heap:=s.heap.update l (Obj.mapSeq f),toks:=t' }:=by
 have q:=PySem.IsL.update e f;rw[hf]at q;refine I.write (x:=l) (e:=l) (by rw[hH];exact trivial) (.inl rfl) (fun b' u hb hu=>(zXR s.heap (Obj.mapSeq f) (Ne.symm hb)).trans hu) ⟨_,q⟩ ?_;exact ⟨hz,its',_,hv,q⟩
theorem Inv.lnew {its:List Value} {t':Nat} (I:Inv X zB σ H s) (hv:zy ys its) (hz:ys.length<=sizeLine) :
  Inv X zB σ (upd H s.heap.objs.size (.lst ys)) { s with heap:=s.heap.push { cls:=.type "list", data:=.seq its.toArray },toks:=t' } :=
 I.laid (fun _ _ q=>zWl _ q) (zWq _) ⟨hz,its,0,hv,zWu _ rfl⟩
theorem Inv.fresh (I:Inv X zB σ H s):H s.heap.objs.size=none:=I.hok.fresh (zWq _)
theorem Inv.lstM (I:Inv X zB σ H s) (hH:H l=some (.lst xs)):xs.length<=sizeLine /\ ∃ (its:List Value) (n:Nat),zy xs its/\xs.length=its.length/\s.heap.get? l=some { cls:=.type "list", data:=.seq its.toArray n }:=by
 obtain ⟨z,its,n,r,e⟩:=I.hok l _ hH;exact ⟨z,its,n,r,r.length,e⟩
theorem zRM {n:Nat} (h:n<=sizeLine):Builtin.List.listTooLong n=false:=by
 unfold Builtin.List.listTooLong;exact zXJ (by omega)
end
section
variable {X:Cx}
def zOb:V->List V->Hp->VK->Prop:=fun x vs H Q=>∃ l xs y,x=.ref l/\vs=[y]/\H l=some (.lst xs)/\xs.length<sizeLine/\Q .non (upd H l (.lst (xs++[y])))
theorem zPT:MtM X "list.append" zOb:=by
 intro zB s σ H x vs v us Q I rx rv h;obtain ⟨l,xs,y,rfl,rfl,hH,hz,q⟩:=h;cases rx;obtain ⟨u,rfl,ru⟩:=rv.one;obtain ⟨z,its,n,r,hl,e⟩:=I.lstM hH;refine call_meets F.slot_list_append ⟨_,e,rfl⟩ F.entry_list_append (F.args_list_append_2 _ _) (PySem.list_append l its.toArray n u (by rw[zWs];omega)) ⟨e,?_⟩;refine ⟨.non,_,I.lset (its':=its++[u]) hH e (by simp) (r.append (.cons ru .nil)) ?_,rfl,q⟩;rw[zW0,List.length_singleton];omega
def zOA:V->List V->Hp->VK->Prop:=fun x vs H Q=>∃ l b xs zs,x=.ref l/\vs=[.ref b]/\H l=some (.lst xs)/\H b=some (.lst zs)/\xs.length+zs.length<=sizeLine/\Q .non (upd H l (.lst (xs++zs)))
theorem zOj:MtM X "list.extend" zOA:=by
 intro zB s σ H x vs v us Q I rx rv h;obtain ⟨l,b,xs,zs,rfl,rfl,hH,hB,hz,q⟩:=h;cases rx;obtain ⟨u,rfl,ru⟩:=rv.one;cases ru;obtain ⟨z,its,n,r,hl,e⟩:=I.lstM hH;obtain ⟨z2,its2,n2,r2,hl2,e2⟩:=I.lstM hB;have hsz:its.toArray.size+its2.toArray.size<=sizeLine:=by rw[zWs,zWs];omega
 have hlong:¬ (!its.toArray.isEmpty&&Builtin.List.listTooLong (its.toArray.size+its2.toArray.size))=true:=by
  rw[zRM hsz,Bool.and_false];exact zW6
 refine call_meets F.slot_list_extend ⟨_,e,rfl⟩ F.entry_list_extend (F.args_list_extend_2 _ _)
  (AutoSeq1.list_extend_list_list_0 l its.toArray n b its2.toArray n2 hlong (by rw[zWs];omega) (by omega)) ⟨e,e2,?_⟩
 refine ⟨.non,_,I.lset (its':=its++its2) hH e (by simp) (r.append r2) ?_,rfl,q⟩;rw[zW0];omega
def zRN:V->List V->Hp->VK->Prop:=fun x vs H Q=>∃ l xs i k y,x=.ref l/\vs=[.int i]/\H l=some (.lst xs) /\ -(2 ^ 63)<=i/\i<2 ^ 63/\seqIndex? i xs.length=some k/\xs[k]?=some y/\Q y (upd H l (.lst (xs.eraseIdx k)))
theorem zQf:MtM X "list.pop" zRN:=by
 intro zB s σ H x vs v us Q I rx rv h;obtain ⟨l,xs,i,k,y,rfl,rfl,hH,h1,h2,hk,hy,q⟩:=h;cases rx;obtain ⟨u,rfl,ru⟩:=rv.one;obtain ⟨t,rfl⟩:=ru;obtain ⟨z,its,n,r,hl,e⟩:=I.lstM hH;obtain ⟨w,hw,rw'⟩:=r.get hy
 refine call_meets F.slot_list_pop ⟨_,e,rfl⟩ F.entry_list_pop (F.args_list_pop_2 _ _)
  (MeetsSeq.list_pop_at l its.toArray n i t k w (fitsIndex_both h1 h2) (by rw[zWs,<-hl];exact hk) (by rw[<-Array.getElem?_toList];exact hw) (by rw[zWs];omega)) ⟨e,?_⟩
 refine ⟨y,_,I.lset (its':=its.eraseIdx k) hH e ?_ (r.eraseIdx k) ?_,rw',q⟩
 ·show its.toArray.eraseIdxIfInBounds k=(its.eraseIdx k).toArray;rw[List.eraseIdxIfInBounds_toArray]
 ·have:=zJu xs k;omega
def zVw:R2:=fun x y H Q=>∃ l b xs zs,x=.ref l/\y=.ref b/\H l=some (.lst xs)/\H b=some (.lst zs)/\xs.length+zs.length<=sizeLine /\ ∀ p,H p=none->Q (.ref p) (upd H p (.lst (xs++zs)))
theorem zUo:OpR X (binaryOp .Add) zVw:=by
 intro zB s σ H x y v u Q I rx ry h;obtain ⟨l,b,xs,zs,rfl,rfl,hH,hB,hz,q⟩:=h;cases rx;cases ry;obtain ⟨z,its,n,r,hl,e⟩:=I.lstM hH;obtain ⟨z2,its2,n2,r2,hl2,e2⟩:=I.lstM hB;refine PySem.P.add_list e e2 ?_ (by rw[zWs,zWs];omega);have ea:its.toArray++its2.toArray=(its++its2).toArray:=by simp
 rw[ea];exact ⟨.ref _,_,I.lnew (t':=s.toks) (r.append r2) (by rw[zW0];omega),rfl,q _ I.fresh⟩
end
end L2
namespace Att
open PySem PySem.W PySem.Calls PyProof.Rows
theorem zHo {P:Params} {h:Heap}:∀ (ns:List Int) (vs:List Value),WellAll P h vs (ns.map WData.int)->IntsAre vs ns:=by
 intro ns;induction ns with
 |nil=>
  intro vs w;rw[List.map_nil]at w;cases w;exact .nil
 |cons n ns ih=>
  intro vs w;rw[zW3]at w;cases w with
  |cons a b=>
   cases a;exact .cons _ _ (ih _ b)
theorem zPk {l:OpenLaw} {n:Nat} (hn:l.most=some n) {P:Params} {h:Heap} {args:List WData} {vals:List Value}
  (hpre:l.row.toRowW.claim.pre args=true) (hwl:WellAll P h vals args) :
  ∃ a vs ns,vals=[Value.ref a]/\args=[WData.list (ns.map WData.int)]/\h.get? a=some { cls:=.type "list", data:=.seq vs.toArray }/\IntsAre vs ns/\ns.length<=n:=by
 have hsh:WShape.hasAll [] args [.list .int]=true:=(pre_splitW hpre).1;have hc:l.pre.holds [] { args:=args }=true:=(pre_splitW hpre).2;obtain ⟨d,r,rfl,h1,h2⟩:=hasAllW_cons hsh;obtain rfl:=hasAllW_nil h2;obtain ⟨xs,rfl,h3⟩:=hasW_list h1;obtain ⟨ns,rfl⟩:=items_int h3;have hlen:ns.length<=n:=by
  unfold OpenLaw.pre at hc;have h4:(WTm.not (.lt (.lit (.int (n:Int))) (.len (.arg 0)))).holds [] { args:=[.list (ns.map .int)] }=true:=by
   have h4:=(holds_andW hc).1;rw[hn]at h4;exact h4
  have h5:=condW_of h4 (w_not (w_lt w_lit (w_len_list (w_arg rfl))));rw[zWt]at h5;refine Nat.le_of_not_lt fun q=>?_;have q':(n:Int)<((ns.length:Nat):Int):=by omega
  first
   |(rw[zXs q']at h5;exact absurd h5 (by decide))
   |(simp at h5;omega)
 cases hwl with
 |cons w1 w2=>
  cases w2;cases w1 with
  |list ho hall=>exact ⟨_,_,ns,rfl,rfl,ho,zHo ns _ hall,hlen⟩
theorem zO2 (l:OpenLaw) (args:List WData):l.row.toRowW.claim.post args (.bool true) args=true :=
 postW_of (r:=l.row.toRowW) (X:=(true==true))
  (show WShape.has [] (.bool true) .bool=true by first|rfl|decide|simp[WShape.has,WShape.arms,WShape.armsAll])
  (show (WTm.eq .res (.lit (.bool true))).value [] { args:=args,res:=some (.bool true),after:=args }=some (.bool (true==true))from w_eq_bool (w_res rfl) w_lit) rfl
theorem zLP {l:OpenLaw} {n:Nat} {q:Program} {loose:List Str} {XP:(Str->Option Value)->Heap->Prop} {YP:World->Heap->Prop} {d:DefRec}
  (hn:l.most=some n) (hdf:d.params.defaults=[])
  (call:∀ (w:World) (s₀ s₁:Shared) (mg mb:Str->Option Value) (fa:Addr) (o:Obj) (pm cd doc:Value) (a:Addr) (vs:List Value) (ns:List Int),
   Ground q loose [] XP w s₀ mg mb s₁.heap->YP w s₁.heap ->
   s₁.heap.get? fa=some o->o.data=.func (docDef d.name d.params d.body d.scope pm cd doc)->s₁.heap.CodeRec cd d.name->mg d.name=some (.ref fa) ->
   s₁.heap.get? a=some { cls:=.type "list", data:=.seq vs.toArray }->IntsAre vs ns->ns.length<=n->s₁.gens = #[] ->
   codeAny (model l.prog w) callerA (.call (.ref fa) ⟨[.ref a],[]⟩) (fun r s'=>r=.ok (.ret (.bool true))/\OldK s₁.heap s'.heap/\s'.os=s₁.os/\AllBare s'.gens) s₁) :
  WalkO q loose XP YP l.row.toRowW d [] (fun f vs=>PySem.call f vs):=by
 intro w s₀ s₁ mg mb G Y fa o pm cd doc dV kV ho hd hcd hD hmg hg args vals as hpre hlay hrd hwl hlo;obtain rfl:dV=.none:=Dflts.none hD hdf;obtain rfl:kV=.none:=Dflts.noKw hD;obtain ⟨a,vs,ns,rfl,rfl,hobj,hints,hlen⟩:=zPk hn hpre hwl;refine enter_call (codeAny_mono (call w s₀ s₁ mg mb fa o pm cd doc a vs ns G Y ho (fd_plain hd) hcd hmg hobj hints hlen hg) fun r s' hq=>?_);obtain ⟨rfl,h2,h3,h4⟩:=hq;exact ⟨.inl ⟨.bool true,.bool true,[],rfl,fun _=>rfl,.bool true,zO2 l _,fun _=>⟨List.Pairwise.nil,fun _ hm=>(nomatch hm)⟩⟩,h2,h3,h4⟩
end Att
namespace L2
open PySem PySem.Spec PyProof.Rows
theorem zJg:∀ {vs:List Value} {ns:List Int},IntsAre vs ns->zy (ns.map V.int) vs
 |_,_,.nil=> .nil
 |_,_,.cons n t h=> .cons ⟨t,rfl⟩ (zJg h)
def zSO (H:Hp):Prop:=∀ b,H b=none \/ ∃ o xs,H b=some (.frz o (.lst xs))
theorem zQI {P:Program} {w:World} {K:PySem.W.Frag} {mg mb:Str->Option Value} {CX:CXT} {k:Nat} {fa a:Addr} {fd:FuncData} {x:Str} {sp:Sp} {s₁:Shared} {vs:List Value} {ns:List Int}
  (KX:K.In s₁.heap) (hns:s₁.heap.Ns mainGlobals mg) (hb:s₁.heap.Ns builtinsNs mb) (hbb:∀ x:Str,x ≠ "__name__" -> mb x=bootBuiltins x) (hlim:s₁.heap.NoLimit) (hg:s₁.gens = #[])
  (ha:s₁.heap.get? a=some { cls:=.type "list", data:=.seq vs.toArray }) (hi:IntsAre vs ns) (hl:ns.length<=sizeLine) (hr:Room k callerA)
  (F:∀ base:Heap,K.In base->base.Ns mainGlobals mg->FnOk P w K mg base CX k fa fd [x] sp) (hbind:∀ (s:Shared) (u:Value),BindsTo s fd ⟨[u],[]⟩ [(x,u)])
  (hsp:∀ H:Hp,zSO H->SqL K H a (ns.map V.int)->sp [.ref a] H (fun v _=>v=.bl true) fun _ _ _=>False)
  (hCX:∀ H e s',CX [] H s₁ (fun _ _ _=>False) e s'->False) :
  codeAny (model P w) callerA (.call (.ref fa) ⟨[.ref a],[]⟩) (fun r s'=>r=.ok (.ret (.bool true))/\OldK s₁.heap s'.heap/\s'.os=s₁.os/\AllBare s'.gens) s₁:=by
 have rv:=zJg hi;have lenV:=hi.length
 have core:∀ H:Hp,zSO H->SqL K H a (ns.map V.int)->HOk P w H s₁.heap->(∀ b,H b≠none->b=a)->(H a≠none->K.lookup a=none) ->
   codeAny (model P w) callerA (.call (.ref fa) ⟨[.ref a],[]⟩) (fun r s'=>r=.ok (.ret (.bool true))/\OldK s₁.heap s'.heap/\s'.os=s₁.os/\AllBare s'.gens) s₁:=by
  intro H hO hS hok hA hK;have base_of:∀ {b:Addr} {o:Obj},s₁.heap.get? b=some o->H b=none->(zKg s₁.heap H).get? b=some o:=fun e n=>zQ0 e n;have noA:∀ {b:Addr} {o:Obj} {es:Array DictEntry} {ep:Nat},s₁.heap.get? b=some o->o.data=.dict es ep->H b=none:=fun {b o es ep} e d=>by
   cases q:H b with
   |none=>rfl
   |some u=>
    have e':b=a:=hA b (by rw[q];simp);subst e';rw[ha]at e;cases e;have d':Data.seq vs.toArray _=Data.dict es ep:=d;cases d'
  have nsK:∀ {b:Addr} {m:Str->Option Value},s₁.heap.Ns b m->(zKg s₁.heap H).Ns b m:=fun {b m} ⟨o,es,ep,e,d,r⟩=>⟨o,es,ep,base_of e (noA e d),d,r⟩;have hKb:K.In (zKg s₁.heap H):=fun b o e=>base_of (KX b o e) (by
   cases q:H b with
   |none=>rfl
   |some u=>
    have e':b=a:=hA b (by rw[q];simp);subst e';rw[hK (by rw[q];simp)]at e;cases e)
  have hM:Mod K mg (zKg s₁.heap H):=⟨hKb,nsK hns,⟨mb,nsK hb,hbb⟩,let ⟨mc,h1,h2⟩:=hlim;⟨mc,nsK h1,h2⟩⟩;have e0:Env0 P w K mg (zKg s₁.heap H) callerA [] s₁ H:=⟨rfl,hM,fun b o e=>zTO e,Nat.le_of_eq (zPf _ _),trivial,fun b hb=>absurd (show b∈([]:List Addr)from hb) (by simp),hok,.of_eq hg⟩;refine codeAny_mono ((F _ hKb (nsK hns)).run callerA [] s₁ H ⟨[.ref a],[]⟩ [.ref a] [.ref a] _ _ hr e0 (hbind s₁ (.ref a)) (.cons rfl .nil) (hsp H hO hS)) fun r s' h=>?_;cases r with
  |error e=>exact (hCX H e s' h).elim
  |ok fl=>
   cases fl with
   |next=>exact False.elim h
   |brk=>exact False.elim h
   |cont=>exact False.elim h
   |ret u=>
    obtain ⟨v,H',os,bare,un,hok',r',q⟩:=h;have q':v=.bl true:=q;subst q';obtain rfl:u=Value.bool true:=r';refine ⟨rfl,OldK.of_keep fun b o e=>?_,os,bare⟩;cases q:H b with
    |none=>exact un.keep b o e q (by intro z;exact absurd (show b∈([]:List Addr)from z) (by simp)) (by simp)
    |some u=>
     rcases hO b with z|⟨ob,xs,z⟩
     ·rw[q]at z;cases z
     ·have z2:=un.frzs b ob _ z;obtain ⟨e1,_⟩:=hok b _ z;obtain ⟨e2,_⟩:=hok' b _ z2;rw[e]at e1;cases e1;exact e2
 cases hk:K.lookup a with
 |some o=>
  have e:=KX a o hk;rw[ha]at e;cases e;refine core (fun _=>none) (fun _=> .inl rfl) (.inr ⟨_,vs.toArray,_,hk,rfl,rfl,rfl,by rw[zWs,lenV];exact hl,by simpa using rv⟩) (fun b u z=>by have z':(none:Option HO)=some u:=z;cases z') (fun b z=>absurd rfl z) fun z=>absurd rfl z
 |none=>
  refine core (fun b=>if b=a then some (.frz { cls:=.type "list", data:=.seq vs.toArray } (.lst (ns.map V.int))) else none) (fun b=>?_) (.inl (.inr ⟨{ cls:=.type "list", data:=.seq vs.toArray },zWz rfl⟩)) (fun b u z=>?_) (fun b z=>?_) fun _=>hk
  ·by_cases hb:b=a
   ·exact .inr ⟨_,_,zWz hb⟩
   ·exact .inl (zW2 hb)
  ·by_cases hb:b=a
   ·have z':=(zWz hb).symm.trans z;cases z';subst hb;exact ⟨ha,by rw[zWt];exact hl,vs,_,rv,ha⟩
   ·have z':=(zW2 hb).symm.trans z;cases z'
  ·by_cases hb:b=a
   ·exact hb
   ·exact absurd (zW2 hb) z
theorem zSq {l:PySem.W.OpenLaw} {n k:Nat} {q:Program} {loose:List Str} {XP:(Str->Option Value)->Heap->Prop} {YP:World->Heap->Prop} {d:DefRec} {K:Params->PySem.W.Frag} {CX:World->CXT} {sp:World->Sp} {x:Str}
  (hn:l.most=some n) (hn2:n<=sizeLine) (hdf:d.params.defaults=[]) (hr:Room k callerA)
  (hY:∀ (w:World) (h:Heap),YP w h->(K w.params).In h)
  (F:∀ (w:World) (mg:Str->Option Value) (fa:Addr) (h:Heap),(K w.params).In h->h.Ns mainGlobals mg->mg d.name=some (.ref fa) ->
   ∃ fd:FuncData,(∀ (s:Shared) (u:Value),BindsTo s fd ⟨[u],[]⟩ [(x,u)]) /\
    ∀ base:Heap,(K w.params).In base->base.Ns mainGlobals mg->FnOk l.prog w (K w.params) mg base (CX w) k fa fd [x] (sp w))
  (hsp:∀ (w:World) (H:Hp) (a:Addr) (ns:List Int),ns.length<=n->zSO H->SqL (K w.params) H a (ns.map V.int)->sp w [.ref a] H (fun v _=>v=.bl true) fun _ _ _=>False)
  (hCX:∀ (w:World) (H:Hp) (s:Shared) (e:Value) (s':Shared),CX w [] H s (fun _ _ _=>False) e s'->False) :
  PySem.W.WalkO q loose XP YP l.row.toRowW d [] (fun f vs=>PySem.call f vs):=by
 refine Att.zLP hn hdf fun w s₀ s₁ mg mb fa o pm cd doc a vs ns G Y ho hd hcd hmg hobj hints hlen hg=>?_;have KX:=hY w _ Y;obtain ⟨fd,hb,hF⟩:=F w mg fa _ KX G.T.g hmg;exact zQI KX G.T.g G.T.b G.T.builtins G.T.nolimit hg hobj hints (zXB hlen hn2) hr hF hb (fun H hO hS=>hsp w H a ns hlen hO hS) fun H e s'=>hCX w H s₁ e s'
def zFU (s:Stmt):Arguments:=match s with
 |.FunctionDef _ a _ _ _ _ _ _ _ _=>a
 |_=>{ posonlyargs:=[],args:=[],vararg:=none,kwonlyargs:=[],kw_defaults:=[],kwarg:=none,defaults:=[] }
def zDr (s:Stmt):List Stmt:=match s with
 |.FunctionDef _ _ b _ _ _ _ _ _ _=>b
 |_=>[]
def zQ (s:Stmt):Scope:=match s with
 |.FunctionDef _ _ _ _ _ _ sc _ _ _=>sc
 |_=>{ kind:=.function,names:=[],isGenerator:=false,isCoroutine:=false }
abbrev CX0:CXT:=fun _ _ _ _ _ _=>False
abbrev E0:XK:=fun _ _ _=>False
theorem zVT {X:Cx}:zNl CX0 X E0:=fun _ _ _ _ _ _ _ h=>h.elim
structure Fun (K:PySem.W.Frag) (x qual:Str) (st:Stmt) (f:Addr) (fd:FuncData):Prop where
 ex:∃ (oc:Value) (od:Option Addr) (kV doc pm:Value) (an:Option Addr) (cdv ct:Value) (osl:Array (Option Value)),
  fd=PySem.W.fnOf x qual (zFU st) (zDr st) (zQ st) .none kV doc pm an cdv ct/\K.lookup f=some ⟨oc,od,.func fd,osl⟩/\PySem.W.codeIn K cdv qual=true
 kp:PySem.W.keepIn K (.ref f)=true
section
variable {P:Program} {w:World} {K:PySem.W.Frag} {mg:Str->Option Value} {base:Heap}
theorem Fun.ok {x qual:Str} {st:Stmt} {f:Addr} {fd:FuncData} {N ps:List Str} {k:Nat} {sp:Sp} (F:Fun K x qual st f fd) (S:FnScope N ps (zQ st)) (len:∀ vs H Q E,sp vs H Q E->vs.length=ps.length)
  (hbody:∀ (cdv:Value) (A:Around) (outer:List Env) (s:Shared) (H:Hp) (vs:List V) (Q:VK) (E:XK),Room k (A.deeper (envOfC qual (zQ st) s.heap.objs.size f cdv))->sp vs H Q E ->
   ∃ t,PSs (zNA CX0 P w K mg base N qual (zQ st) f cdv A outer s H E).nox (zDr st) t/\t { nx:=fun _ H'=>Q .non H',rt:=Q } (zFo N vs) H):FnOk P w K mg base CX0 (k+1) f fd ps sp:=by
 obtain ⟨oc,od,kV,doc,pm,an,cdv,ct,osl,rfl,lk,hcd⟩:=F.ex;refine zVX lk hcd S len fun A outer s H vs Q E hr hsp=>?_;obtain ⟨t,h,q⟩:=hbody cdv A outer s H vs Q E hr hsp;exact ⟨t,h.nox,q⟩
theorem Fun.binds {x qual:Str} {st:Stmt} {f:Addr} {fd:FuncData} {ps:List Str} (F:Fun K x qual st f fd)
  (h:∀ (kV doc pm:Value) (an:Option Addr) (cdv ct:Value) (us:List Value),us.length=ps.length->bindArgs (PySem.W.fnOf x qual (zFU st) (zDr st) (zQ st) .none kV doc pm an cdv ct) ⟨us,[]⟩=pure (ps.zip us)):zIm K fd ps []:=by
 obtain ⟨oc,od,kV,doc,pm,an,cdv,ct,osl,rfl,lk,hcd⟩:=F.ex;exact .all (h kV doc pm an cdv ct)
theorem zRj {x qual:Str} {st:Stmt} {f:Addr} {oc:Value} {od an:Option Addr} {osl:Array (Option Value)} {kV doc pm cdv ct:Value} (l:K.lookup f=some ⟨oc,od,.func (PySem.W.fnOf x qual (zFU st) (zDr st) (zQ st) .none kV doc pm an cdv ct),osl⟩)
  (c:PySem.W.codeIn K cdv qual=true) (k:PySem.W.keepIn K (.ref f)=true):Fun K x qual st f (PySem.W.fnOf x qual (zFU st) (zDr st) (zQ st) .none kV doc pm an cdv ct):=⟨⟨oc,od,kV,doc,pm,an,cdv,ct,osl,rfl,l,c⟩,k⟩
end
theorem zBb {A:Around} {k:Nat} (hr:Room k A):A.units+1<cLine:=Nat.lt_of_le_of_lt (Nat.add_le_add_left (by decide:1<=64) _) hr.units
section
variable {X:Cx}
theorem pv (i:Nat) {x:Str} {pos:Pos} (hN:X.N[i]?=some x:=by rfl) (hv:Vis X.env.scope x:=by first|exact Or.inl rfl|exact Or.inr (Or.inl rfl)|exact Or.inr (Or.inr rfl)) (hd:(x==("__debug__" : Str))=false:=by decide)
  (hcd:(x==("__classdict__" : Str))=false:=by decide):PE X (.Name x pos) (zVE i):=zUz hN hv hd hcd
end
theorem zHE {A B:Prop} (h:B):if false=true then A else B:=by
 rw[zW2 zW6];exact h
theorem zHA {A B:Prop} (h:A):if true=true then A else B:=by
 rw[zWz rfl];exact h
section
variable {κ:Type} [DecidableEq κ]
def zFl (kvs:List (κ × V)) (k:κ):Option V:=(kvs.find? fun kv=>decide (kv.1=k)).map (·.2)
def zEo (kvs:List (κ × V)) (k:κ) (v:V):List (κ × V) :=
 if (kvs.any fun kv=>decide (kv.1=k))=true then kvs.map (fun kv=>if kv.1=k then (kv.1,v) else kv) else kvs++[(k,v)]
theorem zGc {p:κ × V} {r:List (κ × V)} {k:κ} (e:p.1=k):zFl (p::r) k=some p.2:=by simp[zFl,zYW,e]
theorem zGg {p:κ × V} {r:List (κ × V)} {k:κ} (e:¬ p.1=k):zFl (p::r) k=zFl r k:=by simp[zFl,zYW,e]
theorem zMG (k:κ):∀ kvs:List (κ × V),(kvs.any fun kv=>decide (kv.1=k))=(zFl kvs k).isSome
 |[]=>rfl
 |p::r=>by
  rw[List.any_cons];by_cases e:p.1=k
  ·simp only[zGc e,zXs e,Bool.true_or,Option.isSome_some]
  ·rw[zGg e,zXJ e,Bool.false_or];exact zMG k r
theorem zDs (kvs:List (κ × V)) (k:κ) (v:V):(zEo kvs k v).length<=kvs.length+1:=by
 unfold zEo;split
 ·rw[zWt];omega
 ·rw[zW0,zXH,List.length_nil];omega
theorem zG6.isSome_eq (r:zG6 o u):o.isSome=u.isSome:=by
 cases o with
 |none=>cases u with
  |none=>rfl
  |some _=>exact (show False from r).elim
 |some _=>cases u with
  |none=>exact (show False from r).elim
  |some _=>rfl
theorem zG6.getD (r:zG6 o u) (rd:zAT d d'):zAT (o.getD d) (u.getD d'):=by
 cases o with
 |none=>cases u with
  |none=>exact rd
  |some _=>exact (show False from r).elim
 |some _=>cases u with
  |none=>exact (show False from r).elim
  |some _=>exact r
theorem KV.val {kvs:List (κ × V)} {vs:List (κ × Value)} (r:KV kvs vs) (k:κ):zG6 (zFl kvs k) (valueAt vs k):=by
 unfold KV at r;induction r with
 |nil=>exact True.intro
 | @cons p q ps qs h t ih=>
  obtain ⟨h1,h2⟩:=h;by_cases e:p.1=k
  ·have e':q.1=k:=h1.symm.trans e;have b:valueAt (q::qs) k=some q.2:=by simp[valueAt,zYW,e']
   rw[zGc e,b];exact h2
  ·have e':¬ q.1=k:=fun z=>e (h1.trans z);have b:valueAt (q::qs) k=valueAt qs k:=by simp[valueAt,zYW,e']
   rw[zGg e,b];exact ih
theorem KV.any (r:KV kvs vs) (k:κ):(kvs.any fun kv=>decide (kv.1=k))=vs.any fun kv=>decide (kv.1=k):=by
 unfold KV at r;induction r with
 |nil=>rfl
 |cons h t ih=>rw[List.any_cons,List.any_cons,ih,h.1]
theorem KV.repl (r:KV kvs vs) (k:κ) (ry:zAT y u) :
  KV (kvs.map fun kv=>if kv.1=k then (kv.1,y) else kv) (vs.map fun kv=>if kv.1=k then (kv.1,u) else kv):=by
 unfold KV at r ⊢;induction r with
 |nil=>exact .nil
 | @cons p q ps qs h t ih=>
  rw[zW3,zW3];refine .cons ?_ ih;obtain ⟨h1,h2⟩:=h;by_cases e:p.1=k
  ·rw[zWz e,zWz (h1.symm.trans e)];exact ⟨h1,ry⟩
  ·rw[zW2 e,zW2 (fun z=>e (h1.trans z))];exact ⟨h1,h2⟩
theorem KV.put (r:KV kvs vs) (k:κ) (ry:zAT y u):KV (zEo kvs k y) (stored vs k u):=by
 unfold zEo stored;rw[r.any k];by_cases e:(vs.any fun kv=>decide (kv.1=k))=true
 ·rw[zWz e,zWz e];exact r.repl k ry
 ·rw[zW2 e,zW2 e];exact Paired.snoc r ⟨rfl,ry⟩
theorem KV.length (r:KV kvs vs):kvs.length=vs.length:=Paired.length r
end
theorem zII (r:zAT (kV k) u):(zA0 P w).is k u=true:=by
 cases k with
 |inl i=>obtain ⟨t,e⟩:=(show ∃ t,u=Value.int i t from r);subst e;exact zLu P w i t
 |inr x=>obtain ⟨t,e⟩:=(show ∃ t,u=Value.str x t from r);subst e;exact zMJ P w x t
theorem zJq:∀ {ks:List Key} {us:List Value},zy (ks.map kV) us->ItemsAre (zA0 P w) ks us
 |[],_,r=>by rw[List.map_nil]at r;cases r;exact .nil
 |k::ks,_,r=>by
  rw[zW3]at r;cases r with
  |cons h t=>exact .cons (zII h) (zJq t)
abbrev KT (H:Hp):List (List Key × V)->List (List Key × Addr × Value)->Prop:=Paired fun p q=>p.1=q.1/\H q.2.1=some (.tup (p.1.map kV))/\zAT p.2 q.2.2
theorem KT.val {H:Hp} {kvs:List (List Key × V)} {xs:List (List Key × Addr × Value)} (r:KT H kvs xs) (k:List Key):zG6 (zFl kvs k) ((atKey xs k).map (·.2)):=by
 induction r with
 |nil=>exact True.intro
 | @cons p q ps qs h t ih=>
  obtain ⟨h1,_,h2⟩:=h;by_cases e:p.1=k
  ·have e':q.1=k:=h1.symm.trans e;have b:atKey (q::qs) k=some q.2:=by simp[atKey,zYW,e']
   rw[zGc e,b];exact h2
  ·have e':¬ q.1=k:=fun z=>e (h1.trans z);have b:atKey (q::qs) k=atKey qs k:=by simp[atKey,zYW,e']
   rw[zGg e,b];exact ih
theorem KT.repl (r:KT H kvs xs) (k:List Key) (ry:zAT y u) :
  KT H (kvs.map fun kv=>if kv.1=k then (kv.1,y) else kv) (xs.map (putAt k u)):=by
 induction r with
 |nil=>exact .nil
 | @cons p q ps qs h t ih=>
  rw[zW3,zW3];refine .cons ?_ ih;obtain ⟨h1,h2,h3⟩:=h;unfold putAt;by_cases e:p.1=k
  ·rw[zWz e,zWz (h1.symm.trans e)];exact ⟨h1,h2,ry⟩
  ·rw[zW2 e,zW2 (fun z=>e (h1.trans z))];exact ⟨h1,h2,h3⟩
theorem KT.put (r:KT H kvs xs) (k:List Key) (hb:H b=some (.tup (k.map kV))) (ry:zAT y u) :
  KT H (zEo kvs k y) (storedH xs k b u):=by
 have e:(kvs.any fun kv=>decide (kv.1=k))=(atKey xs k).isSome:=by
  rw[zMG,(r.val k).isSome_eq,Option.isSome_map]
 unfold zEo storedH;rw[e];by_cases q:(atKey xs k).isSome=true
 ·rw[zWz q,zWz q];exact r.repl k ry
 ·rw[zW2 q,zW2 q];exact Paired.snoc r ⟨rfl,hb,ry⟩
theorem KT.keeps (r:KT H kvs xs) (ht:∀ b ys,H b=some (.tup ys)->H' b=some (.tup ys)):KT H' kvs xs :=
 Paired.mapP r fun _ _ z=>⟨z.1,ht _ _ z.2.1,z.2.2⟩
section
variable {P:Program} {w:World} {H:Hp} {h:Heap} {a:Addr}
theorem zTl (ok:HOk P w H h) (e:Rd H a u):zAl P w H h a u:=e.ok ok
theorem zIh (ok:HOk P w H h) (e:Rd H a (.dK kvs)):kvs.length<=sizeLine/\(a==sysModules)=false /\ ∃ vs,KV kvs vs/\h.DictOf (zA0 P w) a vs :=
 show zAl P w H h a (.dK kvs)from zTl ok e
theorem zTh (ok:HOk P w H h) (e:H a=some (.dK kvs)):kvs.length<=sizeLine/\(a==sysModules)=false /\ ∃ vs,KV kvs vs/\h.DictOf (zA0 P w) a vs:=zIh ok (.inl e)
theorem zFz (ok:HOk P w H h) (e:H a=some (.tup (ks.map kV))):(tupleKind (zA0 P w)).is h ks a:=by
 obtain ⟨_,its,r,o,h1,h2,⟨n,h3⟩,_⟩:=(show zAl P w H h a (.tup (ks.map kV))from ok a _ e);exact ⟨o,its.toArray,n,h1,h2,h3,by simpa using zJq r⟩
theorem zIv (ok:HOk P w H h) (e:Rd H a (.dT kvs)):kvs.length<=sizeLine/\(a==sysModules)=false /\
  ∃ xs,KT H kvs xs/\h.DictOfH (tupleKind (zA0 P w)) a xs:=by
 obtain ⟨z,y,xs,r,o,es,ep,h1,h2,h3,h4,h5⟩:=(show zAl P w H h a (.dT kvs)from zTl ok e);refine ⟨z,y,xs,r,o,es,ep,h1,h2,h3,h4,fun x hx=>?_,h5⟩;have all:∀ {l:List (List Key × V)} {m:List (List Key × Addr × Value)},KT H l m -> ∀ x∈m,(tupleKind (zA0 P w)).is h x.1 x.2.1:=by
  intro l m q;induction q with
  |nil=>intro x hx;exact nomatch hx
  | @cons p q ps qs hq t ih=>
   intro x hx;rcases zWw.mp hx with e|hx
   ·subst e;exact zFz ok (by rw[<-hq.1];exact hq.2.1)
   ·exact ih x hx
 exact all r x hx
theorem zTk (ok:HOk P w H h) (e:H a=some (.dT kvs)):kvs.length<=sizeLine/\(a==sysModules)=false /\
  ∃ xs,KT H kvs xs/\h.DictOfH (tupleKind (zA0 P w)) a xs:=zIv ok (.inl e)
end
def zEe (H:Hp) (a:Addr) (y:V) (r:Option V):Prop :=
 (∃ kvs k,Rd H a (.dK kvs)/\y=kV k/\r=zFl kvs k) \/ ∃ kvs k b,Rd H a (.dT kvs)/\y=.ref b/\H b=some (.tup (k.map kV))/\r=zFl kvs k
def zHk (H:Hp) (a:Addr) (y v:V) (H':Hp):Prop :=
 (∃ kvs k,H a=some (.dK kvs)/\y=kV k/\kvs.length<sizeLine/\H'=upd H a (.dK (zEo kvs k v))) \/
 ∃ kvs k b,H a=some (.dT kvs)/\y=.ref b/\H b=some (.tup (k.map kV))/\kvs.length<sizeLine/\H'=upd H a (.dT (zEo kvs k v))
theorem zEe.k {H:Hp} {a:Addr} {kvs:List (Key × V)} {k:Key} (e:H a=some (.dK kvs)):zEe H a (kV k) (zFl kvs k):=.inl ⟨kvs,k,.inl e,rfl,rfl⟩
theorem zEe.t {k:List Key} (e:H a=some (.dT kvs)) (eb:H b=some (.tup (k.map kV))):zEe H a (.ref b) (zFl kvs k):=.inr ⟨kvs,k,b,.inl e,rfl,eb,rfl⟩
theorem zHk.k {H:Hp} {a:Addr} {kvs:List (Key × V)} {k:Key} {v:V} (e:H a=some (.dK kvs)) (hl:kvs.length<sizeLine):zHk H a (kV k) v (upd H a (.dK (zEo kvs k v))):=.inl ⟨kvs,k,e,rfl,hl,rfl⟩
theorem zHk.t {kvs:List (List Key × V)} {k:List Key} (e:H a=some (.dT kvs)) (eb:H b=some (.tup (k.map kV))) (hl:kvs.length<sizeLine) :
  zHk H a (.ref b) v (upd H a (.dT (zEo kvs k v))):=.inr ⟨kvs,k,b,e,rfl,eb,hl,rfl⟩
section
variable {X:Cx} {zB:List (Addr × Obj)} {σ:St} {H:Hp} {s:Shared} {a:Addr} {y v:V} {u r:Value} {o:Option V} {A:Around} {E:Value->Shared->Prop}
theorem Inv.big (I:Inv X zB σ H s):sysModules<s.heap.objs.size:=by
 have h:mainGlobals<s.heap.objs.size:=(I.mod.glob.keeps I.bk).lt;exact Nat.lt_trans (by decide) h
theorem zPR (hu:A.units+1<cLine) (I:Inv X zB σ H s) (g:zEe H a y (some v)) (ry:zAT y u) (h:∀ w' s',Inv X zB σ H s'->zAT v w'->Q w' s') :
  wpAny (model X.prog X.w) A (getItem (.ref a) u) Q E s:=by
 rcases g with ⟨kvs,k,e,ey,l⟩|⟨kvs,k,b,e,ey,eb,l⟩
 ·subst ey;obtain ⟨z,hd,vs,rel,dd⟩:=zIh I.hok e;obtain ⟨w',hw,rw'⟩:=zG6.some_of (v:=v) (o:=valueAt vs k) (by rw[l];exact rel.val k);exact wpAny_getItem_of (zII ry) dd.mapOf hw (h w' _ (I.tok _) rw')
 ·subst ey;cases (show u=Value.ref b from ry);obtain ⟨z,hd,xs,rel,dd⟩:=zIv I.hok e;obtain ⟨w',hw,rw'⟩:=zG6.some_of (v:=v) (o:=(atKey xs k).map (·.2)) (by rw[l];exact rel.val k);obtain ⟨p,hp,hp2⟩:=Option.map_eq_some_iff.mp hw;refine wpAny_getItem_heap (tupleKind_room_in1 hu) (zFz I.hok eb) dd hp ?_;rw[hp2];exact h w' _ (I.tok _) rw'
theorem zWX (hu:A.units+1<cLine) (I:Inv X zB σ H s) (g:zEe H a y o) (ry:zAT y u) (h:∀ s',Inv X zB σ H s'->Q (.bool o.isSome) s') :
  wpAny (model X.prog X.w) A (compareOp .In u (.ref a)) Q E s:=by
 rcases g with ⟨kvs,k,e,ey,l⟩|⟨kvs,k,b,e,ey,eb,l⟩
 ·subst ey;obtain ⟨z,hd,vs,rel,dd⟩:=zIh I.hok e;refine wpAny_in_of (zII ry) hd dd.mapOf ?_;rw[<-(rel.val k).isSome_eq,<-l];exact h _ (I.tok _)
 ·subst ey;cases (show u=Value.ref b from ry);obtain ⟨z,hd,xs,rel,dd⟩:=zIv I.hok e;refine wpAny_in_heap (tupleKind_room_in1 hu) (zFz I.hok eb) hd dd ?_;have q:=(rel.val k).isSome_eq;rw[Option.isSome_map]at q;rw[<-q,<-l];exact h _ (I.tok _)
theorem zSK (hu:A.units+1<cLine) (I:Inv X zB σ H s) (g:zEe H a y o) (ry:zAT y u) (h:∀ s',Inv X zB σ H s'->Q (.bool (!o.isSome)) s') :
  wpAny (model X.prog X.w) A (compareOp .NotIn u (.ref a)) Q E s:=by
 rcases g with ⟨kvs,k,e,ey,l⟩|⟨kvs,k,b,e,ey,eb,l⟩
 ·subst ey;obtain ⟨z,hd,vs,rel,dd⟩:=zIh I.hok e;refine wpAny_notIn_of (zII ry) hd dd.mapOf ?_;rw[<-(rel.val k).isSome_eq,<-l];exact h _ (I.tok _)
 ·subst ey;cases (show u=Value.ref b from ry);obtain ⟨z,hd,xs,rel,dd⟩:=zIv I.hok e;refine wpAny_notIn_heap (tupleKind_room_in1 hu) (zFz I.hok eb) hd dd ?_;have q:=(rel.val k).isSome_eq;rw[Option.isSome_map]at q;rw[<-q,<-l];exact h _ (I.tok _)
theorem zGU (I:Inv X zB σ H s) (mu:Mut (H a)) (hs:Heap.SameBut a s.heap h') (he:∃ q,h'.get? a=some q) (new:zAl X.prog X.w (upd H a ob) h' a ob) :
  Inv X zB σ (upd H a ob) { s with heap:=h',toks:=t' } :=
 I.write (x:=a) (e:=a) mu (.inl rfl) (fun b q hb z=>(hs.2 b hb).trans z) he new
theorem zR8 (z:kvs.length<=sizeLine) (hd:(a==sysModules)=false) (rel:KV kvs vs) (dd:h'.DictOf (zA0 P w) a vs) :
  zAl P w H' h' a (.dK kvs):=⟨z,hd,vs,rel,dd⟩
theorem zPW (hu:A.units+1<cLine) (I:Inv X zB σ H s) (g:zHk H a y v H') (ry:zAT y u) (rv:zAT v r) (h:∀ s',Inv X zB σ H' s'->Q () s') :
  wpAny (model X.prog X.w) A (setItem (.ref a) u r) Q E s:=by
 rcases g with ⟨kvs,k,e,ey,l,eH⟩|⟨kvs,k,b,e,ey,eb,l,eH⟩
 ·subst ey eH;obtain ⟨z,hd,vs,rel,dd⟩:=zTh I.hok e;have hz:vs.length<=sizeLine:=by rw[<-rel.length];exact z
  have hl:(zEo kvs k v).length<=sizeLine:=by have:=zDs kvs k v;omega
  refine wpAny_setItem_pairs (hsz:=hz) (zII ry) dd fun h' dd' hs=>h _ ?_;have he:∃ q,h'.get? a=some q:=let ⟨q,_,_,hq,_⟩:=dd';⟨q,hq⟩;exact zGU I (by rw[e];exact True.intro) hs he (zR8 hl hd (rel.put k rv) dd')
 ·subst ey eH;cases (show u=Value.ref b from ry);obtain ⟨z,hd,xs,rel,dd⟩:=zTk I.hok e;have hz:xs.length<=sizeLine:=by rw[<-Paired.length rel];exact z
  have hl:(zEo kvs k v).length<=sizeLine:=by have:=zDs kvs k v;omega
  refine wpAny_setItem_heap (hsz:=hz) (tupleKind_room_in1 hu) (zFz I.hok eb) dd fun h' dd' hs=>h _ ?_;obtain ⟨q,es,ep,hq,h2,h3,h4,_,h5⟩:=dd';refine zGU I (by rw[e];exact True.intro) hs ⟨q,hq⟩ ⟨hl,hd,_,(rel.put k eb rv).keeps fun c ys ec=>?_,q,es,ep,hq,h2,h3,h4,h5⟩;rw[zn (zH6 ec e (fun z=>nomatch z))];exact ec
end
def zU9 (i:Expr):Prop:=∀ ov iv,subscripted i false ov iv=operate [ov,iv] (getItem ov iv)
theorem zS5 {prog:Program} {w:World} {A:Around} {E:Value->Shared->Prop} {s:Shared} {env:Env} {value slice:Expr} {pos:Pos} {T id:String} {Q:Value->Shared->Prop}
  (hl:typeLookup (.type T) "__getitem__" = pure (some (.builtin id))) (hs:zU9 slice)
  (h:wpAny (model prog w) A (eval value env) (fun o s₁=>wpAny (model prog w) A (eval slice env) (fun i s₂=>s₂.TypeIs o T/\wpAny (model prog w) A (getItem o i) Q E s₂) E s₁) E s) :
  wpAny (model prog w) A (eval (.Subscript value slice pos) env) Q E s:=by
 refine Subscript_ (zXG h (fun o s₁ h₁=>zXG h₁ (fun i s₂ h₂=>?_) fun _ _ x=>x) fun _ _ x=>x);obtain ⟨hT,h₂⟩:=h₂;unfold subscriptTail;refine zWk ?_;rw[getitemInPython_of_ne hT.not_modules];refine zWk (wpAny_specialOf hT hl ?_);have fin:wpAny (model prog w) A (subscripted slice false o i) (fun r s₃=>wpAny (model prog w) A (letTemporaryGo value o r >>= fun _=>pure r) Q E s₃) E s₂:=by
  rw[hs o i];exact wpAny_operating (zXG h₂ (fun r s₃ h₃=>zWk (wpAny_letTemporaryGo (zWm h₃))) fun _ _ x=>x)
 first
  |exact zWm (zWk fin)
  |exact zWk (zWm (zWk fin))
  |exact zWk fin
theorem zMN (I:Inv X zB σ H s) (g:zEe H a y o):s.TypeIs (.ref a) "dict" := by
 rcases g with ⟨kvs,k,e,_,_⟩|⟨kvs,k,b,e,_,_,_⟩
 ·obtain ⟨_,_,vs,_,dd⟩:=zIh I.hok e;exact dd.typeIs
 ·obtain ⟨_,_,xs,_,dd⟩:=zIv I.hok e;exact dd.typeIs
def zV5 (td ty:TE):TE:=fun σ H Q=>td σ H fun x H1=>ty σ H1 fun y H2=>∃ a v,x=.ref a/\zEe H2 a y (some v)/\Q v H2
def zWc (ty td:TE):TE:=fun σ H Q=>ty σ H fun y H1=>td σ H1 fun x H2=>∃ a o,x=.ref a/\zEe H2 a y o/\Q (.bl o.isSome) H2
def zTL (ty td:TE):TE:=fun σ H Q=>ty σ H fun y H1=>td σ H1 fun x H2=>∃ a o,x=.ref a/\zEe H2 a y o/\Q (.bl (!o.isSome)) H2
def zVj (td ty tv:TE):TS:=fun D σ H=>tv σ H fun v H1=>td σ H1 fun x H2=>ty σ H2 fun y H3=>∃ a H4,x=.ref a/\zHk H3 a y v H4/\D.nx σ H4
section
variable {X:Cx} {o i e value:Expr} {pos pos' tpos:Pos} {td ty tv:TE}
theorem zSw (hu:X.A.units+1<cLine) (ho:PE X o td) (hi:PE X i ty) (hs:zU9 i):PE X (.Subscript o i pos) (zV5 td ty):=by
 intro zB s σ H Q I h;refine zS5 PySem.F.slot_dict_getitem.lookup hs (thn (ho zB s σ H _ I h) fun u s1 ⟨x,H1,I1,rx,q1⟩=>thn (hi zB s1 σ H1 _ I1 q1) fun iv s2 ⟨y,H2,I2,ry,a,v,ex,g,q2⟩=>?_);subst ex;obtain rfl:u=Value.ref a:=rx;exact ⟨zMN I2 g,zPR hu I2 g ry fun w' s3 I3 rw'=>⟨v,H2,I3,rw',q2⟩⟩
theorem zRo (hu:X.A.units+1<cLine) (hi:PE X i ty) (ho:PE X o td):PC X .In i o (zWc ty td):=by
 intro zB s σ H Q I h;refine thn (hi zB s σ H _ I h) fun iv s1 ⟨y,H1,I1,ry,q1⟩=>thn (ho zB s1 σ H1 _ I1 q1) fun u s2 ⟨x,H2,I2,rx,a,ov,ex,g,q2⟩=>?_;subst ex;obtain rfl:u=Value.ref a:=rx;exact zWX hu I2 g ry fun s3 I3=>⟨.bl ov.isSome,H2,I3,rfl,q2⟩
theorem zO9 (hu:X.A.units+1<cLine) (hi:PE X i ty) (ho:PE X o td):PC X .NotIn i o (zTL ty td):=by
 intro zB s σ H Q I h;refine thn (hi zB s σ H _ I h) fun iv s1 ⟨y,H1,I1,ry,q1⟩=>thn (ho zB s1 σ H1 _ I1 q1) fun u s2 ⟨x,H2,I2,rx,a,ov,ex,g,q2⟩=>?_;subst ex;obtain rfl:u=Value.ref a:=rx;exact zSK hu I2 g ry fun s3 I3=>⟨.bl (!ov.isSome),H2,I3,rfl,q2⟩
theorem zTZ (hu:X.A.units+1<cLine) (ho:PE X o td) (hi:PE X i ty) (hv:PE X value tv) (hs:swapsWith value (some (.Subscript o i pos')) pos.line X.env=pure false) :
  PS X (.Assign [.Subscript o i pos'] value pos) (zVj td ty tv):=by
 intro zB s σ H D I h;refine wpAny_Assign_Subscript (thn (hv zB s σ H _ I h) fun r s1 ⟨v,H1,I1,rv,q1⟩=>thn (ho zB s1 σ H1 _ I1 q1) fun u s2 ⟨x,H2,I2,rx,q2⟩=>thn (hi zB s2 σ H2 _ I2 q2) fun iv s3 ⟨y,H3,I3,ry,a,H4,ex,g,q3⟩=>?_) hs;subst ex;obtain rfl:u=Value.ref a:=rx;exact zPW hu I3 g ry rv fun s4 I4=>⟨σ,H4,I4,q3⟩
end
theorem zRn (h:Heap) (hb:sysModules<h.objs.size):zAl P w H (h.push { cls:=.type "dict", data:=.dict #[] }) h.objs.size (.dK []) :=
 ⟨zXW _,beq_eq_false_iff_ne.mpr (Ne.symm (zW5 hb)),[],.nil,Heap.DictOf.new h⟩
theorem zRf (h:Heap) (hb:sysModules<h.objs.size):zAl P w H (h.push { cls:=.type "dict", data:=.dict #[] }) h.objs.size (.dT []) :=
 ⟨zXW _,beq_eq_false_iff_ne.mpr (Ne.symm (zW5 hb)),[],.nil,_,#[],0,zWu _ rfl,⟨rfl,rfl,rfl⟩,rfl,rfl,List.nodup_nil⟩
def zUp:TE:=fun _ H Q=>∀ p,H p=none->Q (.ref p) (upd H p (.dK []))
def zUs:TE:=fun _ H Q=>∀ p,H p=none->Q (.ref p) (upd H p (.dT []))
section
variable {X:Cx} {pos:Pos}
theorem zQ5:PE X (.Dict [] [] pos) zUp:=fun zB s σ H Q I h=>
 wpAny_Dict_empty ⟨.ref s.heap.objs.size,_,I.laid (a:=s.heap.objs.size) (o:=.dK []) (t':=s.toks) (fun _ _ q=>zWl _ q) (zWq _) (zRn s.heap I.big),rfl,h _ (I.hok.fresh (zWq _))⟩
theorem zRX:PE X (.Dict [] [] pos) zUs:=fun zB s σ H Q I h=>
 wpAny_Dict_empty ⟨.ref s.heap.objs.size,_,I.laid (a:=s.heap.objs.size) (o:=.dT []) (t':=s.toks) (fun _ _ q=>zWl _ q) (zWq _) (zRf s.heap I.big),rfl,h _ (I.hok.fresh (zWq _))⟩
end
structure M2 (X:Cx) (o:Expr) (m:Str) (apos:Pos) (e f:Expr) (cpos:Pos):Prop where
 base:attributeBase o m X.env (eval o X.env)=eval o X.env
 few:((backTo cpos (starEach [e,f] X.env)).all (fun x=> !x.1)&&(backToKw cpos (keywordEach [] X.env)).all (fun x=>x.1.isSome)
  && decide (([e,f]:List Expr).length+([]:List Keyword).length+(if ([]:List Keyword).isEmpty then 0 else 1)<30))=true
 line:(apos.endLine==cpos.line)=true
 trees:backTo cpos (starEach [e,f] X.env)=[(false,eval e X.env),(false,eval f X.env)]
def IsD (H:Hp) (a:Addr):Prop:=(∃ kvs,Rd H a (.dK kvs)) \/ ∃ kvs,Rd H a (.dT kvs)
theorem zRL (I:Inv X zB σ H s) (d:IsD H a) :
  s.TypeIs (.ref a) "dict" /\ (∀ b,Value.ref a=.ref b -> ∃ ob,s.heap.get? b=some ob/\ob.dict=none)/\(a==sysModules)=false:=by
 rcases d with ⟨kvs,e⟩|⟨kvs,e⟩
 ·obtain ⟨_,hd,vs,_,dd⟩:=zIh I.hok e;refine ⟨dd.typeIs,fun b q=>?_,hd⟩;cases q;obtain ⟨ob,_,_,h1,h2,_⟩:=dd;exact ⟨ob,h1,h2.2.1⟩
 ·obtain ⟨_,hd,xs,_,dd⟩:=zIv I.hok e;refine ⟨dd.typeIs,fun b q=>?_,hd⟩;cases q;obtain ⟨ob,_,_,h1,h2,_⟩:=dd;exact ⟨ob,h1,h2.2.1⟩
section
variable {X:Cx} {zB:List (Addr × Obj)} {σ:St} {H:Hp} {s:Shared} {a:Addr} {y d:V} {u r:Value} {o:Option V} {A:Around} {E:Value->Shared->Prop}
theorem zUT (hu:A.units+1<cLine) (I:Inv X zB σ H s) (g:zEe H a y o) (ry:zAT y u) (rd:zAT d r) (h:∀ w' s',Inv X zB σ H s'->zAT (o.getD d) w'->Q w' s') :
  wpAny (model X.prog X.w) A (call (.builtin "dict.get") [.ref a,u,r]) Q E s:=by
 rcases g with ⟨kvs,k,e,ey,l⟩|⟨kvs,k,b,e,ey,eb,l⟩
 ·subst ey;obtain ⟨z,hd,vs,rel,dd⟩:=zIh I.hok e;refine call_meetsIn PySem.F.slot_dict_get dd.typeIs PySem.F.entry_dict_get (PySem.F.args_dict_get_3 _ _ _) (meets_dict_get_default (zA0 X.prog X.w) a (zII ry) hd r) ⟨_,dd.mapOf,h _ _ (I.tok _) ?_⟩;rw[l];exact (rel.val k).getD rd
 ·subst ey;cases (show u=Value.ref b from ry);obtain ⟨z,hd,xs,rel,dd⟩:=zIv I.hok e;refine call_meetsIn PySem.F.slot_dict_get dd.typeIs PySem.F.entry_dict_get (PySem.F.args_dict_get_3 _ _ _) (meetsH_dict_get_default (tupleKind (zA0 X.prog X.w)) a b hd r) ⟨tupleKind_room_in1 hu,k,xs,zFz I.hok eb,dd,h _ _ (I.tok _) ?_⟩;rw[l];exact (rel.val k).getD rd
end
def zRs (td ty tx:TE):TE:=fun σ H Q=>td σ H fun x H1=>∃ a,x=.ref a/\IsD H1 a/\ty σ H1 fun y H2=>tx σ H2 fun z H3=>∃ o,zEe H3 a y o/\Q (o.getD z) H3
section
variable {X:Cx} {o e f:Expr} {apos cpos:Pos} {td ty tx:TE}
theorem zQV (hu:X.A.units+1<cLine) (ho:PE X o td) (he:PE X e ty) (hf:PE X f tx) (m:M2 X o "get" apos e f cpos):PE X (.Call (.Attribute o "get" apos) [e,f] [] cpos) (zRs td ty tx):=by
 intro zB s σ H Q I h;refine wpAny_Call_method m.base m.few m.line PySem.F.plainAttrs_dict PySem.F.slot_dict_get PySem.F.type_dict_get (thn (ho zB s σ H _ I h) fun u s1 ⟨x,H1,I1,rx,a,ex,d,q1⟩=>?_);subst ex;obtain rfl:u=Value.ref a:=rx;obtain ⟨t1,t2,_⟩:=zRL I1 d;refine ⟨t1,t2,?_⟩;rw[m.trees];refine Calls.callWith_builtin rfl (Calls.evalArgs_plain (Calls.spliced_cons (thn (he zB s1 σ H1 _ I1 q1) fun iv s2 ⟨y,H2,I2,ry,q2⟩=>
  Calls.spliced_cons (thn (hf zB s2 σ H2 _ I2 q2) fun fv s3 ⟨z,H3,I3,rz,ov,g,q3⟩=>Calls.spliced_nil ?_))))
 exact zUT hu I3 g ry rz fun w' s4 I4 rw'=>⟨_,H3,I4,rw',q3⟩
end
theorem zBH:∀ (names:List (Str × NameKind)) (n:Nat) (acc:List (Str × Addr)),cellsFrom n names acc=cellsFrom n names []++acc
 |[],_,_=>rfl
 |(name,kind)::r,n,acc=>by
  unfold cellsFrom;split
  ·rw[zBH r (n+1) ((name,n)::acc),zBH r (n+1) [(name,n)],zXq];rfl
  ·exact zBH r n acc
theorem zDZ {α:Type} (x:Str):∀ (l r:List (Str × α)),(l++r).lookup x=(match l.lookup x with|some c=>some c|none=>r.lookup x)
 |[],r=>rfl
 |(k,v)::l,r=>by
  rw[List.cons_append,zYp,zYp];cases hb:x==k with
  |true=>rfl
  |false=>exact zDZ x l r
theorem zGD:∀ (names:List (Str × NameKind)) (acc:List (Str × Addr)),
  (∀ y∈names,y.2=.free -> ∃ c,env.cells.lookup y.1=some c) ->
  (∀ x c,acc.lookup x=some c->env.cells.lookup x=some c) ->
  ∃ cl:List (Str × Addr),(forIn names acc (fun (p:Str × NameKind) (cs:List (Str × Addr))=>(do
    if p.2 == .free then
     let a <- cellOf env p.1;pure (ForInStep.yield ((p.1,a)::cs))
    else pure (ForInStep.yield cs):Sem (ForInStep (List (Str × Addr))))))=pure cl /\
   (∀ x c,cl.lookup x=some c->env.cells.lookup x=some c) /\
   (∀ x,(acc.lookup x).isSome=true->(cl.lookup x).isSome=true) /\ ∀ y∈names,y.2=.free->(cl.lookup y.1).isSome=true
 |[],acc,_,ha=>⟨acc,by rw[List.forIn_nil],ha,fun _ h=>h,fun _ h=>nomatch h⟩
 |(n,k)::r,acc,hf,ha=>by
  rw[List.forIn_cons];by_cases hk:k=.free
  ·subst hk;obtain ⟨c,hc⟩:=hf (n,.free) zWy rfl;have hco:cellOf env n=pure c:=by unfold cellOf;rw[hc]
   obtain ⟨cl,e,h1,h2,h3⟩:=zGD r ((n,c)::acc) (fun y hy=>hf y (zWx _ hy)) (fun x d hx=>by
    rw[zYp]at hx;cases hb:x==n with
    |true=>rw[hb]at hx;cases hx;rw[beq_iff_eq.mp hb];exact hc
    |false=>rw[hb]at hx;exact ha x d hx)
   refine ⟨cl,?_,h1,fun x hx=>h2 x ?_,fun y hy hk=>?_⟩
   ·rw[<-e];simp only[beq_self_eq_true,if_true,hco];rfl
   ·rw[zYp];cases hb:x==n with
    |true=>rfl
    |false=>exact hx
   ·rcases zWw.mp hy with z|z
    ·subst z;exact h2 n (by rw[zYp];simp)
    ·exact h3 y z hk
  ·obtain ⟨cl,e,h1,h2,h3⟩:=zGD r acc (fun y hy=>hf y (zWx _ hy)) ha;refine ⟨cl,?_,h1,h2,fun y hy hk'=>?_⟩
   ·rw[<-e];have:(k==NameKind.free)=false:=by simpa using hk
    simp only[this,zXl,if_false];rfl
   ·rcases zWw.mp hy with z|z
    ·subst z;exact absurd hk' hk
    ·exact h3 y z hk'
theorem zJM (hf:∀ y∈scope.names,y.2=.free -> ∃ c,env.cells.lookup y.1=some c) :
  ∃ cl,closureFor scope env=pure cl/\(∀ x c,cl.lookup x=some c->env.cells.lookup x=some c) /\ ∀ y∈scope.names,y.2=.free->(cl.lookup y.1).isSome=true:=by
 obtain ⟨cl,e,h1,_,h3⟩:=zGD (env:=env) scope.names [] hf (fun x c h=>nomatch h);refine ⟨cl,?_,h1,h3⟩;unfold closureFor;rw[show (pure cl:Sem _)=pure cl >>= pure from rfl,<-e]
theorem zDj
  (hQ:Q (newEnv scope s.heap.objs.size globals (cellsFrom (s.heap.objs.size+1) scope.names cl) qual none .none (some env) builtinsNs)
   { s with heap:=pushCells (s.heap.push { cls:=.type "dict", data:=.dict #[] }) scope.names }) :
  wpAny M A (newFunctionEnv scope globals cl [] qual none .none (some env)) Q E s:=by
 simp only[newFunctionEnv,Option.isSome_some,if_true];refine zWk (wpAny_alloc ?_);refine zWk (wpAny_layCells _ (fun name kind cells=>by cases hkc:kind==NameKind.cell <;> simp[hkc]) _ _ _ _ ?_);rw[show ({ s with heap:=s.heap.push { cls:=.type "dict", data:=.dict #[] } }:Shared).heap.objs.size=s.heap.objs.size+1 from zXQ ..];exact zWk (zWm (zWm hQ))
def zX (X:Cx) (zB:List (Addr × Obj)) (scope:Scope) (cl:List (Str × Addr)) (s:Shared) (H:Hp) (fp:List Addr):Cx where
 prog:=X.prog
 w:=X.w
 K:=X.K
 mg:=X.mg
 base:=X.base
 A:=X.A
 N:=X.N
 s₀:=s
 H₀:=H
 env:={ scope:=relabel scope X.env,locals:=s.heap.objs.size+1,globals:=X.env.globals,cells:=cellsFrom (s.heap.objs.size+1+1) scope.names cl,qual:=X.env.qual,func:=none,code:=X.env.code,frame:=X.env.frame,builtins:=X.env.builtins }
 outer:=X.stack
 stack:=X.stack
 ex:=fp
 fn:=fun x=>decide (scope.names.lookup x=some .cell)
 calm:=X.calm
 pn:=X.pn++zB
 xe:=fun _ _=>False
theorem zB0 {scope:Scope} {env:Env} (x:Str):∀ {names:List (Str × NameKind)} {k:NameKind},
  (names.map fun (n,k)=>if (k==NameKind.free&&env.scope.kind == .function&&env.kindOf n==some .cell) then (n,NameKind.cell) else (n,k)).lookup x=some k ->
  names.lookup x=some k\/(names.lookup x=some .free/\k=.cell)
 |[],_,h=>by simp at h
 |(n,k')::r,k,h=>by
  rw[zW3]at h;by_cases hc:(k'==NameKind.free&&env.scope.kind == .function&&env.kindOf n==some .cell)=true
  ·simp only[hc,if_true]at h;rw[zYp]at h ⊢;cases hb:x==n with
   |true=>
    rw[hb]at h;simp only[zXK,beq_iff_eq]at hc;exact .inr ⟨by rw[hc.1.1],(zXk h).symm⟩
   |false=>rw[hb]at h;exact zB0 (scope:=scope) x h
  ·simp only[hc,zXl,if_false]at h;rw[zYp]at h ⊢;cases hb:x==n with
   |true=>rw[hb]at h;exact .inl h
   |false=>rw[hb]at h;exact zB0 (scope:=scope) x h
theorem zJD:∀ (names:List (Str × NameKind)) (n:Nat) (acc:List (Str × Addr)) (x:Str) (c:Addr),(x,c)∈cellsFrom n names acc->(x,c)∉acc->(x,NameKind.cell)∈names
 |[],_,_,_,_,h,h'=>absurd h h'
 |(name,kind)::r,n,acc,x,c,h,h'=>by
  unfold cellsFrom at h;split at h
  ·rename_i hk;by_cases e:(x,c)=(name,n)
   ·cases e;rw[beq_iff_eq]at hk;subst hk;exact zWy
   ·exact zWx _ (zJD r _ _ x c h fun z=>(zWw.mp z).elim e h')
  ·exact zWx _ (zJD r _ _ x c h h')
structure CompScope (X:Cx) (scope:Scope):Prop where
 kind:scope.kind=.function
 names:∀ y∈scope.names,y.2=.local->scope.names.lookup y.1=some .local
 cells:∀ y∈scope.names,y.2=.cell->scope.names.lookup y.1=some .cell
 free:∀ y∈scope.names,y.2=.free->X.env.kindOf y.1=some .cell\/X.env.kindOf y.1=some .free
section
variable {X:Cx} {zB:List (Addr × Obj)} {σ σc:St} {H:Hp} {s s4:Shared} {scope:Scope} {cl:List (Str × Addr)} {fp:List Addr}
theorem zGq (S:CompScope X scope) (I:Inv X zB σ H s) (hf:∀ b∈fp,zDB X zB H b) (ho:∀ b:Nat,b∈fp->b<s.heap.objs.size)
  (c1:∀ x c,cl.lookup x=some c->X.env.cells.lookup x=some c) (c2:∀ y∈scope.names,y.2=.free->(cl.lookup y.1).isSome=true)
  (hl:σc.length=σ.length) (hσ:∀ (i:Nat) x v,X.N[i]?=some x->σc[i]?=some (some v)->(relabel scope X.env).names.lookup x≠none->scope.names.lookup x=some .free/\σ[i]?=some (some v))
  (lo:Obj) (hlo:∀ v,lo.data≠.cell v) (hfr:lo.isFreed=false)
  (h4:s4={ s with heap:=pushCells ((s.heap.push lo).push { cls:=.type "dict", data:=.dict #[] }) scope.names }) :
  Inv (zX X zB scope cl s H fp) [(s.heap.objs.size,lo)] σc H s4:=by
 subst h4;have sz1:(s.heap.push lo).objs.size=s.heap.objs.size+1:=zXQ ..;have sz2:((s.heap.push lo).push { cls:=.type "dict", data:=.dict #[] }).objs.size=s.heap.objs.size+1+1:=by rw[zXQ,sz1]
 have hk:∀ b o,s.heap.get? b=some o->(pushCells ((s.heap.push lo).push { cls:=.type "dict", data:=.dict #[] }) scope.names).get? b=some o:=fun b o e=>
  pushCells_keeps _ _ b o (zWl _ (zWl _ e))
 have ok:=cellsFrom_ok scope.names ((s.heap.push lo).push { cls:=.type "dict", data:=.dict #[] }) (s.heap.objs.size+1+1) [] ⟨fun _ _ hm=>(nomatch hm),List.Pairwise.nil⟩ (by rw[sz2];exact zWq _);rw[sz2]at ok;have look:∀ x c,(cellsFrom (s.heap.objs.size+1+1) scope.names cl).lookup x=some c->((cellsFrom (s.heap.objs.size+1+1) scope.names []).lookup x=some c)\/((cellsFrom (s.heap.objs.size+1+1) scope.names []).lookup x=none/\X.env.cells.lookup x=some c):=fun x c e=>by
  rw[zBH,zDZ]at e;cases q:(cellsFrom (s.heap.objs.size+1+1) scope.names []).lookup x with
  |some d=>rw[q]at e;exact .inl e
  |none=>rw[q]at e;exact .inr ⟨rfl,c1 x c e⟩
 have old:∀ x (c:Nat),X.env.cells.lookup x=some c->c<s.heap.objs.size:=fun x c e=>let ⟨_,q⟩:=I.cell x c e;q.lt;have new:∀ x (c:Nat),(cellsFrom (s.heap.objs.size+1+1) scope.names []).lookup x=some c->s.heap.objs.size+1+1<=c:=fun x c e=>(ok.empty x c (zXm e)).2;have own:∀ x,scope.names.lookup x=some .cell -> ∃ c,(cellsFrom (s.heap.objs.size+1+1) scope.names []).lookup x=some c:=fun x e=>zIT e;have cne:∀ x (c:Nat),(cellsFrom (s.heap.objs.size+1+1) scope.names cl).lookup x=some c->c<s.heap.objs.size\/s.heap.objs.size+1+1<=c:=fun x c e=>by
  rcases look x c e with q|⟨_,q⟩
  ·exact .inr (new x c q)
  ·exact .inl (old x c q)
 refine ⟨⟨I.ok.mod,S.kind,I.ok.glob,I.ok.blt,zYS _,fun x y c h1 h2=>?_,fun x hx=>?_,fun x c hx h=>?_,I.ok.hd,I.ok.frames,.inl rfl,fun b hb=>⟨?_,fun x c e z=>?_⟩,I.bs,zXB I.ok.bsz I.sz,fun b o e hb=>?_,fun b hb z=>?_,I.stack,I.stkFree⟩,
  rfl,I.bare,Un.kept hk,⟨fun _=>none,?_,fun i x v h1 h2 h3=>?_⟩,fun x c e=>?_,I.hok.fresh (zYS _),fun x c e=>?_,fun p hp=>?_,I.hok.kept hk,hl.trans I.len⟩
 ·rcases look x c h1 with a|⟨_,a⟩ <;> rcases look y c h2 with b|⟨_,b⟩
  ·exact name_of_addr ok.apart (zXm a) (zXm b)
  ·exact absurd (Nat.lt_of_le_of_lt (new x c a) (old y c b)) (by omega)
  ·exact absurd (Nat.lt_of_le_of_lt (new y c b) (old x c a)) (by omega)
  ·exact I.ok.inj x y c a b
 ·have hx':(relabel scope X.env).names.lookup x=some .cell\/(relabel scope X.env).names.lookup x=some .free:=hx;have go:scope.names.lookup x=some .cell\/scope.names.lookup x=some .free:=by
   rcases hx' with q|q
   ·rcases zB0 (scope:=scope) x q with z|z
    ·exact .inl z
    ·exact .inr z.1
   ·rcases zB0 (scope:=scope) x q with z|z
    ·exact .inr z
    ·exact .inr z.1
  show ∃ c,(cellsFrom (s.heap.objs.size+1+1) scope.names cl).lookup x=some c;rw[zBH,zDZ];rcases go with q|q
  ·obtain ⟨c,e⟩:=own x q;exact ⟨c,by rw[e]⟩
  ·cases e:(cellsFrom (s.heap.objs.size+1+1) scope.names []).lookup x with
   |some d=>exact ⟨d,rfl⟩
   |none=>exact Option.isSome_iff_exists.mp (c2 (x,.free) (zXm q) rfl)
 ·obtain ⟨d,e⟩:=own x (zXg hx);have h':(cellsFrom (s.heap.objs.size+1+1) scope.names cl).lookup x=some c:=h;rw[zBH,zDZ,e]at h';cases h';exact zXB (zXB (zYS _) (zYS _)) (new x _ e)
 ·exact zW5 (zXZ (ho b hb))
 ·rcases look x c e with q|⟨_,q⟩
  ·have a:=new x c q;rw[z]at a;exact absurd (Nat.lt_of_le_of_lt a (ho b hb)) (by omega)
  ·exact (hf b hb).2.2.2.2.1 x c q z
 ·rcases (hf b hb).2.2.2.1 with z|z
  ·exact I.ok.noex b o e z
  ·exact absurd (zW9 (zWv e) (zXB I.ok.bsz z)) (zXS _)
 ·rcases zWw.mp (I.stkSub b z)with q|q
  ·exact (hf b hb).2.1 q
  ·exact (hf b hb).2.2.1 q
 ·have q:((s.heap.push lo).push { cls:=.type "dict", data:=.dict #[] }).Ns (s.heap.push lo).objs.size (fun _=>none):=Heap.Ns.new ..;rw[sz1]at q;exact q.keeps (pushCells_keeps _ _)
 ·have h3':(relabel scope X.env).names.lookup x≠none:=by
   rcases h3 with z|z|z <;> (intro q;have z':(relabel scope X.env).names.lookup x=_:=z;rw[q]at z';cases z')
  obtain ⟨fr,hv⟩:=hσ i x v h1 h2 h3';obtain ⟨m,hn,hlk⟩:=I.loc;have kx:=S.free (x,.free) (zXm fr) rfl;obtain ⟨u,rv,lk⟩:=hlk i x v h1 hv (by rcases kx with z|z;exact .inr (.inl z);exact .inr (.inr z));refine ⟨u,rv,?_⟩;rcases lk with ⟨z,_⟩|⟨_,c,e,ic⟩
  ·rcases kx with k|k <;> (rw[k]at z;cases z)
  ·have kind:(relabel scope X.env).names.lookup x=some .cell\/(relabel scope X.env).names.lookup x=some .free:=by
    cases q:(relabel scope X.env).names.lookup x with
    |none=>exact absurd q h3'
    |some k=>
     rcases zB0 (scope:=scope) x q with z|z
     ·rw[fr]at z;cases z;exact .inr rfl
     ·rw[z.2];exact .inl rfl
   refine .inr ⟨kind,c,?_,ic.keeps hk⟩;show (cellsFrom (s.heap.objs.size+1+1) scope.names cl).lookup x=some c;rw[zBH,zDZ];obtain ⟨d,hd⟩:=Option.isSome_iff_exists.mp (c2 (x,.free) (zXm fr) rfl);have:=c1 x d hd;rw[e]at this;cases this;have nn:(cellsFrom (s.heap.objs.size+1+1) scope.names []).lookup x=none:=by
    cases q:(cellsFrom (s.heap.objs.size+1+1) scope.names []).lookup x with
    |none=>rfl
    |some d'=>
     have z:=S.cells (x,.cell) (zJD scope.names _ [] x d' (zXm q) fun z=>nomatch z) rfl;rw[fr]at z;cases z
   rw[nn];exact hd
 ·rcases look x c e with q|⟨_,q⟩
  ·exact ⟨none,(ok.empty x c (zXm q)).1⟩
  ·obtain ⟨v,z⟩:=I.cell x c q;exact ⟨v,z.keeps hk⟩
 ·rcases look x c e with q|⟨_,q⟩
  ·exact I.hok.fresh (by have:=new x c q;omega)
  ·exact I.freeC x c q
 ·have hp':p∈X.pn++zB\/p=(s.heap.objs.size,lo):=by
   rcases zXA.mp hp with z|z
   ·exact .inl z
   ·exact .inr (by simpa using z)
  rcases hp' with z|z
  ·obtain ⟨e,n,ne,nf,d⟩:=I.pin p z;have lt:(p.1:Nat)<s.heap.objs.size:=zWv e;refine ⟨hk _ _ e,n,?_,fun q=>?_,d⟩
   ·exact zW5 (zXZ lt)
   ·rcases zWw.mp (I.stkSub _ q)with r|r
    ·exact ne r
    ·exact nf r
  ·subst z;refine ⟨pushCells_keeps _ _ _ _ (zWl _ (zWu _ hfr)),I.hok.fresh (zWq _),?_,fun q=>?_,hlo⟩
   ·show s.heap.objs.size≠s.heap.objs.size+1;omega
   ·rcases zWw.mp (I.stkSub _ q)with r|r
    ·exact absurd I.lt (by rw[<-r];exact zXS _)
    ·exact I.nofs (zWq _) r
end
def clr (own:List Nat) (σ:St):St:=own.foldl (fun σ i=>σ.set i none) σ
theorem zCE:∀ (own:List Nat) (σ:St),(clr own σ).length=σ.length
 |[],_=>rfl
 |i::r,σ=>by
  show (clr r (σ.set i none)).length=_;rw[zCE r,List.length_set]
theorem zDm:∀ (own:List Nat) (σ:St) (j:Nat) (v:V),(clr own σ)[j]?=some (some v)->σ[j]?=some (some v)/\j∉own
 |[],_,_,_,h=>⟨h,fun z=>nomatch z⟩
 |i::r,σ,j,v,h=>by
  have h':(clr r (σ.set i none))[j]?=some (some v):=h;obtain ⟨a,b⟩:=zDm r _ j v h';rw[zYJ]at a;split at a
  ·split at a <;> cases a
  ·rename_i hne;exact ⟨a,fun z=>(zWw.mp z).elim (fun e=>hne e.symm) b⟩
def Ext (a b:St):Prop:=b.length=a.length /\ ∀ (i:Nat) v,a[i]?=some (some v)->b[i]?=some (some v)
theorem Ext.refl (a:St):Ext a a:=⟨rfl,fun _ _ h=>h⟩
theorem Ext.set (e:Ext (clr own σ) a) (h:i∈own):Ext (clr own σ) (a.set i (some v)):=by
 refine ⟨by rw[List.length_set];exact e.1,fun j u q=>?_⟩;rw[zYJ];split
 ·rename_i z;exact absurd (z▸h) (zDm own σ j u q).2
 ·exact e.2 j u q
def zHj (X:Cx) (ifs:List Expr) (t:TT):Prop :=
 ∀ (zB:List (Addr × Obj)) (s:Shared) (σ:St) (H:Hp) (Q:Bool->Hp->Prop),Inv X zB σ H s->t σ H Q ->
  wpAny (model X.prog X.w) X.A (forIn ifs true fun c r=>if r=true then do let ok <- isTrue c X.env (eval c X.env);pure (ForInStep.yield ok) else pure (ForInStep.yield r)) (TP X zB σ Q) X.xe s
def zWM:TT:=fun _ H Q=>Q true H
theorem zRw:zHj X [] zWM:=fun _ _ _ H _ I h=>wpAny_tests_nil ⟨H,I,h⟩
theorem zRQ (h:PT X c t):zHj X [c] t:=fun zB s σ H Q I hq=>wpAny_tests_one (h zB s σ H Q I hq)
section
variable {prog:Program} {w:World} {A:Around} {E:Value->Shared->Prop} {R:Result->Shared->Prop} {s:Shared}
theorem zKo (I:Nat->Shared->Prop)
  (turn:∀ n s,I n s->wpAny (model prog w) A (pyNext it) (fun r s₁=>match r with
   |none=>R (.ok .next) s₁
   |some v=>wpAny (model prog w) A (letOwnedTupleGo target it v) (fun _ s₁'=>wpAny (model prog w) A (assign target env v) (fun _ s₂=>
     wpAny (model prog w) A (forIn ifs true fun c r=>if r=true then do let ok <- isTrue c env (eval c env);pure (ForInStep.yield ok) else pure (ForInStep.yield r)) (fun ok s₃=>
      if ok=true then wpAny (model prog w) A (eval elt env) (fun x s₄=>
       wpAny (model prog w) A (call (.builtin "list.append") [acc,x]) (fun _ s₅=>∃ m,m<n/\I m s₅) (fun _ _=>False) s₄) (fun _ _=>False) s₃
      else ∃ m,m<n/\I m s₃) (fun _ _=>False) s₂) (fun _ _=>False) s₁') (fun _ _=>False) s₁) (fun _ _=>False) s)
  (n:Nat) (h:I n s) :
  codeAny (model prog w) A (.compLoop (.ListComp elt [⟨target,iter,ifs,0⟩] scope pos) 0 it acc env) R s:=by
 refine codeAny_loop rfl I (fun n s hI=>?_) n h;show wpAny _ A ((compTurn (.ListComp elt [⟨target,iter,ifs,0⟩] scope pos) 0 it acc env).onRaise (fun x=>do noteFrame x env;theTreesLotGoes x)) _ _ s;refine wpAny_noted ?_;rw[compTurn_list];refine zWk (zXi (zWk (zXG (turn n s hI) (fun r s₁ h₁=>?_) fun _ _ h'=>h'.elim)));cases r with
 |none=>exact zWm h₁
 |some v=>
  refine zWk (zXG h₁ (fun _ s₁' h₁'=>?_) fun _ _ h'=>h'.elim);refine zWk (zXG h₁' (fun _ s₂ h₂=>zWk (zXG h₂ (fun ok s₃ h₃=>?_) fun _ _ h'=>h'.elim)) fun _ _ h'=>h'.elim);cases ok with
  |false=>exact zWm ⟨rfl,h₃⟩
  |true=>
   exact zWk (zWk (zXG h₃ (fun x s₄ h₄=>zWk (zXG h₄ (fun _ s₅ h₅=>zWm (zWm ⟨rfl,h₅⟩)) fun _ _ h'=>h'.elim)) fun _ _ h'=>h'.elim))
end
def zQt (own:List Nat) (wi:TI) (g:TG) (tc:TT) (te:TE):TE:=fun σ H Q=>wi σ H fun J H1=>∃ W:Nat->Nat->List V->Hp->Prop,(∃ m,W 0 m [] H1) /\ ∀ i m ys H,W i m ys H ->
 (J.stop i H/\ys.length<=sizeLine /\ ∀ D,H D=none->Q (.ref D) (upd H D (.lst ys))) \/
 (J.go i H /\ ∀ x H',J.yld i H x H'->g x (clr own σ) H' fun σ2 H2=>Ext (clr own σ) σ2/\tc σ2 H2 fun b H3=>
  if b=true then te σ2 H3 fun v H4=>ys.length<sizeLine /\ ∃ m',m'<m/\W (i+1) m' (ys++[v]) H4 else ∃ m',m'<m/\W (i+1) m' ys H3)
abbrev zAB (its:List Value) (n:Nat):Obj:={ cls:=.type "list", data:=.seq its.toArray n }
section
variable {X:Cx} {zB:List (Addr × Obj)} {σ:St} {H:Hp} {s:Shared}
theorem Inv.repin (I:Inv X (pl++[(D,o)]) σ H s) (hpl:∀ p∈X.pn++pl,p.1≠D) (hs:Heap.SameBut D s.heap h') (hD:X.s₀.heap.objs.size<=D) (hc:∀ x c,X.env.cells.lookup x=some c->c≠D)
  (e:h'.get? D=some o') (hn:∀ v,o'.data≠.cell v):Inv X (pl++[(D,o')]) σ H { s with heap:=h' }:=by
 obtain ⟨e0,n0,ne0,nf0,d0⟩:=I.pin (D,o) (by simp);have I1:Inv X pl σ H s:=I.pins_of fun p hp=>I.pin p (by simp[hp]);have I2:Inv X pl σ H { s with heap:=h' }:=I1.turned (t':=s.toks) (it:=D) (fun b u hb q=>hs.extBut b u hb q) n0 ne0 (.inr hD) hc hpl;exact I2.pins_of fun p hp=>by
  rcases zXA.mp hp with z|z
  ·exact I2.pin p (zW4 _ z)
  ·have:p=(D,o'):=by simpa using z
   subst this;exact ⟨e,n0,ne0,nf0,hn⟩
end
section
variable {X:Cx} {zB:List (Addr × Obj)} {σ:St} {H:Hp} {s:Shared} {scope:Scope} {cl:List (Str × Addr)} {fp:List Addr} {it:Addr} {tn:Nat->Heap->Prop} {J:It} {tg elt iter:Expr} {ifs:List Expr} {pos:Pos}
 {own:List Nat} {g:TG} {tc:TT} {te:TE} {E:Value->Shared->Prop}
structure CompIn (X:Cx) (scope:Scope) (own:List Nat):Prop where
 sc:CompScope X scope
 nm:∀ (i:Nat) x,X.N[i]?=some x->i∈own\/scope.names.lookup x=none\/scope.names.lookup x=some .free
theorem zDF (x:Str) (h:scope.names.lookup x=none):(relabel scope env).names.lookup x=none:=by
 cases q:(relabel scope env).names.lookup x with
 |none=>rfl
 |some k=>
  rcases zB0 (scope:=scope) x q with z|z
  ·rw[h]at z;cases z
  ·rw[h]at z;cases z.1
theorem zIW (C:CompIn X scope own) (hcalm:X.calm=true) (I:Inv X zB σ H s) (T:Turn X.prog X.w X.K tg J fp it tn) (st:tn 0 s.heap) (hf:∀ b∈fp,zDB X zB H b)
  (c1:∀ x c,cl.lookup x=some c->X.env.cells.lookup x=some c) (c2:∀ y∈scope.names,y.2=.free->(cl.lookup y.1).isSome=true)
  (hg:PG (zX X zB scope cl s H fp) tg g) (hi:zHj (zX X zB scope cl s H fp) ifs tc) (he:PE (zX X zB scope cl s H fp) elt te)
  {RR:Value->Addr->Result->Shared->Prop} {QQ:List V->Hp->Prop} {W:Nat->Nat->List V->Hp->Prop} {m0:Nat} (w0:W 0 m0 [] H)
  (turn:∀ i m ys H,W i m ys H->(J.stop i H/\ys.length<=sizeLine/\QQ ys H) \/
   (J.go i H /\ ∀ x H',J.yld i H x H'->g x (clr own σ) H' fun σ2 H2=>Ext (clr own σ) σ2/\tc σ2 H2 fun b H3=>
    if b=true then te σ2 H3 fun v H4=>ys.length<sizeLine /\ ∃ m',m'<m/\W (i+1) m' (ys++[v]) H4 else ∃ m',m'<m/\W (i+1) m' ys H3))
  (fin:∀ σc H' s' its n ys,Inv (zX X zB scope cl s H fp) [(s.heap.objs.size,zAB its n)] σc H' s'->zy ys its->ys.length<=sizeLine->QQ ys H'->RR (.ref s.heap.objs.size) (s.heap.objs.size+1) (.ok .next) s') :
  wpAny (model X.prog X.w) X.A (newList []) (fun acc s₃=>wpAny (model X.prog X.w) X.A (newFunctionEnv scope X.env.globals cl [] X.env.qual none .none (some X.env)) (fun cenv s₄=>
   codeAny (model X.prog X.w) X.A (.compStart (.ListComp elt [⟨tg,iter,ifs,0⟩] scope pos) 0 (.ref it) acc { cenv with scope:=relabel scope X.env }) (RR acc cenv.locals) s₄) E s₃) E s:=by
 have ob:∀ b:Nat,b∈fp->b<s.heap.objs.size:=fun b hb=>let ⟨_,e,_⟩:=T.obj 0 _ st b hb;zWv e;refine zXD (zDj ?_);have sz1:(s.heap.push (zAB [] 0)).objs.size=s.heap.objs.size+1:=zXQ ..;have I4:=zGq (X:=X) (zB:=zB) (σ:=σ) (σc:=clr own σ) (H:=H) (s:=s) (scope:=scope) (cl:=cl) (fp:=fp) C.sc I hf ob c1 c2 (zCE own σ) (fun i x v h1 h2 h3=>by
  obtain ⟨a,b⟩:=zDm own σ i v h2;rcases C.nm i x h1 with z|z|z
  ·exact absurd z b
  ·exact absurd (zDF x z) h3
  ·exact ⟨z,a⟩) (zAB [] 0) (by intro v z;cases z) rfl rfl
 have st4:tn 0 (pushCells ((s.heap.push (zAB [] 0)).push { cls:=.type "dict", data:=.dict #[] }) scope.names):=T.keep 0 _ _ st fun b _ o e=>pushCells_keeps _ _ b o (zWl _ (zWl _ e));dsimp only;unfold newEnv;dsimp only;rw[sz1];have hDfp:s.heap.objs.size∉fp:=fun z=>zXS _ (ob _ z);have hcD:∀ x c,(zX X zB scope cl s H fp).env.cells.lookup x=some c->c≠s.heap.objs.size:=fun x c e z=>by
  obtain ⟨v,o,ho,hd⟩:=I4.cell x c e;obtain ⟨q,_⟩:=I4.pin (s.heap.objs.size,zAB [] 0) (by simp);rw[z,q]at ho;cases ho;cases hd
 have fpk:∀ {H':Hp} {pl:List (Addr × Obj)},(∀ b∈fp,H' b=none)->(∀ p∈pl,p.1=s.heap.objs.size) -> ∀ b∈fp,zDB (zX X zB scope cl s H fp) pl H' b:=fun {H' pl} hn hp b hb=>
  ⟨hn b hb,(I4.ok.exf b hb).1,I4.ok.exfs b hb,.inl hb,(I4.ok.exf b hb).2,fun p hq=>by
   rcases zXA.mp hq with z|z
   ·exact (hf b hb).2.2.2.2.2 p z
   ·intro e;have e2:=hp p z;rw[e]at e2;exact hDfp (e2▸hb)⟩
 have loop:codeAny (model X.prog X.w) X.A (.compLoop (.ListComp elt [⟨tg,iter,ifs,0⟩] scope pos) 0 (.ref it) (.ref s.heap.objs.size) (zX X zB scope cl s H fp).env) (RR (.ref s.heap.objs.size) (s.heap.objs.size+1))
   { s with heap:=pushCells ((s.heap.push (zAB [] 0)).push { cls:=.type "dict", data:=.dict #[] }) scope.names }:=by
  refine zKo (fun n s'=>∃ i H' ys its k,Inv (zX X zB scope cl s H fp) [(s.heap.objs.size,zAB its k)] (clr own σ) H' s'/\zy ys its/\tn i s'.heap/\(∀ b∈fp,H' b=none)/\W i n ys H') ?_ m0
   ⟨0,H,[],[],0,I4,.nil,st4,fun b hb=>(hf b hb).1,w0⟩
  rintro n s5 ⟨i,H5,ys,its,k,I5,r5,st5,f5,w5⟩;have pinD:∀ p∈[(s.heap.objs.size,zAB its k)],p.1=s.heap.objs.size:=fun p hp=>by
   have:p=(s.heap.objs.size,zAB its k):=by simpa using hp
   rw[this]
  rcases turn i n ys H5 w5 with ⟨stop,hz,qq⟩|⟨go,step⟩
  ·refine thn (T.done (zX X zB scope cl s H fp) rfl rfl rfl hcalm i _ s5 _ H5 _ I5 (fpk f5 pinD) st5 stop) fun r s6 ⟨hr,I6⟩=>?_;subst hr;exact fin _ H5 s6 its k ys I6 r5 hz qq
  ·refine thn (T.item (zX X zB scope cl s H fp) rfl rfl rfl hcalm i _ s5 _ H5 _ I5 (fpk f5 pinD) st5 go) fun r s6 ⟨u,hr,h6⟩=>?_;subst hr;refine thn h6 fun _ s7 ⟨x,H7,I7,r7,y7,st7,f7⟩=>?_;have I7':=I7.pinned (fpk f7 pinD) (T.obj _ _ st7);refine thn (hg _ s7 _ H7 x u _ I7' r7 (step x H7 y7)) fun _ s8 ⟨σ8,H8,I8,x8,q8⟩=>?_;refine thn (hi _ s8 σ8 H8 _ I8 q8) fun ok s9 ⟨H9,I9,q9⟩=>?_;have back:∀ {s':Shared} {Hx:Hp},Inv (zX X zB scope cl s H fp) ([(s.heap.objs.size,zAB its k)]++zDx fp s7.heap) σ8 Hx s'->tn (i+1) s'.heap /\ ∀ b∈fp,Hx b=none:=fun {s' Hx} Ix=>
    ⟨T.keep _ _ _ st7 fun b hb o e=>(Ix.pin (b,o) (zW4 _ (zW4 _ (zAw hb e)))).1,fun b hb=>by
     obtain ⟨o,e,d⟩:=T.obj _ _ st7 b hb;exact (Ix.pin (b,o) (zW4 _ (zW4 _ (zAw hb e)))).2.1⟩
   cases ok with
   |false=>
    obtain ⟨m',hm,w'⟩:=q9;obtain ⟨b1,b2⟩:=back I9;exact ⟨m',hm,i+1,H9,ys,its,k,(I9.weak (by rw[x8.1]) x8.2).unpinned,r5,b1,b2,w'⟩
   |true=>
    refine thn (he _ s9 σ8 H9 _ I9 q9) fun v s10 ⟨y,H10,I10,r10,hlt,m',hm,w'⟩=>?_;obtain ⟨b1,b2⟩:=back I10;have J10:=(I10.weak (by rw[x8.1]) x8.2).unpinned;obtain ⟨e10,n10,ne10,nf10,d10⟩:=J10.pin (s.heap.objs.size,zAB its k) (by simp);have hlen:its.toArray.size<=sizeLine:=by
     have:=r5.length;rw[zWs,<-this];exact Nat.le_of_lt hlt
    refine wpAny_list_append_plain (hsz:=hlen) (show s10.heap.PlainList s.heap.objs.size its.toArray from ⟨k,e10⟩) fun h' hl' hs'=>?_;obtain ⟨k',e'⟩:=hl';have e'':h'.get? s.heap.objs.size=some (zAB (its++[v]) k'):=by rw[e'];simp[zAB]
    refine ⟨m',hm,i+1,H10,ys++[y],its++[v],k',?_,r5.append (.cons r10 .nil),T.keep _ _ _ b1 fun b hb o e=>hs'.extBut b o (fun z=>hDfp (z▸hb)) e,b2,w'⟩;refine Inv.repin (pl:=[]) J10 (fun p hp=>?_) hs' (zWq _) hcD e'' (by intro v z;cases z);rw[zXU]at hp;have hp':p∈X.pn++zB:=hp;exact zW5 (zWv (I.pin p hp').1)
 exact codeAny_compStart_list loop (T.self _ 0 _ _ _ st4 loop)
end
section
variable {X:Cx} {zB:List (Addr × Obj)} {σ:St} {H:Hp} {s:Shared} {scope:Scope} {cl:List (Str × Addr)} {fp:List Addr}
theorem zIf (I:Inv X zB σ H s) (hf:∀ b∈fp,zDB X zB H b)
  (Ic:Inv (zX X zB scope cl s H fp) [(s.heap.objs.size,zAB its n)] σc H' s') (rv:zy ys its) (hz:ys.length<=sizeLine) (hs:Heap.SameBut (s.heap.objs.size+1) s'.heap h') :
  Inv X zB σ (upd H' s.heap.objs.size (.lst ys)) { s' with heap:=h' }/\H' s.heap.objs.size=none:=by
 obtain ⟨eD,nD,_⟩:=Ic.pin (s.heap.objs.size,zAB its n) (by simp);have nC:H' (s.heap.objs.size+1)=none:=Ic.free;have eD':h'.get? s.heap.objs.size=some (zAB its n):=hs.extBut _ _ (zW5 (zXh _)) eD;have lt1:∀ {b:Addr} {o:Obj},s.heap.get? b=some o->b≠s.heap.objs.size+1/\b≠s.heap.objs.size:=fun e=>⟨zW5 (zXZ (zWv e)),zW5 (zWv e)⟩;have tr:∀ b u,H' b=some u->b≠s.heap.objs.size+1/\b≠s.heap.objs.size:=fun b u e=>⟨fun z=>(by rw[z,nC]at e;cases e),fun z=>(by rw[z,nD]at e;cases e)⟩;refine ⟨?_,nD⟩;have B:=Ic.base;have un:Un (frs X.stack) fp H (upd H' s.heap.objs.size (.lst ys)) s.heap h':=by
  refine ⟨fun b o e q hb hx=>hs.extBut b o (lt1 e).1 (B.keep b o e q hb hx),fun b o e q hb hx=>?_,fun b o e q hx=>?_,fun b o e hx=>?_,fun b xs e=>?_,fun b o xs e=>?_,fun b ps e=>?_⟩
  ·obtain ⟨sl,e1⟩:=B.slot b o e q hb hx;exact ⟨sl,hs.extBut b _ (lt1 e).1 e1⟩
  ·rw[zn (lt1 e).2];exact B.free b o e q hx
  ·obtain ⟨o',e1⟩:=B.there b o e hx;exact ⟨o',hs.extBut b _ (lt1 e).1 e1⟩
  ·have q:=B.tups b xs e;rw[zn (tr b _ q).2];exact q
  ·have q:=B.frzs b o xs e;rw[zn (tr b _ q).2];exact q
  ·obtain ⟨more,q⟩:=B.tbls b ps e;exact ⟨more,by rw[zn (tr b _ q).2];exact q⟩
 have hok:HOk X.prog X.w (upd H' s.heap.objs.size (.lst ys)) h':=fun b u e=>by
  by_cases hb:b=s.heap.objs.size
  ·subst hb;rw[zAh]at e;cases e;exact ⟨hz,its,n,rv,eD'⟩
  ·rw[zn hb]at e;refine (Ic.hok b u e).stay (fun c v hc q=>hs.extBut c v ?_ q) (fun c q=>by rw[zn (tr c _ q).2];exact q) fun c xs q=>by rw[zn (tr c _ q).2];exact q
   rcases hc with z|z
   ·rw[z];exact (tr b u e).1
   ·exact (tr c _ z).1
 exact I.call' (s':={ s' with heap:=h' }) (ch:=fp) Ic.os un hok Ic.bare fun b hb=>⟨(hf b hb).2.2.2.1,(hf b hb).2.1,(hf b hb).2.2.2.2.1,(hf b hb).2.2.2.2.2⟩
end
section
variable {X:Cx} {scope:Scope} {tg elt iter:Expr} {ifs:List Expr} {pos:Pos} {own:List Nat} {wi:TI} {g:TG} {tc:TT} {te:TE}
structure CompParts (X:Cx) (scope:Scope) (tg:Expr) (ifs:List Expr) (elt:Expr) (g:TG) (tc:TT) (te:TE):Prop where
 g:∀ zB cl s H fp,PG (zX X zB scope cl s H fp) tg g
 c:∀ zB cl s H fp,zHj (zX X zB scope cl s H fp) ifs tc
 e:∀ zB cl s H fp,PE (zX X zB scope cl s H fp) elt te
theorem CompScope.closure (S:CompScope X scope) (I:Inv X zB σ H s) :
  ∃ cl,closureFor scope X.env=pure cl/\(∀ x c,cl.lookup x=some c->X.env.cells.lookup x=some c) /\ ∀ y∈scope.names,y.2=.free->(cl.lookup y.1).isSome=true :=
 zJM fun y hy hk=>I.ok.has y.1 (S.free y hy hk)
theorem zSh (C:CompIn X scope own) (hcalm:X.calm=true) (hi:PI X tg iter wi) (p:CompParts X scope tg ifs elt g tc te) (hs:∀ x,foldedSetIterable iter X.env x=pure x:=by intro _;rfl) :
  PE X (.ListComp elt [⟨tg,iter,ifs,0⟩] scope pos) (zQt own wi g tc te):=by
 intro zB s σ H Q I h;obtain ⟨cl,hcl,c1,c2⟩:=C.sc.closure I;rw[eval_ListComp];refine zYe (use:=none) rfl hs hcl C.sc.kind C.sc.names (thn (hi zB s σ H _ I h) fun v s1 h1=>thn h1 fun itv s2 h2=>?_);obtain ⟨it,fp,tn,J,H2,e,I2,T,st2,f2,W,⟨m0,w0⟩,turn⟩:=h2;subst e;refine zIW C hcalm I2 T st2 f2 c1 c2 (p.g _ _ _ _ _) (p.c _ _ _ _ _) (p.e _ _ _ _ _) (RR:=fun acc C r s'=>compPost (model X.prog X.w) X.A X.xe none (EP X zB σ Q) acc C r s') (QQ:=fun ys H=>∀ D,H D=none->Q (.ref D) (upd H D (.lst ys))) w0 turn ?_;intro σc H' s' its n ys Ic rv hz qq;obtain ⟨m,hn,_⟩:=Ic.loc;refine ⟨m,hn,fun h' hs'=>?_⟩;obtain ⟨J',nD⟩:=zIf I2 f2 Ic rv hz hs';exact ⟨.ref s2.heap.objs.size,_,J',rfl,qq _ nD⟩
theorem zNa (hN:X.N.Nodup) (hi':X.N[i]?=some x) (hx:Loc X.env.scope x) (hfn:X.fn x=true\/X.env.scope.names.lookup x=some .local)
  (C:CompIn X scope own) (hcalm:X.calm=true) (hi:PI X tg iter wi) (p:CompParts X scope tg ifs elt g tc te)
  (hsw:swapsWith (.ListComp elt [⟨tg,iter,ifs,0⟩] scope pos) (some (.Name x pos')) pos''.line X.env=pure true) (hs:∀ x,foldedSetIterable iter X.env x=pure x:=by intro _;rfl) :
  PS X (.Assign [.Name x pos'] (.ListComp elt [⟨tg,iter,ifs,0⟩] scope pos) pos'') (zQE (zQt own wi g tc te) (zCe i)):=by
 intro zB s σ H D I h;obtain ⟨cl,hcl,c1,c2⟩:=C.sc.closure I;rw[exec_Assign_Name_used _ _ _ _ hsw];refine zWk (zXi (zWk ?_));show wpAny _ X.A (do let _ <- comprehension (.ListComp elt [⟨tg,iter,ifs,0⟩] scope pos) scope X.env _ (newList []) false (eval iter X.env) (some (assign (.Name x pos') X.env))) _ _ s
 refine zWk (zXG (zYe (use:=some (assign (.Name x pos') X.env)) (Q:=fun _ s'=>SP X zB D .next s') rfl hs hcl C.sc.kind C.sc.names
  (thn (hi zB s σ H _ I h) fun v s1 h1=>thn h1 fun itv s2 h2=>?_)) (fun _ s' hq=>zWm (zWm hq)) fun _ _ e=>e)
 obtain ⟨it,fp,tn,J,H2,e,I2,T,st2,f2,W,⟨m0,w0⟩,turn⟩:=h2;subst e
 refine zIW C hcalm I2 T st2 f2 c1 c2 (p.g _ _ _ _ _) (p.c _ _ _ _ _) (p.e _ _ _ _ _) (RR:=fun acc C r s'=>compPost (model X.prog X.w) X.A X.xe (some (assign (.Name x pos') X.env)) (fun _ s'=>SP X zB D .next s') acc C r s')
  (QQ:=fun ys H=>∀ E,H E=none->zCe i (.ref E) σ (upd H E (.lst ys)) D.nx) w0 turn ?_
 intro σc H' s' its n ys Ic rv hz qq;obtain ⟨m,hn,_⟩:=Ic.loc;obtain ⟨J',nD⟩:=zIf (h':=s'.heap) I2 f2 Ic rv hz (.refl ..);obtain ⟨oC,es,ep,hoC,hdC,r1,r2⟩:=id hn;have nC:upd H' s2.heap.objs.size (.lst ys) (s2.heap.objs.size+1)=none:=by rw[zn (zYF (zXh _))];exact Ic.free
 have K':Inv X (zB++[(s2.heap.objs.size+1,oC)]) σ (upd H' s2.heap.objs.size (.lst ys)) s':=J'.pins_of fun q hq=>by
  rcases zXA.mp hq with z|z
  ·exact J'.pin q (zW4 _ z)
  ·have e:q=(s2.heap.objs.size+1,oC):=by simpa using z
   subst e;refine ⟨hoC,nC,zYF (zXZ I2.lt),I2.nofs (zYS _),fun v z=>?_⟩;have z':oC.data=.cell v:=z;rw[hdC]at z';cases z'
 show wpAny _ X.A (assign (.Name x pos') X.env (.ref s2.heap.objs.size)) _ _ _;refine thn (zKB hN hi' hx hfn _ s' σ _ (.ref s2.heap.objs.size) (.ref s2.heap.objs.size) _ K' rfl (qq _ nD)) fun _ s'' ⟨σ'',H'',I'',q''⟩=>?_;obtain ⟨eC,_⟩:=I''.pin (s2.heap.objs.size+1,oC) (by simp);refine ⟨m,⟨oC,es,ep,eC,hdC,r1,r2⟩,fun h' hs'=>⟨σ'',H'',?_,q''⟩⟩;have I3:Inv X zB σ'' H'' s'':=I''.unpinned;obtain ⟨_,nC'',neC,_,_⟩:=I''.pin (s2.heap.objs.size+1,oC) (by simp);refine I3.turned (t':=s''.toks) (it:=s2.heap.objs.size+1) (fun b o hb e=>hs'.extBut b o hb e) nC'' neC (.inr (zXB I2.sz (zYS _))) (fun x c e z=>?_) (fun q hq z=>?_)
 ·obtain ⟨v,o,ho,hd⟩:=I3.cell x c e;rw[z,eC]at ho;cases ho;rw[hdC]at hd;cases hd
 ·obtain ⟨e,_⟩:=I2.pin q hq;exact zW5 (zXZ (zWv e)) z
end
abbrev zCM (elt t1 i1:Expr) (f1:List Expr) (t2 i2:Expr) (f2:List Expr) (scope:Scope) (pos:Pos):Expr:=.ListComp elt [⟨t1,i1,f1,0⟩,⟨t2,i2,f2,0⟩] scope pos
theorem zJK (elt t1 i1:Expr) (f1:List Expr) (t2 i2:Expr) (f2:List Expr) (scope:Scope) (pos:Pos) (it acc:Value) (env:Env) :
  compTurn (zCM elt t1 i1 f1 t2 i2 f2 scope pos) 0 it acc env=(do
   standAt i1.pos;match <- pyNext it with
   |none=>pure (.done .next)
   |some v=>
    letOwnedTupleGo t1 it v;assign t1 env v;let mut ok:=true
    for c in f1 do
     if ok then ok <- isTrue c env (eval c env)
    if ok then
     let x <- eval i2 env;standAt i2.pos;let x <- foldedSetIterable i2 env x;let _ <- runOwn (.compStart (zCM elt t1 i1 f1 t2 i2 f2 scope pos) 1 (<- holding [x] (pyIter x)) acc env) env
    again (.compLoop (zCM elt t1 i1 f1 t2 i2 f2 scope pos) 0 it acc env)):=by rfl
theorem zKO (elt t1 i1:Expr) (f1:List Expr) (t2 i2:Expr) (f2:List Expr) (scope:Scope) (pos:Pos) (it acc:Value) (env:Env) :
  compTurn (zCM elt t1 i1 f1 t2 i2 f2 scope pos) 1 it acc env=(do
   standAt i2.pos;match <- pyNext it with
   |none=>pure (.done .next)
   |some v=>
    letOwnedTupleGo t2 it v;assign t2 env v;let mut ok:=true
    for c in f2 do
     if ok then ok <- isTrue c env (eval c env)
    if ok then
     (do let _ <- call (.builtin "list.append") [acc,<-eval elt env])
    again (.compLoop (zCM elt t1 i1 f1 t2 i2 f2 scope pos) 1 it acc env)):=by rfl
section
variable {prog:Program} {w:World} {A:Around} {E:Value->Shared->Prop} {R:Result->Shared->Prop} {s:Shared}
variable {elt t1 i1 t2 i2:Expr} {f1 f2:List Expr} {scope:Scope} {pos:Pos} {it acc:Value} {env:Env}
theorem zKN (I:Nat->Shared->Prop)
  (turn:∀ n s,I n s->wpAny (model prog w) A (pyNext it) (fun r s₁=>match r with
   |none=>R (.ok .next) s₁
   |some v=>wpAny (model prog w) A (letOwnedTupleGo t2 it v) (fun _ s₁'=>wpAny (model prog w) A (assign t2 env v) (fun _ s₂=>
     wpAny (model prog w) A (forIn f2 true fun c r=>if r=true then do let ok <- isTrue c env (eval c env);pure (ForInStep.yield ok) else pure (ForInStep.yield r)) (fun ok s₃=>
      if ok=true then wpAny (model prog w) A (eval elt env) (fun x s₄=>
       wpAny (model prog w) A (call (.builtin "list.append") [acc,x]) (fun _ s₅=>∃ m,m<n/\I m s₅) (fun _ _=>False) s₄) (fun _ _=>False) s₃
      else ∃ m,m<n/\I m s₃) (fun _ _=>False) s₂) (fun _ _=>False) s₁') (fun _ _=>False) s₁) (fun _ _=>False) s)
  (n:Nat) (h:I n s) :
  codeAny (model prog w) A (.compLoop (zCM elt t1 i1 f1 t2 i2 f2 scope pos) 1 it acc env) R s:=by
 refine codeAny_loop rfl I (fun n s hI=>?_) n h;show wpAny _ A ((compTurn (zCM elt t1 i1 f1 t2 i2 f2 scope pos) 1 it acc env).onRaise (fun x=>do noteFrame x env;theTreesLotGoes x)) _ _ s;refine wpAny_noted ?_;rw[zKO];refine zWk (zXi (zWk (zXG (turn n s hI) (fun r s₁ h₁=>?_) fun _ _ h'=>h'.elim)));cases r with
 |none=>exact zWm h₁
 |some v=>
  refine zWk (zXG h₁ (fun _ s₁' h₁'=>?_) fun _ _ h'=>h'.elim);refine zWk (zXG h₁' (fun _ s₂ h₂=>zWk (zXG h₂ (fun ok s₃ h₃=>?_) fun _ _ h'=>h'.elim)) fun _ _ h'=>h'.elim);cases ok with
  |false=>exact zWm ⟨rfl,h₃⟩
  |true=>
   exact zWk (zWk (zXG h₃ (fun x s₄ h₄=>zWk (zXG h₄ (fun _ s₅ h₅=>zWm (zWm ⟨rfl,h₅⟩)) fun _ _ h'=>h'.elim)) fun _ _ h'=>h'.elim))
theorem zJR
  (h0:codeAny (model prog w) A (.compLoop (zCM elt t1 i1 f1 t2 i2 f2 scope pos) 1 it acc env) R s)
  (h:wpAny (model prog w) A (pyIter it) (fun it' s'=>codeAny (model prog w) A (.compLoop (zCM elt t1 i1 f1 t2 i2 f2 scope pos) 1 it' acc env) R s')
   (notedBy (model prog w) A env fun x s'=>R (.error x) s') s) :
  codeAny (model prog w) A (.compStart (zCM elt t1 i1 f1 t2 i2 f2 scope pos) 1 it acc env) R s:=by
 refine codeAny_of_tree ?_;show wpAny _ _ ((compStart (zCM elt t1 i1 f1 t2 i2 f2 scope pos) 1 it acc env).onRaise (fun x=>do noteFrame x env;standAt theWindowsPlace)) _ _ s;refine wpAny_notedAt ?_;unfold compStart;show wpAny _ _ (ask >>= _) _ _ s;refine zWk (wpAny_askSetting (wpAny_ite ?_));split
 ·first
   |exact zWk (zWm (zWm (And.intro rfl h0)))
   |exact zWm (And.intro rfl h0)
 ·first
   |exact zWk (zX7 (zWk (zXi (zWk (zXG h (fun it' s' h'=>zWm (And.intro rfl h')) fun _ _ x=>x)))))
   |(refine zWk (zX7 ?_);show wpAny _ _ (standAt i2.pos >>= _) _ _ s;exact zWk (zXi (zWk (zXG h (fun it' s' h'=>zWm (And.intro rfl h')) fun _ _ x=>x))))
theorem zJL (hs2:∀ x,foldedSetIterable i2 env x=pure x) (I:Nat->Shared->Prop)
  (turn:∀ n s,I n s->wpAny (model prog w) A (pyNext it) (fun r s₁=>match r with
   |none=>R (.ok .next) s₁
   |some v=>wpAny (model prog w) A (letOwnedTupleGo t1 it v) (fun _ s₁'=>wpAny (model prog w) A (assign t1 env v) (fun _ s₂=>
     wpAny (model prog w) A (forIn f1 true fun c r=>if r=true then do let ok <- isTrue c env (eval c env);pure (ForInStep.yield ok) else pure (ForInStep.yield r)) (fun ok s₃=>
      if ok=true then wpAny (model prog w) A (eval i2 env) (fun x s₄=>wpAny (model prog w) A (pyIter x) (fun it2 s₅=>
       codeAny (model prog w) A (.compStart (zCM elt t1 i1 f1 t2 i2 f2 scope pos) 1 it2 acc env) (fun r s₆=>r=.ok .next /\ ∃ m,m<n/\I m s₆) s₅) (fun _ _=>False) s₄) (fun _ _=>False) s₃
      else ∃ m,m<n/\I m s₃) (fun _ _=>False) s₂) (fun _ _=>False) s₁') (fun _ _=>False) s₁) (fun _ _=>False) s)
  (n:Nat) (h:I n s) :
  codeAny (model prog w) A (.compLoop (zCM elt t1 i1 f1 t2 i2 f2 scope pos) 0 it acc env) R s:=by
 refine codeAny_loop rfl I (fun n s hI=>?_) n h;show wpAny _ A ((compTurn (zCM elt t1 i1 f1 t2 i2 f2 scope pos) 0 it acc env).onRaise (fun x=>do noteFrame x env;theTreesLotGoes x)) _ _ s;refine wpAny_noted ?_;rw[zJK];refine zWk (zXi (zWk (zXG (turn n s hI) (fun r s₁ h₁=>?_) fun _ _ h'=>h'.elim)));cases r with
 |none=>exact zWm h₁
 |some v=>
  refine zWk (zXG h₁ (fun _ s₁' h₁'=>?_) fun _ _ h'=>h'.elim);refine zWk (zXG h₁' (fun _ s₂ h₂=>zWk (zXG h₂ (fun ok s₃ h₃=>?_) fun _ _ h'=>h'.elim)) fun _ _ h'=>h'.elim);cases ok with
  |false=>exact zWm ⟨rfl,h₃⟩
  |true=>
   refine zWk (zXG h₃ (fun x s₄ h₄=>zWk (zXi (zWk (wpAny_of_eq (hs2 x) (zWk (zXd (zXG h₄ (fun it2 s₅ h₅=>?_) fun _ _ h'=>h'.elim))))))) fun _ _ h'=>h'.elim);refine zWk (wpAny_runOwn (codeAny_mono h₅ fun r s₆ hr=>?_));obtain ⟨rfl,hr⟩:=hr;exact zWm ⟨rfl,hr⟩
end
def tIn (own2:List Nat) (wi2:TI) (g2:TG) (tc2:TT) (te:TE) (σ2:St) (H3:Hp) (ys:List V) (QQ:List V->Hp->Prop):Prop :=
 wi2 σ2 H3 fun J2 H4=>∃ W2:Nat->Nat->List V->Hp->Prop,(∃ m,W2 0 m ys H4) /\ ∀ j m zs H,W2 j m zs H ->
  (J2.stop j H/\QQ zs H) \/
  (J2.go j H /\ ∀ x H',J2.yld j H x H'->g2 x (clr own2 σ2) H' fun σ3 H5=>Ext (clr own2 σ2) σ3/\tc2 σ3 H5 fun b H6=>
   if b=true then te σ3 H6 fun v H7=>zs.length<sizeLine /\ ∃ m',m'<m/\W2 (j+1) m' (zs++[v]) H7 else ∃ m',m'<m/\W2 (j+1) m' zs H6)
section
variable {C:Cx} {elt t1 i1 t2 i2:Expr} {f1 f2:List Expr} {scope:Scope} {pos:Pos} {pl:List (Addr × Obj)} {σ:St} {H:Hp} {s:Shared} {D:Addr}
 {own2:List Nat} {wi2:TI} {g2:TG} {tc2:TT} {te:TE} {R:Result->Shared->Prop}
theorem zP2 (hxe:C.xe=fun _ _=>False) (hcalm:C.calm=true) (hi:PI C t2 i2 wi2) (hg:PG C t2 g2) (hc:zHj C f2 tc2) (he:PE C elt te) (hD:C.s₀.heap.objs.size<=D)
  (hcD:∀ x c,C.env.cells.lookup x=some c->c≠D) (hpl:∀ p∈C.pn++pl,p.1≠D) (I:Inv C (pl++[(D,zAB its k)]) σ H s) (rv:zy ys its) (h:tIn own2 wi2 g2 tc2 te σ H ys QQ)
  (fin:∀ s' H' its' k' zs,Inv C (pl++[(D,zAB its' k')]) (clr own2 σ) H' s'->zy zs its'->QQ zs H'->R (.ok .next) s') :
  wpAny (model C.prog C.w) C.A (eval i2 C.env) (fun x s₄=>wpAny (model C.prog C.w) C.A (pyIter x) (fun it2 s₅=>
   codeAny (model C.prog C.w) C.A (.compStart (zCM elt t1 i1 f1 t2 i2 f2 scope pos) 1 it2 (.ref D) C.env) R s₅) (fun _ _=>False) s₄) (fun _ _=>False) s:=by
 have hpi:=hi _ s σ H _ I h;rw[hxe]at hpi;refine thn hpi fun v s1 h1=>thn h1 fun itv s2 h2=>?_;obtain ⟨it,fp,tn,J,H2,e,I2,T,st2,f2',W,⟨m0,w0⟩,turn⟩:=h2;subst e;have hDfp:D∉fp:=fun z=>(f2' D z).2.2.2.2.2 (D,zAB its k) (by simp) rfl;have loop:∀ s',(∃ H',Inv C (pl++[(D,zAB its k)]) (clr own2 σ) H' s'/\tn 0 s'.heap/\(∀ b∈fp,H' b=none)/\W 0 m0 ys H')->codeAny (model C.prog C.w) C.A (.compLoop (zCM elt t1 i1 f1 t2 i2 f2 scope pos) 1 (.ref it) (.ref D) C.env) R s':=by
  rintro s' ⟨H',I',st',hn',w'⟩;have fpk:∀ {H':Hp} {its:List Value} {k:Nat},(∀ b∈fp,H' b=none) -> ∀ b∈fp,zDB C (pl++[(D,zAB its k)]) H' b:=fun {H' its k} hn b hb=>by
   obtain ⟨_,a2,a3,a4,a5,a6⟩:=f2' b hb;refine ⟨hn b hb,a2,a3,a4,a5,fun p hp=>?_⟩;rcases zXA.mp hp with z|z
   ·exact a6 p (zXz _ z)
   ·rcases zXA.mp z with z|z
    ·exact a6 p (zW4 _ (zXz _ z))
    ·have:p=(D,zAB its k):=by simpa using z
     rw[this];intro q;have q':D=b:=q;exact hDfp (q'▸hb)
  refine zKN (fun n s'=>∃ i H' ys its k,Inv C (pl++[(D,zAB its k)]) (clr own2 σ) H' s'/\zy ys its/\tn i s'.heap/\(∀ b∈fp,H' b=none)/\W i n ys H') ?_ m0 ⟨0,H',ys,its,k,I',rv,st',hn',w'⟩;rintro n s5 ⟨i,H5,ys,its,k,I5,r5,st5,f5,w5⟩;rcases turn i n ys H5 w5 with ⟨stop,qq⟩|⟨go,step⟩
  ·refine thn (T.done C rfl rfl rfl hcalm i _ s5 _ H5 _ I5 (fpk f5) st5 stop) fun r s6 ⟨hr,I6⟩=>?_;subst hr;exact fin s6 H5 its k ys I6 r5 qq
  ·refine thn (T.item C rfl rfl rfl hcalm i _ s5 _ H5 _ I5 (fpk f5) st5 go) fun r s6 ⟨u,hr,h6⟩=>?_;subst hr;refine thn h6 fun _ s7 ⟨x,H7,I7,r7,y7,st7,f7⟩=>?_;have I7':=I7.pinned (fpk f7) (T.obj _ _ st7);have hgg:=hg _ s7 _ H7 x u _ I7' r7 (step x H7 y7);rw[hxe]at hgg;refine thn hgg fun _ s8 ⟨σ8,H8,I8,x8,q8⟩=>?_;have hcc:=hc _ s8 σ8 H8 _ I8 q8;rw[hxe]at hcc;refine thn hcc fun ok s9 ⟨H9,I9,q9⟩=>?_;have back:∀ {s':Shared} {Hx:Hp},Inv C ((pl++[(D,zAB its k)])++zDx fp s7.heap) σ8 Hx s'->tn (i+1) s'.heap /\ ∀ b∈fp,Hx b=none:=fun {s' Hx} Ix=>
    ⟨T.keep _ _ _ st7 fun b hb o e=>(Ix.pin (b,o) (zW4 _ (zW4 _ (zAw hb e)))).1,fun b hb=>by
     obtain ⟨o,e,d⟩:=T.obj _ _ st7 b hb;exact (Ix.pin (b,o) (zW4 _ (zW4 _ (zAw hb e)))).2.1⟩
   cases ok with
   |false=>
    obtain ⟨m',hm,w'⟩:=q9;obtain ⟨b1,b2⟩:=back I9;exact ⟨m',hm,i+1,H9,ys,its,k,(I9.weak (by rw[x8.1]) x8.2).unpinned,r5,b1,b2,w'⟩
   |true=>
    have hee:=he _ s9 σ8 H9 _ I9 q9;rw[hxe]at hee;refine thn hee fun v s10 ⟨y,H10,I10,r10,hlt,m',hm,w'⟩=>?_;obtain ⟨b1,b2⟩:=back I10;have J10:=(I10.weak (by rw[x8.1]) x8.2).unpinned;obtain ⟨e10,n10,ne10,nf10,d10⟩:=J10.pin (D,zAB its k) (by simp);have hlen:its.toArray.size<=sizeLine:=by
     have:=r5.length;rw[zWs,<-this];exact Nat.le_of_lt hlt
    refine wpAny_list_append_plain (hsz:=hlen) (show s10.heap.PlainList D its.toArray from ⟨k,e10⟩) fun h' hl' hs'=>?_;obtain ⟨k',e'⟩:=hl';have e'':h'.get? D=some (zAB (its++[v]) k'):=by rw[e'];simp[zAB]
    refine ⟨m',hm,i+1,H10,ys++[y],its++[v],k',?_,r5.append (.cons r10 .nil),T.keep _ _ _ b1 fun b hb o e=>hs'.extBut b o (fun z=>hDfp (z▸hb)) e,b2,w'⟩;exact Inv.repin (pl:=pl) J10 hpl hs' hD hcD e'' (by intro v z;cases z)
 have l0:=loop s2 ⟨H2,I2.weak (zCE own2 σ) (fun i v h=>(zDm own2 σ i v h).1),st2,fun b hb=>(f2' b hb).1,w0⟩;exact zJR l0 (T.self _ 0 _ _ _ st2 l0)
end
section
variable {X:Cx} {zB:List (Addr × Obj)} {σ:St} {H:Hp} {s:Shared} {scope:Scope} {cl:List (Str × Addr)} {fp:List Addr} {it:Addr} {tn:Nat->Heap->Prop} {J:It} {elt t1 i1 t2 i2:Expr} {f1 f2:List Expr} {pos:Pos}
 {own own2:List Nat} {g g2:TG} {tc tc2:TT} {te:TE} {wi wi2:TI} {E:Value->Shared->Prop}
theorem zLg:∀ (own:List Nat) (σ:St) (j:Nat),j∉own->(clr own σ)[j]?=σ[j]?
 |[],_,_,_=>rfl
 |i::r,σ,j,h=>by
  show (clr r (σ.set i none))[j]?=_;rw[zLg r _ j (fun z=>h (zWx _ z)),zXE (fun z=>h (by rw[z];exact zWy))]
theorem zL2 (hsub:∀ i∈own2,i∈own) (C:CompIn X scope own) (hcalm:X.calm=true) (I:Inv X zB σ H s) (T:Turn X.prog X.w X.K t1 J fp it tn) (st:tn 0 s.heap) (hf:∀ b∈fp,zDB X zB H b)
  (c1:∀ x c,cl.lookup x=some c->X.env.cells.lookup x=some c) (c2:∀ y∈scope.names,y.2=.free->(cl.lookup y.1).isSome=true)
  (hg:PG (zX X zB scope cl s H fp) t1 g) (hi:zHj (zX X zB scope cl s H fp) f1 tc)
  (hi2:PI (zX X zB scope cl s H fp) t2 i2 wi2) (hg2:PG (zX X zB scope cl s H fp) t2 g2) (hc2:zHj (zX X zB scope cl s H fp) f2 tc2) (he:PE (zX X zB scope cl s H fp) elt te)
  (hs2:∀ x,foldedSetIterable i2 (zX X zB scope cl s H fp).env x=pure x)
  {RR:Value->Addr->Result->Shared->Prop} {QQ:List V->Hp->Prop} {W:Nat->Nat->List V->Hp->Prop} {m0:Nat} (w0:W 0 m0 [] H)
  (turn:∀ i m ys H,W i m ys H->(J.stop i H/\ys.length<=sizeLine/\QQ ys H) \/
   (J.go i H /\ ∀ x H',J.yld i H x H'->g x (clr own σ) H' fun σ2 H2=>Ext (clr own σ) σ2/\tc σ2 H2 fun b H3=>
    if b=true then tIn own2 wi2 g2 tc2 te σ2 H3 ys fun zs H4=>∃ m',m'<m/\W (i+1) m' zs H4 else ∃ m',m'<m/\W (i+1) m' ys H3))
  (fin:∀ σc H' s' its n ys,Inv (zX X zB scope cl s H fp) [(s.heap.objs.size,zAB its n)] σc H' s'->zy ys its->ys.length<=sizeLine->QQ ys H'->RR (.ref s.heap.objs.size) (s.heap.objs.size+1) (.ok .next) s') :
  wpAny (model X.prog X.w) X.A (newList []) (fun acc s₃=>wpAny (model X.prog X.w) X.A (newFunctionEnv scope X.env.globals cl [] X.env.qual none .none (some X.env)) (fun cenv s₄=>
   codeAny (model X.prog X.w) X.A (.compStart (zCM elt t1 i1 f1 t2 i2 f2 scope pos) 0 (.ref it) acc { cenv with scope:=relabel scope X.env }) (RR acc cenv.locals) s₄) E s₃) E s:=by
 have ob:∀ b:Nat,b∈fp->b<s.heap.objs.size:=fun b hb=>let ⟨_,e,_⟩:=T.obj 0 _ st b hb;zWv e;refine zXD (zDj ?_);have sz1:(s.heap.push (zAB [] 0)).objs.size=s.heap.objs.size+1:=zXQ ..;have I4:=zGq (X:=X) (zB:=zB) (σ:=σ) (σc:=clr own σ) (H:=H) (s:=s) (scope:=scope) (cl:=cl) (fp:=fp) C.sc I hf ob c1 c2 (zCE own σ) (fun i x v h1 h2 h3=>by
  obtain ⟨a,b⟩:=zDm own σ i v h2;rcases C.nm i x h1 with z|z|z
  ·exact absurd z b
  ·exact absurd (zDF x z) h3
  ·exact ⟨z,a⟩) (zAB [] 0) (by intro v z;cases z) rfl rfl
 have st4:tn 0 (pushCells ((s.heap.push (zAB [] 0)).push { cls:=.type "dict", data:=.dict #[] }) scope.names):=T.keep 0 _ _ st fun b _ o e=>pushCells_keeps _ _ b o (zWl _ (zWl _ e));dsimp only;unfold newEnv;dsimp only;rw[sz1];have hDfp:s.heap.objs.size∉fp:=fun z=>zXS _ (ob _ z);have hcD:∀ x c,(zX X zB scope cl s H fp).env.cells.lookup x=some c->c≠s.heap.objs.size:=fun x c e z=>by
  obtain ⟨v,o,ho,hd⟩:=I4.cell x c e;obtain ⟨q,_⟩:=I4.pin (s.heap.objs.size,zAB [] 0) (by simp);rw[z,q]at ho;cases ho;cases hd
 have fpk:∀ {H':Hp} {pl:List (Addr × Obj)},(∀ b∈fp,H' b=none)->(∀ p∈pl,p.1=s.heap.objs.size) -> ∀ b∈fp,zDB (zX X zB scope cl s H fp) pl H' b:=fun {H' pl} hn hp b hb=>
  ⟨hn b hb,(I4.ok.exf b hb).1,I4.ok.exfs b hb,.inl hb,(I4.ok.exf b hb).2,fun p hq=>by
   rcases zXA.mp hq with z|z
   ·exact (hf b hb).2.2.2.2.2 p z
   ·intro e;have e2:=hp p z;rw[e]at e2;exact hDfp (e2▸hb)⟩
 have loop:codeAny (model X.prog X.w) X.A (.compLoop (zCM elt t1 i1 f1 t2 i2 f2 scope pos) 0 (.ref it) (.ref s.heap.objs.size) (zX X zB scope cl s H fp).env) (RR (.ref s.heap.objs.size) (s.heap.objs.size+1))
   { s with heap:=pushCells ((s.heap.push (zAB [] 0)).push { cls:=.type "dict", data:=.dict #[] }) scope.names }:=by
  refine zJL hs2 (fun n s'=>∃ i H' ys its k,Inv (zX X zB scope cl s H fp) [(s.heap.objs.size,zAB its k)] (clr own σ) H' s'/\zy ys its/\tn i s'.heap/\(∀ b∈fp,H' b=none)/\W i n ys H') ?_ m0
   ⟨0,H,[],[],0,I4,.nil,st4,fun b hb=>(hf b hb).1,w0⟩
  rintro n s5 ⟨i,H5,ys,its,k,I5,r5,st5,f5,w5⟩;have pinD:∀ p∈[(s.heap.objs.size,zAB its k)],p.1=s.heap.objs.size:=fun p hp=>by
   have:p=(s.heap.objs.size,zAB its k):=by simpa using hp
   rw[this]
  rcases turn i n ys H5 w5 with ⟨stop,hz,qq⟩|⟨go,step⟩
  ·refine thn (T.done (zX X zB scope cl s H fp) rfl rfl rfl hcalm i _ s5 _ H5 _ I5 (fpk f5 pinD) st5 stop) fun r s6 ⟨hr,I6⟩=>?_;subst hr;exact fin _ H5 s6 its k ys I6 r5 hz qq
  ·refine thn (T.item (zX X zB scope cl s H fp) rfl rfl rfl hcalm i _ s5 _ H5 _ I5 (fpk f5 pinD) st5 go) fun r s6 ⟨u,hr,h6⟩=>?_;subst hr;refine thn h6 fun _ s7 ⟨x,H7,I7,r7,y7,st7,f7⟩=>?_;have I7':=I7.pinned (fpk f7 pinD) (T.obj _ _ st7);refine thn (hg _ s7 _ H7 x u _ I7' r7 (step x H7 y7)) fun _ s8 ⟨σ8,H8,I8,x8,q8⟩=>?_;refine thn (hi _ s8 σ8 H8 _ I8 q8) fun ok s9 ⟨H9,I9,q9⟩=>?_;have back:∀ {σx:St} {s':Shared} {Hx:Hp} {its:List Value} {k:Nat},(clr own σ).length=σx.length->(∀ (i:Nat) v,(clr own σ)[i]?=some (some v)->σx[i]?=some (some v))->Inv (zX X zB scope cl s H fp) (zDx fp s7.heap++[(s.heap.objs.size,zAB its k)]) σx Hx s'->Inv (zX X zB scope cl s H fp) [(s.heap.objs.size,zAB its k)] (clr own σ) Hx s'/\tn (i+1) s'.heap /\ ∀ b∈fp,Hx b=none:=fun {σx s' Hx its k} hl hk Ix=>
    ⟨(Ix.weak hl hk).pins_of fun p hp=>Ix.pin p (zW4 _ (zW4 _ hp)),
     T.keep _ _ _ st7 fun b hb o e=>(Ix.pin (b,o) (zW4 _ (zXz _ (zAw hb e)))).1,fun b hb=>by
     obtain ⟨o,e,d⟩:=T.obj _ _ st7 b hb;exact (Ix.pin (b,o) (zW4 _ (zXz _ (zAw hb e)))).2.1⟩
   have I9':Inv (zX X zB scope cl s H fp) (zDx fp s7.heap++[(s.heap.objs.size,zAB its k)]) σ8 H9 s9:=I9.pins_of fun p hp=>I9.pin p (zW4 _ (by
    rcases zXA.mp hp with z|z
    ·exact zW4 _ z
    ·exact zXz _ z))
   cases ok with
   |false=>
    obtain ⟨m',hm,w'⟩:=q9;obtain ⟨b0,b1,b2⟩:=back (by rw[x8.1]) x8.2 I9';exact ⟨m',hm,i+1,H9,ys,its,k,b0,r5,b1,b2,w'⟩
   |true=>
    refine zP2 (C:=zX X zB scope cl s H fp) rfl hcalm hi2 hg2 hc2 he (zWq _) hcD (fun p hp=>?_) I9' r5 q9 fun s' H' its' k' zs I' rv' q'=>?_
    ·rcases zXA.mp hp with z|z
     ·exact zW5 (zWv (I.pin p z).1)
     ·obtain ⟨hb,_⟩:=zJW z;exact zW5 (ob _ hb)
    ·obtain ⟨m',hm,w'⟩:=q';obtain ⟨b0,b1,b2⟩:=back (by rw[zCE own2,x8.1]) (fun i v hv=>by rw[zLg own2 _ i (fun z=>(zDm own σ i v hv).2 (hsub i z))];exact x8.2 i v hv) I';exact ⟨rfl,m',hm,i+1,H',zs,its',k',b0,rv',b1,b2,w'⟩
 exact codeAny_compStart_list loop (T.self _ 0 _ _ _ st4 loop)
def zQn (own own2:List Nat) (wi:TI) (g:TG) (tc:TT) (wi2:TI) (g2:TG) (tc2:TT) (te:TE):TE:=fun σ H Q=>wi σ H fun J H1=>∃ W:Nat->Nat->List V->Hp->Prop,(∃ m,W 0 m [] H1) /\ ∀ i m ys H,W i m ys H ->
 (J.stop i H/\ys.length<=sizeLine /\ ∀ D,H D=none->Q (.ref D) (upd H D (.lst ys))) \/
 (J.go i H /\ ∀ x H',J.yld i H x H'->g x (clr own σ) H' fun σ2 H2=>Ext (clr own σ) σ2/\tc σ2 H2 fun b H3=>
  if b=true then tIn own2 wi2 g2 tc2 te σ2 H3 ys fun zs H4=>∃ m',m'<m/\W (i+1) m' zs H4 else ∃ m',m'<m/\W (i+1) m' ys H3)
structure CompParts2 (X:Cx) (scope:Scope) (t1:Expr) (f1:List Expr) (t2 i2:Expr) (f2:List Expr) (elt:Expr) (g:TG) (tc:TT) (wi2:TI) (g2:TG) (tc2:TT) (te:TE):Prop where
 g:∀ zB cl s H fp,PG (zX X zB scope cl s H fp) t1 g
 c:∀ zB cl s H fp,zHj (zX X zB scope cl s H fp) f1 tc
 w2:∀ zB cl s H fp,PI (zX X zB scope cl s H fp) t2 i2 wi2
 g2:∀ zB cl s H fp,PG (zX X zB scope cl s H fp) t2 g2
 c2:∀ zB cl s H fp,zHj (zX X zB scope cl s H fp) f2 tc2
 e:∀ zB cl s H fp,PE (zX X zB scope cl s H fp) elt te
 s2:∀ zB cl s H fp x,foldedSetIterable i2 (zX X zB scope cl s H fp).env x=pure x
theorem zRT (hsub:∀ i∈own2,i∈own) (C:CompIn X scope own) (hcalm:X.calm=true) (hi:PI X t1 i1 wi) (p:CompParts2 X scope t1 f1 t2 i2 f2 elt g tc wi2 g2 tc2 te) (hs:∀ x,foldedSetIterable i1 X.env x=pure x:=by intro _;rfl) :
  PE X (zCM elt t1 i1 f1 t2 i2 f2 scope pos) (zQn own own2 wi g tc wi2 g2 tc2 te):=by
 intro zB s σ H Q I h;obtain ⟨cl,hcl,c1,c2⟩:=C.sc.closure I;rw[eval_ListComp];refine zYe (use:=none) rfl hs hcl C.sc.kind C.sc.names (thn (hi zB s σ H _ I h) fun v s1 h1=>thn h1 fun itv s2 h2=>?_);obtain ⟨it,fp,tn,J,H2,e,I2,T,st2,f2,W,⟨m0,w0⟩,turn⟩:=h2;subst e;refine zL2 hsub C hcalm I2 T st2 f2 c1 c2 (p.g _ _ _ _ _) (p.c _ _ _ _ _) (p.w2 _ _ _ _ _) (p.g2 _ _ _ _ _) (p.c2 _ _ _ _ _) (p.e _ _ _ _ _) (p.s2 _ _ _ _ _) (RR:=fun acc C r s'=>compPost (model X.prog X.w) X.A X.xe none (EP X zB σ Q) acc C r s') (QQ:=fun ys H=>∀ D,H D=none->Q (.ref D) (upd H D (.lst ys))) w0 turn ?_;intro σc H' s' its n ys Ic rv hz qq;obtain ⟨m,hn,_⟩:=Ic.loc;refine ⟨m,hn,fun h' hs'=>?_⟩;obtain ⟨J',nD⟩:=zIf I2 f2 Ic rv hz hs';exact ⟨.ref s2.heap.objs.size,_,J',rfl,qq _ nD⟩
end
end L2
namespace L3
open PySem PySem.Spec PyProof.Rows L2
abbrev Sv:=List (Option V)
set_option genInjectivity true in
inductive D where
 |non|bl (b:Bool)|int (i:Int)|str (x:Str)|tup (xs:List D)|ref (n:Nat)
set_option genInjectivity true in
inductive MO where
 |lst (xs:List D)|fro (xs:List D)|dict (kvs:List (D × D))|dicT (kvs:List (D × D))|set (xs:List D)
mutual
def Rep (L:List Addr) (H:Hp):D->V->Prop
 |.non,v=>v=.non
 |.bl b,v=>v=.bl b
 |.int i,v=>v=.int i
 |.str x,v=>v=.str x
 |.tup ds,v=>∃ a vs,v=.ref a/\H a=some (.tup vs)/\zh L H ds vs
 |.ref n,v=>∃ a,v=.ref a/\L[n]?=some a
def zh (L:List Addr) (H:Hp):List D->List V->Prop
 |[],vs=>vs=[]
 |d::ds,vs=>∃ v r,vs=v::r/\Rep L H d v/\zh L H ds r
end
theorem zh.length:∀ {ds:List D} {vs:List V},zh L H ds vs->vs.length=ds.length
 |[],_,h=>by unfold zh at h;subst h;rfl
 |d::ds,_,h=>by
  unfold zh at h;obtain ⟨v,r,rfl,_,h2⟩:=h;simp[zh.length h2]
theorem zh.nil:zh L H [] []:=by unfold zh;rfl
theorem zh.cons (h:Rep L H d v) (t:zh L H ds vs):zh L H (d::ds) (v::vs):=by
 unfold zh;exact ⟨v,vs,rfl,h,t⟩
theorem zh.get:∀ {ds:List D} {vs:List V} {i:Nat} {d:D},zh L H ds vs->ds[i]?=some d -> ∃ v,vs[i]?=some v/\Rep L H d v
 |[],_,_,_,_,e=>by simp at e
 |d::ds,_,0,d',h,e=>by
  unfold zh at h;obtain ⟨v,r,rfl,h1,h2⟩:=h;simp at e;subst e;exact ⟨v,rfl,h1⟩
 |d::ds,_,i+1,d',h,e=>by
  unfold zh at h;obtain ⟨v,r,rfl,h1,h2⟩:=h;obtain ⟨u,e1,e2⟩:=zh.get (i:=i) h2 (by simpa using e);exact ⟨u,by simpa using e1,e2⟩
theorem zh.app:∀ {ds es:List D} {vs ws:List V},zh L H ds vs->zh L H es ws->zh L H (ds++es) (vs++ws)
 |[],_,_,_,h,t=>by unfold zh at h;subst h;exact t
 |d::ds,_,_,_,h,t=>by
  unfold zh at h;obtain ⟨v,r,rfl,h1,h2⟩:=h;exact .cons h1 (zh.app h2 t)
theorem zh.set (h:Rep L H d v):∀ {ds:List D} {vs:List V} (i:Nat),zh L H ds vs->zh L H (ds.set i d) (vs.set i v)
 |[],_,_,t=>by unfold zh at t;subst t;exact .nil
 |_::_,_,0,t=>by
  unfold zh at t;obtain ⟨v',r,rfl,h1,h2⟩:=t;exact .cons h h2
 |_::_,_,i+1,t=>by
  unfold zh at t;obtain ⟨v',r,rfl,h1,h2⟩:=t;exact .cons h1 (zh.set h i h2)
theorem zh.drop:∀ {ds:List D} {vs:List V} (n:Nat),zh L H ds vs->zh L H (ds.drop n) (vs.drop n)
 |_,_,0,t=>t
 |[],_,n+1,t=>by unfold zh at t;subst t;exact .nil
 |_::_,_,n+1,t=>by
  unfold zh at t;obtain ⟨v',r,rfl,h1,h2⟩:=t;exact zh.drop n h2
theorem zh.take:∀ {ds:List D} {vs:List V} (n:Nat),zh L H ds vs->zh L H (ds.take n) (vs.take n)
 |_,_,0,t=> .nil
 |[],_,n+1,t=>by unfold zh at t;subst t;exact .nil
 |_::_,_,n+1,t=>by
  unfold zh at t;obtain ⟨v',r,rfl,h1,h2⟩:=t;exact .cons h1 (zh.take n h2)
theorem zh.eraseIdx:∀ {ds:List D} {vs:List V} (n:Nat),zh L H ds vs->zh L H (ds.eraseIdx n) (vs.eraseIdx n)
 |[],_,n,t=>by unfold zh at t;subst t;exact .nil
 |_::_,_,0,t=>by
  unfold zh at t;obtain ⟨v',r,rfl,h1,h2⟩:=t;exact h2
 |_::_,_,n+1,t=>by
  unfold zh at t;obtain ⟨v',r,rfl,h1,h2⟩:=t;exact .cons h1 (zh.eraseIdx n h2)
structure Stp (L:List Addr) (H:Hp) (L':List Addr) (H':Hp):Prop where
 pre:∃ N,L'=L++N
 new:∀ a∈L',a∈L\/H a=none
 old:∀ a o,H a=some o->a∉L->H' a=some o
 tup:∀ a xs,H a=some (.tup xs)->H' a=some (.tup xs)
 frz:∀ a o u,H a=some (.frz o u)->H' a=some (.frz o u)
theorem Stp.refl (L:List Addr) (H:Hp):Stp L H L H:=⟨⟨[],by simp⟩,fun _ h=> .inl h,fun _ _ h _=>h,fun _ _ h=>h,fun _ _ _ h=>h⟩
theorem Stp.trans (a:Stp L H L1 H1) (b:Stp L1 H1 L2 H2):Stp L H L2 H2:=by
 obtain ⟨N,rfl⟩:=a.pre;obtain ⟨N',rfl⟩:=b.pre;have back:∀ c,c∉L->H1 c=none->H c=none:=fun c hc h1=>by
  cases q:H c with
  |none=>rfl
  |some o=>rw[a.old c o q hc]at h1;cases h1
 refine ⟨⟨N++N',by simp⟩,fun c hc=>?_,fun c o e hc=>?_,fun c xs e=>b.tup c xs (a.tup c xs e),fun c o u e=>b.frz c o u (a.frz c o u e)⟩
 ·by_cases hL:c∈L
  ·exact .inl hL
  ·rcases b.new c hc with z|z
   ·exact a.new c z
   ·exact .inr (back c hL z)
 ·refine b.old c o (a.old c o e hc) fun z=>?_;rcases a.new c z with q|q
  ·exact hc q
  ·rw[q]at e;cases e
theorem Stp.grow (h:∀ a o,H a=some o->H' a=some o):Stp L H L H':=⟨⟨[],by simp⟩,fun _ h=> .inl h,fun a o e _=>h a o e,fun a _ e=>h a _ e,fun a _ _ e=>h a _ e⟩
theorem Stp.upd (h:H p=none):Stp L H L (upd H p o):=.grow fun a u e=>by rw[zn (zAa e h)];exact e
theorem zCw {L N:List Addr} {n:Nat} {a:Addr} (h:L[n]?=some a):(L++N)[n]?=some a:=by
 rw[zWr (zWn.mp h).1];exact h
mutual
theorem Rep.stp {L L':List Addr} {H H':Hp} (s:Stp L H L' H'):∀ {d:D} {v:V},Rep L H d v->Rep L' H' d v
 |.non,_,h=>by unfold Rep at h ⊢;exact h
 |.bl _,_,h=>by unfold Rep at h ⊢;exact h
 |.int _,_,h=>by unfold Rep at h ⊢;exact h
 |.str _,_,h=>by unfold Rep at h ⊢;exact h
 |.tup ds,_,h=>by
  unfold Rep at h ⊢;obtain ⟨a,vs,rfl,e,r⟩:=h;exact ⟨a,vs,rfl,s.tup a vs e,zh.stp s r⟩
 |.ref n,_,h=>by
  unfold Rep at h ⊢;obtain ⟨a,rfl,e⟩:=h;obtain ⟨N,rfl⟩:=s.pre;exact ⟨a,rfl,zCw e⟩
theorem zh.stp (s:Stp L H L' H'):∀ {ds:List D} {vs:List V},zh L H ds vs->zh L' H' ds vs
 |[],_,h=>by unfold zh at h ⊢;exact h
 |d::ds,_,h=>by
  unfold zh at h ⊢;obtain ⟨v,r,rfl,h1,h2⟩:=h;exact ⟨v,r,rfl,Rep.stp s h1,zh.stp s h2⟩
end
def zHI:D->Option Key
 |.int i=>some (.inl i)
 |.str x=>some (.inr x)
 |_=>none
def zFs:List D->Option (List Key)
 |[]=>some []
 |d::r=>match zHI d,zFs r with
  |some k,some ks=>some (k::ks)
  |_,_=>none
def tkD:D->Option (List Key)
 |.tup ds=>zFs ds
 |_=>none
def zBx {κ:Type} (kf:D->Option κ) (L:List Addr) (H:Hp):List (D × D)->List (κ × V)->Prop
 |[],vs=>vs=[]
 |p::r,vs=>∃ k v r',vs=(k,v)::r'/\kf p.1=some k/\Rep L H p.2 v/\zBx kf L H r r'
theorem zBx.stp {κ:Type} {kf:D->Option κ} {L L':List Addr} {H H':Hp} (s:Stp L H L' H'):∀ {ps:List (D × D)} {vs:List (κ × V)},zBx kf L H ps vs->zBx kf L' H' ps vs
 |[],_,h=>h
 |p::r,_,h=>by
  obtain ⟨k,v,r',rfl,e,h1,h2⟩:=h;exact ⟨k,v,r',rfl,e,h1.stp s,zBx.stp s h2⟩
theorem zBx.length {κ:Type} {kf:D->Option κ} {L:List Addr} {H:Hp}:∀ {ps:List (D × D)} {vs:List (κ × V)},zBx kf L H ps vs->vs.length=ps.length
 |[],_,h=>by unfold zBx at h;subst h;rfl
 |p::r,_,h=>by
  obtain ⟨k,v,r',rfl,e,h1,h2⟩:=h;simp[zBx.length h2]
def zH4 (K:PySem.W.Frag) (L:List Addr) (H:Hp) (a:Addr):MO->Prop
 |.lst xs=>∃ vs,H a=some (.lst vs)/\zh L H xs vs
 |.fro xs=>∃ o vs,H a=some (.frz o (.lst vs))/\zh L H xs vs
 |.dict ps=>∃ vs,H a=some (.dK vs)/\zBx zHI L H ps vs
 |.dicT ps=>∃ vs,H a=some (.dT vs)/\zBx tkD L H ps vs
 |.set _=>∃ o u,H a=some (.frz o u)
theorem zH4.there {K:PySem.W.Frag} {L:List Addr} {H:Hp} {a:Addr} {m:MO} (h:zH4 K L H a m):∃ o,H a=some o:=by
 cases m with
 |lst xs=>obtain ⟨vs,e,_⟩:=h;exact ⟨_,e⟩
 |fro xs=>obtain ⟨o,vs,e,_⟩:=h;exact ⟨_,e⟩
 |dict ps=>obtain ⟨vs,e,_⟩:=h;exact ⟨_,e⟩
 |dicT ps=>obtain ⟨vs,e,_⟩:=h;exact ⟨_,e⟩
 |set _=>obtain ⟨o,u,e⟩:=h;exact ⟨_,e⟩
theorem zH4.stp {K:PySem.W.Frag} {L L':List Addr} {H H':Hp} {a:Addr} {m:MO} (s:Stp L H L' H') (hk:∀ o,H a=some o->H' a=some o) (h:zH4 K L H a m):zH4 K L' H' a m:=by
 cases m with
 |lst xs=>obtain ⟨vs,e,r⟩:=h;exact ⟨vs,hk _ e,r.stp s⟩
 |fro xs=>obtain ⟨o,vs,e,r⟩:=h;exact ⟨o,vs,hk _ e,r.stp s⟩
 |dict ps=>obtain ⟨vs,e,r⟩:=h;exact ⟨vs,hk _ e,r.stp s⟩
 |dicT ps=>obtain ⟨vs,e,r⟩:=h;exact ⟨vs,hk _ e,r.stp s⟩
 |set _=>obtain ⟨o,u,e⟩:=h;exact ⟨o,u,hk _ e⟩
structure Cor (K:PySem.W.Frag) (L:List Addr) (M:List MO) (H:Hp):Prop where
 len:L.length=M.length
 nd:L.Nodup
 obj:∀ (n:Nat) a m,L[n]?=some a->M[n]?=some m->zH4 K L H a m
def zCN (L:List Addr) (H:Hp) (σ:List (Option D)) (τ:Sv):Prop:=τ.length=σ.length /\ ∀ (i:Nat) d,σ[i]?=some (some d) -> ∃ v,τ[i]?=some (some v)/\Rep L H d v
theorem zCN.stp (s:Stp L H L' H') (h:zCN L H σ τ):zCN L' H' σ τ :=
 ⟨h.1,fun i d e=>let ⟨v,e1,r⟩:=h.2 i d e;⟨v,e1,r.stp s⟩⟩
theorem Cor.tracked {K:PySem.W.Frag} {L:List Addr} {M:List MO} {H:Hp} (c:Cor K L M H) {a:Addr} (h:a∈L):∃ o,H a=some o:=by
 obtain ⟨n,hn⟩:=List.getElem?_of_mem h;have hl:n<M.length:=by rw[<-c.len];exact (zWn.mp hn).1
 have m:=c.obj n a M[n] hn (zWo hl);exact m.there
theorem Cor.grow {K:PySem.W.Frag} {L:List Addr} {M:List MO} {H H':Hp} (c:Cor K L M H) (h:∀ a o,H a=some o->H' a=some o):Cor K L M H':=by
 exact ⟨c.len,c.nd,fun n a m e1 e2=>(c.obj n a m e1 e2).stp (.grow h) fun o e=>h a o e⟩
theorem Cor.upd {K:PySem.W.Frag} {L:List Addr} {M:List MO} {H:Hp} {p:Addr} {o:HO} (c:Cor K L M H) (h:H p=none):Cor K L M (upd H p o):=c.grow fun a u e=>by rw[zn (zAa e h)];exact e
theorem Cor.write {K:PySem.W.Frag} {L:List Addr} {M:List MO} {H:Hp} {n:Nat} {p:Addr} {xs xs':List D} {vs':List V} (c:Cor K L M H) (h1:L[n]?=some p) (h2:M[n]?=some (.lst xs)) (r:zh L H xs' vs') :
  Cor K L (M.set n (.lst xs')) (L2.upd H p (.lst vs'))/\Stp L H L (L2.upd H p (.lst vs')):=by
 obtain ⟨vs,hp,_⟩:=c.obj n p _ h1 h2;have st:Stp L H L (L2.upd H p (.lst vs')):=by
  refine ⟨⟨[],by simp⟩,fun a ha=> .inl ha,fun a o e ha=>?_,fun a o e=>?_,fun a o u e=>?_⟩
  ·rw[zn (show a≠p from fun z=>ha (by rw[z];exact List.mem_of_getElem? h1))];exact e
  ·rw[zn (zH6 e hp (by intro z;cases z))];exact e
  ·rw[zn (zH6 e hp (by intro z;cases z))];exact e
 refine ⟨⟨by simp[c.len],c.nd,fun k a m e1 e2=>?_⟩,st⟩;rw[zYJ]at e2;split at e2
 ·rename_i hk;subst hk;rw[h1]at e1;cases e1;split at e2
  ·cases e2;exact ⟨vs',zAh,r.stp st⟩
  ·cases e2
 ·rename_i hk;have hne:a≠p:=fun z=>hk (by
   subst z;exact (List.getElem?_inj (zWn.mp h1).1 c.nd).mp (h1.trans e1.symm))
  exact (c.obj k a m e1 e2).stp st fun o e=>by rw[zn hne];exact e
set_option genInjectivity true in
inductive EV where
 |dat (d:D)|fl (xs:List D)
def zt (H0:Hp) (L:List Addr) (H:Hp):EV->V->Prop
 |.dat d,v=>Rep L H d v
 |.fl xs,v=>∃ p vs,v=.ref p/\H0 p=none/\H p=some (.lst vs)/\p∉L/\zh L H xs vs
abbrev Sd:=List (Option D)
abbrev Mem:=List MO
abbrev FE:=Sd->Mem->Option (EV × Mem)
abbrev FD:=Sd->Mem->Option (D × Mem)
abbrev FT:=Sd->Mem->Option (Bool × Mem)
abbrev FA:=Sd->Mem->Option (List D × Mem)
theorem Stp.out (s:Stp L H L' H') (h:H p=some o) (hp:p∉L):p∉L':=fun z=>by
 rcases s.new p z with q|q
 ·exact hp q
 ·rw[h]at q;cases q
theorem zt.stp (s:Stp L H L' H') (h:zt H0 L H e v):zt H0 L' H' e v:=by
 cases e with
 |dat d=>exact Rep.stp s h
 |fl xs=>
  obtain ⟨p,vs,rfl,e0,e1,e2,r⟩:=h;exact ⟨p,vs,rfl,e0,s.old p _ e1 e2,s.out e1 e2,r.stp s⟩
theorem zt.back {H0 H1:Hp} {L0 L1 L:List Addr} {H:Hp} (s:Stp L0 H0 L1 H1) {M:List MO} {K:PySem.W.Frag} (c:Cor K L0 M H0) {e:EV} {v:V} (h:zt H1 L H e v) (hL:∀ a∈L1,a∈L):zt H0 L H e v:=by
 cases e with
 |dat d=>exact h
 |fl xs=>
  obtain ⟨p,vs,rfl,e0,e1,e2,r⟩:=h;refine ⟨p,vs,rfl,?_,e1,e2,r⟩;cases q:H0 p with
  |none=>rfl
  |some o=>
   by_cases hp:p∈L0
   ·obtain ⟨N,hN⟩:=s.pre;exact absurd (hL p (by rw[hN];exact zXz _ hp)) e2
   ·rw[s.old p o q hp]at e0;cases e0
section
variable (K:PySem.W.Frag)
def trE (f:FE):TE:=fun τ H Q=>∃ L σ M d M',Cor K L M H/\zCN L H σ τ/\f σ M=some (d,M') /\ ∀ L' H' v,Stp L H L' H'->Cor K L' M' H'->zt H L' H' d v->Q v H'
def trD (f:FD):TE:=fun τ H Q=>∃ L σ M d M',Cor K L M H/\zCN L H σ τ/\f σ M=some (d,M') /\ ∀ L' H' v,Stp L H L' H'->Cor K L' M' H'->Rep L' H' d v->Q v H'
def trT (f:FT):TT:=fun τ H Q=>∃ L σ M d M',Cor K L M H/\zCN L H σ τ/\f σ M=some (d,M') /\ ∀ L' H',Stp L H L' H'->Cor K L' M' H'->Q d H'
def trA (f:FA):TA:=fun τ H Q=>∃ L σ M ds M',Cor K L M H/\zCN L H σ τ/\f σ M=some (ds,M') /\ ∀ L' H' vs,Stp L H L' H'->Cor K L' M' H'->zh L' H' ds vs->Q vs H'
end
section
variable {X:Cx} {e:Expr}
theorem PE.imp (h:PE X e t) (hi:∀ τ H Q,t' τ H Q->t τ H Q):PE X e t':=fun zB s σ H Q I q=>h zB s σ H Q I (hi _ _ _ q)
theorem PT.imp (h:PT X e t) (hi:∀ τ H Q,t' τ H Q->t τ H Q):PT X e t':=fun zB s σ H Q I q=>h zB s σ H Q I (hi _ _ _ q)
theorem PS.imp {st:Stmt} {t t':TS} (h:PS X st t) (hi:∀ D τ H,t' D τ H->t D τ H):PS X st t':=fun zB s σ H D I q=>h zB s σ H D I (hi _ _ _ q)
theorem PSs.imp {st:List Stmt} {t t':TS} (h:PSs X st t) (hi:∀ D τ H,t' D τ H->t D τ H):PSs X st t':=fun zB s σ H D I q=>h zB s σ H D I (hi _ _ _ q)
structure QE (X:Cx) (e:Expr) (f:FE):Prop where
 un:PE X e (trE X.K f)
structure QD (X:Cx) (e:Expr) (f:FD):Prop where
 un:PE X e (trD X.K f)
structure QT (X:Cx) (e:Expr) (f:FT):Prop where
 un:PT X e (trT X.K f)
structure QA (X:Cx) (es:List Expr) (f:FA):Prop where
 un:PA X es (trA X.K f)
def toD (f:FE):FD:=fun σ M=>match f σ M with
 |some (.dat d,M')=>some (d,M')
 |some (.fl xs,M')=>some (.ref M'.length,M'++[.lst xs])
 |none=>none
mutual
theorem Rep.more (N:List Addr):∀ {d:D} {v:V},Rep L H d v->Rep (L++N) H d v
 |.non,_,h=>by unfold Rep at h ⊢;exact h
 |.bl _,_,h=>by unfold Rep at h ⊢;exact h
 |.int _,_,h=>by unfold Rep at h ⊢;exact h
 |.str _,_,h=>by unfold Rep at h ⊢;exact h
 |.tup ds,_,h=>by
  unfold Rep at h ⊢;obtain ⟨a,vs,rfl,e,r⟩:=h;exact ⟨a,vs,rfl,e,zh.more N r⟩
 |.ref n,_,h=>by
  unfold Rep at h ⊢;obtain ⟨a,rfl,e⟩:=h;exact ⟨a,rfl,zCw e⟩
theorem zh.more (N:List Addr):∀ {ds:List D} {vs:List V},zh L H ds vs->zh (L++N) H ds vs
 |[],_,h=>by unfold zh at h ⊢;exact h
 |d::ds,_,h=>by
  unfold zh at h ⊢;obtain ⟨v,r,rfl,h1,h2⟩:=h;exact ⟨v,r,rfl,Rep.more N h1,zh.more N h2⟩
end
theorem zBx.more {κ:Type} {kf:D->Option κ} {L:List Addr} {H:Hp} (N:List Addr):∀ {ps:List (D × D)} {vs:List (κ × V)},zBx kf L H ps vs->zBx kf (L++N) H ps vs
 |[],_,h=>h
 |p::r,_,h=>by
  obtain ⟨k,v,r',rfl,e,h1,h2⟩:=h;exact ⟨k,v,r',rfl,e,h1.more N,zBx.more N h2⟩
theorem zH4.more {K:PySem.W.Frag} {L:List Addr} {H:Hp} {a:Addr} {m:MO} (N:List Addr) (h:zH4 K L H a m):zH4 K (L++N) H a m:=by
 cases m with
 |lst xs=>obtain ⟨vs,e,r⟩:=h;exact ⟨vs,e,r.more N⟩
 |fro xs=>obtain ⟨o,vs,e,r⟩:=h;exact ⟨o,vs,e,r.more N⟩
 |dict ps=>obtain ⟨vs,e,r⟩:=h;exact ⟨vs,e,r.more N⟩
 |dicT ps=>obtain ⟨vs,e,r⟩:=h;exact ⟨vs,e,r.more N⟩
 |set _=>exact h
theorem zTm {K:PySem.W.Frag} {L L':List Addr} {M':List MO} {H H':Hp} {p:Addr} {xs:List D} {vs:List V} (s:Stp L H L' H') (c:Cor K L' M' H') (h0:H p=none) (h1:H' p=some (.lst vs)) (h2:p∉L') (r:zh L' H' xs vs) :
  Cor K (L'++[p]) (M'++[.lst xs]) H'/\Stp L H (L'++[p]) H':=by
 refine ⟨⟨by simp[c.len],?_,fun n a m e1 e2=>?_⟩,?_⟩
 ·rw[zXy];exact ⟨c.nd,by simp,fun a ha b hb z=>by
   have:b=p:=by simpa using hb
   subst this;subst z;exact h2 ha⟩
 ·by_cases hn:n<L'.length
  ·rw[zWr hn]at e1;rw[zWr (by rw[<-c.len];exact hn)]at e2;exact (c.obj n a m e1 e2).more [p]
  ·have hn':n=L'.length:=by
    have:=(zWn.mp e1).1;rw[zW0]at this;simp at this;omega
   subst hn';simp at e1;rw[c.len]at e2;simp at e2;subst e1;subst e2;exact ⟨vs,h1,r.more [p]⟩
 ·obtain ⟨N,hN⟩:=s.pre;refine ⟨⟨N++[p],by rw[hN];simp⟩,fun a ha=>?_,s.old,s.tup,s.frz⟩;rcases zXA.mp ha with z|z
  ·exact s.new a z
  ·have:a=p:=by simpa using z
   subst this;exact .inr h0
theorem Rep.last {L:List Addr} {M:List MO} {H:Hp} {K:PySem.W.Frag} {p:Addr} (c:Cor K L M H):Rep (L++[p]) H (.ref M.length) (.ref p):=by
 unfold Rep;exact ⟨p,rfl,by rw[<-c.len];simp⟩
theorem zI {f:FE} (h:QE X e f):QD X e (toD f):=.mk <| PE.imp h.un fun τ H Q zz=>by
 obtain ⟨L,σ,M,d,M',c,rs,hf,q⟩:=zz;unfold toD at hf;split at hf
 ·rename_i d' M1 e1;cases hf;exact ⟨L,σ,M,_,_,c,rs,e1,fun L' H' v s c' r=>q L' H' v s c' r⟩
 ·rename_i xs M1 e1;cases hf;refine ⟨L,σ,M,_,_,c,rs,e1,fun L' H' v s c' r=>?_⟩;obtain ⟨p,vs,rfl,e0,e2,e3,r⟩:=r;obtain ⟨c2,s2⟩:=zTm s c' e0 e2 e3 r;exact q _ H' _ s2 c2 (Rep.last c')
 ·cases hf
def zE (i:Nat):FE:=fun σ M=>match σ[i]? with
 |some (some d)=>some (.dat d,M)
 |_=>none
theorem zG (h:PE X (.Name x pos) (zVE i)):QE X (.Name x pos) (zE i):=.mk <| PE.imp h fun τ H Q zz=>by
 obtain ⟨L,σ,M,d,M',c,rs,hf,q⟩:=zz;unfold zE at hf;split at hf
 ·rename_i d' e1;cases hf;obtain ⟨v,e2,r⟩:=rs.2 i d' e1;exact ⟨v,e2,q L H v (.refl L H) c r⟩
 ·cases hf
def fC (d:D):FE:=fun _ M=>some (.dat d,M)
theorem zHq (hd:∀ L H,Rep L H d v) (h:PE X e (tC v)):QE X e (fC d):=.mk <| PE.imp h fun τ H Q zz=>by
 obtain ⟨L,σ,M,d',M',c,rs,hf,q⟩:=zz;unfold fC at hf;cases hf;exact q L H v (.refl L H) c (hd L H)
theorem zP {i j pos}:QE X (.Constant (.int i) j pos) (fC (.int i)):=zHq (fun _ _=>by unfold Rep;rfl) zUG
theorem zD3 {b j pos}:QE X (.Constant (.bool b) j pos) (fC (.bl b)):=zHq (fun _ _=>by unfold Rep;rfl) zVL
theorem zJ6 {j pos}:QE X (.Constant .none j pos) (fC .non):=zHq (fun _ _=>by unfold Rep;rfl) zU4
theorem zOL {x j pos}:QE X (.Constant (.str x) j pos) (fC (.str x)):=zHq (fun _ _=>by unfold Rep;rfl) zUC
def zL:FA:=fun _ M=>some ([],M)
def zF (f:FD) (g:FA):FA:=fun σ M=>match f σ M with
 |some (d,M1)=>match g σ M1 with
  |some (ds,M2)=>some (d::ds,M2)
  |none=>none
 |none=>none
theorem PA.imp (h:PA X es t) (hi:∀ τ H Q,t' τ H Q->t τ H Q):PA X es t':=fun pos zB s σ H Q I q=>h pos zB s σ H Q I (hi _ _ _ q)
theorem zJ:QA X [] zL:=.mk <| PA.imp zGL fun τ H Q zz=>by
 obtain ⟨L,σ,M,d,M',c,rs,hf,q⟩:=zz;unfold zL at hf;cases hf;exact q L H [] (.refl L H) c .nil
theorem zD (h1:QD X e f) (h2:QA X es g) (hs:starEach (e::es) X.env=(false,eval e X.env)::starEach es X.env:=by rfl):QA X (e::es) (zF f g) :=
 .mk <| PA.imp (zDh h1.un h2.un hs) fun τ H Q zz=>by
  obtain ⟨L,σ,M,d,M',c,rs,hf,q⟩:=zz;unfold zF at hf;split at hf
  ·rename_i d1 M1 e1;split at hf
   ·rename_i ds M2 e2;cases hf;refine ⟨L,σ,M,_,_,c,rs,e1,fun L1 H1 v s1 c1 r1=>⟨L1,σ,M1,_,_,c1,rs.stp s1,e2,fun L2 H2 vs s2 c2 r2=>?_⟩⟩;exact q L2 H2 _ (s1.trans s2) c2 (.cons (r1.stp s2) r2)
   ·cases hf
  ·cases hf
def zAV (g:FA):FE:=fun σ M=>match g σ M with
 |some (ds,M1)=>if ds.length<=sizeLine then some (.dat (.tup ds),M1) else none
 |none=>none
def zAk (g:FA):FE:=fun σ M=>match g σ M with
 |some (ds,M1)=>if ds.length<=sizeLine then some (.fl ds,M1) else none
 |none=>none
theorem Rep.newTup (h:H p=none) (r:zh L H ds vs):Rep L (upd H p (.tup vs)) (.tup ds) (.ref p):=by
 unfold Rep;exact ⟨p,vs,rfl,zAh,r.stp (.upd h)⟩
theorem zAm {x1 pos} (h:QA X es g):QE X (.Tuple es x1 pos) (zAV g):=.mk <| PE.imp (zUW h.un) fun τ H Q zz=>by
 obtain ⟨L,σ,M,d,M',c,rs,hf,q⟩:=zz;unfold zAV at hf;split at hf
 ·rename_i ds M1 e1;split at hf
  ·rename_i hz;cases hf;refine ⟨L,σ,M,_,_,c,rs,e1,fun L1 H1 vs s1 c1 r1=>⟨by rw[r1.length];exact hz,fun p hp=>?_⟩⟩;exact q L1 _ _ (s1.trans (.upd hp)) (c1.upd hp) (Rep.newTup hp r1)
  ·cases hf
 ·cases hf
theorem zOr {L L1:List Addr} {H H1:Hp} {K:PySem.W.Frag} {M M1:List MO} (s:Stp L H L1 H1) (c:Cor K L M H) (c1:Cor K L1 M1 H1) {p:Addr} (hp:H1 p=none):H p=none/\p∉L1:=by
 have hp1:p∉L1:=fun z=>by obtain ⟨o,e⟩:=c1.tracked z;rw[hp]at e;cases e
 refine ⟨?_,hp1⟩;cases q:H p with
 |none=>rfl
 |some o=>
  have:p∉L:=fun z=>hp1 (by obtain ⟨N,hN⟩:=s.pre;rw[hN];exact zXz _ z);rw[s.old p o q this]at hp;cases hp
theorem zt.newLst {L L1:List Addr} {H H1:Hp} {K:PySem.W.Frag} {M M1:List MO} {p:Addr} {ds:List D} {vs:List V} (s:Stp L H L1 H1) (c:Cor K L M H) (c1:Cor K L1 M1 H1) (hp:H1 p=none) (r:zh L1 H1 ds vs) :
  zt H L1 (upd H1 p (.lst vs)) (.fl ds) (.ref p):=by
 obtain ⟨a,b⟩:=zOr s c c1 hp;exact ⟨p,vs,rfl,a,zAh,b,r.stp (.upd hp)⟩
theorem zBg {pos} (h:QA X es g):QE X (.List es pos) (zAk g):=.mk <| PE.imp (zUc h.un) fun τ H Q zz=>by
 obtain ⟨L,σ,M,d,M',c,rs,hf,q⟩:=zz;unfold zAk at hf;split at hf
 ·rename_i ds M1 e1;split at hf
  ·rename_i hz;cases hf;refine ⟨L,σ,M,_,_,c,rs,e1,fun L1 H1 vs s1 c1 r1=>⟨by rw[r1.length];exact hz,fun p hp=>?_⟩⟩;exact q L1 _ _ (s1.trans (.upd hp)) (c1.upd hp) (zt.newLst s1 c c1 hp r1)
  ·cases hf
 ·cases hf
end
abbrev FAE:=Sd->Mem->Option (List EV × Mem)
def zDe (H0:Hp) (L:List Addr) (H:Hp):List EV->List V->Prop
 |[],vs=>vs=[]
 |e::es,vs=>∃ v r,vs=v::r/\zt H0 L H e v/\zDe H0 L H es r
theorem Stp.sub (s:Stp L H L' H'):∀ a∈L,a∈L':=fun a h=>by
 obtain ⟨N,hN⟩:=s.pre;rw[hN];exact zXz _ h
theorem zDe.back {H0 H1:Hp} {L0 L1 L:List Addr} {H:Hp} (s:Stp L0 H0 L1 H1) {M:List MO} {K:PySem.W.Frag} (c:Cor K L0 M H0) (hL:∀ a∈L1,a∈L):∀ {es:List EV} {vs:List V},zDe H1 L H es vs->zDe H0 L H es vs
 |[],_,h=>h
 |e::es,_,h=>by
  obtain ⟨v,r,rfl,h1,h2⟩:=h;exact ⟨v,r,rfl,h1.back s c hL,zDe.back s c hL h2⟩
def zWB (K:PySem.W.Frag) (f:FAE):TA:=fun τ H Q=>∃ L σ M ds M',Cor K L M H/\zCN L H σ τ/\f σ M=some (ds,M') /\ ∀ L' H' vs,Stp L H L' H'->Cor K L' M' H'->zDe H L' H' ds vs->Q vs H'
structure QAE (X:Cx) (es:List Expr) (f:FAE):Prop where
 un:PA X es (zWB X.K f)
section
variable {X:Cx} {a b e:Expr} {es:List Expr} {pos:Pos}
def zq:FAE:=fun _ M=>some ([],M)
def zb (f:FE) (g:FAE):FAE:=fun σ M=>match f σ M with
 |some (d,M1)=>match g σ M1 with
  |some (ds,M2)=>some (d::ds,M2)
  |none=>none
 |none=>none
theorem zj:QAE X [] zq:=.mk <| PA.imp zGL fun τ H Q zz=>by
 obtain ⟨L,σ,M,d,M',c,rs,hf,q⟩:=zz;unfold zq at hf;cases hf;exact q L H [] (.refl L H) c rfl
theorem zc (h1:QE X e f) (h2:QAE X es g) (hs:starEach (e::es) X.env=(false,eval e X.env)::starEach es X.env:=by rfl):QAE X (e::es) (zb f g) :=
 .mk <| PA.imp (zDh h1.un h2.un hs) fun τ H Q zz=>by
  obtain ⟨L,σ,M,d,M',c,rs,hf,q⟩:=zz;unfold zb at hf;split at hf
  ·rename_i d1 M1 e1;split at hf
   ·rename_i ds M2 e2;cases hf;refine ⟨L,σ,M,_,_,c,rs,e1,fun L1 H1 v s1 c1 r1=>⟨L1,σ,M1,_,_,c1,rs.stp s1,e2,fun L2 H2 vs s2 c2 r2=>?_⟩⟩;exact q L2 H2 _ (s1.trans s2) c2 ⟨v,vs,rfl,r1.stp s2,r2.back s1 c s2.sub⟩
   ·cases hf
  ·cases hf
abbrev K2:=EV->EV->Mem->Option (EV × Mem)
def zCF (K:PySem.W.Frag) (r:R2) (k:K2):Prop:=∀ {L:List Addr} {M M':Mem} {H H0:Hp} {x y d:EV} {v w:V} {Q:VK},Cor K L M H->zt H0 L H x v->zt H0 L H y w->k x y M=some (d,M') ->
 (∀ L' H' u,Stp L H L' H'->Cor K L' M' H'->zt H L' H' d u->Q u H')->r v w H Q
def fOp (k:K2) (f g:FE):FE:=fun σ M=>match f σ M with
 |some (x,M1)=>match g σ M1 with
  |some (y,M2)=>k x y M2
  |none=>none
 |none=>none
theorem zDo {K:PySem.W.Frag} {r:R2} {k:K2} {f g:FE} (hk:zCF K r k) {τ:Sv} {H:Hp} {Q:VK} (h:trE K (fOp k f g) τ H Q):tOp r (trE K f) (trE K g) τ H Q:=by
 obtain ⟨L,σ,M,d,M',c,rs,hf,q⟩:=h;unfold fOp at hf;split at hf
 ·rename_i x M1 e1;split at hf
  ·rename_i y M2 e2;refine ⟨L,σ,M,_,_,c,rs,e1,fun L1 H1 v s1 c1 r1=>⟨L1,σ,M1,_,_,c1,rs.stp s1,e2,fun L2 H2 w s2 c2 r2=>?_⟩⟩;refine hk (H0:=H) c2 (r1.stp s2) (r2.back s1 c s2.sub) hf fun L3 H3 u s3 c3 r3=>?_;exact q L3 H3 u ((s1.trans s2).trans s3) c3 (r3.back (s1.trans s2) c s3.sub)
  ·cases hf
 ·cases hf
theorem zNO (hk:zCF X.K r k) (ho:OpR X (binaryOp op) r) (h1:QE X a f) (h2:QE X b g):QE X (.BinOp a op b pos) (fOp k f g):=.mk <| PE.imp (zVt ho h1.un h2.un) fun _ _ _ h=>zDo hk h
theorem zQy (hk:zCF X.K r k) (ho:OpR X (compareOp op) r) (h1:QE X a f) (h2:QE X b g) (hm:behindInMarks op b=false):QE X (.Compare a [op] [b] pos) (fOp k f g) :=
 .mk <| PE.imp (zSV ho h1.un h2.un hm) fun _ _ _ h=>zDo hk h
def tst (f:FE):FT:=fun σ M=>match f σ M with
 |some (.dat (.bl c),M')=>some (c,M')
 |_=>none
theorem zEC {K:PySem.W.Frag} {f:FE} {τ:Sv} {H:Hp} {Q:Bool->Hp->Prop} (h:trT K (tst f) τ H Q):zLz (trE K f) τ H Q:=by
 obtain ⟨L,σ,M,d,M',c,rs,hf,q⟩:=h;unfold tst at hf;split at hf
 ·rename_i k M1 e1;cases hf;refine ⟨L,σ,M,_,_,c,rs,e1,fun L1 H1 v s1 c1 r1=>?_⟩;have:v=.bl d:=by unfold zt Rep at r1;exact r1
  exact ⟨d,this,q L1 H1 s1 c1⟩
 ·cases hf
theorem zES (h:∀ τ H Q,t τ H Q->t' τ H Q) (q:zLz t τ H Q):zLz t' τ H Q:=h _ _ _ q
theorem zIX {op:CmpOp} {r:R2} {k:K2} {f g:FE} (hk:zCF X.K r k) (ho:OpR X (compareOp op) r) (h1:QE X a f) (h2:QE X b g) (hm:behindInMarks op b=false):QT X (.Compare a [op] [b] pos) (tst (fOp k f g)) :=
 .mk <| PT.imp (zTQ ho h1.un h2.un hm) fun _ _ _ h=>zES (fun _ _ _ z=>zDo hk z) (zEC h)
theorem zCm (h:QE X e f) (he:∀ whole,isTrue e X.env whole=(do let v <- whole;standAt e.pos;holding [v] (truthy v)):=by intro _;rfl):QT X e (tst f) :=
 .mk <| PT.imp (zUR h.un he) fun _ _ _ h=>zEC h
def kI (C:Int->Int->Bool) (g:Int->Int->D):K2:=fun x y M=>match x,y with
 |.dat (.int i),.dat (.int j)=>if C i j then some (.dat (g i j),M) else none
 |_,_=>none
def kI0 (g:Int->Int->D):K2:=kI (fun _ _=>true) g
theorem zLV {K:PySem.W.Frag} {C:Int->Int->Bool} {C':Int->Int->Prop} {g:Int->Int->D} {g':Int->Int->V} (hC:∀ i j,C i j=true->C' i j) (hg:∀ L H i j,Rep L H (g i j) (g' i j)):zCF K (rI C' g') (kI C g):=by
 intro L M M' H H0 x y d v w Q c rx ry hk q;unfold kI at hk;split at hk
 ·rename_i i j;split at hk
  ·rename_i hc;cases hk;refine ⟨i,j,by unfold zt Rep at rx;exact rx,by unfold zt Rep at ry;exact ry,hC i j hc,q L H _ (.refl L H) c (hg L H i j)⟩
  ·cases hk
 ·cases hk
theorem zCo {K:PySem.W.Frag} {g:Int->Int->D} {g':Int->Int->V} (hg:∀ L H i j,Rep L H (g i j) (g' i j)):zCF K (rI0 g') (kI0 g):=by
 intro L M M' H H0 x y d v w Q c rx ry hk q;obtain ⟨i,j,h1,h2,_,h4⟩:=zLV (C:=fun _ _=>true) (C':=fun _ _=>True) (fun _ _ _=>trivial) hg c rx ry hk q;exact ⟨i,j,h1,h2,h4⟩
theorem zAs:Rep L H (.int i) (.int i):=by unfold Rep;rfl
theorem zBW:Rep L H (.bl i) (.bl i):=by unfold Rep;rfl
def zPL (i j:Int):Bool:=(decide (-(2 ^ 64)<i)&&decide (i<2 ^ 64))||(decide (-(2 ^ 64)<j)&&decide (j<2 ^ 64))
abbrev zWL:K2:=kI0 fun i j=> .int (i+j)
abbrev zH8:K2:=kI0 fun i j=> .int (i-j)
abbrev zOv:K2:=kI zPL fun i j=> .int (i*j)
abbrev zGb:K2:=kI (fun _ j=>decide (0<j)) fun i j=> .int (i % j)
abbrev zPx:K2:=kI (fun _ j=>decide (0<j)&&decide (j<1073741824)) fun i j=> .int (i / j)
abbrev zLr:K2:=kI (fun i j=>decide (0<=j)&&decide (j<=1000000)&&decide (i.natAbs<2 ^ 64)) fun i j=> .int (i ^ j.toNat)
abbrev kLt:K2:=kI0 fun i j=> .bl (decide (i<j))
abbrev kLe:K2:=kI0 fun i j=> .bl (decide (i<=j))
abbrev kGt:K2:=kI0 fun i j=> .bl (decide (j<i))
abbrev kGe:K2:=kI0 fun i j=> .bl (decide (j<=i))
section
variable {f g:FE}
theorem zIC (h1:QE X a f) (h2:QE X b g):QE X (.BinOp a .Sub b pos) (fOp zH8 f g):=zNO (zCo fun _ _ _ _=>zAs) zU5 h1 h2
theorem zRI (h1:QE X a f) (h2:QE X b g):QE X (.BinOp a .Mult b pos) (fOp zOv f g):=zNO (zLV (fun i j h=>by
 unfold zPL at h;simp only[Bool.or_eq_true,zXK,zXx]at h;exact h) fun _ _ _ _=>zAs) zUg h1 h2
theorem zFv (h1:QE X a f) (h2:QE X b g):QE X (.BinOp a .Mod b pos) (fOp zGb f g):=zNO (zLV (fun i j h=>zXg h) fun _ _ _ _=>zAs) zU0 h1 h2
theorem zQw (h1:QE X a f) (h2:QE X b g):QE X (.BinOp a .FloorDiv b pos) (fOp zPx f g):=zNO (zLV (fun i j h=>by
 simp only[zXK,zXx]at h;exact h) fun _ _ _ _=>zAs) zSn h1 h2
theorem zNy (h1:QE X a f) (h2:QE X b g):QE X (.BinOp a .Pow b pos) (fOp zLr f g):=zNO (zLV (fun i j h=>by
 simp only[zXK,zXx]at h;exact ⟨h.1.1,h.1.2,h.2⟩) fun _ _ _ _=>zAs) zVH h1 h2
theorem zWU (h1:QE X a f) (h2:QE X b g):QE X (.Compare a [.Lt] [b] pos) (fOp kLt f g):=zQy (zCo fun _ _ _ _=>zBW) zJi h1 h2 (zFF _)
theorem zR4 (h1:QE X a f) (h2:QE X b g):QT X (.Compare a [.Lt] [b] pos) (tst (fOp kLt f g)):=zIX (zCo fun _ _ _ _=>zBW) zJi h1 h2 (zFF _)
theorem zRP (h1:QE X a f) (h2:QE X b g):QT X (.Compare a [.Gt] [b] pos) (tst (fOp kGt f g)):=zIX (zCo fun _ _ _ _=>zBW) zVh h1 h2 (zFF _)
theorem zVY (h1:QE X a f) (h2:QE X b g):QT X (.Compare a [.GtE] [b] pos) (tst (fOp kGe f g)):=zIX (zCo fun _ _ _ _=>zBW) zV0 h1 h2 (zFF _)
end
end
def zB8 (M:Mem):EV->Option (List D)
 |.fl xs=>some xs
 |.dat (.ref n)=>match M[n]? with
  |some (.lst xs)=>some xs
  |some (.fro xs)=>some xs
  |_=>none
 |_=>none
def zDg:EV->Option (List D)
 |.dat (.tup xs)=>some xs
 |_=>none
def zBJ (M:Mem) (x:EV):Option (List D):=match zDg x with
 |some xs=>some xs
 |none=>zB8 M x
theorem zBy {K:PySem.W.Frag} {L:List Addr} {M:Mem} {H H0:Hp} {x:EV} {v:V} {xs:List D} (c:Cor K L M H) (r:zt H0 L H x v) (h:zB8 M x=some xs):∃ a vs,v=.ref a/\Rd H a (.lst vs)/\zh L H xs vs:=by
 cases x with
 |fl ys=>
  cases h;obtain ⟨p,vs,rfl,_,e,_,r⟩:=r;exact ⟨p,vs,rfl,.inl e,r⟩
 |dat d=>
  cases d with
  |ref n=>
   unfold zt Rep at r;obtain ⟨a,rfl,e⟩:=r;unfold zB8 at h;dsimp only at h;cases q:M[n]? with
   |none=>rw[q]at h;cases h
   |some m=>
    rw[q]at h;have z:=c.obj n a m e q;cases m with
    |lst ys=>cases h;obtain ⟨vs,e1,r1⟩:=z;exact ⟨a,vs,rfl,.inl e1,r1⟩
    |fro ys=>cases h;obtain ⟨o,vs,e1,r1⟩:=z;exact ⟨a,vs,rfl,.inr ⟨o,e1⟩,r1⟩
    |dict _=>cases h
    |dicT _=>cases h
    |set _=>cases h
  |_=>cases h
theorem zDC {L:List Addr} {H H0:Hp} {x:EV} {v:V} {xs:List D} (r:zt H0 L H x v) (h:zDg x=some xs):∃ a vs,v=.ref a/\H a=some (.tup vs)/\zh L H xs vs:=by
 cases x with
 |fl ys=>cases h
 |dat d=>
  cases d with
  |tup ys=>cases h;unfold zt Rep at r;exact r
  |_=>cases h
theorem zKv {K:PySem.W.Frag} {L:List Addr} {M:Mem} {H H0:Hp} {x:EV} {v:V} {xs:List D} (c:Cor K L M H) (r:zt H0 L H x v) (h:zBJ M x=some xs):∃ a vs,v=.ref a/\(SqL K H a vs\/SqT K H a vs)/\zh L H xs vs:=by
 unfold zBJ at h;cases q:zDg x with
 |some ys=>
  rw[q]at h;cases h;obtain ⟨a,vs,e,h1,h2⟩:=zDC r q;exact ⟨a,vs,e,.inr (.of h1),h2⟩
 |none=>
  rw[q]at h;obtain ⟨a,vs,e,h1,h2⟩:=zBy c r h;exact ⟨a,vs,e,.inl (.inl h1),h2⟩
theorem zT8 {L:List Addr} {H:Hp} {xs:List D} {vs:List V} {i:Int} {d:D} (r:zh L H xs vs) (h:atI xs i=some d):∃ v,atI vs i=some v/\Rep L H d v:=by
 unfold atI at h ⊢;rw[r.length];cases q:ixN xs.length i with
 |none=>rw[q]at h;cases h
 |some j=>rw[q]at h;exact r.get h
theorem zTC {L:List Addr} {H:Hp} {i:Str}:Rep L H (.str i) (.str i):=by unfold Rep;rfl
def kIx:K2:=fun x y M=>match y with
 |.dat (.int i)=>match zBJ M x with
  |some xs=>match atI xs i with
   |some d=>some (.dat d,M)
   |none=>none
  |none=>match x with
   |.dat (.str z)=>if z.length<=sizeLine then match atI z.cps.toList i with
     |some c=>some (.dat (.str ⟨#[c]⟩),M)
     |none=>none
    else none
   |_=>none
 |_=>none
theorem zTx {K:PySem.W.Frag}:zCF K (rIx K) kIx:=by
 intro L M M' H H0 x y d v w Q c rx ry hk q;unfold kIx at hk;split at hk
 ·rename_i i;have ew:w=.int i:=by unfold zt Rep at ry;exact ry
  split at hk
  ·rename_i xs e1;split at hk
   ·rename_i d' e2;cases hk;obtain ⟨a,vs,rfl,hs,r⟩:=zKv c rx e1;obtain ⟨u,e3,r3⟩:=zT8 r e2;rcases hs with hs|hs
    ·exact .inl ⟨a,vs,i,u,rfl,ew,hs,e3,q L H u (.refl L H) c r3⟩
    ·exact .inr (.inl ⟨a,vs,i,u,rfl,ew,hs,e3,q L H u (.refl L H) c r3⟩)
   ·cases hk
  ·split at hk
   ·rename_i z _;split at hk
    ·rename_i hz;split at hk
     ·rename_i ch e2;cases hk;have ev:v=.str z:=by unfold zt Rep at rx;exact rx
      exact .inr (.inr ⟨z,i,ch,ev,ew,hz,e2,q L H _ (.refl L H) c (zTC (L:=L) (H:=H))⟩)
     ·cases hk
    ·cases hk
   ·cases hk
 ·cases hk
section
variable {prog:Program} {w:World} {A:Around} {E:Value->Shared->Prop} {s:Shared}
theorem zNm {t sl:Addr} {items:Array Value} {vl vu:Value} {lo hi:Option Int} {Q:Value->Shared->Prop} (T:IsTup s.heap t items) (S:s.heap.IsSliceOf sl vl vu .none) (pl:IsPart vl lo) (pu:IsPart vu hi)
  (h1:HT.sIx items.size 0 lo=0) (h2:HT.sIx items.size items.size hi=items.size) (h:Q (.ref t) s):wpAny (model prog w) A (getItem (.ref t) (.ref sl)) Q E s:=by
 obtain ⟨o,O,C,G⟩:=id S;have TS:s.TypeIs (.ref sl) "slice" := ⟨o,O,C⟩;unfold getItem;try with_reducible refine zXd ?_
 first|refine zWk (zWm ?_)|skip
 refine zWk (wpAny_sequenceKey T.typeIs (by decide) ?_);refine zWk (zXM (name:=Str.ofString "__getitem__") T.typeIs zYI (zXN zYI T.typeIs entry_tuple_getitem ?_ (args_tuple_getitem _ _)));refine zWk (m:=Builtin.Tuple.tupleItemsOf (.ref t)) (tupleItemsOf_ T (zWk (wpAny_typeOf TS ?_)));rw[zWz (by decide)];refine zWk (HT.zD9 S pl pu ?_);rw[h1,h2];show wpAny _ _ (if ((((0:Nat):Int)==0&&(1:Int)==1&&(items.size-0)==items.size))=true then _ else _) _ _ s;rw[zWz (by simp)];unfold Builtin.Tuple.tupleIsExact;refine zWk (zWk (wpAny_typeOf T.typeIs (zWm ?_)));rw[zWz (by decide)];exact zWk (zX7 (zWm ⟨_,rfl,zWm h⟩))
end
def zWd (K:PySem.W.Frag):V->Option Int->Option Int->Hp->VK->Prop:=fun x lo hi H Q=>∃ a xs,x=.ref a/\SqT K H a xs/\(HT.sIx xs.length 0 lo=0/\HT.sIx xs.length xs.length hi=xs.length)/\Q (.ref a) H
theorem zTM {X:Cx}:SlR X (zWd X.K):=by
 intro zB s σ H x v vl vu lo hi sl Q I rx hs pl pu h;obtain ⟨a,xs,rfl,hx,hw,q⟩:=h;cases rx;obtain ⟨its,r,ht,hz⟩:=I.tuple hx;have hlen:its.toArray.size=xs.length:=by rw[zWs];exact r.length.symm
 exact ⟨"tuple", _,zYI.lookup,ht.typeIs,zNm ht hs pl pu (by rw[hlen];exact hw.1) (by rw[hlen];exact hw.2) ⟨.ref a,H,I,rfl,q⟩⟩
section
variable {X:Cx} {a b e:Expr} {es:List Expr} {pos:Pos} {f g:FE}
theorem zAb (h1:QE X a f) (h2:QE X b g) (hs:zN9 b:=by intro _ _;rfl):QE X (.Subscript a b pos) (fOp kIx f g):=.mk <| PE.imp (zVQ zTw h1.un h2.un hs) fun _ _ _ h=>zDo zTx h
abbrev FO:=Sd->Mem->Option (Option Int × Mem)
def trO (K:PySem.W.Frag) (f:FO):TO:=fun τ H Q=>∃ L σ M d M',Cor K L M H/\zCN L H σ τ/\f σ M=some (d,M') /\ ∀ L' H',Stp L H L' H'->Cor K L' M' H'->Q d H'
structure QO (X:Cx) (e:Option Expr) (f:FO):Prop where
 un:PO X e (trO X.K f)
def zCL:FO:=fun _ M=>some (none,M)
def zB3 (f:FE):FO:=fun σ M=>match f σ M with
 |some (.dat (.int i),M')=>some (some i,M')
 |_=>none
theorem PO.imp {e:Option Expr} {t t':TO} (h:PO X e t) (hi:∀ τ H Q,t' τ H Q->t τ H Q):PO X e t':=fun zB s σ H Q I q=>h zB s σ H Q I (hi _ _ _ q)
theorem zCq:QO X none zCL:=.mk <| PO.imp zTR fun τ H Q zz=>by
 obtain ⟨L,σ,M,d,M',c,rs,hf,q⟩:=zz;unfold zCL at hf;cases hf;exact q L H (.refl L H) c
theorem zCt (h:QE X e f):QO X (some e) (zB3 f):=.mk <| PO.imp (zSL h.un) fun τ H Q zz=>by
 obtain ⟨L,σ,M,d,M',c,rs,hf,q⟩:=zz;unfold zB3 at hf;split at hf
 ·rename_i i M1 e1;cases hf;refine ⟨L,σ,M,_,_,c,rs,e1,fun L1 H1 v s1 c1 r1=>?_⟩;exact ⟨i,by unfold zt Rep at r1;exact r1,q L1 H1 s1 c1⟩
 ·cases hf
def zC4 (xs:List D) (lo hi:Option Int):List D:=(xs.drop (HT.sIx xs.length 0 lo)).take (HT.sIx xs.length xs.length hi-HT.sIx xs.length 0 lo)
theorem zOS {L:List Addr} {H:Hp} {xs:List D} {vs:List V} {lo hi:Option Int} (r:zh L H xs vs):zh L H (zC4 xs lo hi) (zLp vs lo hi):=by
 unfold zC4 zLp;rw[r.length];exact (r.drop _).take _
def kSl (x:EV) (lo hi:Option Int) (M:Mem):Option (EV × Mem):=match zDg x with
 |some xs=>some (.dat (.tup (zC4 xs lo hi)),M)
 |none=>match zB8 M x with
  |some xs=>some (.fl (zC4 xs lo hi),M)
  |none=>none
def fSl (f:FE) (fl fh:FO):FE:=fun σ M=>match f σ M with
 |some (x,M1)=>match fl σ M1 with
  |some (lo,M2)=>match fh σ M2 with
   |some (hi,M3)=>kSl x lo hi M3
   |none=>none
  |none=>none
 |none=>none
theorem zCr {lo hi:Option Expr} {p2:Pos} {fl fh:FO} (h:QE X e f) (hl:QO X lo fl) (hh:QO X hi fh):QE X (.Subscript e (.Slice lo hi none p2) pos) (fSl f fl fh) :=
 .mk <| PE.imp (zRK (SlR.or zTY (SlR.or zUf zTM)) h.un hl.un hh.un) fun τ H Q zz=>by
  obtain ⟨L,σ,M,d,M',c,rs,hf,q⟩:=zz;unfold fSl at hf;split at hf
  ·rename_i x M1 e1;split at hf
   ·rename_i l M2 e2;split at hf
    ·rename_i u M3 e3;refine ⟨L,σ,M,_,_,c,rs,e1,fun L1 H1 v s1 c1 r1=>⟨L1,σ,M1,_,_,c1,rs.stp s1,e2,fun L2 H2 s2 c2=>⟨L2,σ,M2,_,_,c2,rs.stp (s1.trans s2),e3,fun L3 H3 s3 c3=>?_⟩⟩⟩;have s:=(s1.trans s2).trans s3;have r3:zt H L3 H3 x v:=(r1.stp s2).stp s3;unfold kSl at hf;cases t:zDg x with
     |some xs=>
      rw[t]at hf;dsimp only at hf;cases hf;obtain ⟨a,vs,rfl,e4,r4⟩:=zDC r3 t;by_cases hw:HT.sIx vs.length 0 l=0/\HT.sIx vs.length vs.length u=vs.length
      ·refine .inr (.inr ⟨a,vs,rfl,.of e4,hw,?_⟩);have ec:zC4 xs l u=xs:=by
        unfold zC4;rw[<-r4.length,hw.1,hw.2,r4.length];simp
       rw[ec]at q;refine q L3 H3 _ s c3 ?_;unfold zt Rep;exact ⟨a,vs,rfl,e4,r4⟩
      ·refine .inr (.inl ⟨a,vs,rfl,.of e4,hw,fun p hp=>?_⟩);exact q L3 _ _ (s.trans (.upd hp)) (c3.upd hp) (Rep.newTup hp (zOS r4))
     |none=>
      rw[t]at hf;dsimp only at hf;split at hf
      ·rename_i xs e4;cases hf;obtain ⟨a,vs,rfl,e5,r5⟩:=zBy c3 r3 e4;refine .inl ⟨a,vs,rfl,.inl e5,fun p hp=>?_⟩;exact q L3 _ _ (s.trans (.upd hp)) (c3.upd hp) (zt.newLst s c c3 hp (zOS r5))
      ·cases hf
    ·cases hf
   ·cases hf
  ·cases hf
abbrev KB:=List EV->Mem->Option (EV × Mem)
def zGN (K:PySem.W.Frag) (r:List V->Hp->VK->Prop) (k:KB):Prop:=∀ {L:List Addr} {M M':Mem} {H H0:Hp} {xs:List EV} {d:EV} {vs:List V} {Q:VK},Cor K L M H->zDe H0 L H xs vs->k xs M=some (d,M') ->
 (∀ L' H' u,Stp L H L' H'->Cor K L' M' H'->zt H L' H' d u->Q u H')->r vs H Q
def fB (k:KB) (f:FAE):FE:=fun σ M=>match f σ M with
 |some (xs,M1)=>k xs M1
 |none=>none
theorem zSB {K:PySem.W.Frag} {r:List V->Hp->VK->Prop} {k:KB} {f:FAE} (hk:zGN K r k) {τ:Sv} {H:Hp} {Q:VK} (h:trE K (fB k f) τ H Q):tCB r (zWB K f) τ H Q:=by
 obtain ⟨L,σ,M,d,M',c,rs,hf,q⟩:=h;unfold fB at hf;split at hf
 ·rename_i xs M1 e1;refine ⟨L,σ,M,_,_,c,rs,e1,fun L1 H1 vs s1 c1 r1=>?_⟩;refine hk c1 r1 hf fun L2 H2 u s2 c2 r2=>?_;exact q L2 H2 u (s1.trans s2) c2 (r2.back s1 c s2.sub)
 ·cases hf
theorem zDe.one {H0:Hp} {L:List Addr} {H:Hp} {x:EV} {vs:List V} (h:zDe H0 L H [x] vs):∃ v,vs=[v]/\zt H0 L H x v:=by
 obtain ⟨v,r,rfl,h1,h2⟩:=h;unfold zDe at h2;subst h2;exact ⟨v,rfl,h1⟩
def zAx:KB:=fun xs M=>match xs with
 |[x]=>match zBJ M x with
  |some ys=>some (.dat (.int ys.length),M)
  |none=>none
 |_=>none
theorem zSg:zGN X.K (fun xs H Q=>∃ p ys,xs=[.ref p]/\(SqL X.K H p ys\/SqT X.K H p ys)/\Q (.int ys.length) H) zAx:=by
 intro L M M' H H0 xs d vs Q c r hk q;unfold zAx at hk;split at hk
 ·rename_i x;split at hk
  ·rename_i ys e1;cases hk;obtain ⟨v,rfl,r1⟩:=r.one;obtain ⟨a,ws,rfl,hs,r2⟩:=zKv c r1 e1;refine ⟨a,ws,rfl,hs,q L H _ (.refl L H) c ?_⟩;rw[r2.length];exact (zAs (L:=L) (H:=H))
  ·cases hk
 ·cases hk
theorem zEY {x:Str} {p:Pos} {id:String} {r:List V->Hp->VK->Prop} {k:KB} {f:FAE} (hk:zGN X.K r k) (hc:zCX X (.builtin id) r) (hv:bootBuiltins x=some (.builtin id)) (hg:Gl X x) (hm:X.mg x=none) (ha:QAE X (e::es) f) (hn:x ≠ "__name__" := by decide) (hdb:(x==("__debug__" : Str))=false:=by decide)
  (he:starEach (e::es) X.env=(false,eval e X.env)::starEach es X.env:=by rfl) (hpl:(backTo pos (starEach es X.env)).any (·.1)=false:=by rfl):QE X (.Call (.Name x p) (e::es) [] pos) (fB k f) :=
 .mk <| PE.imp (zMR hc hg hm hv ha.un hn hdb he hpl) fun _ _ _ h=>zSB hk h
theorem zGQ {x:Str} {p:Pos} {T:String} {r:List V->Hp->VK->Prop} {k:KB} {f:FAE} (hk:zGN X.K r k) (hc:zCX X (.type T) r) (hv:bootBuiltins x=some (.type T)) (hg:Gl X x) (hm:X.mg x=none) (ha:QAE X (e::es) f) (hn:x ≠ "__name__" := by decide) (hdb:(x==("__debug__" : Str))=false:=by decide)
  (he:starEach (e::es) X.env=(false,eval e X.env)::starEach es X.env:=by rfl) (hpl:(backTo pos (starEach es X.env)).any (·.1)=false:=by rfl):QE X (.Call (.Name x p) (e::es) [] pos) (fB k f) :=
 .mk <| PE.imp (zEE hc hg hm hv ha.un hn hdb he hpl) fun _ _ _ h=>zSB hk h
def zB5:KB:=fun xs M=>match xs with
 |[x]=>match zBJ M x with
  |some ys=>some (.dat (.tup ys),M)
  |none=>none
 |_=>none
theorem zPD:zGN X.K (fun xs H Q=>∃ p ys,xs=[.ref p]/\((SqL X.K H p ys /\ ∀ l,H l=none->Q (.ref l) (upd H l (.tup ys)))\/(SqT X.K H p ys/\Q (.ref p) H))) zB5:=by
 intro L M M' H H0 xs d vs Q c r hk q;unfold zB5 at hk;split at hk
 ·rename_i x;split at hk
  ·rename_i ys e1;cases hk;obtain ⟨v,rfl,r1⟩:=r.one;unfold zBJ at e1;cases t:zDg x with
   |some zs=>
    rw[t]at e1;cases e1;obtain ⟨a,ws,rfl,e2,r2⟩:=zDC r1 t;refine ⟨a,ws,rfl,.inr ⟨.of e2,q L H _ (.refl L H) c ?_⟩⟩;unfold zt Rep;exact ⟨a,ws,rfl,e2,r2⟩
   |none=>
    rw[t]at e1;obtain ⟨a,ws,rfl,e2,r2⟩:=zBy c r1 e1;refine ⟨a,ws,rfl,.inl ⟨.inl e2,fun p hp=>?_⟩⟩;exact q L _ _ (.upd hp) (c.upd hp) (Rep.newTup hp r2)
  ·cases hk
 ·cases hk
end
set_option genInjectivity true in
inductive Out where
 |nx|ret (d:D)|brk|cnt
abbrev FS:=Sd->Mem->Option (Out × Sd × Mem)
def zVK (E:Ends) (L:List Addr) (H:Hp) (σ:Sd):Out->Prop
 |.nx=>∀ τ,zCN L H σ τ->E.nx τ H
 |.ret d=>∀ v,Rep L H d v->E.rt v H
 |.brk=>∀ τ,zCN L H σ τ->E.bk τ H
 |.cnt=>∀ τ,zCN L H σ τ->E.ct τ H
def trS (K:PySem.W.Frag) (f:FS):TS:=fun E τ H=>∃ L σ M o σ' M',Cor K L M H/\zCN L H σ τ/\f σ M=some (o,σ',M') /\ ∀ L' H',Stp L H L' H'->Cor K L' M' H'->zVK E L' H' σ' o
structure QS (X:Cx) (st:Stmt) (f:FS):Prop where
 un:PS X st (trS X.K f)
structure QSs (X:Cx) (st:List Stmt) (f:FS):Prop where
 un:PSs X st (trS X.K f)
theorem zCN.set (h:zCN L H σ τ) (r:Rep L H d v):zCN L H (σ.set i (some d)) (τ.set i (some v)):=by
 refine ⟨by simp[h.1],fun j e q=>?_⟩;rw[zYJ]at q ⊢;split at q
 ·rename_i z;subst z;split at q
  ·rename_i hl;cases q;rw[zWz rfl,zWz (by rw[h.1];exact hl)];exact ⟨v,rfl,r⟩
  ·cases q
 ·rename_i z;rw[zW2 z];exact h.2 j e q
theorem zLo {K:PySem.W.Frag} {f:FE} {τ:Sv} {H:Hp} {Q:VK} (h:trD K (toD f) τ H Q):trE K f τ H Q:=by
 obtain ⟨L,σ,M,d,M',c,rs,hf,q⟩:=h;unfold toD at hf;split at hf
 ·rename_i d' M1 e1;cases hf;exact ⟨L,σ,M,_,_,c,rs,e1,fun L' H' v s c' r=>q L' H' v s c' r⟩
 ·rename_i xs M1 e1;cases hf;refine ⟨L,σ,M,_,_,c,rs,e1,fun L' H' v s c' r=>?_⟩;obtain ⟨p,vs,rfl,e0,e2,e3,r⟩:=r;obtain ⟨c2,s2⟩:=zTm s c' e0 e2 e3 r;exact q _ H' _ s2 c2 (Rep.last c')
 ·cases hf
def zA1:FS:=fun σ M=>some (.nx,σ,M)
def zV (f g:FS):FS:=fun σ M=>match f σ M with
 |some (.nx,σ1,M1)=>g σ1 M1
 |r=>r
def sIf (c:FT) (f g:FS):FS:=fun σ M=>match c σ M with
 |some (true,M1)=>f σ M1
 |some (false,M1)=>g σ M1
 |none=>none
def zAC (f:FE):FS:=fun σ M=>match toD f σ M with
 |some (d,M1)=>some (.ret d,σ,M1)
 |none=>none
def zAM (i:Nat) (f:FE):FS:=fun σ M=>match toD f σ M with
 |some (d,M1)=>some (.nx,σ.set i (some d),M1)
 |none=>none
def zBm (f:FE):FS:=fun σ M=>match f σ M with
 |some (_,M1)=>some (.nx,σ,M1)
 |none=>none
section
variable {X:Cx} {st:Stmt} {rest:List Stmt} {e c:Expr} {pos:Pos}
theorem zAK:QSs X [] zA1:=.mk <| PSs.imp zSc fun E τ H zz=>by
 obtain ⟨L,σ,M,o,σ',M',c,rs,hf,q⟩:=zz;unfold zA1 at hf;cases hf;exact q L H (.refl L H) c τ rs
theorem zO (h1:QS X st f) (h2:QSs X rest g):QSs X (st::rest) (zV f g):=.mk <| PSs.imp (zR6 h1.un h2.un) fun E τ H zz=>by
 obtain ⟨L,σ,M,o,σ',M',c,rs,hf,q⟩:=zz;unfold zV at hf;split at hf
 ·rename_i σ1 M1 e1;refine ⟨L,σ,M,_,_,_,c,rs,e1,fun L1 H1 s1 c1 τ1 r1=>⟨L1,σ1,M1,_,_,_,c1,r1,hf,fun L2 H2 s2 c2=>q L2 H2 (s1.trans s2) c2⟩⟩
 ·rename_i hne;refine ⟨L,σ,M,_,_,_,c,rs,hf,fun L1 H1 s1 c1=>?_⟩;have z:=q L1 H1 s1 c1;cases o with
  |nx=>exact absurd hf (hne σ' M')
  |ret d=>exact z
  |brk=>exact z
  |cnt=>exact z
theorem zW (h1:QS X st f):QSs X [st] f:=.mk <| PSs.imp (zSf h1.un) fun _ _ _ h=>h
theorem zBv (hc:QT X c fc) (ha:QSs X a f) (hb:QSs X b g):QS X (.If c a b pos) (sIf fc f g):=.mk <| PS.imp (zVV hc.un ha.un hb.un) fun E τ H zz=>by
 obtain ⟨L,σ,M,o,σ',M',c,rs,hf,q⟩:=zz;unfold sIf at hf;split at hf
 ·rename_i M1 e1;refine ⟨L,σ,M,_,_,c,rs,e1,fun L1 H1 s1 c1=>?_⟩;exact zHA ⟨L1,σ,M1,_,_,_,c1,rs.stp s1,hf,fun L2 H2 s2 c2=>q L2 H2 (s1.trans s2) c2⟩
 ·rename_i M1 e1;refine ⟨L,σ,M,_,_,c,rs,e1,fun L1 H1 s1 c1=>?_⟩;exact zHE ⟨L1,σ,M1,_,_,_,c1,rs.stp s1,hf,fun L2 H2 s2 c2=>q L2 H2 (s1.trans s2) c2⟩
 ·cases hf
theorem zu (h:QE X e f):QS X (.Return (some e) pos) (zAC f):=.mk <| PS.imp (zVA (zI h).un) fun E τ H zz=>by
 obtain ⟨L,σ,M,o,σ',M',c,rs,hf,q⟩:=zz;unfold zAC at hf;split at hf
 ·rename_i d M1 e1;cases hf;exact ⟨L,σ,M,_,_,c,rs,e1,fun L1 H1 v s1 c1 r1=>q L1 H1 s1 c1 v r1⟩
 ·cases hf
theorem zIS {K:PySem.W.Frag} {i:Nat} {f:FE} {t:TE} (ht:∀ τ H Q,trE K f τ H Q->t τ H Q) {E:Ends} {τ:Sv} {H:Hp} (h:trS K (zAM i f) E τ H):zQE t (zCe i) E τ H:=by
 obtain ⟨L,σ,M,o,σ',M',c,rs,hf,q⟩:=h;unfold zAM at hf;split at hf
 ·rename_i d M1 e1;cases hf;exact ht _ _ _ (zLo ⟨L,σ,M,_,_,c,rs,e1,fun L1 H1 v s1 c1 r1=>q L1 H1 s1 c1 _ ((rs.stp s1).set r1)⟩)
 ·cases hf
theorem zVv {i:Nat} {x:Str} {f:FE} {pos':Pos} (hN:X.N.Nodup) (hi:X.N[i]?=some x) (hx:Loc X.env.scope x) (h:QE X e f) (hs:swapsWith e (some (.Name x pos')) pos.line X.env=pure false:=by rfl)
  (hf:X.fn x=true\/X.env.scope.names.lookup x=some .local:=by first|exact .inl rfl|exact .inr rfl|assumption):QS X (.Assign [.Name x pos'] e pos) (zAM i f) :=
 .mk <| PS.imp (zU3 hN hi hx h.un hs hf) fun _ _ _ z=>zIS (fun _ _ _ z=>z) z
theorem zFO (h:QE X e f) (hs:swapsWith e none pos.line X.env=pure false:=by rfl):QS X (.Expr e pos) (zBm f):=.mk <| PS.imp (zTa h.un hs) fun E τ H zz=>by
 obtain ⟨L,σ,M,o,σ',M',c,rs,hf,q⟩:=zz;unfold zBm at hf;split at hf
 ·rename_i d M1 e1;cases hf;exact ⟨L,σ,M,_,_,c,rs,e1,fun L1 H1 v s1 c1 r1=>q L1 H1 s1 c1 τ (rs.stp s1)⟩
 ·cases hf
abbrev FG:=D->Sd->Option Sd
def GOk (g:TG) (fg:FG):Prop:=∀ {L:List Addr} {H:Hp} {σ σ':Sd} {τ:Sv} {d:D} {v:V} {Q:Sv->Hp->Prop},zCN L H σ τ->Rep L H d v->fg d σ=some σ'->(∀ τ',zCN L H σ' τ'->Q τ' H)->g v τ H Q
def gN (i:Nat):FG:=fun d σ=>some (σ.set i (some d))
theorem zBM:GOk (zCe i) (gN i):=by
 intro L H σ σ' τ d v Q rs r hf q;unfold gN at hf;cases hf;exact q _ (rs.set r)
abbrev FI:=Sd->Mem->Option (List D × Option (Mem->Prop) × Mem)
def zBd (g:Option (Mem->Prop)) (xs:List D) (M:Mem):Prop:=match g with
 |none=>True
 |some p=>p M
def zV6 (K:PySem.W.Frag) (J:It) (L:List Addr) (H:Hp) (xs:List D) (g:Option (Mem->Prop)):Prop:=∀ L' H' M',Stp L H L' H'->Cor K L' M' H'->zBd g xs M' ->
 (∀ (i:Nat) d,xs[i]?=some d->J.go i H' /\ ∀ v H'',J.yld i H' v H''->(∀ a o,H' a=some o->H'' a=some o)/\Rep L' H'' d v)/\J.stop xs.length H'
def trI (K:PySem.W.Frag) (f:FI):TI:=fun τ H R=>∃ L σ M xs g M',Cor K L M H/\zCN L H σ τ/\f σ M=some (xs,g,M') /\ ∀ L' H' J,Stp L H L' H'->Cor K L' M' H'->zV6 K J L' H' xs g->R J H'
structure QI (X:Cx) (tg e:Expr) (f:FI):Prop where
 un:PI X tg e (trI X.K f)
theorem PI.imp (h:PI X tg e t) (hi:∀ τ H R,t' τ H R->t τ H R):PI X tg e t':=fun zB s σ H R I q=>h zB s σ H R I (hi _ _ _ q)
def zDi (g:FG) (b:FS) (all:List D) (gd:Option (Mem->Prop)):List D->Sd->Mem->Option (Out × Sd × Mem)
 |[],σ,M=>open Classical in if zBd gd all M then some (.nx,σ,M) else none
 |x::r,σ,M=>open Classical in if zBd gd all M then match g x σ with
   |some σ1=>match b σ1 M with
    |some (.nx,σ2,M2)=>zDi g b all gd r σ2 M2
    |some (.cnt,σ2,M2)=>zDi g b all gd r σ2 M2
    |some (.brk,σ2,M2)=>some (.nx,σ2,M2)
    |some (.ret d,σ2,M2)=>some (.ret d,σ2,M2)
    |none=>none
   |none=>none
  else none
def zC2 (fi:FI) (g:FG) (b:FS):FS:=fun σ M=>match fi σ M with
 |some (xs,gd,M1)=>zDi g b xs gd xs σ M1
 |none=>none
theorem zDL {α:Type} {xs:List α} (h:i<xs.length):xs.drop i=xs[i]::xs.drop (i+1):=List.drop_eq_getElem_cons h
theorem Stp.yld (s:Stp L H L' H') (h:∀ a o,H' a=some o->H'' a=some o):Stp L H L' H'':=s.trans (.grow h)
theorem zQ3 {K:PySem.W.Frag} {fi:FI} {g:TG} {fg:FG} {b:FS} (hg:GOk g fg) {E:Ends} {τ:Sv} {H:Hp} (h:trS K (zC2 fi fg b) E τ H):zVe (trI K fi) g (trS K b) E τ H:=by
 obtain ⟨L,σ,M,o,σf,Mf,c,rs,hf,q⟩:=h;unfold zC2 at hf;split at hf
 ·rename_i xs gd M1 e1;refine ⟨L,σ,M,_,_,_,c,rs,e1,fun L1 H1 J s1 c1 it=>?_⟩
  refine ⟨fun i m τ' H'=>m=xs.length-i/\i<=xs.length /\ ∃ L' σ' M',Stp L1 H1 L' H'/\Cor K L' M' H'/\zCN L' H' σ' τ'/\zDi fg b xs gd (xs.drop i) σ' M'=some (o,σf,Mf),
   ⟨xs.length,by simp,zXW _,L1,σ,M1,.refl _ _,c1,rs.stp s1,by simpa using hf⟩,?_⟩
  rintro i m τ' H' ⟨rfl,hi,L',σ',M',s',c',rs',e'⟩;by_cases hlt:i<xs.length
  ·rw[zDL hlt]at e';unfold zDi at e';split at e'
   ·rename_i hgd;obtain ⟨step,_⟩:=it L' H' M' s' c' hgd;obtain ⟨go,yl⟩:=step i xs[i] (zWo hlt);cases eg:fg xs[i] σ' with
    |none=>rw[eg]at e';cases e'
    |some σ1=>
     rw[eg]at e';dsimp only at e';refine .inr ⟨go,fun τ2 H2=>∃ L2 σ2 M2,Stp L1 H1 L2 H2/\Cor K L2 M2 H2/\zCN L2 H2 σ2 τ2/\zDi fg b xs gd (xs.drop (i+1)) σ2 M2=some (o,σf,Mf),fun τ2 H2 ⟨L2,σ2,M2,a1,a2,a3,a4⟩=>⟨xs.length-(i+1),by omega,rfl,hlt,L2,σ2,M2,a1,a2,a3,a4⟩,fun v H2 hy=>?_⟩;obtain ⟨gr,rv⟩:=yl v H2 hy;refine hg (zCN.stp (.grow gr) rs') rv eg fun τ2 r2=>?_;cases eb:b σ1 M' with
     |none=>rw[eb]at e';cases e'
     |some r=>
      obtain ⟨o2,σ2,M2⟩:=r;rw[eb]at e';refine ⟨L',σ1,M',_,_,_,c'.grow gr,r2,eb,fun L3 H3 s3 c3=>?_⟩;have s13:Stp L1 H1 L3 H3:=(s'.yld gr).trans s3;cases o2 with
      |nx=>exact fun τ3 r3=>⟨L3,σ2,M2,s13,c3,r3,e'⟩
      |cnt=>exact fun τ3 r3=>⟨L3,σ2,M2,s13,c3,r3,e'⟩
      |brk=>cases e';exact q L3 H3 (s1.trans s13) c3
      |ret d=>cases e';exact q L3 H3 (s1.trans s13) c3
   ·cases e'
  ·have hi':i=xs.length:=by omega
   subst hi';rw[List.drop_length]at e';unfold zDi at e';split at e'
   ·rename_i hgd;cases e';obtain ⟨_,stop⟩:=it L' H' _ s' c' hgd;exact .inl ⟨stop,q L' H' (s1.trans s') c' τ' rs'⟩
   ·cases e'
 ·cases hf
theorem zDn (hg:GOk g fg) (hp:PassesOwn (model X.prog X.w) X.A X.env X.xe) (hc:X.calm=true) (hi:QI X tg iter fi) (ht:PG X tg g) (hb:QSs X body b)
  (hs:∀ x,foldedSetIterable iter X.env x=pure x:=by intro _;rfl):QS X (.For tg iter body [] pos) (zC2 fi fg b):=.mk <| PS.imp (zUi hp hc hi.un ht hb.un hs) fun _ _ _ h=>zQ3 hg h
end
section
variable {X:Cx} {e c iter tg elt:Expr} {pos:Pos} {scope:Scope} {ifs:List Expr}
def zCY (c:FT) (b:FS):Nat->Sd->Mem->Option (Out × Sd × Mem)
 |0,_,_=>none
 |n+1,σ,M=>match c σ M with
  |some (true,M1)=>match b σ M1 with
   |some (.nx,σ2,M2)=>zCY c b n σ2 M2
   |some (.cnt,σ2,M2)=>zCY c b n σ2 M2
   |some (.brk,σ2,M2)=>some (.nx,σ2,M2)
   |some (.ret d,σ2,M2)=>some (.ret d,σ2,M2)
   |none=>none
  |some (false,M1)=>some (.nx,σ,M1)
  |none=>none
theorem zMs {K:PySem.W.Frag} {fc:FT} {b:FS} {n:Nat} {E:Ends} {τ:Sv} {H:Hp} (h:trS K (zCY fc b n) E τ H):zQ4 (trT K fc) (trS K b) E τ H:=by
 obtain ⟨L,σ,M,o,σf,Mf,c,rs,hf,q⟩:=h;refine ⟨fun m τ' H'=>∃ L' σ' M',Stp L H L' H'/\Cor K L' M' H'/\zCN L' H' σ' τ'/\zCY fc b m σ' M'=some (o,σf,Mf),⟨n,L,σ,M,.refl _ _,c,rs,hf⟩,?_⟩;rintro m τ' H' ⟨L',σ',M',s',c',rs',e'⟩;cases m with
 |zero=>unfold zCY at e';cases e'
 |succ m=>
  unfold zCY at e';split at e'
  ·rename_i M1 e1;refine ⟨L',σ',M',_,_,c',rs',e1,fun L1 H1 s1 c1=>zHA ?_⟩;refine ⟨fun τ2 H2=>∃ L2 σ2 M2,Stp L H L2 H2/\Cor K L2 M2 H2/\zCN L2 H2 σ2 τ2/\zCY fc b m σ2 M2=some (o,σf,Mf),fun τ2 H2 h2=>⟨m,zXh m,h2⟩,?_⟩;cases eb:b σ' M1 with
   |none=>rw[eb]at e';cases e'
   |some r=>
    obtain ⟨o2,σ2,M2⟩:=r;rw[eb]at e';refine ⟨L1,σ',M1,_,_,_,c1,rs'.stp s1,eb,fun L3 H3 s3 c3=>?_⟩;have s13:Stp L H L3 H3:=(s'.trans s1).trans s3;cases o2 with
    |nx=>exact fun τ3 r3=>⟨L3,σ2,M2,s13,c3,r3,e'⟩
    |cnt=>exact fun τ3 r3=>⟨L3,σ2,M2,s13,c3,r3,e'⟩
    |brk=>cases e';exact q L3 H3 s13 c3
    |ret d=>cases e';exact q L3 H3 s13 c3
  ·rename_i M1 e1;cases e';exact ⟨L',_,M',_,_,c',rs',e1,fun L1 H1 s1 c1=>zHE (q L1 H1 (s'.trans s1) c1 τ' (rs'.stp s1))⟩
  ·cases e'
theorem zN4 (n:Nat) (hp:PassesOwn (model X.prog X.w) X.A X.env X.xe) (hc:QT X c fc) (hb:QSs X body b):QS X (.While c body [] pos) (zCY fc b n) :=
 .mk <| PS.imp (zQC hp hc.un hb.un) fun _ _ _ h=>zMs h
def zBo (own:List Nat) (σ:Sd):Sd:=own.foldl (fun σ i=>σ.set i none) σ
theorem zFg:∀ (own:List Nat) {σ:Sd} {τ:Sv},zCN L H σ τ->zCN L H (zBo own σ) (clr own τ)
 |[],_,_,h=>h
 |i::r,σ,τ,h=>by
  refine zFg r (σ:=σ.set i none) (τ:=τ.set i none) ⟨by simp[h.1],fun j d q=>?_⟩;rw[zYJ]at q ⊢;split at q
  ·split at q <;> cases q
  ·rename_i z;rw[zW2 z];exact h.2 j d q
def zBf (g:FG) (tc:FT) (te:FE) (σ:Sd) (all:List D) (gd:Option (Mem->Prop)):List D->Mem->Option (List D × Mem)
 |[],M=>open Classical in if zBd gd all M then some ([],M) else none
 |x::r,M=>open Classical in if zBd gd all M then match g x σ with
   |some σ1=>match tc σ1 M with
    |some (true,M1)=>match toD te σ1 M1 with
     |some (d,M2)=>match zBf g tc te σ all gd r M2 with
      |some (ds,M3)=>some (d::ds,M3)
      |none=>none
     |none=>none
    |some (false,M1)=>zBf g tc te σ all gd r M1
    |none=>none
   |none=>none
  else none
def zAf (own:List Nat) (fi:FI) (g:FG) (tc:FT) (te:FE):FE:=fun σ M=>match fi σ M with
 |some (xs,gd,M1)=>if xs.length<=sizeLine then match zBf g tc te (zBo own σ) xs gd xs M1 with
   |some (ys,M2)=>some (.fl ys,M2)
   |none=>none
  else none
 |none=>none
def zFm (own:List Nat) (g:TG) (fg:FG):Prop:=∀ {L:List Addr} {H:Hp} {σ σ':Sd} {τ τ0:Sv} {d:D} {v:V} {Q:Sv->Hp->Prop},zCN L H σ τ->Ext (clr own τ0) τ->Rep L H d v->fg d σ=some σ'->(∀ τ',zCN L H σ' τ'->Ext (clr own τ0) τ'->Q τ' H)->g v τ H Q
theorem zw (hi:i∈own):zFm own (zCe i) (gN i):=by
 intro L H σ σ' τ τ0 d v Q rs ex r hf q;unfold gN at hf;cases hf;exact q _ (rs.set r) (ex.set hi)
theorem zJw {K:PySem.W.Frag} {own:List Nat} {fi:FI} {g:TG} {fg:FG} {tc:FT} {te:FE} (hg:zFm own g fg) {τ:Sv} {H:Hp} {Q:VK} (h:trE K (zAf own fi fg tc te) τ H Q):zQt own (trI K fi) g (trT K tc) (trD K (toD te)) τ H Q:=by
 obtain ⟨L,σ,M,d,Mf,c,rs,hf,q⟩:=h;unfold zAf at hf;split at hf
 ·rename_i xs gd M1 e1;split at hf
  ·rename_i hz;split at hf
   ·rename_i zs M2 e2;cases hf;refine ⟨L,σ,M,_,_,_,c,rs,e1,fun L1 H1 J s1 c1 it=>?_⟩
    refine ⟨fun i m ys H'=>m=xs.length-i/\i<=xs.length /\ ∃ L' M' as bs,Stp L1 H1 L' H'/\Cor K L' M' H'/\zh L' H' as ys/\as.length<=i/\zBf fg tc te (zBo own σ) xs gd (xs.drop i) M'=some (bs,Mf)/\as++bs=zs,
     ⟨xs.length,by simp,zXW _,L1,M1,[],zs,.refl _ _,c1,.nil,zWq _,by simpa using e2,rfl⟩,?_⟩
    rintro i m ys H' ⟨rfl,hi,L',M',as,bs,s',c',r',hl,e',hab⟩;have hys:ys.length<=i:=by rw[r'.length];exact hl
    by_cases hlt:i<xs.length
    ·rw[zDL hlt]at e';unfold zBf at e';split at e'
     ·rename_i hgd;obtain ⟨step,_⟩:=it L' H' M' s' c' hgd;obtain ⟨go,yl⟩:=step i xs[i] (zWo hlt);split at e'
      ·rename_i σ1 eg;refine .inr ⟨go,fun v H2 hy=>?_⟩;obtain ⟨gr,rv⟩:=yl v H2 hy;have s2:Stp L1 H1 L' H2:=s'.yld gr;refine hg (zFg own ((rs.stp s1).stp s2)) (.refl _) rv eg fun τ2 r2 x2=>⟨x2,?_⟩;split at e'
       ·rename_i M3 e3;split at e'
        ·rename_i d M4 e4;split at e'
         ·rename_i ds M5 e5;cases e';refine ⟨L',σ1,M',_,_,c'.grow gr,r2,e3,fun L3 H3 s3 c3=>zHA ?_⟩;refine ⟨L3,σ1,M3,_,_,c3,r2.stp s3,e4,fun L4 H4 w s4 c4 r4=>?_⟩;have st:Stp L' H' L4 H4:=((Stp.grow gr).trans s3).trans s4;refine ⟨Nat.lt_of_le_of_lt hys (zW9 hlt hz),xs.length-(i+1),by omega,rfl,hlt,L4,M4,as++[d],ds,s'.trans st,c4,(r'.stp st).app (.cons r4 .nil),by simp;omega,e5,by rw[<-hab];simp⟩
         ·cases e'
        ·cases e'
       ·rename_i M3 e3;refine ⟨L',σ1,M',_,_,c'.grow gr,r2,e3,fun L3 H3 s3 c3=>zHE ?_⟩;have st:Stp L' H' L3 H3:=(Stp.grow gr).trans s3;exact ⟨xs.length-(i+1),by omega,rfl,hlt,L3,M3,as,bs,s'.trans st,c3,r'.stp st,by omega,e',hab⟩
       ·cases e'
      ·cases e'
     ·cases e'
    ·have hi':i=xs.length:=by omega
     subst hi';rw[List.drop_length]at e';unfold zBf at e';split at e'
     ·rename_i hgd;cases e';obtain ⟨_,stop⟩:=it L' H' _ s' c' hgd;refine .inl ⟨stop,zXB hys hz,fun p hp=>?_⟩;rw[zXU]at hab;subst hab;exact q L' _ _ ((s1.trans s').trans (.upd hp)) (c'.upd hp) (zt.newLst (s1.trans s') c c' hp r')
     ·cases e'
   ·cases hf
  ·cases hf
 ·cases hf
structure QIfs (X:Cx) (ifs:List Expr) (f:FT):Prop where
 un:zHj X ifs (trT X.K f)
def zAH:FT:=fun _ M=>some (true,M)
theorem zAz:QIfs X [] zAH:=.mk fun zB s σ H Q I h=>by
 obtain ⟨L,σ',M,d,M',c,rs,hf,q⟩:=h;unfold zAH at hf;cases hf;exact zRw zB s σ H Q I (q L H (.refl L H) c)
theorem zLB (h:QT X c f):QIfs X [c] f:=.mk (zRQ h.un)
structure QParts (X:Cx) (scope:Scope) (tg:Expr) (ifs:List Expr) (elt:Expr) (g:TG) (tc:FT) (te:FE):Prop where
 g:∀ zB cl s H fp,PG (zX X zB scope cl s H fp) tg g
 c:∀ zB cl s H fp,QIfs (zX X zB scope cl s H fp) ifs tc
 e:∀ zB cl s H fp,QE (zX X zB scope cl s H fp) elt te
theorem QParts.parts {g:TG} {tc:FT} {te:FE} (p:QParts X scope tg ifs elt g tc te):CompParts X scope tg ifs elt g (trT X.K tc) (trD X.K (toD te)) :=
 ⟨p.g,fun zB cl s H fp=>(p.c zB cl s H fp).un,fun zB cl s H fp=>(zI (p.e zB cl s H fp)).un⟩
theorem zBZ (hg:zFm own g fg) (C:CompIn X scope own) (hcalm:X.calm=true) (hi:QI X tg iter fi) (p:QParts X scope tg ifs elt g tc te) (hs:∀ x,foldedSetIterable iter X.env x=pure x:=by intro _;rfl) :
  QE X (.ListComp elt [⟨tg,iter,ifs,0⟩] scope pos) (zAf own fi fg tc te):=.mk <| PE.imp (zSh C hcalm hi.un p.parts hs) fun _ _ _ h=>zJw hg h
theorem zHB (hN:X.N.Nodup) (hi':X.N[i]?=some x) (hx:Loc X.env.scope x) (hfn:X.fn x=true\/X.env.scope.names.lookup x=some .local)
  (hsw:swapsWith (.ListComp elt [⟨tg,iter,ifs,0⟩] scope pos) (some (.Name x pos')) pos''.line X.env=pure true)
  (hg:zFm own g fg) (C:CompIn X scope own) (hcalm:X.calm=true) (hi:QI X tg iter fi) (p:QParts X scope tg ifs elt g tc te) (hs:∀ x,foldedSetIterable iter X.env x=pure x:=by intro _;rfl) :
  QS X (.Assign [.Name x pos'] (.ListComp elt [⟨tg,iter,ifs,0⟩] scope pos) pos'') (zAM i (zAf own fi fg tc te)) :=
 .mk <| PS.imp (zNa hN hi' hx hfn C hcalm hi.un p.parts hsw hs) fun _ _ _ z=>zIS (fun _ _ _ z=>zJw hg z) z
end
abbrev FF:=List D->Mem->Option (D × Mem)
def spF (K:PySem.W.Frag) (n:Nat) (g:FF):Sp:=fun vs H Q _=>∃ L ds M d M',Cor K L M H/\zh L H ds vs/\ds.length=n/\g ds M=some (d,M') /\ ∀ L' H' v,Stp L H L' H'->Cor K L' M' H'->Rep L' H' d v->Q v H'
def zY (g:FF) (fa:FA):FE:=fun σ M=>match fa σ M with
 |some (ds,M1)=>match g ds M1 with
  |some (d,M2)=>some (.dat d,M2)
  |none=>none
 |none=>none
section
variable {X:Cx} {e:Expr} {es:List Expr} {pos p:Pos} {x:Str} {k:Nat} {f:Addr} {fd:FuncData} {ps:List Str}
theorem zU1 (F:FnOk X.prog X.w X.K X.mg X.base CX0 k f fd ps (spF X.K (e::es).length g)) (hr:Room k X.A) (hg:Gl X x) (hm:X.mg x=some (.ref f)) (hk:PySem.W.keepIn X.K (.ref f)=true) (hb:zIm X.K fd ps [])
  (ha:QA X (e::es) fa) (hl:∀ σ M ds M1,fa σ M=some (ds,M1)->ds.length=(e::es).length) (hdb:(x==("__debug__" : Str))=false:=by decide) (he:starEach (e::es) X.env=(false,eval e X.env)::starEach es X.env:=by rfl) (hpl:(backTo pos (starEach es X.env)).any (·.1)=false:=by rfl) :
  QE X (.Call (.Name x p) (e::es) [] pos) (zY g fa) :=
 .mk <| PE.imp (zTN F hr hg hm hk hb .nil zVT ha.un hdb he hpl) fun τ H Q zz=>by
  obtain ⟨L,σ,M,d,M',c,rs,hf,q⟩:=zz;unfold zY at hf;split at hf
  ·rename_i ds M1 e1;split at hf
   ·rename_i d' M2 e2;cases hf;refine ⟨L,σ,M,_,_,c,rs,e1,fun L1 H1 vs s1 c1 r1=>?_⟩;dsimp only;rw[zXU];exact ⟨L1,ds,M1,d',_,c1,r1,hl _ _ _ _ e1,e2,fun L2 H2 v s2 c2 r2=>q L2 H2 v (s1.trans s2) c2 r2⟩
   ·cases hf
  ·cases hf
def zSQ (fa:FA) (n:Nat):Prop:=∀ σ M ds M1,fa σ M=some (ds,M1)->ds.length=n
theorem zM:zSQ zL 0:=fun σ M ds M1 h=>by unfold zL at h;cases h;rfl
theorem zH {f:FD} {g:FA} {n:Nat} (h:zSQ g n):zSQ (zF f g) (n+1):=fun σ M ds M1 q=>by
 unfold zF at q;split at q
 ·split at q
  ·rename_i e2;cases q;simp[h _ _ _ _ e2]
  ·cases q
 ·cases q
def zBc (n:Nat) (b:FS):FF:=fun ds M=>match b (ds.map some++List.replicate (n-ds.length) none) M with
 |some (.ret d,_,M')=>some (d,M')
 |some (.nx,_,M')=>some (.non,M')
 |_=>none
theorem zJV:∀ {ds:List D} {vs:List V},zh L H ds vs->zCN L H (ds.map some++List.replicate (N.length-ds.length) none) (L2.zFo N vs):=fun {ds vs} r=>by
 unfold L2.zFo;have hl:=r.length;refine ⟨by simp[hl],fun i d q=>?_⟩;by_cases hi:i<ds.length
 ·rw[zWr (by simpa using hi),zW7]at q;rw[zWr (by simpa [hl] using hi),zW7];cases e1:ds[i]? with
  |none=>rw[e1]at q;cases q
  |some d'=>
   rw[e1]at q;cases q;obtain ⟨v,e2,r2⟩:=r.get e1;exact ⟨v,by rw[e2];rfl,r2⟩
 ·rw[zXu (by simpa using hi),List.getElem?_replicate]at q;split at q <;> cases q
theorem zAL {P:Program} {w:World} {K:PySem.W.Frag} {mg:Str->Option Value} {base:Heap} {qual:Str} {st:Stmt} {N:List Str} {b:FS} {n:Nat} (F:Fun K x qual st f fd) (S:FnScope N ps (zQ st)) (hn:ps.length=n)
  (hb:∀ (cdv:Value) (A:Around) (outer:List Env) (s:Shared) (H:Hp) (E:XK),Room k (A.deeper (envOfC qual (zQ st) s.heap.objs.size f cdv))->QSs (zNA CX0 P w K mg base N qual (zQ st) f cdv A outer s H E).nox (zDr st) b) :
  FnOk P w K mg base CX0 (k+1) f fd ps (spF K n (zBc N.length b)):=by
 refine F.ok S (fun vs H Q E h=>?_) (fun cdv A outer s H vs Q E hr h=>⟨_,(hb cdv A outer s H E hr).un,?_⟩)
 ·obtain ⟨L,ds,M,d,M',c,r,hl,_⟩:=h;rw[r.length,hl,hn]
 ·obtain ⟨L,ds,M,d,M',c,r,hl,hf,q⟩:=h;unfold zBc at hf;split at hf
  ·rename_i d' σ' M1 e1;cases hf;exact ⟨L,_,M,_,_,_,c,zJV r,e1,fun L1 H1 s1 c1 v r1=>q L1 H1 v s1 c1 r1⟩
  ·rename_i σ' M1 e1;cases hf;exact ⟨L,_,M,_,_,_,c,zJV r,e1,fun L1 H1 s1 c1 τ' r1=>q L1 H1 .non s1 c1 (by unfold Rep;rfl)⟩
  ·cases hf
mutual
def D.und (n:Nat):D->Bool
 |.tup ds=>D.unds n ds
 |.ref k=>decide (k<n)
 |_=>true
def D.unds (n:Nat):List D->Bool
 |[]=>true
 |d::ds=>D.und n d&&D.unds n ds
end
mutual
theorem Rep.less:∀ {d:D} {v:V},D.und L.length d=true->Rep (L++N) H d v->Rep L H d v
 |.non,_,_,h=>by unfold Rep at h ⊢;exact h
 |.bl _,_,_,h=>by unfold Rep at h ⊢;exact h
 |.int _,_,_,h=>by unfold Rep at h ⊢;exact h
 |.str _,_,_,h=>by unfold Rep at h ⊢;exact h
 |.tup ds,_,hb,h=>by
  unfold D.und at hb;unfold Rep at h ⊢;obtain ⟨a,vs,rfl,e,r⟩:=h;exact ⟨a,vs,rfl,e,zh.less hb r⟩
 |.ref n,_,hb,h=>by
  unfold D.und at hb;unfold Rep at h ⊢;obtain ⟨a,rfl,e⟩:=h;exact ⟨a,rfl,by rwa [zWr (zXg hb)]at e⟩
theorem zh.less:∀ {ds:List D} {vs:List V},D.unds L.length ds=true->zh (L++N) H ds vs->zh L H ds vs
 |[],_,_,h=>by unfold zh at h ⊢;exact h
 |d::ds,_,hb,h=>by
  unfold D.unds at hb;rw[zXK]at hb;unfold zh at h ⊢;obtain ⟨v,r,rfl,h1,h2⟩:=h;exact ⟨v,r,rfl,Rep.less hb.1 h1,zh.less hb.2 h2⟩
end
theorem zBx.less {κ:Type} {kf:D->Option κ} {L N:List Addr} {H:Hp}:∀ {ps:List (D × D)} {vs:List (κ × V)},(ps.all fun p=>D.und L.length p.1&&D.und L.length p.2)=true->zBx kf (L++N) H ps vs->zBx kf L H ps vs
 |[],_,_,h=>h
 |p::r,_,hb,h=>by
  rw[List.all_cons,zXK,zXK]at hb;obtain ⟨k,v,r',rfl,e,h1,h2⟩:=h;exact ⟨k,v,r',rfl,e,Rep.less hb.1.2 h1,zBx.less hb.2 h2⟩
def MO.und (n:Nat):MO->Bool
 |.lst xs=>D.unds n xs
 |.fro xs=>D.unds n xs
 |.dict kvs=>kvs.all fun p=>D.und n p.1&&D.und n p.2
 |.dicT kvs=>kvs.all fun p=>D.und n p.1&&D.und n p.2
 |.set xs=>D.unds n xs
def zHe (g:FF):FF:=fun ds M=>match g ds M with
 |some (d,M')=>if D.und M.length d&&(M'.take M.length).all (MO.und M.length)&&decide (M.length<=M'.length) then some (d,M'.take M.length) else none
 |none=>none
theorem zKW {P:Program} {w:World} {K:PySem.W.Frag} {mg:Str->Option Value} {base:Heap} {n:Nat} {g:FF} (h:FnOk P w K mg base CX0 k f fd ps (spF K n g)):FnOk P w K mg base CX0 k f fd ps (spF K n (zHe g)) :=
 h.imp fun vs H Q E ⟨L,ds,M,d,M',c,r,hl,hf,q⟩=>by
  unfold zHe at hf;split at hf
  ·rename_i d' M1 e1;split at hf
   ·rename_i hb;cases hf;simp only[zXK,zXx,zXL]at hb;obtain ⟨⟨hb1,hb2⟩,hb3⟩:=hb;refine ⟨L,ds,M,_,_,c,r,hl,e1,fun L1 H1 v s1 c1 r1=>?_⟩;obtain ⟨N,rfl⟩:=s1.pre;rw[<-c.len]at hb1 hb2 hb3;refine q L H1 v ⟨⟨[],by simp⟩,fun a ha=> .inl ha,s1.old,s1.tup,s1.frz⟩ ⟨?_,?_,fun i a m e2 e3=>?_⟩ (Rep.less hb1 r1)
    ·rw[zX8,<-c.len];omega
    ·exact (zXy.mp c1.nd).1
    ·rw[<-c.len]at e3;have hi:i<L.length:=(zWn.mp e2).1;have hm:m∈M1.take L.length:=List.mem_of_getElem? e3;rw[List.getElem?_take_of_lt hi]at e3;have z:=c1.obj i a m (zCw e2) e3;have bl:=hb2 m hm;cases m with
     |lst xs=>obtain ⟨ws,e4,r4⟩:=z;exact ⟨ws,e4,zh.less bl r4⟩
     |fro xs=>obtain ⟨o,ws,e4,r4⟩:=z;exact ⟨o,ws,e4,zh.less bl r4⟩
     |dict ps=>obtain ⟨vs,e,r⟩:=z;exact ⟨vs,e,zBx.less bl r⟩
     |dicT ps=>obtain ⟨vs,e,r⟩:=z;exact ⟨vs,e,zBx.less bl r⟩
     |set _=>exact z
   ·cases hf
  ·cases hf
def zHz (g:FF):FF:=fun ds M=>if D.unds 0 ds then match g ds [] with
  |some (d,_)=>if D.und 0 d then some (d,M) else none
  |none=>none
 else none
theorem zKj {P:Program} {w:World} {K:PySem.W.Frag} {mg:Str->Option Value} {base:Heap} {n:Nat} {g:FF} (h:FnOk P w K mg base CX0 k f fd ps (spF K n g)):FnOk P w K mg base CX0 k f fd ps (spF K n (zHz g)) :=
 h.imp fun vs H Q E ⟨L,ds,M,d,M',c,r,hl,hf,q⟩=>by
  unfold zHz at hf;split at hf
  ·rename_i hb0;split at hf
   ·rename_i d' M1 e1;split at hf
    ·rename_i hb;cases hf;refine ⟨[],ds,[],_,_,⟨rfl,.nil,fun i a m e=>by simp at e⟩,zh.less (L:=[]) (N:=L) hb0 (by simpa using r),hl,e1,fun L1 H1 v s1 c1 r1=>?_⟩;have gr:∀ a o,H a=some o->H1 a=some o:=fun a o e=>s1.old a o e (by simp);exact q L H1 v (.grow gr) (c.grow gr) ((Rep.less (L:=[]) (N:=L1) hb (by simpa using r1)).more L |> fun z=>by simpa using z)
    ·cases hf
   ·cases hf
  ·cases hf
theorem zUq (hl:PE X l tl):PI X tg l (fun σ H R=>tl σ H fun x H1=>∃ a,x=.ref a/\((∃ xs,SqL X.K H1 a xs)/\R (Itl X.K a) H1\/(∃ xs,SqT X.K H1 a xs)/\R (Itt X.K a) H1)):=by
 intro zB s σ H R I h;refine thn (hl zB s σ H _ I h) fun v s1 ⟨y,H1,I1,r1,a,hy,h1⟩=>?_;subst hy;cases r1;have fpk:∀ b∈[s1.heap.objs.size],zDB X zB H1 b:=fun b hb=>by
  have e:b=s1.heap.objs.size:=by simpa using hb
  subst e;exact I1.fpOk (zWq _) (I1.hok.fresh (zWq _))
 rcases h1 with ⟨⟨xs,hq⟩,q⟩|⟨⟨xs,hq⟩,q⟩
 ·obtain ⟨its,rv,pl,hz⟩:=I1.list hq;exact wpAny_pyIter_list pl.isList ⟨s1.heap.objs.size,[s1.heap.objs.size],_,_,H1,rfl,I1.kept (t':=s1.toks) fun b o e=>zWl _ e,zPY a _,⟨_,zWu _ rfl,rfl,rfl⟩,fpk,q⟩
 ·obtain ⟨its,rv,pl,hz⟩:=I1.tuple hq;exact wpAny_pyIter_tuple (show s1.heap.IsTuple a its.toArray from pl) ⟨s1.heap.objs.size,[s1.heap.objs.size],_,_,H1,rfl,I1.kept (t':=s1.toks) fun b o e=>zWl _ e,zM0 a _,⟨_,zWu _ rfl,rfl,rfl⟩,fpk,q⟩
def zF8 (x:EV) (xs:List D):Option (Mem->Prop):=match x with
 |.dat (.ref n)=>some fun M=>M[n]?=some (.lst xs)\/M[n]?=some (.fro xs)
 |_=>none
def zBA (f:FE):FI:=fun σ M=>match f σ M with
 |some (x,M1)=>match zBJ M1 x with
  |some xs=>some (xs,zF8 x xs,M1)
  |none=>none
 |none=>none
def zAc (f:FA):FI:=fun σ M=>match f σ M with
 |some ([.int j],M1)=>if -(2 ^ 62)<=j/\j<2 ^ 62 then some ((List.range j.toNat).map fun (k:Nat)=>D.int k,none,M1) else none
 |some ([.int i,.int j],M1)=>if -(2 ^ 62)<=i/\i<2 ^ 62 /\ -(2 ^ 62)<=j/\j<2 ^ 62 then some ((List.range (j-i).toNat).map fun (k:Nat)=>D.int (i+k),none,M1) else none
 |_=>none
theorem zBD (h:QE X e g):QI X tg e (zBA g):=.mk <| PI.imp (zUq h.un) fun τ H R zz=>by
 obtain ⟨L,σ,M,xs,gd,M',c,rs,hf,q⟩:=zz;unfold zBA at hf;split at hf
 ·rename_i y M1 e1;split at hf
  ·rename_i zs e2;cases hf;refine ⟨L,σ,M,_,_,c,rs,e1,fun L1 H1 v s1 c1 r1=>?_⟩;unfold zBJ at e2;cases t:zDg y with
   |some ws=>
    rw[t]at e2;cases e2;obtain ⟨a,vs,rfl,e3,r3⟩:=zDC r1 t;refine ⟨a,rfl,.inr ⟨⟨vs,.of e3⟩,q L1 H1 _ s1 c1 fun L2 H2 M2 s2 c2 _=>?_⟩⟩;have e4:=s2.tup a vs e3;have r4:=r3.stp s2;refine ⟨fun i d hd=>?_,⟨vs,.of e4,by rw[r4.length];exact zWq _⟩⟩;obtain ⟨u,hu,ru⟩:=r4.get hd;refine ⟨⟨vs,u,.of e4,hu⟩,fun v H3 ⟨hH,hv⟩=>?_⟩;subst hH;have:=hv vs (.of e4);rw[hu]at this;cases this;exact ⟨fun _ _ z=>z,ru⟩
   |none=>
    rw[t]at e2;dsimp only at e2;obtain ⟨a,vs,rfl,e3,r3⟩:=zBy c1 r1 e2;refine ⟨a,rfl,.inl ⟨⟨vs,.inl e3⟩,q L1 H1 _ s1 c1 fun L2 H2 M2 s2 c2 hgd=>?_⟩⟩;have key:∃ vs',SqL X.K H2 a vs'/\zh L2 H2 xs vs':=by
     cases y with
     |fl ys=>
      cases e2;obtain ⟨p',vs',hp',_,e5,e6,r6⟩:=r1;cases hp';exact ⟨vs',.of (s2.old _ _ e5 e6),r6.stp s2⟩
     |dat d=>
      cases d with
      |ref n=>
       unfold zt Rep at r1;obtain ⟨a',ha',e5⟩:=r1;cases ha';have e6:L2[n]?=some a:=by obtain ⟨N,hN⟩:=s2.pre;rw[hN];exact zCw e5
       rcases hgd with z|z
       ·obtain ⟨vs',e7,r7⟩:=c2.obj n a _ e6 z;exact ⟨vs',.of e7,r7⟩
       ·obtain ⟨o,vs',e7,r7⟩:=c2.obj n a _ e6 z;exact ⟨vs',.inl (.inr ⟨o,e7⟩),r7⟩
      |_=>cases e2
    obtain ⟨vs',hq,r7⟩:=key;refine ⟨fun i d hd=>?_,⟨vs',hq,by rw[r7.length];exact zWq _⟩⟩;obtain ⟨u,hu,ru⟩:=r7.get hd;refine ⟨⟨vs',u,hq,hu⟩,fun v H3 ⟨hH,hv⟩=>?_⟩;subst hH;have:=hv vs' hq;rw[hu]at this;cases this;exact ⟨fun _ _ z=>z,ru⟩
  ·cases hf
 ·cases hf
theorem zJT (h:zh L H [.int j] vs):vs=[.int j]:=by
 unfold zh at h;obtain ⟨v,r,rfl,h1,h2⟩:=h;unfold zh at h2;unfold Rep at h1;subst h1 h2;rfl
theorem zP3 {K:PySem.W.Frag} {L:List Addr} {H:Hp} {lo:Int} {n:Nat}:zV6 K (Itr lo n) L H ((List.range n).map fun (k:Nat)=>D.int (lo+k)) none:=by
 intro L' H' M' s c _;refine ⟨fun i d hd=>?_,by simp[Itr]⟩;rw[zW7]at hd;cases q:(List.range n)[i]? with
 |none=>rw[q]at hd;cases hd
 |some k=>
  rw[q]at hd;cases hd;have hi:i<n:=by have:=(zWn.mp q).1;simpa using this
  rw[List.getElem?_range hi]at q;cases q;refine ⟨hi,fun v H'' ⟨hH,hv⟩=>?_⟩;subst hH hv;exact ⟨fun _ _ z=>z,zAs⟩
theorem zAW {tg a:Expr} {g:FA} (hg:Gl X "range") (hm:X.mg "range" = none) (ha:QA X [a] g) (hl:zSQ g 1) (hs:starEach [a] X.env=[(false,eval a X.env)]:=by rfl):QI X tg (.Call (.Name "range" p) [a] [] pos) (zAc g) :=
 .mk <| PI.imp (zPS hg hm ha.un hs) fun τ H R zz=>by
  obtain ⟨L,σ,M,xs,gd,M',c,rs,hf,q⟩:=zz;unfold zAc at hf;split at hf
  ·rename_i j M1 e1;split at hf
   ·rename_i hb;cases hf;refine ⟨L,σ,M,_,_,c,rs,e1,fun L1 H1 vs s1 c1 r1=>⟨j,zJT r1,hb.1,hb.2,q L1 H1 _ s1 c1 ?_⟩⟩;have z:=zP3 (K:=X.K) (L:=L1) (H:=H1) (lo:=0) (n:=j.toNat);simpa using z
   ·cases hf
  ·rename_i e1;have:=hl _ _ _ _ e1;simp at this
  ·cases hf
end
section
variable {X:Cx} {a b c e:Expr} {es rest:List Expr} {pos p apos cpos:Pos}
def zBh (f g:FT):FT:=fun σ M=>match f σ M with
 |some (true,M1)=>g σ M1
 |r=>r
def zDV (f g:FT):FT:=fun σ M=>match f σ M with
 |some (false,M1)=>g σ M1
 |r=>r
def zBk (f:FT):FT:=fun σ M=>match f σ M with
 |some (k,M1)=>some (!k,M1)
 |none=>none
structure QW (X:Cx) (e:Expr) (f:FT):Prop where
 un:PW X e (trT X.K f)
theorem PW.imp (h:PW X e t) (hi:∀ τ H Q,t' τ H Q->t τ H Q):PW X e t':=fun wh zB s σ H Q I q=>h wh zB s σ H Q I (hi _ _ _ q)
theorem zDk (h:QT X a f):QW X (.BoolOp .And [a] pos) f:=.mk (zSP h.un)
theorem zFI (h:QT X a f):QW X (.BoolOp .Or [a] pos) f:=.mk (zUx h.un)
theorem zEN (h1:QT X a f) (h2:QW X (.BoolOp .And (b::rest) pos) g):QW X (.BoolOp .And (a::b::rest) pos) (zBh f g):=.mk <| PW.imp (zUh h1.un h2.un) fun τ H Q zz=>by
 obtain ⟨L,σ,M,d,M',c,rs,hf,q⟩:=zz;unfold zBh at hf;split at hf
 ·rename_i M1 e1;exact ⟨L,σ,M,_,_,c,rs,e1,fun L1 H1 s1 c1=>zHA ⟨L1,σ,M1,_,_,c1,rs.stp s1,hf,fun L2 H2 s2 c2=>q L2 H2 (s1.trans s2) c2⟩⟩
 ·rename_i hne;cases d with
  |true=>exact absurd hf (hne M')
  |false=>exact ⟨L,σ,M,_,_,c,rs,hf,fun L1 H1 s1 c1=>zHE (q L1 H1 s1 c1)⟩
theorem zFA (h1:QT X a f) (h2:QW X (.BoolOp .Or (b::rest) pos) g):QW X (.BoolOp .Or (a::b::rest) pos) (zDV f g):=.mk <| PW.imp (zWD h1.un h2.un) fun τ H Q zz=>by
 obtain ⟨L,σ,M,d,M',c,rs,hf,q⟩:=zz;unfold zDV at hf;split at hf
 ·rename_i M1 e1;exact ⟨L,σ,M,_,_,c,rs,e1,fun L1 H1 s1 c1=>zHE ⟨L1,σ,M1,_,_,c1,rs.stp s1,hf,fun L2 H2 s2 c2=>q L2 H2 (s1.trans s2) c2⟩⟩
 ·rename_i hne;cases d with
  |false=>exact absurd hf (hne M')
  |true=>exact ⟨L,σ,M,_,_,c,rs,hf,fun L1 H1 s1 c1=>zHA (q L1 H1 s1 c1)⟩
theorem zFk (h:QW X e f):QT X e f:=.mk (PW.pt h.un)
theorem zCU (h:QT X a f):QT X (.UnaryOp .Not a pos) (zBk f):=.mk <| PT.imp (zVI h.un) fun τ H Q zz=>by
 obtain ⟨L,σ,M,d,M',c,rs,hf,q⟩:=zz;unfold zBk at hf;split at hf
 ·rename_i k M1 e1;cases hf;exact ⟨L,σ,M,_,_,c,rs,e1,fun L1 H1 s1 c1=>q L1 H1 s1 c1⟩
 ·cases hf
def zHC (f g:FE):FE:=fun σ M=>match f σ M with
 |some (.dat (.bl true),M1)=>g σ M1
 |some (.dat (.bl false),M1)=>some (.dat (.bl false),M1)
 |_=>none
def zOo (f:FE):FE:=fun σ M=>match f σ M with
 |some (.dat (.bl k),M1)=>some (.dat (.bl (!k)),M1)
 |_=>none
theorem zAr (h:zt H0 L H (.dat (.bl k)) v):v=.bl k:=by unfold zt Rep at h;exact h
theorem zEy {op} (h:QE X a f):QE X (.BoolOp op [a] pos) f:=.mk (zUJ h.un)
theorem zEL (h1:QE X a f) (h2:QE X (.BoolOp .And (b::rest) pos) g):QE X (.BoolOp .And (a::b::rest) pos) (zHC f g):=.mk <| PE.imp (zUQ h1.un h2.un) fun τ H Q zz=>by
 obtain ⟨L,σ,M,d,M',c,rs,hf,q⟩:=zz;unfold zHC at hf;split at hf
 ·rename_i M1 e1;exact ⟨L,σ,M,_,_,c,rs,e1,fun L1 H1 v s1 c1 r1=>⟨true,zAr r1,zHA ⟨L1,σ,M1,_,_,c1,rs.stp s1,hf,fun L2 H2 w s2 c2 r2=>q L2 H2 w (s1.trans s2) c2 (r2.back s1 c s2.sub)⟩⟩⟩
 ·rename_i M1 e1;cases hf;exact ⟨L,σ,M,_,_,c,rs,e1,fun L1 H1 v s1 c1 r1=>⟨false,zAr r1,zHE (q L1 H1 _ s1 c1 (by have:=zAr r1;subst this;exact r1))⟩⟩
 ·cases hf
theorem zP4 (h:QE X a f):QE X (.UnaryOp .Not a pos) (zOo f):=.mk <| PE.imp (zUm h.un) fun τ H Q zz=>by
 obtain ⟨L,σ,M,d,M',c,rs,hf,q⟩:=zz;unfold zOo at hf;split at hf
 ·rename_i k M1 e1;cases hf;exact ⟨L,σ,M,_,_,c,rs,e1,fun L1 H1 v s1 c1 r1=>⟨k,zAr r1,q L1 H1 _ s1 c1 (by unfold zt Rep;rfl)⟩⟩
 ·cases hf
abbrev KM:=EV->List D->Mem->Option (D × Mem)
def fM (k:KM) (f:FE) (g:FA):FE:=fun σ M=>match f σ M with
 |some (x,M1)=>match zB8 M1 x with
  |some _=>match g σ M1 with
   |some (ds,M2)=>match k x ds M2 with
    |some (d,M3)=>some (.dat d,M3)
    |none=>none
   |none=>none
  |none=>none
 |none=>none
def zP8 (K:PySem.W.Frag) (r:V->List V->Hp->VK->Prop) (k:KM):Prop:=∀ {L:List Addr} {M M':Mem} {H H0:Hp} {x:EV} {ds:List D} {d:D} {v:V} {vs:List V} {Q:VK},Cor K L M H->zt H0 L H x v->zh L H ds vs->k x ds M=some (d,M') ->
 (∀ L' H' u,Stp L H L' H'->Cor K L' M' H'->Rep L' H' d u->Q u H')->r v vs H Q
theorem zK3 {K:PySem.W.Frag} {r:V->List V->Hp->VK->Prop} {k:KM} {f:FE} {g:FA} (hk:zP8 K r k) {τ:Sv} {H:Hp} {Q:VK} (h:trE K (fM k f g) τ H Q):tBM K "list" r (trE K f) (trA K g) τ H Q:=by
 obtain ⟨L,σ,M,d,M',c,rs,hf,q⟩:=h;unfold fM at hf;split at hf
 ·rename_i x M1 e1;split at hf
  ·rename_i xs e2;split at hf
   ·rename_i ds M2 e3;split at hf
    ·rename_i d' M3 e4;cases hf;refine ⟨L,σ,M,_,_,c,rs,e1,fun L1 H1 v s1 c1 r1=>?_⟩;obtain ⟨a,vs,rfl,e5,r5⟩:=zBy c1 r1 e2;refine ⟨.inl ⟨rfl,vs,.inl e5⟩,L1,σ,M1,_,_,c1,rs.stp s1,e3,fun L2 H2 ws s2 c2 r2=>?_⟩;exact hk c2 (r1.stp s2) r2 e4 fun L3 H3 u s3 c3 r3=>q L3 H3 u ((s1.trans s2).trans s3) c3 r3
    ·cases hf
   ·cases hf
  ·cases hf
 ·cases hf
def zA7:KM:=fun x ds M=>match x,ds with
 |.dat (.ref n),[d]=>match M[n]? with
  |some (.lst xs)=>if xs.length<sizeLine then some (.non,M.set n (.lst (xs++[d]))) else none
  |_=>none
 |_,_=>none
theorem zh.one (h:zh L H [d] vs):∃ v,vs=[v]/\Rep L H d v:=by
 unfold zh at h;obtain ⟨v,r,rfl,h1,h2⟩:=h;unfold zh at h2;subst h2;exact ⟨v,rfl,h1⟩
theorem zMq {K:PySem.W.Frag}:zP8 K zOb zA7:=by
 intro L M M' H H0 x ds d v vs Q c rx rd hk q;unfold zA7 at hk;split at hk
 ·rename_i n d';split at hk
  ·rename_i xs e1;split at hk
   ·rename_i hz;cases hk;unfold zt Rep at rx;obtain ⟨a,rfl,e2⟩:=rx;obtain ⟨ws,e3,r3⟩:=c.obj n a _ e2 e1;obtain ⟨w,rfl,r4⟩:=rd.one;obtain ⟨c5,s5⟩:=c.write e2 e1 (r3.app (.cons r4 .nil));exact ⟨a,ws,w,rfl,rfl,e3,by rw[r3.length];exact hz,q L _ _ s5 c5 (by unfold Rep;rfl)⟩
   ·cases hk
  ·cases hk
 ·cases hk
theorem zGm (h:QE X a f) (hg:QA X [e] g) (hbase:attributeBase a "append" X.env (eval a X.env)=eval a X.env:=by rfl)
  (hfew:((backTo cpos (starEach [e] X.env)).all (fun x=> !x.1)&&(backToKw cpos (keywordEach [] X.env)).all (fun x=>x.1.isSome)&&decide ([e].length+([]:List Keyword).length+(if ([]:List Keyword).isEmpty then 0 else 1)<30))=true:=by rfl)
  (hline:(apos.endLine==cpos.line)=true:=by rfl) (hs:starEach [e] X.env=(false,eval e X.env)::starEach [] X.env:=by rfl) (hplain:(backTo cpos (starEach [] X.env)).any (·.1)=false:=by rfl) :
  QE X (.Call (.Attribute a "append" apos) [e] [] cpos) (fM zA7 f g) :=
 .mk <| PE.imp (zOY PySem.F.plainAttrs_list PySem.F.slot_list_append PySem.F.type_list_append zPT h.un hg.un hbase hfew hline hs hplain) fun _ _ _ z=>zK3 zMq z
def zMc:KM:=fun x ds M=>match x,ds with
 |.dat (.ref n),[.int i]=>match M[n]? with
  |some (.lst xs)=>match ixN xs.length i with
   |some k=>match xs[k]? with
    |some d=>if -(2 ^ 63)<=i/\i<2 ^ 63 then some (d,M.set n (.lst (xs.eraseIdx k))) else none
    |none=>none
   |none=>none
  |_=>none
 |_,_=>none
theorem zTD {K:PySem.W.Frag}:zP8 K zRN zMc:=by
 intro L M M' H H0 x ds d v vs Q c rx rd hk q;unfold zMc at hk;split at hk
 ·rename_i n i;split at hk
  ·rename_i xs e1;split at hk
   ·rename_i k e2;split at hk
    ·rename_i d' e3;split at hk
     ·rename_i hb;cases hk;unfold zt Rep at rx;obtain ⟨a,rfl,e4⟩:=rx;obtain ⟨ws,e5,r5⟩:=c.obj n a _ e4 e1;obtain ⟨u,e6,r6⟩:=r5.get e3;obtain ⟨c5,s5⟩:=c.write e4 e1 (r5.eraseIdx k);exact ⟨a,ws,i,k,u,rfl,zJT rd,e5,hb.1,hb.2,by rw[r5.length];exact (zKu e2).1,e6,q L _ _ s5 c5 (r6.stp s5)⟩
     ·cases hk
    ·cases hk
   ·cases hk
  ·cases hk
 ·cases hk
theorem zV8 (h:QE X a f) (hg:QA X [e] g) (hbase:attributeBase a "pop" X.env (eval a X.env)=eval a X.env:=by rfl)
  (hfew:((backTo cpos (starEach [e] X.env)).all (fun x=> !x.1)&&(backToKw cpos (keywordEach [] X.env)).all (fun x=>x.1.isSome)&&decide ([e].length+([]:List Keyword).length+(if ([]:List Keyword).isEmpty then 0 else 1)<30))=true:=by rfl)
  (hline:(apos.endLine==cpos.line)=true:=by rfl) (hs:starEach [e] X.env=(false,eval e X.env)::starEach [] X.env:=by rfl) (hplain:(backTo cpos (starEach [] X.env)).any (·.1)=false:=by rfl) :
  QE X (.Call (.Attribute a "pop" apos) [e] [] cpos) (fM zMc f g) :=
 .mk <| PE.imp (zOY PySem.F.plainAttrs_list PySem.F.slot_list_pop PySem.F.type_list_pop zQf h.un hg.un hbase hfew hline hs hplain) fun _ _ _ z=>zK3 zTD z
def zLb (x:EV) (i:D) (d:D) (M:Mem):Option Mem:=match x,i with
 |.dat (.ref n),.int i=>match M[n]? with
  |some (.lst xs)=>match ixN xs.length i with
   |some j=>some (M.set n (.lst (xs.set j d)))
   |none=>none
  |_=>none
 |_,_=>none
def zNq (fv fo fi:FE):FS:=fun σ M=>match toD fv σ M with
 |some (d,M1)=>match fo σ M1 with
  |some (x,M2)=>match toD fi σ M2 with
   |some (i,M3)=>match zLb x i d M3 with
    |some M4=>some (.nx,σ,M4)
    |none=>none
   |none=>none
  |none=>none
 |none=>none
theorem zIb (hv:QE X v fv) (ho:QE X o fo) (hi:QE X i fi)
  (ha:∀ v,assign (.Subscript o i p) X.env v=(do
   let ov <- holding [v] (eval o X.env);let iv <- holding [v,ov] (eval i X.env);standAt p;holding [v,ov,iv] (setItem ov iv v);release [v,ov,iv] []):=by intro _;rfl)
  (hs:swapsWithSole [.Subscript o i p] v pos.line X.env=pure false:=by rfl) (hw:swappedStores [.Subscript o i p] v X.env=pure none:=by rfl) (h1:(assignEach [.Subscript o i p] X.env).map (·.2)=[assign (.Subscript o i p) X.env]:=by rfl) :
  QS X (.Assign [.Subscript o i p] v pos) (zNq fv fo fi):=.mk <| PS.imp (zRh (zI hv).un (zUl ho.un (zI hi).un zQd ha) hs hw h1) fun E τ H zz=>by
 obtain ⟨L,σ,M,out,σ',M',c,rs,hf,q⟩:=zz;unfold zNq at hf;split at hf
 ·rename_i d M1 e1;split at hf
  ·rename_i x M2 e2;split at hf
   ·rename_i j M3 e3;split at hf
    ·rename_i M4 e4;cases hf;refine ⟨L,σ,M,_,_,c,rs,e1,fun L1 H1 u s1 c1 r1=>⟨L1,σ,M1,_,_,c1,rs.stp s1,e2,fun L2 H2 w s2 c2 r2=>⟨L2,σ,M2,_,_,c2,rs.stp (s1.trans s2),e3,fun L3 H3 z s3 c3 r3=>?_⟩⟩⟩;have st:=(s1.trans s2).trans s3;unfold zLb at e4;split at e4
     ·rename_i n k;split at e4
      ·rename_i xs e5;split at e4
       ·rename_i m e6;cases e4;have r2':=r2.stp s3;unfold zt Rep at r2';obtain ⟨a,rfl,e7⟩:=r2';obtain ⟨ws,e8,r8⟩:=c3.obj n a _ e7 e5;obtain ⟨c9,s9⟩:=c3.write e7 e5 (zh.set ((r1.stp s2).stp s3) m r8);exact ⟨a,ws,k,m,rfl,by unfold Rep at r3;exact r3,e8,by rw[r8.length];exact e6,q L3 _ (st.trans s9) c9 τ ((rs.stp st).stp s9)⟩
       ·cases e4
      ·cases e4
     ·cases e4
    ·cases hf
   ·cases hf
  ·cases hf
 ·cases hf
def zHU:D->Option V
 |.non=>some .non
 |.bl k=>some (.bl k)
 |.int i=>some (.int i)
 |.str x=>some (.str x)
 |_=>none
theorem zG0 (h:Rep L H d v) (e:zHU d=some u):v=u:=by
 cases d with
 |non=>cases e;unfold Rep at h;exact h
 |bl _=>cases e;unfold Rep at h;exact h
 |int _=>cases e;unfold Rep at h;exact h
 |str _=>cases e;unfold Rep at h;exact h
 |tup _=>cases e
 |ref _=>cases e
def zNW (neg:Bool):K2:=fun x y M=>match x,y with
 |.dat d,.dat d'=>match zHU d,zHU d' with
  |some u,some w=>if zSz u w then some (.dat (.bl (if neg then !decide (u=w) else decide (u=w))),M) else none
  |_,_=>none
 |_,_=>none
theorem zJl (h:zNW neg x y M=some (r,M')):∃ d d' u w,x=.dat d/\y=.dat d'/\zHU d=some u/\zHU d'=some w/\zSz u w=true/\r=.dat (.bl (if neg then !decide (u=w) else decide (u=w)))/\M'=M:=by
 unfold zNW at h;split at h
 ·rename_i d d';split at h
  ·rename_i u w e1 e2;split at h
   ·rename_i hs;cases h;exact ⟨d,d',u,w,rfl,rfl,e1,e2,hs,rfl,rfl⟩
   ·cases h
  ·cases h
 ·cases h
theorem zOU {K:PySem.W.Frag}:zCF K rEq (zNW false):=by
 intro L M M' H H0 x y d v w Q c rx ry hk q;obtain ⟨d1,d2,u,z,rfl,rfl,e1,e2,hs,rfl,rfl⟩:=zJl hk;have a1:=zG0 rx e1;have a2:=zG0 ry e2;subst a1 a2;exact ⟨hs,q L H _ (.refl L H) c (zBW (L:=L) (H:=H))⟩
theorem zSu {K:PySem.W.Frag}:zCF K rNe (zNW true):=by
 intro L M M' H H0 x y d v w Q c rx ry hk q;obtain ⟨d1,d2,u,z,rfl,rfl,e1,e2,hs,rfl,rfl⟩:=zJl hk;have a1:=zG0 rx e1;have a2:=zG0 ry e2;subst a1 a2;exact ⟨hs,q L H _ (.refl L H) c (zBW (L:=L) (H:=H))⟩
def zT7 (neg:Bool) (K:PySem.W.Frag):R2:=fun x y H Q=>∃ p q xs,x=.ref p/\y=.ref q/\SqL K H p xs/\SqL K H q []/\Q (.bl (if neg then !xs.isEmpty else xs.isEmpty)) H
theorem zK9 (r:zy [] its):its=[]:=by cases r;rfl
theorem zLW (hu:X.A.units<cLine):OpR X (compareOp .Eq) (zT7 false X.K):=by
 intro zB s σ H x y v u Q I rx ry h;obtain ⟨p,q,xs,rfl,rfl,h1,h2,hq⟩:=h;cases rx;cases ry;obtain ⟨its,rv,pl,_⟩:=I.list h1;obtain ⟨its2,rv2,pl2,_⟩:=I.list h2;cases zK9 rv2;cases rv with
 |nil=>exact SeqAt.eq_listAt (e:=fun _=>true) pl.isList pl2.isList rfl hu (fun j h1=>by simp at h1) ⟨.bl true,H,I,rfl,hq⟩
 |cons _ _=>exact SeqAt.eq_list_lengthsAt pl.isList pl2.isList (by simp) hu ⟨.bl false,H,I,rfl,hq⟩
theorem zP7 (hu:X.A.units<cLine):OpR X (compareOp .NotEq) (zT7 true X.K):=by
 intro zB s σ H x y v u Q I rx ry h;obtain ⟨p,q,xs,rfl,rfl,h1,h2,hq⟩:=h;cases rx;cases ry;obtain ⟨its,rv,pl,_⟩:=I.list h1;obtain ⟨its2,rv2,pl2,_⟩:=I.list h2;cases zK9 rv2;cases rv with
 |nil=>exact SeqAt.RcNeAt.lists (e:=fun _=>true) pl.isList pl2.isList rfl hu (fun j h1=>by simp at h1) _ _ _ _ ⟨.bl false,H,I,rfl,hq⟩
 |cons _ _=>exact SeqAt.RcNeAt.lists_lengths pl.isList pl2.isList (by simp) hu _ _ _ _ ⟨.bl true,H,I,rfl,hq⟩
def zQq (neg:Bool):K2:=fun x y M=>match zB8 M x,zB8 M y with
 |some xs,some []=>some (.dat (.bl (if neg then !xs.isEmpty else xs.isEmpty)),M)
 |_,_=>none
theorem zKe {K:PySem.W.Frag} {neg:Bool}:zCF K (zT7 neg K) (zQq neg):=by
 intro L M M' H H0 x y d v w Q c rx ry hk q;unfold zQq at hk;split at hk
 ·rename_i xs e1 e2;cases hk;obtain ⟨p1,vs,rfl,h1,r1⟩:=zBy c rx e1;obtain ⟨p2,ws,rfl,h2,r2⟩:=zBy c ry e2;unfold zh at r2;subst r2;refine ⟨p1,p2,vs,rfl,rfl,.inl h1,.inl h2,q L H _ (.refl L H) c ?_⟩;have:vs.isEmpty=xs.isEmpty:=by
   have:=r1.length;cases vs <;> cases xs <;> simp_all
  rw[this];exact (zBW (L:=L) (H:=H))
 ·cases hk
def kOr (k1 k2:K2):K2:=fun x y M=>match k1 x y M with
 |some r=>some r
 |none=>k2 x y M
theorem zK4 {K:PySem.W.Frag} {r1 r2:R2} {k1 k2:K2} (h1:zCF K r1 k1) (h2:zCF K r2 k2):zCF K (fun x y H Q=>r1 x y H Q\/r2 x y H Q) (kOr k1 k2):=by
 intro L M M' H H0 x y d v w Q c rx ry hk q;unfold kOr at hk;split at hk
 ·rename_i r e1;cases hk;exact .inl (h1 c rx ry e1 q)
 ·exact .inr (h2 c rx ry hk q)
abbrev kEq:K2:=kOr (zNW false) (zQq false)
abbrev kNe:K2:=kOr (zNW true) (zQq true)
variable {f g:FE}
theorem zPm (hu:X.A.units<cLine) (h1:QE X a f) (h2:QE X b g):QE X (.Compare a [.Eq] [b] pos) (fOp kEq f g):=zQy (zK4 zOU zKe) (zTi.or (zLW hu)) h1 h2 (zFF _)
theorem zBt (hu:X.A.units<cLine) (h1:QE X a f) (h2:QE X b g):QT X (.Compare a [.Eq] [b] pos) (tst (fOp kEq f g)):=zIX (zK4 zOU zKe) (zTi.or (zLW hu)) h1 h2 (zFF _)
theorem zGv (hu:X.A.units<cLine) (h1:QE X a f) (h2:QE X b g):QT X (.Compare a [.NotEq] [b] pos) (tst (fOp kNe f g)):=zIX (zK4 zSu zKe) (zVf.or (zP7 hu)) h1 h2 (zFF _)
def zPg:KB:=fun xs M=>match xs with
 |[.dat (.int i)]=>some (.dat (.int (if i<0 then -i else i)),M)
 |_=>none
theorem zSb {K:PySem.W.Frag}:zGN K (fun xs H Q=>∃ i,xs=[.int i]/\Q (.int (if i<0 then -i else i)) H) zPg:=by
 intro L M M' H H0 xs d vs Q c r hk q;unfold zPg at hk;split at hk
 ·rename_i i;cases hk;obtain ⟨v,rfl,r1⟩:=r.one;have:v=.int i:=by unfold zt Rep at r1;exact r1
  subst this;exact ⟨i,rfl,q L H _ (.refl L H) c (zAs (L:=L) (H:=H))⟩
 ·cases hk
def zNZ:KB:=fun xs M=>match xs with
 |[.dat (.int i)]=>some (.dat (.int i),M)
 |[.dat (.bl k)]=>some (.dat (.int (if k then 1 else 0)),M)
 |_=>none
theorem zTA {K:PySem.W.Frag}:zGN K (fun xs H Q=>(∃ i,xs=[.int i]/\Q (.int i) H) \/ ∃ k,xs=[.bl k]/\Q (.int (if k then 1 else 0)) H) zNZ:=by
 intro L M M' H H0 xs d vs Q c r hk q;unfold zNZ at hk;split at hk
 ·rename_i i;cases hk;obtain ⟨v,rfl,r1⟩:=r.one;have:v=.int i:=by unfold zt Rep at r1;exact r1
  subst this;exact .inl ⟨i,rfl,q L H _ (.refl L H) c (zAs (L:=L) (H:=H))⟩
 ·rename_i k;cases hk;obtain ⟨v,rfl,r1⟩:=r.one;have:=zAr r1;subst this;exact .inr ⟨k,rfl,q L H _ (.refl L H) c (zAs (L:=L) (H:=H))⟩
 ·cases hk
end
section
variable {X:Cx} {a b c e:Expr} {es rest:List Expr} {pos p apos cpos:Pos}
theorem zQW {prog:Program} {w:World} {A:Around} {E:Value->Shared->Prop} {s:Shared} {t b:Addr} {ws:List Value} {Q:Value->Shared->Prop} (ht:IsTup s.heap t #[]) (hb:IsTup s.heap b ws.toArray) (h1:Q (.ref b) s) :
  wpAny (model prog w) A (binaryOp .Add (.ref t) (.ref b)) Q E s:=by
 obtain ⟨⟨cls,dd,data,sl⟩,ho,hc,n,hd⟩:=id ht;obtain ⟨⟨cls2,dd2,data2,sl2⟩,ho2,hc2,n2,hd2⟩:=id hb;simp only at hc hd hc2 hd2;subst hc hd hc2 hd2
 exact concat_meets ⟨_,ho,rfl⟩ ⟨_,ho2,rfl⟩ noFill_tuple_add seq_tuple_add PySem.F.slot_tuple_add PySem.F.entry_tuple_add (PySem.F.args_tuple_add_2 _ _)
   (tuple_addW0 t b #[] ws.toArray n n2 dd dd2 sl sl2 (by simp)) ⟨ho,ho2,h1⟩
def zRV (K:PySem.W.Frag):R2:=fun x y H Q=>∃ a b ys,x=.ref a/\y=.ref b/\SqT K H a []/\SqT K H b ys/\Q (.ref b) H
theorem zR1:OpR X (binaryOp .Add) (zRV X.K):=by
 intro zB s σ H x y v u Q I rx ry h;obtain ⟨a,b,ys,rfl,rfl,ha,hb,q⟩:=h;cases rx;cases ry;obtain ⟨its,r1,p1,_⟩:=I.tuple ha;obtain ⟨its2,r2,p2,_⟩:=I.tuple hb;cases zK9 r1;exact zQW p1 p2 ⟨.ref b,H,I,rfl,q⟩
def zL0:K2:=fun x y M=>match zDg x,zDg y with
 |some xs,some ys=>if xs.length+ys.length<=sizeLine then some (.dat (.tup (xs++ys)),M) else none
 |_,_=>none
theorem zRt {K:PySem.W.Frag}:zCF K (fun x y H Q=>zTg K x y H Q\/zRV K x y H Q) zL0:=by
 intro L M M' H H0 x y d v w Q c rx ry hk q;unfold zL0 at hk;split at hk
 ·rename_i xs ys e1 e2;split at hk
  ·rename_i hz;cases hk;obtain ⟨p1,vs,rfl,h1,r1⟩:=zDC rx e1;obtain ⟨p2,ws,rfl,h2,r2⟩:=zDC ry e2;cases xs with
   |nil=>
    refine .inr ⟨p1,p2,ws,rfl,rfl,.of (by unfold zh at r1;subst r1;exact h1),.of h2,q L H _ (.refl L H) c ?_⟩;unfold zt Rep;exact ⟨p2,ws,rfl,h2,r2⟩
   |cons x0 xr=>
    have hv:vs≠[]:=fun z=>by have:=r1.length;rw[z]at this;simp at this
    refine .inl ⟨p1,p2,vs,ws,rfl,rfl,.of h1,.of h2,hv,by rw[r1.length,r2.length];exact hz,fun z=>?_,fun z pp hp=>?_⟩
    ·have:ys=[]:=by
      have:=r2.length;rw[z]at this;cases ys with
      |nil=>rfl
      |cons _ _=>simp at this
     subst this;refine q L H _ (.refl L H) c ?_;unfold zt Rep;rw[zXU];exact ⟨p1,vs,rfl,h1,r1⟩
    ·exact q L _ _ (.upd hp) (c.upd hp) (Rep.newTup hp (r1.app r2))
  ·cases hk
 ·cases hk
abbrev zAZ:K2:=kOr zWL zL0
variable {f g:FE}
theorem zA4 (h1:QE X a f) (h2:QE X b g):QE X (.BinOp a .Add b pos) (fOp zAZ f g):=zNO (zK4 (zCo fun _ _ _ _=>zAs) zRt) (zUv.or (zSx.or zR1)) h1 h2
structure Kinds (K:PySem.W.Frag):Prop where
 k:∀ t T,t∈["NoneType", "bool", "int", "str", "list", "tuple", "dict"]->T∈["int", "bool", "str", "tuple"]->PySem.W.kitOne K (.type t) (.type T)=some (decide (t=T)||(decide (t = "bool")&&decide (T = "int")))
def zIJ (M:Mem):EV->Option String
 |.dat .non=>some "NoneType"
 |.dat (.bl _)=>some "bool"
 |.dat (.int _)=>some "int"
 |.dat (.str _)=>some "str"
 |.dat (.tup _)=>some "tuple"
 |.fl _=>some "list"
 |.dat (.ref n)=>match M[n]? with
  |some (.lst _)=>some "list"
  |some (.fro _)=>some "list"
  |some (.dict _)=>some "dict"
  |some (.dicT _)=>some "dict"
  |_=>none
theorem zUb {K:PySem.W.Frag} {L:List Addr} {M:Mem} {H H0:Hp} {x:EV} {v:V} {t:String} (c:Cor K L M H) (r:zt H0 L H x v) (h:zIJ M x=some t):TyOf K H v (.type t)/\t∈["NoneType", "bool", "int", "str", "list", "tuple", "dict"]:=by
 unfold zIJ at h;split at h
 ·cases h;unfold zt Rep at r;subst r;exact ⟨.non,by simp⟩
 ·cases h;unfold zt Rep at r;subst r;exact ⟨.bl _,by simp⟩
 ·cases h;unfold zt Rep at r;subst r;exact ⟨.int _,by simp⟩
 ·cases h;unfold zt Rep at r;subst r;exact ⟨.str _,by simp⟩
 ·cases h;unfold zt Rep at r;obtain ⟨a,vs,rfl,e,_⟩:=r;exact ⟨.tup e,by simp⟩
 ·cases h;obtain ⟨p,vs,rfl,_,e,_⟩:=r;exact ⟨.lst e,by simp⟩
 ·unfold zt Rep at r;obtain ⟨a,rfl,e⟩:=r;split at h
  ·rename_i e1;cases h;obtain ⟨vs,q,_⟩:=c.obj _ a _ e e1;exact ⟨.lst q,by simp⟩
  ·rename_i e1;cases h;obtain ⟨o,vs,q,_⟩:=c.obj _ a _ e e1;exact ⟨.frz q,by simp⟩
  ·rename_i e1;cases h;obtain ⟨vs,q,_⟩:=c.obj _ a _ e e1;exact ⟨.dK q,by simp⟩
  ·rename_i e1;cases h;obtain ⟨vs,q,_⟩:=c.obj _ a _ e e1;exact ⟨.dT q,by simp⟩
  ·cases h
def isT (t T:String):Bool:=decide (t=T)||(decide (t = "bool")&&decide (T = "int"))
def zEG (T:String) (f:FE):FE:=fun σ M=>match f σ M with
 |some (x,M1)=>match zIJ M1 x with
  |some t=>some (.dat (.bl (isT t T)),M1)
  |none=>none
 |none=>none
def zVk (K:PySem.W.Frag) (T:String):List V->Hp->VK->Prop:=fun xs H Q=>∃ x t b,xs=[x,.ty T]/\TyOf K H x t/\PySem.W.kitOne K t (.type T)=some b/\Q (.bl b) H
theorem zSH:zCX X (.builtin "isinstance") (zVk X.K T):=by
 intro zB s σ H xs us Q I r h;obtain ⟨x,t,b,rfl,ty,e,q⟩:=h;cases r with
 |cons r1 r2=>
  cases r2 with
  |cons r3 r4=>
   cases r4;cases r3;exact zOf I r1 ty e fun tk=>⟨.bl b,H,I.tok _,rfl,q⟩
theorem zEv (hK:Kinds X.K) (hT:T∈["int", "bool", "str", "tuple"]) (hg:Gl X "isinstance") (hm:X.mg "isinstance" = none) (hg2:Gl X y) (hm2:X.mg y=none) (hv2:bootBuiltins y=some (.type T)) (hn2:y ≠ "__name__") (hd2:(y==("__debug__" : Str))=false) (h:QE X e f)
  (he:starEach (e::[.Name y p2]) X.env=(false,eval e X.env)::starEach [.Name y p2] X.env:=by rfl) (he2:starEach [.Name y p2] X.env=(false,eval (.Name y p2) X.env)::starEach [] X.env:=by rfl) (hpl:(backTo pos (starEach [.Name y p2] X.env)).any (·.1)=false:=by rfl) :
  QE X (.Call (.Name "isinstance" p1) [e,.Name y p2] [] pos) (zEG T f) :=
 .mk <| PE.imp (zMR (r:=zVk X.K T) zSH hg hm (by rfl) (zDh h.un (zDh (zS3 (v:=.ty T) hg2 hm2 hv2 rfl hn2 hd2) zGL he2) he) (by decide) (by decide) he hpl) fun τ H Q zz=>by
  obtain ⟨L,σ,M,d,M',c,rs,hf,q⟩:=zz;unfold zEG at hf;split at hf
  ·rename_i x M1 e1;split at hf
   ·rename_i t e2;cases hf;refine ⟨L,σ,M,_,_,c,rs,e1,fun L1 H1 v s1 c1 r1=>?_⟩;obtain ⟨ty,ht⟩:=zUb c1 r1 e2;exact ⟨v,_,_,rfl,ty,hK.k t T ht hT,q L1 H1 _ s1 c1 (zBW (L:=L1) (H:=H1))⟩
   ·cases hf
  ·cases hf
theorem zh.two (h:zh L H [d,d'] vs):∃ v v',vs=[v,v']/\Rep L H d v/\Rep L H d' v':=by
 unfold zh at h;obtain ⟨v,r,rfl,h1,h2⟩:=h;obtain ⟨v',rfl,h3⟩:=h2.one;exact ⟨v,v',rfl,h1,h3⟩
section
variable {fa:FAE}
theorem zA5 (hg:Gl X "len") (hm:X.mg "len" = none) (ha:QAE X [e] fa) (he:starEach [e] X.env=(false,eval e X.env)::starEach [] X.env:=by rfl) (hpl:(backTo pos (starEach [] X.env)).any (·.1)=false:=by rfl):QE X (.Call (.Name "len" p) [e] [] pos) (fB zAx fa) :=
 zEY zSg zKf PySem.boot_len hg hm ha (by decide) (by decide) he hpl
theorem zDc (hg:Gl X "tuple") (hm:X.mg "tuple" = none) (ha:QAE X [e] fa) (he:starEach [e] X.env=(false,eval e X.env)::starEach [] X.env:=by rfl) (hpl:(backTo pos (starEach [] X.env)).any (·.1)=false:=by rfl):QE X (.Call (.Name "tuple" p) [e] [] pos) (fB zB5 fa) :=
 zGQ zPD zJI (by rfl) hg hm ha (by decide) (by decide) he hpl
theorem zTc (hg:Gl X "abs") (hm:X.mg "abs" = none) (ha:QAE X [e] fa) (he:starEach [e] X.env=(false,eval e X.env)::starEach [] X.env:=by rfl) (hpl:(backTo pos (starEach [] X.env)).any (·.1)=false:=by rfl):QE X (.Call (.Name "abs" p) [e] [] pos) (fB zPg fa) :=
 zEY zSb zRx (by rfl) hg hm ha (by decide) (by decide) he hpl
theorem zR5 (hg:Gl X "int") (hm:X.mg "int" = none) (ha:QAE X [e] fa) (he:starEach [e] X.env=(false,eval e X.env)::starEach [] X.env:=by rfl) (hpl:(backTo pos (starEach [] X.env)).any (·.1)=false:=by rfl):QE X (.Call (.Name "int" p) [e] [] pos) (fB zNZ fa) :=
 zGQ zTA zPn (by rfl) hg hm ha (by decide) (by decide) he hpl
end
end
def zLf (sc scope:Scope):Bool:=scope.names.all fun y=>
 (y.2 != .local||scope.names.lookup y.1==some .local)&&(y.2 != .cell||scope.names.lookup y.1==some .cell)&&(y.2 != .free||(sc.names.lookup y.1==some .cell||sc.names.lookup y.1==some .free))
def zOH (N:List Str) (scope:Scope) (own:List Nat):Bool:=(List.range N.length).all fun i=>match N[i]? with
 |some x=>decide (i∈own)||(scope.names.lookup x==none)||(scope.names.lookup x==some .free)
 |none=>true
theorem zp (hk:scope.kind=.function) (hs:X.env.scope=sc) (hN:X.N=N) (h1:zLf sc scope=true) (h2:zOH N scope own=true):CompIn X scope own:=by
 unfold zLf at h1;rw[zXL]at h1;refine ⟨⟨hk,fun y hy e=>?_,fun y hy e=>?_,fun y hy e=>?_⟩,fun i x e=>?_⟩
 ·have:=h1 y hy;simp[e]at this;exact this
 ·have:=h1 y hy;simp[e]at this;exact this
 ·have:=h1 y hy;simp[e]at this;show X.env.scope.names.lookup y.1=_\/X.env.scope.names.lookup y.1=_;rw[hs];exact this
 ·unfold zOH at h2;rw[zXL]at h2;rw[hN]at e;have hi:i<N.length:=(zWn.mp e).1;have:=h2 i (by simpa using hi);rw[e]at this;simp only[Bool.or_eq_true,zXx,beq_iff_eq,or_assoc]at this;exact this
def zKL (K:PySem.W.Frag):Bool:=K.all fun p=>match p.2.cls with
 |.type n=>n != "list"
 |_=>true
theorem zL5:∀ {K:PySem.W.Frag},K.lookup a=some o->(a,o)∈K
 |[],h=>by cases h
 |(b,u)::r,h=>by
  have h':List.lookup a ((b,u)::r)=some o:=h;rw[zYp]at h';cases q:a==b with
  |true=>rw[q]at h';cases h';rw[beq_iff_eq.mp q];exact zWy
  |false=>rw[q]at h';exact zWx _ (zL5 h')
theorem zOs {K:PySem.W.Frag} (h:zKL K=true) {o:Obj} (e:K.lookup a=some o) (hc:o.cls=.type "list"):False:=by
 unfold zKL at h;rw[zXL]at h;have:=h (a,o) (zL5 e);simp[hc]at this
theorem zJs:∀ (ns:List Int),zh L H (ns.map D.int) (ns.map V.int)
 |[]=> .nil
 |n::r=> .cons (by unfold Rep;rfl) (zJs r)
theorem zO0 {K:PySem.W.Frag} {m:FF} {H:Hp} {a:Addr} {ns:List Int} {E:XK} (hL:zKL K=true) (hO:zSO H) (hS:SqL K H a (ns.map V.int)) (h:∃ M',m [.ref 0] [.fro (ns.map D.int)]=some (.bl true,M')) :
  spF K 1 m [.ref a] H (fun v _=>v=.bl true) E:=by
 obtain ⟨M',e⟩:=h;have hf:∃ o,H a=some (.frz o (.lst (ns.map V.int))):=by
  rcases hS with (h1|h1)|⟨o,its,n,h1,h2,_⟩
  ·rcases hO a with z|⟨o,xs,z⟩
   ·rw[h1]at z;cases z
   ·rw[h1]at z;cases z
  ·exact h1
  ·exact (zOs hL h1 h2).elim
 obtain ⟨o,hf⟩:=hf;refine ⟨[a],[.ref 0],[.fro (ns.map D.int)],_,_,⟨rfl,by simp,fun n b m e1 e2=>?_⟩,.cons ?_ .nil,rfl,e,fun L' H' v s c r=>?_⟩
 ·cases n with
  |zero=>simp at e1 e2;subst e1;subst e2;exact ⟨o,_,hf,zJs ns⟩
  |succ n=>simp at e1
 ·unfold Rep;exact ⟨a,rfl,rfl⟩
 ·unfold Rep at r;exact r
def Ok {α:Type} (x:Option (α × Mem)) (P:α->Mem->Prop):Prop:=∃ a M,x=some (a,M)/\P a M
def OkS (x:Option (Out × Sd × Mem)) (P:Out->Sd->Mem->Prop):Prop:=∃ o σ M,x=some (o,σ,M)/\P o σ M
theorem Ok.mono {α:Type} {x:Option (α × Mem)} {P Q:α->Mem->Prop} (h:Ok x P) (hq:∀ a M,P a M->Q a M):Ok x Q:=let ⟨a,M,e,p⟩:=h;⟨a,M,e,hq a M p⟩
theorem OkS.mono {x:Option (Out × Sd × Mem)} {P Q:Out->Sd->Mem->Prop} (h:OkS x P) (hq:∀ o σ M,P o σ M->Q o σ M):OkS x Q:=let ⟨a,σ,M,e,p⟩:=h;⟨a,σ,M,e,hq a σ M p⟩
theorem zAO {α:Type} {a:α} {M:Mem} {P:α->Mem->Prop}:Ok (some (a,M)) P ↔ P a M:=⟨fun ⟨_,_,e,p⟩=>by cases e;exact p,fun p=>⟨a,M,rfl,p⟩⟩
theorem zGf {α:Type} {P:α->Mem->Prop}:Ok (none:Option (α × Mem)) P ↔ False:=⟨(fun ⟨_,_,e,_⟩=>(nomatch e)),fun h=>h.elim⟩
theorem zRS {o:Out} {σ:Sd} {M:Mem} {P:Out->Sd->Mem->Prop}:OkS (some (o,σ,M)) P ↔ P o σ M:=⟨fun ⟨_,_,_,e,p⟩=>by cases e;exact p,fun p=>⟨o,σ,M,rfl,p⟩⟩
section
variable {σ:Sd} {M:Mem} {f g:FE} {P:EV->Mem->Prop}
theorem zAi {i:Nat}:Ok (zE i σ M) P ↔ ∃ d,σ[i]?=some (some d)/\P (.dat d) M:=by
 unfold zE;constructor
 ·rintro ⟨a,M1,e,p⟩;split at e
  ·rename_i d e1;cases e;exact ⟨d,e1,p⟩
  ·cases e
 ·rintro ⟨d,e1,p⟩;rw[e1];exact ⟨_,_,rfl,p⟩
theorem zDA {d:D}:Ok (fC d σ M) P ↔ P (.dat d) M:=zAO
theorem zA3 {k:K2}:Ok (fOp k f g σ M) P ↔ Ok (f σ M) fun x M1=>Ok (g σ M1) fun y M2=>Ok (k x y M2) P:=by
 unfold fOp;constructor
 ·rintro ⟨a,M1,e,p⟩;split at e
  ·rename_i x M2 e1;split at e
   ·rename_i y M3 e2;exact ⟨x,M2,e1,y,M3,e2,a,M1,e,p⟩
   ·cases e
  ·cases e
 ·rintro ⟨x,M2,e1,y,M3,e2,a,M1,e,p⟩;rw[e1];dsimp only;rw[e2];exact ⟨a,M1,e,p⟩
def zH1 (P:D->Mem->Prop):EV->Mem->Prop
 |.dat d,M=>P d M
 |.fl xs,M=>P (.ref M.length) (M++[.lst xs])
theorem zBN {P:D->Mem->Prop}:Ok (toD f σ M) P ↔ Ok (f σ M) (zH1 P):=by
 unfold toD;constructor
 ·rintro ⟨a,M1,e,p⟩;split at e
  ·rename_i d M2 e1;cases e;exact ⟨_,_,e1,p⟩
  ·rename_i xs M2 e1;cases e;exact ⟨_,_,e1,p⟩
  ·cases e
 ·rintro ⟨x,M2,e1,p⟩;rw[e1];cases x with
  |dat d=>exact ⟨d,M2,rfl,p⟩
  |fl xs=>exact ⟨_,_,rfl,p⟩
theorem zZ {P:D->Mem->Prop} {d:D} {M:Mem}:zH1 P (.dat d) M ↔ P d M:=Iff.rfl
theorem zHt {P:D->Mem->Prop} {xs:List D} {M:Mem}:zH1 P (.fl xs) M ↔ P (.ref M.length) (M++[.lst xs]):=Iff.rfl
section
variable {P:List D->Mem->Prop}
theorem zDE:Ok (zL σ M) P ↔ P [] M:=zAO
theorem zBL {f:FD} {g:FA}:Ok (zF f g σ M) P ↔ Ok (f σ M) fun d M1=>Ok (g σ M1) fun ds M2=>P (d::ds) M2:=by
 unfold zF;constructor
 ·rintro ⟨a,M1,e,p⟩;split at e
  ·rename_i x M2 e1;split at e
   ·rename_i y M3 e2;cases e;exact ⟨x,M2,e1,y,_,e2,p⟩
   ·cases e
  ·cases e
 ·rintro ⟨x,M2,e1,y,M3,e2,p⟩;rw[e1];dsimp only;rw[e2];exact ⟨_,_,rfl,p⟩
end
section
variable {P:List EV->Mem->Prop}
theorem zGl:Ok (zq σ M) P ↔ P [] M:=zAO
theorem zFR {f:FE} {g:FAE}:Ok (zb f g σ M) P ↔ Ok (f σ M) fun d M1=>Ok (g σ M1) fun ds M2=>P (d::ds) M2:=by
 unfold zb;constructor
 ·rintro ⟨a,M1,e,p⟩;split at e
  ·rename_i x M2 e1;split at e
   ·rename_i y M3 e2;cases e;exact ⟨x,M2,e1,y,_,e2,p⟩
   ·cases e
  ·cases e
 ·rintro ⟨x,M2,e1,y,M3,e2,p⟩;rw[e1];dsimp only;rw[e2];exact ⟨_,_,rfl,p⟩
end
theorem zLG {a:FA}:Ok (zAk a σ M) P ↔ Ok (a σ M) fun ds M1=>ds.length<=sizeLine/\P (.fl ds) M1:=by
 unfold zAk;constructor
 ·rintro ⟨x,M1,e,p⟩;split at e
  ·rename_i ds M2 e1;split at e
   ·rename_i hz;cases e;exact ⟨ds,_,e1,hz,p⟩
   ·cases e
  ·cases e
 ·rintro ⟨ds,M1,e1,hz,p⟩;rw[e1];dsimp only;rw[zWz hz];exact ⟨_,_,rfl,p⟩
theorem zRC {k:KB} {a:FAE}:Ok (fB k a σ M) P ↔ Ok (a σ M) fun xs M1=>Ok (k xs M1) P:=by
 unfold fB;constructor
 ·rintro ⟨x,M1,e,p⟩;split at e
  ·rename_i ds M2 e1;exact ⟨ds,_,e1,x,M1,e,p⟩
  ·cases e
 ·rintro ⟨ds,M1,e1,p⟩;rw[e1];exact p
theorem zC8 {m:FF} {a:FA}:Ok (zY m a σ M) P ↔ Ok (a σ M) fun ds M1=>Ok (m ds M1) fun d M2=>P (.dat d) M2:=by
 unfold zY;constructor
 ·rintro ⟨x,M1,e,p⟩;split at e
  ·rename_i ds M2 e1;split at e
   ·rename_i d M3 e2;cases e;exact ⟨ds,_,e1,d,_,e2,p⟩
   ·cases e
  ·cases e
 ·rintro ⟨ds,M1,e1,d,M2,e2,p⟩;rw[e1];dsimp only;rw[e2];exact ⟨_,_,rfl,p⟩
theorem zNs {k:KM} {a:FA}:Ok (fM k f a σ M) P ↔ Ok (f σ M) fun x M1=>(∃ xs,zB8 M1 x=some xs)/\Ok (a σ M1) fun ds M2=>Ok (k x ds M2) fun d M3=>P (.dat d) M3:=by
 unfold fM;constructor
 ·rintro ⟨x,M1,e,p⟩;split at e
  ·rename_i y M2 e1;split at e
   ·rename_i xs e2;split at e
    ·rename_i ds M3 e3;split at e
     ·rename_i d M4 e4;cases e;exact ⟨y,_,e1,⟨xs,e2⟩,ds,_,e3,d,_,e4,p⟩
     ·cases e
    ·cases e
   ·cases e
  ·cases e
 ·rintro ⟨y,M1,e1,⟨xs,e2⟩,ds,M2,e3,d,M3,e4,p⟩;rw[e1];dsimp only;rw[e2];dsimp only;rw[e3];dsimp only;rw[e4];exact ⟨_,_,rfl,p⟩
section
variable {P:Option Int->Mem->Prop}
theorem zIU:Ok (zCL σ M) P ↔ P none M:=zAO
def zVW (P:Option Int->Mem->Prop):EV->Mem->Prop
 |.dat (.int i),M=>P (some i) M
 |_,_=>False
theorem zIs {i:Int} {M:Mem}:zVW P (.dat (.int i)) M ↔ P (some i) M:=Iff.rfl
theorem zIl:Ok (zB3 f σ M) P ↔ Ok (f σ M) (zVW P):=by
 unfold zB3;constructor
 ·rintro ⟨x,M1,e,p⟩;split at e
  ·rename_i i M2 e1;cases e;exact ⟨_,_,e1,p⟩
  ·cases e
 ·rintro ⟨x,M1,e1,p⟩;rw[e1];cases x with
  |fl xs=>exact p.elim
  |dat d=>
   cases d with
   |int i=>exact ⟨_,_,rfl,p⟩
   |_=>exact p.elim
end
theorem zR3 {l h:FO}:Ok (fSl f l h σ M) P ↔ Ok (f σ M) fun x M1=>Ok (l σ M1) fun lo M2=>Ok (h σ M2) fun hi M3=>Ok (kSl x lo hi M3) P:=by
 unfold fSl;constructor
 ·rintro ⟨x,M1,e,p⟩;split at e
  ·rename_i y M2 e1;split at e
   ·rename_i lo M3 e2;split at e
    ·rename_i hi M4 e3;exact ⟨y,_,e1,lo,_,e2,hi,_,e3,x,M1,e,p⟩
    ·cases e
   ·cases e
  ·cases e
 ·rintro ⟨y,M1,e1,lo,M2,e2,hi,M3,e3,p⟩;rw[e1];dsimp only;rw[e2];dsimp only;rw[e3];exact p
def blP (P:Bool->Mem->Prop):EV->Mem->Prop
 |.dat (.bl k),M=>P k M
 |_,_=>False
theorem zEP {P:Bool->Mem->Prop} {k:Bool} {M:Mem}:blP P (.dat (.bl k)) M ↔ P k M:=Iff.rfl
theorem zKG {P:Bool->Mem->Prop}:Ok (tst f σ M) P ↔ Ok (f σ M) (blP P):=by
 unfold tst;constructor
 ·rintro ⟨x,M1,e,p⟩;split at e
  ·rename_i i M2 e1;cases e;exact ⟨_,_,e1,p⟩
  ·cases e
 ·rintro ⟨x,M1,e1,p⟩;rw[e1];cases x with
  |fl xs=>exact p.elim
  |dat d=>
   cases d with
   |bl i=>exact ⟨_,_,rfl,p⟩
   |_=>exact p.elim
section
variable {P:Bool->Mem->Prop} {s t:FT}
theorem zLK:Ok (zAH σ M) P ↔ P true M:=zAO
theorem zSa:Ok (zBh s t σ M) P ↔ Ok (s σ M) fun k M1=>if k then Ok (t σ M1) P else P false M1:=by
 unfold zBh;constructor
 ·rintro ⟨x,M1,e,p⟩;split at e
  ·rename_i M2 e1;exact ⟨true,M2,e1,by dsimp only;rw[zWz rfl];exact ⟨x,M1,e,p⟩⟩
  ·rename_i hn;cases x with
   |true=>exact absurd e (hn M1)
   |false=>exact ⟨false,M1,e,by simpa using p⟩
 ·rintro ⟨x,M1,e1,p⟩;rw[e1];cases x with
  |true=>simpa using p
  |false=>exact ⟨false,M1,rfl,by simpa using p⟩
end
end
section
variable {σ:Sd} {M:Mem} {f g:FS} {P:Out->Sd->Mem->Prop}
def nxP (k:Sd->Mem->Prop) (P:Out->Sd->Mem->Prop):Out->Sd->Mem->Prop
 |.nx,σ,M=>k σ M
 |o,σ,M=>P o σ M
theorem zg {k:Sd->Mem->Prop}:nxP k P .nx σ M ↔ k σ M:=Iff.rfl
theorem zEM {k:Sd->Mem->Prop} {d:D}:nxP k P (.ret d) σ M ↔ P (.ret d) σ M:=Iff.rfl
theorem zBK:OkS (zA1 σ M) P ↔ P .nx σ M:=zRS
theorem zU:OkS (zV f g σ M) P ↔ OkS (f σ M) (nxP (fun σ1 M1=>OkS (g σ1 M1) P) P):=by
 unfold zV;constructor
 ·rintro ⟨o,σ1,M1,e,p⟩;split at e
  ·rename_i σ2 M2 e1;exact ⟨_,_,_,e1,o,σ1,M1,e,p⟩
  ·rename_i hn;refine ⟨o,σ1,M1,e,?_⟩;cases o with
   |nx=>exact absurd e (hn σ1 M1)
   |_=>exact p
 ·rintro ⟨o,σ1,M1,e1,p⟩;rw[e1];cases o with
  |nx=>exact p
  |_=>exact ⟨_,_,_,rfl,p⟩
theorem zBO {c:FT}:OkS (sIf c f g σ M) P ↔ Ok (c σ M) fun k M1=>if k then OkS (f σ M1) P else OkS (g σ M1) P:=by
 unfold sIf;constructor
 ·rintro ⟨o,σ1,M1,e,p⟩;split at e
  ·rename_i M2 e1;exact ⟨_,_,e1,by dsimp only;rw[zWz rfl];exact ⟨o,σ1,M1,e,p⟩⟩
  ·rename_i M2 e1;exact ⟨_,_,e1,by simpa using ⟨o,σ1,M1,e,p⟩⟩
  ·cases e
 ·rintro ⟨x,M1,e1,p⟩;rw[e1];cases x with
  |true=>simpa using p
  |false=>simpa using p
theorem zA8 {h:FE}:OkS (zAC h σ M) P ↔ Ok (h σ M) (zH1 fun d M1=>P (.ret d) σ M1):=by
 rw[<-zBN];unfold zAC;constructor
 ·rintro ⟨o,σ1,M1,e,p⟩;split at e
  ·rename_i d M2 e1;cases e;exact ⟨_,_,e1,p⟩
  ·cases e
 ·rintro ⟨x,M1,e1,p⟩;rw[e1];exact ⟨_,_,_,rfl,p⟩
theorem zm {i:Nat} {h:FE}:OkS (zAM i h σ M) P ↔ Ok (h σ M) (zH1 fun d M1=>P .nx (σ.set i (some d)) M1):=by
 rw[<-zBN];unfold zAM;constructor
 ·rintro ⟨o,σ1,M1,e,p⟩;split at e
  ·rename_i d M2 e1;cases e;exact ⟨_,_,e1,p⟩
  ·cases e
 ·rintro ⟨x,M1,e1,p⟩;rw[e1];exact ⟨_,_,_,rfl,p⟩
theorem zDN {h:FE}:OkS (zBm h σ M) P ↔ Ok (h σ M) fun _ M1=>P .nx σ M1:=by
 unfold zBm;constructor
 ·rintro ⟨o,σ1,M1,e,p⟩;split at e
  ·rename_i d M2 e1;cases e;exact ⟨_,_,e1,p⟩
  ·cases e
 ·rintro ⟨x,M1,e1,p⟩;rw[e1];exact ⟨_,_,_,rfl,p⟩
theorem zLF {v o i:FE}:OkS (zNq v o i σ M) P ↔ Ok (v σ M) (zH1 fun d M1=>Ok (o σ M1) fun x M2=>Ok (i σ M2) (zH1 fun j M3=>∃ M4,zLb x j d M3=some M4/\P .nx σ M4)):=by
 rw[<-zBN];unfold zNq;constructor
 ·rintro ⟨o,σ1,M1,e,p⟩;split at e
  ·rename_i d M2 e1;split at e
   ·rename_i x M3 e2;split at e
    ·rename_i j M4 e3;split at e
     ·rename_i M5 e4;cases e;refine ⟨_,_,e1,_,_,e2,?_⟩;dsimp only;rw[<-zBN];exact ⟨_,_,e3,_,e4,p⟩
     ·cases e
    ·cases e
   ·cases e
  ·cases e
 ·rintro ⟨d,M1,e1,x,M2,e2,p⟩;rw[<-zBN]at p;obtain ⟨j,M3,e3,M4,e4,p⟩:=p;rw[e1];dsimp only;rw[e2];dsimp only;rw[e3];dsimp only;rw[e4];exact ⟨_,_,_,rfl,p⟩
theorem zAS {n:Nat} {ds:List D} {Q:D->Mem->Prop}:Ok (zBc n f ds M) Q ↔ OkS (f (ds.map some++List.replicate (n-ds.length) none) M) fun o _ M1=>match o with|.ret d=>Q d M1|.nx=>Q .non M1|_=>False:=by
 unfold zBc;constructor
 ·rintro ⟨o,M1,e,p⟩;split at e
  ·rename_i d σ1 M2 e1;cases e;exact ⟨_,_,_,e1,p⟩
  ·rename_i σ1 M2 e1;cases e;exact ⟨_,_,_,e1,p⟩
  ·cases e
 ·rintro ⟨o,σ1,M1,e1,p⟩;rw[e1];cases o with
  |ret d=>exact ⟨_,_,rfl,p⟩
  |nx=>exact ⟨_,_,rfl,p⟩
  |brk=>exact p.elim
  |cnt=>exact p.elim
theorem zFZ {c:FT} {b:FS} (I:Nat->Sd->Mem->Prop) (hs:∀ m σ M,I m σ M->Ok (c σ M) fun k M1=>if k then OkS (b σ M1) fun o σ2 M2=>match o with|.nx=>∃ m',m'<m/\I m' σ2 M2|.cnt=>∃ m',m'<m/\I m' σ2 M2|.brk=>P .nx σ2 M2|.ret d=>P (.ret d) σ2 M2 else P .nx σ M1) :
  ∀ (n m:Nat) (σ:Sd) (M:Mem),m<n->I m σ M->OkS (zCY c b n σ M) P
 |0,m,σ,M,h,_=>absurd h (Nat.not_lt_zero _)
 |n+1,m,σ,M,h,hi=>by
  obtain ⟨k,M1,e,q⟩:=hs m σ M hi;unfold zCY;rw[e];cases k with
  |false=>exact ⟨_,_,_,rfl,by simpa using q⟩
  |true=>
   rw[zWz rfl]at q;obtain ⟨o,σ2,M2,e2,q⟩:=q;dsimp only;rw[e2];cases o with
   |nx=>obtain ⟨m',hm,q⟩:=q;exact zFZ I hs n m' σ2 M2 (by omega) q
   |cnt=>obtain ⟨m',hm,q⟩:=q;exact zFZ I hs n m' σ2 M2 (by omega) q
   |brk=>exact ⟨_,_,_,rfl,q⟩
   |ret d=>exact ⟨_,_,_,rfl,q⟩
theorem zBr {g:FG} {b:FS} {all:List D} {gd:Option (Mem->Prop)} (I:List D->Sd->Mem->Prop)
  (hs:∀ x r σ M,I (x::r) σ M->zBd gd all M /\ ∃ σ1,g x σ=some σ1/\OkS (b σ1 M) fun o σ2 M2=>match o with|.nx=>I r σ2 M2|.cnt=>I r σ2 M2|.brk=>P .nx σ2 M2|.ret d=>P (.ret d) σ2 M2)
  (he:∀ σ M,I [] σ M->zBd gd all M/\P .nx σ M):∀ (xs:List D) (σ:Sd) (M:Mem),I xs σ M->OkS (zDi g b all gd xs σ M) P
 |[],σ,M,hi=>by
  unfold zDi;obtain ⟨h1,h2⟩:=he σ M hi;rw[zWz h1];exact ⟨_,_,_,rfl,h2⟩
 |x::r,σ,M,hi=>by
  unfold zDi;obtain ⟨h1,σ1,e1,o,σ2,M2,e2,q⟩:=hs x r σ M hi;rw[zWz h1,e1];dsimp only;rw[e2];cases o with
  |nx=>exact zBr I hs he r σ2 M2 q
  |cnt=>exact zBr I hs he r σ2 M2 q
  |brk=>exact ⟨_,_,_,rfl,q⟩
  |ret d=>exact ⟨_,_,_,rfl,q⟩
theorem zBV {i:FI} {g:FG} {b:FS}:OkS (zC2 i g b σ M) P ↔ ∃ xs gd M1,i σ M=some (xs,gd,M1)/\OkS (zDi g b xs gd xs σ M1) P:=by
 unfold zC2;constructor
 ·rintro ⟨o,σ1,M1,e,p⟩;split at e
  ·rename_i xs gd M2 e1;exact ⟨_,_,_,e1,_,_,_,e,p⟩
  ·cases e
 ·rintro ⟨xs,gd,M1,e1,p⟩;rw[e1];exact p
theorem zFK {g:FG} {tc:FT} {te:FE} {all:List D} {gd:Option (Mem->Prop)} (I:List D->List D->Mem->Prop)
  (hs:∀ x r acc M,I (x::r) acc M->zBd gd all M /\ ∃ σ1,g x σ=some σ1/\Ok (tc σ1 M) fun k M1=>if k then Ok (te σ1 M1) (zH1 fun d M2=>I r (acc++[d]) M2) else I r acc M1)
  {Q:List D->Mem->Prop} (he:∀ acc M,I [] acc M->zBd gd all M/\Q acc M):∀ (xs acc:List D) (M:Mem),I xs acc M->Ok (zBf g tc te σ all gd xs M) fun ys M1=>Q (acc++ys) M1
 |[],acc,M,hi=>by
  unfold zBf;obtain ⟨h1,h2⟩:=he acc M hi;rw[zWz h1];exact ⟨_,_,rfl,by simpa using h2⟩
 |x::r,acc,M,hi=>by
  unfold zBf;obtain ⟨h1,σ1,e1,k,M1,e2,q⟩:=hs x r acc M hi;rw[zWz h1,e1];dsimp only;rw[e2];cases k with
  |false=>exact zFK I hs he r acc M1 (by simpa using q)
  |true=>
   rw[zWz rfl,<-zBN]at q;obtain ⟨d,M2,e3,q⟩:=q;dsimp only;rw[e3];obtain ⟨ys,M3,e4,p⟩:=zFK I hs he r (acc++[d]) M2 q;dsimp only;rw[e4];exact ⟨_,_,rfl,by simpa using p⟩
theorem zGP {own:List Nat} {i:FI} {g:FG} {tc:FT} {te:FE} {Q:EV->Mem->Prop}:Ok (zAf own i g tc te σ M) Q ↔ ∃ xs gd M1,i σ M=some (xs,gd,M1)/\xs.length<=sizeLine/\Ok (zBf g tc te (zBo own σ) xs gd xs M1) fun ys M2=>Q (.fl ys) M2:=by
 unfold zAf;constructor
 ·rintro ⟨o,M1,e,p⟩;split at e
  ·rename_i xs gd M2 e1;split at e
   ·rename_i hz;split at e
    ·rename_i ys M3 e2;cases e;exact ⟨_,_,_,e1,hz,_,_,e2,p⟩
    ·cases e
   ·cases e
  ·cases e
 ·rintro ⟨xs,gd,M1,e1,hz,ys,M2,e2,p⟩;rw[e1];dsimp only;rw[zWz hz,e2];exact ⟨_,_,rfl,p⟩
theorem zGZ {h:FE} {x:EV} {M1:Mem} {xs:List D} (e:h σ M=some (x,M1)) (e2:zBJ M1 x=some xs):zBA h σ M=some (xs,zF8 x xs,M1):=by
 unfold zBA;rw[e];dsimp only;rw[e2]
theorem zNe {a:FA} {M1:Mem} {j:Int} (e:a σ M=some ([.int j],M1)) (h1:0<=j) (h2:j<2 ^ 62):zAc a σ M=some ((List.range j.toNat).map fun (k:Nat)=>D.int k,none,M1):=by
 unfold zAc;rw[e];dsimp only;rw[zWz ⟨by omega,h2⟩]
end
section
variable {M:Mem} {P:EV->Mem->Prop} {i j:Int}
theorem zG9:Ok (zAZ (.dat (.int i)) (.dat (.int j)) M) P ↔ P (.dat (.int (i+j))) M:=zAO
theorem zQY:Ok (zOv (.dat (.int i)) (.dat (.int j)) M) P ↔ zPL i j=true/\P (.dat (.int (i*j))) M:=by
 unfold zOv kI;dsimp only;split
 ·rename_i h;rw[zAO];simp[h]
 ·rename_i h;rw[zGf];simp[h]
theorem zHS:Ok (zGb (.dat (.int i)) (.dat (.int j)) M) P ↔ 0<j/\P (.dat (.int (i % j))) M:=by
 unfold zGb kI;dsimp only;split
 ·rename_i h;rw[zAO];simp at h;simp[h]
 ·rename_i h;rw[zGf];simp at h;simp;intro h';omega
theorem zRg:Ok (zPx (.dat (.int i)) (.dat (.int j)) M) P ↔ (0<j/\j<1073741824)/\P (.dat (.int (i / j))) M:=by
 unfold zPx kI;dsimp only;split
 ·rename_i h;rw[zAO];simp at h;simp[h]
 ·rename_i h;rw[zGf];simp at h;simp;intro h' h2;have:=h h';omega
theorem zQx:Ok (zLr (.dat (.int i)) (.dat (.int j)) M) P ↔ (0<=j/\j<=1000000/\i.natAbs<2 ^ 64)/\P (.dat (.int (i ^ j.toNat))) M:=by
 unfold zLr kI;dsimp only;split
 ·rename_i h;rw[zAO];simp only[zXK,zXx]at h;simp[h]
 ·rename_i h;rw[zGf];simp only[zXK,zXx,not_and]at h;simp only[false_iff,not_and];intro ⟨a,b,c⟩;exact absurd c (h ⟨a,b⟩)
theorem zRu:Ok (kLt (.dat (.int i)) (.dat (.int j)) M) P ↔ P (.dat (.bl (decide (i<j)))) M:=zAO
theorem zVb:Ok (kLe (.dat (.int i)) (.dat (.int j)) M) P ↔ P (.dat (.bl (decide (i<=j)))) M:=zAO
theorem zVN:Ok (kGt (.dat (.int i)) (.dat (.int j)) M) P ↔ P (.dat (.bl (decide (j<i)))) M:=zAO
theorem zWg:Ok (kGe (.dat (.int i)) (.dat (.int j)) M) P ↔ P (.dat (.bl (decide (j<=i)))) M:=zAO
theorem zMp:Ok (kEq (.dat (.int i)) (.dat (.int j)) M) P ↔ P (.dat (.bl (decide (i=j)))) M:=by
 have:kEq (.dat (.int i)) (.dat (.int j)) M=some (.dat (.bl (decide (V.int i=V.int j))),M):=rfl;rw[this,zAO];simp
theorem zQz:Ok (kNe (.dat (.int i)) (.dat (.int j)) M) P ↔ P (.dat (.bl (decide (i≠j)))) M:=by
 have:kNe (.dat (.int i)) (.dat (.int j)) M=some (.dat (.bl (!decide (V.int i=V.int j))),M):=rfl;rw[this,zAO];simp
theorem zV3 {xs ys:List D}:Ok (zAZ (.dat (.tup xs)) (.dat (.tup ys)) M) P ↔ xs.length+ys.length<=sizeLine/\P (.dat (.tup (xs++ys))) M:=by
 have:zAZ (.dat (.tup xs)) (.dat (.tup ys)) M=zL0 (.dat (.tup xs)) (.dat (.tup ys)) M:=rfl;rw[this];unfold zL0;dsimp only[zDg];split
 ·rename_i h;rw[zAO];simp[h]
 ·rename_i h;rw[zGf];simp[h]
theorem zK7 {x:EV} {xs:List D} (h:zB8 M x=some xs) (hx:∀ d,x=.dat d->zHU d=none):Ok (kNe x (.fl []) M) P ↔ P (.dat (.bl (!xs.isEmpty))) M:=by
 have e1:zNW true x (.fl []) M=none:=by cases x <;> rfl
 have e2:kNe x (.fl []) M=some (.dat (.bl (!xs.isEmpty)),M):=by
  unfold kNe kOr;rw[e1];unfold zQq;rw[h];rfl
 rw[e2,zAO]
theorem zQh {x:EV} {xs:List D} {d:D} (h:zBJ M x=some xs) (hd:atI xs i=some d) (p:P (.dat d) M):Ok (kIx x (.dat (.int i)) M) P:=by
 have:kIx x (.dat (.int i)) M=some (.dat d,M):=by unfold kIx;dsimp only;rw[h];dsimp only;rw[hd]
 rw[this,zAO];exact p
theorem zMw {xs:List D} {k:Nat} {d:D} (h:xs[k]?=some d):atI xs (k:Int)=some d:=zOG h
theorem zHK {xs:List D} {i:Int} {d:D} (h0:0<=i) (h:xs[i.toNat]?=some d):atI xs i=some d:=by
 have:i=((i.toNat:Nat):Int):=by omega
 rw[this];exact zOG h
theorem zTq {x:EV} {xs:List D} (h:zBJ M x=some xs):Ok (zAx [x] M) P ↔ P (.dat (.int xs.length)) M:=by
 have:zAx [x] M=some (.dat (.int xs.length),M):=by unfold zAx;dsimp only;rw[h]
 rw[this,zAO]
theorem zKi {x:EV} {xs:List D} (h:zBJ M x=some xs):Ok (zB5 [x] M) P ↔ P (.dat (.tup xs)) M:=by
 have:zB5 [x] M=some (.dat (.tup xs),M):=by unfold zB5;dsimp only;rw[h]
 rw[this,zAO]
theorem zTd:Ok (zPg [.dat (.int i)] M) P ↔ P (.dat (.int (if i<0 then -i else i))) M:=zAO
theorem zKd {x:EV} {xs:List D} {lo hi:Option Int} (h:zB8 M x=some xs) (ht:zDg x=none):Ok (kSl x lo hi M) P ↔ P (.fl (zC4 xs lo hi)) M:=by
 have:kSl x lo hi M=some (.fl (zC4 xs lo hi),M):=by unfold kSl;rw[ht];dsimp only;rw[h]
 rw[this,zAO]
theorem zAN {xs:List D}:zBJ M (.dat (.tup xs))=some xs:=rfl
theorem zE9 {xs:List D}:zBJ M (.fl xs)=some xs:=rfl
theorem zUe {xs:List D}:zB8 M (.fl xs)=some xs:=rfl
theorem zBl {n:Nat} {xs:List D} (h:M[n]?=some (.lst xs)):zB8 M (.dat (.ref n))=some xs:=by unfold zB8;dsimp only;rw[h]
theorem zKq {n:Nat} {xs:List D} (h:M[n]?=some (.fro xs)):zB8 M (.dat (.ref n))=some xs:=by unfold zB8;dsimp only;rw[h]
theorem zAJ {n:Nat} {xs:List D} (h:M[n]?=some (.lst xs)):zBJ M (.dat (.ref n))=some xs:=zBl h
theorem zSy {n:Nat} {xs:List D} (h:M[n]?=some (.fro xs)):zBJ M (.dat (.ref n))=some xs:=zKq h
theorem zH5 {n:Nat} {xs:List D} {d:D} {Q:D->Mem->Prop} (h:M[n]?=some (.lst xs)) (hz:xs.length<sizeLine):Ok (zA7 (.dat (.ref n)) [d] M) Q ↔ Q .non (M.set n (.lst (xs++[d]))):=by
 have:zA7 (.dat (.ref n)) [d] M=some (.non,M.set n (.lst (xs++[d]))):=by unfold zA7;dsimp only;rw[h];dsimp only;rw[zWz hz]
 rw[this,zAO]
theorem zUa {n:Nat} {x:D} {xs:List D} {Q:D->Mem->Prop} (h:M[n]?=some (.lst (x::xs))):Ok (zMc (.dat (.ref n)) [.int 0] M) Q ↔ Q x (M.set n (.lst xs)):=by
 have:zMc (.dat (.ref n)) [.int 0] M=some (x,M.set n (.lst xs)):=by
  unfold zMc;dsimp only;rw[h];dsimp only;have e:ixN (x::xs).length 0=some 0:=by unfold ixN;rw[zWz (by omega),zWz (by simp)];rfl
  rw[e];dsimp only[List.getElem?_cons_zero];rw[zWz (by decide)];rfl
 rw[this,zAO]
theorem zIY {n k:Nat} {xs:List D} {d:D} (h:M[n]?=some (.lst xs)) (hk:k<xs.length):zLb (.dat (.ref n)) (.int k) d M=some (M.set n (.lst (xs.set k d))):=by
 unfold zLb;dsimp only;rw[h];dsimp only;have e:ixN xs.length (k:Int)=some k:=by unfold ixN;rw[zWz (by omega),zWz (by omega)];simp
 rw[e]
end
theorem zOP {m:FF} {ds:List D} {M:Mem} {Q:D->Mem->Prop} (h:Ok (m ds M) fun d M1=>(D.und M.length d=true/\M.length<=M1.length /\ ∀ (j:Nat) u,j<M.length->M1[j]?=some u->MO.und M.length u=true)/\Q d (M1.take M.length)):Ok (zHe m ds M) Q:=by
 obtain ⟨d,M1,e,⟨h1,h2,h3⟩,q⟩:=h;unfold zHe;rw[e];dsimp only;rw[zWz]
 ·exact ⟨_,_,rfl,q⟩
 ·simp only[zXK,zXx,zXL];refine ⟨⟨h1,fun u hu=>?_⟩,h2⟩;obtain ⟨j,hj⟩:=List.getElem?_of_mem hu;have hlt:j<M.length:=by
   have:=(zWn.mp hj).1;rw[zX8]at this;omega
  rw[List.getElem?_take_of_lt hlt]at hj;exact h3 j u hlt hj
theorem zKn {m:FF} {ds:List D} {M:Mem} {Q:D->Mem->Prop} (h0:D.unds 0 ds=true) (h:Ok (m ds []) fun d _=>D.und 0 d=true/\Q d M):Ok (zHz m ds M) Q:=by
 obtain ⟨d,M1,e,h1,q⟩:=h;unfold zHz;rw[zWz h0,e];dsimp only;rw[zWz h1];exact ⟨_,_,rfl,q⟩
section
variable {prog:Program} {w:World} {A:Around} {E:Value->Shared->Prop} {s:Shared}
theorem TIt.but (x:h.IsTupleIter a t i) (hs:Heap.ExtBut b h h') (n:a≠b):h'.IsTupleIter a t i:=x.extBut hs n
theorem Tup.but (x:h.IsTuple a its) (hs:Heap.ExtBut b h h') (n:a≠b):h'.IsTuple a its:=x.extBut hs n
theorem zEb (I:s.heap.IsTupleIter it t i) (T:s.heap.IsTuple t its) (hx:its[i]?=some x)
  (q:∀ h',h'.IsTupleIter it t (i+1)->Heap.SameBut it s.heap h'->Q x { s with heap:=h' }):wpAny (model prog w) A (Builtin.SmallTypes.nextOf (.ref it)) Q E s:=by
 obtain ⟨o,O,C,FD⟩:=id I;obtain ⟨u,U,_,m,G⟩:=T;unfold Builtin.SmallTypes.nextOf;refine zWk (zXM (name:=Str.ofString "__next__") I.typeIs PySem.F.slot_tuple_iterator_next (zXN PySem.F.slot_tuple_iterator_next I.typeIs PySem.F.entry_tuple_iterator_next ?_ (PySem.F.args_tuple_iterator_next_1 _)));refine zWk (m:=field (.ref it) 0) (zXP O FD (x:=.ref t) rfl ?_);rw[zW2 (show ¬ ((Value.ref t==Value.none)=true) by exact zW6)];refine zWk (m:=field (.ref it) 1) (zXP O FD (x:=.int i 0) rfl ?_);refine zWk (m:=seqItems? (.ref t)) (zXa U G ?_);simp only[hx,Int.toNat_natCast];refine zWk (zYV O FD (by simp) (zWm ⟨x,rfl,zWm (q _ ⟨_,zXX _ O (Obj.isFreed_of_fields (zX1 FD _)),(Obj.cls_mapFields ..).trans C,?_⟩ (zXn ..))⟩));rw[zX1 FD];simp[rawInt]
theorem zFW (hh:A.handled=none) (I:s.heap.IsTupleIter it t i) (T:s.heap.IsTuple t its) (hx:its[i]?=none)
  (q:∀ h' e,Heap.ExtBut it s.heap h'->(∃ o,h'.get? e=some o/\o.cls=.type "StopIteration")->E (.ref e) { s with heap:=h' }):wpAny (model prog w) A (Builtin.SmallTypes.nextOf (.ref it)) Q E s:=by
 obtain ⟨o,O,C,FD⟩:=id I;obtain ⟨u,U,_,m,G⟩:=T;unfold Builtin.SmallTypes.nextOf;refine zWk (zXM (name:=Str.ofString "__next__") I.typeIs PySem.F.slot_tuple_iterator_next (zXN PySem.F.slot_tuple_iterator_next I.typeIs PySem.F.entry_tuple_iterator_next ?_ (PySem.F.args_tuple_iterator_next_1 _)));refine zWk (m:=field (.ref it) 0) (zXP O FD (x:=.ref t) rfl ?_);rw[zW2 (show ¬ ((Value.ref t==Value.none)=true) by exact zW6)];refine zWk (m:=field (.ref it) 1) (zXP O FD (x:=.int i 0) rfl ?_);refine zWk (m:=seqItems? (.ref t)) (zXa U G ?_);simp only[hx,Int.toNat_natCast];refine zWk (zX7 (zWk (zYV O FD (by simp) ?_)));refine zWk (m:=newExc (.type "StopIteration") []) ?_;simp only[newTuple,newExc];refine zWk (zXD (zWk (m:=firstArgMember _ _) (wpAny_of_eq (a:=Value.none) (by first|rfl|(simp only[firstArgMember];rfl)) (zXD ?_ (by size_fits)))) (by size_fits));simp only[raiseNew];refine zWk (wpAny_handled ?_);first|rw[hh]|rw[show A.in1.handled=none from hh]
 exact zWk (zWm (wpAny_throw (q _ _ (((zXn ..).extBut.push _).push _) ⟨_,zWu _ rfl,rfl⟩)))
structure ZipT (h:Heap) (z TI TO i1 i2 t1 t2:Addr) (f:Value) (k1 k2:Nat):Prop where
 z:IsZip h z TI TO f
 ti:IsPair h TI (.ref i1) (.ref i2)
 to:∃ a b,IsPair h TO a b
 a:h.IsTupleIter i1 t1 k1
 b:h.IsTupleIter i2 t2 k2
theorem zPv {z TI TO i1 i2 t1 t2:Addr} {k:Nat} {xs ys:Array Value} {x y:Value} {Q:Option Value->Shared->Prop} (D:ZipApart z TI TO i1 i2 t1 t2) (Z:ZipT s.heap z TI TO i1 i2 t1 t2 .none k k)
  (T1:s.heap.IsTuple t1 xs) (T2:s.heap.IsTuple t2 ys) (hx:xs[k]?=some x) (hy:ys[k]?=some y)
  (q:∀ h',ZipT h' z TI TO i1 i2 t1 t2 (rawInt s.heap.objs.size) (k+1) (k+1)->IsPair h' s.heap.objs.size x y ->
   (∀ c o,c∉[z,TO,i1,i2]->s.heap.get? c=some o->h'.get? c=some o)->Q (some (.ref s.heap.objs.size)) { s with heap:=h' }):wpAny (model prog w) A (pyNext (.ref z)) Q E s:=by
 obtain ⟨Z0,P0,⟨a,b,O0⟩,I1,I2⟩:=Z;have ty:s.TypeIs (.ref z) "zip" := ⟨_,Z0,rfl⟩;unfold pyNext;refine zWk (wpAny_attempt (zXM (name:=Str.ofString "__next__") ty PySem.F.slot_zip_next (zXN PySem.F.slot_zip_next ty PySem.F.entry_zip_next ?_ (PySem.F.args_zip_next_1 _))));refine zWk (m:=field (.ref z) 2) (zXP Z0 rfl (x:=.bool false) rfl ?_);refine zWk (m:=field (.ref z) 3) (zXP Z0 rfl (x:=.ref TI) rfl ?_);refine zWk (zXa P0 rfl ?_);refine zWk (m:=Builtin.SmallTypes.ownedTupleIsFree (.ref z)) ?_;unfold Builtin.SmallTypes.ownedTupleIsFree;refine zWk (zXP Z0 rfl (x:=.none) rfl (zWm ?_));simp only[if_true];refine zWk (zX7 (zWk (zXP Z0 rfl (x:=.ref TO) rfl (zWk (zX0 Z0 (by simp) fun h1 Z1 e1=>?_)))));replace Z1:IsZip h1 z TI TO .ellipsis:=Z1;refine zWk ?_;simp only[List.forIn_cons,List.forIn_nil,List.zipIdx_cons,List.zipIdx_nil];refine zWk (zWk (wpAny_onRaise (zWk (m:=Builtin.SmallTypes.nextOf (.ref i1)) (zEb (TIt.but I1 e1.extBut D.i1z) (Tup.but T1 e1.extBut D.l1z) hx fun h2 J1 e2=>zWm ?_))));have O2:IsPair h2 TO a b:=e2.extBut _ _ D.TOi1 (e1.extBut _ _ D.TOz O0);refine zWk (zXa O2 rfl (zWk (wpAny_updateSeq_pair O2 fun h3 O3 e3=>zWk (wpAny_letGo (zWm ?_)))));replace O3:IsPair h3 TO x b:=O3
 refine zWk (zWk (wpAny_onRaise (zWk (m:=Builtin.SmallTypes.nextOf (.ref i2)) (zEb (TIt.but (TIt.but (TIt.but I2 e1.extBut D.i2z) e2.extBut D.i12.symm) e3.extBut D.TOi2.symm)
  (Tup.but (Tup.but (Tup.but T2 e1.extBut D.l2z) e2.extBut D.l2i1) e3.extBut D.l2TO) hy fun h4 J2 e4=>zWm ?_))))
 have O4:IsPair h4 TO x b:=e4.extBut _ _ D.TOi2 O3;refine zWk (zXa O4 rfl (zWk (wpAny_updateSeq_pair O4 fun h5 O5 e5=>zWk (wpAny_letGo (zWm (zWm ?_))))));replace O5:IsPair h5 TO x y:=O5;refine zWk (zXa O5 rfl (zWk (wpAny_newTuple ?_)));have sz:h5.objs.size=s.heap.objs.size:=by rw[e5.1,e4.1,e3.1,e2.1,e1.1]
 have Z5:IsZip h5 z TI TO .ellipsis:=e5.extBut _ _ D.TOz.symm (e4.extBut _ _ D.i2z.symm (e3.extBut _ _ D.TOz.symm (e2.extBut _ _ D.i1z.symm Z1)));have kp:∀ c o,c∉[z,TO,i1,i2]->s.heap.get? c=some o->h5.get? c=some o:=fun c o n e=>by
  simp only[zWw,zXF,zX5,not_or]at n;obtain ⟨n1,n2,n3,n4⟩:=n;exact e5.extBut _ _ n2 (e4.extBut _ _ n4 (e3.extBut _ _ n2 (e2.extBut _ _ n3 (e1.extBut _ _ n1 e))))
 have A5:h5.IsTupleIter i1 t1 (k+1):=TIt.but (TIt.but (TIt.but J1 e3.extBut D.TOi1.symm) e4.extBut D.i12) e5.extBut D.TOi1.symm;have B5:h5.IsTupleIter i2 t2 (k+1):=TIt.but J2 e5.extBut D.TOi2.symm;have zl:z<h5.objs.size:=zWv Z5;refine zWk (m:=Builtin.SmallTypes.ownedTupleHandOut (.ref z) (.ref h5.objs.size)) ?_;unfold Builtin.SmallTypes.ownedTupleHandOut;have Z6:IsZip (h5.push { cls:=.type "tuple", data:=.seq #[x,y] }) z TI TO .ellipsis:=zWl _ Z5;refine zWk (zX0 Z6 (by simp) fun h7 Z7 e7=>?_);replace Z7:IsZip h7 z TI TO (rawInt h5.objs.size):=Z7;refine zX0 Z7 (by simp) fun h8 Z8 e8=>?_;replace Z8:IsZip h8 z TI TO (rawInt h5.objs.size):=Z8;have up:∀ c o,c≠z->h5.get? c=some o->h8.get? c=some o:=fun c o n e=>e8.extBut _ _ n (e7.extBut _ _ n (zWl _ e));have N8:IsPair h8 h5.objs.size x y:=e8.extBut _ _ (zYF zl) (e7.extBut _ _ (zYF zl) (zWu _ rfl));rw[sz]at Z8 N8;refine zWm ⟨_,rfl,?_⟩;rw[sz];refine zWm (q h8 ⟨Z8,up _ _ D.TIz (kp _ _ (by simp[D.TIz,D.TITO,D.TIi1,D.TIi2]) P0),⟨_,_,up _ _ D.TOz O5⟩,?_,?_⟩ N8 fun c o n e=>up c o (fun m=>n (by simp[m])) (kp c o n e))
 ·obtain ⟨o,e,r⟩:=A5;exact ⟨o,up _ _ D.i1z e,r⟩
 ·obtain ⟨o,e,r⟩:=B5;exact ⟨o,up _ _ D.i2z e,r⟩
theorem zQK {z TI TO i1 i2 t1 t2:Addr} {k:Nat} {xs ys:Array Value} {Q:Option Value->Shared->Prop} (hh:A.handled=none) (D:ZipApart z TI TO i1 i2 t1 t2) (Z:ZipT s.heap z TI TO i1 i2 t1 t2 .none k k)
  (T1:s.heap.IsTuple t1 xs) (T2:s.heap.IsTuple t2 ys) (he:xs[k]?=none\/ys[k]?=none)
  (q:∀ h',(∀ c o,c∉[z,TO,i1,i2]->s.heap.get? c=some o->h'.get? c=some o)->Q none { s with heap:=h' }):wpAny (model prog w) A (pyNext (.ref z)) Q E s:=by
 obtain ⟨Z0,P0,⟨a,b,O0⟩,I1,I2⟩:=Z;have ty:s.TypeIs (.ref z) "zip" := ⟨_,Z0,rfl⟩
 have stop:∀ (e:Addr) (h':Heap),(∀ c o,c∉[z,TO,i1,i2]->s.heap.get? c=some o->h'.get? c=some o)->(∃ o,h'.get? e=some o/\o.cls=.type "StopIteration") ->
   wpAny (model prog w) A (do if (<- isInstance (.ref e) (.type "StopIteration")) then pure none else throw (.ref e):Sem (Option Value)) Q E { s with heap:=h' }:=fun e h' k1 ⟨o,e1,e2⟩=>
  zWk (wpAny_isInstance (T := "StopIteration") (b:=true) ⟨o,e1,e2⟩ isSubtype_stop (zWm (q h' k1)))
 unfold pyNext;refine zWk (wpAny_attempt (zXM (name:=Str.ofString "__next__") ty PySem.F.slot_zip_next (zXN PySem.F.slot_zip_next ty PySem.F.entry_zip_next ?_ (PySem.F.args_zip_next_1 _))));refine zWk (m:=field (.ref z) 2) (zXP Z0 rfl (x:=.bool false) rfl ?_);refine zWk (m:=field (.ref z) 3) (zXP Z0 rfl (x:=.ref TI) rfl ?_);refine zWk (zXa P0 rfl ?_);refine zWk (m:=Builtin.SmallTypes.ownedTupleIsFree (.ref z)) ?_;unfold Builtin.SmallTypes.ownedTupleIsFree;refine zWk (zXP Z0 rfl (x:=.none) rfl (zWm ?_));simp only[if_true];refine zWk (zX7 (zWk (zXP Z0 rfl (x:=.ref TO) rfl (zWk (zX0 Z0 (by simp) fun h1 Z1 e1=>?_)))));replace Z1:IsZip h1 z TI TO .ellipsis:=Z1;refine zWk ?_;simp only[List.forIn_cons,List.forIn_nil,List.zipIdx_cons,List.zipIdx_nil];cases hx:xs[k]? with
 |none=>
  refine zWk (zWk (wpAny_onRaise (zWk (m:=Builtin.SmallTypes.nextOf (.ref i1)) (zFW hh (TIt.but I1 e1.extBut D.i1z) (Tup.but T1 e1.extBut D.l1z) hx fun h2 e e2 he=>?_))));obtain ⟨oe,o1,o2⟩:=he;have Z2:IsZip h2 z TI TO .ellipsis:=e2 _ _ D.i1z.symm Z1;have ne:e≠z:=fun m=>by subst m;rw[Z2]at o1;cases o1;simp at o2
  refine zX0 Z2 (by simp) fun h3 _ e3=>stop e h3 (fun c o n x=>?_) ⟨oe,e3.extBut _ _ ne o1,o2⟩;simp only[zWw,zXF,zX5,not_or]at n;exact e3.extBut _ _ n.1 (e2 _ _ n.2.2.1 (e1.extBut _ _ n.1 x))
 |some x=>
  have hy:ys[k]?=none:=by
   rcases he with m|m
   ·rw[hx]at m;cases m
   ·exact m
  refine zWk (zWk (wpAny_onRaise (zWk (m:=Builtin.SmallTypes.nextOf (.ref i1)) (zEb (TIt.but I1 e1.extBut D.i1z) (Tup.but T1 e1.extBut D.l1z) hx fun h2 J1 e2=>zWm ?_))));have O2:IsPair h2 TO a b:=e2.extBut _ _ D.TOi1 (e1.extBut _ _ D.TOz O0);refine zWk (zXa O2 rfl (zWk (wpAny_updateSeq_pair O2 fun h3 O3 e3=>zWk (wpAny_letGo (zWm ?_)))))
  refine zWk (zWk (wpAny_onRaise (zWk (m:=Builtin.SmallTypes.nextOf (.ref i2)) (zFW hh (TIt.but (TIt.but (TIt.but I2 e1.extBut D.i2z) e2.extBut D.i12.symm) e3.extBut D.TOi2.symm)
   (Tup.but (Tup.but (Tup.but T2 e1.extBut D.l2z) e2.extBut D.l2i1) e3.extBut D.l2TO) hy fun h4 e e4 he=>?_))))
  obtain ⟨oe,o1,o2⟩:=he;have Z4:IsZip h4 z TI TO .ellipsis:=e4 _ _ D.i2z.symm (e3.extBut _ _ D.TOz.symm (e2.extBut _ _ D.i1z.symm Z1));have ne:e≠z:=fun m=>by subst m;rw[Z4]at o1;cases o1;simp at o2
  refine zX0 Z4 (by simp) fun h5 _ e5=>stop e h5 (fun c o n x=>?_) ⟨oe,e5.extBut _ _ ne o1,o2⟩;simp only[zWw,zXF,zX5,not_or]at n;exact e5.extBut _ _ n.1 (e4 _ _ n.2.2.2 (e3.extBut _ _ n.2.1 (e2.extBut _ _ n.2.2.1 (e1.extBut _ _ n.1 x))))
abbrev zT1 (h:Heap) (a:Addr):Heap:=h.push { cls:=.type "tuple_iterator", data:=.fields #[.ref a,.int 0 0] }
abbrev zT2 (h:Heap) (a b:Addr):Heap:=zT1 (zT1 h a) b
abbrev zT3 (h:Heap) (a b:Addr):Heap:=(zT2 h a b).push { cls:=.type "tuple", data:=.seq #[.ref h.objs.size,.ref (zT1 h a).objs.size] }
abbrev zT4 (h:Heap) (a b:Addr):Heap:=(zT3 h a b).push { cls:=.type "tuple", data:=.seq #[.none,.none] }
abbrev zT5 (h:Heap) (a b:Addr):Heap:=(zT4 h a b).push { cls:=.type "zip", data:=.fields #[.none,.bool false,.bool false,.ref (zT2 h a b).objs.size,.ref (zT3 h a b).objs.size] }
theorem zMt (a b:Addr) (xs ys:Array Value):Meets (Builtin.«zip.__new__» ⟨[.type "zip", .ref a,.ref b],[]⟩) (fun _ R s=>s.heap.IsTuple a xs/\s.heap.IsTuple b ys/\R (.ok (.ret (.ref (zT4 s.heap a b).objs.size))) { s with heap:=zT5 s.heap a b }) :=
 .of_wp fun prog w A R s h=>by
  obtain ⟨hp,g,d,tk,os⟩:=s;obtain ⟨Ta,Tb,h⟩:=h;have sz:=sub_zip;have U1:Heap.IsTuple (Shared.heap ⟨hp,g,d,tk,os⟩) a xs:=Ta;have U2:Heap.IsTuple (Shared.heap ⟨hp.push { cls:=.type "tuple_iterator", data:=.fields #[.ref a,.int 0 0] },g,d,tk,os⟩) b ys:=Heap.IsTuple.push Tb _;wp_walk using wpAny_pyIter_tuple U1,wpAny_pyIter_tuple U2;exact ⟨_,rfl,h⟩
theorem zRi (Ta:s.heap.IsTuple a xs) (Tb:s.heap.IsTuple b ys)
  (h:∀ h',ZipT h' (s.heap.objs.size+4) (s.heap.objs.size+2) (s.heap.objs.size+3) s.heap.objs.size (s.heap.objs.size+1) a b .none 0 0->(∀ c o,s.heap.get? c=some o->h'.get? c=some o)->Q (.ref (s.heap.objs.size+4)) { s with heap:=h' }) :
  wpAny (model prog w) A (call (.type "zip") [.ref a,.ref b]) Q E s:=by
 refine callType_new PySem.F.called_zip (by decide) (PySem.F.typeCall_zip_2 _ _) (PySem.F.newCall_zip_2 _ _) (fun obj=>PySem.F.args_object_init_3 obj _ _) PySem.F.entry_zip_new (zMt a b xs ys) ⟨Ta,Tb,?_⟩;have q1:(zT1 s.heap a).objs.size=s.heap.objs.size+1:=zXQ ..;have q2:(zT2 s.heap a b).objs.size=s.heap.objs.size+2:=by rw[zXQ,q1]
 have q3:(zT3 s.heap a b).objs.size=s.heap.objs.size+3:=by rw[zXQ,q2]
 have q4:(zT4 s.heap a b).objs.size=s.heap.objs.size+4:=by rw[zXQ,q3]
 have u:∀ {h:Heap} {c:Addr} {o p:Obj},h.get? c=some o->(h.push p).get? c=some o:=fun e=>zWl _ e;have p5:(zT5 s.heap a b).get? (zT4 s.heap a b).objs.size=some _:=zWu _ rfl;have p4:(zT5 s.heap a b).get? (zT3 s.heap a b).objs.size=some _:=u (zWu _ rfl);have p3:(zT5 s.heap a b).get? (zT2 s.heap a b).objs.size=some _:=u (u (zWu _ rfl));have p2:(zT5 s.heap a b).get? (zT1 s.heap a).objs.size=some _:=u (u (u (zWu _ rfl)));have p1:(zT5 s.heap a b).get? s.heap.objs.size=some _:=u (u (u (u (zWu _ rfl))));show _/\_;rw[q2,q3,q4]at p5;rw[q1,q2]at p3;rw[q3]at p4;rw[q1]at p2;rw[q4];exact ⟨⟨_,p5,rfl⟩,h _ ⟨p5,p3,⟨_,_,p4⟩,⟨_,p1,rfl,rfl⟩,⟨_,p2,rfl,rfl⟩⟩ fun c o x=>u (u (u (u (u x))))⟩
end
theorem zEz {X:Cx} {zB:List (Addr × Obj)} {σ:L2.St} {H:Hp} {s:Shared} {h':Heap} {t':Nat} {ch:List Addr} {T:Addr} {o:HO} (I:Inv X zB σ H s) (hf:∀ b∈ch,zDB X zB H b)
  (k:∀ b u,b∉ch->s.heap.get? b=some u->h'.get? b=some u) (hT:s.heap.objs.size<=T) (new:zAl X.prog X.w (upd H T o) h' T o):Inv X zB σ (upd H T o) { s with heap:=h',toks:=t' }:=by
 have hn:H T=none:=I.hok.fresh hT;have nch:∀ b u,H b=some u->b∉ch:=fun b u e z=>by rw[(hf b z).1]at e;cases e
 have un:∀ b u,H b=some u->upd H T o b=some u:=fun b u e=>by rw[zn (zAa e hn)];exact e
 refine I.step (g':=s.gens) (d':=s.drawn) (ch:=ch) (fun b hb=>⟨(hf b hb).2.2.2.1,(hf b hb).2.1,(hf b hb).2.2.2.2.1,(hf b hb).2.2.2.2.2⟩) (fun b u _ _ hc e _=>k b u hc e) (fun b u _ _ hc e _=>⟨u.slots,k b u hc e⟩)
  (fun b u _ e n=>by rw[zn (fun z=>by rw[z]at e;exact absurd (zWv e) (Nat.not_lt.mpr hT))];exact n) (fun b u hc e=>⟨u,k b u hc e⟩) (fun b xs e=>un b _ e) (fun b p u e=>un b _ e) (fun b ps e=>⟨#[],by rw[un b _ e];simp⟩) (fun m hm=>?_) (fun b u e=>?_) I.bare
 ·obtain ⟨p,es,ep,ho,r⟩:=hm;exact ⟨p,es,ep,k _ p (fun z=>(hf _ z).2.1 rfl) ho,r⟩
 ·by_cases hb:b=T
  ·subst hb;rw[zAh]at e;cases e;exact new
  ·rw[zn hb]at e;refine (I.hok b u e).stay (fun c v hc q=>k c v ?_ q) (fun c q=>un c _ q) fun c xs q=>un c _ q;rcases hc with z|z
   ·rw[z];exact nch b u e
   ·exact nch c _ z
theorem zG8 {X:Cx} {zB:List (Addr × Obj)} {σ:L2.St} {H:Hp} {s:Shared} {h':Heap} {t':Nat} {ch:List Addr} (I:Inv X zB σ H s) (hf:∀ b∈ch,zDB X zB H b)
  (k:∀ b u,b∉ch->s.heap.get? b=some u->h'.get? b=some u):Inv X zB σ H { s with heap:=h',toks:=t' }:=by
 have nch:∀ b u,H b=some u->b∉ch:=fun b u e z=>by rw[(hf b z).1]at e;cases e
 refine I.step (g':=s.gens) (d':=s.drawn) (ch:=ch) (fun b hb=>⟨(hf b hb).2.2.2.1,(hf b hb).2.1,(hf b hb).2.2.2.2.1,(hf b hb).2.2.2.2.2⟩) (fun b u _ _ hc e _=>k b u hc e) (fun b u _ _ hc e _=>⟨u.slots,k b u hc e⟩)
  (fun b u _ e n=>n) (fun b u hc e=>⟨u,k b u hc e⟩) (fun b xs e=>e) (fun b p u e=>e) (fun b ps e=>⟨#[],by rw[e];simp⟩) (fun m hm=>?_) (fun b u e=>?_) I.bare
 ·obtain ⟨p,es,ep,ho,r⟩:=hm;exact ⟨p,es,ep,k _ p (fun z=>(hf _ z).2.1 rfl) ho,r⟩
 ·refine (I.hok b u e).stay (fun c v hc q=>k c v ?_ q) (fun c q=>q) fun c xs q=>q;rcases hc with z|z
  ·rw[z];exact nch b u e
  ·exact nch c _ z
def Itz (K:PySem.W.Frag) (a b:Addr):It :=
 ⟨fun i H=>∃ xs ys x y,SqT K H a xs/\SqT K H b ys/\xs[i]?=some x/\ys[i]?=some y,
  fun i H v H'=>∃ T x y,v=.ref T/\H T=none/\H'=upd H T (.tup [x,y])/\(∀ xs,SqT K H a xs->xs[i]?=some x) /\ ∀ ys,SqT K H b ys->ys[i]?=some y,
  fun i H=>∃ xs ys,SqT K H a xs/\SqT K H b ys/\(xs.length<=i\/ys.length<=i)⟩
theorem zPa {P:Program} {w:World} {K:PySem.W.Frag} {es:List Expr} {ek:Nat} {ep:Pos} {z TI TO i1 i2 a b:Addr} (D:ZipApart z TI TO i1 i2 a b) :
  Turn P w K (.Tuple es ek ep) (Itz K a b) [z,TI,TO,i1,i2] z (fun i h=>ZipT h z TI TO i1 i2 a b .none i i) where
 mem:=by simp
 obj:=fun i h Z c hc=>by
  obtain ⟨Z0,P0,⟨x,y,O0⟩,⟨o1,e1,_,d1⟩,⟨o2,e2,_,d2⟩⟩:=Z;simp only[zWw,zXF,zX5]at hc;rcases hc with rfl|rfl|rfl|rfl|rfl
  ·exact ⟨_,Z0,fun v m=>by cases m⟩
  ·exact ⟨_,P0,fun v m=>by cases m⟩
  ·exact ⟨_,O0,fun v m=>by cases m⟩
  ·exact ⟨_,e1,fun v m=>by rw[d1]at m;cases m⟩
  ·exact ⟨_,e2,fun v m=>by rw[d2]at m;cases m⟩
 keep:=fun i h h' Z k=>by
  obtain ⟨Z0,P0,⟨x,y,O0⟩,⟨o1,e1,r1⟩,⟨o2,e2,r2⟩⟩:=Z;exact ⟨k z (by simp) _ Z0,k TI (by simp) _ P0,⟨x,y,k TO (by simp) _ O0⟩,⟨o1,k i1 (by simp) _ e1,r1⟩,⟨o2,k i2 (by simp) _ e2,r2⟩⟩
 item:=by
  intro X hP hw hK hc i zB s σ H E I hf Z hg;subst hP hw hK;obtain ⟨xs,ys,x,y,sa,sb,hx,hy⟩:=hg;obtain ⟨its,rv,p1,z1⟩:=I.tuple sa;obtain ⟨its2,rv2,p2,z2⟩:=I.tuple sb;obtain ⟨u,hu,ru⟩:=rv.get hx;obtain ⟨u2,hu2,ru2⟩:=rv2.get hy;refine zPv D Z (show s.heap.IsTuple a its.toArray from p1) (show s.heap.IsTuple b its2.toArray from p2) (x:=u) (y:=u2) (by simpa using hu) (by simpa using hu2) fun h' Z' N' kp=>⟨_,rfl,?_⟩;refine wpAny_letOwnedTupleGo_zip Z'.z fun h2 Z2 e2=>?_;have hch:∀ c∈[z,TO,i1,i2],zDB X zB H c:=fun c hm=>hf c (by
   simp only[zWw,zXF,zX5]at hm ⊢;rcases hm with q|q|q|q <;> simp[q])
  have kk:∀ c o,c∉[z,TO,i1,i2]->s.heap.get? c=some o->h2.get? c=some o:=fun c o n e=>e2.extBut _ _ (fun m=>n (by simp[m])) (kp c o n e);have zlt:z<s.heap.objs.size:=zWv Z.z;have NT:IsPair h2 s.heap.objs.size u u2:=e2.extBut _ _ (zYF zlt) N';have hfr:H s.heap.objs.size=none:=I.hok.fresh (zWq _);refine ⟨.ref s.heap.objs.size,upd H s.heap.objs.size (.tup [x,y]),zEz (s:=s) (h':=h2) (t':=s.toks) I hch kk (zWq _) ?_,rfl,⟨_,x,y,rfl,hfr,rfl,fun ws hw=>?_,fun ws hw=>?_⟩,?_,fun c hm=>?_⟩
  ·exact ⟨by show 2<=sizeLine;decide,[u,u2],.cons ru (.cons ru2 .nil),⟨_,NT,rfl,⟨_,rfl⟩,rfl⟩⟩
  ·rw[I.tuple_inj hw sa];exact hx
  ·rw[I.tuple_inj hw sb];exact hy
  ·obtain ⟨_,P1,⟨q1,q2,O1⟩,⟨o1,f1,r1⟩,⟨o2,f2,r2⟩⟩:=Z';exact ⟨Z2,e2.extBut _ _ D.TIz P1,⟨q1,q2,e2.extBut _ _ D.TOz O1⟩,⟨o1,e2.extBut _ _ D.i1z f1,r1⟩,⟨o2,e2.extBut _ _ D.i2z f2,r2⟩⟩
  ·have lt:c<s.heap.objs.size:=by
    obtain ⟨Z0,P0,⟨q1,q2,O0⟩,⟨o1,f1,_⟩,⟨o2,f2,_⟩⟩:=Z;simp only[zWw,zXF,zX5]at hm;rcases hm with rfl|rfl|rfl|rfl|rfl
    ·exact zWv Z0
    ·exact zWv P0
    ·exact zWv O0
    ·exact zWv f1
    ·exact zWv f2
   rw[zn (zW5 lt)];exact (hf c hm).1
 done:=by
  intro X hP hw hK hc i zB s σ H E I hf Z hg;subst hP hw hK;obtain ⟨xs,ys,sa,sb,hz⟩:=hg;obtain ⟨its,rv,p1,z1⟩:=I.tuple sa;obtain ⟨its2,rv2,p2,z2⟩:=I.tuple sb;have l1:=rv.length;have l2:=rv2.length;refine zQK (I.ok.hd hc) D Z (show s.heap.IsTuple a its.toArray from p1) (show s.heap.IsTuple b its2.toArray from p2) ?_ fun h' kp=>⟨rfl,zG8 (s:=s) (h':=h') (t':=s.toks) I (fun c hm=>hf c (by
   simp only[zWw,zXF,zX5]at hm ⊢;rcases hm with q|q|q|q <;> simp[q])) kp⟩
  rcases hz with q|q
  ·exact .inl (by simp;omega)
  ·exact .inr (by simp;omega)
 self:=fun _ _ _ _ _ Z h=>wpAny_pyIter_zip Z.z h
section
variable {X:Cx} {a b:Expr} {es:List Expr} {ek:Nat} {ep p pos:Pos}
theorem zUN {ta:TA} (hg:Gl X "zip") (hm:X.mg "zip" = none) (ha:PA X [a,b] ta) (hs:starEach [a,b] X.env=[(false,eval a X.env),(false,eval b X.env)]:=by rfl) (hs2:starEach [b] X.env=[(false,eval b X.env)]:=by rfl) :
  PI X (.Tuple es ek ep) (.Call (.Name "zip" p) [a,b] [] pos) (fun σ H R=>ta σ H fun vs H1=>∃ l1 l2 xs ys,vs=[.ref l1,.ref l2]/\SqT X.K H1 l1 xs/\SqT X.K H1 l2 ys/\R (Itz X.K l1 l2) H1):=by
 intro zB s σ H R I h;refine Call_ (zGF I hg hm (by rfl) (PyProof.Rows.callWith_type1 (thn (ha pos zB s σ H _ I h) fun us s1 ⟨vs,H1,I1,r1,q1⟩=>?_) (by rw[hs,hs2]) (by rw[hs2];rfl)));obtain ⟨l1,l2,xs,ys,rfl,s1',s2',q⟩:=q1;cases r1 with
 |cons r rr=>
  cases rr with
  |cons r' rr=>
   cases rr;cases r;cases r';obtain ⟨its,rv,p1,_⟩:=I1.tuple s1';obtain ⟨its2,rv2,p2,_⟩:=I1.tuple s2';have d1:l1<s1.heap.objs.size:=by obtain ⟨_,e,_⟩:=p1;exact zWv e
   have d2:l2<s1.heap.objs.size:=by obtain ⟨_,e,_⟩:=p2;exact zWv e
   refine zRi (show s1.heap.IsTuple l1 its.toArray from p1) (show s1.heap.IsTuple l2 its2.toArray from p2) fun h' Z kp=>wpAny_pyIter_zip Z.z ?_;refine ⟨s1.heap.objs.size+4,[s1.heap.objs.size+4,s1.heap.objs.size+2,s1.heap.objs.size+3,s1.heap.objs.size,s1.heap.objs.size+1],_,_,H1,rfl,I1.kept (t':=s1.toks) kp,zPa (zipApart_new d1 d2),Z,fun c hc=>?_,q⟩;have ge:s1.heap.objs.size<=c:=by
    simp only[zWw,zXF,zX5]at hc;rcases hc with rfl|rfl|rfl|rfl|rfl
    ·exact Nat.le_add_right _ 4
    ·exact Nat.le_add_right _ 2
    ·exact Nat.le_add_right _ 3
    ·exact zWq _
    ·exact Nat.le_add_right _ 1
   exact I1.fpOk ge (I1.hok.fresh ge)
def zQP (g:FA):FI:=fun σ M=>match g σ M with
 |some ([.tup xs,.tup ys],M1)=>some ((xs.zip ys).map fun q=>D.tup [q.1,q.2],none,M1)
 |_=>none
theorem zU8 (hg:Gl X "zip") (hm:X.mg "zip" = none) (ha:QA X [a,b] g) (hs:starEach [a,b] X.env=[(false,eval a X.env),(false,eval b X.env)]:=by rfl) (hs2:starEach [b] X.env=[(false,eval b X.env)]:=by rfl) :
  QI X (.Tuple es ek ep) (.Call (.Name "zip" p) [a,b] [] pos) (zQP g):=.mk <| PI.imp (zUN hg hm ha.un hs hs2) fun τ H R zz=>by
 obtain ⟨L,σ,M,xs,gd,M',c,rs,hf,q⟩:=zz;unfold zQP at hf;split at hf
 ·rename_i ds es' M1 e1;cases hf;refine ⟨L,σ,M,_,_,c,rs,e1,fun L1 H1 vs s1 c1 r1=>?_⟩;obtain ⟨v,v',rfl,r2,r3⟩:=r1.two;unfold Rep at r2 r3;obtain ⟨l1,ws1,rfl,h1,q1⟩:=r2;obtain ⟨l2,ws2,rfl,h2,q2⟩:=r3;refine ⟨l1,l2,ws1,ws2,rfl,.of h1,.of h2,q L1 H1 _ s1 c1 fun L2 H2 M2 s2 c2 _=>?_⟩;have k1:=s2.tup l1 ws1 h1;have k2:=s2.tup l2 ws2 h2;have p1:=q1.stp s2;have p2:=q2.stp s2;refine ⟨fun i d hd=>?_,⟨ws1,ws2,.of k1,.of k2,?_⟩⟩
  ·rw[zW7]at hd;cases e2:(ds.zip es')[i]? with
   |none=>rw[e2]at hd;cases hd
   |some pr=>
    rw[e2]at hd;cases hd;obtain ⟨f1,f2⟩:=List.getElem?_zip_eq_some.mp e2;obtain ⟨u,hu,ru⟩:=p1.get f1;obtain ⟨u2,hu2,ru2⟩:=p2.get f2;refine ⟨⟨ws1,ws2,u,u2,.of k1,.of k2,hu,hu2⟩,fun v H3 hy=>?_⟩;obtain ⟨T,x,y,rfl,hT,rfl,hxx,hyy⟩:=hy;have ex:=hxx ws1 (.of k1);have ey:=hyy ws2 (.of k2);rw[hu]at ex;cases ex;rw[hu2]at ey;cases ey;exact ⟨fun a o e=>by rw[zn (zAa e hT)];exact e,Rep.newTup hT (.cons ru (.cons ru2 .nil))⟩
  ·rw[zWt,List.length_zip,p1.length,p2.length];omega
 ·cases hf
def zFw (i j:Nat):FG:=fun d σ=>match d with
 |.tup [x,y]=>some ((σ.set i (some x)).set j (some y))
 |_=>none
abbrev gP2 (K:PySem.W.Frag) (i j:Nat):TG:=zQb K 2 (zFr (zCe i) (zFr (zCe j) zRr))
theorem zMi {K:PySem.W.Frag} {i j:Nat}:GOk (gP2 K i j) (zFw i j):=by
 intro L H σ σ' τ d v Q rs r hf q;unfold zFw at hf;split at hf
 ·rename_i x y;cases hf;unfold Rep at r;obtain ⟨a,vs,rfl,e,r⟩:=r;obtain ⟨v1,v2,rfl,r1,r2⟩:=r.two;exact ⟨a,_,rfl,.of e,rfl,v1,[v2],rfl,v2,[],rfl,rfl,q _ ((rs.set r1).set r2)⟩
 ·cases hf
theorem zJd {K:PySem.W.Frag} {own:List Nat} {i j:Nat} (hi:i∈own) (hj:j∈own):zFm own (gP2 K i j) (zFw i j):=by
 intro L H σ σ' τ τ0 d v Q rs ex r hf q;unfold zFw at hf;split at hf
 ·rename_i x y;cases hf;unfold Rep at r;obtain ⟨a,vs,rfl,e,r⟩:=r;obtain ⟨v1,v2,rfl,r1,r2⟩:=r.two;exact ⟨a,_,rfl,.of e,rfl,v1,[v2],rfl,v2,[],rfl,rfl,q _ ((rs.set r1).set r2) ((ex.set hi).set hj)⟩
 ·cases hf
end
section
variable {X:Cx} {a b c e:Expr} {es:List Expr} {pos p p2 pos2:Pos} {f g h:FE}
theorem zN8:∀ {bs:List Bool} {its:List Value},zy (bs.map V.bl) its -> ∀ (i:Nat) v,its[i]?=some v -> ∃ k,bs[i]?=some k/\v=.bool k
 |[],_,.nil,_,_,h=>by simp at h
 |k::bs,_,.cons r t,0,v,h=>by
  simp at h;subst h;exact ⟨k,rfl,r⟩
 |k::bs,_,.cons r t,i+1,v,h=>by
  obtain ⟨k',e1,e2⟩:=zN8 t i v (by simpa using h);exact ⟨k',by simpa using e1,e2⟩
theorem zNF (bs:List Bool):((List.range bs.length).all fun i=>(bs[i]?).getD true)=bs.all id:=by
 rw[Bool.eq_iff_iff,zXL,zXL];constructor
 ·intro q k hk;obtain ⟨i,hi,rfl⟩:=List.getElem_of_mem hk;have:=q i (zXO.mpr hi);rw[zWo hi]at this;exact this
 ·intro q i hi;rw[zWo (zXO.mp hi)];exact q _ (zXI _)
def zVu (K:PySem.W.Frag) (F:List Bool->Bool):List V->Hp->VK->Prop:=fun xs H Q=>∃ q bs,xs=[.ref q]/\SqL K H q (bs.map V.bl)/\Q (.bl (F bs)) H
theorem zOy (hc:X.calm=true):zCX X (.builtin "all") (zVu X.K fun bs=>bs.all id):=by
 intro zB s σ H xs us Q I r h;obtain ⟨l,bs,rfl,hq,q⟩:=h;obtain ⟨u,rfl,rx⟩:=zD8 r;cases rx;obtain ⟨its,rv,pl,_⟩:=I.list hq;have hlt:l<s.heap.objs.size:=by obtain ⟨_,z,_⟩:=pl.isList;exact zWv z
 refine call_all_walk (wpAny_pyIter_list pl.isList ⟨s.heap.objs.size,[s.heap.objs.size,l],[s.heap.objs.size],its.toArray.size,_,_,fun i=>(bs[i]?).getD true,rfl,Walks.list (A:=X.A.in1) (I.ok.hd hc) _ l (zW5 hlt) its.toArray,
  ⟨⟨_,zWu _ rfl,rfl,rfl⟩,pl.isList.push _⟩,fun i v s' Q' E' hP hQ=>?_,fun h' tk hk=>?_⟩)
 ·obtain ⟨k,z,rfl⟩:=zN8 rv i v (by simpa using hP);dsimp only at hQ;rw[z]at hQ;exact zXw hQ
 ·have hl:=rv.length;rw[zWt]at hl;rw[zWs,<-hl,zNF];exact ⟨.bl _,H,I.kept (t':=tk) fun b o z=>hk b o (fun m=>by rw[zXC.mp m]at z;exact zXS _ (zWv z)) (zWl _ z),rfl,q⟩
def zHi:List D->Option (List Bool)
 |[]=>some []
 |.bl k::r=>match zHi r with
  |some bs=>some (k::bs)
  |none=>none
 |_=>none
theorem zOK:∀ {ds:List D} {bs:List Bool} {vs:List V},zHi ds=some bs->zh L H ds vs->vs=bs.map V.bl
 |[],bs,vs,e,r=>by cases e;unfold zh at r;exact r
 |d::ds,bs,vs,e,r=>by
  unfold zh at r;obtain ⟨v,r',rfl,r1,r2⟩:=r;cases d with
  |bl k=>
   unfold zHi at e;cases q:zHi ds with
   |none=>rw[q]at e;cases e
   |some bs'=>
    rw[q]at e;cases e;unfold Rep at r1;rw[r1,zOK q r2];rfl
  |_=>cases e
def zPF (F:List Bool->Bool):KB:=fun xs M=>match xs with
 |[x]=>match zB8 M x with
  |some ds=>match zHi ds with
   |some bs=>some (.dat (.bl (F bs)),M)
   |none=>none
  |none=>none
 |_=>none
theorem zTP {K:PySem.W.Frag} {F:List Bool->Bool}:zGN K (zVu K F) (zPF F):=by
 intro L M M' H H0 xs d vs Q c r hk q;unfold zPF at hk;split at hk
 ·rename_i x;split at hk
  ·rename_i ds e1;split at hk
   ·rename_i bs e2;cases hk;obtain ⟨v,rfl,r1⟩:=r.one;obtain ⟨l,ws,rfl,h1,r2⟩:=zBy c r1 e1;have:=zOK e2 r2;subst this;exact ⟨l,bs,rfl,.inl h1,q L H _ (.refl L H) c (zBW (L:=L) (H:=H))⟩
   ·cases hk
  ·cases hk
 ·cases hk
abbrev zNb:KB:=zPF fun bs=>bs.all id
section
variable {fa:FAE}
theorem zMH (hc:X.calm=true) (hg:Gl X "all") (hm:X.mg "all" = none) (ha:QAE X [e] fa) (he:starEach [e] X.env=(false,eval e X.env)::starEach [] X.env:=by rfl) (hpl:(backTo pos (starEach [] X.env)).any (·.1)=false:=by rfl):QE X (.Call (.Name "all" p) [e] [] pos) (fB zNb fa) :=
 zEY zTP (zOy hc) (by rfl) hg hm ha (by decide) (by decide) he hpl
end
theorem zVa (h:zB8 M x=some ds) (hb:zHi ds=some bs):Ok (zPF F [x] M) P ↔ P (.dat (.bl (F bs))) M:=by
 have:zPF F [x] M=some (.dat (.bl (F bs)),M):=by unfold zPF;dsimp only;rw[h];dsimp only;rw[hb]
 rw[this,zAO]
theorem zJp:∀ bs:List Bool,zHi (bs.map D.bl)=some bs
 |[]=>rfl
 |k::bs=>by rw[zW3];unfold zHi;rw[zJp bs]
def zNC:V->Bool
 |.non=>true
 |.bl _=>true
 |_=>false
theorem zUZ:OpR X (compareOp .Is) (fun x y H Q=>zNC y=true/\Q (.bl (decide (x=y))) H):=by
 intro zB s σ H x y v u Q I rx ry h;obtain ⟨hp,q⟩:=h;cases y with
 |non=>
  cases ry;refine wpAny_is_plain (by cases x <;> first|(cases rx;rfl)|(obtain ⟨t,rfl⟩:=rx;rfl)) (zAR I q ?_);cases x <;> first|(cases rx;rfl)|(obtain ⟨t,rfl⟩:=rx;rfl)
 |bl k=>
  cases ry;refine wpAny_is_plain (by cases x <;> first|(cases rx;rfl)|(obtain ⟨t,rfl⟩:=rx;rfl)) (zAR I q ?_);cases x with
  |bl k'=>cases rx;cases k <;> cases k' <;> rfl
  |_=>first|(cases rx;rfl)|(obtain ⟨t,rfl⟩:=rx;rfl)
 |_=>cases hp
def isD:EV->D->Option Bool
 |x,.non=>match x with
  |.dat .non=>some true
  |_=>some false
 |x,.bl k=>match x with
  |.dat (.bl k')=>some (decide (k'=k))
  |_=>some false
 |_,_=>none
def kIs (neg:Bool):K2:=fun x y M=>match y with
 |.dat d=>match isD x d with
  |some k=>some (.dat (.bl (if neg then !k else k)),M)
  |none=>none
 |_=>none
theorem zSN (rx:zt H0 L H x v) (ry:Rep L H d w) (e:isD x d=some k):zNC w=true/\decide (v=w)=k:=by
 cases d with
 |non=>
  unfold Rep at ry;subst ry;refine ⟨rfl,?_⟩;cases x with
  |fl xs=>obtain ⟨q,vs,rfl,_⟩:=rx;cases e;rfl
  |dat d'=>
   cases d' with
   |non=>unfold zt Rep at rx;subst rx;cases e;rfl
   |bl _=>unfold zt Rep at rx;subst rx;cases e;rfl
   |int _=>unfold zt Rep at rx;subst rx;cases e;rfl
   |str _=>unfold zt Rep at rx;subst rx;cases e;rfl
   |tup _=>unfold zt Rep at rx;obtain ⟨q,vs,rfl,_⟩:=rx;cases e;rfl
   |ref _=>unfold zt Rep at rx;obtain ⟨q,rfl,_⟩:=rx;cases e;rfl
 |bl k'=>
  unfold Rep at ry;subst ry;refine ⟨rfl,?_⟩;cases x with
  |fl xs=>obtain ⟨q,vs,rfl,_⟩:=rx;cases e;rfl
  |dat d'=>
   cases d' with
   |non=>unfold zt Rep at rx;subst rx;cases e;rfl
   |bl j=>unfold zt Rep at rx;subst rx;cases e;cases j <;> cases k' <;> rfl
   |int _=>unfold zt Rep at rx;subst rx;cases e;rfl
   |str _=>unfold zt Rep at rx;subst rx;cases e;rfl
   |tup _=>unfold zt Rep at rx;obtain ⟨q,vs,rfl,_⟩:=rx;cases e;rfl
   |ref _=>unfold zt Rep at rx;obtain ⟨q,rfl,_⟩:=rx;cases e;rfl
 |_=>cases e
theorem zQr (h:kIs neg x y M=some (r,M')):∃ d k,y=.dat d/\isD x d=some k/\r=.dat (.bl (if neg then !k else k))/\M'=M:=by
 unfold kIs at h;split at h
 ·rename_i d;split at h
  ·rename_i k e1;cases h;exact ⟨d,k,rfl,e1,rfl,rfl⟩
  ·cases h
 ·cases h
theorem zVB {K:PySem.W.Frag}:zCF K (fun x y H Q=>zNC y=true/\Q (.bl (decide (x=y))) H) (kIs false):=by
 intro L M M' H H0 x y d v w Q cc rx ry hk q;obtain ⟨d',k,rfl,e,rfl,rfl⟩:=zQr hk;obtain ⟨h1,h2⟩:=zSN rx ry e;refine ⟨h1,?_⟩;rw[h2];exact q L H _ (.refl L H) cc (zBW (L:=L) (H:=H))
theorem zWY (h1:QE X a f) (h2:QE X b g):QE X (.Compare a [.Is] [b] pos) (fOp (kIs false) f g):=zQy zVB zUZ h1 h2 (zFF _)
def zD6 (k k':K2) (f g h:FE):FE:=fun σ M=>match f σ M with
 |some (x,M1)=>match g σ M1 with
  |some (y,M2)=>match k x y M2 with
   |some (.dat (.bl true),M3)=>match h σ M3 with
    |some (w,M4)=>k' y w M4
    |none=>none
   |some (.dat (.bl false),M3)=>some (.dat (.bl false),M3)
   |_=>none
  |none=>none
 |none=>none
theorem zI6 {K:PySem.W.Frag} {r r':R2} {k k':K2} (hk:zCF K r k) (hk':zCF K r' k') {τ:Sv} {H:Hp} {Q:VK} (z:trE K (zD6 k k' f g h) τ H Q):zM4 r r' (trE K f) (trE K g) (trE K h) τ H Q:=by
 obtain ⟨L,σ,M,d,M',cc,rs,hf,q⟩:=z;unfold zD6 at hf;split at hf
 ·rename_i x M1 e1;split at hf
  ·rename_i y M2 e2;refine ⟨L,σ,M,_,_,cc,rs,e1,fun L1 H1 v s1 c1 r1=>⟨L1,σ,M1,_,_,c1,rs.stp s1,e2,fun L2 H2 w s2 c2 r2=>?_⟩⟩;split at hf
   ·rename_i M3 e3;split at hf
    ·rename_i u M4 e4;refine hk (H0:=H) c2 (r1.stp s2) (r2.back s1 cc s2.sub) e3 fun L3 H3 t s3 c3 r3=>⟨true,zAr r3,zHA ?_⟩;refine ⟨L3,σ,M3,_,_,c3,rs.stp ((s1.trans s2).trans s3),e4,fun L4 H4 w4 s4 c4 r4=>?_⟩;have s13:=(s1.trans s2).trans s3;refine hk' (H0:=H) c4 (((r2.back s1 cc s2.sub).stp s3).stp s4) (r4.back s13 cc s4.sub) hf fun L5 H5 u5 s5 c5 r5=>?_;exact q L5 H5 u5 ((s13.trans s4).trans s5) c5 (r5.back (s13.trans s4) cc s5.sub)
    ·cases hf
   ·rename_i M3 e3;cases hf;refine hk (H0:=H) c2 (r1.stp s2) (r2.back s1 cc s2.sub) e3 fun L3 H3 t s3 c3 r3=>⟨false,zAr r3,zHE ?_⟩;exact q L3 H3 _ ((s1.trans s2).trans s3) c3 (by have:=zAr r3;subst this;exact r3)
   ·cases hf
  ·cases hf
 ·cases hf
theorem zSU (hk:zCF X.K r k) (hk':zCF X.K r' k') (ho:OpR X (compareOp op) r) (ho':OpR X (compareOp op') r') (h1:QE X a f) (h2:QE X b g) (h3:QE X c h)
  (hm:lastMarks [op,op'] [b,c]=false:=by with_unfolding_all rfl):QE X (.Compare a [op,op'] [b,c] pos) (zD6 k k' f g h):=.mk <| PE.imp (zP6 ho ho' h1.un h2.un h3.un hm) fun _ _ _ z=>zI6 hk hk' z
theorem zQe (hk:zCF X.K r k) (hk':zCF X.K r' k') (ho:OpR X (compareOp op) r) (ho':OpR X (compareOp op') r') (h1:QE X a f) (h2:QE X b g) (h3:QE X c h)
  (hm:lastMarks [op,op'] [b,c]=false:=by with_unfolding_all rfl):QT X (.Compare a [op,op'] [b,c] pos) (tst (zD6 k k' f g h)) :=
 .mk <| PT.imp (zQN ho ho' h1.un h2.un h3.un hm) fun _ _ _ z=>zES (fun _ _ _ y=>zI6 hk hk' y) (zEC z)
section
variable {M:Mem} {σ:Sd} {P:EV->Mem->Prop}
theorem zLN:Ok (zD6 k k' f g h σ M) P ↔ Ok (f σ M) fun x M1=>Ok (g σ M1) fun y M2=>Ok (k x y M2) (blP fun t M3=>if t then Ok (h σ M3) fun w M4=>Ok (k' y w M4) P else P (.dat (.bl false)) M3):=by
 unfold zD6;constructor
 ·rintro ⟨x,M1,z,q⟩;split at z
  ·rename_i y M2 e1;split at z
   ·rename_i y' M3 e2;split at z
    ·rename_i M4 e3;split at z
     ·rename_i w M5 e4;exact ⟨_,_,e1,_,_,e2,_,_,e3,by rw[zEP,zWz rfl];exact ⟨_,_,e4,_,_,z,q⟩⟩
     ·cases z
    ·rename_i M4 e3;cases z;exact ⟨_,_,e1,_,_,e2,_,_,e3,by rw[zEP];simpa using q⟩
    ·cases z
   ·cases z
  ·cases z
 ·rintro ⟨x,M1,e1,y,M2,e2,t,M3,e3,q⟩;rw[e1];dsimp only;rw[e2];dsimp only;rw[e3];cases t with
  |fl _=>exact q.elim
  |dat d=>
   cases d with
   |bl t=>
    rw[zEP]at q;cases t with
    |true=>
     rw[zWz rfl]at q;obtain ⟨w,M4,e4,q⟩:=q;dsimp only;rw[e4];exact q
    |false=>exact ⟨_,_,rfl,by simpa using q⟩
   |_=>exact q.elim
end
def zRz (f:FE):FE:=fun σ M=>match f σ M with
 |some (.dat (.int i),M1)=>some (.dat (.int (-i)),M1)
 |_=>none
theorem zP0 (h1:QE X a f):QE X (.UnaryOp .USub a pos) (zRz f):=.mk <| PE.imp (zVg zUY h1.un) fun τ H Q zz=>by
 obtain ⟨L,σ,M,d,M',cc,rs,hf,q⟩:=zz;unfold zRz at hf;split at hf
 ·rename_i i M1 e1;cases hf;refine ⟨L,σ,M,_,_,cc,rs,e1,fun L1 H1 v s1 c1 r1=>?_⟩;exact ⟨i,by unfold zt Rep at r1;exact r1,q L1 H1 _ s1 c1 (zAs (L:=L1) (H:=H1))⟩
 ·cases hf
def zHb:KB:=fun xs M=>match xs with
 |[x]=>match zBJ M x with
  |some ys=>some (.fl ys,M)
  |none=>none
 |_=>none
theorem zQH:zGN X.K (fun xs H Q=>∃ q ys,xs=[.ref q]/\(SqL X.K H q ys\/SqT X.K H q ys) /\ ∀ l,H l=none->Q (.ref l) (upd H l (.lst ys))) zHb:=by
 intro L M M' H H0 xs d vs Q cc r hk q;unfold zHb at hk;split at hk
 ·rename_i x;split at hk
  ·rename_i ys e1;cases hk;obtain ⟨v,rfl,r1⟩:=r.one;obtain ⟨l,ws,rfl,hs,r2⟩:=zKv cc r1 e1;refine ⟨l,ws,rfl,hs,fun k hk=>?_⟩;exact q L _ _ (.upd hk) (cc.upd hk) (zt.newLst (.refl L H) cc cc hk r2)
  ·cases hk
 ·cases hk
theorem zMm (hg:Gl X "list") (hm:X.mg "list" = none) (ha:QAE X [e] fa) (he:starEach [e] X.env=(false,eval e X.env)::starEach [] X.env:=by rfl) (hpl:(backTo pos (starEach [] X.env)).any (·.1)=false:=by rfl):QE X (.Call (.Name "list" p) [e] [] pos) (fB zHb fa) :=
 zGQ zQH zLC (by rfl) hg hm ha (by decide) (by decide) he hpl
end
open AutoSeq1 (wpAny_loadPart')
section
variable {prog:Program} {w:World} {A:Around} {E:Value->Shared->Prop} {s:Shared}
theorem zQs {r:Addr} {lo hi:Int} {t u v:Tok} {n:Nat} {Q:List Value->Shared->Prop} (hh:A.handled=none) (R:IsRange s.heap r lo hi 1 t u v) (sm:Builtin.Range.small lo hi 1=true) (hn:Builtin.Range.rangeSize lo hi 1=n) (hz:n<=2 ^ 24)
  (q:∀ h' tk (acc:Array Value),(∀ b o,s.heap.get? b=some o->h'.get? b=some o)->ItemsOf (fun i v=>∃ t,v=.int (lo+i*1) t) acc n->Q acc.toList { s with heap:=h',toks:=tk }):wpAny (model prog w) A (collect (.ref r)) Q E s:=by
 unfold collect;refine zWk (wpAny_runValue (codeAny_builtin PySem.F.entry_proto_collect ?_));rw[Around.under_plainId PySem.F.plain_proto_collect _];refine zWk (m:=newList []) (zXD (zWm ⟨plainId_quiet PySem.F.plain_list_iadd _,codeAny_builtin PySem.F.entry_list_iadd ?_⟩));rw[Around.under_plainId PySem.F.plain_list_iadd _];have S0:(s.heap.push { cls:=.type "list", data:=.seq ([]:List Value).toArray }).get? s.heap.objs.size=some { cls:=.type "list", data:=.seq #[] 0 }:=zWu _ rfl
 have fin:∀ (h':Heap) (tk:Nat) (acc:Array Value) (k:Nat),(∀ b o,b≠s.heap.objs.size->(s.heap.push { cls:=.type "list", data:=.seq ([]:List Value).toArray }).get? b=some o->h'.get? b=some o) ->
   h'.get? s.heap.objs.size=some { cls:=.type "list", dict:=none,data:=.seq acc k,slots:=#[] }->ItemsOf (fun i v=>∃ t,v=.int (lo+i*1) t) acc n ->
   wpAny (model prog w) A (match Value.ref s.heap.objs.size with
    |Value.ref a=>do
     match (<- load a).data with
      |Data.seq xs _=>pure xs.toList
      |_=>unsupported "internal:collect"
    |_=>unsupported "internal:collect") Q E { s with heap:=h',toks:=tk }:=fun h' tk acc k kp e it=>by
  refine zWk (m:=load s.heap.objs.size) (wpAny_load e (zWm (q h' tk acc (fun b o m=>kp b o (zW5 (zWv m)) (zWl _ m)) it)))
 refine zXG (wpAny_extend_range (A:=A) (s:={ s with heap:=s.heap.push { cls:=.type "list", data:=.seq ([]:List Value).toArray } })
  (R:=fun r s'=>r=.ok (.ret (.ref s.heap.objs.size)) /\ ∃ h' tk acc k,s'={ s with heap:=h',toks:=tk }/\(∀ b o,b≠s.heap.objs.size->(s.heap.push { cls:=.type "list", data:=.seq ([]:List Value).toArray }).get? b=some o->h'.get? b=some o) /\
   h'.get? s.heap.objs.size=some { cls:=.type "list", dict:=none,data:=.seq acc k,slots:=#[] }/\ItemsOf (fun i v=>∃ t,v=.int (lo+i*1) t) acc n)
  hh (zWl _ R) sm hn hz s.heap.objs.size (.ref s.heap.objs.size) 0 S0 fun h' tk acc k kp e it=>⟨rfl,h',tk,acc,k,rfl,kp,e,it⟩) (fun f s' z=>?_) (fun e s' z=>?_)
 ·cases f with
  |done f=>
   obtain ⟨e,h',tk,acc,k,rfl,z1,z2,z3⟩:=z;cases e;exact fin h' tk acc k z1 z2 z3
  |again c'=>exact ⟨z.1,codeAny_mono z.2 fun r s'' z=>by obtain ⟨rfl,h',tk,acc,k,rfl,z1,z2,z3⟩:=z;exact fin h' tk acc k z1 z2 z3⟩
 ·exact absurd z.1 (by simp)
end
theorem zKR (r:Addr) (lo hi:Int) (t u v:Tok) (n:Nat) (sm:Builtin.Range.small lo hi 1=true) (hn:Builtin.Range.rangeSize lo hi 1=n) (hz:n<=2 ^ 24) :
  Meets (Builtin.«tuple.__new__» ⟨[.type "tuple", .ref r],[]⟩) (fun A R s=>A.handled=none/\IsRange s.heap r lo hi 1 t u v /\
   ∀ (h':Heap) (tk:Nat) (acc:Array Value),(∀ b o,s.heap.get? b=some o->h'.get? b=some o)->ItemsOf (fun i v=>∃ t,v=.int (lo+i*1) t) acc n->R (.ok (.ret (.ref h'.objs.size))) { s with heap:=h'.push { cls:=.type "tuple", data:=.seq acc },toks:=tk }) :=
 .of_wp fun prog w A R s h=>by
  obtain ⟨hp,g,d,tk,os⟩:=s;obtain ⟨hh,Ra,h⟩:=h;have h1:=sub_tuple_self;have h2:=init_tuple_lookup;have h3:=madeHere_tuple;have T:Shared.TypeIs ⟨hp,g,d,tk,os⟩ (.ref r) "range" := ⟨_,Ra,rfl⟩;wp_walk using wpAny_loadPart' Ra,wpAny_typeOf T,zQs (show A.in1.handled=none from hh) Ra sm hn hz;intro h' tk' acc kp it;refine zWk (m:=Builtin.Tuple.tupleExact acc.toList.toArray) ?_;unfold Builtin.Tuple.tupleExact;have sz:acc.toList.toArray.size<=sizeLine:=by rw[zWs,zXT,it.1,sizeLine_eq];omega
  refine zXD (zWm ⟨_,rfl,?_⟩) sz;have e:acc.toList.toArray=acc:=by simp
  rw[e];exact h h' tk' acc kp it
section
variable {X:Cx} {a e:Expr} {es:List Expr} {pos p p2 pos2:Pos} {f:FE}
theorem zL7:zCX X (.type "range") (fun xs H Q=>∃ j,xs=[.int j] /\ ∀ l,H l=none->Q (.ref l) (upd H l (.rng 0 j))):=by
 intro zB s σ H xs us Q I r h;obtain ⟨j,rfl,q⟩:=h;obtain ⟨u,rfl,rx⟩:=zD8 r;obtain ⟨t,rfl⟩:=rx;refine call_range_1 ⟨.ref s.heap.objs.size,_,I.laid (fun b o z=>zWl _ z) (zWq _) ?_,rfl,q _ (I.hok.fresh (zWq _))⟩;exact ⟨_,_,_,zWu _ rfl⟩
def upV (n:Nat):List V:=(List.range n).map fun (k:Nat)=>V.int k
theorem zMf (h:ItemsOf (fun i v=>∃ t,v=.int ((0:Int)+i*1) t) acc n):zy (upV n) acc.toList:=by
 obtain ⟨hz,hi⟩:=h;have:∀ (xs:List Value) (k:Nat),(∀ j v,xs[j]?=some v -> ∃ t,v=Value.int ((k+j:Nat):Int) t)->zy ((List.range' k xs.length).map fun (k:Nat)=>V.int k) xs:=by
  intro xs;induction xs with
  |nil=>intro k _;exact .nil
  |cons x xs ih=>
   intro k hk;rw[zXH,List.range'_succ,zW3];refine .cons ?_ (ih (k+1) fun j v e=>?_)
   ·obtain ⟨t,e⟩:=hk 0 x rfl;exact ⟨t,by simpa using e⟩
   ·obtain ⟨t,e'⟩:=hk (j+1) v (by simpa using e);exact ⟨t,by rw[e'];congr 2;omega⟩
 have q:=this acc.toList 0 (fun j v e=>by
  obtain ⟨t,e'⟩:=hi j v (by simpa using e);exact ⟨t,by rw[e'];congr 1;omega⟩)
 unfold upV;rw[List.range_eq_range'];rw[zXT,hz]at q;exact q
theorem zJb (h0:0<=j) (h1:j<=16777216):Builtin.Range.small 0 j 1=true/\Builtin.Range.rangeSize 0 j 1=(j.toNat:Int):=by
 refine ⟨small_one (by omega) (by omega) (by omega) (by omega),?_⟩;rw[rangeSize_one];split <;> omega
def zVd (mk:List V->HO):List V->Hp->VK->Prop:=fun xs H Q=>∃ r j,xs=[.ref r]/\H r=some (.rng 0 j)/\0<=j/\j<=16777216 /\ ∀ l,H l=none->Q (.ref l) (upd H l (mk (upV j.toNat)))
theorem zI5 (n:Nat):(upV n).length=n:=by unfold upV;simp
theorem zOp (hc:X.calm=true):zCX X (.type "tuple") (zVd HO.tup):=by
 intro zB s σ H xs us Q I r h;obtain ⟨l,j,rfl,hr,h0,h1,q⟩:=h;obtain ⟨u,rfl,rx⟩:=zD8 r;cases rx;obtain ⟨t,u,v,er⟩:=(show zAl X.prog X.w H s.heap l (.rng 0 j)from I.hok l _ hr);obtain ⟨sm,sz⟩:=zJb h0 h1
 refine callType_new PySem.F.called_tuple (by decide) (PySem.F.typeCall_tuple_1 _) (PySem.F.newCall_tuple_1 _) (fun obj=>PySem.F.args_object_init_2 obj _) PySem.F.entry_tuple_new (zKR l 0 j t u v j.toNat sm sz (by omega))
  ⟨I.ok.hd hc,er,fun h' tk acc kp it=>⟨⟨_,zWu _ rfl,rfl⟩,?_⟩⟩
 have I1:Inv X zB σ H { s with heap:=h',toks:=tk }:=I.kept kp;refine ⟨.ref h'.objs.size,_,I1.laid (t':=tk) (fun b o z=>zWl _ z) (zWq _) ?_,rfl,q _ (I1.hok.fresh (zWq _))⟩;exact ⟨by rw[zI5,sizeLine_eq];omega,acc.toList,zMf it,by simpa using zDT.new h' acc⟩
theorem zO3 (hc:X.calm=true):zCX X (.type "list") (zVd HO.lst):=by
 intro zB s σ H xs us Q I r h;obtain ⟨l,j,rfl,hr,h0,h1,q⟩:=h;obtain ⟨u,rfl,rx⟩:=zD8 r;cases rx;obtain ⟨t,u,v,er⟩:=(show zAl X.prog X.w H s.heap l (.rng 0 j)from I.hok l _ hr);obtain ⟨sm,sz⟩:=zJb h0 h1;refine call_list_range (I.ok.hd hc) er sm sz (by omega) fun h' tk acc k kp z it=>?_;refine ⟨.ref s.heap.objs.size,_,I.laid (t':=tk) kp (zWq _) (show zAl X.prog X.w _ h' _ (.lst (upV j.toNat))from ⟨by rw[zI5,sizeLine_eq];omega,acc.toList,k,zMf it,by simpa using z⟩),rfl,q _ (I.hok.fresh (zWq _))⟩
def upD (n:Nat):List D:=(List.range n).map fun (k:Nat)=>D.int k
theorem zOa (n:Nat):zh L H (upD n) (upV n):=by
 have:∀ xs:List Nat,zh L H (xs.map fun (k:Nat)=>D.int k) (xs.map fun (k:Nat)=>V.int k):=by
  intro xs;induction xs with
  |nil=>exact .nil
  |cons x xs ih=>exact .cons zAs ih
 exact this _
def zOI (f:FE):FE:=fun σ M=>match f σ M with
 |some (.dat (.int j),M1)=>if 0<=j/\j<=16777216 then some (.dat (.tup (upD j.toNat)),M1) else none
 |_=>none
def zJt (f:FE):FE:=fun σ M=>match f σ M with
 |some (.dat (.int j),M1)=>if 0<=j/\j<=16777216 then some (.fl (upD j.toNat),M1) else none
 |_=>none
theorem zUA (hc:X.calm=true) (hg:Gl X "tuple") (hm:X.mg "tuple" = none) (hg2:Gl X "range") (hm2:X.mg "range" = none) (ha:QE X a f)
  (he:starEach [Expr.Call (.Name "range" p2) [a] [] pos2] X.env=(false,eval (Expr.Call (.Name "range" p2) [a] [] pos2) X.env)::starEach [] X.env:=by rfl) (hpl:(backTo pos (starEach [] X.env)).any (·.1)=false:=by rfl)
  (he2:starEach [a] X.env=(false,eval a X.env)::starEach [] X.env:=by rfl) (hpl2:(backTo pos2 (starEach [] X.env)).any (·.1)=false:=by rfl) :
  QE X (.Call (.Name "tuple" p) [.Call (.Name "range" p2) [a] [] pos2] [] pos) (zOI f) :=
 .mk <| PE.imp (zEE (zOp hc) hg hm (by rfl) (zDh (zEE zL7 hg2 hm2 boot_range (zDh ha.un zGL he2) (by decide) (by decide) he2 hpl2) zGL he) (by decide) (by decide) he hpl) fun τ H Q zz=>by
  obtain ⟨L,σ,M,d,M',c,rs,hf,q⟩:=zz;unfold zOI at hf;split at hf
  ·rename_i j M1 e1;split at hf
   ·rename_i hb;cases hf;refine ⟨L,σ,M,_,_,c,rs,e1,fun L1 H1 v s1 c1 r1=>⟨j,by unfold zt Rep at r1;rw[r1],fun l hl=>⟨l,j,rfl,zAh,hb.1,hb.2,fun k hk=>?_⟩⟩⟩;exact q L1 _ _ ((s1.trans (.upd hl)).trans (.upd hk)) ((c1.upd hl).upd hk) (Rep.newTup hk (zOa _))
   ·cases hf
  ·cases hf
theorem zTs (hc:X.calm=true) (hg:Gl X "list") (hm:X.mg "list" = none) (hg2:Gl X "range") (hm2:X.mg "range" = none) (ha:QE X a f)
  (he:starEach [Expr.Call (.Name "range" p2) [a] [] pos2] X.env=(false,eval (Expr.Call (.Name "range" p2) [a] [] pos2) X.env)::starEach [] X.env:=by rfl) (hpl:(backTo pos (starEach [] X.env)).any (·.1)=false:=by rfl)
  (he2:starEach [a] X.env=(false,eval a X.env)::starEach [] X.env:=by rfl) (hpl2:(backTo pos2 (starEach [] X.env)).any (·.1)=false:=by rfl) :
  QE X (.Call (.Name "list" p) [.Call (.Name "range" p2) [a] [] pos2] [] pos) (zJt f) :=
 .mk <| PE.imp (zEE (zO3 hc) hg hm (by rfl) (zDh (zEE zL7 hg2 hm2 boot_range (zDh ha.un zGL he2) (by decide) (by decide) he2 hpl2) zGL he) (by decide) (by decide) he hpl) fun τ H Q zz=>by
  obtain ⟨L,σ,M,d,M',c,rs,hf,q⟩:=zz;unfold zJt at hf;split at hf
  ·rename_i j M1 e1;split at hf
   ·rename_i hb;cases hf;refine ⟨L,σ,M,_,_,c,rs,e1,fun L1 H1 v s1 c1 r1=>⟨j,by unfold zt Rep at r1;rw[r1],fun l hl=>⟨l,j,rfl,zAh,hb.1,hb.2,fun k hk=>?_⟩⟩⟩;have s2:Stp L H L1 (upd H1 l (.rng 0 j)):=s1.trans (.upd hl);exact q L1 _ _ (s2.trans (.upd hk)) ((c1.upd hl).upd hk) (zt.newLst s2 c (c1.upd hl) hk (zOa _))
   ·cases hf
  ·cases hf
section
variable {M:Mem} {σ:Sd} {P:EV->Mem->Prop}
theorem zSm (e:f σ M=some (.dat (.int j),M)) (h0:0<=j) (h1:j<=16777216) (q:P (.fl (upD j.toNat)) M):Ok (zJt f σ M) P:=by
 refine ⟨_,_,?_,q⟩;unfold zJt;rw[e];dsimp only;rw[zWz ⟨h0,h1⟩]
end
end
def zGh:Expr->Bool
 |.Starred .. =>false
 |_=>true
theorem zC (h:zGh e=true):starEach (e::es) env=(false,eval e env)::starEach es env:=by
 cases e <;> first|rfl|cases h
theorem zAd (h:zGh e=true):starEach [e] env=[(false,eval e env)]:=zC h
theorem zSA (h:zGh e=true) (h':zGh e'=true):starEach [e,e'] env=[(false,eval e env),(false,eval e' env)]:=by rw[zC h,zAd h']
theorem zN:∀ {es:List Expr},es.all zGh=true->(backTo pos (starEach es env)).any (·.1)=false
 |[],_=>rfl
 |e::es,h=>by
  rw[List.all_cons,zXK]at h;rw[zC h.1];have:=zN (pos:=pos) (env:=env) h.2;simpa [backTo] using this
theorem Cor.pushO {K:PySem.W.Frag} {L:List Addr} {M:List MO} {H:Hp} {p:Addr} {o:HO} {m:MO} (c:Cor K L M H) (h:H p=none) (new:zH4 K (L++[p]) (L2.upd H p o) p m) :
  Cor K (L++[p]) (M++[m]) (L2.upd H p o)/\Stp L H (L++[p]) (L2.upd H p o):=by
 have hp:p∉L:=fun z=>by obtain ⟨o,e⟩:=c.tracked z;rw[h]at e;cases e
 have st:Stp L H (L++[p]) (L2.upd H p o):=by
  refine ⟨⟨[p],rfl⟩,fun a ha=>?_,fun a o e _=>?_,fun a o e=>?_,fun a o u e=>?_⟩
  ·rcases zXA.mp ha with z|z
   ·exact .inl z
   ·have:a=p:=by simpa using z
    subst this;exact .inr h
  all_goals (rw[zn (zAa e h)];exact e)
 refine ⟨⟨by simp[c.len],?_,fun n a m e1 e2=>?_⟩,st⟩
 ·rw[zXy];exact ⟨c.nd,by simp,fun a ha b hb z=>by
   have:b=p:=by simpa using hb
   subst this;subst z;exact hp ha⟩
 ·by_cases hn:n<L.length
  ·rw[zWr hn]at e1;rw[zWr (by rw[<-c.len];exact hn)]at e2;exact (c.obj n a m e1 e2).stp st fun o e=>by rw[zn (zAa e h)];exact e
  ·have hn':n=L.length:=by
    have:=(zWn.mp e1).1;rw[zW0]at this;simp at this;omega
   subst hn';simp at e1;rw[c.len]at e2;simp at e2;subst e1;subst e2;exact new
theorem Cor.put {K:PySem.W.Frag} {L:List Addr} {M:List MO} {H:Hp} {n:Nat} {p:Addr} {o o':HO} {m:MO} (c:Cor K L M H) (h1:L[n]?=some p) (ho:H p=some o) (ht:∀ xs,o≠.tup xs) (hf:∀ a u,o≠.frz a u)
  (new:Stp L H L (L2.upd H p o')->zH4 K L (L2.upd H p o') p m):Cor K L (M.set n m) (L2.upd H p o')/\Stp L H L (L2.upd H p o'):=by
 have st:Stp L H L (L2.upd H p o'):=by
  refine ⟨⟨[],by simp⟩,fun a ha=> .inl ha,fun a o e ha=>?_,fun a xs e=>?_,fun a b u e=>?_⟩
  ·rw[zn (show a≠p from fun z=>ha (by rw[z];exact List.mem_of_getElem? h1))];exact e
  ·rw[zn (zH6 e ho (fun z=>ht xs z.symm))];exact e
  ·rw[zn (zH6 e ho (fun z=>hf b u z.symm))];exact e
 refine ⟨⟨by simp[c.len],c.nd,fun k a m' e1 e2=>?_⟩,st⟩;rw[zYJ]at e2;split at e2
 ·rename_i hk;subst hk;rw[h1]at e1;cases e1;split at e2
  ·cases e2;exact new st
  ·cases e2
 ·rename_i hk;have hne:a≠p:=fun z=>hk (by
   subst z;exact (List.getElem?_inj (zWn.mp h1).1 c.nd).mp (h1.trans e1.symm))
  exact (c.obj k a m' e1 e2).stp st fun o e=>by rw[zn hne];exact e
section
variable {X:Cx} {a b e:Expr} {pos:Pos} {f g:FE}
def zIZ:FE:=fun _ M=>some (.dat (.ref M.length),M++[.dict []])
def zH9:FE:=fun _ M=>some (.dat (.ref M.length),M++[.dicT []])
theorem zTU:QE X (.Dict [] [] pos) zIZ:=.mk <| PE.imp zQ5 fun τ H Q ⟨L,σ,M,d,M',c,rs,hf,q⟩ p hp=>by
 unfold zIZ at hf;cases hf;obtain ⟨c2,s2⟩:=c.pushO (m:=.dict []) hp ⟨[],zAh,rfl⟩;refine q _ _ _ s2 c2 ?_;unfold zt Rep;exact ⟨p,rfl,by rw[<-c.len];simp⟩
theorem zKx:QE X (.Dict [] [] pos) zH9:=.mk <| PE.imp zRX fun τ H Q ⟨L,σ,M,d,M',c,rs,hf,q⟩ p hp=>by
 unfold zH9 at hf;cases hf;obtain ⟨c2,s2⟩:=c.pushO (m:=.dicT []) hp ⟨[],zAh,rfl⟩;refine q _ _ _ s2 c2 ?_;unfold zt Rep;exact ⟨p,rfl,by rw[<-c.len];simp⟩
theorem zKQ (h:Rep L H d v) (e:zHI d=some k):v=kV k:=by
 cases d with
 |int i=>cases e;unfold Rep at h;exact h
 |str x=>cases e;unfold Rep at h;exact h
 |_=>cases e
def zIe (M:Mem):EV->Option (List D)
 |.fl xs=>some xs
 |.dat (.ref n)=>match M[n]? with
  |some (.lst xs)=>some xs
  |_=>none
 |_=>none
theorem zQA {K:PySem.W.Frag} {L:List Addr} {M:Mem} {H H0:Hp} {x:EV} {v:V} {xs:List D} (c:Cor K L M H) (r:zt H0 L H x v) (h:zIe M x=some xs):∃ a vs,v=.ref a/\H a=some (.lst vs)/\zh L H xs vs:=by
 cases x with
 |fl ys=>
  cases h;obtain ⟨p,vs,rfl,_,e,_,r⟩:=r;exact ⟨p,vs,rfl,e,r⟩
 |dat d=>
  cases d with
  |ref n=>
   unfold zt Rep at r;obtain ⟨a,rfl,e⟩:=r;unfold zIe at h;dsimp only at h;split at h
   ·rename_i ys q;cases h;obtain ⟨vs,e1,r1⟩:=c.obj n a _ e q;exact ⟨a,vs,rfl,e1,r1⟩
   ·cases h
  |_=>cases h
def zDO:K2:=fun x y M=>match zIe M x,zIe M y with
 |some xs,some ys=>if xs.length+ys.length<=sizeLine then some (.fl (xs++ys),M) else none
 |_,_=>none
theorem zQO {K:PySem.W.Frag}:zCF K zVw zDO:=by
 intro L M M' H H0 x y d v w Q c rx ry hk q;unfold zDO at hk;split at hk
 ·rename_i xs ys e1 e2;split at hk
  ·rename_i hz;cases hk;obtain ⟨l,vs,rfl,h1,r1⟩:=zQA c rx e1;obtain ⟨l2,ws,rfl,h2,r2⟩:=zQA c ry e2;refine ⟨l,l2,vs,ws,rfl,rfl,h1,h2,by rw[r1.length,r2.length];exact hz,fun p hp=>?_⟩;exact q L _ _ (.upd hp) (c.upd hp) (zt.newLst (.refl L H) c c hp (r1.app r2))
  ·cases hk
 ·cases hk
theorem zG1 (h1:QE X a f) (h2:QE X b g):QE X (.BinOp a .Add b pos) (fOp zDO f g):=zNO zQO zUo h1 h2
theorem zUk (h1:zIe M x=some xs) (h2:zIe M y=some ys) (hz:xs.length+ys.length<=100000) (q:P (.fl (xs++ys)) M):Ok (zDO x y M) P:=by
 refine ⟨_,_,?_,q⟩;unfold zDO;rw[h1,h2];dsimp only;rw[zWz (zXB hz (by decide))]
end
end L3
namespace LR
open PySem PySem.Spec PyProof.Rows
open Sem (wp)
open Sem (wp)
open AutoSeq1 (wpAny_loadPart')
open Sem (wp)
open AutoSeq1 (wpAny_loadPart')
end LR
namespace L3
open PySem PySem.Spec PyProof.Rows L2
section
variable {X:Cx} {a b e o:Expr} {pos p apos cpos:Pos} {f g:FE}
def zBa:List D->Option (List Int)
 |[]=>some []
 |.int i::r=>match zBa r with
  |some bs=>some (i::bs)
  |none=>none
 |_=>none
theorem zGH:∀ {ds:List D} {bs:List Int} {vs:List V},zBa ds=some bs->zh L H ds vs->vs=bs.map V.int
 |[],bs,vs,e,r=>by cases e;unfold zh at r;exact r
 |d::ds,bs,vs,e,r=>by
  unfold zh at r;obtain ⟨v,r',rfl,r1,r2⟩:=r;cases d with
  |int k=>
   unfold zBa at e;cases q:zBa ds with
   |none=>rw[q]at e;cases e
   |some bs'=>
    rw[q]at e;cases e;unfold Rep at r1;rw[r1,zGH q r2];rfl
  |_=>cases e
theorem zGI:∀ xs:List Int,zBa (xs.map D.int)=some xs
 |[]=>rfl
 |x::r=>by rw[zW3];unfold zBa;rw[zGI r]
end
end L3
namespace L2
open PySem PySem.Spec PyProof.Rows
section
variable {prog:Program} {w:World} {A:Around} {E:Value->Shared->Prop} {R:Result->Shared->Prop} {s:Shared}
theorem zJQ (I:Nat->Shared->Prop)
  (turn:∀ n s,I n s->wpAny (model prog w) A (pyNext it) (fun r s₁=>match r with
   |none=>R (.ok .next) s₁
   |some v=>wpAny (model prog w) A (letOwnedTupleGo target it v) (fun _ s₁'=>wpAny (model prog w) A (assign target env v) (fun _ s₂=>
     wpAny (model prog w) A (forIn ifs true fun c r=>if r=true then do let ok <- isTrue c env (eval c env);pure (ForInStep.yield ok) else pure (ForInStep.yield r)) (fun ok s₃=>
      if ok=true then wpAny (model prog w) A (eval kx env) (fun kv s₄=>wpAny (model prog w) A (eval vx env) (fun vv s₅=>
       wpAny (model prog w) A (dictSet D kv vv) (fun _ s₆=>∃ m,m<n/\I m s₆) (fun _ _=>False) s₅) (fun _ _=>False) s₄) (fun _ _=>False) s₃
      else ∃ m,m<n/\I m s₃) (fun _ _=>False) s₂) (fun _ _=>False) s₁') (fun _ _=>False) s₁) (fun _ _=>False) s)
  (n:Nat) (h:I n s) :
  codeAny (model prog w) A (.compLoop (.DictComp kx vx [⟨target,iter,ifs,0⟩] scope pos) 0 it (.ref D) env) R s:=by
 refine codeAny_loop rfl I (fun n s hI=>?_) n h;show wpAny _ A ((compTurn (.DictComp kx vx [⟨target,iter,ifs,0⟩] scope pos) 0 it (.ref D) env).onRaise (fun x=>do noteFrame x env;theTreesLotGoes x)) _ _ s;refine wpAny_noted ?_;rw[compTurn_dict];refine zWk (zXi (zWk (zXG (turn n s hI) (fun r s₁ h₁=>?_) fun _ _ h'=>h'.elim)));cases r with
 |none=>exact zWm h₁
 |some v=>
  refine zWk (zXG h₁ (fun _ s₁' h₁'=>?_) fun _ _ h'=>h'.elim);refine zWk (zXG h₁' (fun _ s₂ h₂=>zWk (zXG h₂ (fun ok s₃ h₃=>?_) fun _ _ h'=>h'.elim)) fun _ _ h'=>h'.elim);cases ok with
  |false=>exact zWm ⟨rfl,h₃⟩
  |true=>
   exact zWk (zWk (zXG h₃ (fun kv s₄ h₄=>zWk (zXd (zXG h₄ (fun vv s₅ h₅=>zWk (zXi (zXd (zXG h₅ (fun _ s₆ h₆=>zWm ⟨rfl,h₆⟩) fun _ _ h'=>h'.elim)))) fun _ _ h'=>h'.elim))) fun _ _ h'=>h'.elim))
theorem zKt (elt target iter:Expr) (ifs:List Expr) (scope:Scope) (pos:Pos) (it acc:Value) (env:Env) :
  compTurn (.SetComp elt [⟨target,iter,ifs,0⟩] scope pos) 0 it acc env=(do
   standAt iter.pos;match <- pyNext it with
   |none=>pure (.done .next)
   |some v=>
    letOwnedTupleGo target it v;assign target env v;let mut ok:=true
    for c in ifs do
     if ok then ok <- isTrue c env (eval c env)
    if ok then (do let v <- eval elt env;standAt elt.pos;let _ <- call (.builtin "set.add") [acc,v])
    again (.compLoop (.SetComp elt [⟨target,iter,ifs,0⟩] scope pos) 0 it acc env)):=by rfl
theorem zKZ (I:Nat->Shared->Prop)
  (turn:∀ n s,I n s->wpAny (model prog w) A (pyNext it) (fun r s₁=>match r with
   |none=>R (.ok .next) s₁
   |some v=>wpAny (model prog w) A (letOwnedTupleGo target it v) (fun _ s₁'=>wpAny (model prog w) A (assign target env v) (fun _ s₂=>
     wpAny (model prog w) A (forIn ifs true fun c r=>if r=true then do let ok <- isTrue c env (eval c env);pure (ForInStep.yield ok) else pure (ForInStep.yield r)) (fun ok s₃=>
      if ok=true then wpAny (model prog w) A (eval elt env) (fun x s₄=>
       wpAny (model prog w) A (call (.builtin "set.add") [acc,x]) (fun _ s₅=>∃ m,m<n/\I m s₅) (fun _ _=>False) s₄) (fun _ _=>False) s₃
      else ∃ m,m<n/\I m s₃) (fun _ _=>False) s₂) (fun _ _=>False) s₁') (fun _ _=>False) s₁) (fun _ _=>False) s)
  (n:Nat) (h:I n s) :
  codeAny (model prog w) A (.compLoop (.SetComp elt [⟨target,iter,ifs,0⟩] scope pos) 0 it acc env) R s:=by
 refine codeAny_loop rfl I (fun n s hI=>?_) n h;show wpAny _ A ((compTurn (.SetComp elt [⟨target,iter,ifs,0⟩] scope pos) 0 it acc env).onRaise (fun x=>do noteFrame x env;theTreesLotGoes x)) _ _ s;refine wpAny_noted ?_;rw[zKt];refine zWk (zXi (zWk (zXG (turn n s hI) (fun r s₁ h₁=>?_) fun _ _ h'=>h'.elim)));cases r with
 |none=>exact zWm h₁
 |some v=>
  refine zWk (zXG h₁ (fun _ s₁' h₁'=>?_) fun _ _ h'=>h'.elim);refine zWk (zXG h₁' (fun _ s₂ h₂=>zWk (zXG h₂ (fun ok s₃ h₃=>?_) fun _ _ h'=>h'.elim)) fun _ _ h'=>h'.elim);cases ok with
  |false=>exact zWm ⟨rfl,h₃⟩
  |true=>
   exact zWk (zWk (zXG h₃ (fun x s₄ h₄=>zWk (zXi (zWk (zXG h₄ (fun _ s₅ h₅=>zWm (zWm ⟨rfl,h₅⟩)) fun _ _ h'=>h'.elim)))) fun _ _ h'=>h'.elim))
end
end L2
namespace LR
open PySem PySem.Spec PyProof.Rows
open Sem (wp)
end LR
namespace L3
open PySem PySem.Spec PyProof.Rows L2
end L3
namespace ST
open PySem
abbrev Up (xs:Array Nat):Prop:=xs.toList.Pairwise (·< ·)
theorem Up.get (h:Up xs) (hik:i<k) (hk:k<xs.size):xs[i]'(by omega)<xs[k]:=by
 have:=List.pairwise_iff_getElem.mp h i k (by simpa using (show i<xs.size by omega)) (by simpa using hk) hik;simpa using this
theorem zKl (h:Up xs) (j:Nat):∀ (fuel lo hi:Nat),lo<=hi->hi<=xs.size->hi-lo<=fuel->(∀ i (hi':i<xs.size),i<lo->xs[i]<j)->(∀ i (hi':i<xs.size),hi<=i->j<=xs[i]) ->
  (SetTable.below.go xs j fuel lo hi<=xs.size)/\(∀ i (hi':i<xs.size),i<SetTable.below.go xs j fuel lo hi->xs[i]<j)/\(∀ i (hi':i<xs.size),SetTable.below.go xs j fuel lo hi<=i->j<=xs[i])
 |0,lo,hi,h1,h2,h3,a,b=>by
  have:lo=hi:=by omega
  subst this;unfold SetTable.below.go;exact ⟨h2,a,b⟩
 |fuel+1,lo,hi,h1,h2,h3,a,b=>by
  unfold SetTable.below.go;by_cases hl:lo<hi
  ·rw[zWz hl];dsimp only;have hm:(lo+hi) / 2<xs.size:=by omega
   have eg:xs.getD ((lo+hi) / 2) j=xs[(lo+hi) / 2]:=by simp[Array.getD,hm]
   rw[eg];by_cases hc:xs[(lo+hi) / 2]<j
   ·rw[zWz hc];refine zKl h j fuel _ _ (by omega) h2 (by omega) (fun i hi' hlt=>?_) b;rcases Nat.lt_or_ge i ((lo+hi) / 2)with z|z
    ·exact Nat.lt_trans (h.get z hm) hc
    ·have:i=(lo+hi) / 2:=by omega
     subst this;exact hc
   ·rw[zW2 hc];refine zKl h j fuel _ _ (by omega) (by omega) (by omega) a (fun i hi' hge=>?_);rcases Nat.lt_or_ge ((lo+hi) / 2) i with z|z
    ·have:=h.get z hi';omega
    ·have:i=(lo+hi) / 2:=by omega
     subst this;omega
  ·rw[zW2 hl];have:lo=hi:=by omega
   subst this;exact ⟨h2,a,b⟩
theorem zEc (h:Up xs) (j:Nat):SetTable.below xs j<=xs.size/\(∀ i (hi':i<xs.size),i<SetTable.below xs j->xs[i]<j)/\(∀ i (hi':i<xs.size),SetTable.below xs j<=i->j<=xs[i]):=by
 unfold SetTable.below;exact zKl h j xs.size 0 xs.size (zXW _) (zWq _) (by omega) (fun i _ z=>by omega) (fun i hi' z=>by omega)
theorem zM2 (h:Up xs):SetTable.below xs 0=0:=by
 obtain ⟨a,b,c⟩:=zEc h 0;rcases Nat.eq_zero_or_pos (SetTable.below xs 0)with z|z
 ·exact z
 ·have:=b 0 (by omega) z;omega
theorem zNL (h:Up xs) (hk:k<xs.size):SetTable.below xs (xs[k]+1)=k+1:=by
 obtain ⟨a,b,c⟩:=zEc h (xs[k]+1);rcases Nat.lt_trichotomy (SetTable.below xs (xs[k]+1)) (k+1)with z|z|z
 ·have:=c k hk (by omega);omega
 ·exact z
 ·have h1:k+1<xs.size:=by omega
  have:=b (k+1) h1 z;have:=h.get (show k<k+1 by omega) h1;omega
theorem zHn {α:Type} (xs:Array α) (p:Nat) (x:α):(SetTable.insertAt xs p x).toList=xs.toList.take p++x::xs.toList.drop p:=by
  unfold SetTable.insertAt;simp;have:xs.toList.length<=xs.size:=by simp
  rw[List.take_of_length_le (by simp)]
theorem zO5 (h : Up xs) (hj : j ∉ xs.toList) : Up (SetTable.insertAt xs (SetTable.below xs j) j) := by
  obtain ⟨a, b, c⟩ := zEc h j;unfold Up;rw [zHn];rw [List.pairwise_append];have hT : ∀ x ∈ xs.toList.take (SetTable.below xs j), x < j := fun x hx => by
    obtain ⟨i,hi,e⟩:=List.getElem_of_mem hx;rw[List.getElem_take]at e;rw[zX8]at hi
    have h1 : i < xs.size := by have : xs.toList.length = xs.size := by simp
                                omega
    have:=b i h1 (by omega);rw[<-e];simpa using this
  have hD : ∀ x ∈ xs.toList.drop (SetTable.below xs j), j < x := fun x hx => by
    obtain ⟨i,hi,e⟩:=List.getElem_of_mem hx;rw[List.getElem_drop]at e;rw[zZD]at hi
    have h1 : SetTable.below xs j + i < xs.size := by have : xs.toList.length = xs.size := by simp
                                                      omega
    have h2:=c _ h1 (by omega);have h3:x≠j:=fun z=>hj (z▸List.mem_of_mem_drop hx);have e':xs[SetTable.below xs j+i]=x:=by simpa using e
    omega
  refine ⟨h.sublist (List.take_sublist _ _),List.pairwise_cons.mpr ⟨hD,h.sublist (List.drop_sublist _ _)⟩,fun x hx y hy=>?_⟩;rcases zWw.mp hy with z|z
  ·rw[z];exact hT x hx
  ·exact Nat.lt_trans (hT x hx) (hD y z)
theorem zJa (j:Nat):SetTable.has #[] j=false:=by
 unfold SetTable.has;simp
theorem zM8 {t:SetTable} (h:Up t.place) (he:t.slot j=.empty):j∉t.place.toList:=fun hm=>by
 obtain ⟨a,b,c⟩:=zEc h j;obtain ⟨k,hk,e⟩:=List.getElem_of_mem hm;have hk':k<t.place.size:=by simpa using hk
 have e':t.place[k]=j:=by simpa using e
 have eb:SetTable.below t.place j=k:=by
  rcases Nat.lt_trichotomy (SetTable.below t.place j) k with z|z|z
  ·have h1:SetTable.below t.place j<t.place.size:=by omega
   have:=c _ h1 (zWq _);have:=h.get z hk';omega
  ·exact z
  ·have:=b k hk' z;omega
 unfold SetTable.slot at he;dsimp only at he;rw[eb,zWz (by simp[hk',e'])]at he;cases he
theorem zLt (hd:t.dummies = #[]):∀ (fuel:Nat) (p:SetTable.Probe) {j:Nat} {d:Option Nat},p.dummy=none->SetTable.probe.go t hashAt h fuel p=some (.empty j d)->d=none/\t.slot j=.empty
 |0,_,_,_,_,e=>by unfold SetTable.probe.go at e;cases e
 |fuel+1,p,j,d,hp,e=>by
  unfold SetTable.probe.go at e;split at e
  ·rename_i hs;cases e;exact ⟨hp,hs⟩
  ·rename_i hs;unfold SetTable.slot at hs;dsimp only at hs;rw[hd,zJa]at hs;split at hs <;> first|cases hs|simp at hs
  ·split at e
   ·cases e
   ·refine zLt hd fuel _ ?_ e;unfold SetTable.advance;split <;> simp[hp]
theorem zOm {t:SetTable} (hu:Up t.place) (hd:t.dummies = #[]) (e:t.freeSlot h=some (j,b)):b=false/\j∉t.place.toList:=by
 unfold SetTable.freeSlot at e;split at e
 ·rename_i j' d hp;unfold SetTable.probe at hp;obtain ⟨h1,h2⟩:=zLt hd _ _ (by rfl) hp;subst h1;simp at e;obtain ⟨rfl,rfl⟩:=e;exact ⟨rfl,zM8 hu h2⟩
 ·cases e
structure TabOk (w:World) (t:SetTable):Prop where
 led:t.led = !w.params.followText "set-order"
 up:Up t.place
 nod:t.dummies = #[]
theorem zRk (n:Nat):Up (Array.range n):=by
 unfold Up;rw[Array.toList_range];exact List.pairwise_lt_range
theorem TabOk.standIn (h:TabOk w t) (n:Nat):TabOk w (t.standIn n):=⟨h.led,zRk n,rfl⟩
theorem TabOk.orStandIn (h:TabOk w t) (n:Nat):TabOk w (t.orStandIn n):=by
 unfold SetTable.orStandIn;split
 ·exact h
 ·exact h.standIn n
theorem TabOk.put (h:TabOk w t) (hj:j∉t.place.toList):TabOk w (t.put j).1:=by
 unfold SetTable.put;refine ⟨h.led,zO5 h.up hj,?_⟩;show (if SetTable.has t.dummies j=true then _ else t.dummies) = #[];rw[h.nod,zJa];rfl
theorem TabOk.layNew (h:TabOk w t) (es:Array (Int × Value)) (hh:Int) (x:Value):TabOk w (layNew t es hh x).2.1:=by
 unfold PySem.layNew;split
 ·rename_i j b e;exact (h.put (zOm h.up h.nod e).2).orStandIn _
 ·exact h.standIn _
theorem TabOk.relaid (h:TabOk w t) (e:t.relaid hs wanted=some (t',order)):TabOk w t':=by
 unfold SetTable.relaid SetTable.laid at e;cases q:SetTable.layClean (SetTable.sizeAbove wanted-1) hs with
 |none=>rw[q]at e;cases e
 |some owner=>
  rw[q]at e;simp only[Option.bind_eq_bind,Option.bind_some,Option.pure_def,Option.some.injEq,Prod.mk.injEq]at e;obtain ⟨rfl,_⟩:=e;refine ⟨h.led,?_,rfl⟩;unfold Up;dsimp only;rw[List.pairwise_map,List.pairwise_filterMap];refine List.pairwise_lt_range.imp fun {a b} hab x hx y hy=>?_;cases o1:owner.getD a none with
  |none=>rw[o1]at hx;cases hx
  |some u=>
   cases o2:owner.getD b none with
   |none=>rw[o2]at hy;cases hy
   |some v=>
    rw[o1]at hx;rw[o2]at hy;cases hx;cases hy;exact hab
theorem TabOk.relayAll (h:TabOk w t) (es:Array (Int × Value)) (wanted:Nat):TabOk w (relayAll t es wanted).2.1:=by
 unfold PySem.relayAll;split
 ·rename_i t' order e;dsimp only;split
  ·exact h.relaid e
  ·exact h.standIn _
 ·exact h.standIn _
theorem TabOk.plain (h:TabOk w t) (b:Bool):TabOk w { t with plain:=b }:=⟨h.led,h.up,h.nod⟩
theorem TabOk.fresh:TabOk w (SetTable.fresh 0 0 (!w.params.followText "set-order")):=⟨rfl,List.Pairwise.nil,rfl⟩
open Sem (wp)
set_option genInjectivity true in
inductive F2 {α β:Type} (R:α->β->Prop):List α->List β->Prop
 |nil:F2 R [] []
 |cons {x y xs ys}:R x y->F2 R xs ys->F2 R (x::xs) (y::ys)
section
variable {prog:Program} {w:World} {K:Type} [DecidableEq K]
def zUr (knd:KeyKind prog w K) (e:Int × Value) (k:K):Prop:=(knd.is k e.2=true/\e.1=knd.hash k)/\e.2.scannable=true
structure SetK (knd:KeyKind prog w K) (o:Obj) (es:Array (Int × Value)) (ep:Nat) (t:SetTable) (ks:List K):Prop where
 ex:o.ExactSet
 data:o.data=.set es ep t
 tab:TabOk w t
 fits:t.fits es.size=true
 bound:es.size<scanBound
 ent:∃ ks',ks'.Perm ks/\F2 (zUr knd) es.toList ks'
def ins (ks:List K) (k:K):List K:=if k∈ks then ks else ks++[k]
variable {knd:KeyKind prog w K} {o:Obj} {es:Array (Int × Value)} {ep:Nat} {t:SetTable} {ks:List K}
theorem zFM {α β:Type} {R:α->β->Prop}:∀ {xs:List α} {ys:List β},F2 R xs ys->xs.length=ys.length
 |_,_,.nil=>rfl
 |_,_,.cons _ h=>by simp[zFM h]
theorem zEr {α β:Type} {R:α->β->Prop}:∀ {xs:List α} {ys:List β},F2 R xs ys -> ∀ x∈xs,∃ y∈ys,R x y
 |_,_,.nil,x,hx=>by cases hx
 |_,_,.cons h r,x,hx=>by
  rcases zWw.mp hx with z|z
  ·subst z;exact ⟨_,zWy,h⟩
  ·obtain ⟨y,hy,q⟩:=zEr r x z;exact ⟨y,zWx _ hy,q⟩
theorem zGp {α β:Type} {R:α->β->Prop}:∀ {xs:List α} {ys:List β},F2 R xs ys -> ∀ y∈ys,∃ x∈xs,R x y
 |_,_,.nil,x,hx=>by cases hx
 |_,_,.cons h r,x,hx=>by
  rcases zWw.mp hx with z|z
  ·subst z;exact ⟨_,zWy,h⟩
  ·obtain ⟨y,hy,q⟩:=zGp r x z;exact ⟨y,zWx _ hy,q⟩
theorem zFG {α β:Type} {R:α->β->Prop}:∀ {xs:List α} {ys:List β} {us:List α} {vs:List β},F2 R xs ys->F2 R us vs->F2 R (xs++us) (ys++vs)
 |_,_,_,_,.nil,h=>h
 |_,_,_,_,.cons h r,q=> .cons h (zFG r q)
theorem zGS {α β:Type} {R:α->β->Prop} {xs xs':List α} (p:xs'.Perm xs):∀ {ys:List β},F2 R xs ys -> ∃ ys',ys'.Perm ys/\F2 R xs' ys':=by
 have p':=p.symm;clear p;induction p' with
 |nil=>intro ys h;exact ⟨ys,.refl _,h⟩
 |cons x _ ih=>
  intro ys h;cases h with
  |cons h r=>
   obtain ⟨ys',q1,q2⟩:=ih r;exact ⟨_,q1.cons _,.cons h q2⟩
 |swap x y l=>
  intro ys h;cases h with
  |cons h r=>
   cases r with
   |cons h2 r=>
    exact ⟨_,List.Perm.swap _ _ _,.cons h2 (.cons h r)⟩
 |trans _ _ ih1 ih2=>
  intro ys h;obtain ⟨ys',q1,q2⟩:=ih1 h;obtain ⟨ys'',r1,r2⟩:=ih2 q2;exact ⟨ys'',r1.trans q1,r2⟩
theorem SetK.size (h:SetK knd o es ep t ks):es.size=ks.length:=by
 obtain ⟨ks',p,f⟩:=h.ent;rw[<-p.length_eq,<-zFM f,zXT]
theorem SetK.elems (h:SetK knd o es ep t ks):ElemsOf knd es.toList:=fun e he=>by
 obtain ⟨ks',p,f⟩:=h.ent;obtain ⟨k,_,q⟩:=zEr f e he;exact ⟨⟨k,q.1⟩,q.2⟩
theorem SetK.mem (h:SetK knd o es ep t ks) (k:K):k∈ks ↔ ∃ e∈es.toList,knd.is k e.2=true:=by
 obtain ⟨ks',p,f⟩:=h.ent;rw[<-p.mem_iff];constructor
 ·intro hk;obtain ⟨e,he,q⟩:=zGp f k hk;exact ⟨e,he,q.1.1⟩
 ·rintro ⟨e,he,q⟩;obtain ⟨k',hk',q'⟩:=zEr f e he;rw[knd.inj e.2 k k' q q'.1.1];exact hk'
variable {A:Around} {E:Value->Shared->Prop} {s:Shared} {a:Addr} {k:K} {x:Value}
theorem SetK.typeIs (h:SetK knd o es ep t ks) (ho:s.heap.get? a=some o):s.TypeIs (.ref a) "set" := ⟨o,ho,h.ex.1⟩
theorem zJr {h:Heap} (ho:h.get? a=some o) (hd:o.data=.set es ep t) :
  (h.update a (Obj.putSet es' t')).get? a=some { o with data:=.set es' (ep+1) t' }:=by
 have:=zXX (Obj.putSet es' t') ho (by rw[putSet_of es' t' hd];rfl);rw[putSet_of es' t' hd]at this;exact this
theorem zHl {Q:Bool->Shared->Prop} (hkey:knd.is k x=true) (hsc:x.scannable=true) (ho:s.heap.get? a=some o) (hS:SetK knd o es ep t ks) (hroom:ks.length+1<scanBound)
  (h:∀ h' o' es' ep' t' b,Heap.SameBut a s.heap h'->h'.get? a=some o'->SetK knd o' es' ep' t' (ins ks k)->Q b { s with heap:=h' }) :
  wpAny (model prog w) A (setAddHashed a x (knd.hash k)) Q E s:=by
 have hd:=hS.data;have hf:=hS.fits;have hel:=hS.elems;have hb:=hS.bound;have hb1:es.size+1<scanBound:=by rw[hS.size];exact hroom
 unfold setAddHashed setAddHashedIn;refine zXd (zWk (wpAny_setState_of ho hd hf ?_));dsimp only;rw[byScan_of hsc hb hel];simp only[↓reduceIte];unfold setAddByScan;refine zWk ?_;refine zWk (zX7 ?_);refine zWk (wpAny_setScan_of hkey ho hd hf hel ?_);cases hr:List.findIdx? (fun e=>knd.is k e.2) es.toList with
 |some j=>
  dsimp only;obtain ⟨hj,hpj,_⟩:=List.findIdx?_eq_some_iff_getElem.mp hr;have hSk:k∈ks:=(hS.mem k).mpr ⟨es.toList[j],zXI hj,hpj⟩;refine zWm (zWm ?_);have e:s={ s with heap:=s.heap }:=by cases s;rfl
  rw[e];refine h s.heap o es ep t _ (Heap.SameBut.refl a s.heap) ho ?_;unfold ins;rw[zWz hSk];exact hS
 |none=>
  dsimp only;have hSk:k∉ks:=fun hk=>by
   obtain ⟨e,he,hp⟩:=(hS.mem k).mp hk;have:=List.findIdx?_eq_none_iff.mp hr e he;rw[hp]at this;exact Bool.noConfusion this
  have hgw:∀ (b:Bool) {s₁:Shared} {Q':Unit->Shared->Prop},Q' () s₁->wpAny (model prog w) A (match b with|true=>rule "set.scan.the-table-gave-way" |false=>pure ()) Q' E s₁ :=
   fun b s₁ Q' hq=>by cases b <;> first|exact zWm hq|exact zX7 hq
  have hperm:=layNew_perm t es (knd.hash k) x;have hfits:=layNew_fits t es (knd.hash k) x;have htab:=hS.tab.layNew es (knd.hash k) x;generalize hL:layNew t es (knd.hash k) x=L at hperm hfits htab ⊢;obtain ⟨es1,t1,wasDummy,gave⟩:=L;dsimp only at hperm hfits htab ⊢;rw[Array.toList_push]at hperm;have hb1':es1.size<scanBound:=by rw[<-zXT,hperm.length_eq,zW0,zXT];simpa using hb1
  obtain ⟨ks',p,f⟩:=hS.ent;have f1:F2 (zUr knd) (es.toList++[(knd.hash k,x)]) (ks'++[k]):=zFG f (.cons ⟨⟨hkey,rfl⟩,hsc⟩ .nil);obtain ⟨ks1,p1,f2⟩:=zGS hperm f1;have pI:ks1.Perm (ins ks k):=by
   unfold ins;rw[zW2 hSk];exact p1.trans (p.append_right _)
  refine zWk (hgw _ ?_)
  have tail:∀ t2:SetTable,TabOk w t2->t2.fits es1.size=true->wpAny (model prog w) A (do
    storeSet a es1 t2
    if (!wasDummy&&t2.tooFull)=true then do
      (match (relayAll t2 es1 (SetTable.grown es1.size)).2.2 with|true=>rule "set.scan.the-table-gave-way" |false=>pure ())
      storeSet a (relayAll t2 es1 (SetTable.grown es1.size)).1 (relayAll t2 es1 (SetTable.grown es1.size)).2.1;pure (some true)
     else pure (some true)) (fun r s'=>wpAny (model prog w) A (match r with|some added=>pure added|none=>setAddHashedIn a x (knd.hash k) 99999) Q E s') E s:=by
   intro t2 T2 F2;refine zWk (wpAny_storeSet_of ho hd ?_ (fits_of_scanBound hb1'));have g1:=zJr (es':=es1) (t':=t2) ho hd;have sb1:=zXn s.heap a (Obj.putSet es1 t2);have S1:SetK knd { o with data:=.set es1 (ep+1) t2 } es1 (ep+1) t2 (ins ks k):=⟨hS.ex,rfl,T2,F2,hb1',ks1,pI,f2⟩;split
   ·have hp:=relayAll_perm t2 es1 (SetTable.grown es1.size);have hfr:=relayAll_fits t2 es1 (SetTable.grown es1.size);have htr:=T2.relayAll es1 (SetTable.grown es1.size);generalize hRl:relayAll t2 es1 (SetTable.grown es1.size)=Rl at hp hfr htr ⊢;obtain ⟨es2,t3,gave2⟩:=Rl;dsimp only at hp hfr htr ⊢;have hsz:es2.size=es1.size:=by rw[<-zXT,hp.length_eq,zXT]
    have hb2:es2.size<scanBound:=by rw[hsz];exact hb1'
    obtain ⟨ks2,p2,f3⟩:=zGS hp f2;refine zWk (hgw _ ?_);refine zWk (wpAny_storeSet_of g1 rfl ?_ (fits_of_scanBound hb2));have g2:=zJr (es':=es2) (t':=t3) g1 rfl;exact zWm (zWm (h _ _ _ _ _ _ (sb1.trans (zXn _ a _)) g2 ⟨hS.ex,rfl,htr,hfr,hb2,ks2,p2.trans pI,f3⟩))
   ·exact zWm (zWm (h _ _ _ _ _ _ sb1 g1 S1))
  split
  ·refine zWk ?_;rw[hashByValue_scannable 8 hsc];refine zWm ?_;refine tail _ ?_ ?_
   ·split
    ·exact htab
    ·exact htab.plain _
   ·split
    ·exact hfits
    ·exact SetTable.fits_plain_off hfits
  ·refine zWk (zWm ?_);simp only[↓reduceIte];exact tail _ htab hfits
theorem zRy (hkey:knd.is k x=true) (hsc:x.scannable=true) (ho:s.heap.get? a=some o) (hS:SetK knd o es ep t ks) (hroom:ks.length+1<scanBound)
  (h:∀ h' o' es' ep' t',Heap.SameBut a s.heap h'->h'.get? a=some o'->SetK knd o' es' ep' t' (ins ks k)->Q .none { s with heap:=h',toks:=s.toks+1 }) :
  wpAny (model prog w) A (call (.builtin "set.add") [.ref a,x]) Q E s:=by
 refine zXN F.slot_set_add (hS.typeIs ho) F.entry_set_add ?_ (F.args_set_add_2 _ _);unfold Builtin.«set.add» Builtin.Frozenset.oneOther;simp only[List.isEmpty_nil,bind_assoc];unfold Builtin.Frozenset.addrOf setAdd;refine zWk (zWm ?_);try dsimp only
 refine zWk (zWm ?_);try dsimp only
 refine zWk ?_;refine zXd ?_;refine zWk (knd.pyHash hkey ?_);refine zHl (s:={ s with toks:=s.toks+1 }) hkey hsc ho hS hroom fun h' o' es' ep' t' b hsb ho' hS'=>?_;show wpAny _ _ (ret Value.none) _ _ _;exact zWm ⟨_,rfl,h h' o' es' ep' t' hsb ho' hS'⟩
def zC0 (w:World):Obj:={ cls:=.type "set", dict:=none,data:=.set #[] 0 (.fresh 0 0 (!w.params.followText "set-order")) }
theorem SetK.fresh:SetK knd (zC0 w) #[] 0 (.fresh 0 0 (!w.params.followText "set-order")) []:=⟨⟨rfl,rfl,rfl⟩,rfl,.fresh,by rfl,by decide,[],.refl _,.nil⟩
theorem zOh (h:Q (.ref s.heap.objs.size) { s with heap:=s.heap.push (zC0 w) }) :
  wpAny (model prog w) A (newSet (.type "set")) Q E s:=by
 unfold newSet setsByText;refine zWk (zWk (wpAny_askSetting (zWm ?_)));dsimp only;simp only[newObj];exact zWk (wpAny_alloc (zWm h))
end
open PySem.Spec PyProof.Rows
open Sem (wp)
theorem zMO:Manifest.owners.lookup (String.ofList ['r','o','t','a','r','e','t','i','_','t','e','s'].reverse)=some Manifest.sig_set_iterator:=by kernel_rfl
theorem zAp:Slot "set_iterator" "__next__" "set_iterator.__next__" := .of (owner := "set_iterator") (n := "__next__") (by rw[typeLookup_type,builtinLookup_eq_fast];kernel_rfl) (by decide+kernel) (by decide+kernel) (by decide+kernel) (by first|exact .inl (by decide+kernel)|exact .inr (by decide+kernel)) (by rw[isSubtype_type];kernel_rfl)
theorem zGY:Slot "set_iterator" "__iter__" "set_iterator.__iter__" := .of (owner := "set_iterator") (n := "__iter__") (by rw[typeLookup_type,builtinLookup_eq_fast];kernel_rfl) (by decide+kernel) (by decide+kernel) (by decide+kernel) (by first|exact .inl (by decide+kernel)|exact .inr (by decide+kernel)) (by rw[isSubtype_type];kernel_rfl)
theorem zDH (a:Value):argsOk "set_iterator.__next__" ⟨[a],[]⟩:=by
 unfold argsOk;rw[signature?_of (id := "set_iterator.__next__") (n:=['_','_','t','x','e','n','_','_']) (o:=['r','o','t','a','r','e','t','i','_','t','e','s']) (by kernel_rfl) zMO];kernel_rfl
theorem zKE (a:Value):argsOk "set_iterator.__iter__" ⟨[a],[]⟩:=by
 unfold argsOk;rw[signature?_of (id := "set_iterator.__iter__") (n:=['_','_','r','e','t','i','_','_']) (o:=['r','o','t','a','r','e','t','i','_','t','e','s']) (by kernel_rfl) zMO];kernel_rfl
theorem zCp:entryFor table "set_iterator.__next__" = some Builtin.«set_iterator.__next__»:=entryFor_of_tree (by kernel_rfl)
theorem zJJ:entryFor table "set_iterator.__iter__" = some Builtin.«dict_keyiterator.__iter__» :=
 entryFor_alias (id' := "dict_keyiterator.__iter__") (by kernel_rfl) (by first|rfl|decide+kernel|(unfold String.splitOn;simp +decide [String.splitOnAux])) (by decide+kernel) (by kernel_rfl)
theorem zIq:entryFor table "set.__iter__" = some Builtin.«frozenset.__iter__» :=
 entryFor_alias (id' := "frozenset.__iter__") (by kernel_rfl) rfl (by decide+kernel) (by kernel_rfl)
def zB7 (f:Value) (i:Nat) (a:Addr) (n ep:Nat):Obj:={ cls:=.type "set_iterator", data:=.fields #[f,rawInt i,.ref a,rawInt n,rawInt ep] }
theorem zGG {α:Type}:∀ {l:List α} {i:Nat} (h:i<l.length),(l[i]::l.eraseIdx i).Perm l
 |[],i,h=>by simp at h
 |x::l,0,h=>by simp
 |x::l,i+1,h=>by
  have:=zGG (l:=l) (i:=i) (by simpa using h);rw[List.getElem_cons_succ,List.eraseIdx_cons_succ];exact (List.Perm.swap _ _ _).trans (this.cons x)
theorem zJ0 {α:Type} {l:List α} (h:i<l.length) (e:n+1=l.length):n=(l.eraseIdx i).length:=by
 rw[List.length_eraseIdx,zWz h];omega
theorem zJY {α:Type} (next:Nat->Nat):∀ (fuel k:Nat) (left:List α) (out:Array α),fuel=left.length->(pickOrder.go next fuel k left out).toList.Perm (out.toList++left)
 |0,k,left,out,h=>by
  have:left=[]:=List.length_eq_zero_iff.mp h.symm;subst this;unfold pickOrder.go;simp
 |fuel+1,k,left,out,h=>by
  unfold pickOrder.go;have hl:0<left.length:=by omega
  have hm:next k % left.length<left.length:=Nat.mod_lt _ hl
  rw[zWo hm];dsimp only;refine (zJY next fuel (k+1) _ _ (zJ0 hm h)).trans ?_;rw[Array.toList_push,zXq];exact (zGG hm).append_left _
theorem zEs {α:Type} (next:Nat->Nat) (xs:Array α):(pickOrder next xs).toList.Perm xs.toList:=by
 unfold pickOrder;simpa using zJY next xs.size 0 xs.toList #[] (by simp)
section
variable {prog:Program} {w:World} {A:Around} {E:Value->Shared->Prop} {s:Shared}
theorem zLA (h0:n≠0) (h:∀ r d,r<n->Q r { s with drawn:=d }):wpAny (model prog w) A (choose src n) Q E s :=
 fun Γ p hΓ=>⟨h0,h _ _ (Nat.mod_lt _ (by omega))⟩
theorem zEi {α:Type}:∀ (n:Nat) (xs:List α) {s:Shared} {Q:List α->Shared->Prop},n=xs.length->(∀ ys d,ys.Perm xs->Q ys { s with drawn:=d })->wpAny (model prog w) A (drawOrder n xs) Q E s
 |0,xs,s,Q,h,q=>by
  have:xs=[]:=List.length_eq_zero_iff.mp h.symm;subst this;have e:s={ s with drawn:=s.drawn }:=by cases s;rfl
  rw[e];exact zWm (q [] s.drawn (.refl _))
 |n+1,[],s,Q,h,q=>by cases h
 |n+1,x::xs,s,Q,h,q=>by
  unfold drawOrder;refine zWk (zLA (by simp) fun r d hr=>?_);rw[zWo hr];dsimp only;refine zWk (zEi n _ (zJ0 hr h) fun ys d' hp=>zWm ?_);exact q _ d' ((hp.cons _).trans (zGG hr))
variable {K:Type} [DecidableEq K] {knd:KeyKind prog w K} {o:Obj} {es:Array (Int × Value)} {ep:Nat} {t:SetTable} {ks:List K} {a I:Addr}
theorem zIr (h:s.heap.get? I=some (zB7 f i a n ep)):s.TypeIs (.ref I) "set_iterator" := ⟨_,h,rfl⟩
theorem zN7 (hI:s.heap.get? I=some (zB7 f i a n ep)) (h:Q (.ref I) s):wpAny (model prog w) A (pyIter (.ref I)) Q E s:=by
 refine wpAny_pyIter_slot (zIr hI) zGY (zXN zGY (zIr hI) zJJ ?_ (zKE _));show wpAny _ _ (ret (.ref I)) _ _ s;exact zWm ⟨_,rfl, "set_iterator", _,zIr hI,zAp.lookup,h⟩
structure Nexts (prog:Program) (w:World) (o:Obj) (a:Addr) (ep:Nat) (n:Nat) (at_:Nat->Nat) (ord:List Value):Prop where
 len:ord.length=n
 nx:∀ (A:Around) (E:Value->Shared->Prop) (i:Nat) (s:Shared) (Q:Option (Value × Nat)->Shared->Prop),i<=n->s.heap.get? a=some o->Q ((ord[i]?).map fun x=>(x,at_ (i+1))) s->wpAny (model prog w) A (setNext a (at_ i) i ep) Q E s
theorem zO1 (N:Nexts prog w o a ep ks.length at_ ord) (hS:SetK knd o es ep t ks) (hI:s.heap.get? I=some (zB7 (rawInt (at_ i)) i a ks.length ep)) (ho:s.heap.get? a=some o)
  (hx:ord[i]?=some x) (hQ:∀ h',h'.get? I=some (zB7 (rawInt (at_ (i+1))) (i+1) a ks.length ep)->Heap.SameBut I s.heap h'->Q (some x) { s with heap:=h' }):wpAny (model prog w) A (pyNext (.ref I)) Q E s:=by
 have hT:=zIr hI;have hi:i<ks.length:=by have:=(zWn.mp hx).1;rw[N.len]at this;exact this
 unfold pyNext;refine zWk (wpAny_attempt (zXM (name:=Str.ofString "__next__") hT zAp (zXN zAp hT zCp ?_ (zDH _))));unfold Builtin.«set_iterator.__next__» slotArgs;simp only[List.isEmpty_nil,Bool.not_true,zXl,↓reduceIte,List.length_nil,bne_self_eq_false,pure_bind,bind_assoc];refine zWk (wpAny_fieldsOf hI rfl ?_);dsimp only[rawInt];refine zWk (wpAny_setEntries_of ho hS.data hS.fits ?_);rw[zW2 (by rw[hS.size];simp)];refine zWk (N.nx _ _ i s _ (by omega) ho ?_);rw[hx];dsimp only[Option.map];refine zWk (zYV hI rfl (by simp) ?_);have e1:=zXX (Obj.mapFields fun vs=>vs.set! 0 (rawInt (at_ (i+1)))) hI (Obj.isFreed_of_fields (zX1 rfl _));refine zWk (zYV e1 (zX1 rfl _) (by simp) ?_);have e2:=zXX (Obj.mapFields fun vs=>vs.set! 1 (rawInt ((i:Int)+1))) e1 (Obj.isFreed_of_fields (zX1 (zX1 rfl _) _));refine zWm ⟨x,rfl,zWm (hQ _ ?_ ((zXn ..).trans (zXn ..)))⟩;refine e2.trans ?_;simp[Obj.mapFields,zB7,rawInt]
end
open Sem (wp)
section
variable {prog:Program} {w:World} {A:Around} {E:Value->Shared->Prop} {s:Shared}
variable {K:Type} [DecidableEq K] {knd:KeyKind prog w K} {o:Obj} {es:Array (Int × Value)} {ep:Nat} {t:SetTable} {ks:List K} {a I:Addr}
theorem zH3 (hh:A.handled=none) (N:Nexts prog w o a ep ks.length at_ ord) (hS:SetK knd o es ep t ks) (hI:s.heap.get? I=some (zB7 (rawInt (at_ ks.length)) ks.length a ks.length ep)) (ho:s.heap.get? a=some o)
  (hQ:∀ h',Heap.ExtBut I s.heap h'->Q none { s with heap:=h' }):wpAny (model prog w) A (pyNext (.ref I)) Q E s:=by
 have hT:=zIr hI;unfold pyNext;refine zWk (wpAny_attempt (zXM (name:=Str.ofString "__next__") hT zAp (zXN zAp hT zCp ?_ (zDH _))));unfold Builtin.«set_iterator.__next__» slotArgs;simp only[List.isEmpty_nil,Bool.not_true,zXl,↓reduceIte,List.length_nil,bne_self_eq_false,pure_bind,bind_assoc];refine zWk (wpAny_fieldsOf hI rfl ?_);dsimp only[rawInt];refine zWk (wpAny_setEntries_of ho hS.data hS.fits ?_);rw[zW2 (by rw[hS.size];simp)];refine zWk (N.nx _ _ ks.length s _ (zWq _) ho ?_);rw[List.getElem?_eq_none (by rw[N.len];exact zWq _)];dsimp only[Option.map];refine zWk (zYV hI rfl (by simp) ?_);simp only[newExc,newTuple,bind_assoc,pure_bind];refine zWk (zXD (zWk (m:=firstArgMember _ _) (wpAny_of_eq (a:=Value.none) (by first|rfl|(simp only[firstArgMember];rfl)) (zWk (zXD ?_ (by size_fits))))) (by size_fits));simp only[raiseNew];refine zWk (wpAny_handled ?_);rw[show A.in1.handled=none from hh];refine zWk (zWm (wpAny_throw ?_));refine zWk (wpAny_isInstance (T := "StopIteration") (b:=true) ⟨_,zWu _ rfl,rfl⟩ isSubtype_stop (zWm ?_));exact hQ _ (((zXn ..).extBut.push _).push _)
theorem zLi (hh:A.handled=none) (hne:a≠I) (N:Nexts prog w o a ep ks.length at_ ord) (hS:SetK knd o es ep t ks) :
  Walks prog w A I [I,a] [I] ks.length (fun i v=>ord[i]?=some v) (fun i h=>h.get? I=some (zB7 (rawInt (at_ i)) i a ks.length ep)/\h.get? a=some o) where
 sub:=fun b hb=>by simp at hb;simp[hb]
 frame:=fun _ _ _ st hk=>⟨hk I (by simp) _ st.1,hk a (by simp) _ st.2⟩;item:=fun i s Q E hi st hQ=>by
  have hx:ord[i]?=some (ord[i]'(by rw[N.len];exact hi)):=zWo _;refine zO1 N hS st.1 st.2 hx fun h' hI' hs'=>?_;exact hQ _ h' s.toks hx ⟨hI',hs'.extBut a o hne st.2⟩ fun b u hb ee=>hs'.extBut b u (fun h=>hb (by simp[h])) ee
 done:=fun s Q E st hQ=>zH3 hh N hS st.1 st.2 fun h' he'=>hQ h' s.toks fun b u hb ee=>he' b u (fun h=>hb (by simp[h])) ee;self:=fun _ _ _ _ st hQ=>zN7 st.1 hQ
theorem zMy {pl:List Nat} (hS:SetK knd o es ep t ks) (hl:pl.length=ks.length) (hI:s.heap.get? I=some (zB7 (.ref T) i a ks.length ep)) (ho:s.heap.get? a=some o)
  (hT:IsTup s.heap T (pl.map fun (k:Nat)=>rawInt k).toArray)
  (hx:(pl[i]?).bind (fun k=>(es[k]?).map (·.2))=some x) (hQ:∀ h',h'.get? I=some (zB7 (.ref T) (i+1) a ks.length ep)->Heap.SameBut I s.heap h'->Q (some x) { s with heap:=h' }):wpAny (model prog w) A (pyNext (.ref I)) Q E s:=by
 have hTy:=zIr hI;obtain ⟨oT,hoT,hcT,nT,hdT⟩:=id hT;cases hp:pl[i]? with
 |none=>rw[hp]at hx;cases hx
 |some k=>
  rw[hp]at hx;cases he:es[k]? with
  |none=>simp only[Option.bind_some]at hx;rw[he]at hx;cases hx
  |some e=>
   simp only[Option.bind_some]at hx;rw[he]at hx;cases hx;unfold pyNext;refine zWk (wpAny_attempt (zXM (name:=Str.ofString "__next__") hTy zAp (zXN zAp hTy zCp ?_ (zDH _))));unfold Builtin.«set_iterator.__next__» slotArgs;simp only[List.isEmpty_nil,Bool.not_true,zXl,↓reduceIte,List.length_nil,bne_self_eq_false,pure_bind,bind_assoc];refine zWk (wpAny_fieldsOf hI rfl ?_);dsimp only[rawInt];refine zWk (wpAny_setEntries_of ho hS.data hS.fits ?_);rw[zW2 (by rw[hS.size];simp)];refine zWk (zXa hoT hdT ?_);dsimp only;have e5:(List.map (fun (k:Nat)=>rawInt k) pl).toArray[(i:Int).toNat]?=some (rawInt k):=by simp[hp]
   rw[e5];dsimp only[rawInt];unfold setNextDrawn;simp only[bind_assoc];refine zWk (wpAny_setState_of ho hS.data hS.fits ?_);dsimp only;rw[zW2 (by simp)];have e6:es[(k:Int).toNat]?=some e:=by simpa using he
   rw[e6];obtain ⟨e1,e2⟩:=e;dsimp only;simp only[pure_bind];refine zWk (zYV hI rfl (by simp) ?_);refine zWm ⟨e2,rfl,zWm (hQ _ ?_ (zXn ..))⟩;refine (zXX _ hI (Obj.isFreed_of_fields (zX1 rfl _))).trans ?_;simp[Obj.mapFields,zB7,rawInt]
theorem zO8 {pl:List Nat} (hh:A.handled=none) (hS:SetK knd o es ep t ks) (hl:pl.length=ks.length) (hI:s.heap.get? I=some (zB7 (.ref T) ks.length a ks.length ep)) (ho:s.heap.get? a=some o)
  (hT:IsTup s.heap T (pl.map fun (k:Nat)=>rawInt k).toArray) (hQ:∀ h',Heap.ExtBut I s.heap h'->Q none { s with heap:=h' }):wpAny (model prog w) A (pyNext (.ref I)) Q E s:=by
 have hTy:=zIr hI;obtain ⟨oT,hoT,hcT,nT,hdT⟩:=id hT;unfold pyNext;refine zWk (wpAny_attempt (zXM (name:=Str.ofString "__next__") hTy zAp (zXN zAp hTy zCp ?_ (zDH _))));unfold Builtin.«set_iterator.__next__» slotArgs;simp only[List.isEmpty_nil,Bool.not_true,zXl,↓reduceIte,List.length_nil,bne_self_eq_false,pure_bind,bind_assoc];refine zWk (wpAny_fieldsOf hI rfl ?_);dsimp only[rawInt];refine zWk (wpAny_setEntries_of ho hS.data hS.fits ?_);rw[zW2 (by rw[hS.size];simp)];refine zWk (zXa hoT hdT ?_);dsimp only;have e5:(List.map (fun (k:Nat)=>rawInt k) pl).toArray[(ks.length:Int).toNat]?=none:=by simp[hl]
 rw[e5];dsimp only[rawInt];refine zWk (zYV hI rfl (by simp) ?_);have e1:=zXX (Obj.mapFields fun vs=>vs.set! 0 (rawInt 0)) hI (Obj.isFreed_of_fields (zX1 rfl _));refine zWk (zYV e1 (zX1 rfl _) (by simp) ?_);simp only[newExc,newTuple,bind_assoc,pure_bind];refine zWk (zXD (zWk (m:=firstArgMember _ _) (wpAny_of_eq (a:=Value.none) (by first|rfl|(simp only[firstArgMember];rfl)) (zWk (zXD ?_ (by size_fits))))) (by size_fits));simp only[raiseNew];refine zWk (wpAny_handled ?_);rw[show A.in1.handled=none from hh];refine zWk (zWm (wpAny_throw ?_));refine zWk (wpAny_isInstance (T := "StopIteration") (b:=true) ⟨_,zWu _ rfl,rfl⟩ isSubtype_stop (zWm ?_));exact hQ _ ((((zXn ..).trans (zXn ..)).extBut.push _).push _)
theorem zLq {pl:List Nat} (hh:A.handled=none) (hne:a≠I) (hneT:T≠I) (hS:SetK knd o es ep t ks) (hl:pl.length=ks.length) (hb:∀ k∈pl,k<es.size) :
  Walks prog w A I [I,a,T] [I] ks.length (fun i v=>(pl[i]?).bind (fun k=>(es[k]?).map (·.2))=some v) (fun i h=>h.get? I=some (zB7 (.ref T) i a ks.length ep)/\h.get? a=some o/\IsTup h T (pl.map fun (k:Nat)=>rawInt k).toArray) where
 sub:=fun b hb=>by simp at hb;simp[hb]
 frame:=fun _ _ _ st hk=>⟨hk I (by simp) _ st.1,hk a (by simp) _ st.2.1,let ⟨oT,ho,r⟩:=st.2.2;⟨oT,hk T (by simp) oT ho,r⟩⟩;item:=fun i s Q E hi st hQ=>by
  have hi':i<pl.length:=by rw[hl];exact hi
  have hk:pl[i]<es.size:=hb _ (zXI hi');have hx:(pl[i]?).bind (fun k=>(es[k]?).map (·.2))=some (es[pl[i]].2):=by
   rw[zWo hi'];simp[hk]
  refine zMy hS hl st.1 st.2.1 st.2.2 hx fun h' hI' hs'=>?_;exact hQ _ h' s.toks hx ⟨hI',hs'.extBut a o hne st.2.1,st.2.2.extBut hs'.extBut hneT⟩ fun b u hb ee=>hs'.extBut b u (fun h=>hb (by simp[h])) ee
 done:=fun s Q E st hQ=>zO8 hh hS hl st.1 st.2.1 st.2.2 fun h' he'=>hQ h' s.toks fun b u hb ee=>he' b u (fun h=>hb (by simp[h])) ee;self:=fun _ _ _ _ st hQ=>zN7 st.1 hQ
end
open Sem (wp)
theorem zPZ {prog:Program} {w:World} {A:Around} {I:Addr} {fp wr:List Addr} {n:Nat} {P P':Nat->Value->Prop} {St:Nat->Heap->Prop} (W:Walks prog w A I fp wr n P St) (h:∀ i v,P i v->P' i v):Walks prog w A I fp wr n P' St where
 sub:=W.sub;frame:=W.frame;item:=fun i s Q E hi st hQ=>W.item i s Q E hi st fun v h' tk hP=>hQ v h' tk (h i v hP);done:=W.done;self:=W.self
section
variable {prog:Program} {w:World} {A:Around} {E:Value->Shared->Prop} {s:Shared}
variable {K:Type} [DecidableEq K] {knd:KeyKind prog w K} {o:Obj} {es:Array (Int × Value)} {ep:Nat} {t:SetTable} {ks:List K} {a I:Addr}
theorem zDd (h:Q (w.params.followText "set-order") s):wpAny (model prog w) A setsByText Q E s:=by
 unfold setsByText;exact zWk (wpAny_askSetting (zWm h))
theorem zNH (hS:SetK knd o es ep t ks) (hT:w.params.followText "set-order" = true):Nexts prog w o a ep ks.length (fun _=>0) ((pickOrder (w.params.setOrder a ep) es).toList.map (·.2)) where
 len:=by rw[zWt,(zEs _ es).length_eq,zXT,hS.size]
 nx:=fun A E i s Q hi ho hQ=>by
  unfold setNext;refine zWk (wpAny_setState_of ho hS.data hS.fits ?_);dsimp only;refine zWk (zDd ?_);rw[hT,zWz rfl,zW2 (by simp)];refine zWk ?_;unfold setWalk;refine zWk (wpAny_setState_of ho hS.data hS.fits ?_);dsimp only;refine zWk (zDd ?_);rw[hT,zWz rfl];refine zWk (wpAny_askSetting (zWm ?_));refine zWm ?_;have e:(Option.map (fun (e:Int × Value)=>(e.2,0)) (pickOrder (w.params.setOrder a ep) es)[i]?)=Option.map (fun x=>(x,0)) ((pickOrder (w.params.setOrder a ep) es).toList.map (·.2))[i]?:=by
   rw[zW7,Array.getElem?_toList];cases (pickOrder (w.params.setOrder a ep) es)[i]? <;> rfl
  show Q (Option.map (fun (e:Int × Value)=>(e.2,0)) (pickOrder (w.params.setOrder a ep) es)[i]?) s;rw[e];exact hQ
def zNB (t:SetTable):Nat->Nat
 |0=>0
 |i+1=>t.place.getD i 0+1
theorem zQo (h:Up t.place) (hi:i<=t.place.size):SetTable.below t.place (zNB t i)=i:=by
 cases i with
 |zero=>exact zM2 h
 |succ i=>
  show SetTable.below t.place (t.place.getD i 0+1)=i+1;have hl:i<t.place.size:=by omega
  have e:t.place.getD i 0=t.place[i]:=by simp[Array.getD,hl]
  rw[e];exact zNL h hl
theorem zPr (hS:SetK knd o es ep t ks):t.place.size=es.size:=by
 have:=hS.fits;simp only[SetTable.fits,zXK,beq_iff_eq]at this;exact this.1
theorem zME (hS:SetK knd o es ep t ks) (hT:w.params.followText "set-order" = false) (hd:(!t.plain&&decide (es.size>1))=false):Nexts prog w o a ep ks.length (zNB t) (es.toList.map (·.2)) where
 len:=by rw[zWt,zXT,hS.size]
 nx:=fun A E i s Q hi ho hQ=>by
  have hz:=zPr hS;unfold setNext;refine zWk (wpAny_setState_of ho hS.data hS.fits ?_);dsimp only;refine zWk (zDd ?_);rw[hT,zW2 (by decide)];show wpAny _ _ (if (!t.plain&&decide (es.size>1))=true then _ else _) _ _ _;rw[zW2 (by rw[hd];decide)];have hl:t.led=true:=by rw[hS.tab.led,hT];rfl
  refine zWk ?_;show wpAny _ _ (if (!t.led && !es.isEmpty)=true then unsupported "set:maker-not-led" else pure ()) _ _ _;rw[zW2 (by rw[hl];simp)];refine zWm ?_;rw[zQo hS.tab.up (by rw[hz,hS.size];exact hi)];refine zWm ?_;rw[zW7,Array.getElem?_toList]at hQ;by_cases q:i<es.size
  ·have q2:i<t.place.size:=by rw[hz];exact q
   rw[zXV q,zXV q2];rw[zXV q]at hQ;have e:zNB t (i+1)=t.place[i]+1:=by
    show t.place.getD i 0+1=_;simp[Array.getD,q2]
   simp only[Option.map]at hQ;rw[e]at hQ;exact hQ
  ·have:i=es.size:=by rw[hS.size]at q ⊢;omega
   rw[Array.getElem?_eq_none (by omega)]at hQ ⊢;exact hQ
theorem zRY (ho:s.heap.get? a=some o) (hS:SetK knd o es ep t ks)
  (h:∀ (h':Heap) (d:Drawn) (I:Addr) (fp:List Addr) (ord:List Value) (St:Nat->Heap->Prop),(∀ b u,s.heap.get? b=some u->h'.get? b=some u)->s.heap.objs.size<=I->(∀ b∈fp,b<h'.objs.size/\(b=a\/s.heap.objs.size<=b)) ->
   (∀ A:Around,A.handled=none->Walks prog w A I fp [I] ks.length (fun i v=>ord[i]?=some v) St)->St 0 h'->ord.Perm (es.toList.map (·.2))->Q (.ref I) { s with heap:=h',drawn:=d }) :
  wpAny (model prog w) A (pyIter (.ref a)) Q E s:=by
 have hT:=hS.typeIs ho;have hal:a<s.heap.objs.size:=zWv ho;refine wpAny_pyIter_slot hT F.slot_set_iter (zXN F.slot_set_iter hT zIq ?_ (F.args_set_iter_1 _));unfold Builtin.«frozenset.__iter__» Builtin.Frozenset.slot0 slotArgs Builtin.Frozenset.addrOf Builtin.Frozenset.sizeOf;simp only[List.isEmpty_nil,Bool.not_true,zXl,↓reduceIte,List.length_nil,bne_self_eq_false,pure_bind,bind_assoc];refine zWk (wpAny_setEntries_of ho hS.data hS.fits ?_);unfold setDrawn;simp only[bind_assoc];refine zWk (wpAny_setState_of ho hS.data hS.fits ?_);dsimp only;refine zWk (zDd ?_);simp only[pure_bind];have hsz:=hS.size;have plain:∀ (at_:Nat->Nat) (ord:List Value),at_ 0=0->Nexts prog w o a ep ks.length at_ ord->ord.Perm (es.toList.map (·.2))->Q (.ref s.heap.objs.size) { s with heap:=s.heap.push (zB7 (rawInt 0) 0 a ks.length ep) }:=by
  intro at_ ord h0 N hp;have e:s.heap.push (zB7 (rawInt 0) 0 a ks.length ep)=s.heap.push (zB7 (rawInt 0) 0 a ks.length ep):=rfl
  have:=h (s.heap.push (zB7 (rawInt 0) 0 a ks.length ep)) s.drawn s.heap.objs.size [s.heap.objs.size,a] ord (fun i h=>h.get? s.heap.objs.size=some (zB7 (rawInt (at_ i)) i a ks.length ep)/\h.get? a=some o)
   (fun b u e=>zWl _ e) (zWq _) (fun b hb=>by
    rw[zXQ];rcases zWw.mp hb with z|z
    ·rw[z];exact ⟨zXh _,.inr (zWq _)⟩
    ·rw[zXC.mp z];exact ⟨zXZ hal,.inl rfl⟩)
   (fun A hh=>zLi hh (zW5 hal) N hS) ⟨by rw[h0];exact zWu _ rfl,zWl _ ho⟩ hp
  exact this
 have mk:∀ (s1:Shared) (f:Value) (hv:s1.heap.get? a=some o) {Q':Fin->Shared->Prop},Q' (.done (.ret (.ref s1.heap.objs.size))) { s1 with heap:=s1.heap.push (zB7 f 0 a ks.length ep) }->wpAny (model prog w) A.in1 (do
   let e <- setEpoch a;let r <- newFields "set_iterator" [f,rawInt 0,Value.ref a,rawInt es.size,rawInt e];ret r) Q' E s1:=by
  intro s1 f hv Q' hq;refine zWk (wpAny_setEpoch_of hv hS.data hS.fits ?_);unfold newFields;refine zWk (zXD (zWm ?_));rw[hsz];exact hq
 have ty:∀ (s1:Shared) (f:Value),(∃ T' r,Shared.TypeIs { s1 with heap:=s1.heap.push (zB7 f 0 a ks.length ep) } (.ref s1.heap.objs.size) T'/\typeLookup (Value.type T') (Str.ofString "__next__")=pure (some r)/\True):=fun s1 f=>⟨"set_iterator", _,⟨_,zWu _ rfl,rfl⟩,zAp.lookup,trivial⟩;show wpAny _ _ (if (!w.params.followText "set-order" && (!t.plain&&decide (es.size>1)))=true then _ else _) _ _ _;by_cases hc:(!w.params.followText "set-order" && (!t.plain&&decide (es.size>1)))=true
 ·rw[zWz hc];refine zWk (zEi _ _ (by simp) fun pl d hp=>?_);refine zWk ?_;unfold newTuple;have hpl:pl.length=ks.length:=by rw[hp.length_eq,zYh,hsz]
  refine zXD ?_ (by
   show (List.map (fun (i:Nat)=>rawInt i) pl).toArray.size<=sizeLine;rw[zWs,zWt,hpl,<-hsz];exact fits_of_scanBound hS.bound)
  generalize hH:s.heap.push { cls:=.type "tuple", data:=.seq (List.map (fun (i:Nat)=>rawInt i) pl).toArray }=H;have kH:∀ b u,s.heap.get? b=some u->H.get? b=some u:=fun b u e=>by rw[<-hH];exact zWl _ e
  have hT1:IsTup H s.heap.objs.size (pl.map fun (k:Nat)=>rawInt k).toArray:=⟨_,by rw[<-hH];exact zWu _ rfl,rfl,0,rfl⟩;have szH:H.objs.size=s.heap.objs.size+1:=by rw[<-hH];exact zXQ ..
  have szlt:s.heap.objs.size<H.objs.size:=by rw[szH];exact zXh _
  have alt:a<H.objs.size:=Nat.lt_trans hal szlt;refine mk { s with heap:=H,drawn:=d } (.ref s.heap.objs.size) (kH _ _ ho) ?_;obtain ⟨T',r,e1,e2,_⟩:=ty { s with heap:=H,drawn:=d } (.ref s.heap.objs.size);refine ⟨_,rfl,T',r,e1,e2,?_⟩;have kH2:∀ b u,s.heap.get? b=some u->(H.push (zB7 (.ref s.heap.objs.size) 0 a ks.length ep)).get? b=some u:=fun b u e=>zWl _ (kH b u e);refine h _ d H.objs.size [H.objs.size,a,s.heap.objs.size] (pl.map fun k=>((es[k]?).map (·.2)).getD .none) (fun i h=>h.get? H.objs.size=some (zB7 (.ref s.heap.objs.size) i a ks.length ep)/\h.get? a=some o/\IsTup h s.heap.objs.size (pl.map fun (k:Nat)=>rawInt k).toArray) kH2 (by rw[szH];exact zYS _) (fun b hb=>?_) (fun A hh=>?_) ⟨zWu _ rfl,kH2 a o ho,?_⟩ ?_
  ·rw[zXQ];simp only[zWw,zXF,zX5]at hb;rcases hb with z|z|z
   ·rw[z];exact ⟨zXh _,.inr (Nat.le_of_lt szlt)⟩
   ·rw[z];exact ⟨zXZ alt,.inl rfl⟩
   ·rw[z];exact ⟨zXZ szlt,.inr (zWq _)⟩
  ·have hb:∀ k∈pl,k<es.size:=fun k hk=>by have:=hp.mem_iff.mp hk;simpa using this
   refine zPZ (zLq hh (a:=a) (I:=H.objs.size) (T:=s.heap.objs.size) (zW5 alt) (zW5 szlt) hS hpl hb) fun i v hv=>?_;rw[zW7];cases q:pl[i]? with
   |none=>rw[q]at hv;cases hv
   |some k=>
    rw[q]at hv;simp only[Option.bind_some]at hv;rw[Option.map_some,hv];rfl
  ·exact hT1.push _
  ·have e:es.toList.map (·.2)=(List.range es.size).map fun k=>((es[k]?).map (·.2)).getD .none:=by
    apply List.ext_getElem?;intro i;rw[zW7,zW7,Array.getElem?_toList];by_cases q:i<es.size
    ·rw[List.getElem?_range q,zXV q];simp[q]
    ·rw[Array.getElem?_eq_none (by omega),List.getElem?_eq_none (by simp;omega)];rfl
   rw[e];exact hp.map _
 ·rw[zW2 hc];refine mk s (rawInt 0) ho ?_;obtain ⟨T',r,e1,e2,_⟩:=ty s (rawInt 0);refine ⟨_,rfl,T',r,e1,e2,?_⟩;cases hX:w.params.followText "set-order" with
  |true=>exact plain _ _ rfl (zNH hS hX) ((zEs _ es).map _)
  |false=>
   rw[hX]at hc;exact plain _ _ rfl (zME hS hX (by simpa using hc)) (.refl _)
end
open Sem (wp)
section
variable {prog:Program} {w:World} {A:Around} {E:Value->Shared->Prop} {s:Shared}
variable {K:Type} [DecidableEq K] {knd:KeyKind prog w K} {o:Obj} {es:Array (Int × Value)} {ep:Nat} {t:SetTable} {ks:List K} {a I:Addr}
theorem zRF:isSubtype (.type "set") (.type "set")=pure true:=sub_set_self
theorem zOe (hT:s.TypeIs (.ref a) "set") (h:Q false s):wpAny (model prog w) A (Builtin.List.listLengthHint (.ref a)) Q E s:=by
 unfold Builtin.List.listLengthHint;refine zWk (wpAny_specialOf hT F.slot_set_len.lookup ?_);have hsp:splitId "set.__len__" = some ("set", "__len__"):=by decide+kernel
 dsimp only;rw[hsp];dsimp only;refine zWk (wpAny_isInstance hT zRF ?_);rw[zW2 (by decide),zWz (by decide+kernel)];refine zWk (wpAny_typeOf hT ?_);exact zWm h
theorem zLl (hh:A.handled=none) (ho:s.heap.get? a=some o) (hS:SetK knd o es ep t ks)
  (hQ:∀ (s':Shared) (acc:List Value),(∀ b u,s.heap.get? b=some u->s'.heap.get? b=some u)->s'.os=s.os->s'.gens=s.gens->acc.Perm (es.toList.map (·.2))->Q acc s'):wpAny (model prog w) A (collect (.ref a)) Q E s:=by
 have hal:a<s.heap.objs.size:=zWv ho;have hn:ks.length<=sizeLine:=by rw[<-hS.size];exact fits_of_scanBound hS.bound
 unfold collect;refine zWk (wpAny_runValue (codeAny_builtin F.entry_proto_collect ?_));rw[Around.under_plainId F.plain_proto_collect _];show wpAny _ A.in1 (newList [] >>= fun l=>again (.builtin "list.__iadd__" ⟨[l,.ref a],[]⟩)) _ _ s;refine zWk (zXD (zWm ⟨plainId_quiet F.plain_list_iadd _,codeAny_builtin F.entry_list_iadd ?_⟩));rw[Around.under_plainId F.plain_list_iadd _];generalize hH:s.heap.push { cls:=.type "list", data:=.seq ([]:List Value).toArray }=H;have kH:∀ b u,s.heap.get? b=some u->H.get? b=some u:=fun b u e=>by rw[<-hH];exact zWl _ e
 have szH:H.objs.size=s.heap.objs.size+1:=by rw[<-hH];exact zXQ ..
 have hL1:H.get? s.heap.objs.size=some { cls:=.type "list", data:=.seq ([]:List Value).toArray }:=by rw[<-hH];exact zWu _ rfl
 have ho1:=kH a o ho;show wpAny _ A.in1 (Builtin.List.listExtendWith (.ref s.heap.objs.size) (.ref a) (.ref s.heap.objs.size)) _ _ { s with heap:=H };unfold Builtin.List.listExtendWith;have hT1:Shared.TypeIs { s with heap:=H } (.ref a) "set" := ⟨o,ho1,hS.ex.1⟩;refine zWk (wpAny_typeOf hT1 ?_);have hneL:s.heap.objs.size≠a:=zYF hal;have h1:Builtin.List.listSameRef (.ref s.heap.objs.size) (.ref a)=false:=by simp[Builtin.List.listSameRef,hneL]
 have h2:(Value.type "set" == Value.type "list")=false:=by decide
 have h3:(Value.type "set" == Value.type "tuple")=false:=by decide
 simp only[h1,h2,h3,Bool.or_false,zXl,if_false];refine zWk (zRY (s:={ s with heap:=H }) ho1 hS fun h2 d I fp ord St k2 hI2 hfp W st0 hp=>?_);have ho2:=k2 a o ho1;refine zWk (zXd (zOe (s:={ s with heap:=h2,drawn:=d }) ⟨o,ho2,hS.ex.1⟩ ?_));rw[zWz (by decide+kernel)];refine zWk (zX7 (zWk ?_));show wpAny _ A.in1 (updateSeq s.heap.objs.size (·.push .none) >>= fun _=>updateSeq s.heap.objs.size (·.pop)) _ _ _;have hL2:=k2 _ _ hL1;refine zWk (wpAny_updateSeq (s:={ s with heap:=h2,drawn:=d }) hL2 rfl ?_);have hS2:=zXX (Obj.mapSeq (·.push Value.none)) hL2 rfl;refine wpAny_updateSeq hS2 rfl ?_;have hS3:=zXX (Obj.mapSeq (·.pop)) hS2 rfl;generalize hH3:(h2.update s.heap.objs.size (Obj.mapSeq (·.push Value.none))).update s.heap.objs.size (Obj.mapSeq (·.pop))=H3 at hS3;have oth:∀ b u,b≠s.heap.objs.size->h2.get? b=some u->H3.get? b=some u:=fun b u hb e=>by
  rw[<-hH3];exact (zXR _ _ (Ne.symm hb)).trans ((zXR _ _ (Ne.symm hb)).trans e)
 have hSf:s.heap.objs.size∉fp:=fun hm=>by
  rcases (hfp _ hm).2 with z|z
  ·exact hneL z
  ·have z':H.objs.size<=s.heap.objs.size:=z;rw[szH]at z';exact absurd z' (Nat.not_succ_le_self _)
 have WS:=(W A.in1.in1 hh).toS;have st3:St 0 H3:=(W A.in1.in1 hh).frame 0 _ _ st0 fun b hb u e=>oth b u (fun z=>hSf (z▸hb)) e;have hI3:I≠s.heap.objs.size:=fun z=>by
  have z':H.objs.size<=I:=hI2;rw[szH,z]at z';exact absurd z' (Nat.not_succ_le_self _)
 refine zWm ⟨plainId_quiet F.plain_extend_loop _,codeAny_extend_loopS (A:=A) (WalksS.of_in1 WS) hn _ hSf _ ks.length 0 { s with heap:=H3,drawn:=d } _ _ rfl (zXW _) st3 hS3 (ItemsOf.nil _) fun s' acc' c' hm hS' hacc=>?_⟩;show wpAny _ A (load s.heap.objs.size >>= _) _ _ s';refine zWk (wpAny_load hS' (zWm (hQ s' _ (fun b u e=>hm.heap b u (fun q=>?_) (oth b u (fun z=>zXS _ (z▸zWv e)) (k2 b u (kH b u e)))) hm.os hm.gens ?_)))
 ·rcases zWw.mp q with z|z
  ·exact zXS _ (z▸zWv e)
  ·have z':H.objs.size<=I:=hI2;rw[<-zXC.mp z,szH]at z';exact zXS _ (Nat.lt_trans (zW9 (zXh _) z') (zWv e))
 ·have e:acc'.toList=ord:=by
   have hl:ord.length=ks.length:=by rw[hp.length_eq,zWt,zXT,hS.size]
   apply List.ext_getElem?;intro i;rw[Array.getElem?_toList];by_cases q:i<ks.length
   ·have q':i<acc'.size:=by rw[hacc.1];exact q
    rw[zXV q'];exact (hacc.2 i _ (zXV q')).symm
   ·rw[Array.getElem?_eq_none (by rw[hacc.1];omega),List.getElem?_eq_none (by omega)]
  rw[e];exact hp
end
end ST
namespace L2
open PySem PySem.Spec PyProof.Rows ST
section
variable {prog:Program} {w:World} {A:Around} {R:Result->Shared->Prop} {s:Shared}
theorem zEq {elt target iter ifs rest scope pos it acc env}
  (h0:codeAny (model prog w) A (.compLoop (.SetComp elt (⟨target,iter,ifs,0⟩::rest) scope pos) 0 it acc env) R s)
  (h:wpAny (model prog w) A (pyIter it) (fun it' s'=>codeAny (model prog w) A (.compLoop (.SetComp elt (⟨target,iter,ifs,0⟩::rest) scope pos) 0 it' acc env) R s')
   (notedBy (model prog w) A env fun x s'=>R (.error x) s') s) :
  codeAny (model prog w) A (.compStart (.SetComp elt (⟨target,iter,ifs,0⟩::rest) scope pos) 0 it acc env) R s:=by
 refine codeAny_of_tree ?_;show wpAny _ _ ((compStart (.SetComp elt (⟨target,iter,ifs,0⟩::rest) scope pos) 0 it acc env).onRaise (fun x=>do noteFrame x env;standAt theWindowsPlace)) _ _ s;refine wpAny_notedAt ?_;unfold compStart;show wpAny _ _ (ask >>= _) _ _ s;refine zWk (wpAny_askSetting (wpAny_ite ?_));split
 ·first
   |exact zWk (zWm (zWm (And.intro rfl h0)))
   |exact zWm (And.intro rfl h0)
 ·first
   |exact zWk (zX7 (zWk (zXi (zWk (zXG h (fun it' s' h'=>zWm (And.intro rfl h')) fun _ _ x=>x)))))
   |(refine zWk (zX7 ?_);show wpAny _ _ (standAt iter.pos >>= _) _ _ s;exact zWk (zXi (zWk (zXG h (fun it' s' h'=>zWm (And.intro rfl h')) fun _ _ x=>x))))
end
section
variable {X:Cx} {zB:List (Addr × Obj)} {σ:St} {H:Hp} {s:Shared} {scope:Scope} {cl:List (Str × Addr)} {fp:List Addr} {it:Addr} {tn:Nat->Heap->Prop} {J:It} {tg elt iter:Expr} {ifs:List Expr} {pos:Pos}
 {own:List Nat} {g:TG} {tc:TT} {te:TE} {E:Value->Shared->Prop}
theorem zNT (h:SetK (intKind prog w) o es ep t ks):∀ v,o.data≠.cell v:=fun v z=>by rw[h.data]at z;cases z
theorem zIQ (C:CompIn X scope own) (hcalm:X.calm=true) (I:Inv X zB σ H s) (T:Turn X.prog X.w X.K tg J fp it tn) (st:tn 0 s.heap) (hf:∀ b∈fp,zDB X zB H b)
  (c1:∀ x c,cl.lookup x=some c->X.env.cells.lookup x=some c) (c2:∀ y∈scope.names,y.2=.free->(cl.lookup y.1).isSome=true)
  (hg:PG (zX X zB scope cl s H fp) tg g) (hi:zHj (zX X zB scope cl s H fp) ifs tc) (he:PE (zX X zB scope cl s H fp) elt te)
  {RR:Value->Addr->Result->Shared->Prop} {QQ:List Int->Hp->Prop} {W:Nat->Nat->List Int->Hp->Prop} {m0:Nat} (w0:W 0 m0 [] H)
  (turn:∀ i m ys H,W i m ys H->(J.stop i H/\QQ ys H) \/
   (J.go i H /\ ∀ x H',J.yld i H x H'->g x (clr own σ) H' fun σ2 H2=>Ext (clr own σ) σ2/\tc σ2 H2 fun b H3=>
    if b=true then te σ2 H3 fun v H4=>∃ k,v=.int k/\ys.length+1<scanBound /\ ∃ m',m'<m/\W (i+1) m' (ins ys k) H4 else ∃ m',m'<m/\W (i+1) m' ys H3))
  (fin:∀ σc H' s' o es ep t ys,Inv (zX X zB scope cl s H fp) [(s.heap.objs.size,o)] σc H' s'->SetK (intKind X.prog X.w) o es ep t ys->QQ ys H'->RR (.ref s.heap.objs.size) (s.heap.objs.size+1) (.ok .next) s') :
  wpAny (model X.prog X.w) X.A (newSet (.type "set")) (fun acc s₃=>wpAny (model X.prog X.w) X.A (newFunctionEnv scope X.env.globals cl [] X.env.qual none .none (some X.env)) (fun cenv s₄=>
   codeAny (model X.prog X.w) X.A (.compStart (.SetComp elt [⟨tg,iter,ifs,0⟩] scope pos) 0 (.ref it) acc { cenv with scope:=relabel scope X.env }) (RR acc cenv.locals) s₄) E s₃) E s:=by
 have ob:∀ b:Nat,b∈fp->b<s.heap.objs.size:=fun b hb=>let ⟨_,e,_⟩:=T.obj 0 _ st b hb;zWv e;refine zOh (zDj ?_);have sz1:(s.heap.push (zC0 X.w)).objs.size=s.heap.objs.size+1:=zXQ ..;have I4:=zGq (X:=X) (zB:=zB) (σ:=σ) (σc:=clr own σ) (H:=H) (s:=s) (scope:=scope) (cl:=cl) (fp:=fp) C.sc I hf ob c1 c2 (zCE own σ) (fun i x v h1 h2 h3=>by
  obtain ⟨a,b⟩:=zDm own σ i v h2;rcases C.nm i x h1 with z|z|z
  ·exact absurd z b
  ·exact absurd (zDF x z) h3
  ·exact ⟨z,a⟩) (zC0 X.w) (by intro v z;cases z) rfl rfl
 have st4:tn 0 (pushCells ((s.heap.push (zC0 X.w)).push { cls:=.type "dict", data:=.dict #[] }) scope.names):=T.keep 0 _ _ st fun b _ o e=>pushCells_keeps _ _ b o (zWl _ (zWl _ e));dsimp only;unfold newEnv;dsimp only;rw[sz1];have hDfp:s.heap.objs.size∉fp:=fun z=>zXS _ (ob _ z);have hcD:∀ x c,(zX X zB scope cl s H fp).env.cells.lookup x=some c->c≠s.heap.objs.size:=fun x c e z=>by
  obtain ⟨v,o,ho,hd⟩:=I4.cell x c e;obtain ⟨q,_⟩:=I4.pin (s.heap.objs.size,zC0 X.w) (by simp);rw[z,q]at ho;cases ho;cases hd
 have fpk:∀ {H':Hp} {pl:List (Addr × Obj)},(∀ b∈fp,H' b=none)->(∀ p∈pl,p.1=s.heap.objs.size) -> ∀ b∈fp,zDB (zX X zB scope cl s H fp) pl H' b:=fun {H' pl} hn hp b hb=>
  ⟨hn b hb,(I4.ok.exf b hb).1,I4.ok.exfs b hb,.inl hb,(I4.ok.exf b hb).2,fun p hq=>by
   rcases zXA.mp hq with z|z
   ·exact (hf b hb).2.2.2.2.2 p z
   ·intro e;have e2:=hp p z;rw[e]at e2;exact hDfp (e2▸hb)⟩
 have loop:codeAny (model X.prog X.w) X.A (.compLoop (.SetComp elt [⟨tg,iter,ifs,0⟩] scope pos) 0 (.ref it) (.ref s.heap.objs.size) (zX X zB scope cl s H fp).env) (RR (.ref s.heap.objs.size) (s.heap.objs.size+1))
   { s with heap:=pushCells ((s.heap.push (zC0 X.w)).push { cls:=.type "dict", data:=.dict #[] }) scope.names }:=by
  refine zKZ (fun n s'=>∃ i H' ys o es ep t,Inv (zX X zB scope cl s H fp) [(s.heap.objs.size,o)] (clr own σ) H' s'/\SetK (intKind X.prog X.w) o es ep t ys/\tn i s'.heap/\(∀ b∈fp,H' b=none)/\W i n ys H') ?_ m0
   ⟨0,H,[],zC0 X.w,_,_,_,I4,.fresh,st4,fun b hb=>(hf b hb).1,w0⟩
  rintro n s5 ⟨i,H5,ys,o,es,ep,t,I5,r5,st5,f5,w5⟩;have pinD:∀ p∈[(s.heap.objs.size,o)],p.1=s.heap.objs.size:=fun p hp=>by
   have:p=(s.heap.objs.size,o):=by simpa using hp
   rw[this]
  rcases turn i n ys H5 w5 with ⟨stop,qq⟩|⟨go,step⟩
  ·refine thn (T.done (zX X zB scope cl s H fp) rfl rfl rfl hcalm i _ s5 _ H5 _ I5 (fpk f5 pinD) st5 stop) fun r s6 ⟨hr,I6⟩=>?_;subst hr;exact fin _ H5 s6 o es ep t ys I6 r5 qq
  ·refine thn (T.item (zX X zB scope cl s H fp) rfl rfl rfl hcalm i _ s5 _ H5 _ I5 (fpk f5 pinD) st5 go) fun r s6 ⟨u,hr,h6⟩=>?_;subst hr;refine thn h6 fun _ s7 ⟨x,H7,I7,r7,y7,st7,f7⟩=>?_;have I7':=I7.pinned (fpk f7 pinD) (T.obj _ _ st7);refine thn (hg _ s7 _ H7 x u _ I7' r7 (step x H7 y7)) fun _ s8 ⟨σ8,H8,I8,x8,q8⟩=>?_;refine thn (hi _ s8 σ8 H8 _ I8 q8) fun ok s9 ⟨H9,I9,q9⟩=>?_;have back:∀ {s':Shared} {Hx:Hp},Inv (zX X zB scope cl s H fp) ([(s.heap.objs.size,o)]++zDx fp s7.heap) σ8 Hx s'->tn (i+1) s'.heap /\ ∀ b∈fp,Hx b=none:=fun {s' Hx} Ix=>
    ⟨T.keep _ _ _ st7 fun b hb o e=>(Ix.pin (b,o) (zW4 _ (zW4 _ (zAw hb e)))).1,fun b hb=>by
     obtain ⟨o,e,d⟩:=T.obj _ _ st7 b hb;exact (Ix.pin (b,o) (zW4 _ (zW4 _ (zAw hb e)))).2.1⟩
   cases ok with
   |false=>
    obtain ⟨m',hm,w'⟩:=q9;obtain ⟨b1,b2⟩:=back I9;exact ⟨m',hm,i+1,H9,ys,o,es,ep,t,(I9.weak (by rw[x8.1]) x8.2).unpinned,r5,b1,b2,w'⟩
   |true=>
    refine thn (he _ s9 σ8 H9 _ I9 q9) fun v s10 ⟨y,H10,I10,r10,k,hk,hlt,m',hm,w'⟩=>?_;subst hk;obtain ⟨b1,b2⟩:=back I10;have J10:=(I10.weak (by rw[x8.1]) x8.2).unpinned;obtain ⟨e10,n10,ne10,nf10,d10⟩:=J10.pin (s.heap.objs.size,o) (by simp);obtain ⟨tk,hv⟩:∃ tk,v=.int k tk:=r10;subst hv;refine zRy (knd:=intKind X.prog X.w) (intKind_is _ _ _ _) rfl e10 r5 hlt fun h' o' es' ep' t' hs' e' S'=>?_;refine ⟨m',hm,i+1,H10,ins ys k,o',es',ep',t',?_,S',T.keep _ _ _ b1 fun b hb o e=>hs'.extBut b o (fun z=>hDfp (z▸hb)) e,b2,w'⟩;refine (Inv.repin (pl:=[]) J10 (fun p hp=>?_) hs' (zWq _) hcD e' (zNT S')).tok _;rw[zXU]at hp;have hp':p∈X.pn++zB:=hp;exact zW5 (zWv (I.pin p hp').1)
 exact zEq loop (T.self _ 0 _ _ _ st4 loop)
theorem zK8 (I:Inv X zB σ H s) (hf:∀ b∈fp,zDB X zB H b)
  (Ic:Inv (zX X zB scope cl s H fp) [(s.heap.objs.size,oD)] σc H' s') (hs:Heap.SameBut (s.heap.objs.size+1) s'.heap h') :
  Inv X zB σ H' { s' with heap:=h' }/\h'.get? s.heap.objs.size=some oD:=by
 obtain ⟨eD,nD,_⟩:=Ic.pin (s.heap.objs.size,oD) (by simp);have nC:H' (s.heap.objs.size+1)=none:=Ic.free;have eD':h'.get? s.heap.objs.size=some oD:=hs.extBut _ _ (zW5 (zXh _)) eD;have lt1:∀ {b:Addr} {o:Obj},s.heap.get? b=some o->b≠s.heap.objs.size+1:=fun e=>zW5 (zXZ (zWv e));have tr:∀ b u,H' b=some u->b≠s.heap.objs.size+1:=fun b u e z=>by rw[z,nC]at e;cases e
 refine ⟨?_,eD'⟩;have B:=Ic.base;have un:Un (frs X.stack) fp H H' s.heap h':=by
  refine ⟨fun b o e q hb hx=>hs.extBut b o (lt1 e) (B.keep b o e q hb hx),fun b o e q hb hx=>?_,fun b o e q hx=>B.free b o e q hx,fun b o e hx=>?_,fun b xs e=>B.tups b xs e,fun b o xs e=>B.frzs b o xs e,fun b ps e=>B.tbls b ps e⟩
  ·obtain ⟨sl,e1⟩:=B.slot b o e q hb hx;exact ⟨sl,hs.extBut b _ (lt1 e) e1⟩
  ·obtain ⟨o',e1⟩:=B.there b o e hx;exact ⟨o',hs.extBut b _ (lt1 e) e1⟩
 have hok:HOk X.prog X.w H' h':=fun b u e=>by
  refine (Ic.hok b u e).stay (fun c v hc q=>hs.extBut c v ?_ q) (fun c q=>q) fun c xs q=>q;rcases hc with z|z
  ·rw[z];exact tr b u e
  ·exact tr c _ z
 exact I.call' (s':={ s' with heap:=h' }) (ch:=fp) Ic.os un hok Ic.bare fun b hb=>⟨(hf b hb).2.2.2.1,(hf b hb).2.1,(hf b hb).2.2.2.2.1,(hf b hb).2.2.2.2.2⟩
end
abbrev TZ:=St->Hp->(List Int->Hp->Prop)->Prop
def PZ (X:Cx) (e:Expr) (t:TZ):Prop:=∀ (zB:List (Addr × Obj)) (s:Shared) (σ:St) (H:Hp) (Q:List Int->Hp->Prop),Inv X zB σ H s->t σ H Q ->
 wpAny (model X.prog X.w) X.A (eval e X.env) (fun v s'=>∃ a o es ep tb ks H',v=.ref a/\s'.heap.get? a=some o/\SetK (intKind X.prog X.w) o es ep tb ks/\Inv X zB σ H' s'/\Q ks H') X.xe s
def zMT (own:List Nat) (wi:TI) (g:TG) (tc:TT) (te:TE):TZ:=fun σ H Q=>wi σ H fun J H1=>∃ W:Nat->Nat->List Int->Hp->Prop,(∃ m,W 0 m [] H1) /\ ∀ i m ys H,W i m ys H ->
 (J.stop i H/\Q ys H) \/
 (J.go i H /\ ∀ x H',J.yld i H x H'->g x (clr own σ) H' fun σ2 H2=>Ext (clr own σ) σ2/\tc σ2 H2 fun b H3=>
  if b=true then te σ2 H3 fun v H4=>∃ k,v=.int k/\ys.length+1<scanBound /\ ∃ m',m'<m/\W (i+1) m' (ins ys k) H4 else ∃ m',m'<m/\W (i+1) m' ys H3)
section
variable {X:Cx} {scope:Scope} {tg elt iter:Expr} {ifs:List Expr} {pos:Pos} {own:List Nat} {wi:TI} {g:TG} {tc:TT} {te:TE}
theorem zSS (C:CompIn X scope own) (hcalm:X.calm=true) (hi:PI X tg iter wi) (p:CompParts X scope tg ifs elt g tc te) (hs:∀ x,foldedSetIterable iter X.env x=pure x:=by intro _;rfl) :
  PZ X (.SetComp elt [⟨tg,iter,ifs,0⟩] scope pos) (zMT own wi g tc te):=by
 intro zB s σ H Q I h;obtain ⟨cl,hcl,c1,c2⟩:=C.sc.closure I;rw[arm_eval_SetComp];refine zYe (use:=none) rfl hs hcl C.sc.kind C.sc.names (thn (hi zB s σ H _ I h) fun v s1 h1=>thn h1 fun itv s2 h2=>?_);obtain ⟨it,fp,tn,J,H2,e,I2,T,st2,f2,W,⟨m0,w0⟩,turn⟩:=h2;subst e;refine zIQ C hcalm I2 T st2 f2 c1 c2 (p.g _ _ _ _ _) (p.c _ _ _ _ _) (p.e _ _ _ _ _) (RR:=fun acc C r s'=>compPost (model X.prog X.w) X.A X.xe none (fun v s'=>∃ a o es ep tb ks H',v=.ref a/\s'.heap.get? a=some o/\SetK (intKind X.prog X.w) o es ep tb ks/\Inv X zB σ H' s'/\Q ks H') acc C r s') (QQ:=Q) w0 turn ?_;intro σc H' s' o es ep t ys Ic rv qq;obtain ⟨m,hn,_⟩:=Ic.loc;refine ⟨m,hn,fun h' hs'=>?_⟩;obtain ⟨J',eD⟩:=zK8 I2 f2 Ic hs';exact ⟨_,o,es,ep,t,ys,H',rfl,eD,rv,J',qq⟩
end
end L2
namespace ST
open PySem PySem.Spec PyProof.Rows
open Sem (wp)
section
variable {prog:Program} {w:World} {A:Around} {E:Value->Shared->Prop} {s:Shared}
variable {K:Type} [DecidableEq K] {knd:KeyKind prog w K}
def zB6 (ks:List K):List K:=ks.foldl ins []
theorem zL4 (ks:List K) (k:K):zB6 (ks++[k])=ins (zB6 ks) k:=by unfold zB6;rw[List.foldl_append];rfl
theorem zTG (ks:List K) (k:K):(ins ks k).length<=ks.length+1:=by unfold ins;split <;> simp
theorem zF3 (ks:List K):(zB6 ks).length<=ks.length:=by
 have:∀ (l acc:List K),(l.foldl ins acc).length<=acc.length+l.length:=by
  intro l;induction l with
  |nil=>intro acc;simp
  |cons x r ih=>intro acc;have:=ih (ins acc x);have:=zTG acc x;simp only[List.foldl_cons,zXH];omega
 simpa [zB6] using this ks []
theorem zSk (ks:List K) (k x:K):x∈ins ks k ↔ x∈ks\/x=k:=by
 unfold ins;split
 ·rename_i h;constructor
  ·exact .inl
  ·rintro (z|z)
   ·exact z
   ·rw[z];exact h
 ·simp
theorem zNp (ks:List K) (x:K):x∈zB6 ks ↔ x∈ks:=by
  have:∀ (l acc:List K),x∈l.foldl ins acc ↔ x∈acc\/x∈l:=by
    intro l;induction l with
    |nil=>intro acc;simp
    |cons y r ih=>intro acc;rw[List.foldl_cons,ih,zSk,zWw];simp[or_assoc]
  simpa [zB6] using this ks []
theorem zPQ (h : ks.Nodup) (k : K) : (ins ks k).Nodup := by
  unfold ins;split
  ·exact h
  · rename_i q
    rw[zXy]
    exact ⟨h, by simp, fun a ha b hb z => by have : b = k := by simpa using hb
                                             subst this;subst z;exact q ha⟩
theorem zKH (ks:List K):(zB6 ks).Nodup:=by
 have:∀ (l acc:List K),acc.Nodup->(l.foldl ins acc).Nodup:=by
  intro l;induction l with
  |nil=>intro acc h;exact h
  |cons y r ih=>intro acc h;exact ih _ (zPQ h y)
 exact this ks [] (by simp)
variable {R:Result->Shared->Prop} {I:Addr} {fp wr:List Addr} {G:Array GenState->Array GenState->Prop} {n:Nat} {P:Nat->Value->Prop} {St:Nat->Shared->Prop}
end
def zEm (ks:List Int):List Int:=ks.mergeSort fun a b=>decide (a<=b)
theorem zCn (ks:List Int):(zEm ks).Perm ks:=List.mergeSort_perm _ _
theorem zJA (ks:List Int):(zEm ks).Pairwise (·<= ·):=by
 have:=List.pairwise_mergeSort (le:=fun (a b:Int)=>decide (a<=b)) (fun a b c h1 h2=>by simp at h1 h2 ⊢;omega) (fun a b=>by simp;omega) ks;exact this.imp fun h=>by simpa using h
theorem zJz:∀ {xs ys:List Int},xs.Perm ys->xs.Pairwise (·<= ·)->ys.Pairwise (·<= ·)->xs=ys
 |[],ys,p,_,_=>by have:=p.length_eq;simp at this;rw[List.length_eq_zero_iff.mp this.symm]
 |x::xs,[],p,_,_=>by have:=p.length_eq;simp at this
 |x::xs,y::ys,p,h1,h2=>by
  have hx:=List.pairwise_cons.mp h1;have hy:=List.pairwise_cons.mp h2;have e:x=y:=by
   have a:x∈y::ys:=p.mem_iff.mp zWy;have b:y∈x::xs:=p.mem_iff.mpr zWy;rcases zWw.mp a with z|z
   ·exact z
   ·rcases zWw.mp b with q|q
    ·exact q.symm
    ·exact Int.le_antisymm (hx.1 y q) (hy.1 x z)
  subst e;rw[zJz (p.cons_inv) hx.2 hy.2]
theorem zLX (p:xs.Perm ys) (h:xs.Pairwise (·<= ·)):xs=zEm ys:=zJz (p.trans (zCn ys).symm) h (zJA ys)
section
variable {prog:Program} {w:World} {A:Around} {E:Value->Shared->Prop} {s:Shared}
theorem zNJ
  (hc:wpAny (model prog w) A.in1 (collect v) (fun vs s1=>∃ ns,IntsAre vs ns/\vs.length<64 /\ ∀ (h':Heap) (out:List Value) (n:Nat),(∀ b u,s1.heap.get? b=some u->h'.get? b=some u)->h'.get? s1.heap.objs.size=some (seqObj "list" out.toArray n)->IntsAre out (zEm ns)->Q (.ref s1.heap.objs.size) { s1 with heap:=h' }) E s) :
  wpAny (model prog w) A (call (.builtin "sorted") [v]) Q E s:=by
 refine Calls.call_function_entry kind_sorted plain_sorted entry_sorted (args_sorted1 _) ?_;unfold Builtin.«sorted»;refine zWk (m:=checkCount "sorted" 1 1 _) (zWm ?_);refine zWk (zXG hc (fun vs s1 h1=>?_) fun _ _ h'=>h');obtain ⟨ns,hI,h64,h⟩:=h1;refine zWk (wpAny_newList ?_ (by rw[sizeLine_eq];omega));have hoL:(s1.heap.push (seqObj "list" vs.toArray 0)).get? s1.heap.objs.size=some (seqObj "list" vs.toArray 0):=zWu _ rfl;refine zWk (zXd (zXN slot_list_sort ⟨_,hoL,rfl⟩ entry_list_sort (list_sort_tree (s:={ s1 with heap:=s1.heap.push (seqObj "list" vs.toArray 0) }) hoL hI h64 fun out ns' a1 a2 a3=>⟨_,rfl,?_⟩) (args_list_sort _)));refine zWm ⟨_,rfl,?_⟩;have g1:=get?_update_seq hoL (fun _=> #[]);have g2:(((s1.heap.push (seqObj "list" vs.toArray 0)).update s1.heap.objs.size (Obj.mapSeq fun _=> #[])).push (seqObj "tuple" vs.toArray 0)).get? s1.heap.objs.size=_:=zWl _ g1;have g3:=zWl (seqObj "list" #[] 0) g2;have g4:=get?_update_seq g3 (fun _=>out);have eS:=zLX a2 a3;subst eS;refine h _ out.toList _ (fun b u e=>?_) (by rw[Array.toArray_toList];exact g4) a1;have hb:s1.heap.objs.size≠b:=fun z=>zXS _ (z▸zWv e);exact (zXR _ _ hb).trans (zWl _ (zWl _ ((zXR _ _ hb).trans (zWl _ e))))
theorem zPC (h:F2 (zUr (intKind prog w)) es ks):IntsAre (es.map (·.2)) ks:=by
 induction h with
 |nil=>exact .nil
 |cons h _ ih=>
  obtain ⟨⟨h1,_⟩,_⟩:=h;obtain ⟨t,e⟩:=Value.isInt_shape h1;rw[zW3,e];exact .cons _ _ ih
theorem zPo (p:us.Perm vs):∀ {ks:List Int},IntsAre vs ks -> ∃ ks',ks'.Perm ks/\IntsAre us ks':=by
 have p':=p.symm;clear p;induction p' with
 |nil=>intro ks h;exact ⟨ks,.refl _,h⟩
 |cons x _ ih=>
  intro ks h;cases h with
  |cons n t r=>
   obtain ⟨ys',q1,q2⟩:=ih r;exact ⟨_,q1.cons _,.cons _ _ q2⟩
 |swap x y l=>
  intro ks h;cases h with
  |cons n t r=>
   cases r with
   |cons n2 t2 r=>exact ⟨_,List.Perm.swap _ _ _,.cons _ _ (.cons _ _ r)⟩
 |trans _ _ ih1 ih2=>
  intro ks h;obtain ⟨ys',q1,q2⟩:=ih1 h;obtain ⟨ys'',r1,r2⟩:=ih2 q2;exact ⟨ys'',r1.trans q1,r2⟩
theorem zMS (p:xs.Perm ys):zEm xs=zEm ys:=zLX ((zCn xs).trans p) (zJA xs)
theorem zNG (hh:A.handled=none) (ho:s.heap.get? a=some o) (hS:SetK (intKind prog w) o es ep t ks) (h64:ks.length<64)
  (h:∀ (s1:Shared) (h':Heap) (out:List Value) (n:Nat),(∀ b u,s.heap.get? b=some u->s1.heap.get? b=some u)->s1.os=s.os->s1.gens=s.gens->(∀ b u,s1.heap.get? b=some u->h'.get? b=some u)->h'.get? s1.heap.objs.size=some (seqObj "list" out.toArray n)->IntsAre out (zEm ks)->Q (.ref s1.heap.objs.size) { s1 with heap:=h' }) :
  wpAny (model prog w) A (call (.builtin "sorted") [.ref a]) Q E s:=by
 refine zNJ (zLl (A:=A.in1) hh ho hS fun s' acc k1 k2 k3 hp=>?_);obtain ⟨ks',p,f⟩:=hS.ent;obtain ⟨ks2,p2,f2⟩:=zPo hp (zPC f);refine ⟨ks2,f2,?_,fun h' out n e1 e2 e3=>?_⟩
 ·rw[hp.length_eq,zWt,zXT,hS.size];exact h64
 ·rw[zMS (p2.trans p)]at e3;exact h s' h' out n k1 k2 k3 e1 e2 e3
end
end ST
namespace L2
open PySem PySem.Spec PyProof.Rows ST
section
variable {X:Cx} {e:Expr} {p pos:Pos} {zB:List (Addr × Obj)} {σ:St} {H:Hp} {s:Shared}
theorem Inv.kept' (I:Inv X zB σ H s) (k:∀ b u,s.heap.get? b=some u->s1.heap.get? b=some u) (ho:s1.os=s.os) (hg:s1.gens=s.gens):Inv X zB σ H s1 :=
 I.call' (ch:=[]) ho (Un.kept k) (I.hok.kept k) (by rw[hg];exact I.bare) fun b hb=>nomatch hb
theorem zI3:∀ {ns:List Int} {us:List Value},IntsAre us ns->zy (ns.map V.int) us
 |_,_,.nil=> .nil
 |_,_,.cons n t h=> .cons ⟨t,rfl⟩ (zI3 h)
theorem zP1 (ks:List Int):(zEm ks).length=ks.length:=(zCn ks).length_eq
theorem zQR (hc:X.calm=true) (hg:Gl X "sorted") (hm:X.mg "sorted" = none) (ha:PZ X e t) (hs:starEach [e] X.env=(false,eval e X.env)::starEach [] X.env:=by rfl) (hpl:(backTo pos (starEach [] X.env)).any (·.1)=false:=by rfl) :
  PE X (.Call (.Name "sorted" p) [e] [] pos) (fun σ H Q=>t σ H fun ks H1=>ks.length<64 /\ ∀ q,H1 q=none->Q (.ref q) (upd H1 q (.lst ((zEm ks).map V.int)))):=by
 intro zB s σ H Q I h;refine wpAny_Call_Name_kw (zGF I hg hm (by rfl) ?_ (by decide) (by decide));refine callWith_builtin1 ?_ hs hpl;rw[hs];show wpAny _ _ (spliced ((false,eval e X.env)::backTo pos (starEach [] X.env))) _ _ s;refine Calls.spliced_cons (thn (ha zB s σ H _ I h) fun u s1 ⟨a,o,es,ep,tb,ks,H1,hv,ho,hS,I1,h64,q⟩=>Calls.spliced_nil ?_);subst hv;refine zNG (I1.ok.hd hc) ho hS h64 fun s2 h' out n k1 k2 k3 k4 e4 i4=>?_;have I2:Inv X zB σ H1 s2:=I1.kept' k1 k2 k3;have hf:H1 s2.heap.objs.size=none:=I2.hok.fresh (zWq _);refine ⟨.ref s2.heap.objs.size,upd H1 s2.heap.objs.size (.lst ((zEm ks).map V.int)),I2.laid (t':=s2.toks) k4 (zWq _) ⟨by rw[zWt,zP1,sizeLine_eq];omega,out,n,zI3 i4,e4⟩,rfl,q _ hf⟩
end
end L2
namespace L3
open PySem PySem.Spec PyProof.Rows L2 ST
abbrev FZ:=Sd->Mem->Option (List Int × Mem)
def trZ (K:PySem.W.Frag) (f:FZ):TZ:=fun τ H Q=>∃ L σ M ks M',Cor K L M H/\zCN L H σ τ/\f σ M=some (ks,M') /\ ∀ L' H',Stp L H L' H'->Cor K L' M' H'->Q ks H'
structure QZ (X:Cx) (e:Expr) (f:FZ):Prop where
 un:PZ X e (trZ X.K f)
theorem PZ.imp (h:PZ X e t) (hi:∀ τ H Q,t' τ H Q->t τ H Q):PZ X e t':=fun zB s σ H Q I q=>h zB s σ H Q I (hi _ _ _ q)
def zKA (own:List Nat) (fi:FI) (g:FG) (tc:FT) (te:FE):FZ:=fun σ M=>match zAf own fi g tc te σ M with
 |some (.fl ys,M2)=>match zBa ys with
  |some ks=>if ks.length+1<scanBound then some (zB6 ks,M2) else none
  |none=>none
 |_=>none
theorem zI1:∀ {as bs:List D} {zs:List Int},zBa (as++bs)=some zs -> ∃ xs ys,zBa as=some xs/\zBa bs=some ys/\zs=xs++ys
 |[],bs,zs,h=>⟨[],zs,rfl,h,rfl⟩
 |a::as,bs,zs,h=>by
  cases a with
  |int i=>
   rw[List.cons_append]at h;unfold zBa at h;split at h
   ·rename_i us e;cases h;obtain ⟨xs,ys,e1,e2,e3⟩:=zI1 e;refine ⟨i::xs,ys,?_,e2,by rw[e3];rfl⟩;unfold zBa;rw[e1]
   ·cases h
  |_=>cases h
theorem zLx (h:zBa as=some xs):zBa (as++[.int i])=some (xs++[i]):=by
 induction as generalizing xs with
 |nil=>cases h;rfl
 |cons a as ih=>
  cases a with
  |int j=>
   unfold zBa at h;split at h
   ·rename_i us e;cases h;rw[List.cons_append];unfold zBa;rw[ih e];rfl
   ·cases h
  |_=>cases h
theorem zPl {K:PySem.W.Frag} {own:List Nat} {fi:FI} {g:TG} {fg:FG} {tc:FT} {te:FE} (hg:zFm own g fg) {τ:Sv} {H:Hp} {Q:List Int->Hp->Prop} (h:trZ K (zKA own fi fg tc te) τ H Q):zMT own (trI K fi) g (trT K tc) (trD K (toD te)) τ H Q:=by
 obtain ⟨L,σ,M,d,Mf,c,rs,hf,q⟩:=h;unfold zKA zAf at hf;cases e1:fi σ M with
 |none=>rw[e1]at hf;cases hf
 |some r=>
  obtain ⟨xs,gd,M1⟩:=r;rw[e1]at hf;dsimp only at hf;by_cases hz:xs.length<=sizeLine
  ·rw[zWz hz]at hf;cases e2:zBf fg tc te (zBo own σ) xs gd xs M1 with
   |none=>rw[e2]at hf;cases hf
   |some r=>
    obtain ⟨zs,M2⟩:=r;rw[e2]at hf;dsimp only at hf;split at hf
    ·rename_i kz ez;split at hf
     ·rename_i hb;cases hf;refine ⟨L,σ,M,_,_,_,c,rs,e1,fun L1 H1 J s1 c1 it=>?_⟩
      refine ⟨fun i m ys H'=>m=xs.length-i/\i<=xs.length /\ ∃ L' M' as bs ka,Stp L1 H1 L' H'/\Cor K L' M' H'/\zBa as=some ka/\ys=zB6 ka/\zBf fg tc te (zBo own σ) xs gd (xs.drop i) M'=some (bs,Mf)/\as++bs=zs,
       ⟨xs.length,by simp,zXW _,L1,M1,[],zs,[],.refl _ _,c1,rfl,rfl,by simpa using e2,rfl⟩,?_⟩
      rintro i m ys H' ⟨rfl,hi,L',M',as,bs,ka,s',c',r',hl,e',hab⟩;by_cases hlt:i<xs.length
      ·rw[zDL hlt]at e';unfold zBf at e';split at e'
       ·rename_i hgd;obtain ⟨step,_⟩:=it L' H' M' s' c' hgd;obtain ⟨go,yl⟩:=step i xs[i] (zWo hlt);split at e'
        ·rename_i σ1 eg;refine .inr ⟨go,fun v H2 hy=>?_⟩;obtain ⟨gr,rv⟩:=yl v H2 hy;have s2:Stp L1 H1 L' H2:=s'.yld gr;refine hg (zFg own ((rs.stp s1).stp s2)) (.refl _) rv eg fun τ2 r2 x2=>⟨x2,?_⟩;split at e'
         ·rename_i M3 e3;split at e'
          ·rename_i d M4 e4;split at e'
           ·rename_i ds M5 e5;cases e';refine ⟨L',σ1,M',_,_,c'.grow gr,r2,e3,fun L3 H3 s3 c3=>zHA ?_⟩;refine ⟨L3,σ1,M3,_,_,c3,r2.stp s3,e4,fun L4 H4 w s4 c4 r4=>?_⟩;have st:Stp L' H' L4 H4:=((Stp.grow gr).trans s3).trans s4;have ez':=ez;rw[<-hab]at ez';obtain ⟨x1,y1,g1,g2,g3⟩:=zI1 ez';obtain ⟨k,hk⟩:∃ k,d=.int k:=by
             cases d with
             |int k=>exact ⟨k,rfl⟩
             |_=>cases g2
            subst hk;have ew:w=.int k:=by unfold Rep at r4;exact r4
            have hka:ka.length<=kz.length:=by
             rw[r']at g1;cases g1;rw[g3,zW0];omega
            refine ⟨k,ew,?_,xs.length-(i+1),by omega,rfl,hlt,L4,M4,as++[.int k],ds,ka++[k],s'.trans st,c4,zLx r',by rw[hl,zL4],e5,by rw[<-hab];simp⟩;rw[hl];have:=zF3 ka;omega
           ·cases e'
          ·cases e'
         ·rename_i M3 e3;refine ⟨L',σ1,M',_,_,c'.grow gr,r2,e3,fun L3 H3 s3 c3=>zHE ?_⟩;have st:Stp L' H' L3 H3:=(Stp.grow gr).trans s3;exact ⟨xs.length-(i+1),by omega,rfl,hlt,L3,M3,as,bs,ka,s'.trans st,c3,r',hl,e',hab⟩
         ·cases e'
        ·cases e'
       ·cases e'
      ·have hi':i=xs.length:=by omega
       subst hi';rw[List.drop_length]at e';unfold zBf at e';split at e'
       ·rename_i hgd;cases e';obtain ⟨_,stop⟩:=it L' H' _ s' c' hgd;rw[zXU]at hab;subst hab;rw[r']at ez;cases ez;refine .inl ⟨stop,?_⟩;rw[hl];exact q L' H' (s1.trans s') c'
       ·cases e'
     ·cases hf
    ·cases hf
  ·rw[zW2 hz]at hf;cases hf
section
variable {X:Cx} {scope:Scope} {tg elt iter:Expr} {ifs:List Expr} {pos p:Pos} {own:List Nat} {e:Expr} {f:FE}
theorem zUD (hg:zFm own g fg) (C:CompIn X scope own) (hcalm:X.calm=true) (hi:QI X tg iter fi) (p:QParts X scope tg ifs elt g tc te) (hs:∀ x,foldedSetIterable iter X.env x=pure x:=by intro _;rfl) :
  QZ X (.SetComp elt [⟨tg,iter,ifs,0⟩] scope pos) (zKA own fi fg tc te) :=
 .mk <| PZ.imp (zSS C hcalm hi.un p.parts hs) fun _ _ _ h=>zPl hg h
def zI8 (f:FZ):FE:=fun σ M=>match f σ M with
 |some (ks,M1)=>if ks.length<64 then some (.fl ((zEm ks).map D.int),M1) else none
 |none=>none
theorem zJh:∀ (ns:List Int),zh L H (ns.map D.int) (ns.map V.int)
 |[]=> .nil
 |n::ns=> .cons zAs (zJh ns)
theorem zSX (hc:X.calm=true) (hg:Gl X "sorted") (hm:X.mg "sorted" = none) (h:QZ X e fz) (hs:starEach [e] X.env=(false,eval e X.env)::starEach [] X.env:=by rfl) (hpl:(backTo pos (starEach [] X.env)).any (·.1)=false:=by rfl) :
  QE X (.Call (.Name "sorted" p) [e] [] pos) (zI8 fz):=.mk <| PE.imp (zQR hc hg hm h.un hs hpl) fun τ H Q zz=>by
 obtain ⟨L,σ,M,d,M',c,rs,hf,q⟩:=zz;unfold zI8 at hf;split at hf
 ·rename_i ks M1 e1;split at hf
  ·rename_i hb;cases hf;refine ⟨L,σ,M,_,_,c,rs,e1,fun L1 H1 s1 c1=>⟨hb,fun p hp=>?_⟩⟩;exact q L1 _ _ (s1.trans (.upd hp)) (c1.upd hp) (zt.newLst s1 c c1 hp (zJh _))
  ·cases hf
 ·cases hf
end
open AutoSeq1 (wpAny_loadPart')
theorem zT9 (hh:A.handled=none) (it l:Addr) (hne:l≠it) (items:Array Value) :
  Draws prog w A it [it,l] items.size (fun i v=>items[i]?=some v) (fun i h=>h.IsTupleIter it l i/\h.IsTuple l items) where
 live:=fun _ _ st=>let ⟨o,ho,_⟩:=st.1;⟨o,ho⟩;frame:=fun _ _ _ st hk=>⟨let ⟨o,ho,r⟩:=st.1;⟨o,hk it (by simp) o ho,r⟩,let ⟨o,ho,r⟩:=st.2;⟨o,hk l (by simp) o ho,r⟩⟩;item:=fun i s Q E hi st hQ=>by
  refine zEb st.1 st.2 (x:=items[i]) (by simp[hi]) fun h' hit' hs'=>?_;exact hQ _ h' s.toks (by simp[hi]) ⟨hit',Tup.but st.2 hs'.extBut hne⟩ hs'
 done:=fun s Q E st hE=>zFW hh st.1 st.2 (by simp) hE
theorem zLY (l:Addr) (items:Array Value) (n:Nat) (dct:Option Addr) (sl:Array (Option Value)) :
  Meets (Builtin.«enumerate.__new__» ⟨[.type "enumerate", .ref l],[]⟩) (fun _ R s=>s.heap.get? l=some { cls:=.type "tuple", dict:=dct,data:=.seq items n,slots:=sl } /\
   R (.ok (.ret (.ref (s.heap.push { cls:=.type "tuple_iterator", data:=.fields #[.ref l,.int 0 0] }).objs.size)))
    { s with heap:=(s.heap.push { cls:=.type "tuple_iterator", data:=.fields #[.ref l,.int 0 0] }).push { cls:=.type "enumerate", data:=.fields #[.none,.bool false,.ref s.heap.objs.size,rawInt 0,.none,.none] } }) :=
 .of_wp fun prog w A R s h=>by
  obtain ⟨hp,g,d,tk,os⟩:=s;obtain ⟨hl,h⟩:=h;have hsub:=sub_enumerate;have hL:Heap.IsTuple (Shared.heap ⟨hp,g,d,tk,os⟩) l items:=⟨_,hl,rfl,n,rfl⟩;wp_walk using wpAny_loadPart' hl;refine wpAny_stack_any fun st=>zWm ?_;split
  ·rename_i c _ _ _ _ _;cases (c==Value.type "enumerate")
   ·wp_walk using wpAny_loadPart' hl,wpAny_pyIter_tuple hL;exact ⟨_,rfl,h⟩
   ·wp_walk using wpAny_loadPart' hl,wpAny_pyIter_tuple hL;exact ⟨_,rfl,h⟩
  ·wp_walk using wpAny_loadPart' hl,wpAny_pyIter_tuple hL;exact ⟨_,rfl,h⟩
section
variable {prog:Program} {w:World} {A:Around} {E:Value->Shared->Prop} {s:Shared}
theorem zMu (hL:s.heap.IsTuple l items)
  (h:∀ h',IsEnum h' (s.heap.objs.size+1) s.heap.objs.size 0 .none->h'.IsTupleIter s.heap.objs.size l 0->(∀ c o,s.heap.get? c=some o->h'.get? c=some o)->Q (.ref (s.heap.objs.size+1)) { s with heap:=h' }) :
  wpAny (model prog w) A (call (.type "enumerate") [.ref l]) Q E s:=by
 obtain ⟨o,ho,hc,n,hd⟩:=hL;obtain ⟨ocls,odict,odata,oslots⟩:=o;simp only at hc hd;subst hc;subst hd;refine callType_new PySem.F.called_enumerate (by decide) (PySem.F.typeCall_enumerate_1 _) (PySem.F.newCall_enumerate_1 _) (fun obj=>PySem.F.args_object_init_2 obj _) PySem.F.entry_enumerate_new (zLY l items n odict oslots) ⟨ho,?_⟩;have q1:(s.heap.push { cls:=.type "tuple_iterator", data:=.fields #[.ref l,.int 0 0] }).objs.size=s.heap.objs.size+1:=zXQ ..;have p2:((s.heap.push { cls:=.type "tuple_iterator", data:=.fields #[.ref l,.int 0 0] }).push { cls:=.type "enumerate", data:=.fields #[.none,.bool false,.ref s.heap.objs.size,rawInt 0,.none,.none] }).get? (s.heap.push { cls:=.type "tuple_iterator", data:=.fields #[.ref l,.int 0 0] }).objs.size=some _:=zWu _ rfl;show _/\_;rw[q1]at p2;rw[q1];exact ⟨⟨_,p2,rfl⟩,h _ p2 ⟨_,zWl _ (zWu _ rfl),rfl,rfl⟩ fun c o x=>zWl _ (zWl _ x)⟩
theorem zMZ (he:IsEnum s.heap e it i old)
  (hn:∀ (Q':Value->Shared->Prop) (E':Value->Shared->Prop),(∀ h' x,Heap.ExtBut it s.heap h'->(∃ o,h'.get? x=some o/\o.cls=.type "StopIteration")->E' (.ref x) { s with heap:=h' })->wpAny (model prog w) A.in1 (Builtin.SmallTypes.nextOf (.ref it)) Q' E' s)
  (hQ:∀ h',Heap.ExtBut it s.heap h'->Q none { s with heap:=h' }):wpAny (model prog w) A (pyNext (.ref e)) Q E s:=by
 have hT:s.TypeIs (.ref e) "enumerate" := ⟨_,he,rfl⟩;unfold pyNext
 refine zWk (wpAny_attempt (zXM (name:=Str.ofString "__next__") hT PySem.F.slot_enumerate_next
  (zXN PySem.F.slot_enumerate_next hT PySem.F.entry_enumerate_next ?_ (PySem.F.args_enumerate_next_1 _))))
 show wpAny _ _ (field (.ref e) 2 >>= _) _ _ _;refine zWk (zXP he rfl (x:=.ref it) rfl ?_);refine zWk (hn _ _ fun h' x he' hx'=>?_);obtain ⟨o,ho,hc⟩:=hx';refine zWk (wpAny_isInstance (T := "StopIteration") (b:=true) ⟨o,ho,hc⟩ isSubtype_stop ?_);exact zWm (hQ _ he')
end
def zLR (K:PySem.W.Frag) (isT:Bool) (a:Addr):It :=
 ⟨fun i H=>∃ xs x,(if isT then SqT K H a xs else SqL K H a xs)/\xs[i]?=some x,
  fun i H v H'=>∃ T x,v=.ref T/\H T=none/\H'=upd H T (.tup [.int i,x]) /\ ∀ xs,(if isT then SqT K H a xs else SqL K H a xs)->xs[i]?=some x,
  fun i H=>∃ xs,(if isT then SqT K H a xs else SqL K H a xs)/\xs.length<=i⟩
def zSv (isT:Bool) (it a:Addr) (i:Nat) (h:Heap):Prop:=if isT then h.IsTupleIter it a i else h.IsListIter it a i
theorem zPV {P:Program} {w:World} {K:PySem.W.Frag} {es:List Expr} {ek:Nat} {ep:Pos} {isT:Bool} {e it a:Addr} (hei:e≠it) (hae:a≠e) (hai:a≠it) :
  Turn P w K (.Tuple es ek ep) (zLR K isT a) [e,it] e (fun i h=>(∃ old,IsEnum h e it i old)/\zSv isT it a i h) where
 mem:=by simp
 obj:=fun i h ⟨⟨old,he⟩,st⟩ c hc=>by
  simp only[zWw,zXF,zX5]at hc;rcases hc with rfl|rfl
  ·exact ⟨_,he,fun v m=>by cases m⟩
  ·cases isT with
   |true=>obtain ⟨o1,e1,_,d1⟩:=(show h.IsTupleIter c a i from st);exact ⟨_,e1,fun v m=>by rw[d1]at m;cases m⟩
   |false=>obtain ⟨o1,e1,_,d1⟩:=(show h.IsListIter c a i from st);exact ⟨_,e1,fun v m=>by rw[d1]at m;cases m⟩
 keep:=fun i h h' ⟨⟨old,he⟩,st⟩ k=>by
  refine ⟨⟨old,k e (by simp) _ he⟩,?_⟩;cases isT with
  |true=>obtain ⟨o1,e1,r⟩:=(show h.IsTupleIter it a i from st);exact ⟨o1,k it (by simp) _ e1,r⟩
  |false=>obtain ⟨o1,e1,r⟩:=(show h.IsListIter it a i from st);exact ⟨o1,k it (by simp) _ e1,r⟩
 item:=by
  intro X hP hw hK hc i zB s σ H E I hf Z hg;subst hP hw hK;obtain ⟨⟨old,he⟩,st⟩:=Z;obtain ⟨xs,x,sa,hx⟩:=hg;have hch:∀ c∈[e,it],zDB X zB H c:=hf;have elt:e<s.heap.objs.size:=zWv he
  have fin:∀ (its:List Value) (u:Value) (h':Heap) (tk:Nat),zy xs its->its[i]?=some u->IsEnumOut h' e it ((i:Int)+1) u s.heap.objs.size->zSv isT it a (i+1) h'->h'.get? s.heap.objs.size=some { cls:=.type "tuple", data:=.seq #[.int i tk,u] } ->
    (∀ b o,b≠e->b≠it->s.heap.get? b=some o->h'.get? b=some o)->it<s.heap.objs.size ->
    ∃ u',some (Value.ref s.heap.objs.size)=some u'/\wpAny (model X.prog X.w) X.A (letOwnedTupleGo (.Tuple es ek ep) (.ref e) u') (fun _ s2=>∃ x H',Inv X zB σ H' s2/\zAT x u'/\(zLR X.K isT a).yld i H x H'/\((∃ old,IsEnum s2.heap e it ((i+1:Nat):Int) old)/\zSv isT it a (i+1) s2.heap) /\ ∀ b∈[e,it],H' b=none) E { s with heap:=h',toks:=tk+1 }:=by
   intro its u h' tk rv hu ho st' hT hk ilt;refine ⟨_,rfl,wpAny_letOwnedTupleGo_enum ho fun h2 he2 e2=>?_⟩;have kk:∀ c o,c∉[e,it]->s.heap.get? c=some o->h2.get? c=some o:=fun c o n q=>by
    simp only[zWw,zXF,zX5,not_or]at n;exact e2.extBut _ _ n.1 (hk c o n.1 n.2 q)
   have NT:=e2.extBut _ _ (zYF elt) hT;have hfr:H s.heap.objs.size=none:=I.hok.fresh (zWq _);obtain ⟨u2,hu2,ru⟩:=rv.get hx;rw[hu]at hu2;cases hu2;refine ⟨.ref s.heap.objs.size,upd H s.heap.objs.size (.tup [.int i,x]),zEz (s:=s) (h':=h2) (t':=tk+1) I hch kk (zWq _) ?_,rfl,⟨_,x,rfl,hfr,rfl,fun ws hw=>?_⟩,⟨⟨u,by simpa using he2⟩,?_⟩,fun c hm=>?_⟩
   ·exact ⟨by show 2<=sizeLine;decide,[.int i tk,u],.cons ⟨tk,rfl⟩ (.cons ru .nil),⟨_,NT,rfl,⟨_,rfl⟩,rfl⟩⟩
   ·cases isT with
    |true=>rw[I.tuple_inj hw sa];exact hx
    |false=>rw[I.list_inj hw sa];exact hx
   ·cases isT with
    |true=>obtain ⟨o1,e1,r⟩:=(show h'.IsTupleIter it a (i+1)from st');exact ⟨o1,e2.extBut _ _ hei.symm e1,r⟩
    |false=>obtain ⟨o1,e1,r⟩:=(show h'.IsListIter it a (i+1)from st');exact ⟨o1,e2.extBut _ _ hei.symm e1,r⟩
   ·have lt:c<s.heap.objs.size:=by
     simp only[zWw,zXF,zX5]at hm;rcases hm with rfl|rfl
     ·exact elt
     ·exact ilt
    rw[zn (zW5 lt)];exact (hf c hm).1
  have hef:e∉[it,a]:=by simp only[zWw,zXF,zX5,not_or];exact ⟨hei,hae.symm⟩
  cases isT with
  |true=>
   obtain ⟨its,rv,p1,z1⟩:=I.tuple sa;have st':s.heap.IsTupleIter it a i:=st;obtain ⟨o1,e1,_⟩:=id st';refine wpAny_pyNext_enum_itemD (zT9 (prog:=X.prog) (w:=X.w) (A:=X.A.in1) (I.ok.hd hc) it a hai its.toArray) he ⟨st',show s.heap.IsTuple a its.toArray from p1⟩ (by have:=rv.length;have:=(zWn.mp hx).1;rw[zWs];omega) hei hef fun u h' tk hu ho hs hT _ hk=>?_;exact fin its u h' tk rv (by simpa using hu) ho hs.1 hT hk (zWv e1)
  |false=>
   obtain ⟨its,rv,p1,z1⟩:=I.list sa;have st':s.heap.IsListIter it a i:=st;obtain ⟨o1,e1,_⟩:=id st';refine wpAny_pyNext_enum_itemD (Draws.list (prog:=X.prog) (w:=X.w) (A:=X.A.in1) (I.ok.hd hc) it a hai its.toArray) he ⟨st',p1.isList⟩ (by have:=rv.length;have:=(zWn.mp hx).1;rw[zWs];omega) hei hef fun u h' tk hu ho hs hT _ hk=>?_;exact fin its u h' tk rv (by simpa using hu) ho hs.1 hT hk (zWv e1)
 done:=by
  intro X hP hw hK hc i zB s σ H E I hf Z hg;subst hP hw hK;obtain ⟨⟨old,he⟩,st⟩:=Z;obtain ⟨xs,sa,hz⟩:=hg;have out:∀ h',Heap.ExtBut it s.heap h'->(none:Option Value)=none/\Inv X zB σ H { s with heap:=h' }:=fun h' x=>⟨rfl,zG8 (s:=s) (h':=h') (t':=s.toks) I hf fun c o n q=>x c o (fun m=>n (by simp[m])) q⟩;cases isT with
  |true=>
   obtain ⟨its,rv,p1,z1⟩:=I.tuple sa;refine zMZ he (fun Q' E' hq=>zFW (I.ok.hd hc) (show s.heap.IsTupleIter it a i from st) (show s.heap.IsTuple a its.toArray from p1) (by have:=rv.length;simp;omega) hq) out
  |false=>
   obtain ⟨its,rv,p1,z1⟩:=I.list sa;refine zMZ he (fun Q' E' hq=>wpAny_nextOf_list_end (I.ok.hd hc) (show s.heap.IsListIter it a i from st) p1.isList (by have:=rv.length;simp;omega) hq) out
 self:=fun _ _ _ _ _ Z h=>let ⟨⟨_,he⟩,_⟩:=Z;wpAny_pyIter_enum he h
section
variable {X:Cx} {a:Expr} {es:List Expr} {ek:Nat} {ep p pos:Pos}
theorem zS4 {te:TE} (hg:Gl X "enumerate") (hm:X.mg "enumerate" = none) (ha:PE X a te) (hs:starEach [a] X.env=(false,eval a X.env)::starEach [] X.env:=by rfl) (hpl:(backTo pos (starEach [] X.env)).any (·.1)=false:=by rfl) :
  PI X (.Tuple es ek ep) (.Call (.Name "enumerate" p) [a] [] pos) (fun σ H R=>te σ H fun x H1=>∃ l,x=.ref l/\((∃ xs,SqT X.K H1 l xs)/\R (zLR X.K true l) H1\/(∃ xs,SqL X.K H1 l xs)/\R (zLR X.K false l) H1)):=by
 intro zB s σ H R I h;refine wpAny_Call_Name_kw (zGF I hg hm (by rfl) ?_ (by decide) (by decide));refine callWith_type1 ?_ hs hpl;rw[hs];show wpAny _ _ (spliced ((false,eval a X.env)::backTo pos (starEach [] X.env))) _ _ s;refine Calls.spliced_cons (thn (ha zB s σ H _ I h) fun u s1 ⟨x,H1,I1,r1,l,hx,q⟩=>Calls.spliced_nil ?_);subst hx;cases r1
 have out:∀ (isT:Bool) (h':Heap),l<s1.heap.objs.size->IsEnum h' (s1.heap.objs.size+1) s1.heap.objs.size 0 .none->zSv isT s1.heap.objs.size l 0 h'->(∀ c o,s1.heap.get? c=some o->h'.get? c=some o)->R (zLR X.K isT l) H1 ->
   wpAny (model X.prog X.w) X.A (pyIter (.ref (s1.heap.objs.size+1))) (PIE X zB σ (.Tuple es ek ep) R) X.xe { s1 with heap:=h' }:=by
  intro isT h' hl he st kp q;refine wpAny_pyIter_enum (s:={ s1 with heap:=h' }) he ?_;refine ⟨s1.heap.objs.size+1,[s1.heap.objs.size+1,s1.heap.objs.size],_,_,H1,rfl,I1.kept (t':=s1.toks) kp,zPV (isT:=isT) (zYF (zXh _)) (zW5 (zXZ hl)) (zW5 hl),⟨⟨_,he⟩,st⟩,fun c hc=>?_,q⟩;have ge:s1.heap.objs.size<=c:=by
   simp only[zWw,zXF,zX5]at hc;rcases hc with rfl|rfl
   ·exact zYS _
   ·exact zWq _
  exact I1.fpOk ge (I1.hok.fresh ge)
 rcases q with ⟨⟨xs,hq⟩,q⟩|⟨⟨xs,hq⟩,q⟩
 ·obtain ⟨its,rv,p1,_⟩:=I1.tuple hq;have hl:l<s1.heap.objs.size:=by obtain ⟨_,e,_⟩:=p1;exact zWv e
  exact zMu (show s1.heap.IsTuple l its.toArray from p1) fun h' he st kp=>out true h' hl he st kp q
 ·obtain ⟨its,rv,p1,_⟩:=I1.list hq;have hl:l<s1.heap.objs.size:=by obtain ⟨_,_,e,_⟩:=p1;exact zWv e
  exact call_enumerate_list p1.isList fun h' he st _ kp=>out false h' hl he st kp q
def zMQ (xs:List D):List D:=((List.range xs.length).zip xs).map fun q=>D.tup [.int (q.1:Nat),q.2]
theorem zQj {xs:List D} {i:Nat} {d:D} (h:(zMQ xs)[i]?=some d):∃ x,xs[i]?=some x/\d=.tup [.int (i:Nat),x]:=by
 unfold zMQ at h;rw[zW7]at h;cases e:((List.range xs.length).zip xs)[i]? with
 |none=>rw[e]at h;cases h
 |some pr=>
  rw[e]at h;cases h;obtain ⟨f1,f2⟩:=List.getElem?_zip_eq_some.mp e;have hi:i<xs.length:=(zWn.mp f2).1;rw[List.getElem?_range hi]at f1;cases f1;exact ⟨pr.2,f2,rfl⟩
theorem zQ6 (xs:List D):(zMQ xs).length=xs.length:=by unfold zMQ;simp
def zLJ (f:FE):FI:=fun σ M=>match f σ M with
 |some (x,M1)=>match zBJ M1 x with
  |some xs=>some (zMQ xs,zF8 x xs,M1)
  |none=>none
 |none=>none
theorem zS8 {g:FE} (hg:Gl X "enumerate") (hm:X.mg "enumerate" = none) (h:QE X a g) (hs:starEach [a] X.env=(false,eval a X.env)::starEach [] X.env:=by rfl) (hpl:(backTo pos (starEach [] X.env)).any (·.1)=false:=by rfl) :
  QI X (.Tuple es ek ep) (.Call (.Name "enumerate" p) [a] [] pos) (zLJ g):=.mk <| PI.imp (zS4 hg hm h.un hs hpl) fun τ H R zz=>by
 obtain ⟨L,σ,M,xs,gd,M',c,rs,hf,q⟩:=zz;unfold zLJ at hf;split at hf
 ·rename_i y M1 e1;split at hf
  ·rename_i zs e2;cases hf;refine ⟨L,σ,M,_,_,c,rs,e1,fun L1 H1 v s1 c1 r1=>?_⟩
   have step:∀ (isT:Bool) (l:Addr) (L2:List Addr) (H2:Hp) (vs:List V),(if isT then SqT X.K H2 l vs else SqL X.K H2 l vs)->zh L2 H2 zs vs ->
     (∀ (i:Nat) d,(zMQ zs)[i]?=some d->(zLR X.K isT l).go i H2 /\ ∀ v H'',(zLR X.K isT l).yld i H2 v H''->(∀ a o,H2 a=some o->H'' a=some o)/\Rep L2 H'' d v)/\(zLR X.K isT l).stop (zMQ zs).length H2:=by
    intro isT l L2 H2 vs hq r;refine ⟨fun i d hd=>?_,⟨vs,hq,by rw[zQ6,r.length];exact zWq _⟩⟩;obtain ⟨x,hx,rfl⟩:=zQj hd;obtain ⟨u,hu,ru⟩:=r.get hx;refine ⟨⟨vs,u,hq,hu⟩,fun v H3 hy=>?_⟩;obtain ⟨T,x',rfl,hT,rfl,hxx⟩:=hy;have ex:=hxx vs hq;rw[hu]at ex;cases ex;exact ⟨fun a o e=>by rw[zn (zAa e hT)];exact e,Rep.newTup hT (.cons zAs (.cons ru .nil))⟩
   unfold zBJ at e2;cases t:zDg y with
   |some ws=>
    rw[t]at e2;cases e2;obtain ⟨a,vs,rfl,e3,r3⟩:=zDC r1 t;refine ⟨a,rfl,.inl ⟨⟨vs,.of e3⟩,q L1 H1 _ s1 c1 fun L2 H2 M2 s2 c2 _=>?_⟩⟩;exact step true a L2 H2 vs (.of (s2.tup a vs e3)) (r3.stp s2)
   |none=>
    rw[t]at e2;dsimp only at e2;obtain ⟨a,vs,rfl,e3,r3⟩:=zBy c1 r1 e2;refine ⟨a,rfl,.inr ⟨⟨vs,.inl e3⟩,q L1 H1 _ s1 c1 fun L2 H2 M2 s2 c2 hgd=>?_⟩⟩;have key:∃ vs',SqL X.K H2 a vs'/\zh L2 H2 zs vs':=by
     cases y with
     |fl ys=>
      cases e2;obtain ⟨p',vs',hp',_,e5,e6,r6⟩:=r1;cases hp';exact ⟨vs',.of (s2.old _ _ e5 e6),r6.stp s2⟩
     |dat d=>
      cases d with
      |ref n=>
       unfold zt Rep at r1;obtain ⟨a',ha',e5⟩:=r1;cases ha';have e6:L2[n]?=some a:=by obtain ⟨N,hN⟩:=s2.pre;rw[hN];exact zCw e5
       rcases hgd with z|z
       ·obtain ⟨vs',e7,r7⟩:=c2.obj n a _ e6 z;exact ⟨vs',.of e7,r7⟩
       ·obtain ⟨o,vs',e7,r7⟩:=c2.obj n a _ e6 z;exact ⟨vs',.inl (.inr ⟨o,e7⟩),r7⟩
      |_=>cases e2
    obtain ⟨vs',hq,r7⟩:=key;exact step false a L2 H2 vs' hq r7
  ·cases hf
 ·cases hf
end
section
variable {κ:Type} [DecidableEq κ]
def zFq (kf:D->Option κ) (kvs:List (D × D)) (k:κ):Option D:=(kvs.find? fun p=>decide (kf p.1=some k)).map (·.2)
def zLc (kf:D->Option κ) (kvs:List (D × D)) (k:κ) (kd v:D):List (D × D) :=
 if (kvs.any fun p=>decide (kf p.1=some k))=true then kvs.map fun p=>if kf p.1=some k then (p.1,v) else p else kvs++[(kd,v)]
theorem zH7 (k:κ):∀ {kvs:List (D × D)} {vs:List (κ × V)},zBx kf L H kvs vs->(zFq kf kvs k=none/\zFl vs k=none) \/ ∃ d v,zFq kf kvs k=some d/\zFl vs k=some v/\Rep L H d v
 |[],vs,h=>by unfold zBx at h;subst h;exact .inl ⟨rfl,rfl⟩
 |p::r,vs,h=>by
  obtain ⟨k',v,r',rfl,e,h1,h2⟩:=h;by_cases q:k'=k
  ·subst q;exact .inr ⟨p.2,v,by unfold zFq;rw[zYW,e];simp,by rw[zGc rfl],h1⟩
  ·have e1:zFq kf (p::r) k=zFq kf r k:=by unfold zFq;rw[zYW,e];simp[q]
   rw[e1,zGg q];exact zH7 k h2
theorem zLZ (k:κ):∀ {kvs:List (D × D)} {vs:List (κ × V)},zBx kf L H kvs vs->(kvs.any fun p=>decide (kf p.1=some k))=(vs.any fun kv=>decide (kv.1=k))
 |[],vs,h=>by unfold zBx at h;subst h;rfl
 |p::r,vs,h=>by
  obtain ⟨k',v,r',rfl,e,h1,h2⟩:=h;rw[List.any_cons,List.any_cons,zLZ k h2,e];simp
theorem zI0 (k:κ) (hd:Rep L H d u):∀ {kvs:List (D × D)} {vs:List (κ × V)},zBx kf L H kvs vs->zBx kf L H (kvs.map fun p=>if kf p.1=some k then (p.1,d) else p) (vs.map fun kv=>if kv.1=k then (kv.1,u) else kv)
 |[],vs,h=>by unfold zBx at h;subst h;rfl
 |p::r,vs,h=>by
  obtain ⟨k',v,r',rfl,e,h1,h2⟩:=h;rw[zW3,zW3];by_cases q:k'=k
  ·subst q;rw[zWz e,zWz rfl];exact ⟨k',u,_,rfl,e,hd,zI0 k' hd h2⟩
  ·rw[zW2 (by rw[e];simpa using q),zW2 q];exact ⟨k',v,_,rfl,e,h1,zI0 k hd h2⟩
theorem zJk (hk:kf kd=some k) (hd:Rep L H d u):∀ {kvs:List (D × D)} {vs:List (κ × V)},zBx kf L H kvs vs->zBx kf L H (kvs++[(kd,d)]) (vs++[(k,u)])
 |[],vs,h=>by unfold zBx at h;subst h;exact ⟨k,u,[],rfl,hk,hd,rfl⟩
 |p::r,vs,h=>by
  obtain ⟨k',v,r',rfl,e,h1,h2⟩:=h;exact ⟨k',v,_,rfl,e,h1,zJk hk hd h2⟩
theorem zOX {kf:D->Option κ} {L:List Addr} {H:Hp} {k:κ} {kd d:D} {u:V} (hk:kf kd=some k) (hd:Rep L H d u) {kvs:List (D × D)} {vs:List (κ × V)} (h:zBx kf L H kvs vs):zBx kf L H (zLc kf kvs k kd d) (zEo vs k u):=by
 unfold zLc zEo;rw[zLZ k h];split
 ·exact zI0 k hd h
 ·exact zJk hk hd h
end
theorem zMX:∀ {ds:List D} {vs:List V} {ks:List Key},zh L H ds vs->zFs ds=some ks->vs=ks.map kV
 |[],vs,ks,h,e=>by cases e;unfold zh at h;exact h
 |d::ds,vs,ks,h,e=>by
  unfold zh at h;obtain ⟨v,r,rfl,h1,h2⟩:=h;unfold zFs at e;cases e1:zHI d with
  |none=>rw[e1]at e;cases e
  |some k=>
   cases e2:zFs ds with
   |none=>rw[e1,e2]at e;cases e
   |some ks'=>
    rw[e1,e2]at e;cases e;rw[zKQ h1 e1,zMX h2 e2];rfl
theorem zPz (h:Rep L H d v) (e:tkD d=some ks):∃ b,v=.ref b/\H b=some (.tup (ks.map kV)):=by
 cases d with
 |tup ds=>
  unfold Rep at h;obtain ⟨a,vs,rfl,e1,r⟩:=h;exact ⟨a,rfl,by rw[e1,zMX r e]⟩
 |_=>cases e
def zHh (M:Mem) (x:EV) (k:D):Option (Option D):=match x with
 |.dat (.ref n)=>match M[n]? with
  |some (.dict kvs)=>match zHI k with
   |some kk=>some (zFq zHI kvs kk)
   |none=>none
  |some (.dicT kvs)=>match tkD k with
   |some kk=>some (zFq tkD kvs kk)
   |none=>none
  |_=>none
 |_=>none
def zVo (L:List Addr) (H:Hp):Option D->Option V->Prop
 |none,o=>o=none
 |some d,o=>∃ v,o=some v/\Rep L H d v
theorem zGx {K:PySem.W.Frag} {L:List Addr} {M:Mem} {H H0:Hp} {x:EV} {v w:V} {k:D} {o:Option D} (c:Cor K L M H) (rx:zt H0 L H x v) (rk:Rep L H k w) (e:zHh M x k=some o):∃ a ov,v=.ref a/\zEe H a w ov/\zVo L H o ov:=by
 cases x with
 |fl xs=>cases e
 |dat d=>
  cases d with
  |ref n=>
   unfold zt Rep at rx;obtain ⟨a,rfl,ea⟩:=rx;unfold zHh at e;dsimp only at e;cases q:M[n]? with
   |none=>rw[q]at e;cases e
   |some m=>
    rw[q]at e;have z:=c.obj n a m ea q;cases m with
    |dict kvs=>
     dsimp only at e;cases e2:zHI k with
     |none=>rw[e2]at e;cases e
     |some kk=>
      rw[e2]at e;cases e;obtain ⟨vs,e3,r⟩:=z;refine ⟨a,zFl vs kk,rfl,?_,?_⟩
      ·rw[zKQ rk e2];exact zEe.k e3
      ·rcases zH7 kk r with ⟨h1,h2⟩|⟨d,v,h1,h2,h3⟩
       ·rw[h1,h2];rfl
       ·rw[h1,h2];exact ⟨v,rfl,h3⟩
    |dicT kvs=>
     dsimp only at e;cases e2:tkD k with
     |none=>rw[e2]at e;cases e
     |some kk=>
      rw[e2]at e;cases e;obtain ⟨vs,e3,r⟩:=z;obtain ⟨b,rfl,eb⟩:=zPz rk e2;refine ⟨a,zFl vs kk,rfl,zEe.t e3 eb,?_⟩;rcases zH7 kk r with ⟨h1,h2⟩|⟨d,v,h1,h2,h3⟩
      ·rw[h1,h2];rfl
      ·rw[h1,h2];exact ⟨v,rfl,h3⟩
    |_=>cases e
  |_=>cases e
def zHW (M:Mem) (n:Nat) (k v:D):Option Mem:=match M[n]? with
 |some (.dict kvs)=>match zHI k with
  |some kk=>if kvs.length<sizeLine then some (M.set n (.dict (zLc zHI kvs kk k v))) else none
  |none=>none
 |some (.dicT kvs)=>match tkD k with
  |some kk=>if kvs.length<sizeLine then some (M.set n (.dicT (zLc tkD kvs kk k v))) else none
  |none=>none
 |_=>none
theorem zLQ {K:PySem.W.Frag} {L:List Addr} {M M':Mem} {H:Hp} {n:Nat} {a:Addr} {k v:D} {w u:V} (c:Cor K L M H) (ea:L[n]?=some a) (rk:Rep L H k w) (rv:Rep L H v u) (e:zHW M n k v=some M'):∃ H',zHk H a w u H'/\Cor K L M' H'/\Stp L H L H':=by
 unfold zHW at e;cases q:M[n]? with
 |none=>rw[q]at e;cases e
 |some m=>
  rw[q]at e;have z:=c.obj n a m ea q;cases m with
  |dict kvs=>
   dsimp only at e;cases e2:zHI k with
   |none=>rw[e2]at e;cases e
   |some kk=>
    rw[e2]at e;dsimp only at e;split at e
    ·rename_i hl;cases e;obtain ⟨vs,e3,r⟩:=z;obtain ⟨c3,s3⟩:=c.put (m:=.dict (zLc zHI kvs kk k v)) (o':=.dK (zEo vs kk u)) ea e3 (fun _ z=>by cases z) (fun _ _ z=>by cases z) fun s3=>⟨_,zAh,(zOX e2 rv r).stp s3⟩;refine ⟨_,?_,c3,s3⟩;rw[zKQ rk e2];exact zHk.k e3 (by rw[r.length];exact hl)
    ·cases e
  |dicT kvs=>
   dsimp only at e;cases e2:tkD k with
   |none=>rw[e2]at e;cases e
   |some kk=>
    rw[e2]at e;dsimp only at e;split at e
    ·rename_i hl;cases e;obtain ⟨vs,e3,r⟩:=z;obtain ⟨b,rfl,eb⟩:=zPz rk e2;obtain ⟨c3,s3⟩:=c.put (m:=.dicT (zLc tkD kvs kk k v)) (o':=.dT (zEo vs kk u)) ea e3 (fun _ z=>by cases z) (fun _ _ z=>by cases z) fun s3=>⟨_,zAh,(zOX e2 rv r).stp s3⟩;exact ⟨_,zHk.t e3 eb (by rw[r.length];exact hl),c3,s3⟩
    ·cases e
  |_=>cases e
section
variable {X:Cx} {a b e o i value:Expr} {pos pos' apos cpos:Pos} {f g h:FE}
def zBI:K2:=fun x y M=>match y with
 |.dat k=>match zHh M x k with
  |some (some d)=>some (.dat d,M)
  |_=>none
 |_=>none
theorem zQX {K:PySem.W.Frag}:zCF K (fun x y H Q=>∃ a v,x=.ref a/\zEe H a y (some v)/\Q v H) zBI:=by
 intro L M M' H H0 x y d v w Q c rx ry hk q;unfold zBI at hk;split at hk
 ·rename_i k;split at hk
  ·rename_i d' e1;cases hk;obtain ⟨a,ov,rfl,h1,h2⟩:=zGx c rx ry e1;obtain ⟨u,rfl,r⟩:=h2;exact ⟨a,u,rfl,h1,q L H u (.refl L H) c r⟩
  ·cases hk
 ·cases hk
theorem zE1 (hu:X.A.units+1<cLine) (h1:QE X o f) (h2:QE X i g) (hs:zU9 i:=by intro _ _;rfl):QE X (.Subscript o i pos) (fOp zBI f g):=.mk <| PE.imp (zSw hu h1.un h2.un hs) fun _ _ _ h=>zDo zQX h
def zCO (neg:Bool):K2:=fun x y M=>match x with
  |.dat k=>match zHh M y k with
    |some o=>some (.dat (.bl (if neg then !o.isSome else o.isSome)),M)
    |none=>none
  |_=>none
theorem zLM {o:Option D} {ov:Option V} (h:zVo L H o ov):ov.isSome=o.isSome:=by
  cases o with
  | none => have h' : ov = none := h
            rw[h'];rfl
  |some d=>obtain ⟨v,rfl,_⟩:=h;rfl
theorem zNu {K:PySem.W.Frag}:zCF K (fun y x H Q=>∃ a o,x=.ref a/\zEe H a y o/\Q (.bl o.isSome) H) (zCO false):=by
 intro L M M' H H0 x y d v w Q c rx ry hk q;unfold zCO at hk;split at hk
 ·rename_i k;split at hk
  ·rename_i o e1;cases hk;obtain ⟨a,ov,rfl,h1,h2⟩:=zGx c ry rx e1;refine ⟨a,ov,rfl,h1,?_⟩;rw[zLM h2];exact q L H _ (.refl L H) c (zBW (L:=L) (H:=H))
  ·cases hk
 ·cases hk
theorem zNU {K:PySem.W.Frag}:zCF K (fun y x H Q=>∃ a o,x=.ref a/\zEe H a y o/\Q (.bl (!o.isSome)) H) (zCO true):=by
 intro L M M' H H0 x y d v w Q c rx ry hk q;unfold zCO at hk;split at hk
 ·rename_i k;split at hk
  ·rename_i o e1;cases hk;obtain ⟨a,ov,rfl,h1,h2⟩:=zGx c ry rx e1;refine ⟨a,ov,rfl,h1,?_⟩;rw[zLM h2];exact q L H _ (.refl L H) c (zBW (L:=L) (H:=H))
  ·cases hk
 ·cases hk
theorem zVi (hu:X.A.units+1<cLine) (h1:QE X a f) (h2:QE X b g) (hm:behindInMarks .In b=false:=by rfl):QE X (.Compare a [.In] [b] pos) (fOp (zCO false) f g):=.mk <| PE.imp (zVF (zRo hu h1.un h2.un) hm) fun _ _ _ h=>zDo zNu h
theorem zMo (hu:X.A.units+1<cLine) (h1:QE X a f) (h2:QE X b g) (hm:behindInMarks .In b=false:=by rfl):QT X (.Compare a [.In] [b] pos) (tst (fOp (zCO false) f g)):=.mk <| PT.imp (zQa (zRo hu h1.un h2.un) hm) fun _ _ _ h=>zES (fun _ _ _ z=>zDo zNu z) (zEC h)
theorem zFi (hu:X.A.units+1<cLine) (h1:QE X a f) (h2:QE X b g) (hm:behindInMarks .NotIn b=false:=by rfl):QT X (.Compare a [.NotIn] [b] pos) (tst (fOp (zCO true) f g)):=.mk <| PT.imp (zQa (zO9 hu h1.un h2.un) hm) fun _ _ _ h=>zES (fun _ _ _ z=>zDo zNU z) (zEC h)
def zC7 (fv fo fi:FE):FS:=fun σ M=>match toD fv σ M with
 |some (v,M1)=>match toD fo σ M1 with
  |some (.ref n,M2)=>match toD fi σ M2 with
   |some (k,M3)=>match zHW M3 n k v with
    |some M4=>some (.nx,σ,M4)
    |none=>none
   |none=>none
  |_=>none
 |none=>none
theorem zKz (hu:X.A.units+1<cLine) (hv:QE X value f) (ho:QE X o g) (hi:QE X i h) (hs:swapsWith value (some (.Subscript o i pos')) pos.line X.env=pure false:=by rfl):QS X (.Assign [.Subscript o i pos'] value pos) (zC7 f g h) :=
 .mk <| PS.imp (zTZ hu (zI ho).un (zI hi).un (zI hv).un hs) fun E τ H zz=>by
  obtain ⟨L,σ,M,out,σ',M',c,rs,hf,q⟩:=zz;unfold zC7 at hf;split at hf
  ·rename_i v M1 e1;split at hf
   ·rename_i n M2 e2;split at hf
    ·rename_i k M3 e3;split at hf
     ·rename_i M4 e4;cases hf;refine ⟨L,σ,M,_,_,c,rs,e1,fun L1 H1 u s1 c1 r1=>⟨L1,σ,M1,_,_,c1,rs.stp s1,e2,fun L2 H2 y s2 c2 r2=>⟨L2,σ,M2,_,_,c2,(rs.stp s1).stp s2,e3,fun L3 H3 z s3 c3 r3=>?_⟩⟩⟩;unfold Rep at r2;obtain ⟨a,rfl,ea⟩:=r2;have ea3:L3[n]?=some a:=by obtain ⟨N,hN⟩:=s3.pre;rw[hN];exact zCw ea
      obtain ⟨H4,h1,h2,h3⟩:=zLQ c3 ea3 r3 ((r1.stp s2).stp s3) e4;exact ⟨a,H4,rfl,h1,q L3 H4 (((s1.trans s2).trans s3).trans h3) h2 τ ((((rs.stp s1).stp s2).stp s3).stp h3)⟩
     ·cases hf
    ·cases hf
   ·cases hf
  ·cases hf
def zCl (fo fi fx:FE):FE:=fun σ M=>match toD fo σ M with
 |some (.ref n,M1)=>match M1[n]? with
  |some (.dict _)|some (.dicT _)=>match toD fi σ M1 with
   |some (k,M2)=>match toD fx σ M2 with
    |some (x,M3)=>match zHh M3 (.dat (.ref n)) k with
     |some o=>some (.dat (o.getD x),M3)
     |none=>none
    |none=>none
   |none=>none
  |_=>none
 |_=>none
theorem zOZ (hu:X.A.units+1<cLine) (ho:QE X o f) (hi:QE X i g) (hx:QE X e h) (m:M2 X o "get" apos i e cpos):QE X (.Call (.Attribute o "get" apos) [i,e] [] cpos) (zCl f g h) :=
 .mk <| PE.imp (zQV hu (zI ho).un (zI hi).un (zI hx).un m) fun τ H Q zz=>by
  obtain ⟨L,σ,M,d,M',c,rs,hf,q⟩:=zz
  have key:∀ n M1,toD f σ M=some (.ref n,M1)->(∃ kvs,M1[n]?=some (.dict kvs)\/M1[n]?=some (.dicT kvs))->(match toD g σ M1 with
   |some (k,M2)=>match toD h σ M2 with
    |some (x,M3)=>match zHh M3 (.dat (.ref n)) k with
     |some o=>some (EV.dat (o.getD x),M3)
     |none=>none
    |none=>none
   |none=>none)=some (d,M')->zRs (trD X.K (toD f)) (trD X.K (toD g)) (trD X.K (toD h)) τ H Q:=by
   intro n M1 e1 hd hf;split at hf
   ·rename_i k M2 e2;split at hf
    ·rename_i x M3 e3;split at hf
     ·rename_i ov e4;cases hf;refine ⟨L,σ,M,_,_,c,rs,e1,fun L1 H1 u s1 c1 r1=>?_⟩;unfold Rep at r1;obtain ⟨a,rfl,ea⟩:=r1;refine ⟨a,rfl,?_,L1,σ,M1,_,_,c1,rs.stp s1,e2,fun L2 H2 y s2 c2 r2=>⟨L2,σ,M2,_,_,c2,(rs.stp s1).stp s2,e3,fun L3 H3 z s3 c3 r3=>?_⟩⟩
      ·obtain ⟨kvs,hk|hk⟩:=hd
       ·obtain ⟨vs,e5,_⟩:=c1.obj n a _ ea hk;exact .inl ⟨vs,.inl e5⟩
       ·obtain ⟨vs,e5,_⟩:=c1.obj n a _ ea hk;exact .inr ⟨vs,.inl e5⟩
      ·have ra:zt H L3 H3 (.dat (.ref n)) (.ref a):=by
        unfold zt Rep;exact ⟨a,rfl,by obtain ⟨N,hN⟩:=(s2.trans s3).pre;rw[hN];exact zCw ea⟩
       obtain ⟨a',o',e6,h1,h2⟩:=zGx c3 ra (r2.stp s3) e4;cases e6;refine ⟨o',h1,?_⟩;cases ov with
       |none=>
        have h':o'=none:=h2;subst h';exact q L3 H3 _ ((s1.trans s2).trans s3) c3 r3
       |some dd=>
        obtain ⟨v,rfl,rv⟩:=h2;exact q L3 H3 _ ((s1.trans s2).trans s3) c3 rv
     ·cases hf
    ·cases hf
   ·cases hf
  unfold zCl at hf;split at hf
  ·rename_i n M1 e1;split at hf
   ·rename_i kvs e5;exact key n M1 e1 ⟨kvs,.inl e5⟩ hf
   ·rename_i kvs e5;exact key n M1 e1 ⟨kvs,.inr e5⟩ hf
   ·cases hf
  ·cases hf
end
end L3
namespace L2
open PySem PySem.Spec PyProof.Rows
section
variable {prog:Program} {w:World} {A:Around} {R:Result->Shared->Prop} {s:Shared}
theorem zEA {kx vx target iter ifs rest scope pos it acc env}
  (h0:codeAny (model prog w) A (.compLoop (.DictComp kx vx (⟨target,iter,ifs,0⟩::rest) scope pos) 0 it acc env) R s)
  (h:wpAny (model prog w) A (pyIter it) (fun it' s'=>codeAny (model prog w) A (.compLoop (.DictComp kx vx (⟨target,iter,ifs,0⟩::rest) scope pos) 0 it' acc env) R s')
   (notedBy (model prog w) A env fun x s'=>R (.error x) s') s) :
  codeAny (model prog w) A (.compStart (.DictComp kx vx (⟨target,iter,ifs,0⟩::rest) scope pos) 0 it acc env) R s:=by
 refine codeAny_of_tree ?_;show wpAny _ _ ((compStart (.DictComp kx vx (⟨target,iter,ifs,0⟩::rest) scope pos) 0 it acc env).onRaise (fun x=>do noteFrame x env;standAt theWindowsPlace)) _ _ s;refine wpAny_notedAt ?_;unfold compStart;show wpAny _ _ (ask >>= _) _ _ s;refine zWk (wpAny_askSetting (wpAny_ite ?_));split
 ·first
   |exact zWk (zWm (zWm (And.intro rfl h0)))
   |exact zWm (And.intro rfl h0)
 ·first
   |exact zWk (zX7 (zWk (zXi (zWk (zXG h (fun it' s' h'=>zWm (And.intro rfl h')) fun _ _ x=>x)))))
   |(refine zWk (zX7 ?_);show wpAny _ _ (standAt iter.pos >>= _) _ _ s;exact zWk (zXi (zWk (zXG h (fun it' s' h'=>zWm (And.intro rfl h')) fun _ _ x=>x))))
end
section
variable {X:Cx} {zB:List (Addr × Obj)} {σ:St} {H:Hp} {s:Shared}
theorem Inv.trackAt (I:Inv X zB σ H s) (ho:s.heap.get? D=some o) (hn:H D=none) (h0:X.s₀.heap.objs.size<=D) (hL:D≠X.env.locals) (hc:∀ x c,X.env.cells.lookup x=some c->c≠D) (hp:∀ p∈X.pn++zB,p.1≠D)
  (new:zAl X.prog X.w (upd H D u) s.heap D u):Inv X zB σ (upd H D u) s:=by
 have un:∀ b v,H b=some v->upd H D u b=some v:=fun b v e=>by rw[zn (zAa e hn)];exact e
 have e0:s={ s with heap:=s.heap,gens:=s.gens,drawn:=s.drawn,toks:=s.toks }:=by cases s;rfl
 rw[e0];refine I.step (g':=s.gens) (d':=s.drawn) (ch:=[D]) (fun b hb=>?_) (fun b v _ _ _ e _=>e) (fun b v _ _ _ e _=>⟨v.slots,e⟩) (fun b v hb e n=>?_) (fun b v _ e=>⟨v,e⟩) (fun b xs e=>un b _ e) (fun b p v e=>un b _ e) (fun b ps e=>⟨#[],by rw[un b _ e];simp⟩) (fun m hm=>hm) (fun b v e=>?_) I.bare
 ·have:b=D:=by simpa using hb
  subst this;exact ⟨.inr h0,hL,hc,hp⟩
 ·rw[zn (fun z=>hb (by simp[z]))];exact n
 ·by_cases hb:b=D
  ·subst hb;rw[zAh]at e;cases e;exact new
  ·rw[zn hb]at e;exact (I.hok b v e).stay (fun c v hc q=>q) (fun c q=>un c _ q) fun c xs q=>un c _ q
theorem zPq (hu:A.units+1<cLine) (I:Inv X zB σ H s) (g:zHk H a y v H') (ry:zAT y u) (rv:zAT v r) (h:∀ s',Inv X zB σ H' s'->Heap.SameBut a s.heap s'.heap->Q () s') :
  wpAny (model X.prog X.w) A (dictSet a u r) Q E s:=by
 rcases g with ⟨kvs,k,e,ey,l,eH⟩|⟨kvs,k,b,e,ey,eb,l,eH⟩
 ·subst ey eH;obtain ⟨z,hd,vs,rel,dd⟩:=zTh I.hok e;have hz:vs.length<=sizeLine:=by rw[<-rel.length];exact z
  have hl:(zEo kvs k v).length<=sizeLine:=by have:=zDs kvs k v;omega
  refine wpAny_dictSet_pairs (hsz:=hz) (zII ry) dd fun h' dd' hs=>h _ ?_ hs;have he:∃ q,h'.get? a=some q:=let ⟨q,_,_,hq,_⟩:=dd';⟨q,hq⟩;exact zGU I (by rw[e];exact True.intro) hs he (zR8 hl hd (rel.put k rv) dd')
 ·subst ey eH;cases (show u=Value.ref b from ry);obtain ⟨z,hd,xs,rel,dd⟩:=zTk I.hok e;have hz:xs.length<=sizeLine:=by rw[<-Paired.length rel];exact z
  have hl:(zEo kvs k v).length<=sizeLine:=by have:=zDs kvs k v;omega
  refine wpAny_dictSet_heap (hsz:=hz) (show (tupleKind (zA0 X.prog X.w)).room A from Nat.lt_of_succ_lt hu) (zFz I.hok eb) dd fun h' dd' hs=>h _ ?_ hs;obtain ⟨q,es,ep,hq,h2,h3,h4,_,h5⟩:=dd';refine zGU I (by rw[e];exact True.intro) hs ⟨q,hq⟩ ⟨hl,hd,_,(rel.put k eb rv).keeps fun c ys ec=>?_,q,es,ep,hq,h2,h3,h4,h5⟩;rw[zn (zH6 ec e (fun z=>nomatch z))];exact ec
end
def zFy (isT:Bool):HO:=if isT then .dT [] else .dK []
abbrev zDG:Obj:={ cls:=.type "dict", data:=.dict #[] }
section
variable {X:Cx} {zB:List (Addr × Obj)} {σ:St} {H:Hp} {s:Shared} {scope:Scope} {cl:List (Str × Addr)} {fp:List Addr} {it:Addr} {tn:Nat->Heap->Prop} {J:It} {tg kx vx iter:Expr} {ifs:List Expr} {pos:Pos}
 {own:List Nat} {g:TG} {tc:TT} {tk tv:TE} {E:Value->Shared->Prop} {isT:Bool}
theorem zEl (hu:X.A.units+1<cLine) (C:CompIn X scope own) (hcalm:X.calm=true) (I:Inv X zB σ H s) (T:Turn X.prog X.w X.K tg J fp it tn) (st:tn 0 s.heap) (hf:∀ b∈fp,zDB X zB H b)
  (c1:∀ x c,cl.lookup x=some c->X.env.cells.lookup x=some c) (c2:∀ y∈scope.names,y.2=.free->(cl.lookup y.1).isSome=true)
  (hg:PG (zX X zB scope cl s H fp) tg g) (hi:zHj (zX X zB scope cl s H fp) ifs tc) (hk:PE (zX X zB scope cl s H fp) kx tk) (hv:PE (zX X zB scope cl s H fp) vx tv)
  {RR:Value->Addr->Result->Shared->Prop} {QQ:Hp->Prop} {W:Nat->Nat->Hp->Prop} {m0:Nat} (w0:W 0 m0 (upd H s.heap.objs.size (zFy isT)))
  (turn:∀ i m H,W i m H->(J.stop i H/\QQ H) \/
   (J.go i H /\ ∀ x H',J.yld i H x H'->g x (clr own σ) H' fun σ2 H2=>Ext (clr own σ) σ2/\tc σ2 H2 fun b H3=>
    if b=true then tk σ2 H3 fun k H4=>tv σ2 H4 fun v H5=>∃ H6 m',zHk H5 s.heap.objs.size k v H6/\m'<m/\W (i+1) m' H6 else ∃ m',m'<m/\W (i+1) m' H3))
  (fin:∀ σc H' s',Inv (zX X zB scope cl s H fp) [] σc H' s'->QQ H'->RR (.ref s.heap.objs.size) (s.heap.objs.size+1) (.ok .next) s') :
  wpAny (model X.prog X.w) X.A newDict (fun acc s₃=>wpAny (model X.prog X.w) X.A (newFunctionEnv scope X.env.globals cl [] X.env.qual none .none (some X.env)) (fun cenv s₄=>
   codeAny (model X.prog X.w) X.A (.compStart (.DictComp kx vx [⟨tg,iter,ifs,0⟩] scope pos) 0 (.ref it) acc { cenv with scope:=relabel scope X.env }) (RR acc cenv.locals) s₄) E s₃) E s:=by
 have ob:∀ b:Nat,b∈fp->b<s.heap.objs.size:=fun b hb=>let ⟨_,e,_⟩:=T.obj 0 _ st b hb;zWv e;show wpAny _ _ (newObj (.type "dict") (.dict #[])) _ _ _;refine zXD (zDj ?_);have sz1:(s.heap.push zDG).objs.size=s.heap.objs.size+1:=zXQ ..;have I4:=zGq (X:=X) (zB:=zB) (σ:=σ) (σc:=clr own σ) (H:=H) (s:=s) (scope:=scope) (cl:=cl) (fp:=fp) C.sc I hf ob c1 c2 (zCE own σ) (fun i x v h1 h2 h3=>by
  obtain ⟨a,b⟩:=zDm own σ i v h2;rcases C.nm i x h1 with z|z|z
  ·exact absurd z b
  ·exact absurd (zDF x z) h3
  ·exact ⟨z,a⟩) zDG (by intro v z;cases z) rfl rfl
 have st4:tn 0 (pushCells ((s.heap.push zDG).push { cls:=.type "dict", data:=.dict #[] }) scope.names):=T.keep 0 _ _ st fun b _ o e=>pushCells_keeps _ _ b o (zWl _ (zWl _ e));dsimp only;unfold newEnv;dsimp only;rw[sz1];have hDfp:s.heap.objs.size∉fp:=fun z=>zXS _ (ob _ z);obtain ⟨pD,nD,neD,nfD,dD⟩:=I4.pin (s.heap.objs.size,zDG) (by simp);have hcD:∀ x c,(zX X zB scope cl s H fp).env.cells.lookup x=some c->c≠s.heap.objs.size:=fun x c e z=>by
  obtain ⟨v,o,ho,hd⟩:=I4.cell x c e;rw[z,pD]at ho;cases ho;cases hd
 have hpn:∀ p∈(zX X zB scope cl s H fp).pn++[],p.1≠s.heap.objs.size:=fun p hp=>by
  rw[zXU]at hp;have hp':p∈X.pn++zB:=hp;exact zW5 (zWv (I.pin p hp').1)
 have big:sysModules<s.heap.objs.size:=I.big;have hsm:(s.heap.objs.size==sysModules)=false:=by rw[beq_eq_false_iff_ne];exact zYF big
 have I5:Inv (zX X zB scope cl s H fp) [] (clr own σ) (upd H s.heap.objs.size (zFy isT)) { s with heap:=pushCells ((s.heap.push zDG).push { cls:=.type "dict", data:=.dict #[] }) scope.names }:=by
  have I4':Inv (zX X zB scope cl s H fp) [] (clr own σ) H { s with heap:=pushCells ((s.heap.push zDG).push { cls:=.type "dict", data:=.dict #[] }) scope.names }:=I4.pins_of fun p hp=>nomatch hp;refine I4'.trackAt pD nD (zWq _) neD hcD hpn ?_;cases isT with
  |false=>exact ⟨zXW _,hsm,[],.nil,zDG,#[],0,pD,⟨rfl,rfl,rfl⟩,rfl,fun _ he=>by simp at he,.nil,List.nodup_nil⟩
  |true=>exact ⟨zXW _,hsm,[],.nil,zDG,#[],0,pD,⟨rfl,rfl,rfl⟩,rfl,rfl,List.nodup_nil⟩
 have fpk:∀ {H':Hp},(∀ b∈fp,H' b=none) -> ∀ b∈fp,zDB (zX X zB scope cl s H fp) [] H' b:=fun {H'} hn b hb=>
  ⟨hn b hb,(I4.ok.exf b hb).1,I4.ok.exfs b hb,.inl hb,(I4.ok.exf b hb).2,fun p hq=>by
   rw[zXU]at hq;exact (hf b hb).2.2.2.2.2 p hq⟩
 have loop:codeAny (model X.prog X.w) X.A (.compLoop (.DictComp kx vx [⟨tg,iter,ifs,0⟩] scope pos) 0 (.ref it) (.ref s.heap.objs.size) (zX X zB scope cl s H fp).env) (RR (.ref s.heap.objs.size) (s.heap.objs.size+1))
   { s with heap:=pushCells ((s.heap.push zDG).push { cls:=.type "dict", data:=.dict #[] }) scope.names }:=by
  refine zJQ (fun n s'=>∃ i H',Inv (zX X zB scope cl s H fp) [] (clr own σ) H' s'/\tn i s'.heap/\(∀ b∈fp,H' b=none)/\W i n H') ?_ m0
   ⟨0,_,I5,st4,fun b hb=>by rw[zn (show b≠s.heap.objs.size from fun z=>hDfp (by rw[<-z];exact hb))];exact (hf b hb).1,w0⟩
  rintro n s5 ⟨i,H5,J5,st5,f5,w5⟩;rcases turn i n H5 w5 with ⟨stop,qq⟩|⟨go,step⟩
  ·refine thn (T.done (zX X zB scope cl s H fp) rfl rfl rfl hcalm i _ s5 _ H5 _ J5 (fpk f5) st5 stop) fun r s6 ⟨hr,I6⟩=>?_;subst hr;exact fin _ H5 s6 I6 qq
  ·refine thn (T.item (zX X zB scope cl s H fp) rfl rfl rfl hcalm i _ s5 _ H5 _ J5 (fpk f5) st5 go) fun r s6 ⟨u,hr,h6⟩=>?_;subst hr;refine thn h6 fun _ s7 ⟨x,H7,I7,r7,y7,st7,f7⟩=>?_;have I7':=I7.pinned (fpk f7) (T.obj _ _ st7);refine thn (hg _ s7 _ H7 x u _ I7' r7 (step x H7 y7)) fun _ s8 ⟨σ8,H8,I8,x8,q8⟩=>?_;refine thn (hi _ s8 σ8 H8 _ I8 q8) fun ok s9 ⟨H9,I9,q9⟩=>?_;have back:∀ {s':Shared} {Hx:Hp},Inv (zX X zB scope cl s H fp) ([]++zDx fp s7.heap) σ8 Hx s'->tn (i+1) s'.heap /\ ∀ b∈fp,Hx b=none:=fun {s' Hx} Ix=>
    ⟨T.keep _ _ _ st7 fun b hb o e=>(Ix.pin (b,o) (zW4 _ (zW4 _ (zAw hb e)))).1,fun b hb=>by
     obtain ⟨o,e,d⟩:=T.obj _ _ st7 b hb;exact (Ix.pin (b,o) (zW4 _ (zW4 _ (zAw hb e)))).2.1⟩
   cases ok with
   |false=>
    obtain ⟨m',hm,w'⟩:=q9;obtain ⟨b1,b2⟩:=back I9;exact ⟨m',hm,i+1,H9,(I9.weak (by rw[x8.1]) x8.2).unpinned,b1,b2,w'⟩
   |true=>
    refine thn (hk _ s9 σ8 H9 _ I9 q9) fun kv s10 ⟨y,H10,I10,r10,q10⟩=>?_;refine thn (hv _ s10 σ8 H10 _ I10 q10) fun vv s11 ⟨z,H11,I11,r11,H12,m',hp,hm,w'⟩=>?_;refine zPq (X:=zX X zB scope cl s H fp) hu I11 hp r10 r11 fun s12 I12 hs=>?_;obtain ⟨b1,b2⟩:=back I12;exact ⟨m',hm,i+1,H12,(I12.weak (by rw[x8.1]) x8.2).unpinned,b1,b2,w'⟩
 exact zEA loop (T.self _ 0 _ _ _ st4 loop)
theorem zFt (I:Inv X zB σ H s) (hf:∀ b∈fp,zDB X zB H b)
  (Ic:Inv (zX X zB scope cl s H fp) [] σc H' s') (hs:Heap.SameBut (s.heap.objs.size+1) s'.heap h'):Inv X zB σ H' { s' with heap:=h' }:=by
 have nC:H' (s.heap.objs.size+1)=none:=Ic.free;have lt1:∀ {b:Addr} {o:Obj},s.heap.get? b=some o->b≠s.heap.objs.size+1:=fun e=>zW5 (zXZ (zWv e));have tr:∀ b u,H' b=some u->b≠s.heap.objs.size+1:=fun b u e z=>by rw[z,nC]at e;cases e
 have B:=Ic.base;have un:Un (frs X.stack) fp H H' s.heap h':=by
  refine ⟨fun b o e q hb hx=>hs.extBut b o (lt1 e) (B.keep b o e q hb hx),fun b o e q hb hx=>?_,fun b o e q hx=>B.free b o e q hx,fun b o e hx=>?_,fun b xs e=>B.tups b xs e,fun b o xs e=>B.frzs b o xs e,fun b ps e=>B.tbls b ps e⟩
  ·obtain ⟨sl,e1⟩:=B.slot b o e q hb hx;exact ⟨sl,hs.extBut b _ (lt1 e) e1⟩
  ·obtain ⟨o',e1⟩:=B.there b o e hx;exact ⟨o',hs.extBut b _ (lt1 e) e1⟩
 have hok:HOk X.prog X.w H' h':=fun b u e=>by
  refine (Ic.hok b u e).stay (fun c v hc q=>hs.extBut c v ?_ q) (fun c q=>q) fun c xs q=>q;rcases hc with z|z
  ·rw[z];exact tr b u e
  ·exact tr c _ z
 exact I.call' (s':={ s' with heap:=h' }) (ch:=fp) Ic.os un hok Ic.bare fun b hb=>⟨(hf b hb).2.2.2.1,(hf b hb).2.1,(hf b hb).2.2.2.2.1,(hf b hb).2.2.2.2.2⟩
end
def zG5 (isT:Bool) (own:List Nat) (wi:TI) (g:TG) (tc:TT) (tk tv:TE):TE:=fun σ H Q=>wi σ H fun J H1=>∀ D,H1 D=none -> ∃ W:Nat->Nat->Hp->Prop,(∃ m,W 0 m (upd H1 D (zFy isT))) /\ ∀ i m H,W i m H ->
 (J.stop i H/\Q (.ref D) H) \/
 (J.go i H /\ ∀ x H',J.yld i H x H'->g x (clr own σ) H' fun σ2 H2=>Ext (clr own σ) σ2/\tc σ2 H2 fun b H3=>
  if b=true then tk σ2 H3 fun k H4=>tv σ2 H4 fun v H5=>∃ H6 m',zHk H5 D k v H6/\m'<m/\W (i+1) m' H6 else ∃ m',m'<m/\W (i+1) m' H3)
section
variable {X:Cx} {scope:Scope} {tg kx vx iter:Expr} {ifs:List Expr} {pos:Pos} {own:List Nat} {wi:TI} {g:TG} {tc:TT} {tk tv:TE} {isT:Bool}
theorem zMk (hu:X.A.units+1<cLine) (C:CompIn X scope own) (hcalm:X.calm=true) (hi:PI X tg iter wi) (p:CompParts X scope tg ifs kx g tc tk) (p2:∀ zB cl s H fp,PE (zX X zB scope cl s H fp) vx tv) (hs:∀ x,foldedSetIterable iter X.env x=pure x:=by intro _;rfl) :
  PE X (.DictComp kx vx [⟨tg,iter,ifs,0⟩] scope pos) (zG5 isT own wi g tc tk tv):=by
 intro zB s σ H Q I h;obtain ⟨cl,hcl,c1,c2⟩:=C.sc.closure I;rw[arm_eval_DictComp];refine zYe (use:=none) rfl hs hcl C.sc.kind C.sc.names (thn (hi zB s σ H _ I h) fun v s1 h1=>thn h1 fun itv s2 h2=>?_);obtain ⟨it,fp,tn,J,H2,e,I2,T,st2,f2,hD⟩:=h2;subst e;obtain ⟨W,⟨m0,w0⟩,turn⟩:=hD s2.heap.objs.size (I2.hok.fresh (zWq _));refine zEl hu C hcalm I2 T st2 f2 c1 c2 (p.g _ _ _ _ _) (p.c _ _ _ _ _) (p.e _ _ _ _ _) (p2 _ _ _ _ _) (RR:=fun acc C r s'=>compPost (model X.prog X.w) X.A X.xe none (EP X zB σ Q) acc C r s') (QQ:=fun H=>Q (.ref s2.heap.objs.size) H) w0 turn ?_;intro σc H' s' Ic qq;obtain ⟨m,hn,_⟩:=Ic.loc;refine ⟨m,hn,fun h' hs'=>?_⟩;exact ⟨.ref s2.heap.objs.size,_,zFt I2 f2 Ic hs',rfl,qq⟩
end
end L2
namespace L3
open PySem PySem.Spec PyProof.Rows L2
def zIn (isT:Bool):MO:=if isT then .dicT [] else .dict []
def zC6 (g:FG) (tc:FT) (tk tv:FE) (σ:Sd) (n:Nat) (all:List D) (gd:Option (Mem->Prop)):List D->Mem->Option Mem
 |[],M=>open Classical in if zBd gd all M then some M else none
 |x::r,M=>open Classical in if zBd gd all M then match g x σ with
   |some σ1=>match tc σ1 M with
    |some (true,M1)=>match toD tk σ1 M1 with
     |some (k,M2)=>match toD tv σ1 M2 with
      |some (v,M3)=>match zHW M3 n k v with
       |some M4=>zC6 g tc tk tv σ n all gd r M4
       |none=>none
      |none=>none
     |none=>none
    |some (false,M1)=>zC6 g tc tk tv σ n all gd r M1
    |none=>none
   |none=>none
  else none
def zCi (isT:Bool) (own:List Nat) (fi:FI) (g:FG) (tc:FT) (tk tv:FE):FE:=fun σ M=>match fi σ M with
 |some (xs,gd,M1)=>match zC6 g tc tk tv (zBo own σ) M1.length xs gd xs (M1++[zIn isT]) with
  |some M2=>some (.dat (.ref M1.length),M2)
  |none=>none
 |none=>none
theorem zIi {K:PySem.W.Frag} {isT:Bool} {own:List Nat} {fi:FI} {g:TG} {fg:FG} {tc:FT} {tk tv:FE} (hg:zFm own g fg) {τ:Sv} {H:Hp} {Q:VK} (h:trE K (zCi isT own fi fg tc tk tv) τ H Q):zG5 isT own (trI K fi) g (trT K tc) (trD K (toD tk)) (trD K (toD tv)) τ H Q:=by
 obtain ⟨L,σ,M,d,Mf,c,rs,hf,q⟩:=h;unfold zCi at hf;split at hf
 ·rename_i xs gd M1 e1;split at hf
  ·rename_i M2 e2;cases hf;refine ⟨L,σ,M,_,_,_,c,rs,e1,fun L1 H1 J s1 c1 it p hp=>?_⟩;obtain ⟨c0,s0⟩:Cor K (L1++[p]) (M1++[zIn isT]) (upd H1 p (zFy isT))/\Stp L1 H1 (L1++[p]) (upd H1 p (zFy isT)):=by
    cases isT with
    |true=>exact c1.pushO (m:=.dicT []) hp ⟨[],zAh,rfl⟩
    |false=>exact c1.pushO (m:=.dict []) hp ⟨[],zAh,rfl⟩
   have lp0:(L1++[p])[M1.length]?=some p:=by rw[<-c1.len];simp
   refine ⟨fun i m H'=>m=xs.length-i/\i<=xs.length /\ ∃ L' M',Stp (L1++[p]) (upd H1 p (zFy isT)) L' H'/\Cor K L' M' H'/\zC6 fg tc tk tv (zBo own σ) M1.length xs gd (xs.drop i) M'=some Mf,
    ⟨xs.length,by simp,zXW _,_,_,.refl _ _,c0,by simpa using e2⟩,?_⟩
   rintro i m H' ⟨rfl,hi,L',M',s',c',e'⟩;have lp:L'[M1.length]?=some p:=by obtain ⟨N,hN⟩:=s'.pre;rw[hN];exact zCw lp0
   by_cases hlt:i<xs.length
   ·rw[zDL hlt]at e';unfold zC6 at e';split at e'
    ·rename_i hgd;obtain ⟨step,_⟩:=it L' H' M' (s0.trans s') c' hgd;obtain ⟨go,yl⟩:=step i xs[i] (zWo hlt);split at e'
     ·rename_i σ1 eg;refine .inr ⟨go,fun v H2 hy=>?_⟩;obtain ⟨gr,rv⟩:=yl v H2 hy;have s2:Stp (L1++[p]) (upd H1 p (zFy isT)) L' H2:=s'.yld gr;refine hg (zFg own (((rs.stp s1).stp s0).stp s2)) (.refl _) rv eg fun τ2 r2 x2=>⟨x2,?_⟩;split at e'
      ·rename_i M3 e3;split at e'
       ·rename_i kd M4 e4;split at e'
        ·rename_i vd M5 e5;split at e'
         ·rename_i M6 e6;refine ⟨L',σ1,M',_,_,c'.grow gr,r2,e3,fun L3 H3 s3 c3=>zHA ?_⟩;refine ⟨L3,σ1,M3,_,_,c3,r2.stp s3,e4,fun L4 H4 w s4 c4 r4=>?_⟩;refine ⟨L4,σ1,M4,_,_,c4,(r2.stp s3).stp s4,e5,fun L5 H5 u s5 c5 r5=>?_⟩;have st:Stp L' H' L5 H5:=(((Stp.grow gr).trans s3).trans s4).trans s5;have lp5:L5[M1.length]?=some p:=by obtain ⟨N,hN⟩:=st.pre;rw[hN];exact zCw lp
          obtain ⟨H6,h1,h2,h3⟩:=zLQ c5 lp5 (r4.stp s5) r5 e6;exact ⟨H6,xs.length-(i+1),h1,by omega,rfl,hlt,L5,M6,(s'.trans st).trans h3,h2,e'⟩
         ·cases e'
        ·cases e'
       ·cases e'
      ·rename_i M3 e3;refine ⟨L',σ1,M',_,_,c'.grow gr,r2,e3,fun L3 H3 s3 c3=>zHE ?_⟩;have st:Stp L' H' L3 H3:=(Stp.grow gr).trans s3;exact ⟨xs.length-(i+1),by omega,rfl,hlt,L3,M3,s'.trans st,c3,e'⟩
      ·cases e'
     ·cases e'
    ·cases e'
   ·have hi':i=xs.length:=by omega
    subst hi';rw[List.drop_length]at e';unfold zC6 at e';split at e'
    ·rename_i hgd;cases e';obtain ⟨_,stop⟩:=it L' H' _ (s0.trans s') c' hgd;refine .inl ⟨stop,?_⟩;refine q L' _ _ ((s1.trans s0).trans s') c' ?_;unfold zt Rep;exact ⟨p,rfl,lp⟩
    ·cases e'
  ·cases hf
 ·cases hf
section
variable {X:Cx} {scope:Scope} {tg kx vx iter:Expr} {ifs:List Expr} {pos:Pos} {own:List Nat} {isT:Bool}
theorem zOC {fi:FI} {g:TG} {fg:FG} {tc:FT} {tk tv:FE} (hu:X.A.units+1<cLine) (hg:zFm own g fg) (C:CompIn X scope own) (hcalm:X.calm=true) (hi:QI X tg iter fi) (p:QParts X scope tg ifs kx g tc tk) (p2:∀ zB cl s H fp,QE (zX X zB scope cl s H fp) vx tv) (hs:∀ x,foldedSetIterable iter X.env x=pure x:=by intro _;rfl) :
  QE X (.DictComp kx vx [⟨tg,iter,ifs,0⟩] scope pos) (zCi isT own fi fg tc tk tv) :=
 .mk <| PE.imp (zMk (isT:=isT) hu C hcalm hi.un p.parts (fun _ _ _ _ _=>(zI (p2 _ _ _ _ _)).un) hs) fun _ _ _ h=>zIi hg h
end
open Builtin
section
variable {X:Cx} {a b o e e2:Expr} {pos p apos cpos:Pos} {f g:FE}
def zLv:KB:=fun xs M=>match xs with
 |[.dat (.int i),.dat (.int j)]=>some (.dat (.int (if j>i then j else i)),M)
 |_=>none
def zMg:KB:=fun xs M=>match xs with
 |[.dat (.int i),.dat (.int j)]=>some (.dat (.int (if j<i then j else i)),M)
 |_=>none
theorem zHY (r:zDe H0 L H [.dat (.int i),.dat (.int j)] vs):vs=[.int i,.int j]:=by
 unfold zDe at r;obtain ⟨v,r1,rfl,a1,a2⟩:=r;unfold zDe at a2;obtain ⟨v2,r2,rfl,b1,b2⟩:=a2;unfold zDe at b2;subst b2;unfold zt Rep at a1 b1;subst a1 b1;rfl
theorem zQB {K:PySem.W.Frag}:zGN K (fun xs H Q=>∃ i j,xs=[.int i,.int j]/\Q (.int (if j>i then j else i)) H) zLv:=by
 intro L M M' H H0 xs d vs Q c r hk q;unfold zLv at hk;split at hk
 ·rename_i i j;cases hk;exact ⟨i,j,zHY r,q L H _ (.refl L H) c (zAs (L:=L) (H:=H))⟩
 ·cases hk
theorem zQG {K:PySem.W.Frag}:zGN K (fun xs H Q=>∃ i j,xs=[.int i,.int j]/\Q (.int (if j<i then j else i)) H) zMg:=by
 intro L M M' H H0 xs d vs Q c r hk q;unfold zMg at hk;split at hk
 ·rename_i i j;cases hk;exact ⟨i,j,zHY r,q L H _ (.refl L H) c (zAs (L:=L) (H:=H))⟩
 ·cases hk
theorem zUK (hcalm:X.calm=true) (hg:Gl X "max") (hm:X.mg "max" = none) (ha:QAE X [e,e2] fa) (he:starEach [e,e2] X.env=(false,eval e X.env)::starEach [e2] X.env:=by rfl) (hpl:(backTo pos (starEach [e2] X.env)).any (·.1)=false:=by rfl):QE X (.Call (.Name "max" p) [e,e2] [] pos) (fB zLv fa) :=
 zEY zQB (zPh hcalm) (by rfl) hg hm ha (by decide) (by decide) he hpl
theorem zU2 (hcalm:X.calm=true) (hg:Gl X "min") (hm:X.mg "min" = none) (ha:QAE X [e,e2] fa) (he:starEach [e,e2] X.env=(false,eval e X.env)::starEach [e2] X.env:=by rfl) (hpl:(backTo pos (starEach [e2] X.env)).any (·.1)=false:=by rfl):QE X (.Call (.Name "min" p) [e,e2] [] pos) (fB zMg fa) :=
 zEY zQG (zPU hcalm) (by rfl) hg hm ha (by decide) (by decide) he hpl
def zFa:KM:=fun x ds M=>match x,ds with
 |.dat (.ref n),[.ref m]=>match M[n]?,M[m]? with
  |some (.lst xs),some (.lst ys)=>if xs.length+ys.length<=sizeLine then some (.non,M.set n (.lst (xs++ys))) else none
  |_,_=>none
 |_,_=>none
theorem zND {K:PySem.W.Frag}:zP8 K zOA zFa:=by
 intro L M M' H H0 x ds d v vs Q c rx rd hk q;unfold zFa at hk;split at hk
 ·rename_i n m;split at hk
  ·rename_i xs ys e1 e1';split at hk
   ·rename_i hz;cases hk;unfold zt Rep at rx;obtain ⟨a,rfl,e2⟩:=rx;obtain ⟨ws,e3,r3⟩:=c.obj n a _ e2 e1;obtain ⟨w,rfl,r4⟩:=rd.one;unfold Rep at r4;obtain ⟨b,rfl,e4⟩:=r4;obtain ⟨zs,e5,r5⟩:=c.obj m b _ e4 e1';obtain ⟨c5,s5⟩:=c.write e2 e1 (r3.app r5);exact ⟨a,b,ws,zs,rfl,rfl,e3,e5,by rw[r3.length,r5.length];exact hz,q L _ _ s5 c5 (by unfold Rep;rfl)⟩
   ·cases hk
  ·cases hk
 ·cases hk
theorem zRZ (h:QE X a f) (hg:QA X [e] fg) (hbase:attributeBase a "extend" X.env (eval a X.env)=eval a X.env:=by rfl)
  (hfew:((backTo cpos (starEach [e] X.env)).all (fun x=> !x.1)&&(backToKw cpos (keywordEach [] X.env)).all (fun x=>x.1.isSome)&&decide ([e].length+([]:List Keyword).length+(if ([]:List Keyword).isEmpty then 0 else 1)<30))=true:=by rfl)
  (hline:(apos.endLine==cpos.line)=true:=by rfl) (hs:starEach [e] X.env=(false,eval e X.env)::starEach [] X.env:=by rfl) (hplain:(backTo cpos (starEach [] X.env)).any (·.1)=false:=by rfl) :
  QE X (.Call (.Attribute a "extend" apos) [e] [] cpos) (fM zFa f fg) :=
 .mk <| PE.imp (zOY PySem.F.plainAttrs_list PySem.F.slot_list_extend PySem.F.type_list_extend zOj h.un hg.un hbase hfew hline hs hplain) fun _ _ _ z=>zK3 zND z
end
end L3
namespace HT
open PySem PySem.Spec PyProof.Rows
end HT
namespace L3
open PySem PySem.Spec PyProof.Rows L2
section
variable {X:Cx} {e tg:Expr} {pos:Pos}
def zKy (fg:FG) (f:FE):FS:=fun σ M=>match toD f σ M with
 |some (d,M1)=>match fg d σ with
  |some σ1=>some (.nx,σ1,M1)
  |none=>none
 |none=>none
theorem zOT (hk:GOk g fg) (h:QE X e f) (hg:PG X tg g) (hs:swapsWithSole [tg] e pos.line X.env=pure false:=by rfl) (hw:swappedStores [tg] e X.env=pure none:=by rfl)
  (h1:(assignEach [tg] X.env).map (·.2)=[assign tg X.env]:=by rfl):QS X (.Assign [tg] e pos) (zKy fg f) :=
 .mk <| PS.imp (zRh h.un hg hs hw h1) fun E τ H zz=>by
  obtain ⟨L,σ,M,o,σ',M',c,rs,hf,q⟩:=zz;unfold zKy at hf;split at hf
  ·rename_i d M1 e1;split at hf
   ·rename_i σ1 e2;cases hf;refine zLo ⟨L,σ,M,_,_,c,rs,e1,fun L1 H1 v s1 c1 r1=>?_⟩;exact hk (rs.stp s1) r1 e2 fun τ' rs'=>q L1 H1 s1 c1 τ' rs'
   ·cases hf
  ·cases hf
variable {σ:Sd} {M:Mem} {P:Out->Sd->Mem->Prop} {fg:FG} {f:FE}
theorem zHv:OkS (zKy fg f σ M) P ↔ Ok (f σ M) (zH1 fun d M1=>∃ σ1,fg d σ=some σ1/\P .nx σ1 M1):=by
 rw[<-zBN];unfold zKy;constructor
 ·rintro ⟨o,σ',M',e,p⟩;split at e
  ·rename_i d M1 e1;split at e
   ·rename_i σ1 e2;cases e;exact ⟨d,_,e1,_,e2,p⟩
   ·cases e
  ·cases e
 ·rintro ⟨d,M1,e1,σ1,e2,p⟩;refine ⟨.nx,σ1,M1,?_,p⟩;rw[e1];dsimp only;rw[e2]
end
def SI (b:Bool) (h:Heap) (it t:Addr) (k:Nat):Prop:=if b then h.IsTupleIter it t k else h.IsListIter it t k
def SO (b:Bool) (h:Heap) (t:Addr) (xs:Array Value):Prop:=if b then h.IsTuple t xs else h.IsList t xs
abbrev itO (b:Bool) (t:Addr):Obj:={ cls:=.type (if b then "tuple_iterator" else "list_iterator"),data:=.fields #[.ref t,.int 0 0] }
theorem SO.keep (x:SO b h t xs) (e:∀ o,h.get? t=some o->h'.get? t=some o):SO b h' t xs:=by
 cases b with
 |true=>obtain ⟨o,q,r⟩:=(show h.IsTuple t xs from x);exact (show h'.IsTuple t xs from ⟨o,e o q,r⟩)
 |false=>obtain ⟨o,q,r⟩:=(show h.IsList t xs from x);exact (show h'.IsList t xs from ⟨o,e o q,r⟩)
section
variable {prog:Program} {w:World} {A:Around} {E:Value->Shared->Prop} {s:Shared}
theorem zTn (hl:SO b s.heap l items) (hQ:Q (.ref s.heap.objs.size) { s with heap:=s.heap.push (itO b l) }):wpAny (model prog w) A (pyIter (.ref l)) Q E s:=by
 cases b with
 |true=>exact wpAny_pyIter_tuple (show s.heap.IsTuple l items from hl) hQ
 |false=>exact wpAny_pyIter_list (show s.heap.IsList l items from hl) hQ
theorem zV7 (e:h.get? it=some (itO b t)):SI b h it t 0:=by
 cases b with
 |true=>exact (show h.IsTupleIter it t 0 from ⟨_,e,rfl,rfl⟩)
 |false=>exact (show h.IsListIter it t 0 from ⟨_,e,rfl,rfl⟩)
end
def SqG (K:PySem.W.Frag) (b:Bool) (H:Hp) (a:Addr) (xs:List V):Prop:=if b then SqT K H a xs else SqL K H a xs
theorem zUn (I:Inv X zB σ H s) (h:SqG X.K b H a xs):∃ its,zy xs its/\SO b s.heap a its.toArray:=by
 cases b with
 |true=>obtain ⟨its,rv,p1,_⟩:=I.tuple h;exact ⟨its,rv,p1⟩
 |false=>obtain ⟨its,rv,p1,_⟩:=I.list h;exact ⟨its,rv,p1.isList⟩
theorem zWQ (x:SO b h a its):a<h.objs.size:=by
 cases b with
 |true=>obtain ⟨_,e,_⟩:=(show h.IsTuple a its from x);exact zWv e
 |false=>obtain ⟨_,e,_⟩:=(show h.IsList a its from x);exact zWv e
section
variable {X:Cx} {a b:Expr} {es:List Expr} {ek:Nat} {ep p pos:Pos}
theorem zUt {K:PySem.W.Frag} {L1:List Addr} {M1:Mem} {H1:Hp} {x:D} {v:V} {xs:List D} (c1:Cor K L1 M1 H1) (r1:Rep L1 H1 x v) (e:zBJ M1 (.dat x)=some xs) :
  ∃ b l,v=.ref l/\(∃ vs,SqG K b H1 l vs) /\ ∀ L2 H2 M2,Stp L1 H1 L2 H2->Cor K L2 M2 H2->zBJ M2 (.dat x)=some xs -> ∃ vs',SqG K b H2 l vs'/\zh L2 H2 xs vs':=by
 have r1':zt H1 L1 H1 (.dat x) v:=r1;cases x with
 |tup ds=>
  cases e;obtain ⟨a,vs,rfl,e3,r3⟩:=zDC r1' (xs:=xs) rfl;exact ⟨true,a,rfl,⟨vs,(show SqT K H1 a vs from .of e3)⟩,fun L2 H2 M2 s2 c2 _=>⟨vs,(show SqT K H2 a vs from .of (s2.tup a vs e3)),r3.stp s2⟩⟩
 |ref n=>
  have e2:zB8 M1 (.dat (.ref n))=some xs:=e;obtain ⟨a,vs,rfl,e3,r3⟩:=zBy c1 r1' e2;refine ⟨false,a,rfl,⟨vs,(show SqL K H1 a vs from .inl e3)⟩,fun L2 H2 M2 s2 c2 hq=>?_⟩;unfold Rep at r1;obtain ⟨a',ha',e5⟩:=r1;cases ha';have e6:L2[n]?=some a:=by obtain ⟨N,hN⟩:=s2.pre;rw[hN];exact zCw e5
  have r2:zt H2 L2 H2 (.dat (.ref n)) (.ref a):=by unfold zt Rep;exact ⟨a,rfl,e6⟩
  obtain ⟨a2,vs',h2,e7,r7⟩:=zBy c2 r2 (show zB8 M2 (.dat (.ref n))=some xs from hq);cases h2;exact ⟨vs',(show SqL K H2 a vs' from .inl e7),r7⟩
 |_=>cases e
end
theorem zIH {ns:List Int} {its:List Value} (r:zy (ns.map V.int) its) {i:Nat} {v:Value} (h:its.toArray[i]?=some v):∃ t,v=.int (ns.getD i 0) t:=by
 have h':its[i]?=some v:=by simpa using h
 have hi:i<its.length:=(zWn.mp h').1;have hl:=r.length;rw[zWt]at hl;have hx:(ns.map V.int)[i]?=some (.int (ns.getD i 0)):=by
  rw[zW7,zWp,zWo (by omega)];rfl
 obtain ⟨u,hu,ru⟩:=r.get hx;rw[h']at hu;cases hu;obtain ⟨t,rfl⟩:=ru;exact ⟨t,rfl⟩
theorem zQ2 (hh:A.handled=none) (b:Bool) (I ax:Addr) (hne:ax≠I) (items:Array Value) :
  Walks prog w A I [I,ax] [I] items.size (fun i v=>items[i]?=some v) (fun i h=>SI b h I ax i/\SO b h ax items):=by
 cases b with
 |true=>exact Walks.tuple hh I ax hne items
 |false=>exact Walks.list hh I ax hne items
section
variable {X:Cx} {e:Expr} {pos p:Pos}
theorem zPK (gt:Bool) (hc:X.calm=true):zCX X (.builtin (if gt then "max" else "min")) (fun xs H Q=>∃ (b:Bool) (a:Addr) (ns:List Int) (m:Int),xs=[.ref a]/\SqG X.K b H a (ns.map V.int)/\m∈ns/\(∀ x∈ns,if gt then x<=m else m<=x)/\Q (.int m) H):=by
 intro zB s σ H xs us Q I r h;obtain ⟨b,a,ns,m,rfl,hs,hm,hb,q⟩:=h;obtain ⟨u,rfl,ru⟩:=zD8 r;cases ru;obtain ⟨its,rv,p1⟩:=zUn I hs;have hl:its.toArray.size=ns.length:=by have:=rv.length;simp at this ⊢;omega
 have hpos:0<ns.length:=List.length_pos_of_mem hm;have hlt:=zWQ p1;have hfp:∀ c∈[s.heap.objs.size,a],c<(s.heap.push (itO b a)).objs.size:=fun c hc'=>by
  rw[zXQ];simp only[zWw,zXF,zX5]at hc';rcases hc' with rfl|rfl
  ·exact zXh _
  ·exact zXZ hlt
 have st:SI b (s.heap.push (itO b a)) s.heap.objs.size a 0/\SO b (s.heap.push (itO b a)) a its.toArray:=⟨zV7 (zWu _ rfl),p1.keep fun o e=>zWl _ e⟩;have kp:∀ h':Heap,(∀ c o,c∉[s.heap.objs.size]->(s.heap.push (itO b a)).get? c=some o->h'.get? c=some o) -> ∀ c o,s.heap.get? c=some o->h'.get? c=some o:=fun h' hk c o e0=>
  hk c o (by simp only[zWw,zXF,zX5];exact zW5 (zWv e0)) (zWl _ e0)
 have fin:∀ (i:Nat) (v:Value) (h':Heap) (tk:Nat),its.toArray[i]?=some v->ns.getD i 0=m->(∀ c o,s.heap.get? c=some o->h'.get? c=some o)->EP X zB σ Q v { s with heap:=h',toks:=tk }:=fun i v h' tk hv hi hk=>by
  obtain ⟨t,rfl⟩:=zIH rv hv;rw[hi];exact ⟨.int m,H,I.kept hk,⟨t,rfl⟩,q⟩
 cases gt with
 |true=>
  refine call_max_walk (zTn p1 ⟨s.heap.objs.size,[s.heap.objs.size,a],[s.heap.objs.size],its.toArray.size,fun i v=>its.toArray[i]?=some v,fun i h=>SI b h s.heap.objs.size a i/\SO b h a its.toArray,_,rfl,zQ2 (A:=X.A.in1) (I.ok.hd hc) b _ a (zW5 hlt) its.toArray,st,hfp,by omega,CmpOf.ints_gt (fun i=>ns.getD i 0) (fun _ _ hv=>zIH rv hv),fun v h' tk hP hk=>?_⟩);refine fin _ v h' tk hP ?_ (kp h' hk);obtain ⟨h1,h2⟩:=argBest_gt (fun i=>ns.getD i 0) (its.toArray.size-1);rw[hl]at h1 h2 ⊢;generalize argBest _ (ns.length-1)=q at h1 h2 ⊢;obtain ⟨j,hj,ej⟩:=List.mem_iff_getElem.mp hm;have h3:=h2 j (by omega);have e3:ns.getD j 0=m:=by rw[zWp,zWo hj];exact ej
  have hq:q<ns.length:=by omega
  have h4:ns.getD q 0<=m:=by
   have:=hb (ns.getD q 0) (by rw[zWp,zWo hq];exact zXI hq);simpa using this
  rw[e3]at h3;omega
 |false=>
  refine call_min_walk (zTn p1 ⟨s.heap.objs.size,[s.heap.objs.size,a],[s.heap.objs.size],its.toArray.size,fun i v=>its.toArray[i]?=some v,fun i h=>SI b h s.heap.objs.size a i/\SO b h a its.toArray,_,rfl,zQ2 (A:=X.A.in1) (I.ok.hd hc) b _ a (zW5 hlt) its.toArray,st,hfp,by omega,CmpOf.ints_lt (fun i=>ns.getD i 0) (fun _ _ hv=>zIH rv hv),fun v h' tk hP hk=>?_⟩);refine fin _ v h' tk hP ?_ (kp h' hk);obtain ⟨h1,h2⟩:=argBest_lt (fun i=>ns.getD i 0) (its.toArray.size-1);rw[hl]at h1 h2 ⊢;generalize argBest _ (ns.length-1)=q at h1 h2 ⊢;obtain ⟨j,hj,ej⟩:=List.mem_iff_getElem.mp hm;have h3:=h2 j (by omega);have e3:ns.getD j 0=m:=by rw[zWp,zWo hj];exact ej
  have hq:q<ns.length:=by omega
  have h4:m<=ns.getD q 0:=by
   have:=hb (ns.getD q 0) (by rw[zWp,zWo hq];exact zXI hq);simpa using this
  rw[e3]at h3;omega
def zEH (gt:Bool):Int->List Int->Int
 |m,[]=>m
 |m,x::r=>zEH gt (if (if gt then m<x else x<m) then x else m) r
theorem zEV (gt:Bool):∀ (r:List Int) (m:Int),zEH gt m r∈m::r /\ ∀ x∈m::r,if gt then x<=zEH gt m r else zEH gt m r<=x
 |[],m=>by
  refine ⟨by simp[zEH],fun x hx=>?_⟩;have:x=m:=by simpa using hx
  subst this;cases gt <;> simp[zEH]
 |y::r,m=>by
  unfold zEH;obtain ⟨h1,h2⟩:=zEV gt r (if (if gt then m<y else y<m) then y else m);generalize hb:zEH gt (if (if gt then m<y else y<m) then y else m) r=B at h1 h2;constructor
  ·rcases zWw.mp h1 with q|q
   ·rw[q];by_cases hc:(if gt=true then m<y else y<m)
    ·rw[zWz hc];simp
    ·rw[zW2 hc];simp
   ·simp[q]
  ·intro x hx;have h0:=h2 _ zWy;rcases zWw.mp hx with q|q
   ·subst q;cases gt with
    |true=>simp at h0 ⊢;split at h0 <;> omega
    |false=>simp at h0 ⊢;split at h0 <;> omega
   ·rcases zWw.mp q with z|z
    ·subst z;cases gt with
     |true=>simp at h0 ⊢;split at h0 <;> omega
     |false=>simp at h0 ⊢;split at h0 <;> omega
    ·exact h2 x (zWx _ z)
def zIp (gt:Bool):KB:=fun xs M=>match xs with
 |[.dat d]=>match zBJ M (.dat d) with
  |some ds=>match zBa ds with
   |some (n::ns)=>some (.dat (.int (zEH gt n ns)),M)
   |_=>none
  |none=>none
 |[.fl ds]=>match zBa ds with
  |some (n::ns)=>some (.dat (.int (zEH gt n ns)),M)
  |_=>none
 |_=>none
theorem zR9 {K:PySem.W.Frag} {gt:Bool}:zGN K (fun xs H Q=>∃ (b:Bool) (a:Addr) (ns:List Int) (m:Int),xs=[.ref a]/\SqG K b H a (ns.map V.int)/\m∈ns/\(∀ x∈ns,if gt then x<=m else m<=x)/\Q (.int m) H) (zIp gt):=by
 intro L M M' H H0 xs d vs Q c r hk q;unfold zIp at hk;split at hk
 ·rename_i d0;split at hk
  ·rename_i ds e1;split at hk
   ·rename_i n ns e2;cases hk;obtain ⟨v,rfl,r1⟩:=r.one;have r1':Rep L H d0 v:=r1;obtain ⟨b,l,rfl,_,key⟩:=zUt c r1' e1;obtain ⟨vs',hq,rr⟩:=key L H M (.refl L H) c e1;have ev:=zGH e2 rr;subst ev;obtain ⟨h1,h2⟩:=zEV gt ns n;exact ⟨b,l,n::ns,zEH gt n ns,rfl,hq,h1,h2,q L H _ (.refl L H) c (zAs (L:=L) (H:=H))⟩
   ·cases hk
  ·cases hk
 ·rename_i ds;split at hk
  ·rename_i n ns e2;cases hk;obtain ⟨v,rfl,r1⟩:=r.one;obtain ⟨l,vs',rfl,hq,rr⟩:=zBy c r1 (show zB8 M (.fl ds)=some ds from rfl);have ev:=zGH e2 rr;subst ev;obtain ⟨h1,h2⟩:=zEV gt ns n;exact ⟨false,l,n::ns,zEH gt n ns,rfl,.inl hq,h1,h2,q L H _ (.refl L H) c (zAs (L:=L) (H:=H))⟩
  ·cases hk
 ·cases hk
theorem zVG (hcalm:X.calm=true) (hg:Gl X "min") (hm:X.mg "min" = none) (ha:QAE X [e] fa) (he:starEach [e] X.env=(false,eval e X.env)::starEach [] X.env:=by rfl) (hpl:(backTo pos (starEach [] X.env)).any (·.1)=false:=by rfl):QE X (.Call (.Name "min" p) [e] [] pos) (fB (zIp false) fa) :=
 zEY zR9 (zPK false hcalm) (by rfl) hg hm ha (by decide) (by decide) he hpl
end
section
variable {X:Cx} {a e e2 o:Expr} {pos p apos cpos:Pos} {f:FE}
def zOk (f:FE):FT:=fun σ M=>match f σ M with
 |some (x,M1)=>match zBJ M1 x with
  |some xs=>some (!xs.isEmpty,M1)
  |none=>none
 |none=>none
theorem zS9 (h:QE X a f) (he:∀ whole,isTrue a X.env whole=(do let v <- whole;standAt a.pos;holding [v] (truthy v)):=by intro _;rfl):QT X a (zOk f) :=
 .mk <| PT.imp (zRG h.un he) fun τ H Q zz=>by
  obtain ⟨L,σ,M,d,M',c,rs,hf,q⟩:=zz;unfold zOk at hf;split at hf
  ·rename_i x M1 e1;split at hf
   ·rename_i xs e2;cases hf;refine ⟨L,σ,M,_,_,c,rs,e1,fun L1 H1 v s1 c1 r1=>⟨!xs.isEmpty,?_,q L1 H1 s1 c1⟩⟩;unfold zBJ at e2;have emp:∀ {vs:List V},zh L1 H1 xs vs->(!xs.isEmpty) = !vs.isEmpty:=fun {vs} r=>by
     have:=r.length;cases xs <;> cases vs <;> first|rfl|simp at this
    cases t:zDg x with
    |some ws=>
     rw[t]at e2;cases e2;obtain ⟨l,vs,rfl,e3,r3⟩:=zDC r1 t;exact .inr (.inl ⟨vs,.of e3,emp r3⟩)
    |none=>
     rw[t]at e2;dsimp only at e2;obtain ⟨l,vs,rfl,e3,r3⟩:=zBy c1 r1 e2;exact .inl ⟨vs,.inl e3,emp r3⟩
   ·cases hf
  ·cases hf
def zIP (i j k:Nat):FG:=fun d σ=>match d with
 |.tup [x,y,z]=>some (((σ.set i (some x)).set j (some y)).set k (some z))
 |_=>none
abbrev gP3 (K:PySem.W.Frag) (i j k:Nat):TG:=zQb K 3 (zFr (zCe i) (zFr (zCe j) (zFr (zCe k) zRr)))
theorem zTe (r:zh L H [x,y,z] vs):∃ v1 v2 v3,vs=[v1,v2,v3]/\Rep L H x v1/\Rep L H y v2/\Rep L H z v3:=by
 unfold zh at r;obtain ⟨v1,r',rfl,h1,r⟩:=r;obtain ⟨v2,v3,rfl,h2,h3⟩:=r.two;exact ⟨v1,v2,v3,rfl,h1,h2,h3⟩
theorem zKp {K:PySem.W.Frag} {i j k:Nat}:GOk (gP3 K i j k) (zIP i j k):=by
 intro L H σ σ' τ d v Q rs r hf q;unfold zIP at hf;split at hf
 ·rename_i x y z;cases hf;unfold Rep at r;obtain ⟨a,vs,rfl,e,r⟩:=r;obtain ⟨v1,v2,v3,rfl,r1,r2,r3⟩:=zTe r;exact ⟨a,_,rfl,.of e,rfl,v1,[v2,v3],rfl,v2,[v3],rfl,v3,[],rfl,rfl,q _ (((rs.set r1).set r2).set r3)⟩
 ·cases hf
theorem zQ9 {K:PySem.W.Frag} {own:List Nat} {i j k:Nat} (hi:i∈own) (hj:j∈own) (hk:k∈own):zFm own (gP3 K i j k) (zIP i j k):=by
 intro L H σ σ' τ τ0 d v Q rs ex r hf q;unfold zIP at hf;split at hf
 ·rename_i x y z;cases hf;unfold Rep at r;obtain ⟨a,vs,rfl,e,r⟩:=r;obtain ⟨v1,v2,v3,rfl,r1,r2,r3⟩:=zTe r;exact ⟨a,_,rfl,.of e,rfl,v1,[v2,v3],rfl,v2,[v3],rfl,v3,[],rfl,rfl,q _ (((rs.set r1).set r2).set r3) (((ex.set hi).set hj).set hk)⟩
 ·cases hf
end
section
variable {prog:Program} {w:World} {A:Around} {E:Value->Shared->Prop} {s:Shared}
theorem zR2 {its:List Value} {i:Int} (e:s.heap.get? l=some { cls:=.type "list", data:=.seq its.toArray n }) (hfit:¬ (!Builtin.List.listFitsIndex i)=true) (h0:¬ (i<0)) (hz:its.toArray.size<=sizeLine)
  (h:∀ g:Array Value->Array Value,g its.toArray=(its.take (min i.toNat its.length)++[u2]++its.drop (min i.toNat its.length)).toArray->Q .none { s with heap:=s.heap.update l (Obj.mapSeq g),toks:=s.toks }) :
  wpAny (model prog w) A (call (.builtin "list.insert") [.ref l,.int i t,u2]) Q E s:=by
 have hm:=@AutoSeq1.list_insert_list_int_val_1 l its.toArray n i t u2 hfit hz;have h1:s.TypeIs (.ref l) "list" := ⟨_,e,rfl⟩;refine call_meets (B:=Builtin.«list.insert») (self:=.ref l) (rest:=[.int i t,u2]) F.slot_list_insert h1 F.entry_list_insert (F.args_list_insert_3 _ _ _) hm ⟨e,?_⟩;refine h _ ?_;simp only[h0,if_false,zWs];simp;exact List.take_of_length_le (by simp)
end
section
variable {X:Cx} {a o x1 x2:Expr} {pos p apos cpos:Pos} {f:FE}
def zOV:V->List V->Hp->VK->Prop:=fun x vs H Q=>∃ (l:Addr) (i:Int) (y:V) (xs:List V),x=.ref l/\vs=[.int i,y]/\H l=some (.lst xs)/\0<=i/\i.toNat<=xs.length/\xs.length<sizeLine/\Q .non (upd H l (.lst (xs.take i.toNat++[y]++xs.drop i.toNat)))
theorem zPs:MtM X "list.insert" zOV:=by
 intro zB s σ H x vs v us Q I rx rv h;obtain ⟨l,i,y,xs,rfl,rfl,hH,h0,hi,hz,q⟩:=h;cases rx;obtain ⟨u,u2,rfl,⟨t,rfl⟩,ru2⟩:=rv.two;obtain ⟨z,its,n,r,hl,e⟩:=I.lstM hH;have hs:(sizeLine:Nat)<2 ^ 62:=by decide
 have hi1 : -(2 ^ 63)<=i:=by omega
 have hi2:i<2 ^ 63:=by omega
 refine zR2 (its:=its) e (by rw[fitsIndex_both hi1 hi2];exact zW6) (by omega) (by rw[zWs,<-hl];exact Nat.le_of_lt hz) fun g hg=>?_;rw[Nat.min_eq_left (by omega)]at hg;exact ⟨.non,_,I.lset (its':=its.take i.toNat++[u2]++its.drop i.toNat) (ys:=xs.take i.toNat++[y]++xs.drop i.toNat) hH e hg (((r.take i.toNat).append (.cons ru2 .nil)).append (r.drop i.toNat)) (by simp;omega),rfl,q⟩
def zDq:KM:=fun x ds M=>match x,ds with
 |.dat (.ref n),[.int i,d]=>match M[n]? with
  |some (.lst xs)=>if 0<=i/\i.toNat<=xs.length/\xs.length<sizeLine then some (.non,M.set n (.lst (xs.take i.toNat++[d]++xs.drop i.toNat))) else none
  |_=>none
 |_,_=>none
theorem zJm:∀ (k:Nat) {ds:List D} {vs:List V},zh L H ds vs->zh L H (ds.take k) (vs.take k)
 |0,_,_,_=> .nil
 |k+1,[],vs,h=>by unfold zh at h;subst h;exact .nil
 |k+1,d::ds,vs,h=>by
  unfold zh at h;obtain ⟨v,r,rfl,h1,h2⟩:=h;exact .cons h1 (zJm k h2)
theorem zJf:∀ (k:Nat) {ds:List D} {vs:List V},zh L H ds vs->zh L H (ds.drop k) (vs.drop k)
 |0,_,_,h=>h
 |k+1,[],vs,h=>by unfold zh at h;subst h;exact .nil
 |k+1,d::ds,vs,h=>by
  unfold zh at h;obtain ⟨v,r,rfl,h1,h2⟩:=h;exact zJf k h2
theorem zNE {K:PySem.W.Frag}:zP8 K zOV zDq:=by
 intro L M M' H H0 x ds d v vs Q c rx rd hk q;unfold zDq at hk;split at hk
 ·rename_i n i d';split at hk
  ·rename_i xs e1;split at hk
   ·rename_i hz;cases hk;unfold zt Rep at rx;obtain ⟨a,rfl,e2⟩:=rx;obtain ⟨ws,e3,r3⟩:=c.obj n a _ e2 e1;obtain ⟨w1,w2,rfl,r4,r5⟩:=rd.two;have hw:w1=.int i:=by unfold Rep at r4;exact r4
    subst hw;obtain ⟨c5,s5⟩:=c.write e2 e1 (((zJm i.toNat r3).app (.cons r5 .nil)).app (zJf i.toNat r3));exact ⟨a,i,w2,ws,rfl,rfl,e3,hz.1,by rw[r3.length];exact hz.2.1,by rw[r3.length];exact hz.2.2,q L _ _ s5 c5 (by unfold Rep;rfl)⟩
   ·cases hk
  ·cases hk
 ·cases hk
theorem zLS (h:QE X a f) (hg:QA X [x1,x2] fg) (hbase:attributeBase a "insert" X.env (eval a X.env)=eval a X.env:=by rfl)
  (hfew:((backTo cpos (starEach [x1,x2] X.env)).all (fun x=> !x.1)&&(backToKw cpos (keywordEach [] X.env)).all (fun x=>x.1.isSome)&&decide ([x1,x2].length+([]:List Keyword).length+(if ([]:List Keyword).isEmpty then 0 else 1)<30))=true:=by rfl)
  (hline:(apos.endLine==cpos.line)=true:=by rfl) (hs:starEach [x1,x2] X.env=(false,eval x1 X.env)::starEach [x2] X.env:=by rfl) (hplain:(backTo cpos (starEach [x2] X.env)).any (·.1)=false:=by rfl) :
  QE X (.Call (.Attribute a "insert" apos) [x1,x2] [] cpos) (fM zDq f fg) :=
 .mk <| PE.imp (zOY PySem.F.plainAttrs_list PySem.F.slot_list_insert PySem.F.type_list_insert zPs h.un hg.un hbase hfew hline hs hplain) fun _ _ _ z=>zK3 zNE z
end
def zLD (fg:FG) (tc:FT) (fi2:FI) (own2:List Nat) (fg2:FG) (tc2:FT) (te:FE) (σ:Sd) (all:List D) (gd:Option (Mem->Prop)):List D->List D->Mem->Option (List D × Mem)
 |[],acc,M=>open Classical in if zBd gd all M then some (acc,M) else none
 |x::r,acc,M=>open Classical in if zBd gd all M then match fg x σ with
   |some σ1=>match tc σ1 M with
    |some (true,M1)=>match fi2 σ1 M1 with
     |some (ys,gd2,M2)=>if acc.length+ys.length<=sizeLine then match zBf fg2 tc2 te (zBo own2 σ1) ys gd2 ys M2 with
       |some (ds,M3)=>zLD fg tc fi2 own2 fg2 tc2 te σ all gd r (acc++ds) M3
       |none=>none
      else none
     |none=>none
    |some (false,M1)=>zLD fg tc fi2 own2 fg2 tc2 te σ all gd r acc M1
    |none=>none
   |none=>none
  else none
def zHN (own own2:List Nat) (fi:FI) (fg:FG) (tc:FT) (fi2:FI) (fg2:FG) (tc2:FT) (te:FE):FE:=fun σ M=>match fi σ M with
 |some (xs,gd,M1)=>match zLD fg tc fi2 own2 fg2 tc2 te (zBo own σ) xs gd xs [] M1 with
  |some (ys,M2)=>some (.fl ys,M2)
  |none=>none
 |none=>none
theorem zNn {K:PySem.W.Frag} {own own2:List Nat} {fi fi2:FI} {g g2:TG} {fg fg2:FG} {tc tc2:FT} {te:FE} (hg:zFm own g fg) (hg2:zFm own2 g2 fg2) {τ:Sv} {H:Hp} {Q:VK} (h:trE K (zHN own own2 fi fg tc fi2 fg2 tc2 te) τ H Q) :
  zQn own own2 (trI K fi) g (trT K tc) (trI K fi2) g2 (trT K tc2) (trD K (toD te)) τ H Q:=by
 obtain ⟨L,σ,M,d,Mf,c,rs,hf,q⟩:=h;unfold zHN at hf;split at hf
 ·rename_i xs gd M1 e1;split at hf
  ·rename_i zs M2 e2;cases hf;refine ⟨L,σ,M,_,_,_,c,rs,e1,fun L1 H1 J s1 c1 it=>?_⟩
   refine ⟨fun i m ys H'=>m=xs.length-i/\i<=xs.length /\ ∃ L' M' as,Stp L1 H1 L' H'/\Cor K L' M' H'/\zh L' H' as ys/\as.length<=sizeLine/\zLD fg tc fi2 own2 fg2 tc2 te (zBo own σ) xs gd (xs.drop i) as M'=some (zs,Mf),
    ⟨xs.length,by simp,zXW _,L1,M1,[],.refl _ _,c1,.nil,zXW _,by simpa using e2⟩,?_⟩
   rintro i m ys H' ⟨rfl,hi,L',M',as,s',c',r',hl,e'⟩;by_cases hlt:i<xs.length
   ·rw[zDL hlt]at e';unfold zLD at e';split at e'
    ·rename_i hgd;obtain ⟨step,_⟩:=it L' H' M' s' c' hgd;obtain ⟨go,yl⟩:=step i xs[i] (zWo hlt);split at e'
     ·rename_i σ1 eg;refine .inr ⟨go,fun v H2 hy=>?_⟩;obtain ⟨gr,rv⟩:=yl v H2 hy;have s2:Stp L1 H1 L' H2:=s'.yld gr;refine hg (zFg own ((rs.stp s1).stp s2)) (.refl _) rv eg fun τ2 r2 x2=>⟨x2,?_⟩;split at e'
      ·rename_i M3 e3;split at e'
       ·rename_i ys2 gd2 M4 e4;split at e'
        ·rename_i hz2;split at e'
         ·rename_i ds M5 e5;refine ⟨L',σ1,M',_,_,c'.grow gr,r2,e3,fun L3 H3 s3 c3=>zHA ?_⟩;have st3:Stp L' H' L3 H3:=(Stp.grow gr).trans s3;refine ⟨L3,σ1,M3,_,_,_,c3,r2.stp s3,e4,fun L4 H4 J2 s4 c4 it2=>?_⟩
          refine ⟨fun j m2 ws H5=>m2=ys2.length-j/\j<=ys2.length /\ ∃ L5 M6 bs cs,Stp L4 H4 L5 H5/\Cor K L5 M6 H5/\zh L5 H5 (as++bs) ws/\bs.length<=j/\zBf fg2 tc2 te (zBo own2 σ1) ys2 gd2 (ys2.drop j) M6=some (cs,M5)/\bs++cs=ds,
           ⟨ys2.length,by simp,zXW _,L4,M4,[],ds,.refl _ _,c4,by simpa using (r'.stp st3).stp s4,zWq _,by simpa using e5,rfl⟩,?_⟩
          rintro j m2 ws H5 ⟨rfl,hj,L5,M6,bs,cs,s5,c5,r5,hbl,e6,hbc⟩;have hws:ws.length<=as.length+j:=by rw[r5.length,zW0];omega
          by_cases hlt2:j<ys2.length
          ·rw[zDL hlt2]at e6;unfold zBf at e6;split at e6
           ·rename_i hgd2;obtain ⟨step2,_⟩:=it2 L5 H5 M6 s5 c5 hgd2;obtain ⟨go2,yl2⟩:=step2 j ys2[j] (zWo hlt2);split at e6
            ·rename_i σ2 eg2;refine .inr ⟨go2,fun v2 H6 hy2=>?_⟩;obtain ⟨gr2,rv2⟩:=yl2 v2 H6 hy2;have s6:Stp L4 H4 L5 H6:=s5.yld gr2;refine hg2 (zFg own2 (((r2.stp s3).stp s4).stp s6)) (.refl _) rv2 eg2 fun τ3 r3 x3=>⟨x3,?_⟩;split at e6
             ·rename_i M7 e7;split at e6
              ·rename_i d M8 e8;split at e6
               ·rename_i ds' M9 e9;cases e6;refine ⟨L5,σ2,M6,_,_,c5.grow gr2,r3,e7,fun L7 H7 s7 c7=>zHA ?_⟩;refine ⟨L7,σ2,M7,_,_,c7,r3.stp s7,e8,fun L8 H8 w s8 c8 r8=>?_⟩;have st:Stp L5 H5 L8 H8:=((Stp.grow gr2).trans s7).trans s8;refine ⟨by omega,ys2.length-(j+1),by omega,rfl,hlt2,L8,M8,bs++[d],ds',s5.trans st,c8,?_,by simp;omega,e9,by rw[<-hbc];simp⟩;have:=(r5.stp st).app (.cons r8 .nil);simpa using this
               ·cases e6
              ·cases e6
             ·rename_i M7 e7;refine ⟨L5,σ2,M6,_,_,c5.grow gr2,r3,e7,fun L7 H7 s7 c7=>zHE ?_⟩;have st:Stp L5 H5 L7 H7:=(Stp.grow gr2).trans s7;exact ⟨ys2.length-(j+1),by omega,rfl,hlt2,L7,M7,bs,cs,s5.trans st,c7,r5.stp st,by omega,e6,hbc⟩
             ·cases e6
            ·cases e6
           ·cases e6
          ·have hj':j=ys2.length:=by omega
           subst hj';rw[List.drop_length]at e6;unfold zBf at e6;split at e6
           ·rename_i hgd2;cases e6;obtain ⟨_,stop2⟩:=it2 L5 H5 _ s5 c5 hgd2;rw[zXU]at hbc;subst hbc;refine .inl ⟨stop2,xs.length-(i+1),by omega,rfl,hlt,L5,M5,as++bs,s'.trans ((st3.trans s4).trans s5),c5,r5,by rw[zW0];omega,e'⟩
           ·cases e6
         ·cases e'
        ·cases e'
       ·cases e'
      ·rename_i M3 e3;refine ⟨L',σ1,M',_,_,c'.grow gr,r2,e3,fun L3 H3 s3 c3=>zHE ?_⟩;have st:Stp L' H' L3 H3:=(Stp.grow gr).trans s3;exact ⟨xs.length-(i+1),by omega,rfl,hlt,L3,M3,as,s'.trans st,c3,r'.stp st,hl,e'⟩
      ·cases e'
     ·cases e'
    ·cases e'
   ·have hi':i=xs.length:=by omega
    subst hi';rw[List.drop_length]at e';unfold zLD at e';split at e'
    ·rename_i hgd;cases e';obtain ⟨_,stop⟩:=it L' H' _ s' c' hgd;refine .inl ⟨stop,by rw[r'.length];exact hl,fun p hp=>?_⟩;exact q L' _ _ ((s1.trans s').trans (.upd hp)) (c'.upd hp) (zt.newLst (s1.trans s') c c' hp r')
    ·cases e'
  ·cases hf
 ·cases hf
section
variable {X:Cx} {scope:Scope} {elt t1 i1 t2 i2:Expr} {f1 f2:List Expr} {pos:Pos}
structure QParts2 (X:Cx) (scope:Scope) (t1:Expr) (f1:List Expr) (t2 i2:Expr) (f2:List Expr) (elt:Expr) (g:TG) (tc:FT) (fi2:FI) (g2:TG) (tc2:FT) (te:FE):Prop where
 g:∀ zB cl s H fp,PG (zX X zB scope cl s H fp) t1 g
 c:∀ zB cl s H fp,QIfs (zX X zB scope cl s H fp) f1 tc
 w2:∀ zB cl s H fp,QI (zX X zB scope cl s H fp) t2 i2 fi2
 g2:∀ zB cl s H fp,PG (zX X zB scope cl s H fp) t2 g2
 c2:∀ zB cl s H fp,QIfs (zX X zB scope cl s H fp) f2 tc2
 e:∀ zB cl s H fp,QE (zX X zB scope cl s H fp) elt te
 s2:∀ zB cl s H fp x,foldedSetIterable i2 (zX X zB scope cl s H fp).env x=pure x
theorem zTF {own own2:List Nat} {fi fi2:FI} {g g2:TG} {fg fg2:FG} {tc tc2:FT} {te:FE} (hsub:∀ i∈own2,i∈own) (hg:zFm own g fg) (hg2:zFm own2 g2 fg2) (C:CompIn X scope own) (hcalm:X.calm=true) (hi:QI X t1 i1 fi) (p:QParts2 X scope t1 f1 t2 i2 f2 elt g tc fi2 g2 tc2 te) (hs:∀ x,foldedSetIterable i1 X.env x=pure x:=by intro _;rfl) :
  QE X (zCM elt t1 i1 f1 t2 i2 f2 scope pos) (zHN own own2 fi fg tc fi2 fg2 tc2 te) :=
 .mk <| PE.imp (zRT hsub C hcalm hi.un ⟨p.g,fun zB cl s H fp=>(p.c zB cl s H fp).un,fun zB cl s H fp=>(p.w2 zB cl s H fp).un,p.g2,fun zB cl s H fp=>(p.c2 zB cl s H fp).un,fun zB cl s H fp=>(zI (p.e zB cl s H fp)).un,p.s2⟩ hs) fun _ _ _ h=>zNn hg hg2 h
end
end L3
namespace L2
open PySem PySem.Spec PyProof.Rows
section
variable {X:Cx} {scope:Scope} {tg kx vx iter:Expr} {ifs:List Expr} {pos:Pos} {own:List Nat} {isT:Bool} {wi:TI} {g:TG} {tc:TT} {tk tv:TE}
theorem zJB (hN:X.N.Nodup) (hi':X.N[i]?=some x) (hx:Loc X.env.scope x) (hfn:X.fn x=true\/X.env.scope.names.lookup x=some .local)
  (hsw:swapsWith (.DictComp kx vx [⟨tg,iter,ifs,0⟩] scope pos) (some (.Name x pos')) pos''.line X.env=pure true)
  (hu:X.A.units+1<cLine) (C:CompIn X scope own) (hcalm:X.calm=true) (hi:PI X tg iter wi) (p:CompParts X scope tg ifs kx g tc tk) (p2:∀ zB cl s H fp,PE (zX X zB scope cl s H fp) vx tv) (hs:∀ x,foldedSetIterable iter X.env x=pure x:=by intro _;rfl) :
  PS X (.Assign [.Name x pos'] (.DictComp kx vx [⟨tg,iter,ifs,0⟩] scope pos) pos'') (zQE (zG5 isT own wi g tc tk tv) (zCe i)):=by
 intro zB s σ H D I h;obtain ⟨cl,hcl,c1,c2⟩:=C.sc.closure I;rw[exec_Assign_Name_used _ _ _ _ hsw];refine zWk (zXi (zWk ?_));show wpAny _ X.A (do let _ <- comprehension (.DictComp kx vx [⟨tg,iter,ifs,0⟩] scope pos) scope X.env _ newDict false (eval iter X.env) (some (assign (.Name x pos') X.env))) _ _ s
 refine zWk (zXG (zYe (use:=some (assign (.Name x pos') X.env)) (Q:=fun _ s'=>SP X zB D .next s') rfl hs hcl C.sc.kind C.sc.names
  (thn (hi zB s σ H _ I h) fun v s1 h1=>thn h1 fun itv s2 h2=>?_)) (fun _ s' hq=>zWm (zWm hq)) fun _ _ e=>e)
 obtain ⟨it,fp,tn,J,H2,e,I2,T,st2,f2,hD⟩:=h2;subst e;obtain ⟨W,⟨m0,w0⟩,turn⟩:=hD s2.heap.objs.size (I2.hok.fresh (zWq _))
 refine zEl hu C hcalm I2 T st2 f2 c1 c2 (p.g _ _ _ _ _) (p.c _ _ _ _ _) (p.e _ _ _ _ _) (p2 _ _ _ _ _) (RR:=fun acc C r s'=>compPost (model X.prog X.w) X.A X.xe (some (assign (.Name x pos') X.env)) (fun _ s'=>SP X zB D .next s') acc C r s')
  (QQ:=fun H=>zCe i (.ref s2.heap.objs.size) σ H D.nx) w0 turn ?_
 intro σc H' s' Ic qq;obtain ⟨m,hn,_⟩:=Ic.loc;have J':=zFt (h':=s'.heap) I2 f2 Ic (.refl ..);obtain ⟨oC,es,ep,hoC,hdC,r1,r2⟩:=id hn;have nC:H' (s2.heap.objs.size+1)=none:=Ic.free;have K':Inv X (zB++[(s2.heap.objs.size+1,oC)]) σ H' s':=J'.pins_of fun q hq=>by
  rcases zXA.mp hq with z|z
  ·exact J'.pin q (zW4 _ z)
  ·have e:q=(s2.heap.objs.size+1,oC):=by simpa using z
   subst e;refine ⟨hoC,nC,zYF (zXZ I2.lt),I2.nofs (zYS _),fun v z=>?_⟩;have z':oC.data=.cell v:=z;rw[hdC]at z';cases z'
 show wpAny _ X.A (assign (.Name x pos') X.env (.ref s2.heap.objs.size)) _ _ _;refine thn (zKB hN hi' hx hfn _ s' σ _ (.ref s2.heap.objs.size) (.ref s2.heap.objs.size) _ K' rfl qq) fun _ s'' ⟨σ'',H'',I'',q''⟩=>?_;obtain ⟨eC,_⟩:=I''.pin (s2.heap.objs.size+1,oC) (by simp);refine ⟨m,⟨oC,es,ep,eC,hdC,r1,r2⟩,fun h' hs'=>⟨σ'',H'',?_,q''⟩⟩;have I3:Inv X zB σ'' H'' s'':=I''.unpinned;obtain ⟨_,nC'',neC,_,_⟩:=I''.pin (s2.heap.objs.size+1,oC) (by simp);refine I3.turned (t':=s''.toks) (it:=s2.heap.objs.size+1) (fun b o hb e=>hs'.extBut b o hb e) nC'' neC (.inr (zXB I2.sz (zYS _))) (fun x c e z=>?_) (fun q hq z=>?_)
 ·obtain ⟨v,o,ho,hd⟩:=I3.cell x c e;rw[z,eC]at ho;cases ho;rw[hdC]at hd;cases hd
 ·obtain ⟨e,_⟩:=I2.pin q hq;exact zW5 (zXZ (zWv e)) z
end
end L2
namespace L3
open PySem PySem.Spec PyProof.Rows L2
section
variable {X:Cx} {scope:Scope} {tg kx vx iter:Expr} {ifs:List Expr} {pos:Pos} {own:List Nat} {isT:Bool}
theorem zMx (hN:X.N.Nodup) (hi':X.N[i]?=some x) (hx:Loc X.env.scope x) (hfn:X.fn x=true\/X.env.scope.names.lookup x=some .local)
  (hsw:swapsWith (.DictComp kx vx [⟨tg,iter,ifs,0⟩] scope pos) (some (.Name x pos')) pos''.line X.env=pure true)
  (hu:X.A.units+1<cLine) (hg:zFm own g fg) (C:CompIn X scope own) (hcalm:X.calm=true) (hi:QI X tg iter fi) (p:QParts X scope tg ifs kx g tc tk) (p2:∀ zB cl s H fp,QE (zX X zB scope cl s H fp) vx tv) (hs:∀ x,foldedSetIterable iter X.env x=pure x:=by intro _;rfl) :
  QS X (.Assign [.Name x pos'] (.DictComp kx vx [⟨tg,iter,ifs,0⟩] scope pos) pos'') (zAM i (zCi isT own fi fg tc tk tv)) :=
 .mk <| PS.imp (zJB (isT:=isT) hN hi' hx hfn hsw hu C hcalm hi.un p.parts (fun _ _ _ _ _=>(zI (p2 _ _ _ _ _)).un) hs) fun _ _ _ z=>zIS (fun _ _ _ z=>zIi hg z) z
end
end L3
namespace L2
open PySem PySem.Spec PyProof.Rows
end L2
namespace L3
open PySem PySem.Spec PyProof.Rows L2
open SeqAt
structure Df (K:PySem.W.Frag) (mg:Str->Option Value) (x:Str) (st:Stmt) (ps:List Str) where
 f:Addr
 fd:FuncData
 F:Fun K x x st f fd
 b:zIm K fd ps []
 m:mg x=some (.ref f)
structure Dg (K:PySem.W.Frag) (x:Str) (st:Stmt) where
 f:Addr
 {od an:Option Addr}
 {sl:Array (Option Value)}
 {oc kV dc pm cd ct:Value}
 a:PySem.W.nsIn K mainGlobals x=some (some (.ref f))
 l:K.lookup f=some ⟨oc,od,.func (PySem.W.fnOf x x (zFU st) (zDr st) (zQ st) .none kV dc pm an cd ct),sl⟩
 c:PySem.W.codeIn K cd x=true
 k:PySem.W.keepIn K (.ref f)=true
abbrev Dg.df {K:PySem.W.Frag} {x:Str} {st:Stmt} {ps:List Str} {h:Heap} {mg:Str->Option Value} (g:Dg K x st) (X:K.In h) (G:h.Ns mainGlobals mg)
  (hb:∀ (kV doc pm:Value) (an:Option Addr) (cdv ct:Value) (us:List Value),us.length=ps.length->bindArgs (PySem.W.fnOf x x (zFU st) (zDr st) (zQ st) .none kV doc pm an cdv ct) ⟨us,[]⟩=pure (ps.zip us)):Df K mg x st ps :=
 ⟨g.f,_,zRj g.l g.c g.k,(zRj g.l g.c g.k).binds hb,PySem.W.mg_of X G g.a⟩
abbrev Od (P:Program) (w:World) (base:Heap) (k:Nat) {K:PySem.W.Frag} {mg:Str->Option Value} {x:Str} {st:Stmt} {ps:List Str} (d:Df K mg x st ps) (m:FF):Prop:=FnOk P w K mg base CX0 k d.f d.fd ps (spF K ps.length m)
abbrev Zn (K:PySem.W.Frag) (x:Str):Prop:=PySem.W.nsIn K mainGlobals x=some none
abbrev Ki (K:PySem.W.Frag) (t T:String) (b:Bool):Prop:=PySem.W.kitOne K (.type t) (.type T)=some b
theorem zH0 {P:List Value->Prop} (h:∀ a,P [a]):∀ us:List Value,us.length=1->P us
 |[a],_=>h a
theorem zGT {P:List Value->Prop} (h:∀ a b,P [a,b]):∀ us:List Value,us.length=2->P us
 |[a,b],_=>h a b
theorem zMr {P:List Value->Prop} (h:∀ a b c,P [a,b,c]):∀ us:List Value,us.length=3->P us
 |[a,b,c],_=>h a b c
theorem zWe {P:List Value->Prop} (h:∀ a b c d,P [a,b,c,d]):∀ us:List Value,us.length=4->P us
 |[a,b,c,d],_=>h a b c d
section
variable {X:Cx} {e:Expr} {es:List Expr} {pos p:Pos} {x:Str} {k:Nat} {st:Stmt} {ps:List Str}
theorem zAQ {d:Df X.K X.mg x st ps} (F:FnOk X.prog X.w X.K X.mg X.base CX0 k d.f d.fd ps (spF X.K (e::es).length g)) (hr:Room k X.A) (hg:Gl X x)
  (ha:QA X (e::es) fa) (hl:∀ σ M ds M1,fa σ M=some (ds,M1)->ds.length=(e::es).length) (hdb:(x==("__debug__" : Str))=false) (he:starEach (e::es) X.env=(false,eval e X.env)::starEach es X.env) (hpl:(backTo pos (starEach es X.env)).any (·.1)=false) :
  QE X (.Call (.Name x p) (e::es) [] pos) (zY g fa):=zU1 F hr hg d.m d.F.kp d.b ha hl hdb he hpl
theorem zBB (hN:X.N.Nodup) (hi:X.N[i]?=some x) (h:QE X e f) (hx:Loc X.env.scope x:=by first|exact Or.inl rfl|exact Or.inr rfl) (hs:swapsWith e (some (.Name x pos')) pos.line X.env=pure false:=by rfl)
  (hf:X.fn x=true\/X.env.scope.names.lookup x=some .local:=by first|exact .inl rfl|exact .inr rfl|assumption):QS X (.Assign [.Name x pos'] e pos) (zAM i f):=zVv hN hi hx h hs hf
theorem zv (hN:X.N.Nodup) (hi:X.N[i]?=some x) (hx:Loc X.env.scope x:=by first|exact Or.inl rfl|exact Or.inr rfl) (hf:X.fn x=true\/X.env.scope.names.lookup x=some .local:=by first|exact .inl rfl|exact .inr rfl|assumption):PG X (.Name x pos) (zCe i):=zKB hN hi hx hf
end
section
variable {prog:Program} {w:World} {A:Around} {E:Value->Shared->Prop} {s:Shared} {it d v:Addr} {i ep:Nat} {ok ov:Value} {o:Obj} {es:Array DictEntry}
theorem zPd {Q:Value->Shared->Prop} (hv:s.heap.IsItemsView v d) (ho:s.heap.get? d=some o) (hdat:o.data=.dict es ep)
  (hQ:Q (.ref s.heap.objs.size) { s with heap:=s.heap.push { cls:=.type "dict_itemiterator", data:=.fields #[.none,.bool false,.ref d,.int 0 0,.int es.size 0,.int ep 0,.none,.none] } }):wpAny (model prog w) A (pyIter (.ref v)) Q E s:=by
 obtain ⟨q,hq,_,hd⟩:=id hv;refine wpAny_pyIter_slot hv.typeIs F.slot_dict_items_iter (zXN F.slot_dict_items_iter hv.typeIs F.entry_dict_items_iter ?_ (F.args_dict_items_iter_1 _));unfold Builtin.«dict_items.__iter__»;refine zWk (zWm (zWk ?_));unfold Builtin.Dict_items.dictOf;refine zWk (zXP hq hd (x:=.ref d) rfl (zWm (zWk ?_)));unfold Builtin.Dict_items.newIterator;refine zWk (wpAny_dictEntries ho hdat (zWk (wpAny_dictEpoch ho hdat ?_)));simp only[show Builtin.Dict_items.ownsTuple "dict_itemiterator" = true by decide,if_true];refine zXD (zWm ⟨_,rfl, "dict_itemiterator", _,⟨_,zWu _ rfl,rfl⟩,F.slot_dict_itemiterator_next.lookup,?_⟩) (by simp only[sizeOk,Builtin.Dict_items.ownedTupleFields,zWs,zW0,zXH,List.length_nil,sizeLine_eq];omega);simpa [rawInt,Builtin.Dict_items.ownedTupleFields] using hQ
theorem zH3 {Q:Option Value->Shared->Prop} (hh:A.handled=none) (hit:IsItemIter s.heap it d i es.size ep ok ov) (hod:s.heap.get? d=some o) (hdd:o.data=.dict es ep) (hge:es.size<=i)
  (hQ:∀ h',Heap.ExtBut it s.heap h'->Q none { s with heap:=h' }):wpAny (model prog w) A (pyNext (.ref it)) Q E s:=by
 have hT:s.TypeIs (.ref it) "dict_itemiterator" := ⟨_,hit,rfl⟩;unfold pyNext;refine zWk (wpAny_attempt (zXM (name:=Str.ofString "__next__") hT F.slot_dict_itemiterator_next (zXN F.slot_dict_itemiterator_next hT F.entry_dict_itemiterator_next ?_ (F.args_dict_itemiterator_next_1 _))));refine zWk (zWm (zWk (zWk ?_)));first|refine zWk (wpAny_typeNameOfWhole_itemiter hT (zWm ?_))|refine zWk (wpAny_typeNameOf_itemiter hT (zWm ?_))
 refine zWk (wpAny_fieldsOf hit rfl ?_);simp only[show Builtin.Dict_items.ownsTuple "dict_itemiterator" = true by decide,if_true];show wpAny _ _ (if (Value.ref d==Value.none)=true then _ else _) _ _ s;rw[zW2 (show ¬ ((Value.ref d==Value.none)=true)from zW6)];refine zWk (zWm (zWk (wpAny_dictEntries hod hdd ?_)));rw[zW2 (by simp)];refine zWk (zWm (zWk (wpAny_dictEpoch hod hdd ?_)));rw[zW2 (by simp)];refine zWm ?_;simp only[show ¬ ((i:Int)<0)from by omega,if_false,Int.toNat_natCast,Array.getElem?_eq_none hge];refine zWk ?_;first|refine zWk (wpAny_typeNameOfWhole_itemiter hT (zWm ?_))|refine zWk (wpAny_typeNameOf_itemiter hT (zWm ?_))
 show wpAny _ _ (setField (.ref it) 2 .none >>= _) _ _ s;refine zWk (zYV hit rfl (by simp) ?_);show wpAny _ _ (newExc (.type "StopIteration") [] >>= _) _ _ _;refine zWk ?_;simp only[newExc,newTuple];refine zWk (zXD ?_ (by size_fits));refine zWk (m:=firstArgMember _ _) (wpAny_of_eq (a:=Value.none) (by first|rfl|(simp only[firstArgMember];rfl)) ?_);refine zXD ?_ (by size_fits);simp only[raiseNew];refine zWk (wpAny_handled ?_);rw[show A.in1.handled=none from hh];refine zWk (zWm (wpAny_throw ?_));refine zWk (wpAny_isInstance (T := "StopIteration") (b:=true) ⟨_,zWu _ rfl,rfl⟩ isSubtype_stop ?_);exact zWm (hQ _ (((zXn ..).extBut.push _).push _))
theorem zM1 {e:DictEntry} {Q:Option Value->Shared->Prop} (hit:IsItemIter s.heap it d i es.size ep ok ov) (hod:s.heap.get? d=some o) (hdd:o.data=.dict es ep) (hx:es[i]?=some e)
  (hQ:∀ h',IsItemIterOut h' it d (i+1) es.size ep e.key e.val s.heap.objs.size->h'.get? s.heap.objs.size=some { cls:=.type "tuple", data:=.seq #[e.key,e.val] }->(∀ b o,b≠it->s.heap.get? b=some o->h'.get? b=some o)->Q (some (.ref s.heap.objs.size)) { s with heap:=h' }) :
  wpAny (model prog w) A (pyNext (.ref it)) Q E s:=by
 obtain ⟨hp,g,dr,tk,os⟩:=s;have hT:Shared.TypeIs ⟨hp,g,dr,tk,os⟩ (.ref it) "dict_itemiterator" := ⟨_,hit,rfl⟩;obtain ⟨hlt,hxe⟩:=Array.getElem?_eq_some_iff.mp hx;unfold pyNext;refine zWk (wpAny_attempt (zXM (name:=Str.ofString "__next__") hT F.slot_dict_itemiterator_next (zXN F.slot_dict_itemiterator_next hT F.entry_dict_itemiterator_next ?_ (F.args_dict_itemiterator_next_1 _))));refine zWk (zWm (zWk (zWk ?_)));first|refine zWk (wpAny_typeNameOfWhole_itemiter hT (zWm ?_))|refine zWk (wpAny_typeNameOf_itemiter hT (zWm ?_))
 refine zWk (wpAny_fieldsOf hit rfl ?_);simp only[show Builtin.Dict_items.ownsTuple "dict_itemiterator" = true by decide,if_true];show wpAny _ _ (if (Value.ref d==Value.none)=true then _ else _) _ _ _;rw[zW2 (show ¬ ((Value.ref d==Value.none)=true)from zW6)];refine zWk (zWm (zWk (wpAny_dictEntries hod hdd ?_)));rw[zW2 (by simp)];refine zWk (zWm (zWk (wpAny_dictEpoch hod hdd ?_)));rw[zW2 (by simp)];refine zWm ?_;simp only[show ¬ ((i:Int)<0)from by omega,if_false,Int.toNat_natCast,zXV hlt,hxe];refine zWk ?_;first|refine zWk (wpAny_typeNameOfWhole_itemiter hT (zWm ?_))|refine zWk (wpAny_typeNameOf_itemiter hT (zWm ?_))
 refine zWk (wpAny_isOneOf_itemiter hT ?_);show wpAny _ _ (setField (.ref it) 3 (rawInt ((i:Int)+1)) >>= _) _ _ ⟨hp,g,dr,tk,os⟩;refine zWk (zX0 hit (by simp) fun h1 he1 hs1=>?_);replace hs1:Heap.SameBut it hp h1:=hs1;replace he1:IsItemIter h1 it d (i+1) es.size ep ok ov:=by
  have q:((i+1:Nat):Int)=(i:Int)+1:=by omega
  unfold IsItemIter;rw[q];simpa [rawInt] using he1
 have hT1:Shared.TypeIs ⟨h1,g,dr,tk,os⟩ (.ref it) "dict_itemiterator" := ⟨_,he1,rfl⟩;refine zWk (zXd (zWk (wpAny_isOneOf_itemiter hT1 (zWk (wpAny_isOneOf_itemiter hT1 ?_)))));show wpAny _ _ (Builtin.Dict_items.pairFromOwner (.ref it) 6 e.key e.val) _ _ ⟨h1,g,dr,tk,os⟩;unfold Builtin.Dict_items.pairFromOwner;refine zWk (wpAny_newTuple ?_);have he2:IsItemIter (h1.push { cls:=.type "tuple", data:=.seq #[e.key,e.val] }) it d (i+1) es.size ep ok ov:=zWl _ he1;generalize hh2:h1.push { cls:=.type "tuple", data:=.seq #[e.key,e.val] }=h2 at he2;have z1:h1.objs.size=hp.objs.size:=hs1.1;have hil:it<hp.objs.size:=zWv hit;have t2:h2.get? hp.objs.size=some { cls:=.type "tuple", data:=.seq #[e.key,e.val] }:=by rw[<-hh2,<-z1];exact zWu _ rfl
 have k2:∀ b o,b≠it->hp.get? b=some o->h2.get? b=some o:=fun b o hb q=>by rw[<-hh2];exact zWl _ (hs1.extBut b o hb q)
 show wpAny _ _ (Builtin.Dict_items.ownedTupleIsFree (.ref it) >>= _) _ _ ⟨h2,g,dr,tk,os⟩;rw[z1];clear hh2 he1 hs1 hT1 z1 h1;refine zWk ?_;unfold Builtin.Dict_items.ownedTupleIsFree;refine zWk (zXP he2 rfl (x:=.none) rfl (zWm ?_));simp only[if_true];refine zWk (zXP he2 rfl (x:=ok) rfl (zWk (zXP he2 rfl (x:=ov) rfl ?_)));refine zWk (zX0 he2 (by simp) fun h3 he3 hs3=>?_);replace he3:IsItemIter h3 it d (i+1) es.size ep e.key ov:=he3;replace hs3:Heap.SameBut it h2 h3:=hs3;refine zWk (zX0 he3 (by simp) fun h4 he4 hs4=>?_);replace he4:IsItemIter h4 it d (i+1) es.size ep e.key e.val:=he4;replace hs4:Heap.SameBut it h3 h4:=hs4;refine zWk (zX0 he4 (by simp) fun h5 he5 hs5=>?_);replace he5:IsItemIterOut h5 it d (i+1) es.size ep e.key e.val hp.objs.size:=he5;replace hs5:Heap.SameBut it h4 h5:=hs5;refine zWk (zX0 he5 (by simp) fun h6 he6 hs6=>?_);replace he6:IsItemIterOut h6 it d (i+1) es.size ep e.key e.val hp.objs.size:=he6;replace hs6:Heap.SameBut it h5 h6:=hs6;have up:∀ b o,b≠it->h2.get? b=some o->h6.get? b=some o:=fun b o hb q=>hs6.extBut b o hb (hs5.extBut b o hb (hs4.extBut b o hb (hs3.extBut b o hb q)));exact zWk (wpAny_letGo (zWm (zWm ⟨_,rfl,zWm (hQ h6 he6 (up _ _ (zYF hil) t2) fun b o hb q=>up b o hb (k2 b o hb q))⟩)))
theorem zKK (d:Addr) (hd:(d==sysModules)=false) :
  MeetsIn prog w (Builtin.«dict.items» ⟨[.ref d],[]⟩) (fun _ R s=>s.TypeIs (.ref d) "dict" /\ R (.ok (.ret (.ref s.heap.objs.size))) { s with heap:=s.heap.push { cls:=.type "dict_items", data:=.fields #[.ref d] } }) :=
 .of_wp fun A R s ⟨hT,h⟩=>by
  unfold Builtin.«dict.items»;refine zWk ?_;unfold Builtin.Dict.noArgs;refine zWk (wpAny_notOrdered_dict hT ?_);show wpAny _ _ (pure d) _ _ s;refine zWm ?_;show wpAny _ _ (Builtin.Dict.showsAll d >>= _) _ _ s;unfold Builtin.Dict.showsAll;rw[zW2 (by rw[hd];exact zW6)];exact zWk (zWm (zWk (zXD (zWm ⟨_,rfl,h⟩))))
end
theorem zIR:entryFor table "dict_itemiterator.__iter__" = some Builtin.«dict_keyiterator.__iter__»:=entryFor_alias (id' := "dict_keyiterator.__iter__") (by kernel_rfl) rfl (by decide+kernel) (by kernel_rfl)
theorem zJH {prog:Program} {w:World} {A:Around} {E:Value->Shared->Prop} {s:Shared} {it d:Addr} {i n ep:Nat} {ok ov:Value} {Q:Value->Shared->Prop} (he:IsItemIter s.heap it d i n ep ok ov) (h:Q (.ref it) s):wpAny (model prog w) A (pyIter (.ref it)) Q E s:=by
 have hT:s.TypeIs (.ref it) "dict_itemiterator" := ⟨_,he,rfl⟩;refine wpAny_pyIter_slot hT F.slot_dict_itemiterator_iter (zXN F.slot_dict_itemiterator_iter hT zIR ?_ (F.args_dict_itemiterator_iter_1 _));show wpAny _ _ (ret (.ref it)) _ _ s;exact zWm ⟨_,rfl, "dict_itemiterator", _,hT,F.slot_dict_itemiterator_next.lookup,h⟩
def zVr (d:Addr) (o:Obj) (kvs:List (List Key × V)):It :=
 ⟨fun i H=>H d=some (.frz o (.dT kvs))/\i<kvs.length,
  fun i H v H'=>∃ T b k x,kvs[i]?=some (k,x)/\v=.ref T/\H T=none/\H b=some (.tup (k.map kV))/\H'=upd H T (.tup [.ref b,x]),
  fun i H=>H d=some (.frz o (.dT kvs))/\kvs.length<=i⟩
theorem zQl {X:Cx} {zB:List (Addr × Obj)} {σ:L2.St} {H:Hp} {s:Shared} {d:Addr} {o:Obj} {kvs:List (List Key × V)} {es:Array DictEntry} {ep:Nat} (I:Inv X zB σ H s) (hd:o.data=.dict es ep) (e:H d=some (.frz o (.dT kvs))) :
  s.heap.get? d=some o /\ ∃ xs,KT H kvs xs/\es.toList=xs.map (entryOfKey (tupleKind (zA0 X.prog X.w)))/\kvs.length=es.size:=by
 obtain ⟨h0,_,_,xs,r,o',es',ep',h1,_,h3,h4,_⟩:=(show zAl X.prog X.w H s.heap d (.frz o (.dT kvs))from I.hok d _ e);rw[h0]at h1;cases h1;rw[hd]at h3;cases h3;refine ⟨h0,xs,r,h4,?_⟩;have h5:es.toList.length=xs.length:=by rw[h4,zWt]
 rw[Paired.length r,<-h5,zXT]
theorem zVn {H:Hp}:∀ {kvs:List (List Key × V)} {xs:List (List Key × Addr × Value)} {i:Nat} {k:List Key} {x:V},KT H kvs xs->kvs[i]?=some (k,x) -> ∃ b u,xs[i]?=some (k,b,u)/\H b=some (.tup (k.map kV))/\zAT x u:=by
 intro kvs xs i k x r;induction r generalizing i with
 |nil=>intro e;cases e
 | @cons p q ps qs hq t ih=>
  intro e;cases i with
  |zero=>
   cases e;obtain ⟨q1,q2,q3⟩:=q;exact ⟨q2,q3,by rw[show k=q1 from hq.1];rfl,hq.2.1,hq.2.2⟩
  |succ j=>exact ih e
theorem zNj {P:Program} {w:World} {K:PySem.W.Frag} {tes:List Expr} {ek:Nat} {ep:Pos} {it d:Addr} {o:Obj} {kvs:List (List Key × V)} {es:Array DictEntry} {en:Nat} (hd:o.data=.dict es en) :
  Turn P w K (.Tuple tes ek ep) (zVr d o kvs) [it] it (fun i h=>∃ ok ov,IsItemIter h it d i es.size en ok ov) where
 mem:=zXC.mpr rfl;obj:=fun i h ⟨ok,ov,he⟩ c hc=>by
  cases zXC.mp hc;exact ⟨_,he,fun v m=>by cases m⟩
 keep:=fun i h h' ⟨ok,ov,he⟩ k=>⟨ok,ov,k it (zXC.mpr rfl) _ he⟩;item:=by
  intro X hP hw hK hc i zB s σ H E I hf Z hg;subst hP hw hK;obtain ⟨ok,ov,he⟩:=Z;obtain ⟨hg,hi⟩:=hg;obtain ⟨h0,xs,r,h4,hl⟩:=zQl I hd hg;rcases hkx:kvs[i]with ⟨k,x⟩;have hk:kvs[i]?=some (k,x):=by rw[zWo hi,hkx]
  obtain ⟨b,u,h5,h6,h7⟩:=zVn r hk;have hx:es[i]?=some (entryOfKey (tupleKind (zA0 X.prog X.w)) (k,b,u)):=by
   rw[<-Array.getElem?_toList,h4,zW7,h5];rfl
  have ilt:it<s.heap.objs.size:=zWv he;refine zM1 he h0 hd hx fun h' ho hT kp=>⟨_,rfl,wpAny_letOwnedTupleGo_items ho fun h2 he2 e2=>?_⟩;have kk:∀ c q,c∉[it]->s.heap.get? c=some q->h2.get? c=some q:=fun c q n z=>e2.extBut _ _ (fun y=>n (zXC.mpr y)) (kp c q (fun y=>n (zXC.mpr y)) z);have NT:=e2.extBut _ _ (zYF ilt) hT;have hfr:H s.heap.objs.size=none:=I.hok.fresh (zWq _);refine ⟨.ref s.heap.objs.size,upd H s.heap.objs.size (.tup [.ref b,x]),zEz (s:=s) (h':=h2) (t':=s.toks) I hf kk (zWq _) ?_,rfl,⟨_,b,k,x,hk,rfl,hfr,h6,rfl⟩,⟨_,_,he2⟩,fun c hm=>?_⟩
  ·exact ⟨by show 2<=sizeLine;decide,[.ref b,u],.cons rfl (.cons h7 .nil),⟨_,NT,rfl,⟨_,rfl⟩,rfl⟩⟩
  ·cases zXC.mp hm;rw[zn (zW5 ilt)];exact (hf it hm).1
 done:=by
  intro X hP hw hK hc i zB s σ H E I hf Z hg;subst hP hw hK;obtain ⟨ok,ov,he⟩:=Z;obtain ⟨hg,hi⟩:=hg;obtain ⟨h0,xs,r,h4,hl⟩:=zQl I hd hg;exact zH3 (I.ok.hd hc) he h0 hd (by omega) fun h' x=>⟨rfl,zG8 (s:=s) (h':=h') (t':=s.toks) I hf fun c q n z=>x c q (fun y=>n (zXC.mpr y)) z⟩
 self:=fun A i s Q E Z h=>by
  obtain ⟨ok,ov,he⟩:=Z;exact zJH he h
theorem zTu {X:Cx} {zB:List (Addr × Obj)} {σ:L2.St} {H:Hp} {s:Shared} {d:Addr} {kvs:List (List Key × V)} (I:Inv X zB σ H s) (ed:H d=some (.dT kvs)):∃ o es en,s.heap.get? d=some o/\o.data=.dict es en/\Inv X zB σ (upd H d (.frz o (.dT kvs))) s:=by
 obtain ⟨z1,z2,xs,r,o,es',en,h1,h2,h3,h4,h5⟩:=(show zAl X.prog X.w H s.heap d (.dT kvs)from I.hok d _ ed);refine ⟨o,es',en,h1,h3,zGU (s:=s) (h':=s.heap) (t':=s.toks) (ob:=.frz o (.dT kvs)) I (by rw[ed];exact True.intro) (Heap.SameBut.refl _ _) ⟨o,h1⟩ ⟨h1,z1,z2,xs,KT.keeps r fun c ys ec=>?_,o,es',en,h1,h2,h3,h4,h5⟩⟩;rw[zn (zH6 ec ed (fun z=>nomatch z))];exact ec
section
variable {X:Cx} {e:Expr} {es:List Expr} {ek:Nat} {ep apos cpos:Pos}
theorem zQJ {td:TE} (ho:PE X e td) (hbase:attributeBase e "items" X.env (eval e X.env)=eval e X.env:=by rfl) (hline:(apos.endLine==cpos.line)=true:=by rfl) :
  PI X (.Tuple es ek ep) (.Call (.Attribute e "items" apos) [] [] cpos) (fun σ H R=>td σ H fun x H1=>∃ d kvs,x=.ref d/\H1 d=some (.dT kvs) /\ ∀ o,R (zVr d o kvs) (upd H1 d (.frz o (.dT kvs)))):=by
 intro zB s σ H R I h;refine wpAny_Call_method0_late hbase hline (thn (ho zB s σ H _ I h) fun v s1 ⟨x,H1,I1,r1,d,kvs,ex,ed,q⟩=>?_);subst ex;cases r1;obtain ⟨t1,t2,t3⟩:=zRL I1 (.inr ⟨kvs,.inl ed⟩);refine ⟨"dict", "dict.items", PySem.F.plainAttrs_dict,PySem.F.slot_dict_items,PySem.F.type_dict_items,t1,t2,Calls.callWith_builtin rfl (PySem.evalArgs_none ?_)⟩;refine call_meetsIn PySem.F.slot_dict_items t1 PySem.F.entry_dict_items (PySem.F.args_dict_items_1 _) (zKK d t3) ⟨t1,?_⟩;obtain ⟨o,es',en,h1,h3,I0⟩:=zTu I1 ed;refine zPd (d:=d) (o:=o) (es:=es') (ep:=en) ⟨_,zWu _ rfl,rfl,rfl⟩ (zWl _ h1) h3 ?_;have ge:s1.heap.objs.size<=(s1.heap.push { cls:=.type "dict_items", data:=.fields #[.ref d] }).objs.size:=by rw[zXQ];exact zYS _
 refine ⟨_,[_],_,_,_,rfl,I0.kept (t':=s1.toks) fun b q z=>zWl _ (zWl _ z),zNj h3,⟨_,_,zWu _ rfl⟩,fun c hc=>?_,q o⟩;cases zXC.mp hc;exact I0.fpOk ge (I0.hok.fresh ge)
end
theorem zSM {L:List Addr} {H:Hp} {d:D} {k:Key} (h:zHI d=some k):Rep L H d (kV k):=by
 cases d with
 |int i=>cases h;unfold Rep;rfl
 |str x=>cases h;unfold Rep;rfl
 |_=>cases h
theorem zLU {L:List Addr} {H:Hp}:∀ {ds:List D} {ks:List Key},zFs ds=some ks->zh L H ds (ks.map kV)
 |[],ks,h=>by cases h;exact .nil
 |d::ds,ks,h=>by
  unfold zFs at h;cases e1:zHI d with
  |none=>rw[e1]at h;cases h
  |some k=>
   cases e2:zFs ds with
   |none=>rw[e1,e2]at h;cases h
   |some ks'=>rw[e1,e2]at h;cases h;exact .cons (zSM e1) (zLU e2)
theorem zUU {L:List Addr} {H:Hp} {d:D} {k:List Key} {b:Addr} (h:tkD d=some k) (e:H b=some (.tup (k.map kV))):Rep L H d (.ref b):=by
 cases d with
 |tup ds=>unfold Rep;exact ⟨b,_,rfl,e,zLU h⟩
 |_=>cases h
theorem zN1 {L:List Addr} {H:Hp}:∀ {ps:List (D × D)} {vs:List (List Key × V)} {i:Nat} {p:D × D},zBx tkD L H ps vs->ps[i]?=some p -> ∃ k x,vs[i]?=some (k,x)/\tkD p.1=some k/\Rep L H p.2 x
 |[],_,i,p,_,e=>by cases e
 |q::ps,vs,i,p,h,e=>by
  obtain ⟨k,v,r',rfl,e1,h1,h2⟩:=h;cases i with
  |zero=>cases e;exact ⟨k,v,rfl,e1,h1⟩
  |succ j=>exact zN1 (ps:=ps) (i:=j) h2 (by rw[List.getElem?_cons_succ]at e;exact e)
def zIE (f:FE):FI:=fun σ M=>match f σ M with
 |some (.dat (.ref n),M1)=>match M1[n]? with
  |some (.dicT ps)=>some (ps.map fun p=>D.tup [p.1,p.2],none,M1.set n (.set []))
  |_=>none
 |_=>none
section
variable {X:Cx} {e:Expr} {es:List Expr} {ek:Nat} {ep apos cpos:Pos} {f:FE}
theorem zSI (h:QE X e f) (hbase:attributeBase e "items" X.env (eval e X.env)=eval e X.env:=by rfl) (hline:(apos.endLine==cpos.line)=true:=by rfl) :
  QI X (.Tuple es ek ep) (.Call (.Attribute e "items" apos) [] [] cpos) (zIE f):=.mk <| PI.imp (zQJ h.un hbase hline) fun τ H R zz=>by
 obtain ⟨L,σ,M,xs,gd,M',c,rs,hf,q⟩:=zz;unfold zIE at hf;split at hf
 ·rename_i n M1 e1;split at hf
  ·rename_i ps e2;cases hf;refine ⟨L,σ,M,_,_,c,rs,e1,fun L1 H1 v s1 c1 r1=>?_⟩;unfold zt Rep at r1;obtain ⟨a,rfl,ea⟩:=r1;obtain ⟨vs,e3,r3⟩:=c1.obj n a _ ea e2;refine ⟨a,vs,rfl,e3,fun o=>?_⟩;obtain ⟨c2,s2⟩:=c1.put (m:=.set []) (o':=.frz o (.dT vs)) ea e3 (fun _ z=>by cases z) (fun _ _ z=>by cases z) fun _=>⟨o,_,zAh⟩;refine q L1 _ _ (s1.trans s2) c2 fun L2 H2 M2 s3 c3 _=>?_;have hz:H2 a=some (.frz o (.dT vs)):=s3.frz _ _ _ zAh;have r4:=r3.stp (s2.trans s3);refine ⟨fun i d hd=>?_,hz,by rw[zWt,r4.length];exact zWq _⟩;rw[zW7]at hd;cases hp:ps[i]? with
   |none=>rw[hp]at hd;cases hd
   |some p=>
    rw[hp]at hd;cases hd;obtain ⟨k,x,hk,ek,rx⟩:=zN1 r4 hp;refine ⟨⟨hz,(zWn.mp hk).1⟩,fun v H3 hy=>?_⟩;obtain ⟨T,b,k',x',hk',rfl,hT,hb,rfl⟩:=hy;rw[hk]at hk';cases hk';exact ⟨fun a o e=>by rw[zn (zAa e hT)];exact e,Rep.newTup hT (.cons (zUU ek hb) (.cons rx .nil))⟩
  ·cases hf
 ·cases hf
end
def zN6 (i j k:Nat):FG:=fun d σ=>match d with
 |.tup [x,.tup [y,z]]=>some (((σ.set i (some x)).set j (some y)).set k (some z))
 |_=>none
abbrev gN3 (K:PySem.W.Frag) (i j k:Nat):TG:=zQb K 2 (zFr (zCe i) (zFr (zQb K 2 (zFr (zCe j) (zFr (zCe k) zRr))) zRr))
theorem zPN {K:PySem.W.Frag} {own:List Nat} {i j k:Nat} (hi:i∈own) (hj:j∈own) (hk:k∈own):zFm own (gN3 K i j k) (zN6 i j k):=by
 intro L H σ σ' τ τ0 d v Q rs ex r hf q;unfold zN6 at hf;split at hf
 ·rename_i x y z;cases hf;unfold Rep at r;obtain ⟨a,vs,rfl,e,r⟩:=r;obtain ⟨v1,v2,rfl,r1,r2⟩:=r.two;unfold Rep at r2;obtain ⟨b,ws,rfl,e2,r2⟩:=r2;obtain ⟨w1,w2,rfl,r3,r4⟩:=r2.two;exact ⟨a,_,rfl,.of e,rfl,v1,[.ref b],rfl,.ref b,[],rfl,b,_,rfl,.of e2,rfl,w1,[w2],rfl,w2,[],rfl,rfl,rfl,q _ (((rs.set r1).set r3).set r4) (((ex.set hi).set hj).set hk)⟩
 ·cases hf
section
variable {X:Cx}
theorem zOu:zCX X (.type "str") (fun xs H Q=>∃ i,xs=[.int i]/\i.natAbs<2 ^ 64/\Q (.str (Str.ofString (toString i))) H):=by
 intro zB s σ H xs us Q I r h;obtain ⟨i,rfl,hi,q⟩:=h;obtain ⟨u,rfl,t,rfl⟩:=zD8 r;refine P.str_of_int ?_ ⟨.str (Str.ofString (toString i)),H,I.tok _,⟨_,rfl⟩,q⟩;by_cases h0:i.natAbs=0
 ·rw[h0];decide
 ·exact (Nat.log2_lt h0).mpr (zW9 hi (Nat.pow_le_pow_right (by decide) (by decide)))
def zNf:KB:=fun xs M=>match xs with
 |[.dat (.int i)]=>if i.natAbs<2 ^ 64 then some (.dat (.str (Str.ofString (toString i))),M) else none
 |_=>none
theorem zSt {K:PySem.W.Frag}:zGN K (fun xs H Q=>∃ i,xs=[.int i]/\i.natAbs<2 ^ 64/\Q (.str (Str.ofString (toString i))) H) zNf:=by
 intro L M M' H H0 xs d vs Q c r hk q;unfold zNf at hk;split at hk
 ·rename_i i;split at hk
  ·rename_i hi;cases hk;obtain ⟨v,rfl,r1⟩:=r.one;have:v=.int i:=by unfold zt Rep at r1;exact r1
   subst this;exact ⟨i,rfl,hi,q L H _ (.refl L H) c (by unfold zt Rep;rfl)⟩
  ·cases hk
 ·cases hk
theorem zRq {e:Expr} {p pos:Pos} {fa:FAE} (hg:Gl X "str") (hm:X.mg "str" = none) (ha:QAE X [e] fa) (he:starEach [e] X.env=(false,eval e X.env)::starEach [] X.env:=by rfl) (hpl:(backTo pos (starEach [] X.env)).any (·.1)=false:=by rfl):QE X (.Call (.Name "str" p) [e] [] pos) (fB zNf fa) :=
 zGQ zSt zOu (by rfl) hg hm ha (by decide) (by decide) he hpl
end
def zOQ (r r' r'':R2) (ta tb tc td:TE):TE:=fun σ H Q=>ta σ H fun x H1=>tb σ H1 fun y H2=>r x y H2 fun z H3=>∃ k,z=.bl k /\
 (if k=true then tc σ H3 fun w H4=>r' y w H4 fun z' H5=>∃ k',z'=.bl k'/\(if k'=true then td σ H5 fun v H6=>r'' w v H6 Q else Q (.bl false) H5) else Q (.bl false) H3)
section
variable {X:Cx} {a b c d:Expr} {ta tb tc td:TE} {pos:Pos} {f g h i:FE}
theorem zPX {op op' op'':CmpOp} {r r' r'':R2} (ho:OpR X (compareOp op) r) (ho':OpR X (compareOp op') r') (ho'':OpR X (compareOp op'') r'') (ha:PE X a ta) (hb:PE X b tb) (hc:PE X c tc) (hd:PE X d td)
  (hm:lastMarks [op,op',op''] [b,c,d]=false:=by with_unfolding_all rfl):PE X (.Compare a [op,op',op''] [b,c,d] pos) (zOQ r r' r'' ta tb tc td):=by
 intro zB s σ H Q I h;refine Compare_chain (thn (ha zB s σ H _ I h) fun v s1 ⟨x,H1,I1,r1,q1⟩=>chain_link (thn (hb zB s1 σ H1 _ I1 q1) fun u s2 ⟨y,H2,I2,r2,q2⟩=>
  thn (ho zB s2 σ H2 x y v u _ I2 r1 r2 q2) fun d s3 ⟨z,H3,I3,r3,k,e,q3⟩=>?_)) hm
 subst e;cases r3;refine zXw ?_;cases k with
 |false=>exact ite_ff ⟨.bl false,H3,I3,rfl,q3⟩
 |true=>
  refine ite_tt (chain_link (thn (hc zB s3 σ H3 _ I3 q3) fun w' s4 ⟨z',H4,I4,r4,q4⟩=>thn (ho' zB s4 σ H4 y z' u w' _ I4 r2 r4 q4) fun d s5 ⟨z5,H5,I5,r5,k5,e5,q5⟩=>?_));subst e5;cases r5;refine zXw ?_;cases k5 with
  |false=>exact ite_ff ⟨.bl false,H5,I5,rfl,q5⟩
  |true=>exact ite_tt (chain_last (thn (hd zB s5 σ H5 _ I5 q5) fun w6 s6 ⟨z6,H6,I6,r6,q6⟩=>ho'' zB s6 σ H6 z' z6 w' w6 Q I6 r4 r6 q6))
def zFb (k k' k'':K2) (f g h i:FE):FE:=fun σ M=>match f σ M with
 |some (x,M1)=>match g σ M1 with
  |some (y,M2)=>match k x y M2 with
   |some (.dat (.bl true),M3)=>match h σ M3 with
    |some (w,M4)=>match k' y w M4 with
     |some (.dat (.bl true),M5)=>match i σ M5 with
      |some (v,M6)=>k'' w v M6
      |none=>none
     |some (.dat (.bl false),M5)=>some (.dat (.bl false),M5)
     |_=>none
    |none=>none
   |some (.dat (.bl false),M3)=>some (.dat (.bl false),M3)
   |_=>none
  |none=>none
 |none=>none
theorem zLI {K:PySem.W.Frag} {r r' r'':R2} {k k' k'':K2} (hk:zCF K r k) (hk':zCF K r' k') (hk'':zCF K r'' k'') {τ:Sv} {H:Hp} {Q:VK} (z:trE K (zFb k k' k'' f g h i) τ H Q):zOQ r r' r'' (trE K f) (trE K g) (trE K h) (trE K i) τ H Q:=by
 obtain ⟨L,σ,M,d,M',cc,rs,hf,q⟩:=z;unfold zFb at hf;split at hf
 ·rename_i x M1 e1;split at hf
  ·rename_i y M2 e2;refine ⟨L,σ,M,_,_,cc,rs,e1,fun L1 H1 v s1 c1 r1=>⟨L1,σ,M1,_,_,c1,rs.stp s1,e2,fun L2 H2 w s2 c2 r2=>?_⟩⟩;split at hf
   ·rename_i M3 e3;split at hf
    ·rename_i u M4 e4;refine hk (H0:=H) c2 (r1.stp s2) (r2.back s1 cc s2.sub) e3 fun L3 H3 t s3 c3 r3=>⟨true,zAr r3,zHA ?_⟩;have s13:=(s1.trans s2).trans s3;refine ⟨L3,σ,M3,_,_,c3,rs.stp s13,e4,fun L4 H4 w4 s4 c4 r4=>?_⟩;split at hf
     ·rename_i M5 e5;split at hf
      ·rename_i u6 M6 e6;refine hk' (H0:=H) c4 (((r2.back s1 cc s2.sub).stp s3).stp s4) (r4.back s13 cc s4.sub) e5 fun L5 H5 u5 s5 c5 r5=>⟨true,zAr r5,zHA ?_⟩;have s15:=(s13.trans s4).trans s5;refine ⟨L5,σ,M5,_,_,c5,rs.stp s15,e6,fun L6 H6 w6 s6 c6 r6=>?_⟩;refine hk'' (H0:=H) c6 (((r4.back s13 cc s4.sub).stp s5).stp s6) (r6.back s15 cc s6.sub) hf fun L7 H7 u7 s7 c7 r7=>?_;exact q L7 H7 u7 ((s15.trans s6).trans s7) c7 (r7.back (s15.trans s6) cc s7.sub)
      ·cases hf
     ·rename_i M5 e5;cases hf;refine hk' (H0:=H) c4 (((r2.back s1 cc s2.sub).stp s3).stp s4) (r4.back s13 cc s4.sub) e5 fun L5 H5 u5 s5 c5 r5=>⟨false,zAr r5,zHE ?_⟩;exact q L5 H5 _ ((s13.trans s4).trans s5) c5 (by have:=zAr r5;subst this;exact r5)
     ·cases hf
    ·cases hf
   ·rename_i M3 e3;cases hf;refine hk (H0:=H) c2 (r1.stp s2) (r2.back s1 cc s2.sub) e3 fun L3 H3 t s3 c3 r3=>⟨false,zAr r3,zHE ?_⟩;exact q L3 H3 _ ((s1.trans s2).trans s3) c3 (by have:=zAr r3;subst this;exact r3)
   ·cases hf
  ·cases hf
 ·cases hf
theorem zQL {op op' op'':CmpOp} {r r' r'':R2} {k k' k'':K2} (hk:zCF X.K r k) (hk':zCF X.K r' k') (hk'':zCF X.K r'' k'') (ho:OpR X (compareOp op) r) (ho':OpR X (compareOp op') r') (ho'':OpR X (compareOp op'') r'') (h1:QE X a f) (h2:QE X b g) (h3:QE X c h) (h4:QE X d i)
  (hm:lastMarks [op,op',op''] [b,c,d]=false:=by with_unfolding_all rfl):QE X (.Compare a [op,op',op''] [b,c,d] pos) (zFb k k' k'' f g h i):=.mk <| PE.imp (zPX ho ho' ho'' h1.un h2.un h3.un h4.un hm) fun _ _ _ z=>zLI hk hk' hk'' z
end
section
variable {prog:Program} {w:World} {A:Around} {E:Value->Shared->Prop} {s:Shared} {d:Addr} {ep:Nat} {o:Obj} {es:Array DictEntry}
theorem zNP (hd:(d==sysModules)=false):MeetsIn prog w (Builtin.«dict.__len__» ⟨[.ref d],[]⟩) (fun _ R s=>∃ o es ep,s.heap.get? d=some o/\o.data=.dict es ep/\R (.ok (.ret (.int es.size s.toks))) { s with toks:=s.toks+1 }) :=
 .of_wp fun A R s ⟨o,es,ep,ho,hdat,h⟩=>by
  show wpAny _ _ (dictSize d >>= _) _ _ s;unfold dictSize;refine zWk (zWk (wpAny_dictEntries ho hdat (zWm ?_)));show wpAny _ _ (Builtin.Dict.pendingCount d >>= _) _ _ s;refine zWk (wpAny_pendingCount_other hd (wpAny_ret_mkInt ?_));rw[Nat.add_zero];exact h
theorem zPi {Q:Value->Shared->Prop} (hd:(d==sysModules)=false) (hT:s.TypeIs (.ref d) "dict") (ho:s.heap.get? d=some o) (hdat:o.data=.dict es ep) (hfit:(es.size:Int)<2 ^ 63)
  (h:Q (.int es.size (s.toks+1)) { s with toks:=s.toks+1+1 }):wpAny (model prog w) A (call (.builtin "len") [.ref d]) Q E s:=by
 refine Calls.call_function_entry kind_len plain_len entry_len (args_len1 _) ?_;unfold Builtin.«len»;refine zWk (m:=oneArg "len" _) (zWm ?_);refine zWk (m:=callSpecial? (.ref d) (Str.ofString "__len__")) (zXM (name:=Str.ofString "__len__") hT F.slot_dict_len (call_meetsIn F.slot_dict_len hT F.entry_dict_len (F.args_dict_len_1 _) (zNP hd) ⟨o,es,ep,ho,hdat,?_⟩));show wpAny _ _ _ _ _ { s with toks:=s.toks+1 };refine zWk (zXd (zWm (zWk (wpAny_letGo ?_))));show wpAny _ _ (if ((es.size:Nat):Int)<0 then _ else _) _ _ _;rw[zW2 (by omega)];show wpAny _ _ (if ((es.size:Nat):Int)≥2 ^ 63 then _ else _) _ _ _;rw[zW2 (by omega)];exact zWk (wpAny_mkInt (zWm ⟨_,rfl,h⟩))
end
section
variable {X:Cx}
theorem zPw:zCX X (.builtin "len") (fun xs H Q=>∃ (p:Addr) (kvs:List (List Key × V)),xs=[.ref p]/\H p=some (.dT kvs)/\Q (.int kvs.length) H):=by
 intro zB s σ H xs us Q I r h;obtain ⟨p,kvs,rfl,hx,q⟩:=h;obtain ⟨u,rfl,rx⟩:=zD8 r;cases rx;have hn:=zF7;obtain ⟨z1,z2,xs,r,o,es,en,h1,h2,h3,h4,h5⟩:=(show zAl X.prog X.w H s.heap p (.dT kvs)from I.hok p _ hx);have hsz:es.size=kvs.length:=by rw[Paired.length r,<-zXT,h4,zWt]
 exact zPi z2 ⟨o,h1,h2.1⟩ h1 h3 (by omega) ⟨.int kvs.length,H,I.tok _,⟨s.toks+1,by rw[hsz]⟩,q⟩
def zIV:KB:=fun xs M=>match xs with
 |[.dat (.ref n)]=>match M[n]? with
  |some (.dicT kvs)=>some (.dat (.int kvs.length),M)
  |_=>none
 |_=>none
theorem zRH {K:PySem.W.Frag}:zGN K (fun xs H Q=>∃ (p:Addr) (kvs:List (List Key × V)),xs=[.ref p]/\H p=some (.dT kvs)/\Q (.int kvs.length) H) zIV:=by
 intro L M M' H H0 xs d vs Q c r hk q;unfold zIV at hk;split at hk
 ·rename_i n;split at hk
  ·rename_i kvs e1;cases hk;obtain ⟨v,rfl,r1⟩:=r.one;unfold zt Rep at r1;obtain ⟨a,rfl,e2⟩:=r1;obtain ⟨ws,e3,r3⟩:=c.obj n a _ e2 e1;have hl:=r3.length;refine ⟨a,ws,rfl,e3,?_⟩;have:=q L H (.int kvs.length) (.refl L H) c (zAs (L:=L) (H:=H));rw[<-hl]at this;exact this
  ·cases hk
 ·cases hk
theorem zUI {e:Expr} {p pos:Pos} {fa:FAE} (hg:Gl X "len") (hm:X.mg "len" = none) (ha:QAE X [e] fa) (he:starEach [e] X.env=(false,eval e X.env)::starEach [] X.env:=by rfl) (hpl:(backTo pos (starEach [] X.env)).any (·.1)=false:=by rfl):QE X (.Call (.Name "len" p) [e] [] pos) (fB zIV fa) :=
 zEY zRH zPw PySem.boot_len hg hm ha (by decide) (by decide) he hpl
end
end L3
namespace Law
open PySem PySem.Spec PyProof.Rows L2 L3
def zFQ:FS:=(zV (zAM 1 (fOp zAZ (fB zAx (zb (zE 0) zq)) (fC (.int 3))))
  (zV (zC2 (zBA (fSl (zE 0) zCL (zB3 (fC (.int 63))))) (gN 2) (zAM 1 (fOp zGb (fOp zAZ (fOp zAZ (fOp zOv (zE 1) (fC (.int 6364136223846793))) (fOp zGb (zE 2) (fOp zLr (fC (.int 10)) (fC (.int 30))))) (fC (.int 1442695040888963))) (fC (.int 2305843009213693951)))))
  (zAC (zAk (zF (toD (zAf [2] (zBA (fSl (zE 0) zCL (zB3 (fC (.int 63))))) (gN 2) (tst (fOp kGe (fB zPg (zb (zE 2) zq)) (fOp zLr (fC (.int 10)) (fC (.int 18))))) (fB zPg (zb (zE 2) zq)))) (zF (toD (zE 1)) zL))))))
def zCJ:FF:=zBc 3 zFQ
def zF2:FS:=(zV (zCY (zBh (tst (fOp kNe (fOp kIx (zE 0) (fC (.int 0))) (zAk zL))) (tst (fOp kEq (fOp kIx (fOp kIx (zE 0) (fC (.int 0))) (fC (.int 0))) (fC (.int 0))))) (zBm (fM zMc (fOp kIx (zE 0) (fC (.int 0))) (zF (toD (fC (.int 0))) zL))) 100)
  (zV (sIf (tst (fOp kNe (fOp kIx (zE 0) (fC (.int 0))) (zAk zL))) (zV (zAM 2 (fOp zGb (fOp kIx (fOp kIx (zE 0) (fC (.int 0))) (fC (.int 0))) (zE 1)))
  (zV (zNq (fOp zPx (fOp kIx (fOp kIx (zE 0) (fC (.int 0))) (fC (.int 0))) (zE 1)) (fOp kIx (zE 0) (fC (.int 0))) (fC (.int 0)))
  (zAC (zE 2)))) zA1)
  (zV (zNq (fOp zGb (fOp zAZ (fOp zOv (fOp kIx (zE 0) (fC (.int 1))) (fC (.int 6364136223846793))) (fC (.int 1442695040888963))) (fC (.int 2305843009213693951))) (zE 0) (fC (.int 1)))
  (zAC (fOp zGb (fOp zPx (fOp zGb (fOp zOv (fOp kIx (zE 0) (fC (.int 1))) (fOp kIx (zE 0) (fC (.int 1)))) (fC (.int 2305843009213693921))) (fC (.int 65537))) (zE 1))))))
def zd:FF:=zBc 3 zF2
structure Gen (M:Mem) (n k:Nat):Prop where
 ex:∃ (c:List Int) (s:Int),M[n]?=some (.lst [.ref k,.int s])/\M[k]?=some (.lst (c.map D.int))/\(∀ x∈c,0<=x)/\c.length<=63/\0<=s/\s<2305843009213693951
 ne:n≠k
 wf:∀ (j:Nat) u,M[j]?=some u->MO.und M.length u=true
structure Nx (M M':Mem) (n k:Nat):Prop where
 gen:Gen M' n k
 len:M'.length=M.length
 fr:∀ j,j≠n->j≠k->M'[j]?=M[j]?
theorem Nx.refl (h:Gen M n k):Nx M M n k:=⟨h,rfl,fun _ _ _=>rfl⟩
theorem Nx.trans {M M1 M2:Mem} {n k:Nat} (a:Nx M M1 n k) (b:Nx M1 M2 n k):Nx M M2 n k:=⟨b.gen,b.len.trans a.len,fun j h1 h2=>(b.fr j h1 h2).trans (a.fr j h1 h2)⟩
theorem zAj (n:Nat):∀ c:List Int,D.unds n (c.map D.int)=true
 |[]=>rfl
 |x::r=>by
  show (D.und n (D.int x)&&D.unds n (r.map D.int))=true;rw[zAj n r];rfl
theorem Gen.lt (h:Gen M n k):n<M.length/\k<M.length:=by
 obtain ⟨c,s,e1,e2,_⟩:=h.ex;exact ⟨(zWn.mp e1).1,(zWn.mp e2).1⟩
theorem Gen.put {M:Mem} (h:Gen M n k) {c:List Int} (hc:∀ x∈c,0<=x) (hl:c.length<=63) (h0:0<=s) (h1:s<2305843009213693951) :
  Nx M ((M.set k (.lst (c.map D.int))).set n (.lst [.ref k,.int s])) n k:=by
 obtain ⟨hn,hk⟩:=h.lt;refine ⟨⟨⟨c,s,?_,?_,hc,hl,h0,h1⟩,h.ne,fun j u e=>?_⟩,by simp,fun j h1 h2=>?_⟩
 ·rw[zXe (by simpa using hn)]
 ·rw[zXE h.ne,zXe hk]
 ·rw[List.length_set,List.length_set];rw[zYJ]at e;split at e
  ·split at e
   ·cases e;show D.unds _ _=true;unfold D.unds D.unds D.unds D.und;simp[hk]
   ·cases e
  ·rw[zYJ]at e;split at e
   ·rename_i z;subst z;cases e;exact zAj _ _
   ·exact h.wf j u e
 ·rw[zXE (Ne.symm h1),zXE (Ne.symm h2)]
theorem zIO {M:Mem} (h:M[k]?=some u):M.set k u=M:=by
 apply List.ext_getElem?;intro i;rw[zYJ];split
 ·rename_i e;subst e;rw[zWz (zWn.mp h).1];exact h.symm
 ·rfl
theorem zJE:∀ {a b:List Int},a.map D.int=b.map D.int->a=b
 |[],[],_=>rfl
 |[],_::_,h=>by cases h
 |_::_,[],h=>by cases h
 |x::a,y::b,h=>by
  rw[zW3,zW3]at h;have h1:=(zXo h).1;have h2:=zJE (zXo h).2;cases h1;rw[h2]
theorem at0 {x:D} {xs:List D}:atI (x::xs) 0=some x:=zMw (k:=0) rfl
theorem at1 {x y:D} {xs:List D}:atI (x::y::xs) 1=some y:=zMw (k:=1) rfl
theorem zGk (h:Gen M n k) (h0:0<m) (h1:m<1073741824) :
  Ok (zd [.ref n,.int m] M) fun d M'=>(∃ i,d=.int i/\0<=i/\i<m)/\Nx M M' n k:=by
 unfold zd;rw[zAS];unfold zF2;show OkS (zV _ _ [some (.ref n),some (.int m),none] M) _;rw[zU];have st:∀ {M:Mem} {c:List Int} {s:Int} {σ:Sd} {P:EV->Mem->Prop},σ[0]?=some (some (.ref n))->M[n]?=some (.lst [.ref k,.int s])->P (.dat (.ref k)) M->Ok (fOp kIx (zE 0) (fC (.int 0)) σ M) P:=fun hσ hM p=>
  zA3.mpr (zAi.mpr ⟨_,hσ,zDA.mpr (zQh (zAJ hM) at0 p)⟩)
 have sd:∀ {M:Mem} {s:Int} {σ:Sd} {P:EV->Mem->Prop},σ[0]?=some (some (.ref n))->M[n]?=some (.lst [.ref k,.int s])->P (.dat (.int s)) M->Ok (fOp kIx (zE 0) (fC (.int 1)) σ M) P:=fun hσ hM p=>
  zA3.mpr (zAi.mpr ⟨_,hσ,zDA.mpr (zQh (zAJ hM) at1 p)⟩)
 have hd:∀ {M:Mem} {c:List Int} {x s:Int} {σ:Sd} {P:EV->Mem->Prop},σ[0]?=some (some (.ref n))->M[n]?=some (.lst [.ref k,.int s])->M[k]?=some (.lst ((x::c).map D.int))->P (.dat (.int x)) M->Ok (fOp kIx (fOp kIx (zE 0) (fC (.int 0))) (fC (.int 0)) σ M) P:=fun {M c x s σ P} hσ hM hK p=>
  zA3.mpr (st (c:=c) hσ hM (zDA.mpr (zQh (zAJ hK) at0 p)))
 have ne:∀ {M:Mem} {c:List Int} {s:Int} {σ:Sd} {P:Bool->Mem->Prop},σ[0]?=some (some (.ref n))->M[n]?=some (.lst [.ref k,.int s])->M[k]?=some (.lst (c.map D.int))->P (!c.isEmpty) M->Ok (tst (fOp kNe (fOp kIx (zE 0) (fC (.int 0))) (zAk zL)) σ M) P:=fun {M c s σ P} hσ hM hK p=>by
  refine zKG.mpr (zA3.mpr (st (c:=c) hσ hM (zLG.mpr (zDE.mpr ⟨zXW _,?_⟩))));rw[zK7 (zBl hK) (by intro d e;cases e;rfl)];rw[zEP];simpa using p
 have W:∀ (fuel m':Nat) (σ:Sd) (M':Mem),m'<fuel->((σ=[some (.ref n),some (.int m),none]/\Nx M M' n k) /\ ∃ (c:List Int) (s:Int),M'[n]?=some (.lst [.ref k,.int s])/\M'[k]?=some (.lst (c.map D.int))/\c.length=m') ->
   OkS (zCY (zBh (tst (fOp kNe (fOp kIx (zE 0) (fC (.int 0))) (zAk zL))) (tst (fOp kEq (fOp kIx (fOp kIx (zE 0) (fC (.int 0))) (fC (.int 0))) (fC (.int 0))))) (zBm (fM zMc (fOp kIx (zE 0) (fC (.int 0))) (zF (toD (fC (.int 0))) zL))) fuel σ M')
    (fun o σ1 M1=>o=.nx/\σ1=[some (.ref n),some (.int m),none]/\Nx M M1 n k):=by
  intro fuel m' σ M' hlt hI;refine zFZ (I:=fun m' σ M'=>(σ=[some (.ref n),some (.int m),none]/\Nx M M' n k) /\ ∃ (c:List Int) (s:Int),M'[n]?=some (.lst [.ref k,.int s])/\M'[k]?=some (.lst (c.map D.int))/\c.length=m') ?_ fuel m' σ M' hlt hI;rintro m' σ M' ⟨⟨rfl,nx⟩,c,s,e1,e2,hl⟩;refine zSa.mpr (ne rfl e1 e2 ?_);cases c with
  |nil=>simp;exact nx
  |cons x c=>
   simp only[List.isEmpty_cons,Bool.not_false,if_true];refine zKG.mpr (zA3.mpr (hd rfl e1 e2 (zDA.mpr (zMp.mpr (zEP.mpr ?_)))));by_cases hx:x=0
   ·rw[zWz (by simpa using hx)];refine zDN.mpr (zNs.mpr (st (c:=c) rfl e1 ⟨⟨_,zBl e2⟩,zBL.mpr (zBN.mpr (zDA.mpr (zZ.mpr (zDE.mpr ?_))))⟩));rw[zW3]at e2;rw[zUa e2];refine ⟨c.length,by rw[<-hl];simp,?_⟩;obtain ⟨c',s',z1,z2,z3,z4,z5,z6⟩:=nx.gen.ex;rw[e1]at z1;cases z1;rw[e2]at z2;have hcc:c'=x::c:=by
     have:(x::c).map D.int=c'.map D.int:=by have:=z2;simp only[Option.some.injEq,MO.lst.injEq]at this;simpa using this
     exact (zJE this).symm
    subst hcc;have P:=nx.gen.put (c:=c) (s:=s) (fun y hy=>z3 y (zWx _ hy)) (by simp at z4;omega) z5 z6;have q:((M'.set k (.lst (c.map D.int))).set n (.lst [.ref k,.int s]))=M'.set k (.lst (c.map D.int)):=zIO (by rw[zXE (Ne.symm nx.gen.ne)];exact e1);rw[q]at P;have hk:=nx.gen.lt.2;refine ⟨⟨rfl,nx.trans P⟩,c,s,?_,?_,rfl⟩
    ·rw[zXE (Ne.symm nx.gen.ne)];exact e1
    ·rw[zXe hk]
   ·rw[zW2 (by simpa using hx)];first|exact ⟨rfl,rfl,nx⟩|exact ⟨trivial,trivial,nx⟩|simpa using nx
 obtain ⟨c,s,e1,e2,e3,e4,_⟩:=h.ex;refine OkS.mono (W 100 c.length _ M (by omega) ⟨⟨rfl,.refl h⟩,c,s,e1,e2,rfl⟩) ?_;rintro o σ M1 ⟨rfl,rfl,nx⟩;rw[zg,zU,zBO];obtain ⟨c,s,e1,e2,e3,e4,e5,e6⟩:=nx.gen.ex;refine ne rfl e1 e2 ?_;cases c with
 |nil=>
  simp only[List.isEmpty_nil,Bool.not_true,zXl,if_false];rw[zBK,zg,zU,zLF];refine zA3.mpr (zA3.mpr (zA3.mpr (sd rfl e1 (zDA.mpr (zQY.mpr ⟨by simp[zPL] <;> omega,zDA.mpr (zG9.mpr (zDA.mpr (zHS.mpr ⟨by decide,?_⟩)))⟩)))));rw[zZ];refine zAi.mpr ⟨_,rfl,zDA.mpr ?_⟩;rw[zZ];have hs0:0<=(s*6364136223846793+1442695040888963) % 2305843009213693951:=Int.emod_nonneg _ (by decide);have hs1:(s*6364136223846793+1442695040888963) % 2305843009213693951<2305843009213693951:=Int.emod_lt_of_pos _ (by decide);generalize (s*6364136223846793+1442695040888963) % 2305843009213693951=s' at hs0 hs1;have P:=nx.gen.put (c:=[]) (s:=s') (fun _ h=>by cases h) (by simp) hs0 hs1;rw[zIO (show M1[k]?=some (.lst (([]:List Int).map D.int))from e2)]at P;refine ⟨_,zIY (k:=1) e1 (by simp),?_⟩;rw[zg,zA8];have e1':(M1.set n (.lst [.ref k,.int s']))[n]?=some (.lst [.ref k,.int s']):=zXe nx.gen.lt.1;refine zA3.mpr (zA3.mpr (zA3.mpr (zA3.mpr (sd rfl e1' (sd rfl e1' (zQY.mpr ⟨by simp[zPL] <;> omega,zDA.mpr (zHS.mpr ⟨by decide,zDA.mpr (zRg.mpr ⟨by decide,zAi.mpr ⟨_,rfl,zHS.mpr ⟨h0,?_⟩⟩⟩)⟩)⟩))))));rw[zZ];exact ⟨⟨_,rfl,Int.emod_nonneg _ (by omega),Int.emod_lt_of_pos _ h0⟩,nx.trans P⟩
 |cons x c=>
  simp only[List.isEmpty_cons,Bool.not_false,if_true];rw[zU,zm];refine zA3.mpr (hd rfl e1 e2 (zAi.mpr ⟨_,rfl,zHS.mpr ⟨h0,?_⟩⟩));rw[zZ,zg,zU,zLF];refine zA3.mpr (hd rfl e1 e2 (zAi.mpr ⟨_,rfl,zRg.mpr ⟨⟨h0,h1⟩,?_⟩⟩));rw[zZ];refine st (c:=c) rfl e1 (zDA.mpr ?_);rw[zZ];refine ⟨_,zIY (k:=0) e2 (by simp),?_⟩;rw[zg,zA8];refine zAi.mpr ⟨_,rfl,?_⟩;rw[zZ,zEM];have hx:=e3 x zWy;have P:=nx.gen.put (c:=(x / m)::c) (s:=s) (fun y hy=>by
   rcases zWw.mp hy with z|z
   ·subst z;exact Int.ediv_nonneg hx (by omega)
   ·exact e3 y (zWx _ z)) (by simpa using e4) e5 e6
  rw[zIO (k:=n) (by rw[zXE (Ne.symm nx.gen.ne)];exact e1)]at P;exact ⟨⟨_,rfl,Int.emod_nonneg _ (by omega),Int.emod_lt_of_pos _ h0⟩,nx.trans P⟩
theorem zMI (ns:List Int) (lo hi:Option Int):∃ c:List Int,L3.zC4 (ns.map D.int) lo hi=c.map D.int/\c.length<=ns.length:=by
 refine ⟨(ns.drop (HT.sIx ns.length 0 lo)).take (HT.sIx ns.length ns.length hi-HT.sIx ns.length 0 lo),?_,?_⟩
 ·unfold L3.zC4;rw[zWt,List.map_take,List.map_drop]
 ·rw[zX8,zZD];omega
theorem zFp (h:x::r=c.map D.int):∃ y c',c=y::c'/\x=.int y/\r=c'.map D.int:=by
 cases c with
 |nil=>cases h
 |cons y c'=>rw[zW3]at h;exact ⟨y,c',rfl,(zXo h).1,(zXo h).2⟩
theorem zA2:zBd none xs M:=trivial
theorem zAY (h:n<=100000):n<=sizeLine:=zXB h (by decide)
theorem zQF {ns:List Int} (h:ns.length<=63):Ok (zCJ [.ref 0] [.fro (ns.map D.int)]) fun d M'=>d=.ref 2/\Gen M' 2 1/\M'[0]?=some (.fro (ns.map D.int))/\M'.length=3:=by
 unfold zCJ;rw[zAS];unfold zFQ;show OkS (zV _ _ [some (.ref 0),none,none] _) _;have e0:([.fro (ns.map D.int)]:Mem)[0]?=some (.fro (ns.map D.int)):=rfl;obtain ⟨cut,ec,lc⟩:=zMI ns none (some 63);have sl:∀ {σ:Sd} {P:EV->Mem->Prop},σ[0]?=some (some (.ref 0))->P (.fl (cut.map D.int)) [.fro (ns.map D.int)]->Ok (fSl (zE 0) zCL (zB3 (fC (.int 63))) σ [.fro (ns.map D.int)]) P:=fun hσ p=>by
  refine zR3.mpr (zAi.mpr ⟨_,hσ,zIU.mpr (zIl.mpr (zDA.mpr (zIs.mpr ?_)))⟩);rw[zKd (zKq e0) rfl,ec];exact p
 rw[zU,zm];refine zA3.mpr (zRC.mpr (zFR.mpr (zAi.mpr ⟨_,rfl,zGl.mpr ((zTq (zSy e0)).mpr (zDA.mpr (zG9.mpr ?_)))⟩)));rw[zZ,zg,zU,zBV];obtain ⟨x,M1,ex,px⟩:=sl (σ:=[some (.ref 0),some (.int (((ns.map D.int).length:Int)+3)),none]) (P:=fun x M=>x=.fl (cut.map D.int)/\M=[.fro (ns.map D.int)]) rfl ⟨rfl,rfl⟩;obtain ⟨rfl,rfl⟩:=px;refine ⟨_,_,_,zGZ ex zE9,?_⟩;refine zBr (I:=fun r σ M=>M=[.fro (ns.map D.int)]/\(∃ c:List Int,r=c.map D.int) /\ ∃ s y,σ=[some (.ref 0),some (.int s),y]/\0<=s/\s<2305843009213693951) ?_ ?_ _ _ _ ⟨rfl,⟨cut,rfl⟩,_,none,rfl,by simp;omega,by simp;omega⟩
 ·rintro x r σ M ⟨rfl,⟨c,hc⟩,s,y,rfl,h0,h1⟩;obtain ⟨z,c',rfl,rfl,rfl⟩:=zFp hc;refine ⟨zA2,_,rfl,?_⟩;rw[zm];refine zA3.mpr (zA3.mpr (zA3.mpr (zA3.mpr (zAi.mpr ⟨_,rfl,zDA.mpr (zQY.mpr ⟨by simp[zPL],?_⟩)⟩))));refine zA3.mpr (zAi.mpr ⟨_,rfl,zA3.mpr (zDA.mpr (zDA.mpr (zQx.mpr ⟨by decide,zHS.mpr ⟨by decide,zG9.mpr (zDA.mpr (zG9.mpr (zDA.mpr (zHS.mpr ⟨by decide,?_⟩))))⟩⟩)))⟩);rw[zZ];exact ⟨rfl,⟨c',rfl⟩,_,_,rfl,Int.emod_nonneg _ (by decide),Int.emod_lt_of_pos _ (by decide)⟩
 ·rintro σ M ⟨rfl,_,s,y,rfl,h0,h1⟩;refine ⟨zA2,?_⟩;rw[zg,zA8,zLG,zBL,zBN,zGP];obtain ⟨x,M1,ex,px⟩:=sl (σ:=[some (.ref 0),some (.int s),y]) (P:=fun x M=>x=.fl (cut.map D.int)/\M=[.fro (ns.map D.int)]) rfl ⟨rfl,rfl⟩;obtain ⟨rfl,rfl⟩:=px;refine ⟨_,_,_,zGZ ex zE9,by rw[zWt];exact zAY (by omega),?_⟩;refine Ok.mono (zFK (I:=fun r acc M=>M=[.fro (ns.map D.int)]/\(∃ c:List Int,r=c.map D.int)/\r.length+acc.length<=63 /\ ∃ b:List Int,acc=b.map D.int /\ ∀ x∈b,0<=x) (Q:=fun acc M=>M=[.fro (ns.map D.int)]/\acc.length<=63 /\ ∃ b:List Int,acc=b.map D.int /\ ∀ x∈b,0<=x) ?_ ?_ _ [] _ ⟨rfl,⟨cut,rfl⟩,by simp;omega,[],rfl,fun _ h=>by cases h⟩) ?_
  ·rintro x r acc M ⟨rfl,⟨c,hc⟩,hl,b,rfl,hb⟩;obtain ⟨z,c',rfl,rfl,rfl⟩:=zFp hc;refine ⟨zA2,_,rfl,?_⟩;refine zKG.mpr (zA3.mpr (zRC.mpr (zFR.mpr (zAi.mpr ⟨_,rfl,zGl.mpr (zTd.mpr (zA3.mpr (zDA.mpr (zDA.mpr (zQx.mpr ⟨by decide,zWg.mpr (zEP.mpr ?_)⟩)))))⟩))));by_cases hz:(10:Int) ^ (18:Int).toNat<=(if z<0 then -z else z)
   ·rw[zWz (by simpa using hz)];refine zRC.mpr (zFR.mpr (zAi.mpr ⟨_,rfl,zGl.mpr (zTd.mpr (zZ.mpr ⟨rfl,⟨c',rfl⟩,?_,b++[if z<0 then -z else z],by simp,?_⟩))⟩))
    ·simp at hl ⊢;omega
    ·intro y hy;rcases zXA.mp hy with q|q
     ·exact hb y q
     ·have:y=if z<0 then -z else z:=by simpa using q
      rw[this];split <;> omega
   ·rw[zW2 (by simpa using hz)];exact ⟨rfl,⟨c',rfl⟩,by simp at hl ⊢;omega,b,rfl,hb⟩
  ·rintro acc M ⟨rfl,_,hl,hb⟩;exact ⟨zA2,rfl,by simpa using hl,hb⟩
  ·rintro ys M ⟨rfl,hl,b,hb,hp⟩;rw[List.nil_append]at hb hl;subst hb;rw[zHt,zBL,zBN,zAi];refine ⟨_,rfl,?_⟩;rw[zZ,zDE];refine ⟨zAY (by simp),?_⟩;rw[zHt];refine ⟨rfl,⟨⟨b,s,rfl,rfl,hp,by simpa using hl,h0,h1⟩,by decide,?_⟩,rfl,rfl⟩;intro j u e;match j,e with
   |0,e=>cases e;exact zAj _ _
   |1,e=>cases e;exact zAj _ _
   |2,e=>cases e;rfl
   |j+3,e=>simp at e
mutual
theorem zD7 (h:a<=b):∀ {d:D},D.und a d=true->D.und b d=true
 |.non,_=>by unfold D.und;rfl
 |.bl _,_=>by unfold D.und;rfl
 |.int _,_=>by unfold D.und;rfl
 |.str _,_=>by unfold D.und;rfl
 |.tup ds,e=>by unfold D.und at e ⊢;exact zDJ h e
 |.ref k,e=>by unfold D.und at e ⊢;simp at e ⊢;omega
theorem zDJ (h:a<=b):∀ {ds:List D},D.unds a ds=true->D.unds b ds=true
 |[],_=>by unfold D.unds;rfl
 |d::ds,e=>by
  unfold D.unds at e ⊢;rw[zXK]at e ⊢;exact ⟨zD7 h e.1,zDJ h e.2⟩
end
theorem zJ7 (h:a<=b) (e:MO.und a u=true):MO.und b u=true:=by
 cases u with
 |lst xs=>exact zDJ h e
 |fro xs=>exact zDJ h e
 |set xs=>exact zDJ h e
 |dict kvs=>
  unfold MO.und at e ⊢;rw[zXL]at e ⊢;intro p hp;have:=e p hp;rw[zXK]at this ⊢;exact ⟨zD7 h this.1,zD7 h this.2⟩
 |dicT kvs=>
  unfold MO.und at e ⊢;rw[zXL]at e ⊢;intro p hp;have:=e p hp;rw[zXK]at this ⊢;exact ⟨zD7 h this.1,zD7 h this.2⟩
theorem zId:∀ {xs ys:List D},D.unds n (xs++ys)=(D.unds n xs&&D.unds n ys)
 |[],ys=>by simp[D.unds]
 |x::xs,ys=>by
  show (D.und n x&&D.unds n (xs++ys))=((D.und n x&&D.unds n xs)&&D.unds n ys);rw[zId,Bool.and_assoc]
theorem zIj:∀ {xs:List D},(∀ x∈xs,D.und n x=true)->D.unds n xs=true
 |[],_=>rfl
 |x::xs,h=>by
  show (D.und n x&&D.unds n xs)=true;rw[h x zWy,zIj fun y hy=>h y (zWx _ hy)];rfl
theorem zB9 (c:List Int):D.und n (.tup (c.map D.int))=true:=by unfold D.und;exact zAj n c
theorem Gen.app (h:Gen A n k) (hu:∀ u∈us,MO.und (A.length+us.length) u=true):Gen (A++us) n k:=by
 obtain ⟨c,s,e1,e2,r⟩:=h.ex;obtain ⟨hn,hk⟩:=h.lt;refine ⟨⟨c,s,by rw[zWr hn];exact e1,by rw[zWr hk];exact e2,r⟩,h.ne,fun j u e=>?_⟩;rw[zW0];by_cases hj:j<A.length
 ·rw[zWr hj]at e;exact zJ7 (by omega) (h.wf j u e)
 ·rw[zXu (by omega)]at e;exact hu u (List.mem_of_getElem? e)
theorem zAe (h:Gen M n k) (ha:fa σ M=some (.dat (.ref n),M)) (hb:fb σ M=some (.dat (.int m),M)) (h0:0<m) (h1:m<1073741824)
  (q:∀ i M',0<=i->i<m->Nx M M' n k->P (.dat (.int i)) M'):Ok (zY zd (zF (toD fa) (zF (toD fb) zL)) σ M) P:=by
 rw[zC8,zBL,zBN];refine ⟨_,_,ha,?_⟩;rw[zZ,zBL,zBN];refine ⟨_,_,hb,?_⟩;rw[zZ,zDE];refine Ok.mono (zGk h h0 h1) ?_;rintro d M' ⟨⟨i,rfl,i0,i1⟩,nx⟩;exact q i M' i0 i1 nx
def zDQ (i:Nat):Nat->List D
 |0=>[]
 |n+1=> .int i::zDQ (i+1) n
theorem zKM (n:Nat):∀ i,((List.range' i n).map fun (k:Nat)=>D.int k)=zDQ i n:=by
 induction n with
 |zero=>intro i;rfl
 |succ n ih=>intro i;rw[List.range'_succ,zW3,ih];rfl
theorem zI2 (n:Nat):((List.range n).map fun (k:Nat)=>D.int k)=zDQ 0 n:=by rw[List.range_eq_range',zKM]
theorem zDz:∀ (n i:Nat),(zDQ i n).length=n
 |0,_=>rfl
 |n+1,i=>by show (zDQ (i+1) n).length+1=_;rw[zDz n]
theorem zGA (n:Nat) (I:Nat->Sd->Mem->Prop)
  (hs:∀ i σ M,i<n->I i σ M -> ∃ σ1,g (.int i) σ=some σ1/\OkS (b σ1 M) fun o σ2 M2=>match o with|.nx=>I (i+1) σ2 M2|.cnt=>I (i+1) σ2 M2|.brk=>P .nx σ2 M2|.ret d=>P (.ret d) σ2 M2)
  (he:∀ σ M,I n σ M->P .nx σ M) (σ:Sd) (M:Mem) (h0:I 0 σ M):OkS (zDi g b all none (zDQ 0 n) σ M) P:=by
 refine zBr (I:=fun r σ M=>∃ i,i<=n/\r=zDQ i (n-i)/\I i σ M) ?_ ?_ _ _ _ ⟨0,zXW _,by simp,h0⟩
 ·rintro x r σ M ⟨i,hi,e,hI⟩;have hlt:i<n:=by
   rcases Nat.lt_or_ge i n with z|z
   ·exact z
   ·rw[show n-i=0 by omega]at e;cases e
  rw[show n-i=(n-(i+1))+1 by omega]at e;obtain ⟨rfl,rfl⟩:=zXo e;obtain ⟨σ1,e1,q⟩:=hs i σ M hlt hI;refine ⟨zA2,σ1,e1,OkS.mono q ?_⟩;intro o σ2 M2 z;cases o with
  |nx=>exact ⟨i+1,hlt,rfl,z⟩
  |cnt=>exact ⟨i+1,hlt,rfl,z⟩
  |brk=>exact z
  |ret d=>exact z
 ·rintro σ M ⟨i,hi,e,hI⟩;have:i=n:=by
   rcases Nat.lt_or_ge i n with z|z
   ·rw[show n-i=(n-(i+1))+1 by omega]at e;cases e
   ·omega
  subst this;exact ⟨zA2,he σ M hI⟩
theorem zQc (n:Nat) (I:Nat->List D->Mem->Prop)
  (hs:∀ i acc M,i<n->I i acc M -> ∃ σ1,g (.int i) σ=some σ1/\Ok (te σ1 M) (zH1 fun d M2=>I (i+1) (acc++[d]) M2)) (h0:I 0 [] M) :
  Ok (zBf g zAH te σ all none (zDQ 0 n) M) fun ys M1=>I n ys M1:=by
 refine Ok.mono (zFK (I:=fun r acc M=>∃ i,i<=n/\r=zDQ i (n-i)/\I i acc M) (Q:=fun acc M=>I n acc M) ?_ ?_ _ [] _ ⟨0,zXW _,by simp,h0⟩) fun ys M1 q=>by simpa using q
 ·rintro x r acc M ⟨i,hi,e,hI⟩;have hlt:i<n:=by
   rcases Nat.lt_or_ge i n with z|z
   ·exact z
   ·rw[show n-i=0 by omega]at e;cases e
  rw[show n-i=(n-(i+1))+1 by omega]at e;obtain ⟨rfl,rfl⟩:=zXo e;obtain ⟨σ1,e1,q⟩:=hs i acc M hlt hI;refine ⟨zA2,σ1,e1,zLK.mpr ?_⟩;rw[zWz rfl];refine Ok.mono q ?_;intro x M2 z;cases x with
  |dat d=>exact ⟨i+1,hlt,rfl,z⟩
  |fl xs=>exact ⟨i+1,hlt,rfl,z⟩
 ·rintro acc M ⟨i,hi,e,hI⟩;have:i=n:=by
   rcases Nat.lt_or_ge i n with z|z
   ·rw[show n-i=(n-(i+1))+1 by omega]at e;cases e
   ·omega
  subst this;exact ⟨zA2,hI⟩
theorem zBs (e:f σ M=some (.dat (.int j),M)) (h1:0<=j) (h2:j<2 ^ 62):zAc (zF (toD f) zL) σ M=some (zDQ 0 j.toNat,none,M):=by
 have e':(zF (toD f) zL) σ M=some ([.int j],M):=by unfold zF toD zL;rw[e]
 rw[zNe e' h1 h2,zI2]
def mD (zA:List (List Int)):D:=.tup (zA.map fun r=> .tup (r.map D.int))
structure IsM (zA:List (List Int)) (l:Nat):Prop where
 r0:0<zA.length
 l0:0<l
 row:∀ r∈zA,r.length=l /\ ∀ g∈r,0<=g/\g<zA.length
theorem zK5 (zA:List (List Int)):D.und n (mD zA)=true:=by
 unfold mD D.und;refine zIj fun x hx=>?_;obtain ⟨r,_,rfl⟩:=zW1.mp hx;exact zB9 r
theorem zf {α:Type} {x:Option (α × Mem)} {a:α} {M:Mem} (h:Ok x fun b M'=>b=a/\M'=M):x=some (a,M):=by
 obtain ⟨b,M',e,rfl,rfl⟩:=h;exact e
theorem zK {α:Type} {x:Option (α × Mem)} {a:α} {M:Mem} {P:α->Mem->Prop} (h:x=some (a,M)) (p:P a M):Ok x P:=⟨a,M,h,p⟩
theorem zA9 {c:FT} {a g:FS} {σ:Sd} {M:Mem} {P:Out->Sd->Mem->Prop} (hc:c σ M=some (false,M)) (h:OkS (g σ M) P):OkS (zV (sIf c a zA1) g σ M) P:=by
 rw[zU,zBO];refine zK hc ?_;rw[zW2 (by decide),zBK];exact h
theorem zDX {c:FT} {a:FS} {σ:Sd} {M:Mem} {P:Out->Sd->Mem->Prop} (hc:c σ M=some (false,M)) (h:P .nx σ M):OkS (sIf c a zA1 σ M) P:=by
 rw[zBO];refine zK hc ?_;rw[zW2 (by decide),zBK];exact h
theorem zBG {f:FE} {σ:Sd} {M M':Mem} {k:Bool} (h:f σ M=some (.dat (.bl k),M')):zBk (tst f) σ M=some (!k,M'):=by
 unfold zBk tst;rw[h]
theorem zi {f:FE} {σ:Sd} {M:Mem} {d:D} (h:f σ M=some (.dat d,M)):zF (toD f) zL σ M=some ([d],M):=by
 unfold zF toD zL;rw[h]
theorem ze {f:FE} {g:FA} {σ:Sd} {M:Mem} {d:D} {ds:List D} (h:f σ M=some (.dat d,M)) (hg:g σ M=some (ds,M)):zF (toD f) g σ M=some (d::ds,M):=by
 unfold zF toD;rw[h];dsimp only;rw[hg]
theorem zr {m:FF} {a:FA} {σ:Sd} {M M':Mem} {ds:List D} {d:D} (h:a σ M=some (ds,M)) (hm:m ds M=some (d,M')):zY m a σ M=some (.dat d,M'):=by
 unfold zY;rw[h];dsimp only;rw[hm]
theorem zS {k:K2} {f g:FE} {σ:Sd} {M:Mem} {x y:EV} {r:Option (EV × Mem)} (hf:f σ M=some (x,M)) (hg:g σ M=some (y,M)) (hk:k x y M=r):fOp k f g σ M=r:=by
 unfold fOp;rw[hf];dsimp only;rw[hg];exact hk
theorem zCA {x:EV} {xs:List D} {i:Int} {d:D} {M:Mem} (h:zBJ M x=some xs) (hd:atI xs i=some d):kIx x (.dat (.int i)) M=some (.dat d,M):=zf (zQh h hd ⟨rfl,rfl⟩)
theorem zCG {f:FE} {x:EV} {xs:List D} {σ:Sd} {M:Mem} (hf:f σ M=some (x,M)) (h:zBJ M x=some xs):fB zAx (zb f zq) σ M=some (.dat (.int xs.length),M):=by
 unfold fB zb zq;rw[hf];exact zf ((zTq h).mpr ⟨rfl,rfl⟩)
def zAt (zA:List (List Int)) (h g:Int):Int:=(zA.getD h.toNat []).getD g.toNat 0
theorem zP5 {zA:List (List Int)} {h:Int} (h0:0<=h) (h1:h<zA.length):atI (zA.map fun r=>D.tup (r.map D.int)) h=some (.tup ((zA.getD h.toNat []).map D.int)):=by
 refine zHK h0 ?_;rw[zW7,zWp,zWo (by omega)];rfl
theorem zNR {r:List Int} {g:Int} (h0:0<=g) (h1:g<r.length):atI (r.map D.int) g=some (.int (r.getD g.toNat 0)):=by
 refine zHK h0 ?_;rw[zW7,zWp,zWo (by omega)];rfl
theorem IsM.get {zA:List (List Int)} {l:Nat} (m:IsM zA l) {h:Int} (h0:0<=h) (h1:h<zA.length):(zA.getD h.toNat []).length=l /\ ∀ g∈zA.getD h.toNat [],0<=g/\g<zA.length:=by
 refine m.row _ ?_;rw[zWp,zWo (by omega)];exact zXI _
theorem IsM.step {zA:List (List Int)} {l:Nat} (m:IsM zA l) {h g:Int} (h0:0<=h) (h1:h<zA.length) (g0:0<=g) (g1:g<l):0<=zAt zA h g/\zAt zA h g<zA.length:=by
 obtain ⟨q1,q2⟩:=m.get h0 h1;refine q2 _ ?_;unfold zAt;rw[zWp (l:=zA.getD h.toNat []),zWo (by omega)];exact zXI _
theorem IsM.ix {zA:List (List Int)} {l:Nat} (m:IsM zA l) {h g:Int} (h0:0<=h) (h1:h<zA.length) (g0:0<=g) (g1:g<l) {f1 f2 f3:FE} {σ:Sd} {M:Mem} (e1:f1 σ M=some (.dat (mD zA),M)) (e2:f2 σ M=some (.dat (.int h),M)) (e3:f3 σ M=some (.dat (.int g),M)) :
  fOp kIx (fOp kIx f1 f2) f3 σ M=some (.dat (.int (zAt zA h g)),M):=by
 obtain ⟨q1,_⟩:=m.get h0 h1;exact zS (zS e1 e2 (zCA zAN (zP5 h0 h1))) e3 (zCA zAN (zNR g0 (by omega)))
theorem zUX {σ:Sd} {M:Mem} {ns:List Int} {j:Nat} {i:Int} (hσ:σ[i.toNat]?=σ[i.toNat]?) (hi:zE j σ M=some (.dat (.ref 0),M)) (h0:M[0]?=some (.fro (ns.map D.int))):∃ c:List Int,fSl (zE j) zCL (zB3 (fC (.int i))) σ M=some (.fl (c.map D.int),M)/\c.length<=ns.length:=by
 obtain ⟨c,ec,lc⟩:=zMI ns none (some i);refine ⟨c,zf (zR3.mpr (zK hi (zIU.mpr (zIl.mpr (zDA.mpr (zIs.mpr ?_)))))),lc⟩;rw[zKd (zKq h0) rfl,ec];exact ⟨rfl,rfl⟩
theorem zBq (hf:f σ M=some (x,M)) (ht:zIJ M x=some t):zEG T f σ M=some (.dat (.bl (isT t T)),M):=by
 unfold zEG;rw[hf];dsimp only;rw[ht]
theorem zAU (h:f σ M=some (.dat (.bl k),M')):tst f σ M=some (k,M'):=by unfold tst;rw[h]
theorem zAP (hc:c σ M=some (true,M)) (h:OkS (a σ M) (nxP (fun σ1 M1=>OkS (g σ1 M1) P) P)):OkS (zV (sIf c a b) g σ M) P:=by
 rw[zU,zBO];refine zK hc ?_;rw[zWz rfl];exact h
theorem zx (hf:f σ M=some (.dat d,M)) (h:P (.ret d) σ M):OkS (zAC f σ M) P:=by
 rw[zA8];exact zK hf h
theorem zQU (h:(zHU d).isSome=true):kEq (.dat d) (.dat d) M=some (.dat (.bl true),M):=by
 cases d with
 |tup _=>cases h
 |ref _=>cases h
 |non=>rfl
 |bl k=>cases k <;> rfl
 |int i=>show some (EV.dat (.bl (decide (V.int i=V.int i))),M)=_;simp
 |str x=>show some (EV.dat (.bl (decide (V.str x=V.str x))),M)=_;simp
theorem zCT {α:Type} (as:List α) (enc out:α->D) (hi:fi σ M=some (as.map enc,gd,M)) (hgd:zBd gd (as.map enc) M) (hz:as.length<=100000)
  (he:∀ a∈as,∃ σ1,g (enc a) (zBo own σ)=some σ1/\te σ1 M=some (.dat (out a),M)):zAf own fi g zAH te σ M=some (.fl (as.map out),M):=by
 refine zf (zGP.mpr ⟨_,_,_,hi,by rw[zWt];exact zAY hz,?_⟩);refine Ok.mono (zFK (I:=fun r acc M'=>M'=M /\ ∃ ra rb:List α,as=rb++ra/\r=ra.map enc/\acc=rb.map out) (Q:=fun acc M'=>M'=M/\acc=as.map out) ?_ ?_ _ [] _ ⟨rfl,as,[],rfl,rfl,rfl⟩) ?_
 ·rintro x r acc M' ⟨rfl,ra,rb,hab,hr,rfl⟩;cases ra with
  |nil=>cases hr
  |cons a ra=>
   rw[zW3]at hr;obtain ⟨rfl,rfl⟩:=zXo hr;obtain ⟨σ1,e1,e2⟩:=he a (by rw[hab];simp);refine ⟨hgd,σ1,e1,zLK.mpr ?_⟩;rw[zWz rfl];refine zK e2 ?_;rw[zZ];exact ⟨rfl,ra,rb++[a],by rw[hab];simp,rfl,by simp⟩
 ·rintro acc M' ⟨rfl,ra,rb,hab,hr,rfl⟩;cases ra with
  |nil=>rw[zXU]at hab;subst hab;exact ⟨hgd,rfl,rfl⟩
  |cons a ra=>cases hr
 ·rintro ys M' ⟨rfl,h⟩;rw[List.nil_append]at h;subst h;exact ⟨rfl,rfl⟩
theorem zGM (hf:f σ M=some (x,M)) (h:zBJ M x=some xs):fB zB5 (zb f zq) σ M=some (.dat (.tup xs),M):=by
 unfold fB zb zq;rw[hf];exact zf ((zKi h).mpr ⟨rfl,rfl⟩)
theorem zDu (hf:f σ M=some (.dat (.tup xs),M)):zBA f σ M=some (xs,none,M):=zGZ hf zAN
theorem zNI (n:Nat):zDQ 0 n=(List.range n).map fun (k:Nat)=>D.int k:=(zI2 n).symm
theorem zJ2 (e:f σ M=some (.dat (.int j),M)) (h1:0<=j) (h2:j<2 ^ 62):zAc (zF (toD f) zL) σ M=some ((List.range j.toNat).map (fun (k:Nat)=>D.int k),none,M):=by
 rw[zBs e h1 h2,zNI]
theorem zC3 (hf:f σ M=some (.dat d,M)) (h:OkS (g (σ.set i (some d)) M) P):OkS (zV (zAM i f) g σ M) P:=by
 rw[zU,zm];exact zK hf h
theorem zTp (h:f σ M=some (.dat d,M')):zF (toD f) zL σ M=some ([d],M'):=by
 unfold zF toD zL;rw[h]
theorem zIa {α β:Type} (f:α->β) (d:α):∀ xs:List α,(List.range xs.length).map (fun i=>f (xs.getD i d))=xs.map f
 |[]=>rfl
 |x::xs=>by
  rw[zXH,List.range_succ_eq_map,zW3,zW8,zW3,<-zIa f d xs];rfl
open ST
def ris (xs:List Int):List Int:=zEm (zB6 xs)
theorem zGn (xs:List Int) (x:Int):x∈ris xs ↔ x∈xs:=by
 unfold ris;rw[(zCn _).mem_iff,zNp]
theorem zKc (xs:List Int):(ris xs).Pairwise (·< ·):=by
 have h1:=zJA (zB6 xs);have h2:(ris xs).Nodup:=(zCn _).nodup_iff.mpr (zKH xs);unfold ris at h2 ⊢;exact (h1.and h2).imp fun {a b} h=>by have:=h.1;have:=h.2;omega
theorem zHJ:∀ {xs ys:List Int},xs.Pairwise (·< ·)->ys.Pairwise (·< ·)->(∀ x,x∈xs ↔ x∈ys)->xs=ys
 |[],[],_,_,_=>rfl
 |[],y::ys,_,_,h=>by have:=(h y).mpr zWy;cases this
 |x::xs,[],_,_,h=>by have:=(h x).mp zWy;cases this
 |x::xs,y::ys,h1,h2,h=>by
  have hx:=List.pairwise_cons.mp h1;have hy:=List.pairwise_cons.mp h2;have e:x=y:=by
   have a:=(h x).mp zWy;have b:=(h y).mpr zWy;rcases zWw.mp a with z|z
   ·exact z
   ·rcases zWw.mp b with q|q
    ·exact q.symm
    ·have:=hx.1 y q;have:=hy.1 x z;omega
  subst e;rw[zHJ hx.2 hy.2 fun z=>?_];constructor
  ·intro hz;rcases zWw.mp ((h z).mp (zWx _ hz))with q|q
   ·subst q;have:=hx.1 _ hz;omega
   ·exact q
  ·intro hz;rcases zWw.mp ((h z).mpr (zWx _ hz))with q|q
   ·subst q;have:=hy.1 _ hz;omega
   ·exact q
theorem zN0 (h:∀ x,x∈xs ↔ x∈ys):ris xs=ris ys:=zHJ (zKc xs) (zKc ys) fun x=>by rw[zGn,zGn];exact h x
theorem zQk (h:xs.Pairwise (·< ·)):ris xs=xs:=zHJ (zKc xs) h fun x=>zGn xs x
theorem zN5 (xs:List Int):(ris xs).length<=xs.length:=by
 unfold ris;rw[(zCn _).length_eq];exact zF3 xs
theorem zUy (h:0<xs.length):0<(ris xs).length:=by
 cases xs with
 |nil=>cases h
 |cons x r=>exact List.length_pos_of_mem ((zGn (x::r) x).mpr zWy)
theorem zSi (h:zAf own fi g tc te σ M=some (.fl (ks.map D.int),M)) (hz:ks.length<=4000):zKA own fi g tc te σ M=some (zB6 ks,M):=by
 unfold zKA;rw[h];dsimp only;rw[zGI];dsimp only;rw[zWz (by unfold scanBound;omega)]
theorem zQ7 (h:fz σ M=some (zB6 ks,M)) (hz:(zB6 ks).length<64):zI8 fz σ M=some (.fl ((ris ks).map D.int),M):=by
 unfold zI8;rw[h];dsimp only;rw[zWz hz];rfl
def zHG:FS:=(zAC (fB zB5 (zb (zI8 (zKA [3] (zBA (zE 1)) (gN 3) zAH (fOp kIx (fOp kIx (zE 0) (zE 3)) (zE 2)))) zq)))
def zBz:FF:=zHz (zBc 4 zHG)
def setR (zA:List (List Int)) (S:List Int) (g:Int):List Int:=ris (S.map fun h=>zAt zA h g)
def zVz (zA:List (List Int)) (S word:List Int):List Int:=word.foldl (setR zA) S
structure IsS (zA:List (List Int)) (S:List Int):Prop where
 pw:S.Pairwise (·< ·)
 n0:0<S.length
 mem:∀ x∈S,0<=x/\x<(zA.length:Int)
theorem zSC:∀ {S:List Int} {a:Int} {n:Nat},S.Pairwise (·< ·)->(∀ x∈S,a<=x/\x<a+(n:Int))->S.length<=n
 |[],_,_,_,_=>zXW _
 |x::S,a,n,h,hm=>by
  have hx:=List.pairwise_cons.mp h;obtain ⟨m0,m1⟩:=hm x zWy;have hn:0<n:=by omega
  have:=zSC (S:=S) (a:=x+1) (n:=(a+n-(x+1)).toNat) hx.2 fun y hy=>by
   have:=hx.1 y hy;have:=(hm y (zWx _ hy)).2;omega
  simp only[zXH];omega
theorem IsS.len (h:IsS zA S):S.length<=zA.length:=zSC h.pw (a:=0) fun x hx=>by have:=h.mem x hx;omega
theorem IsM.setR {zA:List (List Int)} {l:Nat} (m:IsM zA l) {S:List Int} (s:IsS zA S) {g:Int} (g0:0<=g) (g1:g<l):IsS zA (setR zA S g):=by
 refine ⟨zKc _,zUy (by rw[zWt];exact s.n0),fun x hx=>?_⟩;obtain ⟨y,hy,rfl⟩:=zW1.mp ((zGn _ _).mp hx);obtain ⟨y0,y1⟩:=s.mem y hy;exact m.step y0 y1 g0 g1
def tI (xs:List Int):D:=.tup (xs.map D.int)
theorem zK1 {zA:List (List Int)} {l:Nat} (m:IsM zA l) (hR:zA.length<64) {S:List Int} (s:IsS zA S) {g:Int} (g0:0<=g) (g1:g<l) {M:Mem}:zBz [mD zA,tI S,.int g] M=some (tI (setR zA S g),M):=by
 refine zf ?_;unfold zBz;refine zKn (by unfold D.unds D.unds D.unds D.unds;rw[zK5];simp[tI,zB9,D.und,zAj]) ?_;rw[zAS];unfold zHG;have hl:=s.len;have hz:(zB6 (S.map fun h=>zAt zA h g)).length<64:=by have:=zF3 (S.map fun h=>zAt zA h g);rw[zWt]at this;omega
 refine zx (d:=tI (setR zA S g)) ?_ ⟨by unfold tI;exact zB9 _,rfl,rfl⟩;refine zGM (zQ7 (ks:=S.map fun h=>zAt zA h g) (zSi ?_ (by rw[zWt];omega)) hz) zE9;refine (zCT S D.int (fun h=> .int (zAt zA h g)) (zDu rfl) trivial (by omega) fun h hh=>⟨_,rfl,?_⟩).trans ?_
 ·obtain ⟨h0,h1⟩:=s.mem h hh;exact m.ix h0 h1 g0 g1 rfl rfl rfl
 ·rw[zW8];rfl
end Law
namespace Law
open PySem PySem.Spec PyProof.Rows L2 L3 ST
theorem zIg (hgd:zBd gd all M) (hg:g x σ=some σ1) (hk:tk σ1 M=some (.dat k,M)) (hv:tv σ1 M=some (.dat v,M)) (hp:zHW M n k v=some M'):zC6 g zAH tk tv σ n all gd (x::r) M=zC6 g zAH tk tv σ n all gd r M':=by
 rw[zC6];rw[zWz hgd,hg];have et:zAH σ1 M=some (true,M):=rfl;have e1:toD tk σ1 M=some (k,M):=by unfold toD;rw[hk]
 have e2:toD tv σ1 M=some (v,M):=by unfold toD;rw[hv]
 dsimp only;rw[et];dsimp only;rw[e1];dsimp only;rw[e2];dsimp only;rw[hp]
theorem zG2 (hgd:zBd gd all M):zC6 g tc tk tv σ n all gd [] M=some M:=by
 rw[zC6,zWz hgd]
theorem zC1 (e:f σ M=some (.dat (mD zA),M)):fB zAx (zb f zq) σ M=some (.dat (.int zA.length),M):=by
 have:=zCG e zAN;rw[zWt]at this;exact this
theorem zET (m:IsM zA l) (e:f σ M=some (.dat (mD zA),M)):fB zAx (zb (fOp kIx f (fC (.int 0))) zq) σ M=some (.dat (.int l),M):=by
 have r0:=m.r0;have:=zCG (zS (g:=fC (.int 0)) e rfl (zCA zAN (zP5 (h:=0) (by omega) (by omega)))) zAN;rw[zWt,(m.get (h:=0) (by omega) (by omega)).1]at this;exact this
theorem zIx (e:f σ M=some (.dat (tI xs),M)):fB zAx (zb f zq) σ M=some (.dat (.int xs.length),M):=by
 have:=zCG e zAN;rw[zWt]at this;exact this
def zGJ:FS:=(zAC (zHC (zEG "int" (zE 0)) (zOo (zEG "bool" (zE 0)))))
def zCg:FF:=zBc 1 zGJ
def zF4:FS:=(zAC (zHC (zY zCg (zF (toD (zE 0)) zL)) (zD6 kLe kLt (fC (.int 0)) (zE 0) (zE 1))))
def zCh:FF:=zBc 2 zF4
def zCj:FS:=(zAC (zHC (zEG "tuple" (zE 0)) (fB zNb (zb (zAf [2] (zBA (zE 0)) (gN 2) zAH (zY zCh (zF (toD (zE 2)) (zF (toD (zE 1)) zL)))) zq))))
def zBS:FF:=zBc 3 zCj
mutual
def Vd (M:Mem):D->Prop
 |.ref n=>∃ t,zIJ M (.dat (.ref n))=some t/\(t = "list" \/ t = "dict")
 |.tup ds=>ds.length<=100000/\Vds M ds
 |_=>True
def Vds (M:Mem):List D->Prop
 |[]=>True
 |d::ds=>Vd M d/\Vds M ds
end
theorem Vds.mem:∀ {ds:List D},Vds M ds -> ∀ d∈ds,Vd M d
 |[],_,d,h=>by cases h
 |x::ds,hv,d,h=>by
  unfold Vds at hv;rcases zWw.mp h with q|q
  ·subst q;exact hv.1
  ·exact Vds.mem hv.2 d q
theorem Vds.of:∀ {ds:List D},(∀ d∈ds,Vd M d)->Vds M ds
 |[],_=>trivial
 |x::ds,h=>⟨h x zWy,Vds.of fun d hd=>h d (zWx _ hd)⟩
def zC5:D->Bool
 |.int _=>true
 |_=>false
def zBX (n:Int):D->Bool
 |.int i=>decide (0<=i)&&decide (i<n)
 |_=>false
def tbD (n:Int):D->Bool
 |.tup ds=>ds.all (zBX n)
 |_=>false
def zL9:D->Nat
 |.tup ds=>ds.length
 |_=>0
def zUB:D->Bool
 |.tup _=>true
 |_=>false
theorem zJF (out:D->D) (hf:f σ M=some (.dat (.tup ds),M)) (hz:ds.length<=100000)
  (he:∀ a∈ds,∃ σ1,g a (zBo own σ)=some σ1/\te σ1 M=some (.dat (out a),M)):zAf own (zBA f) g zAH te σ M=some (.fl (ds.map out),M) :=
 zCT (gd:=none) ds id out (by rw[List.map_id];exact zDu hf) trivial hz he
theorem Vd.ty (h:Vd M d):∃ t,zIJ M (.dat d)=some t/\isT t "tuple" = zUB d/\(isT t "int" && !isT t "bool")=zC5 d:=by
 cases d with
 |non=>exact ⟨_,rfl,(show isT "NoneType" "tuple" = false by decide),(show (isT "NoneType" "int" && !isT "NoneType" "bool")=false by decide)⟩
 |bl k=>exact ⟨_,rfl,(show isT "bool" "tuple" = false by decide),(show (isT "bool" "int" && !isT "bool" "bool")=false by decide)⟩
 |int i=>exact ⟨_,rfl,(show isT "int" "tuple" = false by decide),(show (isT "int" "int" && !isT "int" "bool")=true by decide)⟩
 |str x=>exact ⟨_,rfl,(show isT "str" "tuple" = false by decide),(show (isT "str" "int" && !isT "str" "bool")=false by decide)⟩
 |tup ds=>exact ⟨_,rfl,(show isT "tuple" "tuple" = true by decide),(show (isT "tuple" "int" && !isT "tuple" "bool")=false by decide)⟩
 |ref n=>
  unfold Vd at h;obtain ⟨t,e,h⟩:=h;rcases h with rfl|rfl
  ·exact ⟨_,e,(show isT "list" "tuple" = false by decide),(show (isT "list" "int" && !isT "list" "bool")=false by decide)⟩
  ·exact ⟨_,e,(show isT "dict" "tuple" = false by decide),(show (isT "dict" "int" && !isT "dict" "bool")=false by decide)⟩
theorem zCD (hf:f σ M=some (.dat (.bl a),M)) (hg:a=true->g σ M=some (.dat (.bl b),M)):zHC f g σ M=some (.dat (.bl (a&&b)),M):=by
 unfold zHC;rw[hf];cases a with
 |true=>exact hg rfl
 |false=>rfl
theorem zOD (hf:f σ M=some (.dat (.bl a),M)):zOo f σ M=some (.dat (.bl (!a)),M):=by unfold zOo;rw[hf]
theorem zGt (h:f (ds.map some++List.replicate (n-ds.length) none) M=some (.dat d,M)):zBc n (zAC f) ds M=some (d,M):=by
 refine zf ?_;rw[zAS];exact zx h ⟨rfl,rfl⟩
theorem zML (h:Vd M d):zCg [d] M=some (.bl (zC5 d),M):=by
 obtain ⟨t,e,_,q⟩:=h.ty;unfold zCg zGJ;refine zGt ?_;rw[<-q];exact zCD (zBq rfl e) fun _=>zOD (zBq rfl e)
theorem zLw (h:Vd M d):zCh [d,.int n] M=some (.bl (zBX n d),M):=by
 unfold zCh zF4;refine zGt ?_;have hw:=zr (σ:=[some d,some (.int n)]) (a:=zF (toD (zE 0)) zL) (zi rfl) (zML h);have e:zBX n d=(zC5 d&&zBX n d):=by cases d <;> rfl
 rw[e];refine zCD hw fun hi=>?_;cases d with
 |int i=>
  refine zf (zLN.mpr (zDA.mpr (zAi.mpr ⟨_,rfl,zVb.mpr (zEP.mpr ?_)⟩)));by_cases h0:0<=i
  ·rw[zWz (by simpa using h0)];refine zAi.mpr ⟨_,rfl,zRu.mpr ⟨?_,rfl⟩⟩;simp[zBX,h0]
  ·rw[zW2 (by simpa using h0)];exact ⟨by simp[zBX,h0],rfl⟩
 |_=>cases hi
theorem zIG {bs:List Bool} (h:f σ M=some (.fl (bs.map D.bl),M)):fB zNb (zb f zq) σ M=some (.dat (.bl (bs.all id)),M):=by
 unfold fB zb zq;rw[h];exact zf ((zVa zUe (zJp bs)).mpr ⟨rfl,rfl⟩)
theorem zEg {α:Type} (xs:List α) (p:α->Bool):(xs.map p).all id=xs.all p:=by rw[List.all_map];rfl
theorem zVc (h:Vd M d):zBS [d,.int n] M=some (.bl (tbD n d),M):=by
 unfold zBS zCj;refine zGt ?_;obtain ⟨t,e,q,_⟩:=h.ty;cases d with
 |tup ds=>
  have hh:Vd M (.tup ds):=h;unfold Vd at hh;have:tbD n (.tup ds)=(true&&(ds.map (zBX n)).all id):=by rw[Bool.true_and,zEg];rfl
  rw[this];refine zCD (by rw[zBq rfl e,q];rfl) fun _=>zIG ?_;rw[zW8];exact zJF (fun x=> .bl (zBX n x)) rfl hh.1 fun x hx=>⟨_,rfl,zr (ze rfl (zi rfl)) (zLw (hh.2.mem x hx))⟩
 |_=>
  have:∀ b,(false&&b)=false:=fun b=>rfl;refine (zCD (a:=false) (b:=true) (by rw[zBq rfl e,q];rfl) fun z=>by cases z).trans ?_;rfl
theorem zTX {xs:List D} {lo hi:Option Int} {M:Mem}:kSl (.dat (.tup xs)) lo hi M=some (.dat (.tup (L3.zC4 xs lo hi)),M):=rfl
theorem slE {f:FE} {fl fh:FO} {σ:Sd} {M:Mem} {xs:List D} {lo hi:Option Int} (hf:f σ M=some (.dat (.tup xs),M)) (hl:fl σ M=some (lo,M)) (hh:fh σ M=some (hi,M)):fSl f fl fh σ M=some (.dat (.tup (L3.zC4 xs lo hi)),M):=by
 unfold fSl;rw[hf];dsimp only;rw[hl];dsimp only;rw[hh];exact zTX
theorem oS (h:f σ M=some (.dat (.int i),M)):zB3 f σ M=some (some i,M):=by unfold zB3;rw[h]
theorem zHu {c:List Int} (h:c.length<=100000):Vd M (.tup (c.map D.int)):=by
 unfold Vd;exact ⟨by simpa using h,Vds.of fun d hd=>by obtain ⟨i,_,rfl⟩:=zW1.mp hd;unfold Vd;trivial⟩
abbrev gL (k:Nat) (s:Int):MO:=.lst [.ref k,.int s]
theorem zUH (hk:k<N):MO.und N (gL k s)=true:=by
 show D.unds _ _=true;unfold D.unds D.unds D.unds D.und;simp[hk]
structure Nw (M M':Mem) (n k:Nat):Prop where
 gen:Gen M' n k
 len:M.length<=M'.length
 fr:∀ j,j<M.length->j≠n->j≠k->M'[j]?=M[j]?
theorem Nw.trans {M M1 M2:Mem} {n k:Nat} (a:Nw M M1 n k) (b:Nw M1 M2 n k):Nw M M2 n k :=
 ⟨b.gen,zXB a.len b.len,fun j h h1 h2=>(b.fr j (zW9 h a.len) h1 h2).trans (a.fr j h h1 h2)⟩
theorem Nx.nw (x:Nx M M' n k):Nw M M' n k:=⟨x.gen,by rw[x.len];exact zWq _,fun j _ h1 h2=>x.fr j h1 h2⟩
theorem Gen.lst (h:Gen A n k) (xs:List D) (hx:D.unds A.length xs=true):Nw A (A++[.lst xs]) n k:=⟨h.app fun u hu=>by
 have:u=.lst xs:=by simpa using hu
 subst this;exact zDJ (by simp) hx,by simp,fun j hj _ _=>zWr hj⟩
theorem Nw.setB (h:Nw M A n k) (g:Gen M n k) (hj:M.length<=j) (hu:MO.und A.length u=true):Nw M (A.set j u) n k:=by
 obtain ⟨hn,hk⟩:=g.lt;obtain ⟨c,s,e1,e2,r⟩:=h.gen.ex;refine ⟨⟨⟨c,s,by rw[zXE (by omega)];exact e1,by rw[zXE (by omega)];exact e2,r⟩,g.ne,fun i v e=>?_⟩,by rw[List.length_set];exact h.len,fun i hi h1 h2=>by rw[zXE (by omega)];exact h.fr i hi h1 h2⟩;rw[List.length_set];rw[zYJ]at e;split at e
 ·split at e
  ·cases e;exact hu
  ·cases e
 ·exact h.gen.wf i v e
theorem Nw.wf0 (h:Nw M M' n k) (g:Gen M n k):∀ (j:Nat) u,j<M.length->M'[j]?=some u->MO.und M.length u=true:=fun j u hj e=>by
 obtain ⟨hn,hk⟩:=g.lt;obtain ⟨c,s,e1,e2,r⟩:=h.gen.ex;by_cases q1:j=n
 ·subst q1;rw[e1]at e;cases e;exact zUH hk
 ·by_cases q2:j=k
  ·subst q2;rw[e2]at e;cases e;exact zAj _ _
  ·rw[h.fr j hj q1 q2]at e;exact g.wf j u e
theorem Nw.trim (h:Nw M M' n k) (g:Gen M n k):Nw M (M'.take M.length) n k:=by
 obtain ⟨hn,hk⟩:=g.lt;have tk:∀ j,j<M.length->(M'.take M.length)[j]?=M'[j]?:=fun j hj=>List.getElem?_take_of_lt hj;have tl:(M'.take M.length).length=M.length:=by have:=h.len;rw[zX8];omega
 obtain ⟨c,s,e1,e2,r⟩:=h.gen.ex;refine ⟨⟨⟨c,s,(tk n hn).trans e1,(tk k hk).trans e2,r⟩,g.ne,fun j u e=>?_⟩,by omega,fun j hj h1 h2=>(tk j hj).trans (h.fr j hj h1 h2)⟩;have hj:j<M.length:=by have:=(zWn.mp e).1;omega
 rw[tk j hj]at e;rw[tl];exact h.wf0 g j u hj e
theorem Nw.get (h:Nw M M' n k) (e:M[j]?=some u) (h1:j≠n) (h2:j≠k):M'[j]?=some u :=
 (h.fr j (zWn.mp e).1 h1 h2).trans e
end Law
namespace Lac
open PySem PySem.Spec PyProof.Rows L2 L3 ST Law
def zDv:FS:=(zV (zAM 2 (zAk zL))
  (zV (zC2 (zAc (zF (toD (zE 1)) zL)) (gN 3) (zBm (fM zDq (zE 2) (zF (toD (zY zd (zF (toD (zE 0)) (zF (toD (fOp zAZ (zE 3) (fC (.int 1)))) zL)))) (zF (toD (zE 3)) zL)))))
  (zAC (zE 2))))
def zBT:FF:=zBc 4 zDv
def zEa:FS:=(zV (sIf (tst (fOp kEq (zE 1) (fC (.int 0)))) (zAC (zAf [4] (zAc (zF (toD (zE 2)) zL)) (gN 4) zAH (zY zd (zF (toD (zE 0)) (zF (toD (zE 2)) zL))))) zA1)
  (zV (sIf (tst (fOp kEq (zE 1) (fC (.int 1)))) (zAC (zAf [4] (zAc (zF (toD (zE 2)) zL)) (gN 4) zAH (fOp zGb (fOp zAZ (zE 4) (zY zd (zF (toD (zE 0)) (zF (toD (fC (.int 3))) zL)))) (zE 2)))) zA1)
  (zV (sIf (tst (fOp kEq (zE 1) (fC (.int 2)))) (zV (zAM 5 (fOp zPx (fOp zAZ (zE 2) (fC (.int 1))) (fC (.int 2))))
  (zV (zAM 6 (zAf [4] (zAc (zF (toD (zE 5)) zL)) (gN 4) zAH (zY zd (zF (toD (zE 0)) (zF (toD (zE 5)) zL)))))
  (zAC (fOp zDO (zE 6) (zAf [4] (zAc (zF (toD (fOp zH8 (zE 2) (zE 5))) zL)) (gN 4) zAH (fOp zAZ (zE 5) (zY zd (zF (toD (zE 0)) (zF (toD (fOp zH8 (zE 2) (zE 5))) zL))))))))) zA1)
  (zV (sIf (zBh (tst (fOp kEq (zE 1) (fC (.int 3)))) (tst (fOp kEq (zE 3) (fC (.int 0))))) (zAC (zAf [4] (zAc (zF (toD (zE 2)) zL)) (gN 4) zAH (fOp zGb (fOp zAZ (zE 4) (fC (.int 1))) (zE 2)))) zA1)
  (zV (sIf (tst (fOp kEq (zE 1) (fC (.int 3)))) (zAC (zAf [4] (zAc (zF (toD (zE 2)) zL)) (gN 4) zAH (fOp kIx (zAk (zF (toD (zE 4)) (zF (toD (fC (.int 0))) zL))) (fB zNZ (zb (fOp kEq (zE 4) (fOp zH8 (zE 2) (fC (.int 1)))) zq))))) zA1)
  (zV (sIf (zDV (tst (fOp kEq (zE 1) (fC (.int 4)))) (tst (fOp kEq (zE 1) (fC (.int 7))))) (zV (zAM 7 (zY zd (zF (toD (zE 0)) (zF (toD (zE 2)) zL))))
  (zAC (zAf [4] (zAc (zF (toD (zE 2)) zL)) (gN 4) zAH (fOp kIx (zAk (zF (toD (fOp zGb (fOp zAZ (zE 4) (zE 7)) (zE 2))) (zF (toD (zE 7)) zL))) (fB zNZ (zb (fOp kEq (zE 1) (fC (.int 7))) zq)))))) zA1)
  (zV (zAM 8 (zY zBT (zF (toD (zE 0)) (zF (toD (zE 2)) zL))))
  (zV (sIf (zBh (tst (fOp kEq (zE 1) (fC (.int 6)))) (tst (fOp kEq (zE 3) (fC (.int 0))))) (zV (zAM 9 (fOp kIx (zE 8) (zY zd (zF (toD (zE 0)) (zF (toD (zE 2)) zL)))))
  (zNq (zE 9) (zE 8) (zY zd (zF (toD (zE 0)) (zF (toD (zE 2)) zL))))) zA1)
  (zAC (zE 8))))))))))
def zCQ:FF:=zBc 10 zEa
def zDy:FS:=(zV (zAM 3 (zY zd (zF (toD (zE 0)) (zF (toD (fC (.int 8))) zL))))
  (zV (zAM 4 (zAf [5] (zAc (zF (toD (zE 2)) zL)) (gN 5) zAH (zY zCQ (zF (toD (zE 0)) (zF (toD (zE 3)) (zF (toD (zE 1)) (zF (toD (zE 5)) zL)))))))
  (zAC (fB zB5 (zb (zAf [7] (zAc (zF (toD (zE 1)) zL)) (gN 7) zAH (fB zB5 (zb (zAf [6] (zBA (zE 4)) (gN 6) zAH (fOp kIx (zE 6) (zE 7))) zq))) zq)))))
def zBi:FF:=zHe (zBc 8 zDy)
def Col (many:Int) (c:List Int):Prop:=(c.length:Int)=many /\ ∀ x∈c,0<=x/\x<many
theorem zAG (h:P (.ref M.length) (M++[.lst xs])):zH1 P (.fl xs) M:=h
theorem zAD (A:Mem) (u:MO):(A++[u])[A.length]?=some u:=by simp
theorem zUL (h:0<b):zGb (.dat (.int a)) (.dat (.int b)) M=some (.dat (.int (a % b)),M):=zf (zHS.mpr ⟨h,rfl,rfl⟩)
theorem zIz {M:Mem} {n k:Nat} (h:Gen M n k) {own:List Nat} {i:Nat} {f te:FE} {σ:Sd} {cnt lo hi:Int} (c0:0<=cnt) (c1:cnt<=90000) (hf:f σ M=some (.dat (.int cnt),M))
  (ht:∀ (r:Nat) (M':Mem),(r:Int)<cnt->Gen M' n k->Ok (te ((zBo own σ).set i (some (.int r))) M') fun x M''=>∃ v:Int,x=.dat (.int v)/\lo<=v/\v<hi/\Nx M' M'' n k) :
  Ok (zAf own (zAc (zF (toD f) zL)) (gN i) zAH te σ M) fun x M'=>(∃ c:List Int,x=.fl (c.map D.int)/\(c.length:Int)=cnt /\ ∀ y∈c,lo<=y/\y<hi)/\Nx M M' n k:=by
 refine zGP.mpr ⟨_,_,_,zBs hf c0 (by omega),by rw[zDz];exact zAY (by omega),?_⟩;refine Ok.mono (zQc (n:=cnt.toNat) (I:=fun j acc M2=>(∃ c:List Int,acc=c.map D.int/\c.length=j /\ ∀ y∈c,lo<=y/\y<hi)/\Nx M M2 n k) ?_ ⟨⟨[],rfl,rfl,fun _ h=>by cases h⟩,Nx.refl h⟩) ?_
 ·rintro j acc M2 hj ⟨⟨c,rfl,hcl,hc⟩,nx⟩;refine ⟨_,rfl,?_⟩;refine Ok.mono (ht j M2 (by omega) nx.gen) ?_;rintro x M3 ⟨v,rfl,v0,v1,nx3⟩;rw[zZ];refine ⟨⟨c++[v],by simp,by simp[hcl],fun z hz=>?_⟩,nx.trans nx3⟩;rcases zXA.mp hz with q|q
  ·exact hc z q
  ·have:z=v:=by simpa using q
   subst this;exact ⟨v0,v1⟩
 ·rintro ys M2 ⟨⟨c,rfl,hcl,hc⟩,nx⟩;exact ⟨⟨c,rfl,by omega,hc⟩,nx⟩
theorem zVP (ha:a σ M=some (.dat x,M)) (hb:b σ M=some (.dat y,M)):zAk (zF (toD a) (zF (toD b) zL)) σ M=some (.fl [x,y],M):=by
 unfold zAk;rw[ze ha (zi hb)];dsimp only;rw[zWz (zAY (by simp))]
theorem zTr (hl:l σ M=some (.fl [x,y],M)) (ht:t σ M=some (.dat (.bl b),M)):fOp kIx l (fB zNZ (zb t zq)) σ M=some (.dat (if b then y else x),M):=by
 have e:fB zNZ (zb t zq) σ M=some (.dat (.int (if b then 1 else 0)),M):=by unfold fB zb zq;rw[ht];rfl
 cases b with
 |true=>exact zS hl e rfl
 |false=>exact zS hl e rfl
theorem zJ1 (h:M[n]?=some (.lst xs)) (h0:0<=i) (h1:i.toNat<=xs.length) (hz:xs.length<90000):zDq (.dat (.ref n)) [.int i,d] M=some (.non,M.set n (.lst (xs.take i.toNat++[d]++xs.drop i.toNat))):=by
 unfold zDq;dsimp only;rw[h];dsimp only;rw[zWz ⟨h0,h1,zW9 hz (zAY (by omega))⟩]
theorem zMC (h:Gen M n k) (m0:0<many) (m1:many<=1000):Ok (zBT [.ref n,.int many] M) fun d M'=>∃ j c,d=.ref j/\M'[j]?=some (.lst (c.map D.int))/\Col many c/\M.length<=j/\Nw M M' n k/\c.Perm ((List.range many.toNat).map fun (x:Nat)=>(x:Int)):=by
 obtain ⟨hn,hk⟩:=h.lt;unfold zBT;rw[zAS];unfold zDv;show OkS (zV _ _ [some (.ref n),some (.int many),none,none] M) _;rw[zU,zm];refine zLG.mpr (zDE.mpr ⟨zAY (by simp),zAG ?_⟩);rw[zg,zU,zBV];have nw1:=h.lst [] rfl;have e1:(M++[MO.lst ([]:List D)])[M.length]?=some (.lst []):=zAD _ _;generalize M++[MO.lst ([]:List D)]=M1 at nw1 e1;show ∃ xs gd M2,zAc _ [some (.ref n),some (.int many),some (.ref M.length),none] M1=some (xs,gd,M2)/\_;refine ⟨_,_,_,zBs rfl (by omega) (by omega),?_⟩;refine zGA (n:=many.toNat) (I:=fun i σ M'=>(∃ y,σ=[some (.ref n),some (.int many),some (.ref M.length),y]) /\ ∃ c:List Int,M'[M.length]?=some (.lst (c.map D.int))/\c.length=i/\(∀ x∈c,0<=x/\x<many)/\Nw M M' n k/\c.Perm ((List.range i).map fun (x:Nat)=>(x:Int))) ?_ ?_ _ _ ⟨⟨_,rfl⟩,[],e1,rfl,(fun _ h=>by cases h),nw1,.refl _⟩
 ·rintro i σ M' hi ⟨⟨y,rfl⟩,c,ec,hcl,hc,nw,pm⟩;refine ⟨_,rfl,?_⟩;show OkS (zBm _ [some (.ref n),some (.int many),some (.ref M.length),some (.int (i:Nat))] M') _;rw[zDN];refine zNs.mpr (zAi.mpr ⟨_,rfl,⟨_,zBl ec⟩,zBL.mpr (zBN.mpr ?_)⟩);refine zAe nw.gen rfl (zS (x:=.dat (.int (i:Nat))) rfl rfl rfl) (by omega) (by omega) fun q M2 q0 q1 nx=>?_;have ec2:=nx.nw.get ec (by omega) (by omega);rw[zZ];refine zK (zi (d:=.int (i:Nat)) rfl) ?_;refine zK (zJ1 ec2 q0 (by rw[zWt];omega) (by rw[zWt];omega)) ?_;have hl:M.length<M2.length:=(zWn.mp ec2).1;refine ⟨⟨_,rfl⟩,c.take q.toNat++[(i:Int)]++c.drop q.toNat,?_,by simp;omega,fun x hx=>?_,?_,?_⟩
  ·rw[zXe hl];simp
  ·simp only[zXA,zXC]at hx;rcases hx with (w|w)|w
   ·exact hc x (List.mem_of_mem_take w)
   ·omega
   ·exact hc x (List.mem_of_mem_drop w)
  ·refine (nw.trans nx.nw).setB h (zWq _) ?_;show D.unds _ _=true;rw[<-List.map_take,<-List.map_drop,zId,zId,zAj,zAj];rfl
  ·rw[List.range_succ,zXc];refine List.Perm.trans ?_ (List.Perm.append_right _ pm);rw[zXq];refine List.Perm.trans (List.Perm.append_left _ List.perm_append_comm) ?_;rw[<-zXq,List.take_append_drop];exact .refl _
 ·rintro σ M' ⟨⟨y,rfl⟩,c,ec,hcl,hc,nw,pm⟩;rw[zg];exact zx rfl ⟨M.length,c,rfl,ec,⟨by omega,hc⟩,zWq _,nw,pm⟩
theorem zSl (h:Col many c) (hj:j<c.length):0<=c.getD j 0/\c.getD j 0<many:=by
 rw[zWp,zWo hj];exact h.2 _ (zXI hj)
theorem zQ1 (h:Col many c) (hj:j<c.length):Col many (c.set i (c.getD j 0)):=by
 refine ⟨by rw[List.length_set];exact h.1,fun x hx=>?_⟩;rcases List.mem_or_eq_of_mem_set hx with q|q
 ·exact h.2 x q
 ·rw[q,zWp,zWo hj];exact h.2 _ (zXI hj)
theorem zPP {M:Mem} {n k:Nat} (h:Gen M n k) {fam many let_:Int} (m0:0<many) (m1:many<=1000) :
  Ok (zCQ [.ref n,.int fam,.int many,.int let_] M) fun d M'=>∃ j c,d=.ref j/\M'[j]?=some (.lst (c.map D.int))/\Col many c/\M.length<=j/\Nw M M' n k:=by
 obtain ⟨hn,hk⟩:=h.lt;unfold zCQ;rw[zAS];unfold zEa;show OkS (zV _ _ [some (.ref n),some (.int fam),some (.int many),some (.int let_),none,none,none,none,none,none] M) _;have isf:∀ (j:Int) (σ:Sd) (M:Mem),σ[1]?=some (some (.int fam))->tst (fOp kEq (zE 1) (fC (.int j))) σ M=some (decide (fam=j),M):=fun j σ M e=>by
  have v4:zE 1 σ M=some (.dat (.int fam),M):=by unfold zE;rw[e]
  exact zAU (zS v4 rfl (zf (zMp.mpr ⟨rfl,rfl⟩)))
 have isl:∀ (σ:Sd) (M:Mem),σ[3]?=some (some (.int let_))->tst (fOp kEq (zE 3) (fC (.int 0))) σ M=some (decide (let_=0),M):=fun σ M e=>by
  have v4:zE 3 σ M=some (.dat (.int let_),M):=by unfold zE;rw[e]
  exact zAU (zS v4 rfl (zf (zMp.mpr ⟨rfl,rfl⟩)))
 have andE:∀ {a b:FT} {σ:Sd} {M:Mem} {x y:Bool},a σ M=some (x,M)->b σ M=some (y,M)->zBh a b σ M=some (x&&y,M):=fun {a b σ M x y} ha hb=>by
  unfold zBh;rw[ha];cases x <;> first|exact hb|rfl
 have orE:∀ {a b:FT} {σ:Sd} {M:Mem} {x y:Bool},a σ M=some (x,M)->b σ M=some (y,M)->zDV a b σ M=some (x||y,M):=fun {a b σ M x y} ha hb=>by
  unfold zDV;rw[ha];cases x <;> first|exact hb|rfl
 have new:∀ (A:Mem) (c':List Int),Nw M A n k->Col many c' -> ∃ j c,D.ref A.length=D.ref j/\(A++[MO.lst (c'.map D.int)])[j]?=some (.lst (c.map D.int))/\Col many c/\M.length<=j/\Nw M (A++[MO.lst (c'.map D.int)]) n k:=fun A c' nw hc'=>
  ⟨A.length,c',rfl,zAD _ _,hc',nw.len,nw.trans (nw.gen.lst _ (zAj _ _))⟩
 rw[zU,zBO];refine zK (isf 0 _ _ rfl) ?_;by_cases w0:fam=0
 ·rw[zWz (by simpa using w0),zA8];refine Ok.mono (zIz h (cnt:=many) (lo:=0) (hi:=many) (by omega) (by omega) rfl fun r M' hr g=>zAe g rfl rfl m0 (by omega) fun i M2 i0 i1 nx=>⟨i,rfl,i0,i1,nx⟩) ?_;rintro x M1 ⟨⟨c,rfl,hcl,hc⟩,nx⟩;refine zAG ?_;rw[zEM];exact new _ _ nx.nw ⟨hcl,hc⟩
 rw[zW2 (by simpa using w0),zBK,zg,zU,zBO];refine zK (isf 1 _ _ rfl) ?_;by_cases w1:fam=1
 ·rw[zWz (by simpa using w1),zA8];refine Ok.mono (zIz h (cnt:=many) (lo:=0) (hi:=many) (by omega) (by omega) rfl fun r M' hr g=>?_) ?_
  ·refine zA3.mpr (zA3.mpr (zAi.mpr ⟨_,rfl,zAe g rfl rfl (by decide) (by decide) fun i M2 i0 i1 nx=>zG9.mpr (zAi.mpr ⟨_,rfl,zHS.mpr ⟨m0,_,rfl,Int.emod_nonneg _ (by omega),Int.emod_lt_of_pos _ m0,nx⟩⟩)⟩))
  rintro x M1 ⟨⟨c,rfl,hcl,hc⟩,nx⟩;refine zAG ?_;rw[zEM];exact new _ _ nx.nw ⟨hcl,hc⟩
 rw[zW2 (by simpa using w1),zBK,zg,zU,zBO];refine zK (isf 2 _ _ rfl) ?_;by_cases w2:fam=2
 ·rw[zWz (by simpa using w2)];refine zC3 (d:=.int ((many+1) / 2)) (zS (x:=.dat (.int (many+1))) (zS rfl rfl rfl) rfl (zf (zRg.mpr ⟨⟨by decide,by decide⟩,rfl,rfl⟩))) ?_;obtain ⟨h0,h1⟩:0<(many+1) / 2/\(many+1) / 2<=many:=by omega
  generalize (many+1) / 2=half at h0 h1;rw[zU,zm];refine Ok.mono (zIz h (cnt:=half) (lo:=0) (hi:=half) (by omega) (by omega) rfl fun r M' hr g=>zAe g rfl rfl h0 (by omega) fun i M2 i0 i1 nx=>⟨i,rfl,i0,i1,nx⟩) ?_;rintro x M1 ⟨⟨c,rfl,hcl,hc⟩,nx⟩;refine zAG ?_;rw[zg,zA8];have nw2:=nx.nw.trans (nx.gen.lst (c.map D.int) (zAj _ _));have e6:(M1++[MO.lst (c.map D.int)])[M1.length]?=some (.lst (c.map D.int)):=zAD _ _;have hj:M.length<=M1.length:=nx.nw.len;generalize M1++[MO.lst (c.map D.int)]=M2 at nw2 e6;generalize M1.length=j6 at e6 hj;show Ok (fOp _ _ _ [some (.ref n),some (.int fam),some (.int many),some (.int let_),none,some (.int half),some (.ref j6),none,none,none] M2) _;refine zA3.mpr (zAi.mpr ⟨_,rfl,?_⟩);refine Ok.mono (zIz nw2.gen (cnt:=many-half) (lo:=half) (hi:=many) (by omega) (by omega) (zS rfl rfl rfl) fun r M' hr g=>?_) ?_
  ·refine zA3.mpr (zAi.mpr ⟨_,rfl,zAe g rfl (zS (x:=.dat (.int many)) (y:=.dat (.int half)) rfl rfl rfl) (by omega) (by omega) fun i M3 i0 i1 nx3=>zG9.mpr ⟨_,rfl,by omega,by omega,nx3⟩⟩)
  rintro x M3 ⟨⟨c3,rfl,hcl3,hc3⟩,nx3⟩;have e6':=nx3.nw.get e6 (by omega) (by omega);refine zUk (xs:=c.map D.int) (ys:=c3.map D.int) ?_ rfl (by simp;omega) (zAG ?_)
  ·unfold zIe;dsimp only;rw[e6']
  rw[zEM,<-zXc];refine new _ _ (nw2.trans nx3.nw) ⟨by simp;omega,fun x hx=>?_⟩;rcases zXA.mp hx with q|q
  ·have:=hc x q;omega
  ·have:=hc3 x q;omega
 rw[zW2 (by simpa using w2),zBK,zg,zU,zBO];refine zK (andE (isf 3 _ _ rfl) (isl _ _ rfl)) ?_;by_cases w3:(decide (fam=3)&&decide (let_=0))=true
 ·rw[zWz w3,zA8];refine Ok.mono (zIz h (cnt:=many) (lo:=0) (hi:=many) (by omega) (by omega) rfl fun r M' hr g=>?_) ?_
  ·exact zK (zS (x:=.dat (.int ((r:Int)+1))) (y:=.dat (.int many)) (zS rfl rfl rfl) rfl (zUL m0)) ⟨_,rfl,Int.emod_nonneg _ (by omega),Int.emod_lt_of_pos _ m0,Nx.refl g⟩
  rintro x M1 ⟨⟨c,rfl,hcl,hc⟩,nx⟩;refine zAG ?_;rw[zEM];exact new _ _ nx.nw ⟨hcl,hc⟩
 rw[zW2 w3,zBK,zg,zU,zBO];refine zK (isf 3 _ _ rfl) ?_;by_cases w3':fam=3
 ·rw[zWz (by simpa using w3'),zA8];refine Ok.mono (zIz h (cnt:=many) (lo:=0) (hi:=many) (by omega) (by omega) rfl fun r M' hr g=>?_) ?_
  ·refine zK (zTr (b:=decide ((r:Int)=many-1)) (zVP (x:=.int r) (y:=.int 0) rfl rfl) (zS (x:=.dat (.int r)) (y:=.dat (.int (many-1))) rfl (zS rfl rfl rfl) (zf (zMp.mpr ⟨rfl,rfl⟩)))) ?_;by_cases q:(r:Int)=many-1
   ·rw[zXs q,zWz rfl];exact ⟨0,rfl,by omega,by omega,Nx.refl g⟩
   ·rw[zXJ q,zW2 (by decide)];exact ⟨r,rfl,by omega,by omega,Nx.refl g⟩
  rintro x M1 ⟨⟨c,rfl,hcl,hc⟩,nx⟩;refine zAG ?_;rw[zEM];exact new _ _ nx.nw ⟨hcl,hc⟩
 rw[zW2 (by simpa using w3'),zBK,zg,zU,zBO];refine zK (orE (isf 4 _ _ rfl) (isf 7 _ _ rfl)) ?_;by_cases w4:(decide (fam=4)||decide (fam=7))=true
 ·rw[zWz w4,zU,zm];refine zAe h rfl rfl m0 (by omega) fun far M1 a0 a1 nx1=>?_;rw[zZ,zg,zA8];show Ok (zAf _ _ _ _ _ [some (.ref n),some (.int fam),some (.int many),some (.int let_),none,none,none,some (.int far),none,none] M1) _;refine Ok.mono (zIz nx1.gen (cnt:=many) (lo:=0) (hi:=many) (by omega) (by omega) rfl fun r M' hr g=>?_) ?_
  ·refine zK (zTr (b:=decide (fam=7)) (zVP (x:=.int (((r:Int)+far) % many)) (y:=.int far) (zS (x:=.dat (.int ((r:Int)+far))) (y:=.dat (.int many)) (zS rfl rfl rfl) rfl (zUL m0)) rfl) (zS (x:=.dat (.int fam)) (y:=.dat (.int 7)) rfl rfl (zf (zMp.mpr ⟨rfl,rfl⟩)))) ?_;by_cases q:fam=7
   ·rw[zXs q,zWz rfl];exact ⟨far,rfl,a0,a1,Nx.refl g⟩
   ·rw[zXJ q,zW2 (by decide)];exact ⟨_,rfl,Int.emod_nonneg _ (by omega),Int.emod_lt_of_pos _ m0,Nx.refl g⟩
  rintro x M2 ⟨⟨c,rfl,hcl,hc⟩,nx⟩;refine zAG ?_;rw[zEM];exact new _ _ (nx1.trans nx).nw ⟨hcl,hc⟩
 rw[zW2 w4,zBK,zg,zU,zm];refine zC8.mpr (zK (ze rfl (zi rfl)) ?_);refine Ok.mono (zMC h m0 m1) ?_;rintro d M1 ⟨j,c,rfl,ej,cc,hj,nw1,_⟩;have cl:=cc.1;rw[zZ,zg,zU,zBO];refine zK (andE (isf 6 _ _ rfl) (isl _ _ rfl)) ?_;by_cases w6:(decide (fam=6)&&decide (let_=0))=true
 ·rw[zWz w6,zU,zm];refine zA3.mpr (zAi.mpr ⟨_,rfl,zAe nw1.gen rfl rfl m0 (by omega) fun p M2 p0 p1 nx2=>?_⟩);have ej2:=nx2.nw.get ej (by omega) (by omega);refine zQh (zAJ ej2) (zNR p0 (by omega)) ?_;rw[zZ,zg,zLF];refine zAi.mpr ⟨_,rfl,?_⟩;rw[zZ];refine zAi.mpr ⟨_,rfl,zAe nx2.gen rfl rfl m0 (by omega) fun q M3 q0 q1 nx3=>?_⟩;have ej3:=nx3.nw.get ej2 (by omega) (by omega);rw[zZ];have eq':q=((q.toNat:Nat):Int):=by omega
  refine ⟨M3.set j (.lst ((c.map D.int).set q.toNat (.int (c.getD p.toNat 0)))),?_,?_⟩
  ·have:=zIY (k:=q.toNat) (d:=.int (c.getD p.toNat 0)) ej3 (by rw[zWt];omega);rw[<-eq']at this;exact this
  rw[zg];refine zx rfl ⟨j,c.set q.toNat (c.getD p.toNat 0),rfl,?_,zQ1 cc (by omega),hj,?_⟩
  ·rw[zXe (zWn.mp ej3).1,List.map_set]
  ·refine ((nw1.trans nx2.nw).trans nx3.nw).setB h hj ?_;show D.unds _ _=true;rw[<-List.map_set];exact zAj _ _
 ·rw[zW2 w6,zBK,zg];exact zx rfl ⟨j,c,rfl,ej,cc,hj,nw1⟩
def zEX (many:Int) (cs:List (List Int)):List (List Int):=(List.range many.toNat).map fun r=>cs.map fun c=>c.getD r 0
theorem zPe (h0:0<many) (hc:∀ c∈cs,Col many c) (hl:0<cs.length):IsM (zEX many cs) cs.length:=by
 have hlen:(zEX many cs).length=many.toNat:=by unfold zEX;simp
 refine ⟨by omega,hl,fun r hr=>?_⟩;rw[hlen];unfold zEX at hr;obtain ⟨k,hk,rfl⟩:=zW1.mp hr;refine ⟨by simp,fun g hg=>?_⟩;obtain ⟨c,hcm,rfl⟩:=zW1.mp hg;have:=hc c hcm;have h1:=this.1;have:=zSl this (j:=k) (by have:=zXO.mp hk;omega);omega
def zQv (M:Mem) (lo:Nat) (many:Int) (js:List Nat) (cs:List (List Int)):Prop:=js.length=cs.length /\ ∀ (i:Nat) j c,js[i]?=some j->cs[i]?=some c->lo<=j/\M[j]?=some (.lst (c.map D.int))/\Col many c
theorem zNc (h:Gen M n k) (hm:0<many) (hm1:many<=900) (hl:0<lm) (hl1:lm<=900) :
  Ok (zBi [.ref n,.int many,.int lm] M) fun d M'=>(∃ zA l,d=mD zA/\IsM zA l/\(zA.length:Int)=many/\(l:Int)=lm)/\Nw M M' n k:=by
 obtain ⟨hn,hk⟩:=h.lt;unfold zBi;refine zOP ?_;rw[zAS];unfold zDy;show OkS (zV _ _ [some (.ref n),some (.int many),some (.int lm),none,none,none,none,none] M) _;rw[zU,zm];refine zAe h rfl rfl (by decide) (by decide) fun fam M1 f0 f1 nx1=>?_;rw[zZ,zg,zU,zm];show Ok (zAf _ _ _ _ _ [some (.ref n),some (.int many),some (.int lm),some (.int fam),none,none,none,none] M1) _;refine zGP.mpr ⟨_,_,_,zBs (j:=lm) rfl (by omega) (by omega),by rw[zDz];exact zAY (by omega),?_⟩;refine Ok.mono (zQc (n:=lm.toNat) (I:=fun i acc M'=>∃ (js:List Nat) (cs:List (List Int)),acc=js.map D.ref/\zQv M' M.length many js cs/\cs.length=i/\Nw M M' n k) ?_ ⟨[],[],rfl,⟨rfl,fun i j c h=>by simp at h⟩,rfl,nx1.nw⟩) ?_
 ·rintro i acc M' hi ⟨js,cs,rfl,hcs,hcl,nw⟩;refine ⟨_,rfl,?_⟩;refine zC8.mpr (zK (ze (d:=.ref n) rfl (ze (d:=.int fam) rfl (ze (d:=.int many) rfl (zi (d:=.int (i:Nat)) rfl)))) ?_);refine Ok.mono (zPP nw.gen hm (by omega)) ?_;rintro d M2 ⟨j,c,rfl,ec,cc,hj,nw2⟩;have hle:=nw.len;rw[zZ];refine ⟨js++[j],cs++[c],by simp,⟨by simp[hcs.1],fun a b c' h1 h2=>?_⟩,by simp[hcl],nw.trans nw2⟩;by_cases ha:a<js.length
  ·rw[zWr ha]at h1;rw[zWr (by rw[<-hcs.1];exact ha)]at h2;obtain ⟨q1,q2,q3⟩:=hcs.2 a b c' h1 h2;exact ⟨q1,nw2.get q2 (by omega) (by omega),q3⟩
  ·have ha':a=js.length:=by
    have:=(zWn.mp h1).1;simp at this;omega
   subst ha';rw[zXu (zWq _)]at h1;rw[zXu (by rw[hcs.1];exact zWq _)]at h2;simp at h1;rw[hcs.1]at h2;simp at h2;subst h1 h2;exact ⟨by omega,ec,cc⟩
 ·rintro ys M2 ⟨js,cs,rfl,hcs,hcl,nw⟩;refine zAG ?_;rw[zg];have hju:D.unds M2.length (js.map D.ref)=true:=zIj fun z hz=>by
   obtain ⟨b,hb,rfl⟩:=zW1.mp hz;obtain ⟨i,hi,rfl⟩:=List.mem_iff_getElem.mp hb;have hi':i<cs.length:=by rw[<-hcs.1];exact hi
   obtain ⟨_,q2,_⟩:=hcs.2 i js[i] cs[i] (zWo hi) (zWo hi');simp[D.und,(zWn.mp q2).1]
  have nwA:=nw.trans (nw.gen.lst (js.map D.ref) hju);have eA:(M2++[MO.lst (js.map D.ref)])[M2.length]?=some (.lst (js.map D.ref)):=zAD _ _;have hA:zQv (M2++[MO.lst (js.map D.ref)]) M.length many js cs:=⟨hcs.1,fun i j c h1 h2=>by
   obtain ⟨q1,q2,q3⟩:=hcs.2 i j c h1 h2;exact ⟨q1,by rw[zWr (zWn.mp q2).1];exact q2,q3⟩⟩
  generalize M2++[MO.lst (js.map D.ref)]=A at nwA eA hA;generalize M2.length=j at eA;show OkS (zAC _ [some (.ref n),some (.int many),some (.int lm),some (.int fam),some (.ref j),none,none,none] A) _;have hcol:∀ c∈cs,Col many c:=fun c hc=>by
   obtain ⟨i,hi,rfl⟩:=List.mem_iff_getElem.mp hc;exact (hA.2 i (js[i]'(by rw[hA.1];exact hi)) cs[i] (zWo _) (zWo _)).2.2
  have hlen:(zEX many cs).length=many.toNat:=by unfold zEX;simp
  refine zx (d:=mD (zEX many cs)) ?_ ⟨⟨zK5 _,nwA.len,nwA.wf0 h⟩,⟨zEX many cs,cs.length,rfl,zPe hm hcol (by omega),by omega,by omega⟩,nwA.trim h⟩;refine (zGM (zCT (List.range many.toNat) (fun k=>D.int k) (fun k=> .tup ((cs.map fun c=>c.getD k 0).map D.int)) (zJ2 (f:=zE 1) rfl (by omega) (by omega)) trivial (by simp;omega) fun r hr=>⟨_,rfl,?_⟩) zE9).trans ?_
  ·have hr':=zXO.mp hr;refine (zGM (zCT (gd:=zF8 (.dat (.ref j)) (js.map D.ref)) (List.range js.length) (fun i=>D.ref (js.getD i 0)) (fun i=> .int ((cs.getD i []).getD r 0)) ?_ ?_ (by rw[zYh,hA.1,hcl];omega) fun i hi=>⟨_,rfl,?_⟩) zE9).trans ?_
   ·rw[show ((List.range js.length).map fun i=>D.ref (js.getD i 0))=js.map D.ref by
     apply List.ext_getElem
     ·simp
     ·intro i h1 h2;simp at h1;simp[h1]]
    exact zGZ (x:=.dat (.ref j)) rfl (zAJ eA)
   ·exact .inl eA
   ·have hi':=zXO.mp hi;have hc':i<cs.length:=by rw[<-hA.1];exact hi'
    have ej':js[i]?=some (js.getD i 0):=by rw[zWp,zWo hi'];rfl
    have ec':cs[i]?=some (cs.getD i []):=by rw[zWp,zWo hc'];rfl
    obtain ⟨_,q2,q3⟩:=hA.2 i _ _ ej' ec';have hz:=q3.1;exact zS (x:=.dat (.ref (js.getD i 0))) (y:=.dat (.int (r:Nat))) rfl rfl (zCA (zAJ q2) (zNR (by omega) (by omega)))
   ·congr 3;rw[zW8];refine congrArg D.tup ?_;apply List.ext_getElem
    ·simp[hA.1]
    ·intro i h1 h2;simp at h1 h2;have h2':i<cs.length:=h2;simp[h2']
  ·unfold mD zEX;rw[zW8];rfl
def zEt:FS:=(zAC (zOI (fB zAx (zb (zE 0) zq))))
def zBp:FF:=zBc 1 zEt
def zGC:FS:=(zAC (zHN [1,2] [2] (zBA (zE 0)) (gN 1) zAH (zBA (zE 0)) (gN 2) (tst (fOp kLt (zE 1) (zE 2))) (zAV (zF (toD (zE 1)) (zF (toD (zE 2)) zL)))))
def zBu:FF:=zBc 3 zGC
theorem zL6 {α:Type} (enc out:α->D) (keep:α->Bool):∀ (as:List α),(∀ a∈as,∃ σ1,g (enc a) σ=some σ1/\tc σ1 M=some (keep a,M)/\(keep a=true->te σ1 M=some (.dat (out a),M)))->zBf g tc te σ all none (as.map enc) M=some ((as.filter keep).map out,M)
 |[],_=>by
  rw[List.map_nil];unfold zBf;rw[zWz (show zBd none all M from trivial)];rfl
 |a::r,h=>by
  obtain ⟨σ1,e1,e2,e3⟩:=h a zWy;have ih:=zL6 (all:=all) (σ:=σ) enc out keep r fun b hb=>h b (zWx _ hb);rw[zW3];unfold zBf;rw[zWz (show zBd none all M from trivial),e1];dsimp only;rw[e2];cases hk:keep a with
  |false=>
   dsimp only;rw[ih,List.filter_cons_of_neg (by simp[hk])]
  |true=>
   dsimp only;rw[show toD te σ1 M=some (out a,M) by unfold toD;rw[e3 hk]];dsimp only;rw[ih,List.filter_cons_of_pos hk];rfl
theorem zSD {α β:Type} (as:List α) (enc:α->D) (bs:α->List β) (enc2:β->D) (keep:α->β->Bool) (out:α->β->D) (B:Nat)
  (hi:fi σ M=some (as.map enc,none,M)) (hB:∀ a∈as,(bs a).length<=B) (hz:as.length*B<=90000)
  (he:∀ a∈as,∃ σ1,fg (enc a) (zBo own σ)=some σ1/\fi2 σ1 M=some ((bs a).map enc2,none,M) /\ ∀ b∈bs a,∃ σ2,fg2 (enc2 b) (zBo own2 σ1)=some σ2/\tc2 σ2 M=some (keep a b,M)/\(keep a b=true->te σ2 M=some (.dat (out a b),M))) :
  zHN own own2 fi fg zAH fi2 fg2 tc2 te σ M=some (.fl (as.flatMap fun a=>((bs a).filter (keep a)).map (out a)),M):=by
 have key:∀ (r:List α) (acc:List D),(∀ a∈r,a∈as)->acc.length+r.length*B<=90000->zLD fg zAH fi2 own2 fg2 tc2 te (zBo own σ) (as.map enc) none (r.map enc) acc M=some (acc++r.flatMap fun a=>((bs a).filter (keep a)).map (out a),M):=by
  intro r;induction r with
  |nil=>
   intro acc _ _;rw[List.map_nil];unfold zLD;rw[zWz (show zBd none (as.map enc) M from trivial)];simp
  |cons a r ih=>
   intro acc hs hl;have ha:=hs a zWy;obtain ⟨σ1,e1,e2,e3⟩:=he a ha;have hb:=hB a ha;have hlen:(((bs a).filter (keep a)).map (out a)).length<=(bs a).length:=by rw[zWt];exact List.length_filter_le _ _
   rw[zXH,Nat.add_mul]at hl;rw[zW3];unfold zLD;rw[zWz (show zBd none (as.map enc) M from trivial),e1];dsimp only;rw[show zAH σ1 M=some (true,M)from rfl];dsimp only;rw[e2];dsimp only;rw[zWz (zAY (by rw[zWt];omega)),zL6 enc2 (out a) (keep a) (bs a) e3];dsimp only;rw[ih _ (fun b hb=>hs b (zWx _ hb)) (by rw[zW0];omega)];rw[List.flatMap_cons,zXq]
 unfold zHN;rw[hi];dsimp only;rw[key as [] (fun _ h=>h) (by simpa using hz)];simp
def zo (xs:List Int):List (List Int):=xs.flatMap fun a=>(xs.filter fun b=>decide (a<b)).map fun b=>[a,b]
theorem zLd (hz:xs.length<=200):zBu [tI xs] M=some (.ref M.length,M++[.lst ((zo xs).map tI)]):=by
 suffices h:Ok (zBu [tI xs] M) fun d M'=>d=.ref M.length/\M'=M++[.lst ((zo xs).map tI)] by
  obtain ⟨d,M',e,rfl,rfl⟩:=h;exact e
 unfold zBu;rw[zAS];unfold zGC;rw[zA8];have hq:xs.length*xs.length<=90000:=zXB (zYM hz hz) (by decide);refine zK (zSD xs D.int (fun _=>xs) D.int (fun a b=>decide (a<b)) (fun a b=>tI [a,b]) xs.length (zDu rfl) (fun _ _=>zWq _) hq fun a ha=>⟨_,rfl,zDu rfl,fun b hb=>⟨_,rfl,?_,fun _=>?_⟩⟩) (zAG ⟨rfl,?_⟩)
 ·exact zAU (zS (x:=.dat (.int a)) (y:=.dat (.int b)) rfl rfl (zf (zRu.mpr ⟨rfl,rfl⟩)))
 ·unfold zAV;rw[ze (d:=.int a) rfl (zi (d:=.int b) rfl)];dsimp only;rw[zWz (zAY (by simp))];rfl
 ·congr 3;unfold zo;rw[List.map_flatMap];congr 1;funext a;rw[zW8];rfl
theorem zAv:p∈zo xs ↔ ∃ a b,p=[a,b]/\a∈xs/\b∈xs/\a<b:=by
 unfold zo;rw[List.mem_flatMap];constructor
 ·rintro ⟨a,ha,h⟩;obtain ⟨b,hb,rfl⟩:=zW1.mp h;obtain ⟨h1,h2⟩:=zXv.mp hb;exact ⟨a,b,rfl,ha,h1,zXg h2⟩
 ·rintro ⟨a,b,rfl,ha,hb,hlt⟩;exact ⟨a,ha,zW1.mpr ⟨b,zXv.mpr ⟨hb,zXs hlt⟩,rfl⟩⟩
theorem zLT (hz:zA.length<=1000):zBp [mD zA] M=some (tI ((List.range zA.length).map fun (k:Nat)=>(k:Int)),M):=by
 refine zf ?_;unfold zBp;rw[zAS];unfold zEt;refine zx (d:=tI ((List.range zA.length).map fun (k:Nat)=>(k:Int))) ?_ ⟨rfl,rfl⟩;unfold zOI;rw[show fB zAx (zb (zE 0) zq) ([mD zA].map some++List.replicate (1 - [mD zA].length) none) M=some (.dat (.int zA.length),M)from zC1 rfl];dsimp only;rw[zWz ⟨by omega,by omega⟩];unfold upD tI;rw[zW8,show (zA.length:Int).toNat=zA.length by omega];rfl
def zKa (g:List Int):List Key:=g.map Sum.inl
theorem zMY:∀ {a b:List Int},zKa a=zKa b->a=b
 |[],[],_=>rfl
 |[],_::_,h=>by cases h
 |_::_,[],h=>by cases h
 |x::a,y::b,h=>by
  have h1:=(zXo h).1;have h2:=zMY (zXo h).2;cases h1;rw[h2]
theorem zIL:∀ g:List Int,zFs (g.map D.int)=some (zKa g)
 |[]=>rfl
 |x::r=>by
  rw[zW3];unfold zFs;rw[zIL r];rfl
theorem zI4 (g:List Int):tkD (tI g)=some (zKa g):=zIL g
abbrev zGo (T:List (List Int × D)):List (D × D):=T.map fun q=>(tI q.1,q.2)
abbrev dT (T:List (List Int × D)):MO:=.dicT (zGo T)
def zR:List (List Int × D)->List Int->Option D
 |[],_=>none
 |q::r,g=>if q.1=g then some q.2 else zR r g
def zCP (T:List (List Int × D)) (g:List Int) (v:D):List (List Int × D):=match zR T g with
 |some _=>T.map fun q=>if q.1=g then (q.1,v) else q
 |none=>T++[(g,v)]
theorem zK6 (a g:List Int):decide (tkD (tI a)=some (zKa g))=decide (a=g):=by
 rw[zI4];by_cases h:a=g
 ·subst h;simp
 ·rw[zXJ h,zXJ];intro e;exact h (zMY (zXk e))
theorem zQT (g:List Int):∀ T:List (List Int × D),zFq tkD (zGo T) (zKa g)=zR T g
 |[]=>rfl
 |q::r=>by
  have ih:=zQT g r;unfold zFq at ih ⊢;unfold zGo at ih ⊢;rw[zW3,zYW];dsimp only;rw[zK6];unfold zR;by_cases h:q.1=g
  ·rw[zXs h,zWz h];rfl
  ·rw[zXJ h,zW2 h];exact ih
theorem zTj (g:List Int):∀ T:List (List Int × D),((zGo T).any fun p=>decide (tkD p.1=some (zKa g)))=(zR T g).isSome
 |[]=>rfl
 |q::r=>by
  have ih:=zTj g r;unfold zGo at ih ⊢;rw[zW3,List.any_cons,zK6];unfold zR;by_cases h:q.1=g
  ·rw[zXs h,zWz h];rfl
  ·rw[zXJ h,zW2 h,Bool.false_or];exact ih
theorem zVq (T:List (List Int × D)) (g:List Int) (v:D):zLc tkD (zGo T) (zKa g) (tI g) v=zGo (zCP T g v):=by
 unfold zLc zCP;rw[zTj];cases h:zR T g with
 |none=>
  rw[zW2 (by simp)];unfold zGo;rw[zXc];rfl
 |some d=>
  rw[zWz (by simp)];unfold zGo;dsimp only;rw[zW8,zW8];apply List.map_congr_left;intro q _;show (if tkD (tI q.1)=some (zKa g) then (tI q.1,v) else (tI q.1,q.2))=(tI (if q.1=g then (q.1,v) else q).1,(if q.1=g then (q.1,v) else q).2);have hd:=zK6 q.1 g;by_cases hq:q.1=g
  ·rw[zXs hq]at hd;rw[zWz (zXg hd),zWz hq]
  ·rw[zXJ hq]at hd;rw[zW2 (of_decide_eq_false hd),zW2 hq]
theorem zFe (T:List (List Int × D)) (g h:List Int) (v:D):zR (zCP T g v) h=if g=h then some v else zR T h:=by
 have app:∀ (T:List (List Int × D)),zR T g=none->zR (T++[(g,v)]) h=if g=h then some v else zR T h:=by
  intro T;induction T with
  |nil=>intro _;rfl
  |cons q r ih=>
   intro e;unfold zR at e;by_cases hq:q.1=g
   ·rw[zWz hq]at e;cases e
   ·rw[zW2 hq]at e;show (if q.1=h then some q.2 else zR (r++[(g,v)]) h)=if g=h then some v else if q.1=h then some q.2 else zR r h
    rw[ih e];by_cases h1:q.1=h
    ·rw[zWz h1,zWz h1,zW2 (fun z=>hq (h1.trans z.symm))]
    ·rw[zW2 h1,zW2 h1]
 have mp:∀ (T:List (List Int × D)),(zR T g).isSome=true->zR (T.map fun q=>if q.1=g then (q.1,v) else q) h=if g=h then some v else zR T h:=by
  intro T;by_cases hgh:g=h
  ·subst hgh;induction T with
   |nil=>intro e;cases e
   |cons q r ih=>
    intro e;rw[zW3];unfold zR;by_cases hq:q.1=g
    ·rw[zWz hq];simp[hq]
    ·rw[zW2 hq,zW2 hq];unfold zR at e;rw[zW2 hq]at e;rw[ih e,zWz rfl,zWz rfl]
  ·intro hx;clear hx;rw[zW2 hgh];clear app;induction T with
   |nil=>rfl
   |cons q r ih=>
    rw[zW3];unfold zR;by_cases hq:q.1=g
    ·have:¬ q.1=h:=fun z=>hgh (hq.symm.trans z);rw[zWz hq];show (if q.1=h then some v else _)=_;rw[zW2 this,zW2 this];exact ih
    ·rw[zW2 hq];by_cases h1:q.1=h
     ·rw[zWz h1,zWz h1]
     ·rw[zW2 h1,zW2 h1];exact ih
 unfold zCP;cases e:zR T g with
 |none=>exact app T e
 |some d=>exact mp T (by rw[e];rfl)
theorem zMb (T:List (List Int × D)) (g:List Int) (v:D):(zCP T g v).length<=T.length+1:=by
 unfold zCP;cases zR T g with
 |none=>simp
 |some d=>simp
section
variable {M:Mem} {n:Nat} {T:List (List Int × D)} {g:List Int}
theorem dgT (h:M[n]?=some (dT T)):zHh M (.dat (.ref n)) (tI g)=some (zR T g):=by
 unfold zHh;dsimp only;rw[h];dsimp only;rw[zI4];dsimp only;rw[zQT]
theorem zLj (h:M[n]?=some (dT T)):zCO neg (.dat (tI g)) (.dat (.ref n)) M=some (.dat (.bl (if neg then !(zR T g).isSome else (zR T g).isSome)),M):=by
 unfold zCO;dsimp only;rw[dgT h]
theorem zHX (h:M[n]?=some (dT T)) (hd:zR T g=some d):zBI (.dat (.ref n)) (.dat (tI g)) M=some (.dat d,M):=by
 unfold zBI;dsimp only;rw[dgT h,hd]
theorem zIc (h:M[n]?=some (dT T)) (hz:T.length<90000):zHW M n (tI g) v=some (M.set n (dT (zCP T g v))):=by
 unfold zHW;rw[h];dsimp only;rw[zI4];dsimp only;rw[zWz (by rw[zWt];exact zW9 hz (zAY (by omega))),zVq]
end
def zFS:FS:=(zV (zAM 1 zH9)
  (zV (zC2 (zBA (zY zBu (zF (toD (zY zBp (zF (toD (zE 0)) zL))) zL))) (gN 2) (zC2 (zAc (zF (toD (fB zAx (zb (fOp kIx (zE 0) (fC (.int 0))) zq))) zL)) (gN 3) (zV (zAM 4 (zY zBz (zF (toD (zE 0)) (zF (toD (zE 2)) (zF (toD (zE 3)) zL)))))
  (zV (sIf (tst (fOp (zCO true) (zE 4) (zE 1))) (zC7 (zAk zL) (zE 1) (zE 4)) zA1)
  (zBm (fM zA7 (fOp zBI (zE 1) (zE 4)) (zF (toD (zE 2)) zL)))))))
  (zAC (zE 1))))
def zCy:FF:=zBc 5 zFS
def zED (zA:List (List Int)) (ps:List (List Int × Int)) (g:List Int):List (List Int):=(ps.filter fun q=>decide (setR zA q.1 q.2=g)).map (·.1)
theorem zIw (zA:List (List Int)) (ps:List (List Int × Int)) (p:List Int) (x:Int) (g:List Int):zED zA (ps++[(p,x)]) g=zED zA ps g++(if setR zA p x=g then [p] else []):=by
 unfold zED;rw[List.filter_append,zXc];congr 1;by_cases h:setR zA p x=g
 ·rw[zWz h,List.filter_cons_of_pos (by simpa using h)];rfl
 ·rw[zW2 h,List.filter_cons_of_neg (by simpa using h)];rfl
structure Sr (zA:List (List Int)) (M:Mem) (jd lo:Nat) (ps:List (List Int × Int)):Prop where
 ex:∃ T:List (List Int × D),M[jd]?=some (dT T)/\T.length<=ps.length/\(∀ g d,zR T g=some d -> ∃ j,d=.ref j/\lo<j/\M[j]?=some (.lst ((zED zA ps g).map tI)))/\(∀ g,zR T g=none->zED zA ps g=[]) /\ ∀ g g' j,zR T g=some (.ref j)->zR T g'=some (.ref j)->g=g'
theorem zO4 {zA:List (List Int)} {l:Nat} (m:IsM zA l) (hR:zA.length<64) {M:Mem} {jd lo:Nat} {ps:List (List Int × Int)} (hps:ps.length<50000) (hlo:jd<lo) (hlo2:lo<M.length) (sr:Sr zA M jd lo ps) {p:List Int} (hp:IsS zA p) {x:Int} (x0:0<=x) (x1:x<l) {y4:Option D} :
  OkS (zV (zAM 4 (zY zBz (zF (toD (zE 0)) (zF (toD (zE 2)) (zF (toD (zE 3)) zL))))) (zV (sIf (tst (fOp (zCO true) (zE 4) (zE 1))) (zC7 (zAk zL) (zE 1) (zE 4)) zA1) (zBm (fM zA7 (fOp zBI (zE 1) (zE 4)) (zF (toD (zE 2)) zL)))) [some (mD zA),some (.ref jd),some (tI p),some (.int x),y4] M)
   fun o σ' M'=>o=.nx/\(∃ y,σ'=[some (mD zA),some (.ref jd),some (tI p),some (.int x),y])/\Sr zA M' jd lo (ps++[(p,x)])/\M.length<=M'.length /\ ∀ j,j<=lo->j≠jd->M'[j]?=M[j]?:=by
 obtain ⟨T,ed,hT,h1,h2,h3⟩:=sr.ex;refine zC3 (zr (ze rfl (ze rfl (zi rfl))) (zK1 m hR hp x0 x1)) ?_;generalize hg:setR zA p x=goal;show OkS (zV _ _ [some (mD zA),some (.ref jd),some (tI p),some (.int x),some (tI goal)] M) _;rw[zU,zBO];refine zK (M:=M) (a:=!(zR T goal).isSome) (zAU (zS (x:=.dat (tI goal)) (y:=.dat (.ref jd)) rfl rfl (zLj ed))) ?_
 have last:∀ (A:Mem) (T':List (List Int × D)) (j:Nat),A[jd]?=some (dT T')->zR T' goal=some (.ref j)->lo<j->A[j]?=some (.lst ((zED zA ps goal).map tI))->T'.length<=ps.length+1->M.length<=A.length->(∀ j,j<=lo->j≠jd->A[j]?=M[j]?) ->
   (∀ g d,zR T' g=some d -> ∃ j,d=.ref j/\lo<j/\A[j]?=some (.lst ((zED zA ps g).map tI)))->(∀ g,zR T' g=none->zED zA ps g=[])->(∀ g g' j,zR T' g=some (.ref j)->zR T' g'=some (.ref j)->g=g') ->
   OkS (zBm (fM zA7 (fOp zBI (zE 1) (zE 4)) (zF (toD (zE 2)) zL)) [some (mD zA),some (.ref jd),some (tI p),some (.int x),some (tI goal)] A)
    fun o σ' M'=>o=.nx/\(∃ y,σ'=[some (mD zA),some (.ref jd),some (tI p),some (.int x),y])/\Sr zA M' jd lo (ps++[(p,x)])/\M.length<=M'.length /\ ∀ j,j<=lo->j≠jd->M'[j]?=M[j]?:=by
  intro A T' j ea el hj ej hz hle hfr k1 k2 k3;rw[zDN];have hfl:(zED zA ps goal).length<=ps.length:=by unfold zED;rw[zWt];exact List.length_filter_le _ _
  have jl:j<A.length:=(zWn.mp ej).1;refine zNs.mpr (zK (zS (x:=.dat (.ref jd)) (y:=.dat (tI goal)) rfl rfl (zHX ea el)) ⟨⟨_,zBl ej⟩,zK (zi (d:=tI p) rfl) ?_⟩);rw[zH5 ej (by rw[zWt];exact zW9 (m:=95000) (by omega) (zAY (by omega)))];refine ⟨rfl,⟨_,rfl⟩,⟨T',by rw[zXE (by omega)];exact ea,by simpa using hz,fun g d hd=>?_,fun g hd=>?_,k3⟩,by simpa using hle,fun i hi hn=>by rw[zXE (by omega)];exact hfr i hi hn⟩
  ·obtain ⟨j',rfl,hj',ej'⟩:=k1 g d hd;refine ⟨j',rfl,hj',?_⟩;rw[zIw,hg];by_cases hgg:goal=g
   ·subst hgg;rw[el]at hd;cases hd;rw[zXe jl,zWz rfl,zXc];rfl
   ·rw[zW2 hgg,zXU];have:j≠j':=fun z=>hgg (k3 goal g j el (by rw[z];exact hd));rw[zXE this];exact ej'
  ·rw[zIw,hg,zW2 (fun z=>by rw[<-z,el]at hd;cases hd),zXU];exact k2 g hd
 cases hl:zR T goal with
 |some d=>
  obtain ⟨j,rfl,hj,ej⟩:=h1 goal d hl;rw[zW2 (by simp),zBK,zg];exact last M T j ed hl hj ej (by omega) (zWq _) (fun _ _ _=>rfl) h1 h2 h3
 |none=>
  rw[zWz (by simp)];have e0:=h2 goal hl;have jdl:jd<M.length:=(zWn.mp ed).1;have ed':(M++[MO.lst ([]:List D)])[jd]?=some (dT T):=by rw[zWr jdl];exact ed
  refine ⟨.nx,[some (mD zA),some (.ref jd),some (tI p),some (.int x),some (tI goal)],(M++[MO.lst ([]:List D)]).set jd (dT (zCP T goal (.ref M.length))),?_,?_⟩
  ·unfold zC7;rw[show toD (zAk zL) [some (mD zA),some (.ref jd),some (tI p),some (.int x),some (tI goal)] M=some (.ref M.length,M++[.lst []]) by
    unfold toD zAk zL;dsimp only;rw[zWz (zAY (by simp))]]
   dsimp only;rw[show toD (zE 1) [some (mD zA),some (.ref jd),some (tI p),some (.int x),some (tI goal)] (M++[.lst []])=some (.ref jd,M++[.lst []])from rfl];dsimp only;rw[show toD (zE 4) [some (mD zA),some (.ref jd),some (tI p),some (.int x),some (tI goal)] (M++[.lst []])=some (tI goal,M++[.lst []])from rfl];dsimp only;rw[zIc ed' (by omega)]
  rw[zg];have hput:=fun g=>zFe T goal g (.ref M.length);refine last _ (zCP T goal (.ref M.length)) M.length (zXe (by simp;omega)) (by rw[hput,zWz rfl]) hlo2 ?_ (by have:=zMb T goal (.ref M.length);omega) (by simp) (fun i hi hn=>?_) (fun g d hd=>?_) (fun g hd=>?_) (fun g g' j hd hd'=>?_)
  ·rw[zXE (by omega),e0];simp
  ·rw[zXE (Ne.symm hn),zWr (by omega)]
  ·rw[hput]at hd;by_cases hgg:goal=g
   ·subst hgg;rw[zWz rfl]at hd;cases hd;exact ⟨M.length,rfl,hlo2,by rw[zXE (by omega),e0];simp⟩
   ·rw[zW2 hgg]at hd;obtain ⟨j,rfl,hj,ej⟩:=h1 g d hd;exact ⟨j,rfl,hj,by rw[zXE (by omega),zWr (zWn.mp ej).1];exact ej⟩
  ·rw[hput]at hd;by_cases hgg:goal=g
   ·rw[zWz hgg]at hd;cases hd
   ·rw[zW2 hgg]at hd;exact h2 g hd
  ·rw[hput]at hd hd';by_cases a:goal=g
   ·by_cases b:goal=g'
    ·rw[<-a,<-b]
    ·rw[zWz a]at hd;rw[zW2 b]at hd';cases hd;obtain ⟨j,e,_,ej⟩:=h1 g' _ hd';cases e;exact absurd (zWn.mp ej).1 (zXS _)
   ·rw[zW2 a]at hd;by_cases b:goal=g'
    ·rw[zWz b]at hd';cases hd';obtain ⟨j,e,_,ej⟩:=h1 g _ hd;cases e;exact absurd (zWn.mp ej).1 (zXS _)
    ·rw[zW2 b]at hd';exact h3 g g' j hd hd'
def za (zA:List (List Int)):List Int:=(List.range zA.length).map fun (k:Nat)=>(k:Int)
def zDb (l:Nat) (ps:List (List Int)):List (List Int × Int):=ps.flatMap fun p=>(List.range l).map fun (x:Nat)=>(p,(x:Int))
theorem zIA (l:Nat) (ps:List (List Int)):(zDb l ps).length=ps.length*l:=by
 unfold zDb;induction ps with
 |nil=>simp
 |cons p r ih=>rw[List.flatMap_cons,zW0,ih,zWt,zYh,zXH,Nat.add_mul];omega
theorem zDS (xs:List Int):(zo xs).length<=xs.length*xs.length:=by
 unfold zo;have:∀ (r:List Int),(r.flatMap fun a=>(xs.filter fun b=>decide (a<b)).map fun b=>[a,b]).length<=r.length*xs.length:=by
  intro r;induction r with
  |nil=>simp
  |cons a r ih=>
   rw[List.flatMap_cons,zW0,zWt,zXH,Nat.add_mul];have:=List.length_filter_le (fun b=>decide (a<b)) xs;omega
 exact this xs
theorem zNt (h:p∈zo (za zA)):IsS zA p:=by
 obtain ⟨a,b,rfl,ha,hb,hlt⟩:=zAv.mp h;obtain ⟨i,hi,rfl⟩:=zW1.mp ha;obtain ⟨j,hj,rfl⟩:=zW1.mp hb;have:=zXO.mp hi;have:=zXO.mp hj;refine ⟨by simp;omega,by simp,fun x hx=>?_⟩;simp only[zWw,zXF,zX5]at hx;omega
theorem zON {M M1:Mem} (ha:a σ M=some (ds,M)) (hg:g ds M=some (.ref j,M1)) (hj:M1[j]?=some (.lst xs)):zBA (zY g a) σ M=some (xs,zF8 (.dat (.ref j)) xs,M1):=by
 have:zY g a σ M=some (.dat (.ref j),M1):=by unfold zY;rw[ha];dsimp only;rw[hg]
 unfold zBA;rw[this];dsimp only;rw[zAJ hj]
theorem zS7 {zA:List (List Int)} {l:Nat} (m:IsM zA l) (hR:zA.length<64) (hl:l<=12) {M:Mem}:Ok (zCy [mD zA] M) fun d M'=>d=.ref M.length/\Sr zA M' M.length (M.length+1) (zDb l (zo (za zA)))/\M.length+1<M'.length /\ ∀ j,j<M.length->M'[j]?=M[j]?:=by
 unfold zCy;rw[zAS];unfold zFS;show OkS (zV _ _ [some (mD zA),none,none,none,none] M) _;rw[zU,zm];refine zK (M:=M++[.dicT []]) (a:=.dat (.ref M.length)) rfl ?_;rw[zZ,zg,zU,zBV];show ∃ xs gd M1,zBA _ [some (mD zA),some (.ref M.length),none,none,none] (M++[.dicT []])=some (xs,gd,M1)/\_;have hrl:(za zA).length=zA.length:=by unfold za;simp
 have epr:=zLd (xs:=za zA) (by omega) (M:=M++[.dicT []]);refine ⟨_,_,_,zON (zi (d:=tI (za zA)) (zr (zi (d:=mD zA) rfl) (zLT (by omega)))) epr (zAD _ _),?_⟩;rw[show (M++[MO.dicT []]).length=M.length+1 by simp];generalize hP:zo (za zA)=P;have hPl:P.length<=3969:=by
  rw[<-hP];have h1:=zDS (za zA);rw[hrl]at h1;exact zXB h1 (zYM (show zA.length<=63 by omega) (show zA.length<=63 by omega))
 have e1:(M++[MO.dicT []]++[MO.lst (P.map tI)])[M.length+1]?=some (.lst (P.map tI)):=by
  rw[zXq,zXu (by omega)];simp
 have e0:(M++[MO.dicT []]++[MO.lst (P.map tI)])[M.length]?=some (dT []):=by
  rw[zXq,zXu (by omega)];simp
 have ef:∀ j,j<M.length->(M++[MO.dicT []]++[MO.lst (P.map tI)])[j]?=M[j]?:=fun j hj=>by rw[zXq,zWr hj]
 have el:(M++[MO.dicT []]++[MO.lst (P.map tI)]).length=M.length+2:=by simp
 generalize M++[MO.dicT []]++[MO.lst (P.map tI)]=M1 at e1 e0 ef el;refine zBr (I:=fun r σ M'=>(∃ y2 y3 y4,σ=[some (mD zA),some (.ref M.length),y2,y3,y4]) /\ ∃ us vs:List (List Int),P=us++vs/\r=vs.map tI/\Sr zA M' M.length (M.length+1) (zDb l us)/\M'[M.length+1]?=some (.lst (P.map tI))/\M.length+1<M'.length /\ ∀ j,j<M.length->M'[j]?=M[j]?) ?_ ?_ _ _ _ ⟨⟨_,_,_,rfl⟩,[],P,rfl,rfl,⟨[],e0,by simp,(fun g d h=>by cases h),(fun _ _=>rfl),(fun g g' j h=>by cases h)⟩,e1,by omega,ef⟩
 ·rintro x r σ M' ⟨⟨y2,y3,y4,rfl⟩,us,vs,hab,hr,sr,ep,hlen,hfr⟩;cases vs with
  |nil=>cases hr
  |cons p vs=>
   rw[zW3]at hr;obtain ⟨rfl,rfl⟩:=zXo hr;have hpm:p∈zo (za zA):=by rw[hP,hab];simp
   have hul:us.length<3969:=by have:=congrArg List.length hab;simp at this;omega
   refine ⟨.inl ep,_,rfl,?_⟩;show OkS (zC2 _ _ _ [some (mD zA),some (.ref M.length),some (tI p),y3,y4] M') _;rw[zBV];refine ⟨_,_,_,zBs (zET m rfl) (by omega) (by omega),?_⟩;rw[show (l:Int).toNat=l by omega];refine zGA (n:=l) (I:=fun i σ M''=>(∃ y3 y4,σ=[some (mD zA),some (.ref M.length),some (tI p),y3,y4])/\Sr zA M'' M.length (M.length+1) (zDb l us++(List.range i).map fun (x:Nat)=>(p,(x:Int)))/\M''[M.length+1]?=some (.lst (P.map tI))/\M.length+1<M''.length /\ ∀ j,j<M.length->M''[j]?=M[j]?) ?_ ?_ _ _ ⟨⟨_,_,rfl⟩,by simpa using sr,ep,hlen,hfr⟩
   ·rintro i σ M2 hi ⟨⟨y3,y4,rfl⟩,sr2,ep2,hlen2,hfr2⟩;refine ⟨_,rfl,?_⟩;have hcount:(zDb l us++(List.range i).map fun (x:Nat)=>(p,(x:Int))).length<50000:=by
     rw[zW0,zIA,zWt,zYh];have:=zYM (show us.length<=3968 by omega) hl;omega
    refine OkS.mono (zO4 m hR hcount (zXh _) hlen2 sr2 (zNt hpm) (x:=(i:Int)) (by omega) (by omega)) ?_;rintro o σ' M3 ⟨rfl,⟨y,rfl⟩,sr3,hl3,hf3⟩;refine ⟨⟨_,_,rfl⟩,?_,by rw[hf3 _ (zWq _) (by omega)];exact ep2,by omega,fun j hj=>by rw[hf3 j (by omega) (by omega)];exact hfr2 j hj⟩;rw[List.range_succ,zXc,<-zXq];exact sr3
   ·rintro σ M2 ⟨⟨y3,y4,rfl⟩,sr2,ep2,hlen2,hfr2⟩;refine ⟨⟨_,_,_,rfl⟩,us++[p],vs,by rw[hab];simp,rfl,?_,ep2,hlen2,hfr2⟩;have:zDb l (us++[p])=zDb l us++(List.range l).map fun (x:Nat)=>(p,(x:Int)):=by
     unfold zDb;rw[List.flatMap_append];simp
    rw[this];exact sr2
 ·rintro σ M' ⟨⟨y2,y3,y4,rfl⟩,us,vs,hab,hr,sr,ep,hlen,hfr⟩;have:vs=[]:=by cases vs with|nil=>rfl|cons _ _=>cases hr
  subst this;rw[zXU]at hab;subst hab;refine ⟨.inl ep,?_⟩;rw[zg];exact zx rfl ⟨rfl,sr,hlen,hfr⟩
def zEU:FS:=(zV (zAM 2 (zY zCy (zF (toD (zE 0)) zL)))
  (zV (zAM 3 (zE 1))
  (zV (zAM 4 (zCi true [5] (zBA (zE 1)) (gN 5) zAH (zE 5) (fC (.int 0))))
  (zV (zCY (zOk (zE 3)) (zV (zAM 6 (zAk zL))
  (zV (zC2 (zBA (zE 3)) (gN 5) (zC2 (zBA (zCl (zE 2) (zE 5) (zAk zL))) (gN 7) (sIf (tst (fOp (zCO true) (zE 7) (zE 4))) (zV (zC7 (fOp zAZ (fOp zBI (zE 4) (zE 5)) (fC (.int 1))) (zE 4) (zE 7))
  (zBm (fM zA7 (zE 6) (zF (toD (zE 7)) zL)))) zA1)))
  (zAM 3 (zE 6)))) 1000)
  (zAC (zE 4))))))
def zCS:FF:=zBc 8 zEU
abbrev Fd:=List (List Int × D) × List (List Int)
def zBn (k:Int) (st:Fd) (p:List Int):Fd:=if (zR st.1 p).isSome then st else (zCP st.1 p (.int k),st.2++[p])
structure Lv (M0 M:Mem) (jf jb:Nat) (st:Fd):Prop where
 f:M[jf]?=some (dT st.1)
 b:M[jb]?=some (.lst (st.2.map tI))
 len:M0.length<=M.length
 fr:∀ j,j<M0.length->j≠jf->j≠jb->M[j]?=M0[j]?
theorem zQZ (k:Int) (st:Fd) (p:List Int):(zBn k st p).1.length<=st.1.length+1/\(zBn k st p).2.length<=st.2.length+1:=by
 unfold zBn;split
 ·exact ⟨by omega,by omega⟩
 ·exact ⟨zMb _ _ _,by simp⟩
theorem zTJ {M0:Mem} {jf jb js jd jl:Nat} {zA:List (List Int)} {x1 x3 y7:Option D} {goal:List Int} {k:Int} {ps:List (List Int)} (hne:jf≠jb) (h1:jf<M0.length) (h2:jb<M0.length) :
  ∀ (M:Mem) (st:Fd),Lv M0 M jf jb st->M[js]?=some (.lst (ps.map tI))->js≠jf->js≠jb->zR st.1 goal=some (.int k)->st.1.length+ps.length<=80000->st.2.length+ps.length<=80000 ->
  OkS (zDi (gN 7) (sIf (tst (fOp (zCO true) (zE 7) (zE 4))) (zV (zC7 (fOp zAZ (fOp zBI (zE 4) (zE 5)) (fC (.int 1))) (zE 4) (zE 7)) (zBm (fM zA7 (zE 6) (zF (toD (zE 7)) zL)))) zA1) (ps.map tI) (zF8 (.dat (.ref js)) (ps.map tI)) (ps.map tI) [some (mD zA),x1,some (.ref jd),x3,some (.ref jf),some (tI goal),some (.ref jb),y7] M)
   fun o σ' M'=>o=.nx/\(∃ y,σ'=[some (mD zA),x1,some (.ref jd),x3,some (.ref jf),some (tI goal),some (.ref jb),y])/\Lv M0 M' jf jb (ps.foldl (zBn (k+1)) st)/\M'.length=M.length /\ ∀ j,j≠jf->j≠jb->M'[j]?=M[j]?:=by
 intro M st lv ejs n1 n2 hgl z1 z2;refine zBr (I:=fun r σ M'=>(∃ y,σ=[some (mD zA),x1,some (.ref jd),x3,some (.ref jf),some (tI goal),some (.ref jb),y]) /\ ∃ us vs:List (List Int),ps=us++vs/\r=vs.map tI/\Lv M0 M' jf jb (us.foldl (zBn (k+1)) st)/\zR (us.foldl (zBn (k+1)) st).1 goal=some (.int k)/\(us.foldl (zBn (k+1)) st).1.length<=st.1.length+us.length/\(us.foldl (zBn (k+1)) st).2.length<=st.2.length+us.length/\M'.length=M.length /\ ∀ j,j≠jf->j≠jb->M'[j]?=M[j]?) ?_ ?_ _ _ _ ⟨⟨_,rfl⟩,[],ps,rfl,rfl,lv,hgl,by simp,by simp,rfl,fun _ _ _=>rfl⟩
 ·rintro x r σ M' ⟨⟨y,rfl⟩,us,vs,hab,hr,lv',hg',l1,l2,hl,hfr⟩;cases vs with
  |nil=>cases hr
  |cons p vs=>
   rw[zW3]at hr;obtain ⟨rfl,rfl⟩:=zXo hr;have hul:us.length<ps.length:=by rw[hab];simp
   refine ⟨.inl (by rw[hfr js n1 n2];exact ejs),_,rfl,?_⟩;show OkS (sIf _ _ _ [some (mD zA),x1,some (.ref jd),x3,some (.ref jf),some (tI goal),some (.ref jb),some (tI p)] M') _;have hfold:(us++[p]).foldl (zBn (k+1)) st=zBn (k+1) (us.foldl (zBn (k+1)) st) p:=by rw[List.foldl_append];rfl
   generalize us.foldl (zBn (k+1)) st=st' at lv' hg' l1 l2 hfold;have al:=zQZ (k+1) st' p;rw[zBO];refine zK (M:=M') (a:=!(zR st'.1 p).isSome) (zAU (zS (x:=.dat (tI p)) (y:=.dat (.ref jf)) rfl rfl (zLj lv'.f))) ?_;cases hlk:zR st'.1 p with
   |some d=>
    have ea:zBn (k+1) st' p=st':=by unfold zBn;rw[hlk];rfl
    rw[zW2 (by simp),zBK];refine ⟨⟨_,rfl⟩,us++[p],vs,by rw[hab];simp,rfl,?_⟩;rw[hfold,ea];exact ⟨lv',hg',by simp;omega,by simp;omega,hl,hfr⟩
   |none=>
    have ea:zBn (k+1) st' p=(zCP st'.1 p (.int (k+1)),st'.2++[p]):=by unfold zBn;rw[hlk];rfl
    have hgp:p≠goal:=fun z=>by rw[z,hg']at hlk;cases hlk
    rw[zWz (by simp),zU];have ev:fOp zAZ (fOp zBI (zE 4) (zE 5)) (fC (.int 1)) [some (mD zA),x1,some (.ref jd),x3,some (.ref jf),some (tI goal),some (.ref jb),some (tI p)] M'=some (.dat (.int (k+1)),M'):=zS (x:=.dat (.int k)) (zS (x:=.dat (.ref jf)) (y:=.dat (tI goal)) rfl rfl (zHX lv'.f hg')) rfl rfl;have hd:OkS (zC7 (fOp zAZ (fOp zBI (zE 4) (zE 5)) (fC (.int 1))) (zE 4) (zE 7) [some (mD zA),x1,some (.ref jd),x3,some (.ref jf),some (tI goal),some (.ref jb),some (tI p)] M') fun o σ' M2=>o=.nx/\σ'=[some (mD zA),x1,some (.ref jd),x3,some (.ref jf),some (tI goal),some (.ref jb),some (tI p)]/\M2=M'.set jf (dT (zCP st'.1 p (.int (k+1)))):=by
     refine ⟨.nx,_,_,?_,rfl,rfl,rfl⟩;unfold zC7;rw[show toD (fOp zAZ (fOp zBI (zE 4) (zE 5)) (fC (.int 1))) [some (mD zA),x1,some (.ref jd),x3,some (.ref jf),some (tI goal),some (.ref jb),some (tI p)] M'=some (.int (k+1),M') by unfold toD;rw[ev]];dsimp only;rw[show toD (zE 4) [some (mD zA),x1,some (.ref jd),x3,some (.ref jf),some (tI goal),some (.ref jb),some (tI p)] M'=some (.ref jf,M')from rfl];dsimp only;rw[show toD (zE 7) [some (mD zA),x1,some (.ref jd),x3,some (.ref jf),some (tI goal),some (.ref jb),some (tI p)] M'=some (tI p,M')from rfl];dsimp only;rw[zIc lv'.f (by omega)]
    refine OkS.mono hd ?_;rintro o σ' M2 ⟨rfl,rfl,rfl⟩;rw[zg,zDN];have eb:(M'.set jf (dT (zCP st'.1 p (.int (k+1)))))[jb]?=some (.lst (st'.2.map tI)):=by rw[zXE hne];exact lv'.b
    refine zNs.mpr (zAi.mpr ⟨_,rfl,⟨_,zBl eb⟩,zK (zi (d:=tI p) rfl) ?_⟩);rw[zH5 eb (by rw[zWt];exact zW9 (m:=95000) (by omega) (zAY (by omega)))];have jfl:jf<M'.length:=zW9 h1 lv'.len;have jbl:jb<M'.length:=zW9 h2 lv'.len;refine ⟨⟨_,rfl⟩,us++[p],vs,by rw[hab];simp,rfl,?_⟩;rw[hfold];refine ⟨?_,?_,by simp;omega,by simp;omega,by simp[hl],fun j q1 q2=>by rw[zXE (Ne.symm q2),zXE (Ne.symm q1)];exact hfr j q1 q2⟩
    ·rw[ea];refine ⟨by rw[zXE (Ne.symm hne),zXe jfl],by rw[zXe (by simpa using jbl),zXc];rfl,by simpa using lv'.len,fun j q0 q1 q2=>by rw[zXE (Ne.symm q2),zXE (Ne.symm q1)];exact lv'.fr j q0 q1 q2⟩
    ·rw[ea];show zR (zCP st'.1 p (.int (k+1))) goal=_;rw[zFe,zW2 hgp];exact hg'
 ·rintro σ M' ⟨⟨y,rfl⟩,us,vs,hab,hr,lv',hg',l1,l2,hl,hfr⟩;have:vs=[]:=by cases vs with|nil=>rfl|cons _ _=>cases hr
  subst this;rw[zXU]at hab;subst hab;exact ⟨.inl (by rw[hfr js n1 n2];exact ejs),rfl,⟨_,rfl⟩,lv',hl,hfr⟩
theorem zWG {f g:FE} {σ:Sd} {M:Mem} {n:Nat} {T:List (List Int × D)} {k:List Int} (hf:f σ M=some (.dat (.ref n),M)) (hn:M[n]?=some (dT T)) (hg:g σ M=some (.dat (tI k),M)):zCl f g (zAk zL) σ M=some (.dat ((zR T k).getD (.ref M.length)),M++[.lst []]):=by
 have nl:n<M.length:=(zWn.mp hn).1;unfold zCl;rw[show toD f σ M=some (.ref n,M) by unfold toD;rw[hf]];dsimp only;rw[hn];dsimp only;rw[show toD g σ M=some (tI k,M) by unfold toD;rw[hg]];dsimp only;rw[show toD (zAk zL) σ M=some (.ref M.length,M++[.lst []]) by
  unfold toD zAk zL;dsimp only;rw[zWz (zAY (by simp))]]
 dsimp only;rw[dgT (g:=k) (show (M++[MO.lst ([]:List D)])[n]?=some (dT T) by rw[zWr nl];exact hn)]
def zCb (src:List Int->List (List Int)) (k:Int) (gs:List (List Int)) (st:Fd):Fd:=gs.foldl (fun st g=>(src g).foldl (zBn (k+1)) st) st
theorem zPb {k:Int} {st:Fd} {p g:List Int} {d:D} (h:zR st.1 g=some d):zR (zBn k st p).1 g=some d:=by
 unfold zBn;split
 ·exact h
 ·rename_i q;show zR (zCP st.1 p (.int k)) g=some d;rw[zFe,zW2 (fun z=>q (by rw[z,h];rfl))];exact h
theorem zID {k:Int} {g:List Int} {d:D}:∀ (ps:List (List Int)) {st:Fd},zR st.1 g=some d->zR (ps.foldl (zBn k) st).1 g=some d
 |[],_,h=>h
 |p::r,_,h=>zID r (zPb h)
def zWC (M:Mem) (Ts:List (List Int × D)) (jf jb:Nat) (src:List Int->List (List Int)):Prop:=∀ g,(∃ j,zR Ts g=some (.ref j)/\j≠jf/\j≠jb/\M[j]?=some (.lst ((src g).map tI)))\/(zR Ts g=none/\src g=[])
theorem zS2 {M0:Mem} {jf jb jd jl:Nat} {zA:List (List Int)} {x1 y5 y7:Option D} {k:Int} {gs:List (List Int)} {src:List Int->List (List Int)} {Ts:List (List Int × D)} (hne:jf≠jb) (h1:jf<M0.length) (h2:jb<M0.length) (hd:M0[jd]?=some (dT Ts)) (d1:jd≠jf) (d2:jd≠jb) (hl:M0[jl]?=some (.lst (gs.map tI))) (l1:jl≠jf) (l2:jl≠jb) (hs:zWC M0 Ts jf jb src) (B:Nat) (hB:∀ g∈gs,(src g).length<=B)
  {st:Fd} (hg:∀ g∈gs,zR st.1 g=some (.int k)) (Z:Nat) (hZB:Z+B<=80000) (hZ:∀ us vs,gs=us++vs->(zCb src k us st).1.length<=Z/\(zCb src k us st).2.length<=Z) (lv:Lv M0 M0 jf jb st) :
  OkS (zDi (gN 5) (zC2 (zBA (zCl (zE 2) (zE 5) (zAk zL))) (gN 7) (sIf (tst (fOp (zCO true) (zE 7) (zE 4))) (zV (zC7 (fOp zAZ (fOp zBI (zE 4) (zE 5)) (fC (.int 1))) (zE 4) (zE 7)) (zBm (fM zA7 (zE 6) (zF (toD (zE 7)) zL)))) zA1)) (gs.map tI) (zF8 (.dat (.ref jl)) (gs.map tI)) (gs.map tI) [some (mD zA),x1,some (.ref jd),some (.ref jl),some (.ref jf),y5,some (.ref jb),y7] M0)
   fun o σ' M'=>o=.nx/\(∃ y5 y7,σ'=[some (mD zA),x1,some (.ref jd),some (.ref jl),some (.ref jf),y5,some (.ref jb),y7])/\Lv M0 M' jf jb (zCb src k gs st):=by
 refine zBr (I:=fun r σ M'=>(∃ y5 y7,σ=[some (mD zA),x1,some (.ref jd),some (.ref jl),some (.ref jf),y5,some (.ref jb),y7]) /\ ∃ us vs:List (List Int),gs=us++vs/\r=vs.map tI/\Lv M0 M' jf jb (zCb src k us st)/\(∀ g∈gs,zR (zCb src k us st).1 g=some (.int k))) ?_ ?_ _ _ _ ⟨⟨_,_,rfl⟩,[],gs,rfl,rfl,lv,hg⟩
 ·rintro x r σ M' ⟨⟨y5,y7,rfl⟩,us,vs,hab,hr,lv',hg'⟩;cases vs with
  |nil=>cases hr
  |cons g vs=>
   rw[zW3]at hr;obtain ⟨rfl,rfl⟩:=zXo hr;have hgm:g∈gs:=by rw[hab];simp
   have hsb:=hB g hgm;obtain ⟨b1,b2⟩:=hZ us (g::vs) hab;have keep:∀ {j:Nat} {u:MO},M0[j]?=some u->j≠jf->j≠jb->M'[j]?=some u:=fun {j u} e q1 q2=>(lv'.fr j (zWn.mp e).1 q1 q2).trans e;refine ⟨.inl (keep hl l1 l2),_,rfl,?_⟩;show OkS (zC2 _ _ _ [some (mD zA),x1,some (.ref jd),some (.ref jl),some (.ref jf),some (tI g),some (.ref jb),y7] M') _;have hfold:zCb src k (us++[g]) st=(src g).foldl (zBn (k+1)) (zCb src k us st):=by unfold zCb;rw[List.foldl_append];rfl
   generalize zCb src k us st=st' at lv' hg' b1 b2 hfold;have e2:=zWG (f:=zE 2) (g:=zE 5) (σ:=[some (mD zA),x1,some (.ref jd),some (.ref jl),some (.ref jf),some (tI g),some (.ref jb),y7]) (M:=M') (k:=g) rfl (keep hd d1 d2) rfl;have lvA:Lv M0 (M'++[.lst []]) jf jb st':=by
    have f1:=(zWn.mp lv'.f).1;have f2:=(zWn.mp lv'.b).1;have f3:=lv'.len;exact ⟨by rw[zWr f1];exact lv'.f,by rw[zWr f2];exact lv'.b,by simp;omega,fun j q0 q1 q2=>by rw[zWr (by omega)];exact lv'.fr j q0 q1 q2⟩
   obtain ⟨js,ejs,n1,n2,el⟩:∃ js,(zR Ts g).getD (.ref M'.length)=.ref js/\js≠jf/\js≠jb/\(M'++[MO.lst ([]:List D)])[js]?=some (.lst ((src g).map tI)):=by
    rcases hs g with ⟨j,e,q1,q2,q3⟩|⟨e,q⟩
    ·have:=keep q3 q1 q2;exact ⟨j,by rw[e];rfl,q1,q2,by rw[zWr (zWn.mp this).1];exact this⟩
    ·have:=lv'.len;exact ⟨M'.length,by rw[e];rfl,by omega,by omega,by rw[q];simp⟩
   rw[ejs]at e2;rw[zBV];refine ⟨_,_,_,(show zBA (zCl (zE 2) (zE 5) (zAk zL)) [some (mD zA),x1,some (.ref jd),some (.ref jl),some (.ref jf),some (tI g),some (.ref jb),y7] M'=some ((src g).map tI,zF8 (.dat (.ref js)) ((src g).map tI),M'++[.lst []]) by unfold zBA;rw[e2];dsimp only;rw[zAJ el]),?_⟩;refine OkS.mono (zTJ (jl:=jl) (k:=k) hne h1 h2 _ st' lvA el n1 n2 (hg' g hgm) (by omega) (by omega)) ?_;rintro o σ' M2 ⟨rfl,⟨y,rfl⟩,lv2,_,_⟩;refine ⟨⟨_,_,rfl⟩,us++[g],vs,by rw[hab];simp,rfl,?_⟩;rw[hfold];exact ⟨lv2,fun g' hg''=>zID _ (hg' g' hg'')⟩
 ·rintro σ M' ⟨⟨y5,y7,rfl⟩,us,vs,hab,hr,lv',hg'⟩;have:vs=[]:=by cases vs with|nil=>rfl|cons _ _=>cases hr
  subst this;rw[zXU]at hab;subst hab;have keep:∀ {j:Nat} {u:MO},M0[j]?=some u->j≠jf->j≠jb->M'[j]?=some u:=fun {j u} e q1 q2=>(lv'.fr j (zWn.mp e).1 q1 q2).trans e;exact ⟨.inl (keep hl l1 l2),rfl,⟨_,_,rfl⟩,lv'⟩
theorem zOn (k:Int) (st:Fd) (p t:List Int):zR (zBn k st p).1 t=(if (zR st.1 t).isSome then zR st.1 t else if t=p then some (.int k) else none)/\(t∈(zBn k st p).2 ↔ t∈st.2\/(zR st.1 t=none/\t=p)):=by
 unfold zBn;by_cases h:(zR st.1 p).isSome=true
 ·rw[zWz h];constructor
  ·by_cases ht:(zR st.1 t).isSome=true
   ·rw[zWz ht]
   ·rw[zW2 ht,zW2 (fun z=>ht (by rw[z];exact h))];cases e:zR st.1 t with
    |none=>rfl
    |some d=>rw[e]at ht;simp at ht
  ·constructor
   ·exact .inl
   ·rintro (q|⟨q,rfl⟩)
    ·exact q
    ·rw[q]at h;cases h
 ·rw[zW2 h];have hn:zR st.1 p=none:=by
   cases e:zR st.1 p with
   |none=>rfl
   |some d=>rw[e]at h;simp at h
  constructor
  ·show zR (zCP st.1 p (.int k)) t=_;rw[zFe];by_cases ht:p=t
   ·subst ht;rw[zWz rfl,zW2 h,zWz rfl]
   ·rw[zW2 ht];by_cases hs:(zR st.1 t).isSome=true
    ·rw[zWz hs]
    ·rw[zW2 hs,zW2 (fun z=>ht z.symm)];cases e:zR st.1 t with
     |none=>rfl
     |some d=>rw[e]at hs;simp at hs
  ·show t∈st.2++[p] ↔ _;rw[zXA,zXC];constructor
   ·rintro (q|rfl)
    ·exact .inl q
    ·exact .inr ⟨hn,rfl⟩
   ·rintro (q|⟨_,q⟩)
    ·exact .inl q
    ·exact .inr q
theorem zI7 (k:Int):∀ (ps:List (List Int)) (st:Fd) (t:List Int),zR (ps.foldl (zBn k) st).1 t=(if (zR st.1 t).isSome then zR st.1 t else if t∈ps then some (.int k) else none)/\(t∈(ps.foldl (zBn k) st).2 ↔ t∈st.2\/(zR st.1 t=none/\t∈ps))
 |[],st,t=>by
  constructor
  ·by_cases h:(zR st.1 t).isSome=true
   ·rw[zWz h];rfl
   ·rw[zW2 h,zW2 (by simp)];cases e:zR st.1 t with
    |none=>exact e
    |some d=>rw[e]at h;simp at h
  ·simp
 |p::r,st,t=>by
  obtain ⟨a1,a2⟩:=zOn k st p t;obtain ⟨b1,b2⟩:=zI7 k r (zBn k st p) t;rw[List.foldl_cons,b1,b2,a2,a1];by_cases h:(zR st.1 t).isSome=true
  ·rw[zWz h,zWz h,zWz h];refine ⟨rfl,?_⟩;have hn:¬ zR st.1 t=none:=fun z=>by rw[z]at h;cases h
   simp[hn]
  ·have hn:zR st.1 t=none:=by
    cases e:zR st.1 t with
    |none=>rfl
    |some d=>rw[e]at h;simp at h
   rw[zW2 h,zW2 h];by_cases hp:t=p
   ·rw[zWz hp];refine ⟨?_,?_⟩
    ·rw[zWz (show (some (D.int k)).isSome=true from rfl),zWz (by rw[hp];exact zWy)]
    ·simp[hn,hp]
   ·rw[zW2 hp];refine ⟨?_,?_⟩
    ·rw[zW2 (by simp)];by_cases hr:t∈r
     ·rw[zWz hr,zWz (zWx _ hr)]
     ·rw[zW2 hr,zW2 (by simp[hp,hr])]
    ·simp[hn,hp]
theorem zJy (src:List Int->List (List Int)) (k:Int) (gs:List (List Int)) (st:Fd) (t:List Int):zR (zCb src k gs st).1 t=(if (zR st.1 t).isSome then zR st.1 t else if t∈gs.flatMap src then some (.int (k+1)) else none)/\(t∈(zCb src k gs st).2 ↔ t∈st.2\/(zR st.1 t=none/\t∈gs.flatMap src)):=by
 have:∀ (gs:List (List Int)) (st:Fd),zCb src k gs st=(gs.flatMap src).foldl (zBn (k+1)) st:=by
  intro gs;induction gs with
  |nil=>intro st;rfl
  |cons g r ih=>
   intro st;show zCb src k r ((src g).foldl (zBn (k+1)) st)=_;rw[ih,List.flatMap_cons,List.foldl_append]
 rw[this gs st];exact zI7 (k+1) (gs.flatMap src) st t
def Rch (zA:List (List Int)) (l:Nat) (G:List Int->Prop) (t:List Int) (n:Nat):Prop:=∃ w:List Int,w.length=n/\(∀ x∈w,0<=x/\x<(l:Int))/\G (zVz zA t w)
def Dst (zA:List (List Int)) (l:Nat) (G:List Int->Prop) (t:List Int) (n:Nat):Prop:=Rch zA l G t n /\ ∀ m,m<n -> ¬ Rch zA l G t m
theorem zIy:Rch zA l G t (n+1) ↔ ∃ x:Int,(0<=x/\x<(l:Int))/\Rch zA l G (setR zA t x) n:=by
 constructor
 ·rintro ⟨w,hw,hb,hl⟩;cases w with
  |nil=>cases hw
  |cons x w=>exact ⟨x,hb x zWy,w,by simpa using hw,fun y hy=>hb y (zWx _ hy),hl⟩
 ·rintro ⟨x,hx,w,hw,hb,hl⟩;exact ⟨x::w,by simp[hw],fun y hy=>by rcases zWw.mp hy with rfl|q;exact hx;exact hb y q,hl⟩
theorem zMh:Rch zA l G t 0 ↔ G t:=by
 constructor
 ·rintro ⟨w,hw,_,hl⟩;have:w=[]:=List.length_eq_zero_iff.mp hw;subst this;exact hl
 ·intro h;exact ⟨[],rfl,(fun _ h=>by cases h),h⟩
theorem zGe:Dst zA l G t 0 ↔ G t:=by
 unfold Dst;rw[zMh];exact ⟨fun h=>h.1,fun h=>⟨h,fun m hm=>by omega⟩⟩
theorem zEB:Dst zA l G t (n+1) ↔ (∀ m,m<=n -> ¬ Rch zA l G t m) /\ ∃ x:Int,(0<=x/\x<(l:Int))/\Dst zA l G (setR zA t x) n:=by
 constructor
 ·rintro ⟨h1,h2⟩;obtain ⟨x,hx,hr⟩:=zIy.mp h1;exact ⟨fun m hm=>h2 m (by omega),x,hx,hr,fun m hm hq=>h2 (m+1) (by omega) (zIy.mpr ⟨x,hx,hq⟩)⟩
 ·rintro ⟨h1,x,hx,hr,_⟩;exact ⟨zIy.mpr ⟨x,hx,hr⟩,fun m hm=>h1 m (by omega)⟩
theorem zNk:∀ n,Rch zA l G t n -> ∃ m,m<=n/\Dst zA l G t m:=by
 intro n;induction n using Nat.strongRecOn with
 |ind n ih=>
  intro h;by_cases q:∃ m,m<n/\Rch zA l G t m
  ·obtain ⟨m,hm,hr⟩:=q;obtain ⟨m',h1,h2⟩:=ih m hm hr;exact ⟨m',by omega,h2⟩
  ·exact ⟨n,zWq _,h,fun m hm hr=>q ⟨m,hm,hr⟩⟩
theorem zCf (h1:Dst zA l G t a) (h2:Dst zA l G t b):a=b:=by
 rcases Nat.lt_trichotomy a b with q|q|q
 ·exact absurd h1.1 (h2.2 a q)
 ·exact q
 ·exact absurd h2.1 (h1.2 b q)
def zIF (zA:List (List Int)) (l:Nat) (G:List Int->Prop) (U:List Int->Prop) (k:Nat) (fd:List (List Int × D)) (lev:List (List Int)):Prop:=(∀ t d,zR fd t=some d ↔ U t /\ ∃ n:Nat,n<=k/\Dst zA l G t n/\d=.int (n:Int)) /\ ∀ t,t∈lev ↔ U t/\Dst zA l G t k
theorem zHD (h:zIF zA l G U k fd lev) (u:U t):zR fd t=none ↔ ∀ m,m<=k -> ¬ Rch zA l G t m:=by
 constructor
 ·intro e m hm hr;obtain ⟨n,hn,hd⟩:=zNk m hr;rw[(h.1 t (.int (n:Int))).mpr ⟨u,n,by omega,hd,rfl⟩]at e;cases e
 ·intro q;cases e:zR fd t with
  |none=>rfl
  |some d=>
   obtain ⟨_,n,hn,hd,_⟩:=(h.1 t d).mp e;exact absurd hd.1 (q n hn)
theorem zOt {zA:List (List Int)} {l:Nat} {U P:List Int->Prop} {src:List Int->List (List Int)} (hs:∀ g t,t∈src g ↔ P t /\ ∃ x:Int,(0<=x/\x<(l:Int))/\setR zA t x=g) (hP:∀ t,P t->U t) (hU:∀ t n,U t -> ¬ G t->Rch zA l G t n->P t) (hc:∀ t (x:Int),U t->0<=x/\x<(l:Int)->U (setR zA t x))
  {k:Nat} {fd:List (List Int × D)} {lev:List (List Int)} (h:zIF zA l G U k fd lev):zIF zA l G U (k+1) (zCb src (k:Int) lev (fd,[])).1 (zCb src (k:Int) lev (fd,[])).2:=by
 have key:∀ t,(zR fd t=none/\t∈lev.flatMap src) ↔ U t/\Dst zA l G t (k+1):=by
  intro t;constructor
  ·rintro ⟨e,hm⟩;obtain ⟨g,hg,ht⟩:=List.mem_flatMap.mp hm;obtain ⟨p,x,hx,hq⟩:=(hs g t).mp ht;have u:=hP t p;refine ⟨u,zEB.mpr ⟨(zHD h u).mp e,x,hx,?_⟩⟩;rw[hq];exact ((h.2 g).mp hg).2
  ·rintro ⟨u,hd⟩;obtain ⟨q,x,hx,hr⟩:=zEB.mp hd;refine ⟨(zHD h u).mpr q,List.mem_flatMap.mpr ⟨setR zA t x,(h.2 _).mpr ⟨hc t x u hx,hr⟩,(hs _ t).mpr ⟨hU t _ u ?_ hd.1,x,hx,rfl⟩⟩⟩;intro h1;exact q 0 (zXW _) (zMh.mpr h1)
 constructor
 ·intro t d;rw[(zJy src (k:Int) lev (fd,[]) t).1];show (if (zR fd t).isSome then zR fd t else if t∈lev.flatMap src then some (.int ((k:Int)+1)) else none)=some d ↔ _;cases e:zR fd t with
  |some d'=>
   rw[zWz (show (some d').isSome=true from rfl)];obtain ⟨u,n,hn,hd,rfl⟩:=(h.1 t d').mp e;constructor
   ·intro z;cases z;exact ⟨u,n,by omega,hd,rfl⟩
   ·rintro ⟨_,m,_,hm,rfl⟩;rw[zCf hm hd]
  |none=>
   rw[zW2 (by simp)];by_cases hm:t∈lev.flatMap src
   ·rw[zWz hm];obtain ⟨u,hd⟩:=(key t).mp ⟨e,hm⟩;constructor
    ·intro z;cases z;exact ⟨u,k+1,zWq _,hd,by simp⟩
    ·rintro ⟨_,m,_,hm',rfl⟩;rw[zCf hm' hd];simp
   ·rw[zW2 hm];constructor
    ·intro z;cases z
    ·rintro ⟨u,m,hk,hd,rfl⟩;exfalso;by_cases hmk:m<=k
     ·exact (zHD h u).mp e m hmk hd.1
     ·have:m=k+1:=by omega
      subst this;exact hm ((key t).mpr ⟨u,hd⟩).2
 ·intro t;rw[(zJy src (k:Int) lev (fd,[]) t).2];show t∈([]:List (List Int))\/(zR fd t=none/\t∈lev.flatMap src) ↔ _;rw[key t];simp
theorem zRA {zA:List (List Int)} {l:Nat} {G:List Int->Prop} {U:List Int->Prop} (hc:∀ t (x:Int),U t->0<=x/\x<(l:Int)->U (setR zA t x)) {k:Nat} {fd:List (List Int × D)} (h:zIF zA l G U k fd []) (t:List Int) (d:D):zR fd t=some d ↔ U t /\ ∃ n:Nat,Dst zA l G t n/\d=.int (n:Int):=by
 have far:∀ n t,U t -> ¬ Dst zA l G t (k+n):=by
  intro n;induction n with
  |zero=>intro t u hd;exact absurd ((h.2 t).mpr ⟨u,hd⟩) (by simp)
  |succ n ih=>
   intro t u hd;obtain ⟨_,x,hx,hr⟩:=zEB.mp (show Dst zA l G t ((k+n)+1)from hd);exact ih _ (hc t x u hx) hr
 rw[h.1 t d];constructor
 ·rintro ⟨u,n,_,a,b⟩;exact ⟨u,n,a,b⟩
 ·rintro ⟨u,n,a,b⟩;refine ⟨u,n,?_,a,b⟩;by_cases q:n<=k
  ·exact q
  ·exfalso;have e:n=k+(n-k):=by omega
   rw[e]at a;exact far _ t u a
def Th (zA:List (List Int)) (t:List Int):Prop:=IsS zA t/\t.length<=2
def zEp (zA:List (List Int)) (l:Nat) (g:List Int):List (List Int):=zED zA (zDb l (zo (za zA))) g
theorem zTE (g t:List Int):t∈zEp zA l g ↔ t∈zo (za zA) /\ ∃ x:Int,(0<=x/\x<(l:Int))/\setR zA t x=g:=by
 unfold zEp zED zDb;simp only[zW1,zXv,List.mem_flatMap,zXO,zXx];constructor
 ·rintro ⟨q,⟨⟨p,hp,k,hk,rfl⟩,hq⟩,rfl⟩;exact ⟨hp,(k:Int),⟨by omega,by omega⟩,hq⟩
 ·rintro ⟨hp,x,⟨x0,x1⟩,hq⟩;refine ⟨(t,x),⟨⟨t,hp,x.toNat,by omega,?_⟩,hq⟩,rfl⟩;rw[show ((x.toNat:Nat):Int)=x by omega]
theorem zAA:x∈za zA ↔ 0<=x/\x<(zA.length:Int):=by
 unfold za;simp only[zW1,zXO];constructor
 ·rintro ⟨k,hk,rfl⟩;omega
 ·rintro ⟨h0,h1⟩;exact ⟨x.toNat,by omega,by omega⟩
theorem zFd (t:List Int) (h:t∈zo (za zA)):Th zA t:=by
 refine ⟨zNt h,?_⟩;obtain ⟨a,b,rfl,_⟩:=zAv.mp h;exact zWq _
theorem zOO (t:List Int) (h:Th zA t) (h1:t.length≠1):t∈zo (za zA):=by
 obtain ⟨⟨pw,n0,hm⟩,h2⟩:=h;match t,pw,n0,hm,h1,h2 with
 |[a,b],pw,_,hm,_,_=>
  exact zAv.mpr ⟨a,b,rfl,zAA.mpr (hm a (by simp)),zAA.mpr (hm b (by simp)),by simpa using pw⟩
 |[a],_,_,_,h1,_=>exact absurd rfl h1
 |[],_,n0,_,_,_=>cases n0
 |_::_::_::_,_,_,_,_,h2=>simp at h2
theorem zFN (m:IsM zA l) (t:List Int) (x:Int) (h:Th zA t) (hx:0<=x/\x<(l:Int)):Th zA (setR zA t x):=by
 refine ⟨m.setR h.1 hx.1 hx.2,?_⟩;have:=zN5 (t.map fun h=>zAt zA h x);rw[zWt]at this;exact zXB this h.2
def zF6 (zA:List (List Int)) (G:List Int->Prop):Prop:=(∀ t,Th zA t->t.length=1->G t) \/ ∀ t,t.length=1 -> ¬ G t
theorem zJX (m:IsM zA l):∀ (w t:List Int),Th zA t->t.length=1->(∀ x∈w,0<=x/\x<(l:Int))->(zVz zA t w).length=1
 |[],_,_,h,_=>h
 |x::w,t,u,h,hw=>by
  have hx:=hw x zWy;have u':=zFN m t x u hx;refine zJX m w (setR zA t x) u' ?_ fun y hy=>hw y (zWx _ hy);have h1:=zN5 (t.map fun h=>zAt zA h x);rw[zWt,h]at h1;have h2:=u'.1.n0;have h3:(setR zA t x).length<=1:=h1;omega
theorem zJo (m:IsM zA l) (o:zF6 zA G) (t:List Int) (n:Nat) (u:Th zA t) (g:¬ G t) (r:Rch zA l G t n):t∈zo (za zA):=by
 refine zOO t u fun h1=>?_;rcases o with o|o
 ·exact g (o t u h1)
 ·obtain ⟨w,_,hw,hg⟩:=r;exact o _ (zJX m w t u h1 hw) hg
theorem zMM (m:IsM zA l) (o:zF6 zA G) (h:zIF zA l G (Th zA) k fd lev):zIF zA l G (Th zA) (k+1) (zCb (zEp zA l) (k:Int) lev (fd,[])).1 (zCb (zEp zA l) (k:Int) lev (fd,[])).2 :=
 zOt (P:=fun t=>t∈zo (za zA)) zTE zFd (zJo m o) (zFN m) h
theorem zPB (hts:∀ t,t∈ts ↔ Th zA t/\G t) (h:∀ t d,zR fd t=some d ↔ t∈ts/\d=.int 0):zIF zA l G (Th zA) 0 fd ts:=by
 have key:∀ t,t∈ts ↔ Th zA t/\Dst zA l G t 0:=fun t=>by rw[zGe,hts]
 refine ⟨fun t d=>?_,key⟩;rw[h t d,key t];constructor
 ·rintro ⟨⟨a,b⟩,rfl⟩;exact ⟨a,0,zWq _,b,by simp⟩
 ·rintro ⟨a,n,hn,b,rfl⟩;have:n=0:=by omega
  subst this;exact ⟨⟨a,b⟩,by simp⟩
abbrev One (t:List Int):Prop:=t.length=1
theorem zQ8 (t:List Int):t∈(za zA).map (fun r=>[r]) ↔ Th zA t/\One t:=by
 rw[zW1];constructor
 ·rintro ⟨r,hr,rfl⟩;have:=zAA.mp hr;refine ⟨⟨⟨by simp,by simp,fun x hx=>?_⟩,by simp⟩,rfl⟩;rw[zXC]at hx;subst hx;exact this
 ·rintro ⟨⟨s,_⟩,h1⟩;obtain ⟨r,rfl⟩:=List.length_eq_one_iff.mp h1;exact ⟨r,zAA.mpr (s.mem r (by simp)),rfl⟩
theorem zOc:zF6 zA One:=.inl fun _ _ h=>h
theorem whole (m:IsM zA l) (h:zIF zA l G (Th zA) k fd []) (t:List Int) (d:D):zR fd t=some d ↔ Th zA t /\ ∃ n:Nat,Dst zA l G t n/\d=.int (n:Int):=zRA (zFN m) h t d
theorem zFf {α:Type} [DecidableEq α]:∀ (xs ys:List α),xs.Nodup->(∀ x∈xs,x∈ys)->xs.length<=ys.length
 |[],_,_,_=>zXW _
 |x::r,ys,h,hm=>by
  obtain ⟨h1,h2⟩:=List.nodup_cons.mp h;have hx:x∈ys:=hm x zWy;have:=zFf r (ys.erase x) h2 fun y hy=>(List.mem_erase_of_ne (fun z=>h1 (by rw[<-z];exact hy))).mpr (hm y (zWx _ hy));rw[List.length_erase_of_mem hx]at this;have:=List.length_pos_of_mem hx;simp only[zXH];omega
theorem zCB:∀ {T:List (List Int × D)} {g:List Int},(zR T g).isSome=true ↔ g∈T.map (·.1)
 |[],g=>by simp[zR]
 |q::r,g=>by
  unfold zR;by_cases h:q.1=g
  ·simp[h]
  ·rw[zW2 h,zCB (T:=r)];simp only[zW3,zWw];constructor
   ·exact .inr
   ·rintro (z|z)
    ·exact absurd z.symm h
    ·exact z
structure Sz (n:Nat) (st:Fd):Prop where
 ks:(st.1.map (·.1)).Nodup
 nd:st.2.Nodup
 sub:∀ t∈st.2,t∈st.1.map (·.1)
 len:st.1.length=n+st.2.length
theorem zTK {n:Nat} {st:Fd} (k:Int) (p:List Int) (h:Sz n st):Sz n (zBn k st p):=by
 unfold zBn;by_cases q:(zR st.1 p).isSome=true
 ·rw[zWz q];exact h
 ·rw[zW2 q];have hn:zR st.1 p=none:=by
   cases e:zR st.1 p with
   |none=>rfl
   |some d=>rw[e]at q;simp at q
  have hk:p∉st.1.map (·.1):=fun z=>q (zCB.mpr z);have e:zCP st.1 p (.int k)=st.1++[(p,.int k)]:=by unfold zCP;rw[hn]
  rw[e];refine ⟨?_,?_,?_,?_⟩
  ·show ((st.1++[(p,D.int k)]).map (·.1)).Nodup;rw[zXc,zXy];refine ⟨h.ks,by simp,fun a ha b hb=>?_⟩;simp at hb;subst hb;intro z;subst z;exact hk ha
  ·show (st.2++[p]).Nodup;rw[zXy];refine ⟨h.nd,by simp,fun a ha b hb=>?_⟩;simp at hb;subst hb;intro z;subst z;exact hk (h.sub _ ha)
  ·intro t ht;show t∈(st.1++[(p,D.int k)]).map (·.1);rw[zXc,zXA];rcases zXA.mp (show t∈st.2++[p]from ht)with z|z
   ·exact .inl (h.sub t z)
   ·right;simpa using z
  ·show (st.1++[(p,D.int k)]).length=n+(st.2++[p]).length;rw[zW0,zW0,h.len];simp;omega
theorem zHx (src:List Int->List (List Int)) (k:Int):∀ (gs:List (List Int)) {st:Fd},Sz n st->Sz n (zCb src k gs st)
 |[],st,h=>h
 |g::r,st,h=>by
  show Sz n (zCb src k r ((src g).foldl (zBn (k+1)) st));refine zHx src k r ?_;have:∀ (ps:List (List Int)) {st:Fd},Sz n st->Sz n (ps.foldl (zBn (k+1)) st):=by
   intro ps;induction ps with
   |nil=>intro st h;exact h
   |cons p ps ih=>intro st h;exact ih (zTK (k+1) p h)
  exact this _ h
theorem zOq (k:Int) (st:Fd) (p:List Int):st.1.length<=(zBn k st p).1.length:=by
 unfold zBn;split
 ·exact zWq _
 ·show st.1.length<=(zCP st.1 p _).length;unfold zCP;cases zR st.1 p <;> simp
theorem zJc (src:List Int->List (List Int)) (k:Int):∀ (gs:List (List Int)) (st:Fd),st.1.length<=(zCb src k gs st).1.length
 |[],st=>zWq _
 |g::r,st=>by
  have h1:∀ (ps:List (List Int)) (st:Fd),st.1.length<=(ps.foldl (zBn (k+1)) st).1.length:=by
   intro ps;induction ps with
   |nil=>intro st;exact zWq _
   |cons p ps ih=>intro st;exact zXB (zOq (k+1) st p) (ih _)
  exact zXB (h1 (src g) st) (zJc src k r _)
theorem zHP (h:zIF zA l G (Th zA) k fd lev) (hk:(fd.map (·.1)).Nodup):fd.length<=zA.length+zA.length*zA.length:=by
 have hr:(za zA).length=zA.length:=by unfold za;simp
 have h1:=zFf (fd.map (·.1)) ((za zA).map (fun r=>[r])++zo (za zA)) hk fun t ht=>by
  have hs:=zCB.mpr ht;cases e:zR fd t with
  |none=>rw[e]at hs;cases hs
  |some d=>
   obtain ⟨u,_⟩:=(h.1 t d).mp e;rw[zXA];by_cases h1:t.length=1
   ·obtain ⟨r,rfl⟩:=List.length_eq_one_iff.mp h1;exact .inl (zW1.mpr ⟨r,zAA.mpr (u.1.mem r (by simp)),rfl⟩)
   ·exact .inr (zOO t u h1)
 have h2:=zDS (za zA);rw[zWt,zW0,zWt,hr]at h1;rw[hr]at h2;omega
theorem zTv (h:f σ M=some (.dat (.ref j),M)) (hj:M[j]?=some (.lst xs)):zOk f σ M=some (!xs.isEmpty,M):=by
 unfold zOk;rw[h];dsimp only;rw[zAJ hj]
theorem zSd (zA:List (List Int)) (l:Nat) (g:List Int):(zEp zA l g).length<=zA.length*zA.length*l:=by
 unfold zEp zED;rw[zWt];refine zXB (List.length_filter_le _ _) ?_;rw[zIA];have:=zDS (za zA);have hr:(za zA).length=zA.length:=by unfold za;simp
 rw[hr]at this;exact Nat.mul_le_mul_right l this
theorem zPy (m:IsM zA l) (oa:zF6 zA G) (hR:zA.length<=26) (hl:l<=12) (h1:jf<M0.length) (hd:M0[jd]?=some (dT Ts)) (d1:jd≠jf) (hs:∀ g,(∃ j,zR Ts g=some (.ref j)/\j≠jf/\M0[j]?=some (.lst ((zEp zA l g).map tI)))\/(zR Ts g=none/\zEp zA l g=[])) (hf:M0[jf]?=some (dT fd)) (hv:M0[jl]?=some (.lst (lev.map tI))) (l1:jl≠jf) (inv:zIF zA l G (Th zA) 0 fd lev) (nk:(fd.map (·.1)).Nodup) (nl:lev.length<=fd.length) :
  OkS (zCY (zOk (zE 3)) (zV (zAM 6 (zAk zL)) (zV (zC2 (zBA (zE 3)) (gN 5) (zC2 (zBA (zCl (zE 2) (zE 5) (zAk zL))) (gN 7) (sIf (tst (fOp (zCO true) (zE 7) (zE 4))) (zV (zC7 (fOp zAZ (fOp zBI (zE 4) (zE 5)) (fC (.int 1))) (zE 4) (zE 7)) (zBm (fM zA7 (zE 6) (zF (toD (zE 7)) zL)))) zA1))) (zAM 3 (zE 6)))) 1000 [some (mD zA),x1,some (.ref jd),some (.ref jl),some (.ref jf),y5,y6,y7] M0)
   fun o σ' M'=>o=.nx/\(∃ y3 y5 y6 y7,σ'=[some (mD zA),x1,some (.ref jd),y3,some (.ref jf),y5,y6,y7])/\(∃ fd',M'[jf]?=some (dT fd')/\fd'.length<=702 /\ ∀ t d,zR fd' t=some d ↔ Th zA t /\ ∃ n:Nat,Dst zA l G t n/\d=.int (n:Int))/\M0.length<=M'.length /\ ∀ j,j<M0.length->j≠jf->M'[j]?=M0[j]?:=by
 have hN:zA.length+zA.length*zA.length<=702:=by
  have:=zYM hR hR;omega
 have hB:zA.length*zA.length*l<=8112:=zYM (zYM hR hR) hl;refine zFZ (I:=fun z σ M=>∃ (jl:Nat) (y5 y6 y7:Option D) (k:Nat) (fd:List (List Int × D)) (lev:List (List Int)),σ=[some (mD zA),x1,some (.ref jd),some (.ref jl),some (.ref jf),y5,y6,y7]/\M[jf]?=some (dT fd)/\M[jl]?=some (.lst (lev.map tI))/\jl≠jf/\zIF zA l G (Th zA) k fd lev/\(fd.map (·.1)).Nodup/\lev.length<=fd.length/\M0.length<=M.length/\(∀ j,j<M0.length->j≠jf->M[j]?=M0[j]?)/\z=(702-fd.length)+(if lev.isEmpty then 0 else 1)) ?_ 1000 ((702-fd.length)+(if lev.isEmpty then 0 else 1)) _ _ (by split <;> omega) ⟨jl,y5,y6,y7,0,fd,lev,rfl,hf,hv,l1,inv,nk,nl,zWq _,fun _ _ _=>rfl,rfl⟩;rintro z σ M ⟨jl,y5,y6,y7,k,fd,lev,rfl,hf,hv,l1,inv,nk,nl,hlen,fr,rfl⟩;have hfl:=zXB (zHP inv nk) hN;refine zK (M:=M) (a:=!(lev.map tI).isEmpty) (zTv rfl hv) ?_;cases lev with
 |nil=>
  exact ⟨rfl,⟨_,_,_,_,rfl⟩,⟨fd,hf,hfl,whole m inv⟩,hlen,fr⟩
 |cons g0 lev0=>
  show OkS (zV _ _ [some (mD zA),x1,some (.ref jd),some (.ref jl),some (.ref jf),y5,y6,y7] M) _;generalize hlv:g0::lev0=lev at *;have hne0:lev.isEmpty=false:=by rw[<-hlv];rfl
  rw[zU,zm];refine zK (M:=M) (a:=.fl []) (by unfold zAk zL;dsimp only;rw[zWz (zAY (by simp))]) ?_;rw[zHt,zg,zU,zBV];have fl:=(zWn.mp hf).1;have vl:=(zWn.mp hv).1;have up:∀ {j:Nat},j<M.length->(M++[MO.lst ([]:List D)])[j]?=M[j]?:=fun h=>zWr h;have dl:=(zWn.mp hd).1;refine ⟨_,_,_,(show zBA (zE 3) [some (mD zA),x1,some (.ref jd),some (.ref jl),some (.ref jf),y5,some (.ref M.length),y7] (M++[.lst []])=some (lev.map tI,zF8 (.dat (.ref jl)) (lev.map tI),M++[.lst []]) by
   unfold zBA;rw[show zE 3 [some (mD zA),x1,some (.ref jd),some (.ref jl),some (.ref jf),y5,some (.ref M.length),y7] (M++[.lst []])=some (.dat (.ref jl),M++[.lst []])from rfl];dsimp only;rw[zAJ ((up vl).trans hv)]),?_⟩
  have sz0:Sz fd.length (fd,([]:List (List Int))):=⟨nk,by simp,(fun t h=>by cases h),by simp⟩;have szw:Sz fd.length (zCb (zEp zA l) (k:Int) lev (fd,[])):=zHx _ _ lev sz0;have hflw:=zXB (zHP (zMM m oa inv) szw.ks) hN;refine OkS.mono (zS2 (k:=(k:Int)) (src:=zEp zA l) (st:=(fd,[])) (Ts:=Ts) (by omega) (by simp;omega) (by simp) ((up (by omega)).trans ((fr _ dl d1).trans hd)) d1 (by omega) ((up vl).trans hv) l1 (by omega) ?_ 8112 (fun g _=>zXB (zSd zA l g) hB) ?_ 702 (by omega) (fun us vs e=>?_) ⟨(up fl).trans hf,by simp,zWq _,fun _ _ _ _=>rfl⟩) ?_
  ·intro g;rcases hs g with ⟨j,e,q1,q2⟩|q
   ·have jl':=(zWn.mp q2).1;exact .inl ⟨j,e,q1,by omega,(up (by omega)).trans ((fr _ jl' q1).trans q2)⟩
   ·exact .inr q
  ·intro g hg;obtain ⟨u,hd'⟩:=(inv.2 g).mp hg;exact (inv.1 g _).mpr ⟨u,k,zWq _,hd',rfl⟩
  ·have h3:=zJc (zEp zA l) (k:Int) vs (zCb (zEp zA l) (k:Int) us (fd,[]));have h4:zCb (zEp zA l) (k:Int) vs (zCb (zEp zA l) (k:Int) us (fd,[]))=zCb (zEp zA l) (k:Int) lev (fd,[]):=by rw[e];unfold zCb;rw[List.foldl_append]
   rw[h4]at h3;have h5:=(zHx (zEp zA l) (k:Int) us sz0).len;omega
  ·rintro o σ' M' ⟨rfl,⟨y5,y7,rfl⟩,lv⟩;rw[zg,zm];refine zK (M:=M') (a:=.dat (.ref M.length)) rfl ?_;rw[zZ];have sz:Sz fd.length (zCb (zEp zA l) (k:Int) lev (fd,[])):=zHx _ _ lev ⟨nk,by simp,(fun t h=>by cases h),by simp⟩;have inv':=zMM m oa inv;generalize zCb (zEp zA l) (k:Int) lev (fd,[])=st at lv sz inv';have hfl':=zXB (zHP inv' sz.ks) hN;have hsl:=sz.len;refine ⟨(702-st.1.length)+(if st.2.isEmpty then 0 else 1),?_,M.length,y5,_,y7,k+1,st.1,st.2,rfl,lv.f,lv.b,by omega,inv',sz.ks,by omega,?_,?_,rfl⟩
   ·rw[hne0];cases e:st.2 with
    |nil=>simp;omega
    |cons a r=>rw[e]at hsl;simp at hsl ⊢;omega
   ·have:=lv.len;simp at this;omega
   ·intro j hj hjf;rw[lv.fr j (by simp;omega) hjf (by omega),up (by omega)];exact fr j hj hjf
theorem zPj {M:Mem} {ts:List (List Int)} (hf:f σ M=some (.dat (.ref jl),M)) (hj:M[jl]?=some (.lst (ts.map tI))) (nd:ts.Nodup) (hz:ts.length<=80000) (hg:∀ a,gN i a (zBo own σ)=some ((zBo own σ).set i (some a))) (hs:∀ (a:D) M',zE i ((zBo own σ).set i (some a)) M'=some (.dat a,M')) :
  zCi true own (zBA f) (gN i) zAH (zE i) (fC (.int 0)) σ M=some (.dat (.ref M.length),M++[dT (ts.map fun t=>(t,.int 0))]):=by
 have hjl:=(zWn.mp hj).1;unfold zCi zBA;rw[hf];dsimp only;rw[zAJ hj];dsimp only;have loop:∀ (r q:List (List Int)),q++r=ts->zC6 (gN i) zAH (zE i) (fC (.int 0)) (zBo own σ) M.length (ts.map tI) (zF8 (.dat (.ref jl)) (ts.map tI)) (r.map tI) (M++[dT (q.map fun t=>(t,.int 0))])=some (M++[dT (ts.map fun t=>(t,.int 0))]):=by
  intro r;induction r with
  |nil=>intro q e;rw[zXU]at e;subst e;exact zG2 (.inl (by rw[zWr hjl];exact hj))
  |cons x r ih=>
   intro q e;have hx:x∉q:=fun z=>by
    rw[<-e,zXy]at nd;exact nd.2.2 x z x zWy rfl
   have hl:q.length<90000:=by have:=congrArg List.length e;simp at this;omega
   have hk:zR (q.map fun t=>(t,D.int 0)) x=none:=by
    cases e2:zR (q.map fun t=>(t,D.int 0)) x with
    |none=>rfl
    |some d=>
     have:=zCB.mp (show (zR (q.map fun t=>(t,D.int 0)) x).isSome=true by rw[e2];rfl);rw[zW8]at this;obtain ⟨y,hy,rfl⟩:=zW1.mp this;exact absurd hy hx
   have hgd:zBd (zF8 (.dat (.ref jl)) (ts.map tI)) (ts.map tI) (M++[dT (q.map fun t=>(t,.int 0))]):=.inl (by rw[zWr hjl];exact hj);rw[zW3,zIg (σ1:=(zBo own σ).set i (some (tI x))) (k:=tI x) (v:=.int 0) (M':=M++[dT ((q++[x]).map fun t=>(t,.int 0))]) hgd (hg _) (hs _ _) rfl]
   ·exact ih (q++[x]) (by rw[<-e];simp)
   ·rw[zIc (T:=q.map fun t=>(t,.int 0)) (by simp) (by rw[zWt];exact hl)];unfold zCP;rw[hk];simp
 have:=loop ts [] rfl;rw[show zIn true=dT []from rfl];rw[show (([]:List (List Int)).map fun t=>(t,D.int 0))=[]from rfl]at this;rw[this]
theorem zJP {zA:List (List Int)} (m:IsM zA l) (oa:zF6 zA G) (hR:zA.length<=26) (hl:l<=12) {M:Mem} {ts:List (List Int)} (hj:M[jg]?=some (.lst (ts.map tI))) (nd:ts.Nodup) (hts:∀ t,t∈ts ↔ Th zA t/\G t) (hz:ts.length<=80000):Ok (zCS [mD zA,.ref jg] M) fun d M'=>∃ jf,d=.ref jf/\M.length<=jf/\(∃ fd,M'[jf]?=some (dT fd)/\fd.length<=702 /\ ∀ t d,zR fd t=some d ↔ Th zA t /\ ∃ n:Nat,Dst zA l G t n/\d=.int (n:Int))/\M.length<=M'.length /\ ∀ j,j<M.length->M'[j]?=M[j]?:=by
 have hjl:=(zWn.mp hj).1;unfold zCS;rw[zAS];unfold zEU;show OkS (zV _ _ [some (mD zA),some (.ref jg),none,none,none,none,none,none] M) _;rw[zU,zm];refine zC8.mpr (zK (zi rfl) (Ok.mono (zS7 m (by omega) hl) ?_));rintro d M1 ⟨rfl,sr,h1,fr⟩;rw[zZ,zg];refine zC3 (d:=.ref jg) rfl ?_;show OkS (zV _ _ [some (mD zA),some (.ref jg),some (.ref M.length),some (.ref jg),none,none,none,none] M1) _;have hj1:=(fr _ hjl).trans hj;rw[zU,zm];refine zK (zPj (jl:=jg) (ts:=ts) rfl hj1 nd hz (fun _=>rfl) (fun _ _=>rfl)) ?_;rw[zZ,zg];show OkS (zV _ _ [some (mD zA),some (.ref jg),some (.ref M.length),some (.ref jg),some (.ref M1.length),none,none,none] _) _;obtain ⟨T,ed,hT,a1,a2,a3⟩:=sr.ex;have up:∀ {j:Nat} {u:MO},M1[j]?=some u->(M1++[dT (ts.map fun t=>(t,D.int 0))])[j]?=some u:=fun {j u} h=>by rw[zWr (zWn.mp h).1];exact h
 have ed':=(zWn.mp ed).1;rw[zU];refine OkS.mono (zPy (jf:=M1.length) (jd:=M.length) (jl:=jg) (Ts:=T) (lev:=ts) (fd:=ts.map fun t=>(t,D.int 0)) m oa hR hl (by simp) (up ed) (by omega) ?_ (by simp) (up hj1) (by omega) (zPB hts ?_) ?_ (by simp)) ?_
 ·intro g;cases e:zR T g with
  |none=>exact .inr ⟨rfl,a2 g e⟩
  |some d=>
   obtain ⟨j,rfl,q1,q2⟩:=a1 g d e;have:=(zWn.mp q2).1;exact .inl ⟨j,rfl,by omega,up q2⟩
 ·intro t d;have gen:∀ (ts:List (List Int)),zR (ts.map fun t=>(t,D.int 0)) t=some d ↔ t∈ts/\d=.int 0:=by
   intro ts;induction ts with
   |nil=>simp[zR]
   |cons x r ih=>
    rw[zW3,zR];by_cases q:x=t
    ·subst q;simp[eq_comm]
    ·rw[zW2 q,ih,zWw];constructor
     ·rintro ⟨z1,z2⟩;exact ⟨.inr z1,z2⟩
     ·rintro ⟨z1|z1,z2⟩
      ·exact absurd z1.symm q
      ·exact ⟨z1,z2⟩
  exact gen _
 ·rw[zW8];rw[show ((fun (x:List Int × D)=>x.1)∘fun (t:List Int)=>(t,D.int 0))=id from rfl,List.map_id];exact nd
 ·rintro o σ' M' ⟨rfl,⟨y3,y5,y6,y7,rfl⟩,⟨fd,e1,e2,e3⟩,hlen,fr'⟩;rw[zg];rw[zW0]at hlen fr';refine zx (d:=.ref M1.length) rfl ⟨M1.length,rfl,by omega,⟨fd,e1,e2,e3⟩,by omega,fun j hj=>?_⟩;rw[fr' j (by omega) (by omega),zWr (by omega)];exact fr j hj
def zG4:FS:=(zAC (zY zCS (zF (toD (zE 0)) (zF (toD (zAf [1] (zAc (zF (toD (fB zAx (zb (zE 0) zq))) zL)) (gN 1) zAH (zAV (zF (toD (zE 1)) zL)))) zL))))
def zDK:FF:=zBc 2 zG4
theorem zNX (m:IsM zA l) (hR:zA.length<=26) (hl:l<=12):Ok (zDK [mD zA] M) fun d M'=>∃ jf,d=.ref jf/\M.length<=jf/\(∃ fd,M'[jf]?=some (dT fd)/\fd.length<=702 /\ ∀ t d,zR fd t=some d ↔ Th zA t /\ ∃ n:Nat,Dst zA l One t n/\d=.int (n:Int))/\M.length<=M'.length /\ ∀ j,j<M.length->M'[j]?=M[j]?:=by
 unfold zDK;rw[zAS];unfold zG4;show OkS (zAC _ [some (mD zA),none] M) _;have er:zAc (zF (toD (fB zAx (zb (zE 0) zq))) zL) [some (mD zA),none] M=some ((List.range zA.length).map (fun (k:Nat)=>D.int k),none,M):=by
  rw[zBs (j:=(zA.length:Int)) (zC1 rfl) (by omega) (by omega),zI2];rw[show (zA.length:Int).toNat=zA.length by omega]
 have ec:zAf [1] (zAc (zF (toD (fB zAx (zb (zE 0) zq))) zL)) (gN 1) zAH (zAV (zF (toD (zE 1)) zL)) [some (mD zA),none] M=some (.fl ((List.range zA.length).map fun (k:Nat)=>tI [(k:Int)]),M) :=
  zCT (List.range zA.length) (fun (k:Nat)=>D.int k) (fun (k:Nat)=>tI [(k:Int)]) er trivial (by rw[zYh];omega) fun k _=>⟨_,rfl,rfl⟩
 have el:((List.range zA.length).map fun (k:Nat)=>tI [(k:Int)])=((za zA).map fun r=>[r]).map tI:=by
  unfold za;rw[zW8,zW8];rfl
 rw[el]at ec;rw[zA8];refine zC8.mpr (zBL.mpr (zBN.mpr (zAi.mpr ⟨_,rfl,?_⟩)));rw[zZ];refine zBL.mpr (zBN.mpr (zK ec ?_));rw[zHt,zDE];refine Ok.mono (zJP m zOc hR hl (jg:=M.length) (ts:=(za zA).map fun r=>[r]) (by simp) ?_ zQ8 ?_) ?_
 ·unfold za;rw[zW8];exact List.pairwise_map.mpr (List.Pairwise.imp (fun {a b} h z=>h (by simp at z;omega)) List.nodup_range)
 ·unfold za;simp;omega
 rintro d M' ⟨jf,rfl,h1,h2,h3,h4⟩;rw[zZ];rw[zW0]at h1 h3 h4;refine ⟨jf,rfl,by omega,h2,by omega,fun j hj=>?_⟩;rw[h4 j (by omega),zWr hj]
end Lac
namespace Lac
open PySem PySem.Spec PyProof.Rows L2 L3 ST Law
theorem zD1 (ha:a σ M=some (true,M)):zDV a b σ M=some (true,M):=by unfold zDV;rw[ha]
theorem zA6 (ha:a σ M=some (false,M)) (hb:b σ M=some (k,M)):zDV a b σ M=some (k,M):=by unfold zDV;rw[ha];exact hb
theorem aC' {f:FE} {g:FA} {σ:Sd} {M M1 M2:Mem} {d:D} {ds:List D} (h:toD f σ M=some (d,M1)) (hg:g σ M1=some (ds,M2)):zF (toD f) g σ M=some (d::ds,M2):=by
 unfold zF;rw[h];dsimp only;rw[hg]
theorem zBC (h:f σ M=some (.dat d,M)):toD f σ M=some (d,M):=by unfold toD;rw[h]
theorem zMK {M M1:Mem} (h:f σ M=some (.fl xs,M1)):toD f σ M=some (.ref M1.length,M1++[.lst xs]):=by unfold toD;rw[h]
theorem zFj {g:FA} {σ:Sd} {M M1:Mem} {ds:List D} (h:g σ M=some (ds,M1)) (hz:ds.length<=100000):zAk g σ M=some (.fl ds,M1):=by
 unfold zAk;rw[h];dsimp only;rw[zWz (zAY hz)]
theorem zB1 {g:FA} {σ:Sd} {M M1:Mem} {ds:List D} (h:g σ M=some (ds,M1)) (hz:ds.length<=100000):zAV g σ M=some (.dat (.tup ds),M1):=by
 unfold zAV;rw[h];dsimp only;rw[zWz (zAY hz)]
theorem zSY (hf:f σ M=some (.dat (.int i),M)) (hg:g σ M=some (.dat (.int j),M)):fB zMg (zb f (zb g zq)) σ M=some (.dat (.int (if j<i then j else i)),M):=by
 unfold fB zb zq;rw[hf];dsimp only;rw[hg];rfl
theorem zNw {f:FE} {σ:Sd} {M M1:Mem} {xs:List D} (h:f σ M=some (.fl xs,M1)):zBA f σ M=some (xs,none,M1):=by
 unfold zBA;rw[h];rfl
theorem zPH (h1:M[n]?=some (.lst xs)) (h2:M[m]?=some (.lst ys)) (hz:xs.length+ys.length<=90000):zFa (.dat (.ref n)) [.ref m] M=some (.non,M.set n (.lst (xs++ys))):=by
 unfold zFa;dsimp only;rw[h1,h2];dsimp only;rw[zWz (zAY (by omega))]
theorem zSZ (hf:f σ M=some (.dat (.int i),M)) (hg:g σ M=some (.dat (.int j),M)):fB zLv (zb f (zb g zq)) σ M=some (.dat (.int (if j>i then j else i)),M):=by
 unfold fB zb zq;rw[hf];dsimp only;rw[hg];rfl
theorem zN2 {m:FF} {a:FA} {σ:Sd} {M M1 M':Mem} {ds:List D} {d:D} (h:a σ M=some (ds,M1)) (hm:m ds M1=some (d,M')):zY m a σ M=some (.dat d,M'):=by
 unfold zY;rw[h];dsimp only;rw[hm]
def zDU:FS:=(zV (zAM 3 (zAf [4] (zAc (zF (toD (fB zAx (zb (fOp kIx (zE 0) (fC (.int 0))) zq))) zL)) (gN 4) zAH (zY zBz (zF (toD (zE 0)) (zF (toD (zE 1)) (zF (toD (zE 4)) zL))))))
  (zAC (fB (zIp false) (zb (zAf [4,5] (zLJ (zE 3)) (zFw 4 5) (zBh (tst (fOp (zCO false) (zE 5) (zE 2))) (tst (fOp kEq (fOp zBI (zE 2) (zE 5)) (fOp zH8 (fOp zBI (zE 2) (zE 1)) (fC (.int 1)))))) (zE 4)) zq))))
def zAq:FF:=zBc 6 zDU
def zGK:FS:=(zV (zAM 2 (zAf [3] (zBA (zY zBu (zF (toD (zY zBp (zF (toD (zE 0)) zL))) zL))) (gN 3) (tst (fOp kGt (zCl (zE 1) (zE 3) (fC (.int 0))) (fC (.int 0)))) (zE 3)))
  (zAC (zCi true [3] (zBA (zE 2)) (gN 3) zAH (zE 3) (zAV (zF (toD (fOp zBI (zE 1) (zE 3))) (zF (toD (zY zAq (zF (toD (zE 0)) (zF (toD (zE 3)) (zF (toD (zE 1)) zL))))) zL))))))
def zCk:FF:=zBc 4 zGK
def zKS:FS:=(zAC (zY zCk (zF (toD (zE 0)) (zF (toD (zY zDK (zF (toD (zE 0)) zL))) zL))))
def zGa:FF:=zBc 1 zKS
theorem zJ8 {α:Type} (hgd:zBd gd all M) (enc out:α->D) (keep:α->Bool):∀ (as:List α),(∀ a∈as,∃ σ1,g (enc a) σ=some σ1/\tc σ1 M=some (keep a,M)/\(keep a=true->te σ1 M=some (.dat (out a),M)))->zBf g tc te σ all gd (as.map enc) M=some ((as.filter keep).map out,M)
 |[],_=>by
  rw[List.map_nil];unfold zBf;rw[zWz hgd];rfl
 |a::r,h=>by
  obtain ⟨σ1,e1,e2,e3⟩:=h a zWy;have ih:=zJ8 (σ:=σ) hgd enc out keep r fun b hb=>h b (zWx _ hb);rw[zW3];unfold zBf;rw[zWz hgd,e1];dsimp only;rw[e2];cases hk:keep a with
  |false=>
   dsimp only;rw[ih,List.filter_cons_of_neg (by simp[hk])]
  |true=>
   dsimp only;rw[show toD te σ1 M=some (out a,M) by unfold toD;rw[e3 hk]];dsimp only;rw[ih,List.filter_cons_of_pos hk];rfl
theorem zE7 {α:Type} {own:List Nat} {fi:FI} {g:FG} {tc:FT} {te:FE} {σ:Sd} {M M1:Mem} {gd:Option (Mem->Prop)} (as:List α) (enc out:α->D) (keep:α->Bool) (hi:fi σ M=some (as.map enc,gd,M1)) (hgd:zBd gd (as.map enc) M1) (hz:as.length<=100000)
  (he:∀ a∈as,∃ σ1,g (enc a) (zBo own σ)=some σ1/\tc σ1 M1=some (keep a,M1)/\(keep a=true->te σ1 M1=some (.dat (out a),M1))):zAf own fi g tc te σ M=some (.fl ((as.filter keep).map out),M1) :=
 zf (zGP.mpr ⟨_,_,_,hi,by rw[zWt];exact zAY hz,zK (zJ8 hgd enc out keep as he) ⟨rfl,rfl⟩⟩)
theorem zSs {f:FE} {σ:Sd} {M M1:Mem} {xs:List Int} (hf:f σ M=some (.fl (xs.map D.int),M1)) (hx:xs≠[]):∃ b,fB (zIp false) (zb f zq) σ M=some (.dat (.int b),M1)/\b∈xs /\ ∀ y∈xs,b<=y:=by
 cases xs with
 |nil=>exact absurd rfl hx
 |cons x r=>
  obtain ⟨h1,h2⟩:=zEV false r x;refine ⟨zEH false x r,?_,h1,fun y hy=>by simpa using h2 y hy⟩;unfold fB zb zq;rw[hf];show zIp false [.fl ((x::r).map D.int)] M1=_;unfold zIp;dsimp only;rw[zGI]
def zRR (zA:List (List Int)) (l:Nat) (G:List Int->Prop) (fd:List (List Int × D)):Prop:=∀ t d,zR fd t=some d ↔ Th zA t /\ ∃ n:Nat,Dst zA l G t n/\d=.int (n:Int)
structure Fst (zA:List (List Int)) (l:Nat) (G:List Int->Prop) (p:List Int) (n:Nat) (x:Int):Prop where
 x0:0<=x
 x1:x<(l:Int)
 d:Dst zA l G (setR zA p x) n
 f:∀ y,0<=y->y<x -> ¬ Dst zA l G (setR zA p y) n
def isN (n:Nat):Option D->Bool
 |some (.int v)=>decide (v=(n:Int))
 |_=>false
theorem zKm (sp:zRR zA l G fd) (u:Th zA t):isN n (zR fd t)=true ↔ Dst zA l G t n:=by
 constructor
 ·intro h;cases e:zR fd t with
  |none=>rw[e]at h;cases h
  |some d=>
   obtain ⟨_,k,hk,rfl⟩:=(sp t d).mp e;rw[e]at h;have:(k:Int)=(n:Int):=zXg h;rw[show n=k by omega];exact hk
 ·intro h;rw[(sp t _).mpr ⟨u,n,h,rfl⟩];exact zXs rfl
theorem eqE:kEq (.dat (.int a)) (.dat (.int b)) M=some (.dat (.bl (decide (a=b))),M):=zf (zMp.mpr ⟨rfl,rfl⟩)
theorem zTT:zH8 (.dat (.int a)) (.dat (.int b)) M=some (.dat (.int (a-b)),M):=rfl
theorem gtE:kGt (.dat (.int a)) (.dat (.int b)) M=some (.dat (.bl (decide (b<a))),M):=rfl
theorem zEJ (ha:a σ M=some (true,M)) (hb:b σ M=some (k,M)):zBh a b σ M=some (k,M):=by unfold zBh;rw[ha];exact hb
theorem zFX (ha:a σ M=some (false,M)):zBh a b σ M=some (false,M):=by unfold zBh;rw[ha]
theorem zQQ {zA:List (List Int)} {l:Nat} {G:List Int->Prop} (m:IsM zA l) (hR:zA.length<=26) (hl:l<=12) {M:Mem} {jf:Nat} {fd:List (List Int × D)} (hf:M[jf]?=some (dT fd)) (sp:zRR zA l G fd) {p:List Int} (u:Th zA p) {n:Nat} (hd:Dst zA l G p (n+1)) :
  Ok (zAq [mD zA,tI p,.ref jf] M) fun d M'=>∃ x:Int,d=.int x/\Fst zA l G p n x /\ ∃ us,M'=M++us:=by
 unfold zAq;rw[zAS];unfold zDU;show OkS (zV _ _ [some (mD zA),some (tI p),some (.ref jf),none,none,none] M) _;have hfl:=(zWn.mp hf).1;have er:=zJ2 (σ:=[some (mD zA),some (tI p),some (.ref jf),none,none,none]) (M:=M) (zET m (f:=zE 0) rfl) (by omega) (by omega);rw[show (l:Int).toNat=l by omega]at er;have ec:=zCT (own:=[4]) (g:=gN 4) (te:=zY zBz (zF (toD (zE 0)) (zF (toD (zE 1)) (zF (toD (zE 4)) zL)))) (List.range l) (fun (k:Nat)=>D.int k) (fun (k:Nat)=>tI (setR zA p (k:Int))) er trivial (by rw[zYh];omega) fun k hk=>⟨_,rfl,zr (ze (d:=mD zA) rfl (ze (d:=tI p) rfl (zi (d:=.int (k:Int)) rfl))) (zK1 m (by omega) u.1 (by omega) (by have:=zXO.mp hk;omega))⟩;rw[zU,zm];refine zK ec (zAG ?_);rw[zg];show OkS (zAC _ [some (mD zA),some (tI p),some (.ref jf),some (.ref M.length),none,none] (M++[.lst ((List.range l).map fun (k:Nat)=>tI (setR zA p (k:Int)))])) _;generalize hA:M++[MO.lst ((List.range l).map fun (k:Nat)=>tI (setR zA p (k:Int)))]=A;have a1:A[M.length]?=some (.lst ((List.range l).map fun (k:Nat)=>tI (setR zA p (k:Int)))):=by rw[<-hA];simp
 have a2:A[jf]?=some (dT fd):=by rw[<-hA,zWr hfl];exact hf
 have hen:zLJ (zE 3) [some (mD zA),some (tI p),some (.ref jf),some (.ref M.length),none,none] A=some ((List.range l).map (fun (k:Nat)=>D.tup [.int (k:Nat),tI (setR zA p (k:Int))]),zF8 (.dat (.ref M.length)) ((List.range l).map fun (k:Nat)=>tI (setR zA p (k:Int))),A):=by
  unfold zLJ;rw[show zE 3 [some (mD zA),some (tI p),some (.ref jf),some (.ref M.length),none,none] A=some (.dat (.ref M.length),A)from rfl];dsimp only;rw[zAJ a1];dsimp only;congr 2;unfold zMQ;rw[zWt,zYh];apply List.ext_getElem?;intro i;by_cases hi:i<l
  ·rw[zW7,zW7,List.zip_eq_zipWith,List.getElem?_zipWith,zW7,List.getElem?_range hi];rfl
  ·rw[List.getElem?_eq_none (by simp;omega),List.getElem?_eq_none (by simp;omega)]
 have lp:zR fd p=some (.int ((n+1:Nat):Int)):=(sp p _).mpr ⟨u,n+1,hd,rfl⟩;have ef:=zE7 (own:=[4,5]) (g:=zFw 4 5) (tc:=zBh (tst (fOp (zCO false) (zE 5) (zE 2))) (tst (fOp kEq (fOp zBI (zE 2) (zE 5)) (fOp zH8 (fOp zBI (zE 2) (zE 1)) (fC (.int 1)))))) (te:=zE 4) (List.range l) _ (fun (k:Nat)=>D.int (k:Int)) (fun (k:Nat)=>isN n (zR fd (setR zA p (k:Int)))) hen (.inl a1) (by rw[zYh];omega) (fun k hk=>by
  have u':=zFN m p (k:Int) u ⟨by omega,by have:=zXO.mp hk;omega⟩;refine ⟨[some (mD zA),some (tI p),some (.ref jf),some (.ref M.length),some (.int (k:Int)),some (tI (setR zA p (k:Int)))],rfl,?_,fun _=>rfl⟩;have e1:fOp (zCO false) (zE 5) (zE 2) [some (mD zA),some (tI p),some (.ref jf),some (.ref M.length),some (.int (k:Int)),some (tI (setR zA p (k:Int)))] A=_:=zS (x:=.dat (tI (setR zA p (k:Int)))) (y:=.dat (.ref jf)) rfl rfl (zLj a2);rw[zW2 (by decide)]at e1;cases e:zR fd (setR zA p (k:Int)) with
  |none=>
   rw[e]at e1;exact zFX (zAU e1)
  |some d=>
   obtain ⟨_,v,_,rfl⟩:=(sp _ d).mp e;rw[e]at e1;refine zEJ (zAU e1) (zAU ?_);refine zS (x:=.dat (.int (v:Int))) (y:=.dat (.int (((n+1:Nat):Int)-1))) (zS (x:=.dat (.ref jf)) (y:=.dat (tI (setR zA p (k:Int)))) rfl rfl (zHX a2 e)) (zS (x:=.dat (.int ((n+1:Nat):Int))) (y:=.dat (.int 1)) (zS (x:=.dat (.ref jf)) (y:=.dat (tI p)) rfl rfl (zHX a2 lp)) rfl zTT) ?_;rw[eqE];unfold isN;congr 5;exact propext ⟨fun h=>by omega,fun h=>by omega⟩)
 rw[show ((List.range l).filter fun (k:Nat)=>isN n (zR fd (setR zA p (k:Int)))).map (fun (k:Nat)=>D.int (k:Int))=(((List.range l).filter fun (k:Nat)=>isN n (zR fd (setR zA p (k:Int)))).map fun (k:Nat)=>(k:Int)).map D.int by rw[zW8];rfl]at ef;obtain ⟨b,eb,hb1,hb2⟩:=zSs ef (by
  obtain ⟨_,x,hx,hr⟩:=zEB.mp hd;have:((x.toNat:Nat):Int)∈((List.range l).filter fun (k:Nat)=>isN n (zR fd (setR zA p (k:Int)))).map fun (k:Nat)=>(k:Int):=zW1.mpr ⟨x.toNat,zXv.mpr ⟨zXO.mpr (by omega),by rw[show ((x.toNat:Nat):Int)=x by omega];exact (zKm sp (zFN m p x u hx)).mpr hr⟩,rfl⟩;exact List.ne_nil_of_mem this)
 obtain ⟨k,hk,rfl⟩:=zW1.mp hb1;obtain ⟨k1,k2⟩:=zXv.mp hk;have k3:=zXO.mp k1;refine zx eb ⟨(k:Int),rfl,⟨by omega,by omega,(zKm sp (zFN m p _ u ⟨by omega,by omega⟩)).mp k2,fun y y0 y1 hy=>?_⟩,_,hA.symm⟩;have:=hb2 y (zW1.mpr ⟨y.toNat,zXv.mpr ⟨zXO.mpr (by omega),by rw[show ((y.toNat:Nat):Int)=y by omega];exact (zKm sp (zFN m p y u ⟨y0,by omega⟩)).mpr hy⟩,by omega⟩);omega
theorem zNh (a:Fst zA l G p n x) (b:Fst zA l G p n y):x=y:=by
 rcases Int.lt_trichotomy x y with q|q|q
 ·exact absurd a.d (b.f x a.x0 q)
 ·exact q
 ·exact absurd b.d (a.f y b.x0 q)
open Classical in
def zFL (zA:List (List Int)) (l:Nat) (G:List Int->Prop) (t:List Int):Nat:=if h:∃ n,Dst zA l G t n then Classical.choose h else 0
open Classical in
def zNi (zA:List (List Int)) (l:Nat) (G:List Int->Prop) (t:List Int):Int:=if h:∃ x,Fst zA l G t (zFL zA l G t-1) x then Classical.choose h else 0
theorem zER (h:Dst zA l G t n):zFL zA l G t=n:=by
 unfold zFL;have hx:∃ n,Dst zA l G t n:=⟨n,h⟩;rw[dif_pos hx];exact zCf (Classical.choose_spec hx) h
theorem zMB (h:0<zFL zA l G t):Dst zA l G t (zFL zA l G t):=by
 by_cases hx:∃ n,Dst zA l G t n
 ·obtain ⟨n,hn⟩:=hx;rw[zER hn];exact hn
 ·unfold zFL at h;rw[dif_neg hx]at h;omega
theorem zOW (hd:Dst zA l G t (n+1)) (h:Fst zA l G t n x):zNi zA l G t=x:=by
 unfold zNi;rw[zER hd];have hx:∃ x,Fst zA l G t (n+1-1) x:=⟨x,h⟩;rw[dif_pos hx];exact zNh (Classical.choose_spec hx) h
def zOB (zA:List (List Int)) (l:Nat) (G:List Int->Prop) (t:List Int):Bool:=decide (0<zFL zA l G t)
def zRm (zA:List (List Int)) (l:Nat) (G:List Int->Prop) (t:List Int):D:=.tup [.int (zFL zA l G t:Nat),.int (zNi zA l G t)]
def zB4 (zA:List (List Int)) (l:Nat) (G:List Int->Prop):List (List Int):=(zo (za zA)).filter (zOB zA l G)
def zHd (zA:List (List Int)) (l:Nat) (G:List Int->Prop):List (List Int × D):=(zB4 zA l G).map fun p=>(p,zRm zA l G p)
theorem zGX (h:g∉T.map (·.1)):zCP T g v=T++[(g,v)]:=by
 unfold zCP;cases e:zR T g with
 |none=>rfl
 |some d=>exact absurd (zCB.mp (show (zR T g).isSome=true by rw[e];rfl)) h
theorem zGu (h:xs.Nodup):(zo xs).Nodup:=by
 have gen:∀ r:List Int,r.Nodup->(r.flatMap fun a=>(xs.filter fun b=>decide (a<b)).map fun b=>[a,b]).Nodup:=by
  intro r;induction r with
  |nil=>intro _;simp
  |cons a r ih=>
   intro hr;obtain ⟨h1,h2⟩:=List.nodup_cons.mp hr;rw[List.flatMap_cons,zXy];refine ⟨?_,ih h2,fun u hu v hv=>?_⟩
   ·refine List.pairwise_map.mpr (List.Pairwise.imp (fun {x y} q z=>q (by simpa using z)) (List.Pairwise.filter _ h))
   ·obtain ⟨b,_,rfl⟩:=zW1.mp hu;obtain ⟨c,hc,hv⟩:=List.mem_flatMap.mp hv;obtain ⟨d,_,rfl⟩:=zW1.mp hv;intro z;have:a=c:=by simpa using (zXo z).1
    exact h1 (by rw[this];exact hc)
 exact gen xs h
theorem zHc (zA:List (List Int)):(za zA).Nodup:=by
 unfold za;exact List.pairwise_map.mpr (List.Pairwise.imp (fun {a b} h z=>h (by omega)) List.nodup_range)
theorem zHH:t∈zB4 zA l G ↔ t∈zo (za zA) /\ ∃ n,Dst zA l G t (n+1):=by
 unfold zB4 zOB;rw[zXv];constructor
 ·rintro ⟨a,b⟩;have:=zMB (zXg b);exact ⟨a,zFL zA l G t-1,by rw[show zFL zA l G t-1+1=zFL zA l G t by have:=zXg b;omega];exact this⟩
 ·rintro ⟨a,n,h⟩;exact ⟨a,zXs (by rw[zER h];omega)⟩
theorem zUj (hf:f σ M=some (.dat (.ref n),M)) (hn:M[n]?=some (dT T)) (hg:g σ M=some (.dat (tI k),M)):zCl f g (fC c) σ M=some (.dat ((zR T k).getD c),M):=by
 unfold zCl;rw[show toD f σ M=some (.ref n,M) by unfold toD;rw[hf]];dsimp only;rw[hn];dsimp only;rw[show toD g σ M=some (tI k,M) by unfold toD;rw[hg]];dsimp only;rw[show toD (fC c) σ M=some (c,M)from rfl];dsimp only;rw[dgT hn]
theorem zPc {own:List Nat} {i:Nat} {tv:FE} {σ:Sd} {M:Mem} {jl jk:Nat} {K:MO} {ts:List (List Int)} {val:List Int->D} (hj:M[jl]?=some (.lst (ts.map tI))) (hk:M[jk]?=some K) (nd:ts.Nodup) (hz:ts.length<=80000)
  (hg:∀ a,gN i a (zBo own σ)=some ((zBo own σ).set i (some a))) (hs:∀ (a:D) M',zE i ((zBo own σ).set i (some a)) M'=some (.dat a,M'))
  (hv:∀ t∈ts,∀ M':Mem,M'[jk]?=some K -> ∃ us,tv ((zBo own σ).set i (some (tI t))) M'=some (.dat (val t),M'++us)) {n:Nat} (hn:n=M.length) :
  ∃ us,zC6 (gN i) zAH (zE i) tv (zBo own σ) n (ts.map tI) (zF8 (.dat (.ref jl)) (ts.map tI)) (ts.map tI) (M++[dT []])=some (M++dT (ts.map fun t=>(t,val t))::us):=by
 subst hn;have hjl:=(zWn.mp hj).1;have hkl:=(zWn.mp hk).1;have loop:∀ (r q:List (List Int)) (ws:Mem),q++r=ts -> ∃ us,zC6 (gN i) zAH (zE i) tv (zBo own σ) M.length (ts.map tI) (zF8 (.dat (.ref jl)) (ts.map tI)) (r.map tI) (M++dT (q.map fun t=>(t,val t))::ws)=some (M++dT (ts.map fun t=>(t,val t))::us):=by
  intro r;induction r with
  |nil=>
   intro q ws e;rw[zXU]at e;subst e;exact ⟨ws,zG2 (.inl (by rw[zWr hjl];exact hj))⟩
  |cons x r ih=>
   intro q ws e;have hx:x∉q:=fun z=>by
    rw[<-e,zXy]at nd;exact nd.2.2 x z x zWy rfl
   have hl:q.length<90000:=by have:=congrArg List.length e;simp at this;omega
   obtain ⟨us,hu⟩:=hv x (by rw[<-e];simp) (M++dT (q.map fun t=>(t,val t))::ws) (by rw[zWr hkl];exact hk);obtain ⟨vs,hvs⟩:=ih (q++[x]) (ws++us) (by rw[<-e];simp);refine ⟨vs,?_⟩;rw[<-hvs,zW3];have hgd:zBd (zF8 (.dat (.ref jl)) (ts.map tI)) (ts.map tI) (M++dT (q.map fun t=>(t,val t))::ws):=.inl (by rw[zWr hjl];exact hj);rw[zC6,zWz hgd,hg];dsimp only;rw[show zAH ((zBo own σ).set i (some (tI x))) (M++dT (q.map fun t=>(t,val t))::ws)=some (true,M++dT (q.map fun t=>(t,val t))::ws)from rfl];dsimp only;rw[show toD (zE i) ((zBo own σ).set i (some (tI x))) (M++dT (q.map fun t=>(t,val t))::ws)=some (tI x,M++dT (q.map fun t=>(t,val t))::ws) by unfold toD;rw[hs]];dsimp only;rw[show toD tv ((zBo own σ).set i (some (tI x))) (M++dT (q.map fun t=>(t,val t))::ws)=some (val x,M++dT (q.map fun t=>(t,val t))::ws++us) by unfold toD;rw[hu]];dsimp only;rw[zIc (T:=q.map fun t=>(t,val t)) (by simp) (by rw[zWt];exact hl),zGX (by rw[zW8];simpa using hx)];dsimp only;congr 1;rw[zXq,List.set_append_right _ _ (zWq _)];simp
 exact loop ts [] [] rfl
theorem zLa {zA:List (List Int)} {l:Nat} {G:List Int->Prop} (m:IsM zA l) (hR:zA.length<=26) (hl:l<=12) {M:Mem} {jf:Nat} {fd:List (List Int × D)} (hf:M[jf]?=some (dT fd)) (sp:zRR zA l G fd) :
  Ok (zCk [mD zA,.ref jf] M) fun d M'=>∃ jr us,d=.ref jr/\M'=M++us/\M.length<=jr/\M'[jr]?=some (dT (zHd zA l G)):=by
 unfold zCk;rw[zAS];unfold zGK;show OkS (zV _ _ [some (mD zA),some (.ref jf),none,none] M) _;have hfl:=(zWn.mp hf).1;have hrl:(za zA).length=zA.length:=by unfold za;simp
 have epr:=zLd (xs:=za zA) (by omega) (M:=M);have ei:zBA (zY zBu (zF (toD (zY zBp (zF (toD (zE 0)) zL))) zL)) [some (mD zA),some (.ref jf),none,none] M=_:=zON (zi (d:=tI (za zA)) (zr (zi (d:=mD zA) rfl) (zLT (by omega)))) epr (zAD _ _);have hPl:(zo (za zA)).length<=676:=by
  have h1:=zDS (za zA);rw[hrl]at h1;exact zXB h1 (zYM hR hR)
 generalize hA:M++[MO.lst ((zo (za zA)).map tI)]=A at ei;have a1:A[M.length]?=some (.lst ((zo (za zA)).map tI)):=by rw[<-hA];simp
 have a2:A[jf]?=some (dT fd):=by rw[<-hA,zWr hfl];exact hf
 have ef:=zE7 (own:=[3]) (g:=gN 3) (tc:=tst (fOp kGt (zCl (zE 1) (zE 3) (fC (.int 0))) (fC (.int 0)))) (te:=zE 3) (zo (za zA)) tI tI (zOB zA l G) ei (.inl a1) (by omega) (fun p hp=>by
  refine ⟨[some (mD zA),some (.ref jf),none,some (tI p)],rfl,zAU ?_,fun _=>rfl⟩;have e1:zCl (zE 1) (zE 3) (fC (.int 0)) [some (mD zA),some (.ref jf),none,some (tI p)] A=_:=zUj (k:=p) rfl a2 rfl;unfold zOB;cases e:zR fd p with
  |none=>
   rw[e]at e1;rw[zS (x:=.dat (.int 0)) (y:=.dat (.int 0)) e1 rfl gtE];have:¬ 0<zFL zA l G p:=fun h=>by
    rw[(sp p _).mpr ⟨zFd p hp,_,zMB h,rfl⟩]at e;cases e
   rw[zXJ this];rfl
  |some d=>
   obtain ⟨_,v,hv,rfl⟩:=(sp _ d).mp e;rw[e]at e1;rw[zS (x:=.dat (.int (v:Int))) (y:=.dat (.int 0)) e1 rfl gtE,zER hv];congr 5;exact propext ⟨fun h=>by omega,fun h=>by omega⟩)
 rw[zU,zm];refine zK ef (zAG ?_);rw[zg];show OkS (zAC _ [some (mD zA),some (.ref jf),some (.ref A.length),none] (A++[.lst ((zB4 zA l G).map tI)])) _;have nd:(zB4 zA l G).Nodup:=List.Pairwise.filter _ (zGu (zHc zA));have hrl2:(zB4 zA l G).length<=676:=zXB (List.length_filter_le _ _) hPl;generalize hB:A++[MO.lst ((zB4 zA l G).map tI)]=B;have b1:B[A.length]?=some (.lst ((zB4 zA l G).map tI)):=by rw[<-hB];simp
 have b2:B[jf]?=some (dT fd):=by rw[<-hB,zWr (zWn.mp a2).1];exact a2
 obtain ⟨us,hu⟩:=zPc (own:=[3]) (i:=3) (σ:=[some (mD zA),some (.ref jf),some (.ref A.length),none]) (tv:=zAV (zF (toD (fOp zBI (zE 1) (zE 3))) (zF (toD (zY zAq (zF (toD (zE 0)) (zF (toD (zE 3)) (zF (toD (zE 1)) zL))))) zL))) (val:=zRm zA l G) b1 b2 nd (by omega) (fun _=>rfl) (fun _ _=>rfl) (fun t ht M' hM=>by
  obtain ⟨ht1,n,hn⟩:=zHH.mp ht;obtain ⟨d,M2,e,x,rfl,fx,us,rfl⟩:=zQQ m hR hl hM sp (zFd t ht1) hn;refine ⟨us,?_⟩;show zAV _ [some (mD zA),some (.ref jf),some (.ref A.length),some (tI t)] M'=_;have e1:fOp zBI (zE 1) (zE 3) [some (mD zA),some (.ref jf),some (.ref A.length),some (tI t)] M'=some (.dat (.int ((n+1:Nat):Int)),M'):=zS (x:=.dat (.ref jf)) (y:=.dat (tI t)) rfl rfl (zHX hM ((sp t _).mpr ⟨zFd t ht1,n+1,hn,rfl⟩));have e2:zY zAq (zF (toD (zE 0)) (zF (toD (zE 3)) (zF (toD (zE 1)) zL))) [some (mD zA),some (.ref jf),some (.ref A.length),some (tI t)] M'=some (.dat (.int x),M'++us):=zr (ze (d:=mD zA) rfl (ze (d:=tI t) rfl (zi (d:=.ref jf) rfl))) e;rw[zB1 (aC' (zBC e1) (zTp e2)) (by simp)];unfold zRm;rw[zER hn,zOW hn fx]) rfl
 have ed:zCi true [3] (zBA (zE 2)) (gN 3) zAH (zE 3) (zAV (zF (toD (fOp zBI (zE 1) (zE 3))) (zF (toD (zY zAq (zF (toD (zE 0)) (zF (toD (zE 3)) (zF (toD (zE 1)) zL))))) zL))) [some (mD zA),some (.ref jf),some (.ref A.length),none] B=some (.dat (.ref B.length),B++dT (zHd zA l G)::us):=by
  unfold zCi zBA;rw[show zE 2 [some (mD zA),some (.ref jf),some (.ref A.length),none] B=some (.dat (.ref A.length),B)from rfl];dsimp only;rw[zAJ b1];dsimp only;rw[show zIn true=dT []from rfl,hu];rfl
 rw[zA8];refine zK ed ⟨B.length,[MO.lst ((zo (za zA)).map tI)]++([MO.lst ((zB4 zA l G).map tI)]++dT (zHd zA l G)::us),rfl,by rw[<-hB,<-hA];simp only[zXq],?_,by simp⟩;rw[<-hB,<-hA];simp only[zW0];omega
theorem zR7 (m:IsM zA l) (hR:zA.length<=26) (hl:l<=12) :
  Ok (zGa [mD zA] M) fun d M'=>∃ jr,d=.ref jr/\M.length<=jr/\M'[jr]?=some (dT (zHd zA l One))/\M.length<=M'.length /\ ∀ j,j<M.length->M'[j]?=M[j]?:=by
 unfold zGa;rw[zAS];unfold zKS;show OkS (zAC _ [some (mD zA)] M) _;obtain ⟨d,M1,e,jf,rfl,h1,⟨fd,h2,_,sp⟩,h3,h4⟩:=zNX m hR hl (M:=M);obtain ⟨d2,M2,e2,jr,us,rfl,rfl,q1,q2⟩:=zLa m hR hl h2 sp;rw[zA8];have ec:zY zCk (zF (toD (zE 0)) (zF (toD (zY zDK (zF (toD (zE 0)) zL))) zL)) [some (mD zA)] M=some (.dat (.ref jr),M1++us):=by
  exact zN2 (aC' (zBC (d:=mD zA) rfl) (zTp (zr (zi (d:=mD zA) rfl) e))) e2
 refine zK ec ⟨jr,rfl,by omega,q2,by rw[zW0];omega,fun j hj=>?_⟩;rw[zWr (by omega)];exact h4 j hj
theorem zJj (m:IsM zA l) (o:zF6 zA G):∀ (n:Nat) (t:List Int),Th zA t->Dst zA l G t n -> ∃ ts:List (List Int),ts.length=n/\ts.Nodup /\ ∀ s∈ts,s∈zo (za zA) /\ ∃ k,k<=n/\Dst zA l G s k
 |0,_,_,_=>⟨[],rfl,List.nodup_nil,fun _ h=>by cases h⟩
 |n+1,t,u,d=>by
  obtain ⟨q,x,hx,hd⟩:=zEB.mp d;obtain ⟨ts,h1,h2,h3⟩:=zJj m o n (setR zA t x) (zFN m t x u hx) hd;refine ⟨t::ts,by simp[h1],List.nodup_cons.mpr ⟨fun z=>?_,h2⟩,fun s hs=>?_⟩
  ·obtain ⟨_,k,hk,hk2⟩:=h3 t z;have:=zCf hk2 d;omega
  ·rcases zWw.mp hs with rfl|z
   ·exact ⟨zJo m o s (n+1) u (fun g=>by have:=zCf (zGe.mpr g) d;omega) d.1,n+1,zWq _,d⟩
   ·obtain ⟨a,k,hk,b⟩:=h3 s z;exact ⟨a,k,by omega,b⟩
theorem zU7 (m:IsM zA l) (o:zF6 zA G) (u:Th zA t) (d:Dst zA l G t n):n<=(zo (za zA)).length:=by
 obtain ⟨ts,h1,h2,h3⟩:=zJj m o n t u d;rw[<-h1];exact zFf ts _ h2 fun s hs=>(h3 s hs).1
theorem zFc (hR:zA.length<=26):(zo (za zA)).length<=676:=by
 have h1:=zDS (za zA);have hrl:(za zA).length=zA.length:=by unfold za;simp
 rw[hrl]at h1;exact zXB h1 (zYM hR hR)
def zAI (a b:Int):List Int:=[if b<a then b else a,if b>a then b else a]
theorem zO7 (a0:0<=a) (a1:a<zA.length) (b0:0<=b) (b1:b<zA.length) (ne:a≠b):zAI a b∈zo (za zA):=by
 unfold zAI;refine zAv.mpr ⟨_,_,rfl,zAA.mpr ?_,zAA.mpr ?_,?_⟩
 ·split <;> omega
 ·split <;> omega
 ·split <;> split <;> omega
theorem zRU (h:a≠b):(zAI a b).Pairwise (·< ·):=by
 unfold zAI;simp only[List.pairwise_cons,zXC,forall_eq,zXF,false_implies,implies_true,List.Pairwise.nil,and_true];split <;> split <;> omega
theorem zMj (h1:fv σ M=some (.dat v,M)) (h2:fo σ M=some (.dat (.ref n),M)) (h3:fi σ M=some (.dat k,M)) (h4:zHW M n k v=some M4) (q:P .nx σ M4):OkS (zC7 fv fo fi σ M) P:=by
 refine ⟨.nx,σ,M4,?_,q⟩;unfold zC7 toD;rw[h1];dsimp only;rw[h2];dsimp only;rw[h3];dsimp only;rw[h4]
def zP9:D->Bool
 |.non|.bl _|.int _=>true
 |_=>false
theorem zL1 (h:zP9 d=true):(zHU d).isSome=true:=by cases d <;> first|rfl|cases h
theorem zQi (h:zP9 d=true):kEq (.dat d) (.dat d) M=some (.dat (.bl true),M):=zQU (zL1 h)
def zEw:FS:=(zV (zAM 1 (zAk zL))
  (zV (zC2 (zAc (zF (toD (fB zAx (zb (zE 0) zq))) zL)) (gN 2) (zBm (fM zFa (zE 1) (zF (toD (zAf [3] (zBA (fSl (zE 0) (zB3 (fOp zAZ (zE 2) (fC (.int 1)))) zCL)) (gN 3) zAH (zAV (zF (toD (fOp kIx (zE 0) (zE 2))) (zF (toD (zE 3)) zL))))) zL))))
  (zAC (zE 1))))
def zCz:FF:=zBc 4 zEw
def zEd:FS:=(zV (zAM 3 (fOp kIx (fOp kIx (zE 0) (fOp kIx (zE 1) (fC (.int 0)))) (zE 2)))
  (zV (zAM 4 (fOp kIx (fOp kIx (zE 0) (fOp kIx (zE 1) (fC (.int 1)))) (zE 2)))
  (zAC (zAV (zF (toD (fB zMg (zb (zE 3) (zb (zE 4) zq)))) (zF (toD (fB zLv (zb (zE 3) (zb (zE 4) zq)))) zL))))))
def zBU:FF:=zHz (zBc 5 zEd)
theorem zLn {xs:List Int} (h:xs.Pairwise (·< ·)) (hi:i<xs.length):xs.filter (fun b=>decide (xs[i]<b))=xs.drop (i+1):=by
 have hg:=List.pairwise_iff_getElem.mp h;have h1:(xs.take (i+1)).filter (fun b=>decide (xs[i]<b))=[]:=by
  rw[List.filter_eq_nil_iff];intro b hb;obtain ⟨j,hj,rfl⟩:=List.getElem_of_mem hb;rw[zX8]at hj;rw[List.getElem_take,zXx];rcases Nat.lt_or_ge j i with q|q
  ·have:=hg j i (by omega) hi q;omega
  ·have:j=i:=by omega
   subst this;omega
 have h2:(xs.drop (i+1)).filter (fun b=>decide (xs[i]<b))=xs.drop (i+1):=by
  rw[List.filter_eq_self];intro b hb;obtain ⟨j,hj,rfl⟩:=List.getElem_of_mem hb;rw[zZD]at hj;rw[List.getElem_drop,zXx];exact hg i (i+1+j) hi (by omega) (by omega)
 have key:∀ f:Int->Bool,(xs.take (i+1)).filter f=[]->(xs.drop (i+1)).filter f=xs.drop (i+1)->xs.filter f=xs.drop (i+1):=fun f a b=>by
  have:=List.filter_append (p:=f) (xs.take (i+1)) (xs.drop (i+1));rw[List.take_append_drop,a,b]at this;simpa using this
 exact key _ h1 h2
def zGi (xs:List Int) (k:Nat):List (List Int):=(List.range k).flatMap fun i=>(xs.drop (i+1)).map fun b=>[xs.getD i 0,b]
theorem zPM {xs:List Int} (h:xs.Pairwise (·< ·)):zGi xs xs.length=zo xs:=by
 have e:zo xs=(List.range xs.length).flatMap fun i=>(xs.filter fun b=>decide (xs.getD i 0<b)).map fun b=>[xs.getD i 0,b]:=by
  unfold zo;have:xs=(List.range xs.length).map fun i=>xs.getD i 0:=by
   have:=zIa (fun x:Int=>x) 0 xs;simpa using this.symm
  conv=>lhs;arg 2;rw[this]
  rw[List.flatMap_map]
 rw[e];unfold zGi;have:∀ i∈List.range xs.length,(xs.drop (i+1)).map (fun b=>[xs.getD i 0,b])=(xs.filter fun b=>decide (xs.getD i 0<b)).map fun b=>[xs.getD i 0,b]:=fun i hi=>by
  have hi':=zXO.mp hi;rw[<-zLn h hi'];congr 2;funext b;rw[zWp,zWo hi'];rfl
 rw[List.flatMap_def,List.flatMap_def,List.map_congr_left this]
theorem zS0 (xs:List Int):∀ k,(zGi xs k).length<=k*xs.length:=by
 intro k;induction k with
 |zero=>simp[zGi]
 |succ k ih=>
  unfold zGi at ih ⊢;rw[List.range_succ,List.flatMap_append,zW0];simp only[List.flatMap_cons,List.flatMap_nil,zXU,zWt,zZD];rw[Nat.add_mul];omega
theorem zRb {xs:List D} (hk:k<=xs.length):L3.zC4 xs (some (k:Int)) none=xs.drop k:=by
 have ha:HT.sIx xs.length 0 (some (k:Int))=k:=by rw[HT.zOM];omega
 unfold L3.zC4;rw[ha,show HT.sIx xs.length xs.length none=xs.length from rfl];exact List.take_of_length_le (by simp)
theorem zOJ (n:Nat) (ps:List (List Int)):D.unds n (ps.map tI)=true:=by
 induction ps with
 |nil=>rfl
 |cons p r ih=>rw[zW3];unfold D.unds;rw[ih,show D.und n (tI p)=true from zB9 p];rfl
theorem zKD (hj:M[j]?=some (.lst (xs.map D.int))) (hx:xs.Pairwise (·< ·)) (hz:xs.length<=100) :
  Ok (zCz [.ref j] M) fun d M'=>d=.ref M.length /\ ∃ us:Mem,M'=M ++ .lst ((zo xs).map tI)::us /\ ∀ u∈us,MO.und 0 u=true:=by
 have hjl:=(zWn.mp hj).1;unfold zCz;rw[zAS];unfold zEw;show OkS (zV _ _ [some (.ref j),none,none,none] M) _;rw[zU,zm];refine zK (M:=M) (a:=.fl []) (zFj rfl (by simp)) (zAG ?_);rw[zg];show OkS (zV _ _ [some (.ref j),some (.ref M.length),none,none] (M++[.lst []])) _;have up:∀ us:Mem,(M++us)[j]?=some (.lst (xs.map D.int)):=fun us=>by rw[zWr hjl];exact hj
 rw[zU,zBV];have el:=zCG (f:=zE 0) (σ:=[some (.ref j),some (.ref M.length),none,none]) (M:=M++[.lst []]) (x:=.dat (.ref j)) rfl (zAJ (up _));rw[zWt]at el;refine ⟨_,_,_,zBs el (by omega) (by omega),?_⟩;rw[show ((xs.length:Int)).toNat=xs.length by omega];refine zGA (n:=xs.length) (I:=fun k σ M'=>(∃ y2 y3,σ=[some (.ref j),some (.ref M.length),y2,y3]) /\ ∃ us:Mem,M'=M ++ .lst ((zGi xs k).map tI)::us /\ ∀ u∈us,MO.und 0 u=true) ?_ ?_ _ _ ⟨⟨_,_,rfl⟩,[],by simp[zGi],(fun _ h=>by cases h)⟩
 ·rintro k σ M' hk ⟨⟨y2,y3,rfl⟩,us,rfl,hu⟩;refine ⟨_,rfl,?_⟩;show OkS (zBm _ [some (.ref j),some (.ref M.length),some (.int (k:Int)),y3] (M ++ .lst ((zGi xs k).map tI)::us)) _;generalize hA:M++MO.lst ((zGi xs k).map tI)::us=A;have a0:A[j]?=some (.lst (xs.map D.int)):=by rw[<-hA];exact up _
  have a1:A[M.length]?=some (.lst ((zGi xs k).map tI)):=by rw[<-hA];simp
  have al:M.length<A.length:=(zWn.mp a1).1;rw[zDN];have esl:fSl (zE 0) (zB3 (fOp zAZ (zE 2) (fC (.int 1)))) zCL [some (.ref j),some (.ref M.length),some (.int (k:Int)),y3] A=some (.fl ((xs.drop (k+1)).map D.int),A):=by
   refine zf (zR3.mpr (zK (a:=.dat (.ref j)) (M:=A) rfl (zIl.mpr (zK (a:=.dat (.int ((k+1:Nat):Int))) (M:=A) rfl (zIs.mpr (zIU.mpr ?_))))));rw[zKd (zBl a0) rfl,zRb (by rw[zWt];omega),List.map_drop];exact ⟨rfl,rfl⟩
  have ec:=zCT (own:=[3]) (g:=gN 3) (te:=zAV (zF (toD (fOp kIx (zE 0) (zE 2))) (zF (toD (zE 3)) zL))) (σ:=[some (.ref j),some (.ref M.length),some (.int (k:Int)),y3]) (M:=A) (xs.drop (k+1)) D.int (fun b=>tI [xs.getD k 0,b]) (zNw esl) trivial (by rw[zZD];omega) fun b _=>⟨_,rfl,zB1 (ze (zS (x:=.dat (.ref j)) (y:=.dat (.int (k:Int))) rfl rfl (zCA (zAJ a0) (zMw (by rw[zW7,zWo hk,zWp,zWo hk];rfl)))) (zi (d:=.int b) rfl)) (by simp)⟩;have htl:=zS0 xs k;have hmul:k*xs.length<=100*100:=zYM (by omega) hz;refine zNs.mpr (zK (a:=.dat (.ref M.length)) (M:=A) rfl ⟨⟨_,zBl a1⟩,zBL.mpr (zBN.mpr (zK ec (zAG ?_)))⟩);rw[zDE];refine zK (zPH (n:=M.length) (m:=A.length) (xs:=(zGi xs k).map tI) (ys:=(xs.drop (k+1)).map fun b=>tI [xs.getD k 0,b]) (by rw[zWr al];exact a1) (zAD _ _) (by rw[zWt,zWt,zZD];omega)) ?_;refine ⟨⟨_,_,rfl⟩,us++[.lst ((xs.drop (k+1)).map fun b=>tI [xs.getD k 0,b])],?_,fun u hu'=>?_⟩
  ·rw[<-hA,zXq,List.set_append_right _ _ (zWq _)];have:(zGi xs (k+1)).map tI=(zGi xs k).map tI++(xs.drop (k+1)).map fun b=>tI [xs.getD k 0,b]:=by
    unfold zGi;rw[List.range_succ,List.flatMap_append,zXc];simp[zW8,Function.comp_def]
   rw[this];simp
  ·rcases zXA.mp hu' with q|q
   ·exact hu u q
   ·rw[zXC]at q;subst q;show D.unds 0 _=true;rw[show (xs.drop (k+1)).map (fun b=>tI [xs.getD k 0,b])=((xs.drop (k+1)).map fun b=>[xs.getD k 0,b]).map tI by rw[zW8];rfl];exact zOJ 0 _
 ·rintro σ M' ⟨⟨y2,y3,rfl⟩,us,rfl,hu⟩;rw[zg];exact zx (d:=.ref M.length) rfl ⟨rfl,us,by rw[zPM hx],hu⟩
theorem zJ5 {zA:List (List Int)} {l:Nat} (m:IsM zA l) {a b x:Int} (a0:0<=a) (a1:a<zA.length) (b0:0<=b) (b1:b<zA.length) (x0:0<=x) (x1:x<l) {M:Mem}:zBU [mD zA,tI [a,b],.int x] M=some (tI (zAI (zAt zA a x) (zAt zA b x)),M):=by
 refine zf ?_;unfold zBU;refine zKn ?_ ?_
 ·unfold D.unds D.unds D.unds D.unds;rw[zK5,show D.und 0 (tI [a,b])=true from zB9 _];rfl
 rw[zAS];unfold zEd;show OkS (zV _ _ [some (mD zA),some (tI [a,b]),some (.int x),none,none] []) _;refine zC3 (m.ix a0 a1 x0 x1 (f1:=zE 0) (f2:=fOp kIx (zE 1) (fC (.int 0))) (f3:=zE 2) rfl (zS (x:=.dat (tI [a,b])) (y:=.dat (.int 0)) rfl rfl (zCA zAN rfl)) rfl) ?_;refine zC3 (m.ix b0 b1 x0 x1 (f1:=zE 0) (f2:=fOp kIx (zE 1) (fC (.int 1))) (f3:=zE 2) rfl (zS (x:=.dat (tI [a,b])) (y:=.dat (.int 1)) rfl rfl (zCA zAN rfl)) rfl) ?_;exact zx (d:=tI (zAI (zAt zA a x) (zAt zA b x))) (zB1 (ze (zSY (i:=zAt zA a x) (j:=zAt zA b x) rfl rfl) (zi (zSZ (i:=zAt zA a x) (j:=zAt zA b x) rfl rfl))) (by simp[zAI])) ⟨zB9 _,rfl,rfl⟩
theorem zPA (h:p≠q):zAI p q=ris [p,q]:=by
 refine (zQk (zRU h)).symm.trans (zN0 fun x=>?_);unfold zAI;by_cases z:q<p
 ·rw[zWz z,zW2 (by omega)];simp[or_comm]
 ·rw[zW2 z,zWz (by omega)]
theorem zR0:(zAI p q).getD 0 0<(zAI p q).getD 1 0 ↔ p≠q:=by
 unfold zAI;show (if q<p then q else p)<(if q>p then q else p) ↔ _;constructor
 ·intro h e;subst e;simp at h
 ·intro h;split <;> split <;> omega
end Lac
namespace Lac
open PySem PySem.Spec PyProof.Rows L2 L3 ST Law
theorem zKw (hf:f σ M=some (x,M)) (h:zBJ M x=some xs):fB zHb (zb f zq) σ M=some (.fl xs,M):=by
 unfold fB zb zq;rw[hf];dsimp only;unfold zHb;dsimp only;rw[h]
theorem zRd (m:IsM zA l):IsS zA (za zA):=by
 have r0:=m.r0;refine ⟨?_,by unfold za;simp;omega,fun x hx=>zAA.mp hx⟩;unfold za;exact List.pairwise_map.mpr (List.Pairwise.imp (fun {a b} h=>by omega) List.pairwise_lt_range)
def zEx:FS:=(zV (sIf (zDV (zBk (tst (zY zBS (zF (toD (zE 1)) (zF (toD (fB zAx (zb (zE 0) zq))) zL))))) (tst (fOp kEq (fB zAx (zb (zE 1) zq)) (fC (.int 0))))) (zAC (fC (.bl false))) zA1)
  (zAC (fB zNb (zb (zAf [2,3] (zQP (zF (toD (zE 1)) (zF (toD (fSl (zE 1) (zB3 (fC (.int 1))) zCL)) zL))) (zFw 2 3) zAH (fOp kLt (zE 2) (zE 3))) zq))))
def zDa:FF:=zBc 4 zEx
theorem zQD {xs:List D} {lo hi:Option Int} {a b:Nat} (ha:HT.sIx xs.length 0 lo=a) (hb:HT.sIx xs.length xs.length hi=b):L3.zC4 xs lo hi=(xs.drop a).take (b-a):=by
 unfold L3.zC4;rw[ha,hb]
theorem zUF (n:Nat) (d:Nat):HT.sIx n d none=d:=rfl
theorem zSJ (h:∀ x∈c,0<=x/\x<R):tbD R (tI c)=true:=by
 show List.all _ _=true;rw[zXL];intro d hd;obtain ⟨i,hi,rfl⟩:=zW1.mp hd;have:=h i hi;simp[zBX,this.1,this.2]
theorem zPO {c r:Int} (c0:1<=c) (r0:0<r) (cr:c+r<=28) {rest:FS} {τ:Sd} {P:Out->Sd->Mem->Prop} {ns:List Int} (h:ns.length<=63)
  (q:∀ zA l M,IsM zA l->c<=(zA.length:Int)->(zA.length:Int)<c+r->zA.length<=27->l<=6->Gen M 2 1->M[0]?=some (.fro (ns.map D.int))->OkS (rest (some (.ref 0)::some (.ref 2)::some (mD zA)::τ) M) P) :
  OkS (zV (zAM 1 (zY zCJ (zF (toD (zE 0)) zL))) (zV (zAM 2 (zY zBi (zF (toD (zE 1)) (zF (toD (fOp zAZ (fC (.int c)) (zY zd (zF (toD (zE 1)) (zF (toD (fC (.int r))) zL))))) (zF (toD (fOp zAZ (fC (.int 1)) (zY zd (zF (toD (zE 1)) (zF (toD (fC (.int 6))) zL))))) zL))))) rest) (some (.ref 0)::none::none::τ) [.fro (ns.map D.int)]) P:=by
 rw[zU,zm];refine zC8.mpr (zK (zi rfl) ?_);refine Ok.mono (zQF h) ?_;rintro d M1 ⟨rfl,g1,e0,_⟩;rw[zZ,zg,zU,zm];show Ok (zY _ _ (some (.ref 0)::some (.ref 2)::none::τ) M1) _;refine zC8.mpr (zBL.mpr (zBN.mpr (zK (a:=.dat (.ref 2)) rfl ?_)));rw[zZ];refine zBL.mpr (zBN.mpr (zA3.mpr (zK rfl (zAe g1 rfl rfl r0 (by omega) fun i M2 i0 i1 nx2=>zK (a:=.dat (.int (c+i))) rfl ?_))));rw[zZ];refine zBL.mpr (zBN.mpr (zA3.mpr (zK rfl (zAe nx2.gen rfl rfl (by decide) (by decide) fun j M3 j0 j1 nx3=>zK (a:=.dat (.int (1+j))) rfl ?_))));rw[zZ,zDE];refine Ok.mono (zNc nx3.gen (by omega) (by omega) (by omega) (by omega)) ?_;rintro d M4 ⟨⟨zA,l,rfl,m,hR,hL⟩,nx4⟩;rw[zZ,zg];have l3:0<M3.length:=by rw[nx3.len,nx2.len];exact (zWn.mp e0).1
 have e4:M4[0]?=some (.fro (ns.map D.int)):=(nx4.fr 0 l3 (by decide) (by decide)).trans ((nx3.fr 0 (by decide) (by decide)).trans ((nx2.fr 0 (by decide) (by decide)).trans e0));exact q zA l M4 m (by omega) (by omega) (by omega) (by omega) nx4.gen e4
theorem zNY {zA:List (List Int)} (hz:zA.length<=1000) {f:FE} {σ:Sd} {M:Mem} (hf:f σ M=some (.dat (.int zA.length),M)):zJt f σ M=some (.fl ((za zA).map D.int),M):=by
 refine zf (zSm (j:=(zA.length:Int)) hf (by omega) (by omega) ⟨?_,rfl⟩);unfold upD za;rw[zW8,show (zA.length:Int).toNat=zA.length by omega];rfl
def zHF:FS:=(zAC (zHC (zY zDa (zF (toD (zE 0)) (zF (toD (zE 1)) zL))) (fOp kEq (fB zAx (zb (zE 1) zq)) (fC (.int 2)))))
def zEF:FF:=zBc 2 zHF
def zFD:FS:=(zAC (zHC (zEG "int" (zE 0)) (zOo (zEG "bool" (zE 0)))))
def zAg:FF:=zBc 1 zFD
def zD5:FS:=(zV (sIf (zDV (zBk (tst (zEG "tuple" (zE 1)))) (zDV (tst (fOp kNe (fB zAx (zb (zE 1) zq)) (fC (.int 2)))) (zBk (tst (fB zNb (zb (zAf [2] (zBA (zE 1)) (gN 2) zAH (zY zAg (zF (toD (zE 2)) zL))) zq)))))) (zAC (fC (.bl false))) zA1)
  (zAC (zFb kLe kLt kLt (fC (.int 0)) (fOp kIx (zE 1) (fC (.int 0))) (fOp kIx (zE 1) (fC (.int 1))) (fB zAx (zb (zE 0) zq)))))
def zBj:FF:=zBc 3 zD5
def zIt:FS:=(zAC (fB zB5 (zb (zAf [1,2,3] (zIE (zY zGa (zF (toD (zE 0)) zL))) (zN6 1 2 3) zAH (zAV (zF (toD (zE 1)) (zF (toD (zE 2)) (zF (toD (zE 3)) zL))))) zq)))
def zE2:FF:=zHz (zBc 4 zIt)
def zCc (n:Int):D->Bool
 |.tup [.int a,.int b]=>decide (0<=a)&&decide (a<b)&&decide (b<n)
 |_=>false
theorem zI9 {n:Int}:∀ {ds:List D},ds.all (zBX n)=true -> ∃ xs:List Int,ds=xs.map D.int /\ ∀ x∈xs,0<=x/\x<n
 |[],_=>⟨[],rfl,fun _ h=>by cases h⟩
 |d::ds,h=>by
  rw[List.all_cons,zXK]at h;obtain ⟨xs,rfl,hx⟩:=zI9 h.2;have h1:=h.1;cases d with
  |int i=>
   simp only[zBX,zXK,zXx]at h1;exact ⟨i::xs,rfl,fun x hm=>by
    rcases zWw.mp hm with z|z
    ·subst z;exact h1
    ·exact hx x z⟩
  |_=>cases h1
theorem zHp {n:Int} {d:D} (h:zCc n d=true):∃ a b,d=tI [a,b]/\0<=a/\a<b/\b<n:=by
 unfold zCc at h;split at h
 ·rename_i a b;simp only[zXK,zXx]at h;exact ⟨a,b,rfl,h.1.1,h.1.2,h.2⟩
 ·cases h
theorem zKU {n a b:Int}:zCc n (tI [a,b])=(decide (0<=a)&&decide (a<b)&&decide (b<n)):=rfl
theorem zTB {zA:List (List Int)} {d:D} {M:Mem} (hd:Vd M d):∃ b,zDa [mD zA,d] M=some (.bl b,M)/\(b=true -> ∃ ds,d=.tup ds/\(decide ((ds.length:Int)=2))=zCc zA.length d)/\(b=false->zCc zA.length d=false):=by
 have e:=zVc (n:=zA.length) hd;cases h:tbD zA.length d with
 |false=>
  refine ⟨false,?_,(fun z=>by cases z),fun _=>?_⟩
  ·refine zf ?_;unfold zDa;rw[zAS];unfold zEx;show OkS (zV _ _ [some (mD zA),some d,none,none] M) _;rw[h]at e;exact zAP (zD1 (zBG (zr (ze (d:=d) rfl (zi (zC1 rfl))) e))) (zx (d:=.bl false) rfl ⟨rfl,rfl⟩)
  ·cases hp:zCc zA.length d with
   |false=>rfl
   |true=>
    obtain ⟨a,b,rfl,a0,ab,bn⟩:=zHp hp;rw[zSJ fun x hx=>by
     simp only[zWw,zXF,zX5]at hx;rcases hx with rfl|rfl <;> omega]at h
    cases h
 |true=>
  rw[h]at e;cases d with
  |tup ds=>
   obtain ⟨S,rfl,hS⟩:=zI9 (show ds.all (zBX zA.length)=true from h);have hl:S.length<=100000:=by
    have hh:Vd M (.tup (S.map D.int)):=hd;unfold Vd at hh;simpa using hh.1
   by_cases s0:S.length=0
   ·refine ⟨false,?_,(fun z=>by cases z),fun _=>?_⟩
    ·refine zf ?_;unfold zDa;rw[zAS];unfold zEx;show OkS (zV _ _ [some (mD zA),some (tI S),none,none] M) _;refine zAP (zA6 (zBG (zr (ze (d:=tI S) rfl (zi (zC1 rfl))) e)) (zAU (zS (zIx (f:=zE 1) (xs:=S) rfl) (y:=.dat (.int 0)) rfl (eqE.trans ?_)))) (zx (d:=.bl false) rfl ⟨rfl,rfl⟩);rw[zXs (by omega)]
    ·have:S=[]:=List.length_eq_zero_iff.mp s0;subst this;rfl
   ·refine ⟨((S.zip (S.drop 1)).map fun q=>decide (q.1<q.2)).all id,?_,fun hb=>⟨_,rfl,?_⟩,fun hb=>?_⟩
    ·refine zf ?_;unfold zDa;rw[zAS];unfold zEx;show OkS (zV _ _ [some (mD zA),some (tI S),none,none] M) _;refine zA9 (zA6 (zBG (zr (ze (d:=tI S) rfl (zi (zC1 rfl))) e)) (zAU (zS (zIx (f:=zE 1) (xs:=S) rfl) (y:=.dat (.int 0)) rfl (eqE.trans ?_)))) ?_
     ·rw[zXJ (by omega)]
     have c1:L3.zC4 (S.map D.int) (some 1) none=(S.drop 1).map D.int:=by
      rw[zQD (a:=1) (b:=S.length) (by show HT.sIx _ _ (some ((1:Nat):Int))=1;rw[HT.zOM,zWt];omega) (by rw[zUF,zWt]),List.map_drop];exact List.take_of_length_le (by simp)
     have hi:zQP (zF (toD (zE 1)) (zF (toD (fSl (zE 1) (zB3 (fC (.int 1))) zCL)) zL)) [some (mD zA),some (tI S),none,none] M=some ((S.zip (S.drop 1)).map (fun q=>D.tup [.int q.1,.int q.2]),none,M):=by
      have s1:=slE (f:=zE 1) (σ:=[some (mD zA),some (tI S),none,none]) (M:=M) (xs:=S.map D.int) rfl (oS (f:=fC (.int 1)) rfl) (rfl:zCL _ M=some (none,M));rw[c1]at s1;have:=ze (f:=zE 1) (σ:=[some (mD zA),some (tI S),none,none]) (M:=M) (d:=tI S) rfl (zi s1);unfold zQP;rw[this];show some ((((S.map D.int).zip ((S.drop 1).map D.int)).map fun q=>D.tup [q.1,q.2]),none,M)=_;congr 2;rw[List.zip_map,zW8];rfl
     refine zx (zIG (bs:=(S.zip (S.drop 1)).map fun q=>decide (q.1<q.2)) ?_) ⟨rfl,rfl⟩;rw[zW8];exact zCT (gd:=none) (S.zip (S.drop 1)) (fun q=>D.tup [.int q.1,.int q.2]) (fun q=> .bl (decide (q.1<q.2))) hi trivial (by rw[List.length_zip];omega) fun q _=>⟨_,rfl,zS (f:=zE 2) (g:=zE 3) (x:=.dat (.int q.1)) (y:=.dat (.int q.2)) rfl rfl rfl⟩
    ·match S,hS,hb with
     |[],_,_=>rfl
     |[a],_,_=>rfl
     |[a,b],hS,hb=>
      have h1:=hS a (by simp);have h2:=hS b (by simp);simp at hb;show decide _=zCc zA.length (tI [a,b]);rw[zKU,zXs h1.1,zXs hb,zXs h2.2];rfl
     |a::b::c::r,_,_=>
      show decide _=false;refine zXJ ?_;simp;omega
    ·match S,hb with
     |[],hb=>rfl
     |[a],hb=>rfl
     |[a,b],hb=>
      simp at hb;show zCc zA.length (tI [a,b])=false;rw[zKU,zXJ (show ¬ a<b by omega)];simp
     |a::b::c::r,_=>rfl
  |_=>cases h
theorem zSo {zA:List (List Int)} {d:D} {M:Mem} (hd:Vd M d):zEF [mD zA,d] M=some (.bl (zCc zA.length d),M):=by
 obtain ⟨b,e,ht,hf⟩:=zTB (zA:=zA) hd;unfold zEF zHF;refine zGt ?_;have ec:=zr (σ:=[some (mD zA),some d]) (a:=zF (toD (zE 0)) (zF (toD (zE 1)) zL)) (ze (d:=mD zA) rfl (zi (d:=d) rfl)) e;cases b with
 |false=>
  rw[hf rfl];exact (zCD (b:=true) ec fun z=>by cases z).trans rfl
 |true=>
  obtain ⟨ds,rfl,hp⟩:=ht rfl;rw[<-hp];exact (zCD ec fun _=>zS (zCG (f:=zE 1) rfl zAN) rfl eqE).trans (by rw[Bool.true_and])
theorem zG3 {M:Mem} {d:D} (h:Vd M d):zAg [d] M=some (.bl (zC5 d),M):=by
 obtain ⟨t,e,_,q⟩:=h.ty;unfold zAg zFD;refine zGt ?_;rw[<-q];exact zCD (zBq rfl e) fun _=>zOD (zBq rfl e)
theorem zOz {f g h i:FE} {σ:Sd} {M:Mem} {a b c d:Int} (hf:f σ M=some (.dat (.int a),M)) (hg:g σ M=some (.dat (.int b),M)) (hh:h σ M=some (.dat (.int c),M)) (hi:i σ M=some (.dat (.int d),M)) :
  zFb kLe kLt kLt f g h i σ M=some (.dat (.bl (decide (a<=b)&&decide (b<c)&&decide (c<d))),M):=by
 unfold zFb;rw[hf];dsimp only;rw[hg];dsimp only;rw[show kLe (.dat (.int a)) (.dat (.int b)) M=some (.dat (.bl (decide (a<=b))),M)from rfl];cases decide (a<=b) with
 |false=>rfl
 |true=>
  dsimp only;rw[hh];dsimp only;rw[show kLt (.dat (.int b)) (.dat (.int c)) M=some (.dat (.bl (decide (b<c))),M)from rfl];cases decide (b<c) with
  |false=>rfl
  |true=>dsimp only;rw[hi];rfl
theorem zM3 {n:Int} {d:D} {ds:List D} (hd:d=.tup ds) (h:ds.all zC5=false):zCc n d=false:=by
 cases hp:zCc n d with
 |false=>rfl
 |true=>
  obtain ⟨a,b,rfl,_⟩:=zHp hp;cases hd;cases h
theorem zRD {zA:List (List Int)} {d:D} {M:Mem} (hd:Vd M d):zBj [mD zA,d] M=some (.bl (zCc zA.length d),M):=by
 refine zf ?_;unfold zBj;rw[zAS];unfold zD5;show OkS (zV _ _ [some (mD zA),some d,none] M) _;obtain ⟨t,e,q,_⟩:=hd.ty;cases d with
 |tup ds=>
  have hh:Vd M (.tup ds):=hd;unfold Vd at hh;have hl:=zCG (f:=zE 1) (σ:=[some (mD zA),some (.tup ds),none]) (M:=M) rfl (zAN (xs:=ds));have cm:=zJF (own:=[2]) (f:=zE 1) (g:=gN 2) (te:=zY zAg (zF (toD (zE 2)) zL)) (σ:=[some (mD zA),some (.tup ds),none]) (M:=M) (fun x=> .bl (zC5 x)) rfl hh.1 fun x hx=>⟨_,rfl,zr (zi rfl) (zG3 (hh.2.mem x hx))⟩;have ca:=zBG (zIG (bs:=ds.map zC5) (by rw[zW8];exact cm));rw[zEg]at ca;have c1:=zBG (k:=true) (f:=zEG "tuple" (zE 1)) (σ:=[some (mD zA),some (.tup ds),none]) (M:=M) (by rw[zBq rfl e,q];rfl);have c2:=zAU (zS (k:=kNe) hl (g:=fC (.int 2)) (y:=.dat (.int 2)) rfl (zf (zQz.mpr ⟨rfl,rfl⟩)));by_cases h2:(ds.length:Int)=2
  ·rw[zXJ (by omega)]at c2;cases hw:ds.all zC5 with
   |false=>
    rw[hw]at ca;exact zAP (zA6 c1 (zA6 c2 ca)) (zx (d:=.bl false) rfl ⟨by rw[zM3 rfl hw],rfl⟩)
   |true=>
    rw[hw]at ca;refine zA9 (zA6 c1 (zA6 c2 ca)) ?_;match ds,h2,hw with
    |[.int a,.int b],_,_=>
     exact zx (d:=.bl (zCc zA.length (tI [a,b]))) (zOz (a:=0) rfl (zS (x:=.dat (tI [a,b])) (y:=.dat (.int 0)) rfl rfl (zCA zAN rfl)) (zS (x:=.dat (tI [a,b])) (y:=.dat (.int 1)) rfl rfl (zCA zAN rfl)) (zC1 rfl)) ⟨rfl,rfl⟩
  ·rw[zXs h2]at c2;refine zAP (zA6 c1 (zD1 c2)) (zx (d:=.bl false) rfl ⟨?_,rfl⟩);cases hp:zCc zA.length (.tup ds) with
   |false=>rfl
   |true=>
    obtain ⟨a,b,hab,_⟩:=zHp hp;cases hab;exact absurd rfl h2
 |_=>
  refine zAP (zD1 (zBG (k:=false) (by rw[zBq rfl e,q];rfl))) (zx (d:=.bl false) rfl ⟨rfl,rfl⟩)
theorem zQp (T:List (List Int × D)) (p:List Int) (v:D):(zCP T p v).map (·.1)=if p∈T.map (·.1) then T.map (·.1) else T.map (·.1)++[p]:=by
 by_cases h:p∈T.map (·.1)
 ·rw[zWz h];have hs:=zCB.mpr h;unfold zCP;cases e:zR T p with
  |none=>rw[e]at hs;cases hs
  |some d=>
   dsimp only;rw[zW8];refine List.map_congr_left fun q _=>?_;show (if q.1=p then (q.1,v) else q).1=q.1;split <;> rfl
 ·rw[zW2 h,zGX h,zXc];rfl
theorem zN3 {m:FF} {ds:List D} {M:Mem} {d:D} (wf:∀ (j:Nat) u,M[j]?=some u->MO.und M.length u=true) (hd:D.und 0 d=true) (h:Ok (m ds M) fun d' M'=>d'=d /\ ∃ us,M'=M++us):zHe m ds M=some (d,M):=by
 refine zf (zOP (Ok.mono h ?_));rintro d' M' ⟨rfl,us,rfl⟩;refine ⟨⟨zD7 (zXW _) hd,by simp,fun j u hj e=>?_⟩,rfl,by simp⟩;rw[zWr hj]at e;exact wf j u e
def Tk (M M':Mem):Prop:=∀ n t,zIJ M (.dat (.ref n))=some t->zIJ M' (.dat (.ref n))=some t
theorem Tk.of {M M':Mem} (h:∀ (n:Nat) u,M[n]?=some u->M'[n]?=some u):Tk M M':=fun n t e=>by
 unfold zIJ at e ⊢;dsimp only at e ⊢;cases q:M[n]? with
 |none=>rw[q]at e;cases e
 |some u=>rw[q]at e;rw[h n u q];exact e
theorem Tk.app (M us:Mem):Tk M (M++us):=Tk.of fun n u e=>by rw[zWr (zWn.mp e).1];exact e
mutual
theorem Vd.keep {M M':Mem} (k:Tk M M'):∀ {d:D},Vd M d->Vd M' d
 |.ref n,h=>by
  unfold Vd at h ⊢;obtain ⟨t,e,q⟩:=h;exact ⟨t,k n t e,q⟩
 |.tup ds,h=>by
  unfold Vd at h ⊢;exact ⟨h.1,Vds.keep k h.2⟩
 |.non,_=>by unfold Vd;trivial
 |.bl _,_=>by unfold Vd;trivial
 |.int _,_=>by unfold Vd;trivial
 |.str _,_=>by unfold Vd;trivial
theorem Vds.keep {M M':Mem} (k:Tk M M'):∀ {ds:List D},Vds M ds->Vds M' ds
 |[],_=>by unfold Vds;trivial
 |d::ds,h=>by
  unfold Vds at h ⊢;exact ⟨Vd.keep k h.1,Vds.keep k h.2⟩
end
theorem zJC {f:FE} {σ:Sd} {M M1:Mem} {d:D} (h:f σ M=some (.dat d,M1)):toD f σ M=some (d,M1):=by unfold toD;rw[h]
theorem zM7 {M:Mem} (i:Int):Vd M (.int i):=by unfold Vd;trivial
theorem zK2 {M:Mem} {j:Nat} {xs:List D} (h:M[j]?=some (.lst xs)):Vd M (.ref j):=by
 unfold Vd;refine ⟨"list", ?_,.inl rfl⟩;unfold zIJ;dsimp only;rw[h]
theorem zEk {M:Mem} {ds:List D} (hz:ds.length<=100000) (h:∀ d∈ds,Vd M d):Vd M (.tup ds):=by
 unfold Vd;exact ⟨hz,Vds.of h⟩
theorem zDD {n:Nat}:∀ {xs:List D},(∀ d∈xs,D.und n d=true)->D.unds n xs=true
 |[],_=>by unfold D.unds;rfl
 |d::xs,h=>by
  unfold D.unds;rw[h d zWy,zDD fun x hx=>h x (zWx _ hx)];rfl
theorem zSE {M:Mem} {n:Nat} {xs:List D} (h:M[n]?=some (.lst xs)):zIe M (.dat (.ref n))=some xs:=by
 unfold zIe;dsimp only;rw[h]
theorem zGr {M:Mem} {x y:EV} {xs ys:List D} (hx:zIe M x=some xs) (hy:zIe M y=some ys) (hz:xs.length+ys.length<=90000):zDO x y M=some (.fl (xs++ys),M):=by
 unfold zDO;rw[hx,hy];dsimp only;rw[zWz (zAY (by omega))]
theorem zVs {f:FE} {fl fh:FO} {σ:Sd} {M:Mem} {x:EV} {xs:List D} {lo hi:Option Int} (hf:f σ M=some (x,M)) (ht:zDg x=none) (hx:zB8 M x=some xs) (hl:fl σ M=some (lo,M)) (hh:fh σ M=some (hi,M)):fSl f fl fh σ M=some (.fl (L3.zC4 xs lo hi),M):=by
 unfold fSl;rw[hf];dsimp only;rw[hl];dsimp only;rw[hh];dsimp only;exact zf ((zKd hx ht).mpr ⟨rfl,rfl⟩)
theorem zJx {k:K2} {f g:FE} {σ:Sd} {M M1 M2:Mem} {x y:EV} {r:Option (EV × Mem)} (hf:f σ M=some (x,M1)) (hg:g σ M1=some (y,M2)) (hk:k x y M2=r):fOp k f g σ M=r:=by
 unfold fOp;rw[hf];dsimp only;rw[hg];exact hk
theorem zWj {f:FE} {σ:Sd} {M M1:Mem} {d:D} (h:f σ M=some (.dat d,M1)):zAk (zF (toD f) zL) σ M=some (.fl [d],M1):=zFj (aC' (zJC h) rfl) (by simp)
theorem zKk {xs:List D} {lo hi:Option Int}:(L3.zC4 xs lo hi).length<=xs.length /\ ∀ d∈L3.zC4 xs lo hi,d∈xs:=by
 rw[zQD rfl rfl];refine ⟨by rw[zX8,zZD];omega,fun d hd=>List.mem_of_mem_drop (List.mem_of_mem_take hd)⟩
theorem zOg {M:Mem} {n k:Nat} (h:Gen M n k) {many:Int} (m0:0<=many) (m1:many<=1000):Ok (zBT [.ref n,.int many] M) fun d M'=>∃ (j:Nat) (c:List Int),d=.ref j/\M'[j]?=some (.lst (c.map D.int))/\Col many c/\M.length<=j/\Nw M M' n k:=by
 by_cases h0:0<many
 ·refine Ok.mono (zMC h h0 m1) ?_;rintro d M' ⟨j,c,h1,h2,h3,h4,h5,_⟩;exact ⟨j,c,h1,h2,h3,h4,h5⟩
 ·obtain rfl:many=0:=by omega
  unfold zBT;rw[zAS];unfold zDv;show OkS (zV _ _ [some (.ref n),some (.int 0),none,none] M) _;rw[zU,zm];refine zLG.mpr (zDE.mpr ⟨zAY (by simp),zAG ?_⟩);rw[zg,zU,zBV];have nw1:=h.lst [] rfl;have e1:(M++[MO.lst ([]:List D)])[M.length]?=some (.lst []):=zAD _ _;generalize M++[MO.lst ([]:List D)]=M1 at nw1 e1;show ∃ xs gd M2,zAc _ [some (.ref n),some (.int 0),some (.ref M.length),none] M1=some (xs,gd,M2)/\_;refine ⟨_,_,_,zBs rfl (by omega) (by omega),?_⟩;refine zGA (n:=0) (I:=fun i σ M'=>σ=[some (.ref n),some (.int 0),some (.ref M.length),none]/\M'=M1) (fun i σ M' hi _=>by omega) ?_ _ _ ⟨rfl,rfl⟩;rintro σ M' ⟨rfl,rfl⟩;rw[zg];exact zx (d:=.ref M.length) rfl ⟨M.length,[],rfl,e1,⟨rfl,fun _ h=>by cases h⟩,zWq _,nw1⟩
def zMW (zA:List (List Int)) (l:Nat) (p:List Int):D:=.tup [tI p,.int (zFL zA l One p:Nat),.int (zNi zA l One p)]
theorem zSR (zA:List (List Int)) (l:Nat) (ps:List (List Int)):D.und 0 (.tup (ps.map (zMW zA l)))=true:=by
 unfold D.und;induction ps with
 |nil=>rfl
 |cons p r ih=>
  rw[zW3];unfold D.unds;rw[ih];unfold zMW D.und D.unds D.unds D.unds D.unds;rw[show D.und 0 (tI p)=true from zB9 _];rfl
theorem zMV {zA:List (List Int)} {l:Nat} (hR:zA.length<=26):(zB4 zA l One).length<=676:=zXB (List.length_filter_le _ _) (zFc hR)
theorem zRe {g:FF} {a:FA} {σ:Sd} {M M1:Mem} {ds:List D} {jr:Nat} {T:List (List Int × D)} (ha:a σ M=some (ds,M)) (hg:g ds M=some (.ref jr,M1)) (hr:M1[jr]?=some (dT T)):zIE (zY g a) σ M=some (T.map (fun q=>D.tup [tI q.1,q.2]),none,M1.set jr (.set [])):=by
 unfold zIE;rw[zr ha hg];dsimp only;rw[hr];show some ((zGo T).map (fun p=>D.tup [p.1,p.2]),_,_)=_;unfold zGo;rw[zW8];rfl
theorem zO6 {zA:List (List Int)} {l:Nat} (m:IsM zA l) (hR:zA.length<=26) (hl:l<=12) {M:Mem}:zE2 [mD zA] M=some (.tup ((zB4 zA l One).map (zMW zA l)),M):=by
 refine zf ?_;unfold zE2;refine zKn ?_ ?_
 ·unfold D.unds D.unds;rw[zK5];rfl
 rw[zAS];unfold zIt;show OkS (zAC _ [some (mD zA),none,none,none] []) _;obtain ⟨d,M1,e,jr,rfl,_,hr,_,_⟩:=zR7 m hR hl (M:=[]);have ei:=zRe (σ:=[some (mD zA),none,none,none]) (zi (f:=zE 0) (d:=mD zA) rfl) e hr;clear e;have ef:=zE7 (own:=[1,2,3]) (g:=zN6 1 2 3) (tc:=zAH) (te:=zAV (zF (toD (zE 1)) (zF (toD (zE 2)) (zF (toD (zE 3)) zL)))) (zHd zA l One) (fun q=>D.tup [tI q.1,q.2]) (fun q=>zMW zA l q.1) (fun _=>true) ei trivial (by have:=zMV (l:=l) hR;unfold zHd;rw[zWt];omega) (fun q hq=>by
  obtain ⟨p,_,rfl⟩:=zW1.mp hq;exact ⟨[some (mD zA),some (tI p),some (.int (zFL zA l One p:Nat)),some (.int (zNi zA l One p))],rfl,rfl,fun _=>zB1 (ze (d:=tI p) rfl (ze (d:=.int (zFL zA l One p:Nat)) rfl (zi (d:=.int (zNi zA l One p)) rfl))) (by simp)⟩)
 have hft:((zHd zA l One).filter fun _=>true).map (fun q=>zMW zA l q.1)=(zB4 zA l One).map (zMW zA l):=by
  rw[List.filter_eq_self.mpr fun _ _=>rfl];unfold zHd;rw[zW8];rfl
 rw[hft]at ef;rw[zA8];refine zRC.mpr (zFR.mpr (zK ef (zGl.mpr ((zKi zE9).mpr ?_))));rw[zZ];exact ⟨zSR _ _ _,rfl,rfl⟩
def zFJ:FS:=(zV (sIf (zDV (zBk (tst (zEG "tuple" (zE 1)))) (tst (fOp kNe (fB zAx (zb (zE 1) zq)) (fC (.int 3))))) (zAC (fC (.bl false))) zA1)
  (zAC (zHC (zY zEF (zF (toD (zE 0)) (zF (toD (fOp kIx (zE 1) (fC (.int 0)))) zL))) (zHC (zY zCg (zF (toD (fOp kIx (zE 1) (fC (.int 1)))) zL)) (zY zCh (zF (toD (fOp kIx (zE 1) (fC (.int 2)))) (zF (toD (fB zAx (zb (fOp kIx (zE 0) (fC (.int 0))) zq))) zL)))))))
def zCH:FF:=zBc 2 zFJ
def zE4:FS:=(zV (zKy (zIP 3 4 5) (zE 1))
  (zV (zAM 6 (zY zBz (zF (toD (zE 0)) (zF (toD (zE 3)) (zF (toD (zE 5)) zL)))))
  (zV (sIf (tst (fOp kEq (fB zAx (zb (zE 6) zq)) (fC (.int 1)))) (zAC (fOp kEq (zE 4) (fC (.int 1)))) zA1)
  (zAC (zHC (fOp (zCO false) (zE 6) (zE 2)) (fOp kEq (fOp zBI (zE 2) (zE 6)) (fOp zH8 (zE 4) (fC (.int 1)))))))))
def zCK:FF:=zBc 7 zE4
def zDR:FS:=(zV (sIf (zDV (zBk (tst (zEG "tuple" (zE 1)))) (zBk (tst (fB zNb (zb (zAf [2] (zBA (zE 1)) (gN 2) zAH (zY zCH (zF (toD (zE 0)) (zF (toD (zE 2)) zL)))) zq))))) (zAC (fC (.bl false))) zA1)
  (zV (zAM 3 (zCi true [4,5,6] (zBA (zE 1)) (zIP 4 5 6) zAH (zE 4) (zE 5)))
  (zV (sIf (tst (fOp kLt (fB zIV (zb (zE 3) zq)) (fB zAx (zb (zE 1) zq)))) (zAC (fC (.bl false))) zA1)
  (zAC (fB zNb (zb (zAf [2] (zBA (zE 1)) (gN 2) zAH (zY zCK (zF (toD (zE 0)) (zF (toD (zE 2)) (zF (toD (zE 3)) zL))))) zq))))))
def zBP:FF:=zHe (zBc 7 zDR)
def zFP:FS:=(zV (sIf (zBk (tst (zEG "tuple" (zE 1)))) (zAC (fC (.bl false))) zA1)
  (zV (zAM 2 zH9)
  (zV (zC2 (zBA (zE 1)) (gN 3) (zV (sIf (zDV (zBk (tst (zEG "tuple" (zE 3)))) (zDV (tst (fOp kNe (fB zAx (zb (zE 3) zq)) (fC (.int 3)))) (zBk (tst (zY zBj (zF (toD (zE 0)) (zF (toD (fOp kIx (zE 3) (fC (.int 0)))) zL))))))) (zAC (fC (.bl false))) zA1)
  (zV (sIf (zDV (zBk (tst (zY zAg (zF (toD (fOp kIx (zE 3) (fC (.int 1)))) zL)))) (zDV (zBk (tst (zY zAg (zF (toD (fOp kIx (zE 3) (fC (.int 2)))) zL)))) (zBk (tst (zD6 kLe kLt (fC (.int 0)) (fOp kIx (zE 3) (fC (.int 2))) (fB zAx (zb (fOp kIx (zE 0) (fC (.int 0))) zq))))))) (zAC (fC (.bl false))) zA1)
  (zV (sIf (tst (fOp (zCO false) (fOp kIx (zE 3) (fC (.int 0))) (zE 2))) (zAC (fC (.bl false))) zA1)
  (zC7 (fOp kIx (zE 3) (fC (.int 1))) (zE 2) (fOp kIx (zE 3) (fC (.int 0))))))))
  (zV (zC2 (zBA (zE 1)) (zIP 4 5 6) (zV (zAM 7 (zY zBU (zF (toD (zE 0)) (zF (toD (zE 4)) (zF (toD (zE 6)) zL)))))
  (zV (sIf (zBh (tst (fOp kEq (fOp kIx (zE 7) (fC (.int 0))) (fOp kIx (zE 7) (fC (.int 1))))) (tst (fOp kNe (zE 5) (fC (.int 1))))) (zAC (fC (.bl false))) zA1)
  (sIf (zBh (tst (fOp kLt (fOp kIx (zE 7) (fC (.int 0))) (fOp kIx (zE 7) (fC (.int 1))))) (zDV (tst (fOp (zCO true) (zE 7) (zE 2))) (tst (fOp kNe (fOp zBI (zE 2) (zE 7)) (fOp zH8 (zE 5) (fC (.int 1))))))) (zAC (fC (.bl false))) zA1))))
  (zAC (fC (.bl true)))))))
def zCx:FF:=zHe (zBc 8 zFP)
def zE5:FS:=(zV (zAM 2 (zY zBP (zF (toD (zE 0)) (zF (toD (zE 1)) zL))))
  (zAC (zHC (zEG "bool" (zE 2)) (fOp kEq (zE 2) (zY zCx (zF (toD (zE 0)) (zF (toD (zE 1)) zL)))))))
def zCI:FF:=zBc 3 zE5
abbrev Tp:=List Int × Int × Int
def tD (t:Tp):D:=.tup [tI t.1,.int t.2.1,.int t.2.2]
def kq (t:Tp):List Int × D:=(t.1,.int t.2.1)
def Tok (zA:List (List Int)) (l:Nat) (t:Tp):Prop:=t.1∈zo (za zA)/\0<=t.2.2/\t.2.2<(l:Int)
def zCd (n l:Int):D->Bool
 |.tup [x,y,z]=>zCc n x&&(zC5 y&&zBX l z)
 |_=>false
theorem zHw {n l:Int} {d:D} (h:zCd n l d=true):∃ a b k x,d=.tup [tI [a,b],.int k,.int x]/\(0<=a/\a<b/\b<n)/\0<=x/\x<l:=by
 unfold zCd at h;split at h
 ·rename_i x y z;simp only[zXK]at h;obtain ⟨a,b,rfl,h1,h2,h3⟩:=zHp h.1;cases y with
  |int k=>
   cases z with
   |int w=>
    have h4:=h.2.2;simp only[zBX,zXK,zXx]at h4;exact ⟨a,b,k,w,rfl,⟨h1,h2,h3⟩,h4.1,h4.2⟩
   |_=>cases h.2.2
  |_=>cases h.2.1
 ·cases h
theorem zS6 {zA:List (List Int)} {l:Nat} (m:IsM zA l) {d:D} {M:Mem} (hd:Vd M d):zCH [mD zA,d] M=some (.bl (zCd zA.length l d),M):=by
 refine zf ?_;unfold zCH;rw[zAS];unfold zFJ;show OkS (zV _ _ [some (mD zA),some d] M) _;obtain ⟨t,e,q,_⟩:=hd.ty;cases d with
 |tup ds=>
  have hh:Vd M (.tup ds):=hd;unfold Vd at hh;have hl:=zCG (f:=zE 1) (σ:=[some (mD zA),some (.tup ds)]) (M:=M) rfl (zAN (xs:=ds));have c1:=zBG (k:=true) (f:=zEG "tuple" (zE 1)) (σ:=[some (mD zA),some (.tup ds)]) (M:=M) (by rw[zBq rfl e,q];rfl);have c2:=zAU (zS (k:=kNe) hl (g:=fC (.int 3)) (y:=.dat (.int 3)) rfl (zf (zQz.mpr ⟨rfl,rfl⟩)));by_cases h3:(ds.length:Int)=3
  ·rw[zXJ (by omega)]at c2;refine zA9 (zA6 c1 c2) ?_;match ds,h3,hh with
   |[x,y,z],_,hh=>
    have ix:∀ (k:Int) (v:D),atI [x,y,z] k=some v->fOp kIx (zE 1) (fC (.int k)) [some (mD zA),some (.tup [x,y,z])] M=some (.dat v,M):=fun k v hv=>zS (x:=.dat (.tup [x,y,z])) (y:=.dat (.int k)) rfl rfl (zCA zAN hv);have vx:=hh.2.mem x (by simp);have vy:=hh.2.mem y (by simp);have vz:=hh.2.mem z (by simp);exact zx (d:=.bl (zCd zA.length l (.tup [x,y,z]))) (zCD (zr (ze (d:=mD zA) rfl (zi (ix 0 x rfl))) (zSo vx)) fun _=>zCD (zr (zi (ix 1 y rfl)) (zML vy)) fun _=>zr (ze (ix 2 z rfl) (zi (zET m rfl))) (zLw vz)) ⟨rfl,rfl⟩
  ·rw[zXs h3]at c2;refine zAP (zA6 c1 c2) (zx (d:=.bl false) rfl ⟨?_,rfl⟩);cases hp:zCd zA.length l (.tup ds) with
   |false=>rfl
   |true=>
    obtain ⟨a,b,k,x,hab,_⟩:=zHw hp;cases hab;exact absurd rfl h3
 |_=>
  refine zAP (zD1 (zBG (k:=false) (by rw[zBq rfl e,q];rfl))) (zx (d:=.bl false) rfl ⟨rfl,rfl⟩)
theorem zJU {zA:List (List Int)} {l:Nat}:∀ {ds:List D},ds.all (zCd zA.length l)=true -> ∃ ts:List Tp,ds=ts.map tD /\ ∀ t∈ts,Tok zA l t
 |[],_=>⟨[],rfl,fun _ h=>by cases h⟩
 |d::ds,h=>by
  rw[List.all_cons,zXK]at h;obtain ⟨ts,rfl,hp⟩:=zJU h.2;obtain ⟨a,b,k,x,rfl,⟨a0,ab,bn⟩,x0,x1⟩:=zHw h.1;refine ⟨([a,b],k,x)::ts,rfl,fun t hm=>?_⟩;rcases zWw.mp hm with z|z
  ·subst z;exact ⟨zAv.mpr ⟨a,b,rfl,zAA.mpr ⟨a0,by omega⟩,zAA.mpr ⟨by omega,bn⟩,ab⟩,x0,x1⟩
  ·exact hp t z
theorem zRB {zA:List (List Int)} {l:Nat} {t:Tp} (h:Tok zA l t):zCd zA.length l (tD t)=true:=by
 obtain ⟨p,k,x⟩:=t;obtain ⟨h1,h2,h3⟩:=h;obtain ⟨a,b,rfl,ha,hb,hlt⟩:=zAv.mp h1;have ha:=zAA.mp ha;have hb:=zAA.mp hb;have h2:0<=x:=h2;have h3:x<(l:Int):=h3;show (zCc zA.length (tI [a,b])&&(true&&(decide (0<=x)&&decide (x<(l:Int)))))=true;rw[zKU,zXs ha.1,zXs hlt,zXs hb.2,zXs h2,zXs h3];rfl
theorem zPp {zA:List (List Int)} {l:Nat} {ts:List Tp} (h:∀ t∈ts,Tok zA l t):(ts.map tD).all (zCd zA.length l)=true:=by
 rw[List.all_map,zXL];exact fun t ht=>zRB (h t ht)
theorem zQS {s t:Tp} (h:tD s=tD t):s=t:=by
 obtain ⟨p,k,x⟩:=s;obtain ⟨q,i,y⟩:=t;have:=D.tup.inj h;simp only[List.cons.injEq,and_true]at this;obtain ⟨h1,h2,h3⟩:=this;have h1:p=q:=zJE (D.tup.inj h1);cases h2;cases h3;rw[h1]
def tvT (qs:List (List Int × D)):List (List Int × D):=qs.foldl (fun T q=>zCP T q.1 q.2) []
theorem zSj (qs:List (List Int × D)) (q:List Int × D):tvT (qs++[q])=zCP (tvT qs) q.1 q.2:=by unfold tvT;rw[List.foldl_append];rfl
theorem zNv:∀ (qs T:List (List Int × D)),∃ new:List (List Int),(qs.foldl (fun T q=>zCP T q.1 q.2) T).map (·.1)=T.map (·.1)++new/\new.length<=qs.length/\(new.length=qs.length ↔ (qs.map (·.1)).Nodup /\ ∀ p∈qs.map (·.1),p∉T.map (·.1))
 |[],T=>⟨[],by simp,zWq _,by simp⟩
 |q::r,T=>by
  obtain ⟨new,h1,h4,h5⟩:=zNv r (zCP T q.1 q.2);rw[zQp]at h1 h5;by_cases hp:q.1∈T.map (·.1)
  ·rw[zWz hp]at h1 h5;refine ⟨new,h1,by simp;omega,?_⟩;constructor
   ·intro z;simp at z;omega
   ·rintro ⟨_,z⟩;exact absurd hp (z q.1 (by simp))
  ·rw[zW2 hp]at h1 h5;refine ⟨q.1::new,by rw[List.foldl_cons,h1];simp,by simp;omega,?_⟩;rw[zXH,zXH,Nat.add_right_cancel_iff,h5,zW3,List.nodup_cons];constructor
   ·rintro ⟨n1,n2⟩;refine ⟨⟨fun z=>n2 q.1 z (by simp),n1⟩,fun p hq=>?_⟩;rcases zWw.mp hq with z|z
    ·subst z;exact hp
    ·exact fun y=>n2 p z (zXz _ y)
   ·rintro ⟨⟨n1,n2⟩,n3⟩;refine ⟨n2,fun p hq y=>?_⟩;rcases zXA.mp y with z|z
    ·exact n3 p (zWx _ hq) z
    ·rw[zXC]at z;subst z;exact n1 hq
theorem zRv (qs:List (List Int × D)):(tvT qs).length<=qs.length/\((tvT qs).length=qs.length ↔ (qs.map (·.1)).Nodup):=by
 obtain ⟨new,h1,h4,h5⟩:=zNv qs [];have hl:(tvT qs).length=new.length:=by
  have:=congrArg List.length h1;rw[zWt]at this;simpa [tvT] using this
 rw[hl];exact ⟨h4,h5.trans ⟨fun h=>h.1,fun h=>⟨h,fun p _ z=>by cases z⟩⟩⟩
theorem zV2 {qs:List (List Int × D)} (h:(qs.map (·.1)).Nodup):tvT qs=qs:=by
 have loop:∀ (r q:List (List Int × D)),((q++r).map (·.1)).Nodup->r.foldl (fun T q=>zCP T q.1 q.2) q=q++r:=by
  intro r;induction r with
  |nil=>intro q _;simp
  |cons x r ih=>
   intro q hn;have hx:x.1∉q.map (·.1):=fun z=>by
    rw[zXc,zXy]at hn;exact hn.2.2 _ z _ (by simp) rfl
   rw[List.foldl_cons,zGX hx,ih (q++[x]) (by simpa using hn)];simp
 exact loop qs [] (by simpa using h)
theorem zTH {σ:Sd} {M:Mem} {f:FE} {ts:List Tp} (hf:f σ M=some (.dat (.tup (ts.map tD)),M)) (hz:ts.length<=80000) (h4:∀ (t:Tp),∃ σ1,zIP 4 5 6 (tD t) (zBo [4,5,6] σ)=some σ1 /\ ∀ M',zE 4 σ1 M'=some (.dat (tI t.1),M')/\zE 5 σ1 M'=some (.dat (.int t.2.1),M')):zCi true [4,5,6] (zBA f) (zIP 4 5 6) zAH (zE 4) (zE 5) σ M=some (.dat (.ref M.length),M++[dT (tvT (ts.map kq))]):=by
 unfold zCi;rw[zDu hf];dsimp only;have loop:∀ (r q:List Tp),q++r=ts->zC6 (zIP 4 5 6) zAH (zE 4) (zE 5) (zBo [4,5,6] σ) M.length (ts.map tD) none (r.map tD) (M++[dT (tvT (q.map kq))])=some (M++[dT (tvT (ts.map kq))]):=by
  intro r;induction r with
  |nil=>intro q e;rw[zXU]at e;subst e;exact zG2 trivial
  |cons p r ih=>
   intro q e;have hl:(tvT (q.map kq)).length<90000:=by have:=(zRv (q.map kq)).1;have:=congrArg List.length e;simp at *;omega
   obtain ⟨σ1,e1,e2⟩:=h4 p;rw[zW3,zIg (σ1:=σ1) (k:=tI p.1) (v:=.int p.2.1) zA2 e1 (e2 _).1 (e2 _).2 (zIc (T:=tvT (q.map kq)) (zAD _ _) hl),<-ih (q++[p]) (by rw[<-e];simp),zXc,show [p].map kq=[kq p]from rfl,zSj,List.set_append_right _ _ (zWq _)];simp[kq]
 rw[show M++[zIn true]=M++[dT (tvT (([]:List Tp).map kq))]from rfl,loop ts [] rfl]
def zEj (zA:List (List Int)) (qs:List (List Int × D)) (t:Tp):Bool:=if (setR zA t.1 t.2.2).length=1 then decide (t.2.1=1) else match zR qs (setR zA t.1 t.2.2) with
 |some (.int k)=>decide (k=t.2.1-1)
 |_=>false
theorem zHs {p:List Int} {d:D}:∀ {ts:List Tp},zR (ts.map kq) p=some d -> ∃ t∈ts,t.1=p/\d=.int t.2.1
 |[],h=>by cases h
 |t::ts,h=>by
  rw[zW3]at h;unfold zR at h;by_cases z:(kq t).1=p
  ·rw[zWz z]at h;cases h;exact ⟨t,zWy,z,rfl⟩
  ·rw[zW2 z]at h;obtain ⟨s,hs,h1,h2⟩:=zHs h;exact ⟨s,zWx _ hs,h1,h2⟩
theorem zSe {zA:List (List Int)} {l:Nat} (m:IsM zA l) (hR:zA.length<=26) {ts:List Tp} {t:Tp} (ht:Tok zA l t) {M:Mem} {j:Nat} (hj:M[j]?=some (dT (ts.map kq))):zCK [mD zA,tD t,.ref j] M=some (.bl (zEj zA (ts.map kq) t),M):=by
 obtain ⟨p,k,x⟩:=t;obtain ⟨hp,x0,x1⟩:=ht;refine zf ?_;unfold zCK;rw[zAS];unfold zE4;show OkS (zV _ _ [some (mD zA),some (tD (p,k,x)),some (.ref j),none,none,none,none] M) _;rw[zU,zHv];refine zK (a:=.dat (tD (p,k,x))) (M:=M) rfl ?_;rw[zZ];refine ⟨_,rfl,?_⟩;rw[zg];show OkS (zV _ _ [some (mD zA),some (tD (p,k,x)),some (.ref j),some (tI p),some (.int k),some (.int x),none] M) _;refine zC3 (zr (ze (d:=mD zA) rfl (ze (d:=tI p) rfl (zi (d:=.int x) rfl))) (zK1 m (by omega) (zFd p hp).1 x0 x1)) ?_
 have ed:zEj zA (ts.map kq) (p,k,x)=if (setR zA p x).length=1 then decide (k=1) else match zR (ts.map kq) (setR zA p x) with
   |some (.int i)=>decide (i=k-1)
   |_=>false:=rfl
 rw[ed];generalize setR zA p x=g;show OkS (zV _ _ [some (mD zA),some (tD (p,k,x)),some (.ref j),some (tI p),some (.int k),some (.int x),some (tI g)] M) _;have et:=zAU (zS (k:=kEq) (zIx (f:=zE 6) (σ:=[some (mD zA),some (tD (p,k,x)),some (.ref j),some (tI p),some (.int k),some (.int x),some (tI g)]) (M:=M) (xs:=g) rfl) (g:=fC (.int 1)) (y:=.dat (.int 1)) rfl eqE);by_cases h1:g.length=1
 ·rw[zXs (by omega)]at et;rw[zWz h1];exact zAP et (zx (d:=.bl (decide (k=1))) (zS (x:=.dat (.int k)) (y:=.dat (.int 1)) rfl rfl eqE) ⟨rfl,rfl⟩)
 ·rw[zXJ (by omega)]at et;rw[zW2 h1];refine zA9 et ?_;have ei:=zS (k:=zCO false) (f:=zE 6) (g:=zE 2) (σ:=[some (mD zA),some (tD (p,k,x)),some (.ref j),some (tI p),some (.int k),some (.int x),some (tI g)]) (M:=M) (x:=.dat (tI g)) (y:=.dat (.ref j)) rfl rfl ((zLj hj).trans (by rw[zW2 (by decide)]));cases hlk:zR (ts.map kq) g with
  |none=>
   rw[hlk]at ei;exact zx (d:=.bl false) ((zCD (b:=true) ei fun z=>by cases z).trans rfl) ⟨rfl,rfl⟩
  |some d=>
   obtain ⟨s,_,_,rfl⟩:=zHs hlk;rw[hlk]at ei;exact zx (d:=.bl (decide (s.2.1=k-1))) ((zCD ei fun _=>zS (x:=.dat (.int s.2.1)) (y:=.dat (.int (k-1))) (zS (x:=.dat (.ref j)) (y:=.dat (tI g)) rfl rfl (zHX hj hlk)) (zS (x:=.dat (.int k)) (y:=.dat (.int 1)) rfl rfl zTT) eqE).trans (by rw[Option.isSome_some,Bool.true_and])) ⟨rfl,rfl⟩
def ShL (zA:List (List Int)) (l:Nat) (d:D):Prop:=∃ ts:List Tp,d=.tup (ts.map tD)/\(∀ t∈ts,Tok zA l t)/\(ts.map (·.1)).Nodup /\ ∀ t∈ts,zEj zA (ts.map kq) t=true
theorem zIN {zA:List (List Int)} {l:Nat} {ts:List Tp} (hp:∀ t∈ts,Tok zA l t):ShL zA l (.tup (ts.map tD)) ↔ (ts.map (·.1)).Nodup /\ ∀ t∈ts,zEj zA (ts.map kq) t=true:=by
 constructor
 ·rintro ⟨qs,e,_,h1,h2⟩;cases (List.map_inj_right fun a b e=>zQS e).mp (D.tup.inj e);exact ⟨h1,h2⟩
 ·rintro ⟨h1,h2⟩;exact ⟨ts,rfl,hp,h1,h2⟩
theorem zOR {zA:List (List Int)} {l:Nat} {ds:List D} (h:ds.all (zCd zA.length l)=false):¬ ShL zA l (.tup ds):=by
 rintro ⟨ts,e,hp,_⟩;cases e;rw[zPp hp]at h;cases h
theorem zGd (ts:List Tp):(ts.map kq).map (·.1)=ts.map (·.1):=by rw[zW8];rfl
open Classical in
theorem zEn {zA:List (List Int)} {l:Nat} (m:IsM zA l) (hR:zA.length<=26) {d:D} {M:Mem} (wf:∀ (j:Nat) u,M[j]?=some u->MO.und M.length u=true) (hd:Vd M d) (hz:zL9 d<=2000) :
  zBP [mD zA,d] M=some (.bl (decide (ShL zA l d)),M):=by
 unfold zBP;refine zN3 wf rfl ?_;rw[zAS];unfold zDR;show OkS (zV _ _ [some (mD zA),some d,none,none,none,none,none] M) _;obtain ⟨t,e,q,_⟩:=hd.ty;cases d with
 |tup ds=>
  have hh:Vd M (.tup ds):=hd;unfold Vd at hh;have hz:ds.length<=2000:=hz;have cm:=zJF (own:=[2]) (f:=zE 1) (g:=gN 2) (te:=zY zCH (zF (toD (zE 0)) (zF (toD (zE 2)) zL))) (σ:=[some (mD zA),some (.tup ds),none,none,none,none,none]) (M:=M) (fun x=> .bl (zCd zA.length l x)) rfl hh.1 fun x hx=>⟨_,rfl,zr (ze (d:=mD zA) rfl (zi (d:=x) rfl)) (zS6 m (hh.2.mem x hx))⟩;have ca:=zBG (zIG (bs:=ds.map (zCd zA.length l)) (by rw[zW8];exact cm));rw[zEg]at ca;have c1:=zBG (k:=true) (f:=zEG "tuple" (zE 1)) (σ:=[some (mD zA),some (.tup ds),none,none,none,none,none]) (M:=M) (by rw[zBq rfl e,q];rfl);cases hw:ds.all (zCd zA.length l) with
  |false=>
   rw[hw]at ca;exact zAP (zA6 c1 ca) (zx (d:=.bl false) rfl ⟨by rw[zXJ (zOR hw)],[],by simp⟩)
  |true=>
   rw[hw]at ca;refine zA9 (zA6 c1 ca) ?_;clear ca cm;obtain ⟨ts,rfl,hp⟩:=zJU hw;rw[zWt]at hz;rw[zU,zm];refine zK (zTH (f:=zE 1) rfl (by omega) fun t=>⟨_,rfl,fun M'=>⟨rfl,rfl⟩⟩) ?_;rw[zZ,zg];show OkS (zV _ _ [some (mD zA),some (.tup (ts.map tD)),none,some (.ref M.length),none,none,none] (M++[dT (tvT (ts.map kq))])) _;have e1:(M++[dT (tvT (ts.map kq))])[M.length]?=some (dT (tvT (ts.map kq))):=zAD _ _;have us:∃ us,M++[dT (tvT (ts.map kq))]=M++us:=⟨_,rfl⟩;generalize M++[dT (tvT (ts.map kq))]=M1 at e1 us ⊢;have el:fB zIV (zb (zE 3) zq) [some (mD zA),some (.tup (ts.map tD)),none,some (.ref M.length),none,none,none] M1=some (.dat (.int (tvT (ts.map kq)).length),M1):=by
    unfold fB zb zq;rw[show zE 3 [some (mD zA),some (.tup (ts.map tD)),none,some (.ref M.length),none,none,none] M1=some (.dat (.ref M.length),M1)from rfl];show zIV [.dat (.ref M.length)] M1=_;unfold zIV;dsimp only;rw[e1];show some (EV.dat (.int ((zGo (tvT (ts.map kq))).length:Int)),M1)=_;unfold zGo;rw[zWt]
   have et:=zAU (zS (k:=kLt) el (zCG (f:=zE 1) (σ:=[some (mD zA),some (.tup (ts.map tD)),none,some (.ref M.length),none,none,none]) (M:=M1) rfl zAN) (zf (zRu.mpr ⟨rfl,rfl⟩)));rw[zWt]at et;obtain ⟨tl,tn⟩:=zRv (ts.map kq);rw[zGd]at tn;rw[zWt]at tl tn;by_cases nd:(ts.map (·.1)).Nodup
   ·have:=tn.mpr nd;rw[zXJ (by omega)]at et;refine zA9 et ?_;rw[zV2 (by rw[zGd];exact nd)]at e1;have cd:=zCT (own:=[2]) (g:=gN 2) (te:=zY zCK (zF (toD (zE 0)) (zF (toD (zE 2)) (zF (toD (zE 3)) zL)))) (gd:=none) (σ:=[some (mD zA),some (.tup (ts.map tD)),none,some (.ref M.length),none,none,none]) (M:=M1) ts tD (fun t=> .bl (zEj zA (ts.map kq) t)) (zDu (f:=zE 1) rfl) trivial (by omega) fun t ht=>⟨_,rfl,zr (ze (d:=mD zA) rfl (ze (d:=tD t) rfl (zi (d:=.ref M.length) rfl))) (zSe m hR (hp t ht) e1)⟩;have ca:=zIG (bs:=ts.map (zEj zA (ts.map kq))) (by rw[zW8];exact cd);rw[zEg]at ca;refine zx ca ⟨?_,us⟩;congr 1;rw[Bool.eq_iff_iff,zXL,zXx,zIN hp];exact ⟨fun h=>⟨nd,h⟩,fun h=>h.2⟩
   ·have:(tvT (ts.map kq)).length≠ts.length:=fun z=>nd (tn.mp z);rw[zXs (by omega)]at et;refine zAP et (zx (d:=.bl false) rfl ⟨?_,us⟩);rw[zXJ fun z=>nd ((zIN hp).mp z).1]
 |_=>
  refine zAP (zD1 (zBG (k:=false) (by rw[zBq rfl e,q];rfl))) (zx (d:=.bl false) rfl ⟨?_,[],by simp⟩);rw[zXJ];rintro ⟨ps,z,_⟩;cases z
theorem zMe {zA:List (List Int)} {a b x:Int} (h:zAt zA a x=zAt zA b x):setR zA [a,b] x=[zAt zA a x]:=by
 show ris [zAt zA a x,zAt zA b x]=_;rw[<-h];exact (zN0 fun x=>by simp).trans (zQk (by simp))
theorem zMl {zA:List (List Int)} {a b x:Int} (h:zAt zA a x≠zAt zA b x):setR zA [a,b] x=zAI (zAt zA a x) (zAt zA b x):=by
 rw[zPA h];rfl
theorem zM6 {zA:List (List Int)} {l:Nat} (m:IsM zA l) {x:D} {M:Mem} (hv:Vd M x) {σ:Sd} {g:FS} {P:Out->Sd->Mem->Prop} (h0:∀ M,zE 0 σ M=some (.dat (mD zA),M)) (h3:∀ M,zE 3 σ M=some (.dat x,M)) (yes:zCd zA.length l x=true->OkS (g σ M) P) (no:zCd zA.length l x=false->P (.ret (.bl false)) σ M) :
  OkS (zV (sIf (zDV (zBk (tst (zEG "tuple" (zE 3)))) (zDV (tst (fOp kNe (fB zAx (zb (zE 3) zq)) (fC (.int 3)))) (zBk (tst (zY zBj (zF (toD (zE 0)) (zF (toD (fOp kIx (zE 3) (fC (.int 0)))) zL))))))) (zAC (fC (.bl false))) zA1)
   (zV (sIf (zDV (zBk (tst (zY zAg (zF (toD (fOp kIx (zE 3) (fC (.int 1)))) zL)))) (zDV (zBk (tst (zY zAg (zF (toD (fOp kIx (zE 3) (fC (.int 2)))) zL)))) (zBk (tst (zD6 kLe kLt (fC (.int 0)) (fOp kIx (zE 3) (fC (.int 2))) (fB zAx (zb (fOp kIx (zE 0) (fC (.int 0))) zq))))))) (zAC (fC (.bl false))) zA1) g) σ M) P:=by
 obtain ⟨t,e,q,_⟩:=hv.ty;have ret:∀ {g':FS},zCd zA.length l x=false->OkS (zAC (fC (.bl false)) σ M) (nxP (fun σ1 M1=>OkS (g' σ1 M1) P) P):=fun h=>zx (d:=.bl false) rfl (no h);cases x with
 |tup ds=>
  have hh:Vd M (.tup ds):=hv;unfold Vd at hh;have hl:=zCG (h3 M) (zAN (xs:=ds));have c1:zBk (tst (zEG "tuple" (zE 3))) σ M=some (false,M):=zBG (k:=true) (by rw[zBq (h3 M) e,q];rfl);have c2:=zAU (zS (k:=kNe) hl (g:=fC (.int 3)) (y:=.dat (.int 3)) rfl (zf (zQz.mpr ⟨rfl,rfl⟩)));by_cases h3':(ds.length:Int)=3
  ·rw[zXJ (by omega)]at c2;match ds,h3',hh with
   |[x,y,z],_,hh=>
    have ix:∀ (k:Int) (v:D),atI [x,y,z] k=some v->fOp kIx (zE 3) (fC (.int k)) σ M=some (.dat v,M):=fun k v hv=>zS (x:=.dat (.tup [x,y,z])) (y:=.dat (.int k)) (h3 M) rfl (zCA zAN hv);have vx:=hh.2.mem x (by simp);have vy:=hh.2.mem y (by simp);have vz:=hh.2.mem z (by simp);have e1:=zBG (zr (ze (h0 M) (zi (ix 0 x rfl))) (zRD (zA:=zA) vx));have e2:=zBG (zr (m:=zAg) (zi (ix 1 y rfl)) (zG3 vy));have e3:=zBG (zr (m:=zAg) (zi (ix 2 z rfl)) (zG3 vz));have tr:zCd zA.length l (.tup [x,y,z])=(zCc zA.length x&&(zC5 y&&zBX l z)):=rfl;cases p:zCc zA.length x with
    |false=>
     rw[p]at e1;exact zAP (zA6 c1 (zA6 c2 e1)) (ret (by rw[tr,p];rfl))
    |true=>
     rw[p]at e1;refine zA9 (zA6 c1 (zA6 c2 e1)) ?_;cases w1:zC5 y with
     |false=>
      rw[w1]at e2;exact zAP (zD1 e2) (ret (by rw[tr,p,w1];rfl))
     |true=>
      rw[w1]at e2;cases w2:zC5 z with
      |false=>
       rw[w2]at e3;refine zAP (zA6 e2 (zD1 e3)) (ret ?_);rw[tr,p,w1];cases z <;> first|rfl|cases w2
      |true=>
       rw[w2]at e3;cases z with
       |int i=>
        have e4:zD6 kLe kLt (fC (.int 0)) (fOp kIx (zE 3) (fC (.int 2))) (fB zAx (zb (fOp kIx (zE 0) (fC (.int 0))) zq)) σ M=some (.dat (.bl (zBX l (.int i))),M):=by
         refine zf (zLN.mpr (zDA.mpr (zK (ix 2 (.int i) rfl) (zVb.mpr (zEP.mpr ?_)))));by_cases h0':0<=i
         ·rw[zXs h0',zWz rfl];refine zK (zET m (h0 M)) (zRu.mpr ⟨?_,rfl⟩);simp[zBX,h0']
         ·rw[zXJ h0',zW2 (by decide)];exact ⟨by simp[zBX,h0'],rfl⟩
        have e5:=zBG e4;cases b:zBX l (.int i) with
        |false=>
         rw[b]at e5;exact zAP (zA6 e2 (zA6 e3 e5)) (ret (by rw[tr,p,w1,b];rfl))
        |true=>
         rw[b]at e5;exact zA9 (zA6 e2 (zA6 e3 e5)) (yes (by rw[tr,p,w1,b];rfl))
       |_=>cases w2
  ·rw[zXs h3']at c2;refine zAP (zA6 c1 (zD1 c2)) (ret ?_);cases hp:zCd zA.length l (.tup ds) with
   |false=>rfl
   |true=>
    obtain ⟨a,b,k,x,hab,_⟩:=zHw hp;cases hab;exact absurd rfl h3'
 |_=>exact zAP (zD1 (zBG (k:=false) (by rw[zBq (h3 M) e,q];rfl))) (ret rfl)
open Classical in
theorem zKr {zA:List (List Int)} {l:Nat} (m:IsM zA l) (hR:zA.length<=26) {d:D} {M:Mem} (wf:∀ (j:Nat) u,M[j]?=some u->MO.und M.length u=true) (hd:Vd M d) (hz:zL9 d<=2000) :
  zCx [mD zA,d] M=some (.bl (decide (ShL zA l d)),M):=by
 unfold zCx;refine zN3 wf rfl ?_;rw[zAS];unfold zFP;show OkS (zV _ _ [some (mD zA),some d,none,none,none,none,none,none] M) _;obtain ⟨t,e,q,_⟩:=hd.ty;cases d with
 |tup ds=>
  have hh:Vd M (.tup ds):=hd;unfold Vd at hh;have hz:ds.length<=2000:=hz;refine zA9 (zBG (k:=true) (by rw[zBq rfl e,q];rfl)) ?_;rw[zU,zm];refine zK (M:=M++[.dicT []]) (a:=.dat (.ref M.length)) rfl ?_;rw[zZ,zg];show OkS (zV _ _ [some (mD zA),some (.tup ds),some (.ref M.length),none,none,none,none,none] (M++[dT (([]:List Tp).map kq)])) _;rw[zU,zBV];refine ⟨_,_,_,zDu (xs:=ds) rfl,?_⟩;refine zBr (I:=fun r σ M'=>∃ (q:List Tp) (y:Option D),ds=q.map tD++r/\(∀ t∈q,Tok zA l t)/\(q.map (·.1)).Nodup/\σ=[some (mD zA),some (.tup ds),some (.ref M.length),y,none,none,none,none]/\M'=M++[dT (q.map kq)]) ?_ ?_ _ _ _ ⟨[],none,rfl,(fun _ h=>by cases h),.nil,rfl,rfl⟩
  ·rintro x r σ M' ⟨q,y,hq,qp,nd,rfl,rfl⟩;refine ⟨zA2,_,rfl,?_⟩;show OkS (zV _ _ [some (mD zA),some (.tup ds),some (.ref M.length),some x,none,none,none,none] (M++[dT (q.map kq)])) _;refine zM6 m (Vd.keep (Tk.app _ _) (hh.2.mem x (by rw[hq];simp))) (fun _=>rfl) (fun _=>rfl) (fun hx=>?_) (fun hx=>?_)
   ·obtain ⟨a,b,k,i,rfl,⟨a0,ab,bn⟩,i0,i1⟩:=zHw hx;have ht:Tok zA l ([a,b],k,i):=⟨zAv.mpr ⟨a,b,rfl,zAA.mpr ⟨a0,by omega⟩,zAA.mpr ⟨by omega,bn⟩,ab⟩,i0,i1⟩;have f0:fOp kIx (zE 3) (fC (.int 0)) [some (mD zA),some (.tup ds),some (.ref M.length),some (.tup [tI [a,b],.int k,.int i]),none,none,none,none] (M++[dT (q.map kq)])=some (.dat (tI [a,b]),M++[dT (q.map kq)]):=zS (x:=.dat (.tup [tI [a,b],.int k,.int i])) (y:=.dat (.int 0)) rfl rfl (zCA zAN rfl);have f1:fOp kIx (zE 3) (fC (.int 1)) [some (mD zA),some (.tup ds),some (.ref M.length),some (.tup [tI [a,b],.int k,.int i]),none,none,none,none] (M++[dT (q.map kq)])=some (.dat (.int k),M++[dT (q.map kq)]):=zS (x:=.dat (.tup [tI [a,b],.int k,.int i])) (y:=.dat (.int 1)) rfl rfl (zCA zAN rfl);have e2:=zAU (zS (k:=zCO false) (g:=zE 2) (y:=.dat (.ref M.length)) f0 rfl ((zLj (zAD _ _)).trans (by rw[zW2 (by decide)])));have hql:q.length<=2000:=by have:=congrArg List.length hq;simp at this;omega
    cases hk:(zR (q.map kq) [a,b]).isSome with
    |true=>
     rw[hk]at e2;refine zAP e2 (zx (d:=.bl false) rfl ⟨?_,_,rfl⟩);rw[zXJ];rintro ⟨ts,ep,_,nd2,_⟩;have hm:[a,b]∈q.map (·.1):=by have:=zCB.mp hk;rw[zGd]at this;exact this
     have hts:ts.map tD=(q++[([a,b],k,i)]).map tD++r:=by rw[<-D.tup.inj ep,hq];simp[tD]
     obtain ⟨ra,rb,hab,h1,h2⟩:=List.map_eq_append_iff.mp hts;have h1:=(List.map_inj_right fun a b e=>zQS e).mp h1;rw[hab,h1,zXc,zXc,zXy]at nd2;have:=(zXy.mp nd2.1).2.2 _ hm _ (by simp:[a,b]∈[([a,b],k,i)].map (·.1));exact this rfl
    |false=>
     rw[hk]at e2;refine zA9 e2 ?_;have hnew:[a,b]∉(q.map kq).map (·.1):=fun z=>by rw[zCB.mpr z]at hk;cases hk
     refine zMj (v:=.int k) (k:=tI [a,b]) (n:=M.length) f1 rfl f0 (zIc (T:=q.map kq) (zAD _ _) (by rw[zWt];omega)) ?_;refine ⟨q++[([a,b],k,i)],_,by rw[hq];simp[tD],fun t hp=>?_,?_,rfl,?_⟩
     ·rcases zXA.mp hp with z|z
      ·exact qp t z
      ·rw[zXC]at z;subst z;exact ht
     ·rw[zGd]at hnew;rw[zXc,zXy];refine ⟨nd,by simp,fun x hx y hy=>?_⟩;rw[List.map_singleton,zXC]at hy;subst hy;intro z;subst z;exact hnew hx
     ·rw[zGX hnew,List.set_append_right _ _ (zWq _)];simp[kq]
   ·refine ⟨?_,_,rfl⟩;rw[zXJ (zOR _)];cases hall:ds.all (zCd zA.length l) with
    |false=>rfl
    |true=>
     rw[zXL.mp hall x (by rw[hq];simp)]at hx;cases hx
  ·rintro σ M' ⟨ts,y,hq,hp,nd,rfl,rfl⟩;refine ⟨zA2,?_⟩;rw[zXU]at hq;subst hq;rw[zg];have us:∃ us,M++[dT (ts.map kq)]=M++us:=⟨_,rfl⟩;have e1:(M++[dT (ts.map kq)])[M.length]?=some (dT (ts.map kq)):=zAD _ _;generalize M++[dT (ts.map kq)]=M1 at e1 us ⊢;rw[zU,zBV];refine ⟨_,_,_,zDu (xs:=ts.map tD) rfl,?_⟩;refine zBr (I:=fun r σ M'=>∃ (dn re:List Tp) (y4 y5 y6 y7:Option D),ts=dn++re/\r=re.map tD/\(∀ t∈dn,zEj zA (ts.map kq) t=true)/\σ=[some (mD zA),some (.tup (ts.map tD)),some (.ref M.length),y,y4,y5,y6,y7]/\M'=M1) ?_ ?_ _ _ _ ⟨[],ts,none,none,none,none,rfl,rfl,(fun _ h=>by cases h),rfl,rfl⟩
   ·rintro x r σ M' ⟨dn,re,y4,y5,y6,y7,hd,hr,hc,rfl,rfl⟩;cases re with
    |nil=>cases hr
    |cons t r2=>
     obtain ⟨rfl,rfl⟩:=zXo hr;have htt:t∈ts:=by rw[hd];simp
     obtain ⟨p,k,x⟩:=t;obtain ⟨h1,x0,x1⟩:=hp _ htt;obtain ⟨a,b,hab,ha,hb,hlt⟩:=zAv.mp h1;have hab:p=[a,b]:=hab;subst hab;have ha:=zAA.mp ha;have hb:=zAA.mp hb;refine ⟨zA2,_,rfl,?_⟩;show OkS (zV _ _ [some (mD zA),some (.tup (ts.map tD)),some (.ref M.length),y,some (tI [a,b]),some (.int k),some (.int x),y7] M') _;refine zC3 (zr (ze (d:=mD zA) rfl (ze (d:=tI [a,b]) rfl (zi (d:=.int x) rfl))) (zJ5 m ha.1 ha.2 hb.1 hb.2 x0 x1)) ?_
     have dn':zEj zA (ts.map kq) ([a,b],k,x)=if (setR zA [a,b] x).length=1 then decide (k=1) else match zR (ts.map kq) (setR zA [a,b] x) with
       |some (.int i)=>decide (i=k-1)
       |_=>false:=rfl
     have s1:=zMe (zA:=zA) (a:=a) (b:=b) (x:=x);have s2:=zMl (zA:=zA) (a:=a) (b:=b) (x:=x);generalize zAt zA a x=u at s1 s2 ⊢;generalize zAt zA b x=v at s1 s2 ⊢;generalize setR zA [a,b] x=gg at s1 s2 dn';show OkS (zV _ _ [some (mD zA),some (.tup (ts.map tD)),some (.ref M.length),y,some (tI [a,b]),some (.int k),some (.int x),some (tI (zAI u v))] M') _;have i0:fOp kIx (zE 7) (fC (.int 0)) [some (mD zA),some (.tup (ts.map tD)),some (.ref M.length),y,some (tI [a,b]),some (.int k),some (.int x),some (tI (zAI u v))] M'=some (.dat (.int ((zAI u v).getD 0 0)),M'):=zS (x:=.dat (tI (zAI u v))) (y:=.dat (.int 0)) rfl rfl (zCA zAN rfl);have i1:fOp kIx (zE 7) (fC (.int 1)) [some (mD zA),some (.tup (ts.map tD)),some (.ref M.length),y,some (tI [a,b]),some (.int k),some (.int x),some (tI (zAI u v))] M'=some (.dat (.int ((zAI u v).getD 1 0)),M'):=zS (x:=.dat (tI (zAI u v))) (y:=.dat (.int 1)) rfl rfl (zCA zAN rfl);have t1:=zAU (zS (k:=kEq) i0 i1 eqE);have t2:=zAU (zS (k:=kLt) i0 i1 (zf (zRu.mpr ⟨rfl,rfl⟩)));have t3:tst (fOp kNe (zE 5) (fC (.int 1))) [some (mD zA),some (.tup (ts.map tD)),some (.ref M.length),y,some (tI [a,b]),some (.int k),some (.int x),some (tI (zAI u v))] M'=some (decide (k≠1),M'):=zAU (zS (x:=.dat (.int k)) (y:=.dat (.int 1)) rfl rfl (zf (zQz.mpr ⟨rfl,rfl⟩)));have next:zEj zA (ts.map kq) ([a,b],k,x)=true -> ∃ (dn re:List Tp) (y4 y5 y6 y7:Option D),ts=dn++re/\r2.map tD=re.map tD/\(∀ t∈dn,zEj zA (ts.map kq) t=true)/\[some (mD zA),some (.tup (ts.map tD)),some (.ref M.length),y,some (tI [a,b]),some (.int k),some (.int x),some (tI (zAI u v))]=[some (mD zA),some (.tup (ts.map tD)),some (.ref M.length),y,y4,y5,y6,y7]/\M'=M':=fun h=>⟨dn++[([a,b],k,x)],r2,_,_,_,_,by rw[hd];simp,rfl,fun t ht=>by
      rcases zXA.mp ht with z|z
      ·exact hc t z
      ·rw[zXC]at z;subst z;exact h,rfl,rfl⟩
     have bad:zEj zA (ts.map kq) ([a,b],k,x)=false->decide (ShL zA l (.tup (ts.map tD)))=false:=fun h=>zXJ fun z=>by
      rw[((zIN hp).mp z).2 _ htt]at h;cases h
     by_cases huv:u=v
     ·have g1:gg.length=1:=by rw[s1 huv];rfl
      rw[zWz g1]at dn';have e0:(zAI u v).getD 0 0=(zAI u v).getD 1 0:=by rw[huv];unfold zAI;simp
      rw[zXs e0]at t1;rw[zXJ (by omega)]at t2;by_cases hk1:k=1
      ·rw[zXJ (by simp[hk1])]at t3;refine zA9 (zEJ t1 t3) (zDX (zFX t2) (next ?_));rw[dn',zXs hk1]
      ·rw[zXs hk1]at t3;refine zAP (zEJ t1 t3) (zx (d:=.bl false) rfl ⟨?_,us⟩);rw[bad (by rw[dn',zXJ hk1])]
     ·have hlt':=zR0.mpr huv;rw[zXJ (by omega)]at t1;rw[zXs hlt']at t2;refine zA9 (zFX t1) ?_;have g2:gg=zAI u v:=s2 huv;have gl:gg.length≠1:=by rw[g2];unfold zAI;simp
      rw[zW2 gl,g2]at dn';have t4:=zAU (zS (k:=zCO true) (f:=zE 7) (g:=zE 2) (σ:=[some (mD zA),some (.tup (ts.map tD)),some (.ref M.length),y,some (tI [a,b]),some (.int k),some (.int x),some (tI (zAI u v))]) (M:=M') (x:=.dat (tI (zAI u v))) (y:=.dat (.ref M.length)) rfl rfl ((zLj e1).trans (by rw[zWz rfl])));cases hlk:zR (ts.map kq) (zAI u v) with
      |none=>
       rw[hlk]at t4 dn';rw[zBO];refine zK (zEJ t2 (zD1 t4)) ?_;refine zx (d:=.bl false) rfl ⟨?_,us⟩;rw[bad dn']
      |some d=>
       obtain ⟨s,_,_,rfl⟩:=zHs hlk;rw[hlk]at t4 dn';have t5:tst (fOp kNe (fOp zBI (zE 2) (zE 7)) (fOp zH8 (zE 5) (fC (.int 1)))) [some (mD zA),some (.tup (ts.map tD)),some (.ref M.length),y,some (tI [a,b]),some (.int k),some (.int x),some (tI (zAI u v))] M'=some (decide (s.2.1≠k-1),M'):=zAU (zS (x:=.dat (.int s.2.1)) (y:=.dat (.int (k-1))) (zS (x:=.dat (.ref M.length)) (y:=.dat (tI (zAI u v))) rfl rfl (zHX e1 hlk)) (zS (x:=.dat (.int k)) (y:=.dat (.int 1)) rfl rfl zTT) (zf (zQz.mpr ⟨rfl,rfl⟩)));by_cases hs:s.2.1=k-1
       ·rw[zXJ (by simp[hs])]at t5;refine zDX (zEJ t2 (zA6 t4 t5)) (next ?_);rw[dn'];exact zXs hs
       ·rw[zXs hs]at t5;rw[zBO];refine zK (zEJ t2 (zA6 t4 t5)) ?_;refine zx (d:=.bl false) rfl ⟨?_,us⟩;rw[bad (dn'.trans (zXJ hs))]
   ·rintro σ M' ⟨dn,re,y4,y5,y6,y7,hd,hr,hc,rfl,rfl⟩;refine ⟨zA2,?_⟩
    have hre:re=[]:=by cases re with
     |nil=>rfl
     |cons _ _=>cases hr
    subst hre;rw[zXU]at hd;subst hd;rw[zg];refine zx (d:=.bl true) rfl ⟨?_,us⟩;rw[zXs ((zIN hp).mpr ⟨nd,hc⟩)]
 |_=>
  refine zAP (zBG (k:=false) (by rw[zBq rfl e,q];rfl)) (zx (d:=.bl false) rfl ⟨?_,[],by simp⟩);rw[zXJ];rintro ⟨ps,z,_⟩;cases z
theorem zMA {zA:List (List Int)} {l:Nat} (m:IsM zA l) (hR:zA.length<=26) {d:D} {M:Mem} (wf:∀ (j:Nat) u,M[j]?=some u->MO.und M.length u=true) (hd:Vd M d) (hz:zL9 d<=2000):zCI [mD zA,d] M=some (.bl true,M):=by
 refine zf ?_;unfold zCI;rw[zAS];unfold zE5;show OkS (zV _ _ [some (mD zA),some d,none] M) _;have e1:=zEn m hR wf hd hz;have e2:=zKr m hR wf hd hz;generalize (@decide (ShL zA l d) (Classical.propDecidable _))=b at e1 e2;refine zC3 (zr (ze (d:=mD zA) rfl (zi (d:=d) rfl)) e1) ?_;exact zx (d:=.bl true) ((zCD (a:=true) (b:=true) ((zBq (T := "bool") (f:=zE 2) rfl rfl).trans rfl) fun _=>zS (x:=.dat (.bl b)) (y:=.dat (.bl b)) rfl (zr (ze (d:=mD zA) rfl (zi (d:=d) rfl)) e2) (zQi rfl)).trans rfl) ⟨rfl,rfl⟩
def zF1:FS:=(zV (zAM 2 (zY zCz (zF (toD (zJt (fB zAx (zb (zE 1) zq)))) zL)))
  (zV (zAM 3 (zY zBT (zF (toD (zE 0)) (zF (toD (fB zAx (zb (zE 2) zq))) zL))))
  (zV (zAM 4 zH9)
  (zV (zAM 5 (zAk zL))
  (zV (zC2 (zAc (zF (toD (fC (.int 3))) zL)) (gN 6) (zC2 (zBA (zE 3)) (gN 7) (zV (zAM 8 (fOp kIx (zE 2) (zE 7)))
  (zV (zAM 9 (zAk zL))
  (zV (zC2 (zAc (zF (toD (fB zAx (zb (fOp kIx (zE 1) (fC (.int 0))) zq))) zL)) (gN 10) (zV (zAM 11 (zY zBU (zF (toD (zE 1)) (zF (toD (zE 8)) (zF (toD (zE 10)) zL)))))
  (sIf (tst (fOp kEq (fOp kIx (zE 11) (fC (.int 0))) (fOp kIx (zE 11) (fC (.int 1))))) (zBm (fM zA7 (zE 9) (zF (toD (zAV (zF (toD (fC (.int 1))) (zF (toD (zE 10)) zL)))) zL))) (sIf (tst (fOp (zCO false) (zE 11) (zE 4))) (zBm (fM zA7 (zE 9) (zF (toD (zAV (zF (toD (fOp zAZ (fOp zBI (zE 4) (zE 11)) (fC (.int 1)))) (zF (toD (zE 10)) zL)))) zL))) zA1))))
  (sIf (zBh (tst (fOp (zCO true) (zE 8) (zE 4))) (zBh (tst (fOp kNe (zE 9) (zAk zL))) (tst (fOp kGt (zY zd (zF (toD (zE 0)) (zF (toD (fC (.int 5))) zL))) (fC (.int 0)))))) (zV (zKy (zFw 12 10) (fOp kIx (zE 9) (zY zd (zF (toD (zE 0)) (zF (toD (fB zAx (zb (zE 9) zq))) zL)))))
  (zV (zC7 (zE 12) (zE 4) (zE 8))
  (zBm (fM zDq (zE 5) (zF (toD (zY zd (zF (toD (zE 0)) (zF (toD (fOp zAZ (fB zAx (zb (zE 5) zq)) (fC (.int 1)))) zL)))) (zF (toD (zAV (zF (toD (zE 8)) (zF (toD (zE 12)) (zF (toD (zE 10)) zL))))) zL)))))) zA1))))))
  (zAC (zE 5)))))))
def zDP:FF:=zBc 13 zF1
def zHM:FS:=(zV (zKy (zIP 3 4 5) (zE 2))
  (zV (zKy (zFw 6 7) (zE 3))
  (zV (zAM 8 (zAk (zF (toD (zAV (zF (toD (zE 7)) (zF (toD (zE 6)) zL)))) (zF (toD (zAV (zF (toD (zE 6)) (zF (toD (zE 6)) zL)))) (zF (toD (zAk (zF (toD (zE 6)) (zF (toD (zE 7)) zL)))) (zF (toD (zAV (zF (toD (zE 6)) zL))) (zF (toD (zAV (zF (toD (zE 6)) (zF (toD (zE 7)) (zF (toD (zE 7)) zL))))) (zF (toD (zAV (zF (toD (zE 6)) (zF (toD (fB zAx (zb (zE 1) zq))) zL)))) (zF (toD (zAV (zF (toD (zRz (fC (.int 1)))) (zF (toD (zE 7)) zL)))) zL)))))))))
  (zV (zAM 8 (fOp zDO (zE 8) (zAk (zF (toD (zAV (zF (toD (zE 6)) (zF (toD (fB zNf (zb (zE 7) zq))) zL)))) (zF (toD (fC .non)) (zF (toD (zE 6)) (zF (toD (zAV zL)) (zF (toD (zAV (zF (toD (fC (.bl false))) (zF (toD (zE 7)) zL)))) (zF (toD (zAV (zF (toD (zE 6)) (zF (toD (fC (.bl true))) zL)))) zL)))))))))
  (zV (zAM 9 (zAk (zF (toD (fOp zAZ (zE 4) (fC (.int 1)))) (zF (toD (fOp zH8 (zE 4) (fC (.int 1)))) (zF (toD (fC (.int 0))) (zF (toD (zRz (fC (.int 1)))) (zF (toD (fC (.bl true))) (zF (toD (fC .non)) (zF (toD (fB zNf (zb (zE 4) zq))) (zF (toD (zAV (zF (toD (zE 4)) zL))) (zF (toD (fOp zLr (fC (.int 10)) (fC (.int 40)))) (zF (toD (fOp zAZ (zE 4) (fC (.int 2)))) zL))))))))))))
  (zV (zAM 10 (zAk (zF (toD (fB zAx (zb (fOp kIx (zE 1) (fC (.int 0))) zq))) (zF (toD (zRz (fC (.int 1)))) (zF (toD (fC (.bl true))) (zF (toD (fC (.bl false))) (zF (toD (fC .non)) (zF (toD (fC (.str "a"))) (zF (toD (zAV (zF (toD (zE 5)) zL))) (zF (toD (fOp zGb (fOp zAZ (zE 5) (fC (.int 1))) (fB zAx (zb (fOp kIx (zE 1) (fC (.int 0))) zq)))) (zF (toD (fOp zLr (fC (.int 10)) (fC (.int 30)))) zL)))))))))))
  (zV (zAM 11 (zAk (zF (toD (fB zHb (zb (zE 2) zq))) (zF (toD (fSl (zE 2) zCL (zB3 (fC (.int 2))))) (zF (toD (fOp zAZ (zE 2) (zAV (zF (toD (fC (.int 0))) zL)))) (zF (toD (zAV (zF (toD (zE 4)) (zF (toD (zE 3)) (zF (toD (zE 5)) zL))))) (zF (toD (fC .non)) (zF (toD (fC (.int 0))) (zF (toD (fC (.str ""))) (zF (toD (zAV zL)) (zF (toD (zE 3)) zL)))))))))))
  (zV (zAM 12 (zY zd (zF (toD (zE 0)) (zF (toD (fC (.int 4))) zL))))
  (zV (sIf (tst (fOp kEq (zE 12) (fC (.int 0)))) (zAC (zAV (zF (toD (fOp kIx (zE 8) (zY zd (zF (toD (zE 0)) (zF (toD (fB zAx (zb (zE 8) zq))) zL))))) (zF (toD (zE 4)) (zF (toD (zE 5)) zL))))) zA1)
  (zV (sIf (tst (fOp kEq (zE 12) (fC (.int 1)))) (zAC (zAV (zF (toD (zE 3)) (zF (toD (fOp kIx (zE 9) (zY zd (zF (toD (zE 0)) (zF (toD (fB zAx (zb (zE 9) zq))) zL))))) (zF (toD (zE 5)) zL))))) zA1)
  (zV (sIf (tst (fOp kEq (zE 12) (fC (.int 2)))) (zAC (zAV (zF (toD (zE 3)) (zF (toD (zE 4)) (zF (toD (fOp kIx (zE 10) (zY zd (zF (toD (zE 0)) (zF (toD (fB zAx (zb (zE 10) zq))) zL))))) zL))))) zA1)
  (zAC (fOp kIx (zE 11) (zY zd (zF (toD (zE 0)) (zF (toD (fB zAx (zb (zE 11) zq))) zL))))))))))))))))
def zDM:FF:=zBc 13 zHM
def zEZ:FS:=(zV (zAM 3 (zY zd (zF (toD (zE 0)) (zF (toD (fB zAx (zb (zE 2) zq))) zL))))
  (zV (zAM 4 (zY zd (zF (toD (zE 0)) (zF (toD (fC (.int 6))) zL))))
  (zV (sIf (tst (fOp kEq (zE 4) (fC (.int 0)))) (zAC (fB zB5 (zb (fOp zDO (fSl (zE 2) zCL (zB3 (zE 3))) (fSl (zE 2) (zB3 (fOp zAZ (zE 3) (fC (.int 1)))) zCL)) zq))) zA1)
  (zV (sIf (tst (fOp kEq (zE 4) (fC (.int 1)))) (zAC (fB zB5 (zb (fOp zDO (zE 2) (zAk (zF (toD (fOp kIx (zE 2) (zE 3))) zL))) zq))) zA1)
  (zV (sIf (tst (fOp kEq (zE 4) (fC (.int 2)))) (zAC (fB zHb (zb (zE 2) zq))) zA1)
  (zAC (fB zB5 (zb (fOp zDO (fOp zDO (fSl (zE 2) zCL (zB3 (zE 3))) (zAk (zF (toD (zY zDM (zF (toD (zE 0)) (zF (toD (zE 1)) (zF (toD (fOp kIx (zE 2) (zE 3))) zL))))) zL))) (fSl (zE 2) (zB3 (fOp zAZ (zE 3) (fC (.int 1)))) zCL)) zq))))))))
def zCa:FF:=zBc 5 zEZ
def zQu:FS:=(zV (zAM 1 (zY zCJ (zF (toD (zE 0)) zL)))
  (zV (zAM 2 (zY zBi (zF (toD (zE 1)) (zF (toD (fOp zAZ (fC (.int 2)) (zY zd (zF (toD (zE 1)) (zF (toD (fC (.int 25))) zL))))) (zF (toD (fOp zAZ (fC (.int 1)) (zY zd (zF (toD (zE 1)) (zF (toD (fC (.int 6))) zL))))) zL)))))
  (zV (zC2 (zBA (zAk (zF (toD (fC .non)) (zF (toD (fC (.int 0))) (zF (toD (fC (.int 1))) (zF (toD (fC (.bl true))) (zF (toD (fC (.str ""))) (zF (toD (fC (.str "told"))) (zF (toD (zAk zL)) (zF (toD (zAV zL)) (zF (toD zIZ) (zF (toD (zAV (zF (toD (zAV zL)) zL))) (zF (toD (zAV (zF (toD (fC .non)) zL))) (zF (toD (zAV (zF (toD (zAV (zF (toD (fC (.int 0))) (zF (toD (fC (.int 1))) zL)))) zL))) (zF (toD (zAV (zF (toD (fC (.int 0))) (zF (toD (fC (.int 1))) (zF (toD (fC (.int 0))) zL))))) (zF (toD (zAk (zF (toD (zAV (zF (toD (zAV (zF (toD (fC (.int 0))) (zF (toD (fC (.int 1))) zL)))) (zF (toD (fC (.int 1))) (zF (toD (fC (.int 0))) zL))))) zL))) zL)))))))))))))))) (gN 3) (sIf (zBk (tst (zY zCI (zF (toD (zE 2)) (zF (toD (zE 3)) zL))))) (zAC (fC (.bl false))) zA1))
  (zV (zAM 4 (zY zE2 (zF (toD (zE 2)) zL)))
  (zV (zC2 (zAc (zF (toD (fOp zAZ (fC (.int 3)) (fB zAx (zb (fSl (zE 0) zCL (zB3 (fC (.int 8)))) zq)))) zL)) (gN 5) (zV (zAM 6 (fB zHb (zb (zE 4) zq)))
  (zV (sIf (tst (fOp kEq (zY zd (zF (toD (zE 1)) (zF (toD (fC (.int 2))) zL))) (fC (.int 0)))) (zAM 6 (zY zDP (zF (toD (zE 1)) (zF (toD (zE 2)) zL)))) zA1)
  (zV (zAM 7 (fB zB5 (zb (zE 6) zq)))
  (zV (sIf (zBh (tst (fOp kNe (zE 6) (zAk zL))) (tst (fOp kGt (zY zd (zF (toD (zE 1)) (zF (toD (fC (.int 3))) zL))) (fC (.int 0))))) (zAM 7 (zY zCa (zF (toD (zE 1)) (zF (toD (zE 2)) (zF (toD (zE 6)) zL))))) zA1)
  (sIf (zBk (tst (zY zCI (zF (toD (zE 2)) (zF (toD (zE 7)) zL))))) (zAC (fC (.bl false))) zA1))))))
  (zAC (fOp (kIs false) (zY zBP (zF (toD (zE 2)) (zF (toD (zE 4)) zL))) (fC (.bl true)))))))))
def zHa:FF:=zBc 8 zQu
def Tbd (zA:List (List Int)) (l:Nat) (t:Tp):Prop:=Tok zA l t/\1<=t.2.1/\t.2.1<=677
theorem zU6 (n:Nat) (t:Tp):D.und n (tD t)=true:=by
 unfold tD D.und D.unds D.unds D.unds D.unds;rw[show D.und n (tI t.1)=true from zB9 _];rfl
theorem zHr (n:Nat) (ts:List Tp):D.unds n (ts.map tD)=true:=by
 induction ts with
 |nil=>unfold D.unds;rfl
 |cons t r ih=>
  rw[zW3];unfold D.unds;rw[ih,zU6];rfl
theorem zVM {M:Mem} {zA:List (List Int)} {l:Nat} {t:Tp} (h:Tok zA l t):Vd M (tD t):=by
 obtain ⟨a,b,hab,_⟩:=zAv.mp h.1;refine zEk (by simp) fun d hd=>?_;simp only[zWw,zXF,zX5]at hd;rcases hd with rfl|rfl|rfl
 ·rw[hab];exact zHu (c:=[a,b]) (by simp)
 ·exact zM7 _
 ·exact zM7 _
theorem zNK {M:Mem} {zA:List (List Int)} {l:Nat} {ts:List Tp} (h:∀ t∈ts,Tbd zA l t):∀ d∈ts.map tD,Vd M d:=fun d hd=>by
 obtain ⟨t,ht,rfl⟩:=zW1.mp hd;exact zVM (h t ht).1
structure Kv (zA:List (List Int)) (T:List (List Int × D)):Prop where
 nd:(T.map (·.1)).Nodup
 pr:∀ p∈T.map (·.1),p∈zo (za zA)
 vl:∀ q∈T,∃ k:Int,q.2=.int k/\1<=k/\k<=T.length
theorem Kv.len {zA:List (List Int)} {T:List (List Int × D)} (h:Kv zA T) (hR:zA.length<=26):T.length<=676:=by
 have:=zFf _ _ h.nd h.pr;rw[zWt]at this;exact zXB this (zFc hR)
theorem Kv.und {zA:List (List Int)} {T:List (List Int × D)} (h:Kv zA T) (n:Nat):MO.und n (dT T)=true:=by
 show ((zGo T).all fun p=>D.und n p.1&&D.und n p.2)=true;rw[zXL];intro p hp;obtain ⟨q,hq,rfl⟩:=zW1.mp hp;obtain ⟨k,hk,_⟩:=h.vl q hq;show (D.und n (tI q.1)&&D.und n q.2)=true;rw[hk,show D.und n (tI q.1)=true from zB9 _];rfl
theorem Kv.add {zA:List (List Int)} {T:List (List Int × D)} (h:Kv zA T) {p:List Int} (hp:p∈zo (za zA)) (hn:p∉T.map (·.1)) {k:Int} (k1:1<=k) (k2:k<=T.length+1):Kv zA (T++[(p,.int k)]):=by
 refine ⟨?_,fun q hq=>?_,fun q hq=>?_⟩
 ·rw[zXc,zXy];exact ⟨h.nd,by simp,fun x hx y hy=>by rw[List.map_singleton,zXC]at hy;subst hy;intro w;subst w;exact hn hx⟩
 ·rw[zXc]at hq;rcases zXA.mp hq with z|z
  ·exact h.pr q z
  ·rw[List.map_singleton,zXC]at z;subst z;exact hp
 ·rcases zXA.mp hq with z|z
  ·obtain ⟨i,h1,h2,h3⟩:=h.vl q z;exact ⟨i,h1,h2,by simp;omega⟩
  ·rw[zXC]at z;subst z;exact ⟨k,rfl,k1,by simp;omega⟩
theorem zRW {T:List (List Int × D)} {p:List Int} {d:D}:zR T p=some d -> ∃ q∈T,q.1=p/\q.2=d:=by
 induction T with
 |nil=>intro h;cases h
 |cons q r ih=>
  intro h;unfold zR at h;by_cases z:q.1=p
  ·rw[zWz z]at h;cases h;exact ⟨q,zWy,z,rfl⟩
  ·rw[zW2 z]at h;obtain ⟨s,h1,h2⟩:=ih h;exact ⟨s,zWx _ h1,h2⟩
structure Md (zA:List (List Int)) (l:Nat) (M:Mem) (c:List Int) (jP jO jK jR:Nat) (T:List (List Int × D)) (ts:List Tp) (A:Mem):Prop where
 kv:Kv zA T
 ok:∀ t∈ts,Tbd zA l t
 ln:ts.length=T.length
 k:A[jK]?=some (dT T)
 r:A[jR]?=some (.lst (ts.map tD))
 p:A[jP]?=some (.lst ((zo (za zA)).map tI))
 o:A[jO]?=some (.lst (c.map D.int))
 nw:Nw M A 2 1
section
variable {zA:List (List Int)} {l:Nat} {M:Mem} {c:List Int} {jP jO jK jR:Nat} {T:List (List Int × D)} {ts:List Tp} {A:Mem}
theorem Md.nx (h:Md zA l M c jP jO jK jR T ts A) {A':Mem} (x:Nx A A' 2 1) (hP:2<jP) (hO:2<jO) (hK:2<jK) (hR:2<jR):Md zA l M c jP jO jK jR T ts A' :=
 ⟨h.kv,h.ok,h.ln,(x.fr _ (by omega) (by omega)).trans h.k,(x.fr _ (by omega) (by omega)).trans h.r,(x.fr _ (by omega) (by omega)).trans h.p,(x.fr _ (by omega) (by omega)).trans h.o,h.nw.trans x.nw⟩
theorem Md.app (h:Md zA l M c jP jO jK jR T ts A) (xs:List D) (hx:D.unds A.length xs=true):Md zA l M c jP jO jK jR T ts (A++[.lst xs]):=by
 have up:∀ {j:Nat} {u:MO},A[j]?=some u->(A++[MO.lst xs])[j]?=some u:=fun {j u} e=>by rw[zWr (zWn.mp e).1];exact e
 exact ⟨h.kv,h.ok,h.ln,up h.k,up h.r,up h.p,up h.o,h.nw.trans (h.nw.gen.lst xs hx)⟩
end
theorem zKh {a b:FT} {σ:Sd} {M M':Mem} {k:Bool} (ha:a σ M=some (true,M)) (hb:b σ M=some (k,M')):zBh a b σ M=some (k,M'):=by unfold zBh;rw[ha];exact hb
abbrev wD (w:Int × Int):D:=.tup [.int w.1,.int w.2]
theorem zRO (n:Nat) (ws:List (Int × Int)):D.unds n (ws.map wD)=true:=zDD fun d hd=>by
 obtain ⟨w,_,rfl⟩:=zW1.mp hd;simp[D.und,D.unds]
abbrev bS (zA:List (List Int)) (jP jO jK jR:Nat) (r:Sd):Sd:=some (.ref 2)::some (mD zA)::some (.ref jP)::some (.ref jO)::some (.ref jK)::some (.ref jR)::r
theorem zSp {zA:List (List Int)} {l:Nat} (m:IsM zA l) (hR:zA.length<=26) (hl:l<=12) {M:Mem} (g:Gen M 2 1) {c:List Int} {jP jO jK jR:Nat} (hP:M.length<jP) (hO:jP<jO) (hK:jO<jK) (hR':jK<jR) {T:List (List Int × D)} {ts:List Tp} {A:Mem} (h:Md zA l M c jP jO jK jR T ts A) {x:Int} (x0:0<=x) (x1:x<(zo (za zA)).length) {y6 y8 y9 y10 y11 y12:Option D} {P:Out->Sd->Mem->Prop}
  (q:∀ T' ts' A' y8 y9 y10 y11 y12,Md zA l M c jP jO jK jR T' ts' A'->P .nx (bS zA jP jO jK jR [y6,some (.int x),y8,y9,y10,y11,y12]) A') :
  OkS ((zV (zAM 8 (fOp kIx (zE 2) (zE 7))) (zV (zAM 9 (zAk zL)) (zV (zC2 (zAc (zF (toD (fB zAx (zb (fOp kIx (zE 1) (fC (.int 0))) zq))) zL)) (gN 10) (zV (zAM 11 (zY zBU (zF (toD (zE 1)) (zF (toD (zE 8)) (zF (toD (zE 10)) zL))))) (sIf (tst (fOp kEq (fOp kIx (zE 11) (fC (.int 0))) (fOp kIx (zE 11) (fC (.int 1))))) (zBm (fM zA7 (zE 9) (zF (toD (zAV (zF (toD (fC (.int 1))) (zF (toD (zE 10)) zL)))) zL))) (sIf (tst (fOp (zCO false) (zE 11) (zE 4))) (zBm (fM zA7 (zE 9) (zF (toD (zAV (zF (toD (fOp zAZ (fOp zBI (zE 4) (zE 11)) (fC (.int 1)))) (zF (toD (zE 10)) zL)))) zL))) zA1)))) (sIf (zBh (tst (fOp (zCO true) (zE 8) (zE 4))) (zBh (tst (fOp kNe (zE 9) (zAk zL))) (tst (fOp kGt (zY zd (zF (toD (zE 0)) (zF (toD (fC (.int 5))) zL))) (fC (.int 0)))))) (zV (zKy (zFw 12 10) (fOp kIx (zE 9) (zY zd (zF (toD (zE 0)) (zF (toD (fB zAx (zb (zE 9) zq))) zL))))) (zV (zC7 (zE 12) (zE 4) (zE 8)) (zBm (fM zDq (zE 5) (zF (toD (zY zd (zF (toD (zE 0)) (zF (toD (fOp zAZ (fB zAx (zb (zE 5) zq)) (fC (.int 1)))) zL)))) (zF (toD (zAV (zF (toD (zE 8)) (zF (toD (zE 12)) (zF (toD (zE 10)) zL))))) zL)))))) zA1)))) (bS zA jP jO jK jR [y6,some (.int x),y8,y9,y10,y11,y12]) A) P:=by
 obtain ⟨hn,hk⟩:=g.lt;have hxl:x.toNat<(zo (za zA)).length:=by omega
 have hTl:=h.kv.len hR;refine zC3 (zS (x:=.dat (.ref jP)) (y:=.dat (.int x)) rfl rfl (zCA (d:=tI (zo (za zA))[x.toNat]) (zAJ h.p) (zHK x0 (by rw[zW7,zWo hxl];rfl)))) ?_;have hpm:=zXI hxl;generalize (zo (za zA))[x.toNat]=p at hpm;obtain ⟨a,b,hab,ha,hb,hlt⟩:=zAv.mp hpm;subst hab;have ha:=zAA.mp ha;have hb:=zAA.mp hb;show OkS (zV _ _ (bS zA jP jO jK jR [y6,some (.int x),some (tI [a,b]),y9,y10,y11,y12]) A) _;rw[zU,zm];refine zK (M:=A) (a:=.fl []) (zFj rfl (by simp)) (zAG ?_);rw[zg];show OkS (zV _ _ (bS zA jP jO jK jR [y6,some (.int x),some (tI [a,b]),some (.ref A.length),y10,y11,y12]) (A++[.lst []])) _;rw[zU,zBV];refine ⟨_,_,_,zBs (zET m rfl) (by omega) (by omega),?_⟩;refine zGA (n:=((l:Int)).toNat) (I:=fun i σ A'=>∃ (ws:List (Int × Int)) (y10 y11:Option D),(∀ w∈ws,(1<=w.1/\w.1<=T.length+1)/\0<=w.2/\w.2<(l:Int))/\ws.length<=i/\A'=A++[.lst (ws.map wD)]/\σ=(bS zA jP jO jK jR [y6,some (.int x),some (tI [a,b]),some (.ref A.length),y10,y11,y12])) ?_ ?_ _ _ ⟨[],y10,y11,(fun _ h=>by cases h),zWq _,rfl,rfl⟩
 ·rintro i σ A' hi ⟨ws,y10,y11,hws,hwl,rfl,rfl⟩;refine ⟨_,rfl,?_⟩;have hA:=h.app (ws.map wD) (zRO _ _);have eW:(A++[MO.lst (ws.map wD)])[A.length]?=some (.lst (ws.map wD)):=zAD _ _;show OkS (zV _ _ (bS zA jP jO jK jR [y6,some (.int x),some (tI [a,b]),some (.ref A.length),some (.int (i:Int)),y11,y12]) (A++[.lst (ws.map wD)])) _;refine zC3 (zr (ze (d:=mD zA) rfl (ze (d:=tI [a,b]) rfl (zi (d:=.int (i:Int)) rfl))) (zJ5 m ha.1 ha.2 hb.1 hb.2 (by omega) (by omega))) ?_;generalize zAt zA a i=u;generalize zAt zA b i=v;show OkS (sIf _ _ _ (bS zA jP jO jK jR [y6,some (.int x),some (tI [a,b]),some (.ref A.length),some (.int (i:Int)),some (tI (zAI u v)),y12]) (A++[.lst (ws.map wD)])) _;have add:∀ (w:Int × Int) {f:FE} {Q:Out->Sd->Mem->Prop},f (bS zA jP jO jK jR [y6,some (.int x),some (tI [a,b]),some (.ref A.length),some (.int (i:Int)),some (tI (zAI u v)),y12]) (A++[.lst (ws.map wD)])=some (.dat (wD w),A++[.lst (ws.map wD)])->Q .nx (bS zA jP jO jK jR [y6,some (.int x),some (tI [a,b]),some (.ref A.length),some (.int (i:Int)),some (tI (zAI u v)),y12]) (A++[.lst ((ws++[w]).map wD)])->OkS (zBm (fM zA7 (zE 9) (zF (toD f) zL)) (bS zA jP jO jK jR [y6,some (.int x),some (tI [a,b]),some (.ref A.length),some (.int (i:Int)),some (tI (zAI u v)),y12]) (A++[.lst (ws.map wD)])) Q:=fun w {f Q} e z=>by
   rw[zDN];refine zNs.mpr (zK (a:=.dat (.ref A.length)) (M:=A++[.lst (ws.map wD)]) rfl ⟨⟨_,zBl eW⟩,zK (zi e) ((zH5 eW (by rw[zWt];exact zW9 (show ws.length<1000 by omega) (zAY (by omega)))).mpr ?_)⟩);have hs:(A++[MO.lst (ws.map wD)]).set A.length (.lst (ws.map wD++[wD w]))=A++[MO.lst ((ws++[w]).map wD)]:=by rw[List.set_append_right _ _ (zWq _)];simp
   rw[hs];exact z
  have mem:∀ {w:Int × Int},(1<=w.1/\w.1<=T.length+1)/\0<=w.2/\w.2<(l:Int) -> ∀ w'∈ws++[w],(1<=w'.1/\w'.1<=T.length+1)/\0<=w'.2/\w'.2<(l:Int):=fun {w} hw w' hw'=>by
   rcases zXA.mp hw' with z|z
   ·exact hws w' z
   ·rw[zXC]at z;subst z;exact hw
  have t1:=zAU (zS (k:=kEq) (f:=fOp kIx (zE 11) (fC (.int 0))) (g:=fOp kIx (zE 11) (fC (.int 1))) (σ:=(bS zA jP jO jK jR [y6,some (.int x),some (tI [a,b]),some (.ref A.length),some (.int (i:Int)),some (tI (zAI u v)),y12])) (M:=A++[.lst (ws.map wD)]) (x:=.dat (.int ((zAI u v).getD 0 0))) (y:=.dat (.int ((zAI u v).getD 1 0))) (zS (x:=.dat (tI (zAI u v))) (y:=.dat (.int 0)) rfl rfl (zCA zAN rfl)) (zS (x:=.dat (tI (zAI u v))) (y:=.dat (.int 1)) rfl rfl (zCA zAN rfl)) eqE);rw[zBO];refine zK t1 ?_;by_cases he:(zAI u v).getD 0 0=(zAI u v).getD 1 0
  ·rw[zXs he,zWz rfl];exact add (1,(i:Int)) (zB1 (ze (d:=.int 1) rfl (zi (d:=.int (i:Int)) rfl)) (by simp)) ⟨ws++[(1,(i:Int))],_,_,mem ⟨⟨by simp,by simp;omega⟩,by simp,by simp;omega⟩,by simp;omega,rfl,rfl⟩
  ·rw[zXJ he,zW2 (by decide),zBO];have t2:=zAU (zS (k:=zCO false) (f:=zE 11) (g:=zE 4) (σ:=(bS zA jP jO jK jR [y6,some (.int x),some (tI [a,b]),some (.ref A.length),some (.int (i:Int)),some (tI (zAI u v)),y12])) (M:=A++[.lst (ws.map wD)]) (x:=.dat (tI (zAI u v))) (y:=.dat (.ref jK)) rfl rfl ((zLj hA.k).trans (by rw[zW2 (by decide)])));refine zK t2 ?_;cases hlk:zR T (zAI u v) with
   |none=>
    show OkS (zA1 _ _) _;rw[zBK];exact ⟨ws,_,_,hws,by omega,rfl,rfl⟩
   |some d=>
    obtain ⟨q,hq,_,hd⟩:=zRW hlk;obtain ⟨k,hk',k1,k2⟩:=h.kv.vl q hq;rw[hk']at hd;subst hd;exact add (k+1,(i:Int)) (zB1 (ze (d:=.int (k+1)) (zS (x:=.dat (.int k)) (y:=.dat (.int 1)) (zS (x:=.dat (.ref jK)) (y:=.dat (tI (zAI u v))) rfl rfl (zHX hA.k hlk)) rfl rfl) (zi (d:=.int (i:Int)) rfl)) (by simp)) ⟨ws++[(k+1,(i:Int))],_,_,mem ⟨⟨by simp;omega,by simp;omega⟩,by simp,by simp;omega⟩,by simp;omega,rfl,rfl⟩
 ·rintro σ A' ⟨ws,y10,y11,hws,hwl,rfl,rfl⟩;rw[zg];have hA:=h.app (ws.map wD) (zRO _ _);have eW:(A++[MO.lst (ws.map wD)])[A.length]?=some (.lst (ws.map wD)):=zAD _ _;have hjR:=(zWn.mp h.r).1;generalize A++[MO.lst (ws.map wD)]=B at hA eW ⊢;generalize A.length=jW at eW hjR ⊢;have t1:=zAU (zS (k:=zCO true) (f:=zE 8) (g:=zE 4) (σ:=(bS zA jP jO jK jR [y6,some (.int x),some (tI [a,b]),some (.ref jW),y10,y11,y12])) (M:=B) (x:=.dat (tI [a,b])) (y:=.dat (.ref jK)) rfl rfl ((zLj hA.k).trans (by rw[zWz rfl])));have t2:tst (fOp kNe (zE 9) (zAk zL)) (bS zA jP jO jK jR [y6,some (.int x),some (tI [a,b]),some (.ref jW),y10,y11,y12]) B=some (!(ws.map wD).isEmpty,B):=zAU (zS (x:=.dat (.ref jW)) (y:=.fl []) rfl (zFj rfl (by simp)) (zf ((zK7 (zBl eW) (fun d hd=>by cases hd;rfl)).mpr ⟨rfl,rfl⟩)));cases hlk:(zR T [a,b]).isSome with
  |true=>
   rw[hlk]at t1;exact zDX (zFX t1) (q _ _ _ _ _ _ _ _ hA)
  |false=>
   rw[hlk]at t1;have hnew:[a,b]∉T.map (·.1):=fun z=>by rw[zCB.mpr z]at hlk;cases hlk
   cases hwe:ws with
   |nil=>
    rw[hwe]at t2;exact zDX (zEJ t1 (zFX t2)) (q _ _ _ _ _ _ _ _ hA)
   |cons w0 wr=>
    have hne:(!(ws.map wD).isEmpty)=true:=by rw[hwe];rfl
    have w0l:0<ws.length:=by rw[hwe];simp
    clear hwe;rw[hne]at t2;obtain ⟨d4,C4,e4,⟨t,rfl,t0,t1'⟩,nx4⟩:=zGk hA.nw.gen (m:=5) (by omega) (by omega);have eg:tst (fOp kGt (zY zd (zF (toD (zE 0)) (zF (toD (fC (.int 5))) zL))) (fC (.int 0))) (bS zA jP jO jK jR [y6,some (.int x),some (tI [a,b]),some (.ref jW),y10,y11,y12]) B=some (decide (0<t),C4) :=
     zAU (zJx (x:=.dat (.int t)) (y:=.dat (.int 0)) (zr (ze (d:=.ref 2) rfl (zi (d:=.int 5) rfl)) e4) rfl (zf (zVN.mpr ⟨rfl,rfl⟩)))
    clear e4;rw[zBO];refine zK (zKh t1 (zKh t2 eg)) ?_;have h4:=hA.nx nx4 (by omega) (by omega) (by omega) (by omega);have eW4:C4[jW]?=some (.lst (ws.map wD)):=(nx4.fr jW (by omega) (by omega)).trans eW;by_cases ht:0<t
    ·rw[zXs ht,zWz rfl];have el:=zCG (f:=zE 9) (σ:=(bS zA jP jO jK jR [y6,some (.int x),some (tI [a,b]),some (.ref jW),y10,y11,y12])) (M:=C4) rfl (zAJ eW4);rw[zWt]at el;obtain ⟨d5,C5,e5,⟨s,rfl,s0,s1⟩,nx5⟩:=zGk h4.nw.gen (m:=(ws.length:Int)) (by omega) (by omega);have h5:=h4.nx nx5 (by omega) (by omega) (by omega) (by omega);have eW5:C5[jW]?=some (.lst (ws.map wD)):=(nx5.fr jW (by omega) (by omega)).trans eW4;have hsl:s.toNat<ws.length:=by omega
     rw[zU,zHv];refine zK (zJx (x:=.dat (.ref jW)) rfl (zr (ze (d:=.ref 2) rfl (zi el)) e5) (zCA (d:=wD ws[s.toNat]) (zAJ eW5) (zHK s0 (by rw[zW7,zWo hsl];rfl)))) ?_;clear e5;obtain ⟨⟨k1,k2⟩,i0,i1⟩:=hws _ (zXI hsl);generalize ws[s.toNat]=w at k1 k2 i0 i1;obtain ⟨k,i⟩:=w;have k1:1<=k:=k1;have k2:k<=T.length+1:=k2;rw[zZ];refine ⟨_,rfl,?_⟩;rw[zg];show OkS (zV _ _ (bS zA jP jO jK jR [y6,some (.int x),some (tI [a,b]),some (.ref jW),some (.int i),y11,some (.int k)]) C5) _;rw[zU];refine zMj (v:=.int k) (k:=tI [a,b]) (n:=jK) rfl rfl rfl (zIc h5.k (by omega)) ?_;rw[zg,zGX hnew,zDN];have kv':=h5.kv.add hpm hnew k1 k2;have l5:=(zWn.mp h5.k).1;have hMl:=h5.nw.len;have nw6:=h5.nw.setB (j:=jK) (u:=dT (T++[([a,b],.int k)])) g (by omega) (kv'.und _);have k6:(C5.set jK (dT (T++[([a,b],.int k)])))[jK]?=some (dT (T++[([a,b],.int k)])):=by rw[zXe l5]
     have r6:(C5.set jK (dT (T++[([a,b],.int k)])))[jR]?=some (.lst (ts.map tD)):=by rw[zXE (by omega)];exact h5.r
     have p6:(C5.set jK (dT (T++[([a,b],.int k)])))[jP]?=some (.lst ((zo (za zA)).map tI)):=by rw[zXE (by omega)];exact h5.p
     have o6:(C5.set jK (dT (T++[([a,b],.int k)])))[jO]?=some (.lst (c.map D.int)):=by rw[zXE (by omega)];exact h5.o
     generalize C5.set jK (dT (T++[([a,b],.int k)]))=C6 at nw6 k6 r6 p6 o6 ⊢;have hln:=h5.ln;have elr:=zCG (f:=zE 5) (σ:=(bS zA jP jO jK jR [y6,some (.int x),some (tI [a,b]),some (.ref jW),some (.int i),y11,some (.int k)])) (M:=C6) rfl (zAJ r6);rw[zWt]at elr;refine zNs.mpr (zAi.mpr ⟨_,rfl,⟨_,zBl r6⟩,zBL.mpr (zBN.mpr ?_)⟩);refine zAe nw6.gen rfl (zS (y:=.dat (.int 1)) elr rfl rfl) (by omega) (by omega) fun z C7 z0 z1 nx7=>?_;rw[zZ];refine zK (zi (d:=tD ([a,b],k,i)) (zB1 (ze (d:=tI [a,b]) rfl (ze (d:=.int k) rfl (zi (d:=.int i) rfl))) (by simp))) ?_;have r7:C7[jR]?=some (.lst (ts.map tD)):=(nx7.fr jR (by omega) (by omega)).trans r6;refine zK (zJ1 r7 z0 (by rw[zWt];omega) (by rw[zWt];omega)) ?_;have l7:=(zWn.mp r7).1;have hts:(ts.map tD).take z.toNat++[tD ([a,b],k,i)]++(ts.map tD).drop z.toNat=(ts.take z.toNat++[([a,b],k,i)]++ts.drop z.toNat).map tD:=by simp
     rw[hts];refine q (T++[([a,b],.int k)]) (ts.take z.toNat++[([a,b],k,i)]++ts.drop z.toNat) _ _ _ _ _ _ ⟨kv',fun t' ht'=>?_,by simp;omega,?_,by rw[zXe l7],?_,?_,(nw6.trans nx7.nw).setB g (by omega) (zHr _ _)⟩
     ·simp only[zXA,zXC]at ht';rcases ht' with (z|z)|z
      ·exact h5.ok _ (List.mem_of_mem_take z)
      ·subst z;exact ⟨⟨hpm,i0,i1⟩,k1,by show k<=677;omega⟩
      ·exact h5.ok _ (List.mem_of_mem_drop z)
     ·rw[zXE (by omega)];exact (nx7.fr jK (by omega) (by omega)).trans k6
     ·rw[zXE (by omega)];exact (nx7.fr jP (by omega) (by omega)).trans p6
     ·rw[zXE (by omega)];exact (nx7.fr jO (by omega) (by omega)).trans o6
    ·rw[zXJ ht,zW2 (by decide),zBK];exact q _ _ _ _ _ _ _ _ h4
theorem zSW {zA:List (List Int)} {l:Nat} (m:IsM zA l) (hR:zA.length<=26) (hl:l<=12) {M:Mem} (g:Gen M 2 1) :
  Ok (zDP [.ref 2,mD zA] M) fun d M'=>∃ (j:Nat) (ts:List Tp),d=.ref j/\M.length<=j/\M'[j]?=some (.lst (ts.map tD))/\ts.length<=676/\(∀ t∈ts,Tbd zA l t)/\Nw M M' 2 1:=by
 obtain ⟨hn,hk⟩:=g.lt;unfold zDP;rw[zAS];unfold zF1;show OkS (zV _ _ [some (.ref 2),some (mD zA),none,none,none,none,none,none,none,none,none,none,none] M) _;have sr:=zRd m;have hrl:(za zA).length=zA.length:=by unfold za;simp
 have eL:=zMK (zNY (σ:=[some (.ref 2),some (mD zA),none,none,none,none,none,none,none,none,none,none,none]) (M:=M) (by omega) (zC1 (f:=zE 1) rfl));obtain ⟨d,B,ep,rfl,us,hB,hus⟩:=zKD (M:=M++[.lst ((za zA).map D.int)]) (j:=M.length) (xs:=za zA) (zAD _ _) sr.pw (by omega);have b1l:(M++[MO.lst ((za zA).map D.int)]).length=M.length+1:=by simp
 have hP:B[M.length+1]?=some (.lst ((zo (za zA)).map tI)):=by rw[hB,<-b1l];simp
 have nwB:Nw M B 2 1:=by
  rw[hB,zXq];refine ⟨g.app fun u hu=>?_,by simp,fun j hj _ _=>by rw[zWr hj]⟩;rcases zXA.mp hu with z|z
  ·rw[zXC]at z;subst z;show D.unds _ _=true;exact zAj _ _
  ·rcases zWw.mp z with y|y
   ·subst y;exact zOJ _ _
   ·exact zJ7 (zXW _) (hus u y)
 rw[zU,zm];refine zK (zN2 (aC' eL rfl) ep) ?_;rw[zZ,zg,b1l];have hPl:=(zWn.mp hP).1;generalize hjP:M.length+1=jP at hP hPl ⊢;clear ep eL hB hus;show OkS (zV _ _ [some (.ref 2),some (mD zA),some (.ref jP),none,none,none,none,none,none,none,none,none,none] B) _;have hpf:=zFc hR;have el:=zCG (f:=zE 2) (σ:=[some (.ref 2),some (mD zA),some (.ref jP),none,none,none,none,none,none,none,none,none,none]) (M:=B) rfl (zAJ hP);rw[zWt]at el;obtain ⟨d,C,eo,jO,c,rfl,eO,col,hjO,nwO⟩:=zOg nwB.gen (many:=((zo (za zA)).length:Int)) (by omega) (by omega);rw[zU,zm];refine zK (zr (ze (d:=.ref 2) rfl (zi el)) eo) ?_;rw[zZ,zg];clear eo el;have pC:C[jP]?=some (.lst ((zo (za zA)).map tI)):=nwO.get hP (by omega) (by omega);have nwC:=nwB.trans nwO;have hOl:=(zWn.mp eO).1;clear nwB nwO hP;show OkS (zV _ _ [some (.ref 2),some (mD zA),some (.ref jP),some (.ref jO),none,none,none,none,none,none,none,none,none] C) _;rw[zU,zm];refine zK (M:=C++[.dicT []]) (a:=.dat (.ref C.length)) rfl ?_;rw[zZ,zg];have kv0:Kv zA []:=⟨.nil,(fun q h=>by cases h),(fun q h=>by cases h)⟩;have nwD:Nw M (C++[dT []]) 2 1:=⟨nwC.gen.app fun u hu=>by rw[zXC]at hu;subst hu;exact kv0.und _,by have:=nwC.len;simp;omega,fun j hj a b=>by rw[zWr (by have:=nwC.len;omega)];exact nwC.fr j hj a b⟩;have up:∀ {j:Nat} {u:MO},C[j]?=some u->(C++[dT []])[j]?=some u:=fun {j u} e=>by rw[zWr (zWn.mp e).1];exact e
 have pD:=up pC;have oD:=up eO;have kD:(C++[dT []])[C.length]?=some (dT []):=zAD _ _;have hDl:(C++[dT []]).length=C.length+1:=by simp
 clear up pC eO nwC;show OkS (zV _ _ [some (.ref 2),some (mD zA),some (.ref jP),some (.ref jO),some (.ref C.length),none,none,none,none,none,none,none,none] (C++[dT []])) _;generalize C++[dT []]=E at nwD pD oD kD hDl ⊢;generalize C.length=jK at hOl hDl kD ⊢;rw[zU,zm];refine zK (M:=E) (a:=.fl []) (zFj rfl (by simp)) (zAG ?_);rw[zg];have up:∀ {j:Nat} {u:MO},E[j]?=some u->(E++[MO.lst ([]:List D)])[j]?=some u:=fun {j u} e=>by rw[zWr (zWn.mp e).1];exact e
 have md:Md zA l M c jP jO jK E.length [] [] (E++[MO.lst []]):=⟨kv0,(fun t h=>by cases h),rfl,up kD,zAD _ _,up pD,up oD,nwD.trans (nwD.gen.lst [] rfl)⟩;clear up kD pD oD nwD;show OkS (zV _ _ [some (.ref 2),some (mD zA),some (.ref jP),some (.ref jO),some (.ref jK),some (.ref E.length),none,none,none,none,none,none,none] (E++[MO.lst []])) _;generalize E++[MO.lst ([]:List D)]=F at md ⊢;generalize E.length=jR at md hDl ⊢;rw[zU,zBV];refine ⟨_,_,_,zBs (j:=3) rfl (by omega) (by omega),?_⟩;refine zGA (n:=3) (I:=fun _ σ A=>∃ (T:List (List Int × D)) (ts:List Tp) (y6 y7 y8 y9 y10 y11 y12:Option D),Md zA l M c jP jO jK jR T ts A/\σ=(bS zA jP jO jK jR [y6,y7,y8,y9,y10,y11,y12])) ?_ ?_ _ _ ⟨[],[],_,_,_,_,_,_,_,md,rfl⟩
 ·rintro i σ A hi ⟨T,ts,y6,y7,y8,y9,y10,y11,y12,h,rfl⟩;refine ⟨_,rfl,?_⟩;show OkS (zC2 _ _ _ (bS zA jP jO jK jR [some (.int (i:Int)),y7,y8,y9,y10,y11,y12]) A) _;rw[zBV];refine ⟨_,_,_,zGZ (x:=.dat (.ref jO)) rfl (zAJ h.o),?_⟩;refine zBr (I:=fun r σ A=>∃ (q:List Int) (T:List (List Int × D)) (ts:List Tp) (y7 y8 y9 y10 y11 y12:Option D),(∀ x∈q,x∈c)/\r=q.map D.int/\Md zA l M c jP jO jK jR T ts A/\σ=(bS zA jP jO jK jR [some (.int (i:Int)),y7,y8,y9,y10,y11,y12])) ?_ ?_ _ _ _ ⟨c,T,ts,_,_,_,_,_,_,(fun _ h=>h),rfl,h,rfl⟩
  ·rintro x r σ A ⟨q,T,ts,y7,y8,y9,y10,y11,y12,hq,hr,h,rfl⟩;cases q with
   |nil=>cases hr
   |cons x q=>
    obtain ⟨rfl,rfl⟩:=zXo hr;refine ⟨.inl h.o,_,rfl,?_⟩;obtain ⟨x0,x1⟩:=col.2 x (hq x zWy);exact zSp m hR hl g (by omega) (by omega) (by omega) (by omega) h x0 x1 fun T' ts' A' _ _ _ _ _ h'=>⟨q,T',ts',_,_,_,_,_,_,(fun z hz=>hq z (zWx _ hz)),rfl,h',rfl⟩
  ·rintro σ A ⟨q,T,ts,y7,y8,y9,y10,y11,y12,hq,hr,h,rfl⟩;exact ⟨.inl h.o,T,ts,_,_,_,_,_,_,_,h,rfl⟩
 ·rintro σ A ⟨T,ts,y6,y7,y8,y9,y10,y11,y12,h,rfl⟩;rw[zg];exact zx (d:=.ref jR) rfl ⟨jR,ts,rfl,by omega,h.r,by rw[h.ln];exact h.kv.len hR,h.ok,h.nw⟩
theorem zHy {A:Mem} (g:Gen A 2 1) {n j:Nat} {L:List D} {σ:Sd} (e:A[j]?=some (.lst L)) (j2:j≠2) (j1:j≠1) (l0:0<L.length) (l1:L.length<=1000) (h0:∀ M,zE 0 σ M=some (.dat (.ref 2),M)) (hn:∀ M,zE n σ M=some (.dat (.ref j),M)):∃ d A',fOp kIx (zE n) (zY zd (zF (toD (zE 0)) (zF (toD (fB zAx (zb (zE n) zq))) zL))) σ A=some (.dat d,A')/\d∈L/\Nx A A' 2 1:=by
 obtain ⟨d4,A4,e4,⟨t,rfl,t0,t1⟩,nx⟩:=zGk g (m:=(L.length:Int)) (by omega) (by omega);have hlt:t.toNat<L.length:=by omega
 exact ⟨L[t.toNat],A4,zJx (hn _) (zr (ze (h0 _) (zi (zCG (hn _) (zAJ e)))) e4) (zCA (zAJ ((nx.fr j j2 j1).trans e)) (zHK t0 (zWo hlt))),zXI hlt,nx⟩
def zT (j:Nat) (xs:List D) (d:D):Prop:=(∀ A:Mem,A[j]?=some (.lst xs)->Vd A d) /\ ∀ n,j<n->D.und n d=true
theorem zT.of {j:Nat} {xs:List D} {d:D} (h1:∀ A:Mem,Vd A d) (h2:∀ n,D.und n d=true):zT j xs d:=⟨fun A _=>h1 A,fun n _=>h2 n⟩
theorem zT.ints {j:Nat} {xs:List D} (c:List Int) (h:c.length<=100000):zT j xs (tI c):=zT.of (fun _=>zHu h) fun _=>zB9 _
theorem zT.tup {j:Nat} {xs ds:List D} (hz:ds.length<=100000) (h:∀ d∈ds,zT j xs d):zT j xs (.tup ds):=⟨fun A e=>zEk hz fun d hd=>(h d hd).1 A e,fun n hn=>by
 unfold D.und;exact zDD fun d hd=>(h d hd).2 n hn⟩
theorem zT.ref {j:Nat} {xs:List D}:zT j xs (.ref j):=⟨fun A e=>zK2 e,fun n hn=>by unfold D.und;exact zXs hn⟩
theorem zT.int {j:Nat} {xs:List D} (i:Int):zT j xs (.int i):=zT.of (fun _=>zM7 _) fun _=>by unfold D.und;rfl
theorem zT.non {j:Nat} {xs:List D}:zT j xs .non:=zT.of (fun _=>by unfold Vd;trivial) fun _=>by unfold D.und;rfl
theorem zT.bl {j:Nat} {xs:List D} (b:Bool):zT j xs (.bl b):=zT.of (fun _=>by unfold Vd;trivial) fun _=>by unfold D.und;rfl
theorem zT.str {j:Nat} {xs:List D} (b:Str):zT j xs (.str b):=zT.of (fun _=>by unfold Vd;trivial) fun _=>by unfold D.und;rfl
theorem zT.nil {j:Nat} {xs:List D}:∀ d∈([]:List D),zT j xs d:=fun d h=>by cases h
theorem zT.cons {j:Nat} {xs ds:List D} {d:D} (h:zT j xs d) (hs:∀ d∈ds,zT j xs d):∀ x∈d::ds,zT j xs x:=fun x hx=>by
 rcases zWw.mp hx with z|z
 ·subst z;exact h
 ·exact hs x z
theorem zRa {f:FE} {σ:Sd} {M:Mem} {k:Int} (hf:f σ M=some (.dat (.int k),M)) (hk:k.natAbs<2 ^ 64):fB zNf (zb f zq) σ M=some (.dat (.str (Str.ofString (toString k))),M):=by
 unfold fB zb zq;rw[hf];show (if k.natAbs<2 ^ 64 then _ else none)=_;rw[zWz hk]
abbrev odS (zA:List (List Int)) (a b k x:Int) (r:Sd):Sd:=some (.ref 2)::some (mD zA)::some (tD ([a,b],k,x))::some (tI [a,b])::some (.int k)::some (.int x)::some (.int a)::some (.int b)::r
theorem zTz {zA:List (List Int)} {l:Nat} (m:IsM zA l) (hR:zA.length<=26) (hl:l<=12) {M:Mem} (g:Gen M 2 1) {t:Tp} (ht:Tbd zA l t) :
  Ok (zDM [.ref 2,mD zA,tD t] M) fun d M'=>Vd M' d/\Nw M M' 2 1:=by
 obtain ⟨hn,hk⟩:=g.lt;have l0:=m.l0;obtain ⟨p,k,x⟩:=t;obtain ⟨⟨hp,x0,x1⟩,k1,k2⟩:=ht;obtain ⟨a,b,hab,ha,hb,hlt⟩:=zAv.mp hp;have hab:p=[a,b]:=hab;subst hab;have ha:=zAA.mp ha;have hb:=zAA.mp hb;have k1:1<=k:=k1;have k2:k<=677:=k2;unfold zDM;rw[zAS];unfold zHM;show OkS (zV _ _ [some (.ref 2),some (mD zA),some (tD ([a,b],k,x)),none,none,none,none,none,none,none,none,none,none] M) _;rw[zU,zHv];refine zK (a:=.dat (tD ([a,b],k,x))) (M:=M) rfl ?_;rw[zZ];refine ⟨_,rfl,?_⟩;rw[zg];show OkS (zV _ _ [some (.ref 2),some (mD zA),some (tD ([a,b],k,x)),some (tI [a,b]),some (.int k),some (.int x),none,none,none,none,none,none,none] M) _;rw[zU,zHv];refine zK (a:=.dat (tI [a,b])) (M:=M) rfl ?_;rw[zZ];refine ⟨_,rfl,?_⟩;rw[zg];show OkS (zV _ _ (odS zA a b k x [none,none,none,none,none]) M) _;rw[zU,zm];refine zK (zFj (aC' (zBC (zB1 (ze (d:=.int b) rfl (zi (d:=.int a) rfl)) (by simp))) (aC' (zBC (zB1 (ze (d:=.int a) rfl (zi (d:=.int a) rfl)) (by simp))) (aC' (zMK (zFj (ze (d:=.int a) rfl (zi (d:=.int b) rfl)) (by simp))) (aC' (zBC (zB1 (zi (d:=.int a) rfl) (by simp))) (aC' (zBC (zB1 (ze (d:=.int a) rfl (ze (d:=.int b) rfl (zi (d:=.int b) rfl))) (by simp))) (aC' (zBC (zB1 (ze (d:=.int a) rfl (zi (zC1 rfl))) (by simp))) (aC' (zBC (zB1 (ze (d:=.int (-1)) rfl (zi (d:=.int b) rfl)) (by simp))) rfl))))))) (by simp)) (zAG ?_);rw[zg];have s1:∀ d∈[D.tup [.int b,.int a],D.tup [.int a,.int a],D.ref M.length,D.tup [.int a],D.tup [.int a,.int b,.int b],D.tup [.int a,.int zA.length],D.tup [.int (-1),.int b]],zT M.length [.int a,.int b] d:=zT.cons (zT.ints [b,a] (by simp)) (zT.cons (zT.ints [a,a] (by simp)) (zT.cons zT.ref (zT.cons (zT.ints [a] (by simp)) (zT.cons (zT.ints [a,b,b] (by simp)) (zT.cons (zT.ints [a,zA.length] (by simp)) (zT.cons (zT.ints [-1,b] (by simp)) zT.nil))))));generalize hL1:[D.tup [.int b,.int a],D.tup [.int a,.int a],D.ref M.length,D.tup [.int a],D.tup [.int a,.int b,.int b],D.tup [.int a,.int zA.length],D.tup [.int (-1),.int b]]=L1 at s1;have l1:L1.length=7:=by rw[<-hL1];rfl
 generalize hM1:M++[MO.lst [D.int a,D.int b]]++[MO.lst L1]=M1;have e1:M1[M.length+1]?=some (.lst L1):=by rw[<-hM1];simp
 have e0:M1[M.length]?=some (.lst [.int a,.int b]):=by rw[<-hM1];simp
 have hl1:M1.length=M.length+2:=by rw[<-hM1];simp
 have nw1:Nw M M1 2 1:=by
  rw[<-hM1];refine (g.lst [D.int a,D.int b] (zAj _ [a,b])).trans ((g.lst [D.int a,D.int b] (zAj _ [a,b])).gen.lst L1 ?_);exact zDD fun d hd=>(s1 d hd).2 _ (by simp)
 show OkS (zV _ _ (odS zA a b k x [some (.ref (M++[MO.lst [D.int a,D.int b]]).length),none,none,none,none]) M1) _;rw[show (M++[MO.lst [D.int a,D.int b]]).length=M.length+1 by simp];clear hL1 hM1;rw[zU,zm];have e2:zAk (zF (toD (zAV (zF (toD (zE 6)) (zF (toD (fB zNf (zb (zE 7) zq))) zL)))) (zF (toD (fC .non)) (zF (toD (zE 6)) (zF (toD (zAV zL)) (zF (toD (zAV (zF (toD (fC (.bl false))) (zF (toD (zE 7)) zL)))) (zF (toD (zAV (zF (toD (zE 6)) (zF (toD (fC (.bl true))) zL)))) zL)))))) (odS zA a b k x [some (.ref (M.length+1)),none,none,none,none]) M1=some (.fl [D.tup [.int a,.str (Str.ofString (toString b))],.non,.int a,.tup [],.tup [.bl false,.int b],.tup [.int a,.bl true]],M1) :=
  zFj (ze (zB1 (ze (d:=.int a) rfl (zi (zRa rfl (by omega)))) (by simp)) (ze (d:=.non) rfl (ze (d:=.int a) rfl (ze (d:=.tup []) (zB1 rfl (by simp)) (ze (zB1 (ze (d:=.bl false) rfl (zi (d:=.int b) rfl)) (by simp)) (zi (zB1 (ze (d:=.int a) rfl (zi (d:=.bl true) rfl)) (by simp)))))))) (by simp)
 have s2:∀ d∈[D.tup [.int a,.str (Str.ofString (toString b))],.non,.int a,.tup [],.tup [.bl false,.int b],.tup [.int a,.bl true]],zT M.length [.int a,.int b] d:=zT.cons (zT.tup (by simp) (zT.cons (zT.int _) (zT.cons (zT.str _) zT.nil))) (zT.cons zT.non (zT.cons (zT.int _) (zT.cons (zT.tup (by simp) zT.nil) (zT.cons (zT.tup (by simp) (zT.cons (zT.bl _) (zT.cons (zT.int _) zT.nil))) (zT.cons (zT.tup (by simp) (zT.cons (zT.int _) (zT.cons (zT.bl _) zT.nil))) zT.nil)))));generalize hL2:[D.tup [.int a,.str (Str.ofString (toString b))],.non,.int a,.tup [],.tup [.bl false,.int b],.tup [.int a,.bl true]]=L2 at e2 s2;have l2:L2.length=6:=by rw[<-hL2];rfl
 clear hL2;refine zK (zS (x:=.dat (.ref (M.length+1))) rfl e2 (zGr (zSE e1) rfl (by omega))) (zAG ?_);rw[zg];have s8:∀ d∈L1++L2,zT M.length [.int a,.int b] d:=fun d hd=>by
  rcases zXA.mp hd with z|z
  ·exact s1 d z
  ·exact s2 d z
 have l8:(L1++L2).length=13:=by rw[zW0];omega
 clear e2 s1 s2;generalize L1++L2=L8 at s8 l8 ⊢;have nw2:=nw1.trans (nw1.gen.lst L8 (zDD fun d hd=>(s8 d hd).2 _ (by omega)));have i2:(M1++[MO.lst L8])[M.length]?=some (.lst [.int a,.int b]):=by rw[zWr (by omega)];exact e0
 have e8:(M1++[MO.lst L8])[M.length+2]?=some (.lst L8):=by rw[<-hl1];exact zAD _ _
 have hl2:(M1++[MO.lst L8]).length=M.length+3:=by simp;omega
 show OkS (zV _ _ (odS zA a b k x [some (.ref M1.length),none,none,none,none]) (M1++[MO.lst L8])) _;rw[hl1];generalize M1++[MO.lst L8]=M2 at nw2 i2 e8 hl2 ⊢;clear e0 e1 nw1;have eP:∀ {n:Nat} {σ:Sd} {A:Mem},n<=1000000->fOp zLr (fC (.int 10)) (fC (.int (n:Int))) σ A=some (.dat (.int (10 ^ n)),A):=fun {n σ A} hn=>zS (x:=.dat (.int 10)) (y:=.dat (.int (n:Int))) rfl rfl (zf (zQx.mpr ⟨⟨by omega,by omega,by decide⟩,rfl,rfl⟩));rw[zU,zm];refine zK (a:=.fl [.int (k+1),.int (k-1),.int 0,.int (-1),.bl true,.non,.str (Str.ofString (toString k)),.tup [.int k],.int (10 ^ 40),.int (k+2)]) (M:=M2) (zFj (ze (d:=.int (k+1)) rfl (ze (d:=.int (k-1)) (zS (x:=.dat (.int k)) (y:=.dat (.int 1)) rfl rfl zTT) (ze (d:=.int 0) rfl (ze (d:=.int (-1)) rfl (ze (d:=.bl true) rfl (ze (d:=.non) rfl (ze (zRa rfl (by omega)) (ze (d:=.tup [.int k]) (zB1 (zi (d:=.int k) rfl) (by simp)) (ze (eP (n:=40) (by decide)) (zi (d:=.int (k+2)) rfl)))))))))) (by simp)) (zAG ?_);rw[zg];have s9:∀ d∈[.int (k+1),.int (k-1),.int 0,.int (-1),.bl true,.non,.str (Str.ofString (toString k)),.tup [.int k],.int (10 ^ 40),.int (k+2)],zT M.length [.int a,.int b] d:=zT.cons (zT.int _) (zT.cons (zT.int _) (zT.cons (zT.int _) (zT.cons (zT.int _) (zT.cons (zT.bl _) (zT.cons zT.non (zT.cons (zT.str _) (zT.cons (zT.ints [k] (by simp)) (zT.cons (zT.int _) (zT.cons (zT.int _) zT.nil)))))))));generalize hL9:[D.int (k+1),.int (k-1),.int 0,.int (-1),.bl true,.non,.str (Str.ofString (toString k)),.tup [.int k],.int (10 ^ 40),.int (k+2)]=L9 at s9;have l9:L9.length=10:=by rw[<-hL9];rfl
 clear hL9;have nw3:=nw2.trans (nw2.gen.lst L9 (zDD fun d hd=>(s9 d hd).2 _ (by omega)));have up:∀ {j:Nat} {u:MO},M2[j]?=some u->(M2++[MO.lst L9])[j]?=some u:=fun {j u} e=>by rw[zWr (zWn.mp e).1];exact e
 have i3:=up i2;have e8:=up e8;have e9:(M2++[MO.lst L9])[M.length+3]?=some (.lst L9):=by rw[<-hl2];exact zAD _ _
 have hl3:(M2++[MO.lst L9]).length=M.length+4:=by simp;omega
 show OkS (zV _ _ (odS zA a b k x [some (.ref (M.length+2)),some (.ref M2.length),none,none,none]) (M2++[MO.lst L9])) _;rw[hl2];clear up i2 nw2;generalize M2++[MO.lst L9]=M3 at nw3 i3 e8 e9 hl3 ⊢;rw[zU,zm];refine zK (a:=.fl [.int l,.int (-1),.bl true,.bl false,.non,.str "a", .tup [.int x],.int ((x+1) % l),.int (10 ^ 30)]) (M:=M3) (zFj (ze (zET m rfl) (ze (d:=.int (-1)) rfl (ze (d:=.bl true) rfl (ze (d:=.bl false) rfl (ze (d:=.non) rfl (ze (d:=.str "a") rfl (ze (d:=.tup [.int x]) (zB1 (zi (d:=.int x) rfl) (by simp)) (ze (d:=.int ((x+1) % l)) (zS (x:=.dat (.int (x+1))) rfl (zET m rfl) (zUL (by omega))) (zi (eP (n:=30) (by decide))))))))))) (by simp)) (zAG ?_);rw[zg];have s10:∀ d∈[.int l,.int (-1),.bl true,.bl false,.non,.str "a", .tup [.int x],.int ((x+1) % l),.int (10 ^ 30)],zT M.length [.int a,.int b] d:=zT.cons (zT.int _) (zT.cons (zT.int _) (zT.cons (zT.bl _) (zT.cons (zT.bl _) (zT.cons zT.non (zT.cons (zT.str _) (zT.cons (zT.ints [x] (by simp)) (zT.cons (zT.int _) (zT.cons (zT.int _) zT.nil))))))));generalize hL10:[D.int l,.int (-1),.bl true,.bl false,.non,.str "a", .tup [.int x],.int ((x+1) % l),.int (10 ^ 30)]=L10 at s10;have l10:L10.length=9:=by rw[<-hL10];rfl
 clear hL10;have nw4:=nw3.trans (nw3.gen.lst L10 (zDD fun d hd=>(s10 d hd).2 _ (by omega)));have up:∀ {j:Nat} {u:MO},M3[j]?=some u->(M3++[MO.lst L10])[j]?=some u:=fun {j u} e=>by rw[zWr (zWn.mp e).1];exact e
 have i4:=up i3;have e8:=up e8;have e9:=up e9;have e10:(M3++[MO.lst L10])[M.length+4]?=some (.lst L10):=by rw[<-hl3];exact zAD _ _
 have hl4:(M3++[MO.lst L10]).length=M.length+5:=by simp;omega
 show OkS (zV _ _ (odS zA a b k x [some (.ref (M.length+2)),some (.ref (M.length+3)),some (.ref M3.length),none,none]) (M3++[MO.lst L10])) _;rw[hl3];clear up i3 nw3;generalize M3++[MO.lst L10]=M4 at nw4 i4 e8 e9 e10 hl4 ⊢;rw[zU,zm];have ds:∀ {j:Nat} {xs:List D},∀ d∈[tI [a,b],.int k,.int x],zT j xs d:=fun {j xs}=>zT.cons (zT.ints [a,b] (by simp)) (zT.cons (zT.int _) (zT.cons (zT.int _) zT.nil));refine zK (zFj (aC' (zMK (zKw (f:=zE 2) (x:=.dat (tD ([a,b],k,x))) rfl (zAN (xs:=[tI [a,b],.int k,.int x])))) (aC' (zBC (slE (f:=zE 2) (xs:=[tI [a,b],.int k,.int x]) rfl rfl (oS (f:=fC (.int 2)) rfl))) (aC' (zBC (zS (f:=zE 2) (x:=.dat (.tup [tI [a,b],.int k,.int x])) (y:=.dat (.tup [.int 0])) rfl (zB1 (zi (d:=.int 0) rfl) (by simp)) (zf (zV3.mpr ⟨zAY (by simp),rfl,rfl⟩)))) (aC' (zBC (zB1 (ze (d:=.int k) rfl (ze (d:=tI [a,b]) rfl (zi (d:=.int x) rfl))) (by simp))) (aC' (zBC (d:=.non) rfl) (aC' (zBC (d:=.int 0) rfl) (aC' (zBC (d:=.str "") rfl) (aC' (zBC (d:=.tup []) (zB1 rfl (by simp))) (aC' (zBC (d:=tI [a,b]) rfl) rfl))))))))) (by simp)) (zAG ?_);rw[zg];have hc:=@zKk [tI [a,b],.int k,.int x] none (some 2);generalize L3.zC4 [tI [a,b],.int k,.int x] none (some 2)=cc at hc ⊢;have s11:∀ d∈[D.ref M4.length,.tup cc,.tup ([tI [a,b],.int k,.int x]++[.int 0]),.tup [.int k,tI [a,b],.int x],.non,.int 0,.str "", .tup [],tI [a,b]],zT M4.length [tI [a,b],.int k,.int x] d:=zT.cons zT.ref (zT.cons (zT.tup (by have:=hc.1;simp at this;omega) fun d hd=>ds d (hc.2 d hd)) (zT.cons (zT.tup (by simp) (zT.cons (zT.ints [a,b] (by simp)) (zT.cons (zT.int _) (zT.cons (zT.int _) (zT.cons (zT.int _) zT.nil))))) (zT.cons (zT.tup (by simp) (zT.cons (zT.int _) (zT.cons (zT.ints [a,b] (by simp)) (zT.cons (zT.int _) zT.nil)))) (zT.cons zT.non (zT.cons (zT.int _) (zT.cons (zT.str _) (zT.cons (zT.tup (by simp) zT.nil) (zT.cons (zT.ints [a,b] (by simp)) zT.nil))))))));generalize hL11:[D.ref M4.length,.tup cc,.tup ([tI [a,b],.int k,.int x]++[.int 0]),.tup [.int k,tI [a,b],.int x],.non,.int 0,.str "", .tup [],tI [a,b]]=L11 at s11;have l11:L11.length=9:=by rw[<-hL11];rfl
 clear hL11 hc;have nw5:=nw4.trans (nw4.gen.lst [tI [a,b],.int k,.int x] (zDD fun d hd=>(ds (j:=0) (xs:=[]) d hd).2 _ (by omega)));have nw6:=nw5.trans (nw5.gen.lst L11 (zDD fun d hd=>(s11 d hd).2 _ (by simp)));have up:∀ {j:Nat} {u:MO},M4[j]?=some u->(M4++[MO.lst [tI [a,b],.int k,.int x]]++[MO.lst L11])[j]?=some u:=fun {j u} e=>by rw[zXq,zWr (zWn.mp e).1];exact e
 have i6:=up i4;have e8:=up e8;have e9:=up e9;have e10:=up e10;have r6:(M4++[MO.lst [tI [a,b],.int k,.int x]]++[MO.lst L11])[M4.length]?=some (.lst [tI [a,b],.int k,.int x]):=by simp
 have e11:(M4++[MO.lst [tI [a,b],.int k,.int x]]++[MO.lst L11])[M.length+6]?=some (.lst L11):=by rw[show M.length+6=(M4++[MO.lst [tI [a,b],D.int k,D.int x]]).length by simp;omega];exact zAD _ _
 show OkS (zV _ _ (odS zA a b k x [some (.ref (M.length+2)),some (.ref (M.length+3)),some (.ref (M.length+4)),some (.ref (M4++[MO.lst [tI [a,b],.int k,.int x]]).length),none]) (M4++[MO.lst [tI [a,b],.int k,.int x]]++[MO.lst L11])) _;rw[show (M4++[MO.lst [tI [a,b],D.int k,D.int x]]).length=M.length+6 by simp;omega];clear up i4 nw4 nw5;generalize M4++[MO.lst [tI [a,b],.int k,.int x]]++[MO.lst L11]=M6 at nw6 i6 e8 e9 e10 e11 r6 ⊢;rw[hl4]at r6 s11;rw[zU,zm];refine zAe (m:=4) nw6.gen rfl rfl (by omega) (by omega) fun w M7 w0 w1 nx7=>?_;rw[zZ,zg];have up:∀ {j:Nat} {u:MO},M.length<=j->M6[j]?=some u->M7[j]?=some u:=fun {j u} hj e=>(nx7.fr j (by omega) (by omega)).trans e;have i7:=up (by omega) i6;have e8:=up (by omega) e8;have e9:=up (by omega) e9;have e10:=up (by omega) e10;have e11:=up (by omega) e11;have r7:=up (by omega) r6;have nw7:=nw6.trans nx7.nw;clear up i6 nw6 nx7 r6;show OkS (zV _ _ (odS zA a b k x [some (.ref (M.length+2)),some (.ref (M.length+3)),some (.ref (M.length+4)),some (.ref (M.length+6)),some (.int w)]) M7) _;have et:∀ {i:Int},tst (fOp kEq (zE 12) (fC (.int i))) (odS zA a b k x [some (.ref (M.length+2)),some (.ref (M.length+3)),some (.ref (M.length+4)),some (.ref (M.length+6)),some (.int w)]) M7=some (decide (w=i),M7):=fun {i}=>zAU (zS (x:=.dat (.int w)) (y:=.dat (.int i)) rfl rfl eqE);have out:∀ {f:FE} {σ:Sd} {d:D} {A:Mem} {P:Out->Sd->Mem->Prop},f σ M7=some (.dat d,A)->P (.ret d) σ A->OkS (zAC f σ M7) P:=fun {f σ d A P} e q=>by
  rw[zA8];refine zK e ?_;rw[zZ];exact q
 by_cases h0:w=0
 ·refine zAP (et.trans (by rw[zXs h0])) ?_;obtain ⟨d,A,e,hd,nx⟩:=zHy (n:=8) (σ:=(odS zA a b k x [some (.ref (M.length+2)),some (.ref (M.length+3)),some (.ref (M.length+4)),some (.ref (M.length+6)),some (.int w)])) nw7.gen e8 (by omega) (by omega) (by omega) (by omega) (fun _=>rfl) (fun _=>rfl);refine out (zB1 (aC' (zJC e) (ze (d:=.int k) rfl (zi (d:=.int x) rfl))) (by simp)) ⟨?_,nw7.trans nx.nw⟩;exact (zT.tup (by simp) (zT.cons (s8 d hd) (zT.cons (zT.int _) (zT.cons (zT.int _) zT.nil)))).1 A ((nx.fr _ (by omega) (by omega)).trans i7)
 refine zA9 (et.trans (by rw[zXJ h0])) ?_;by_cases h1:w=1
 ·refine zAP (et.trans (by rw[zXs h1])) ?_;obtain ⟨d,A,e,hd,nx⟩:=zHy (n:=9) (σ:=(odS zA a b k x [some (.ref (M.length+2)),some (.ref (M.length+3)),some (.ref (M.length+4)),some (.ref (M.length+6)),some (.int w)])) nw7.gen e9 (by omega) (by omega) (by omega) (by omega) (fun _=>rfl) (fun _=>rfl);refine out (zB1 (aC' (zBC (d:=tI [a,b]) rfl) (aC' (zJC e) (zi (d:=.int x) rfl))) (by simp)) ⟨?_,nw7.trans nx.nw⟩;exact (zT.tup (by simp) (zT.cons (zT.ints [a,b] (by simp)) (zT.cons (s9 d hd) (zT.cons (zT.int _) zT.nil)))).1 A ((nx.fr _ (by omega) (by omega)).trans i7)
 refine zA9 (et.trans (by rw[zXJ h1])) ?_;by_cases h2:w=2
 ·refine zAP (et.trans (by rw[zXs h2])) ?_;obtain ⟨d,A,e,hd,nx⟩:=zHy (n:=10) (σ:=(odS zA a b k x [some (.ref (M.length+2)),some (.ref (M.length+3)),some (.ref (M.length+4)),some (.ref (M.length+6)),some (.int w)])) nw7.gen e10 (by omega) (by omega) (by omega) (by omega) (fun _=>rfl) (fun _=>rfl);refine out (zB1 (aC' (zBC (d:=tI [a,b]) rfl) (aC' (zBC (d:=.int k) rfl) (aC' (zJC e) rfl))) (by simp)) ⟨?_,nw7.trans nx.nw⟩;exact (zT.tup (by simp) (zT.cons (zT.ints [a,b] (by simp)) (zT.cons (zT.int _) (zT.cons (s10 d hd) zT.nil)))).1 A ((nx.fr _ (by omega) (by omega)).trans i7)
 refine zA9 (et.trans (by rw[zXJ h2])) ?_;obtain ⟨d,A,e,hd,nx⟩:=zHy (n:=11) (σ:=(odS zA a b k x [some (.ref (M.length+2)),some (.ref (M.length+3)),some (.ref (M.length+4)),some (.ref (M.length+6)),some (.int w)])) nw7.gen e11 (by omega) (by omega) (by omega) (by omega) (fun _=>rfl) (fun _=>rfl);exact out e ⟨(s11 d hd).1 A ((nx.fr _ (by omega) (by omega)).trans r7),nw7.trans nx.nw⟩
theorem zPu {zA:List (List Int)} {l:Nat} (m:IsM zA l) (hR:zA.length<=26) (hl:l<=12) {M:Mem} (g:Gen M 2 1) {jl:Nat} {ts:List Tp} (hj:M[jl]?=some (.lst (ts.map tD))) (j2:jl≠2) (j1:jl≠1) (hp:∀ t∈ts,Tbd zA l t) (p0:0<ts.length) (pz:ts.length<=676) :
  Ok (zCa [.ref 2,mD zA,.ref jl] M) fun d M'=>Vd M' d/\zL9 d<=2000/\Nw M M' 2 1:=by
 unfold zCa;rw[zAS];unfold zEZ;show OkS (zV _ _ [some (.ref 2),some (mD zA),some (.ref jl),none,none] M) _;have el:=zCG (f:=zE 2) (σ:=[some (.ref 2),some (mD zA),some (.ref jl),none,none]) (M:=M) rfl (zAJ hj);rw[zWt]at el;rw[zU,zm];refine zAe g rfl el (by omega) (by omega) fun t M1 t0 t1 nx1=>?_;rw[zZ,zg];show OkS (zV _ _ [some (.ref 2),some (mD zA),some (.ref jl),some (.int t),none] M1) _;rw[zU,zm];refine zAe (m:=6) nx1.gen rfl rfl (by omega) (by omega) fun w M2 w0 w1 nx2=>?_;rw[zZ,zg];show OkS (zV _ _ [some (.ref 2),some (mD zA),some (.ref jl),some (.int t),some (.int w)] M2) _;have nw2:=nx1.nw.trans nx2.nw;have hj2:M2[jl]?=some (.lst (ts.map tD)):=(nx2.fr jl j2 j1).trans ((nx1.fr jl j2 j1).trans hj);clear el nx1 nx2;have ht:t.toNat<ts.length:=by omega
 have et:∀ {k:Int},tst (fOp kEq (zE 4) (fC (.int k))) [some (.ref 2),some (mD zA),some (.ref jl),some (.int t),some (.int w)] M2=some (decide (w=k),M2):=fun {k}=>zAU (zS (x:=.dat (.int w)) (y:=.dat (.int k)) rfl rfl eqE);have lo:∀ {A:Mem},A[jl]?=some (.lst (ts.map tD))->fSl (zE 2) zCL (zB3 (zE 3)) [some (.ref 2),some (mD zA),some (.ref jl),some (.int t),some (.int w)] A=some (.fl (L3.zC4 (ts.map tD) none (some t)),A):=fun {A} h=>zVs (x:=.dat (.ref jl)) rfl rfl (zBl h) rfl (oS rfl);have hi1:∀ {A:Mem},A[jl]?=some (.lst (ts.map tD))->fSl (zE 2) (zB3 (fOp zAZ (zE 3) (fC (.int 1)))) zCL [some (.ref 2),some (mD zA),some (.ref jl),some (.int t),some (.int w)] A=some (.fl (L3.zC4 (ts.map tD) (some (t+1)) none),A):=fun {A} h=>zVs (x:=.dat (.ref jl)) rfl rfl (zBl h) (oS rfl) rfl;have pm:(ts.map tD).length=ts.length:=zWt ..;have cl:=@zKk (ts.map tD) none (some t);have c1:=@zKk (ts.map tD) (some (t+1)) none;generalize L3.zC4 (ts.map tD) none (some t)=CL at cl lo;generalize L3.zC4 (ts.map tD) (some (t+1)) none=C1 at c1 hi1;have out:∀ {A:Mem} {f:FE} {σ:Sd} {xs:List D} {P:Out->Sd->Mem->Prop},f σ M2=some (.fl xs,A)->P (.ret (.tup xs)) σ A->OkS (zAC (fB zB5 (zb f zq)) σ M2) P:=fun {A f σ xs P} e q=>by
  rw[zA8];refine zRC.mpr (zFR.mpr (zK e (zGl.mpr ((zKi zE9).mpr ?_))));rw[zZ];exact q
 have at1:fOp kIx (zE 2) (zE 3) [some (.ref 2),some (mD zA),some (.ref jl),some (.int t),some (.int w)] M2=some (.dat (tD ts[t.toNat]),M2):=zS (x:=.dat (.ref jl)) (y:=.dat (.int t)) rfl rfl (zCA (zAJ hj2) (zHK t0 (by rw[zW7,zWo ht];rfl)));have vp:∀ {A:Mem},∀ d∈ts.map tD,Vd A d:=fun {A}=>zNK hp;by_cases h0:w=0
 ·refine zAP (et.trans (by rw[zXs h0])) (out (zS (lo hj2) (hi1 hj2) (zGr rfl rfl (by omega))) ⟨?_,?_,nw2⟩)
  ·exact zEk (by rw[zW0];omega) fun d hd=>vp d (by
    rcases zXA.mp hd with z|z
    ·exact cl.2 d z
    ·exact c1.2 d z)
  ·show (CL++C1).length<=2000;rw[zW0];omega
 refine zA9 (et.trans (by rw[zXJ h0])) ?_;by_cases h1:w=1
 ·refine zAP (et.trans (by rw[zXs h1])) (out (zS (x:=.dat (.ref jl)) rfl (zFj (zi at1) (by simp)) (zGr (zSE hj2) rfl (by simp;omega))) ⟨?_,?_,nw2⟩)
  ·exact zEk (by simp;omega) fun d hd=>by
    rcases zXA.mp hd with z|z
    ·exact vp d z
    ·rw[zXC]at z;subst z;exact vp _ (zW1.mpr ⟨_,zXI ht,rfl⟩)
  ·show (ts.map tD++[_]).length<=2000;simp;omega
 refine zA9 (et.trans (by rw[zXJ h1])) ?_;by_cases hw2:w=2
 ·refine zAP (et.trans (by rw[zXs hw2])) ?_;rw[zA8];refine zK (zKw (f:=zE 2) (x:=.dat (.ref jl)) rfl (zAJ hj2)) (zAG ?_);exact ⟨zK2 (zAD _ _),by show 0<=2000;omega,nw2.trans (nw2.gen.lst _ (zHr _ _))⟩
 refine zA9 (et.trans (by rw[zXJ hw2])) ?_;obtain ⟨d,M3,eo,vd,nw3⟩:=zTz m hR hl nw2.gen (hp _ (zXI ht));have ex:zY zDM (zF (toD (zE 0)) (zF (toD (zE 1)) (zF (toD (fOp kIx (zE 2) (zE 3))) zL))) [some (.ref 2),some (mD zA),some (.ref jl),some (.int t),some (.int w)] M2=some (.dat d,M3) :=
  zr (ze (d:=.ref 2) rfl (ze (d:=mD zA) rfl (zi at1))) eo
 clear eo;have hj3:M3[jl]?=some (.lst (ts.map tD)):=nw3.get hj2 j2 j1;have e5:=zJx (k:=zDO) (lo hj2) (zWj ex) (zGr (xs:=CL) (ys:=[d]) rfl rfl (by rw[List.length_singleton];omega));have e6:=zJx (k:=zDO) e5 (hi1 hj3) (zGr (xs:=CL++[d]) (ys:=C1) rfl rfl (by rw[zW0,List.length_singleton];omega));refine out e6 ⟨zEk (by simp;omega) fun x hd=>?_,?_,nw2.trans nw3⟩
 ·rcases zXA.mp hd with z|z
  ·rcases zXA.mp z with y|y
   ·exact vp x (cl.2 x y)
   ·rw[zXC]at y;subst y;exact vd
  ·exact vp x (c1.2 x z)
 ·show (CL++[d]++C1).length<=2000;simp;omega
theorem zUO {zA:List (List Int)} {l:Nat} {p:List Int} {n:Nat}:∀ k:Nat,k<l->Dst zA l One (setR zA p (k:Int)) n -> ∃ x,Fst zA l One p n x:=by
 intro k;induction k using Nat.strongRecOn with
 |ind k ih=>
  intro hk hd;by_cases h:∃ y:Nat,y<k/\Dst zA l One (setR zA p (y:Int)) n
  ·obtain ⟨y,y1,y2⟩:=h;exact ih y y1 (by omega) y2
  ·refine ⟨(k:Int),by omega,by omega,hd,fun y y0 y1 z=>h ⟨y.toNat,by omega,?_⟩⟩;rw[show ((y.toNat:Nat):Int)=y by omega];exact z
def tpR (zA:List (List Int)) (l:Nat) (p:List Int):Tp:=(p,((zFL zA l One p:Nat):Int),zNi zA l One p)
theorem zRp (zA:List (List Int)) (l:Nat) (ps:List (List Int)):ps.map (zMW zA l)=(ps.map (tpR zA l)).map tD:=by rw[zW8];rfl
theorem zTo {zA:List (List Int)} {l:Nat} {p:List Int} (h:p∈zB4 zA l One):p∈zo (za zA) /\ ∃ n x,Dst zA l One p (n+1)/\Fst zA l One p n x/\tpR zA l p=(p,((n+1:Nat):Int),x):=by
 obtain ⟨hp,n,hd⟩:=zHH.mp h;obtain ⟨_,x,hx,hr⟩:=zEB.mp hd;obtain ⟨y,fy⟩:=zUO (zA:=zA) (l:=l) (p:=p) (n:=n) x.toNat (by omega) (by rw[show ((x.toNat:Nat):Int)=x by omega];exact hr);refine ⟨hp,n,y,hd,fy,?_⟩;unfold tpR;rw[zER hd,zOW hd fy]
theorem zTf {zA:List (List Int)} {l:Nat} (m:IsM zA l) (hR:zA.length<=26):∀ t∈(zB4 zA l One).map (tpR zA l),Tbd zA l t:=fun t ht=>by
 obtain ⟨p,hp,rfl⟩:=zW1.mp ht;obtain ⟨hpp,n,x,hd,fx,e⟩:=zTo hp;rw[e];have hle:=zXB (zU7 m zOc (zFd _ hpp) hd) (zFc hR);exact ⟨⟨hpp,fx.x0,fx.x1⟩,by show (1:Int)<=((n+1:Nat):Int);omega,by show ((n+1:Nat):Int)<=677;omega⟩
theorem zOE (zA:List (List Int)) (l:Nat) (ps:List (List Int)):(ps.map (tpR zA l)).map (·.1)=ps:=by
 rw[zW8];exact List.map_id' ps
theorem zNM {zA:List (List Int)} {l:Nat} (m:IsM zA l) (hR:zA.length<=26):ShL zA l (.tup ((zB4 zA l One).map (zMW zA l))):=by
 rw[zRp];refine (zIN fun t ht=>(zTf m hR t ht).1).mpr ⟨by rw[zOE];exact (zGu (zHc zA)).filter _,fun t ht=>?_⟩;obtain ⟨p,hp,rfl⟩:=zW1.mp ht;obtain ⟨hpp,n,x,hd,fx,e⟩:=zTo hp;rw[e];obtain ⟨a,b,rfl,ha,hb,hlt⟩:=zAv.mp hpp;have ha:=zAA.mp ha;have hb:=zAA.mp hb
 have dn:zEj zA (((zB4 zA l One).map (tpR zA l)).map kq) ([a,b],((n+1:Nat):Int),x)=if (setR zA [a,b] x).length=1 then decide (((n+1:Nat):Int)=1) else match zR (((zB4 zA l One).map (tpR zA l)).map kq) (setR zA [a,b] x) with
   |some (.int i)=>decide (i=((n+1:Nat):Int)-1)
   |_=>false:=rfl
 rw[dn];by_cases h1:(setR zA [a,b] x).length=1
 ·rw[zWz h1];have:=zCf (zGe.mpr (show One _ from h1)) fx.d;exact zXs (by omega)
 ·rw[zW2 h1];obtain ⟨p0,p1⟩:=m.step ha.1 ha.2 fx.x0 fx.x1;obtain ⟨q0,q1⟩:=m.step hb.1 hb.2 fx.x0 fx.x1;have hpq:zAt zA a x≠zAt zA b x:=fun z=>h1 (by rw[zMe z];rfl);have hq:setR zA [a,b] x∈zo (za zA):=by rw[zMl hpq];exact zO7 p0 p1 q0 q1 hpq
  have hdx:=fx.d;generalize setR zA [a,b] x=q at h1 hq hdx;cases n with
  |zero=>exact absurd (zGe.mp hdx) h1
  |succ n=>
   have hin:q∈zB4 zA l One:=zHH.mpr ⟨hq,n,hdx⟩;have hs:=zCB.mpr (show q∈(((zB4 zA l One).map (tpR zA l)).map kq).map (·.1) by rw[zGd,zOE];exact hin);cases hlk:zR (((zB4 zA l One).map (tpR zA l)).map kq) q with
   |none=>rw[hlk]at hs;cases hs
   |some d=>
    obtain ⟨s,hsm,h3,rfl⟩:=zHs hlk;obtain ⟨p',_,rfl⟩:=zW1.mp hsm;have h3:p'=q:=h3;subst h3;show decide (((zFL zA l One p':Nat):Int)=((n+1+1:Nat):Int)-1)=true;rw[zER hdx];exact zXs (by omega)
theorem zQm (ns:List Int) (h:ns.length<=63):∃ M',zHa [.ref 0] [.fro (ns.map D.int)]=some (.bl true,M'):=by
 suffices hh:Ok (zHa [.ref 0] [.fro (ns.map D.int)]) fun d _=>d=.bl true by
  obtain ⟨d,M',e,rfl⟩:=hh;exact ⟨M',e⟩
 unfold zHa;rw[zAS];unfold zQu;refine zPO (τ:=[none,none,none,none,none]) (by decide) (by decide) (by decide) h fun zA l M2 m hr1 hr2 hr3 hl g2 e02=>?_;have hR:zA.length<=26:=by omega
 have hR2:2<=zA.length:=by omega
 have l0:=m.l0;have eL:zAk (zF (toD (fC .non)) (zF (toD (fC (.int 0))) (zF (toD (fC (.int 1))) (zF (toD (fC (.bl true))) (zF (toD (fC (.str ""))) (zF (toD (fC (.str "told"))) (zF (toD (zAk zL)) (zF (toD (zAV zL)) (zF (toD zIZ) (zF (toD (zAV (zF (toD (zAV zL)) zL))) (zF (toD (zAV (zF (toD (fC .non)) zL))) (zF (toD (zAV (zF (toD (zAV (zF (toD (fC (.int 0))) (zF (toD (fC (.int 1))) zL)))) zL))) (zF (toD (zAV (zF (toD (fC (.int 0))) (zF (toD (fC (.int 1))) (zF (toD (fC (.int 0))) zL))))) (zF (toD (zAk (zF (toD (zAV (zF (toD (zAV (zF (toD (fC (.int 0))) (zF (toD (fC (.int 1))) zL)))) (zF (toD (fC (.int 1))) (zF (toD (fC (.int 0))) zL))))) zL))) zL)))))))))))))) [some (.ref 0),some (.ref 2),some (mD zA),none,none,none,none,none] M2=some (.fl [.non,.int 0,.int 1,.bl true,.str "", .str "told", .ref M2.length,.tup [],.ref (M2++[MO.lst []]).length,.tup [.tup []],.tup [.non],.tup [tI [0,1]],tI [0,1,0],.ref (M2++[MO.lst []]++[MO.dict []]).length],M2++[MO.lst []]++[MO.dict []]++[MO.lst [tD ([0,1],1,0)]]) :=
  zFj (aC' (zBC (d:=.non) rfl) (aC' (zBC (d:=.int 0) rfl) (aC' (zBC (d:=.int 1) rfl) (aC' (zBC (d:=.bl true) rfl) (aC' (zBC (d:=.str "") rfl) (aC' (zBC (d:=.str "told") rfl) (aC' (zMK (zFj rfl (by simp))) (aC' (zBC (zB1 rfl (by simp))) (aC' (zJC (f:=zIZ) rfl) (aC' (zBC (zB1 (zi (d:=.tup []) (zB1 rfl (by simp))) (by simp))) (aC' (zBC (zB1 (zi (d:=.non) rfl) (by simp))) (aC' (zBC (zB1 (zi (d:=tI [0,1]) (zB1 (ze (d:=.int 0) rfl (zi (d:=.int 1) rfl)) (by simp))) (by simp))) (aC' (zBC (zB1 (ze (d:=.int 0) rfl (ze (d:=.int 1) rfl (zi (d:=.int 0) rfl))) (by simp))) (aC' (zMK (zFj (zi (d:=tD ([0,1],1,0)) (zB1 (ze (d:=tI [0,1]) (zB1 (ze (d:=.int 0) rfl (zi (d:=.int 1) rfl)) (by simp)) (ze (d:=.int 1) rfl (zi (d:=.int 0) rfl))) (by simp))) (by simp))) rfl)))))))))))))) (by simp)
 rw[zU,zBV];refine ⟨_,_,_,zNw eL,?_⟩;have nw3:Nw M2 (M2++[MO.lst []]++[MO.dict []]++[MO.lst [tD ([0,1],1,0)]]) 2 1:=by
  have n1:=g2.lst [] rfl;have n2:Nw M2 (M2++[MO.lst []]++[MO.dict []]) 2 1:=⟨n1.gen.app fun u hu=>by rw[zXC]at hu;subst hu;rfl,by simp,fun j hj a b=>by rw[zXq,zWr hj]⟩;exact n2.trans (n2.gen.lst _ (zHr _ [([0,1],1,0)]))
 have k0:(M2++[MO.lst []]++[MO.dict []]++[MO.lst [tD ([0,1],1,0)]])[M2.length]?=some (.lst []):=by simp
 have k1:(M2++[MO.lst []]++[MO.dict []]++[MO.lst [tD ([0,1],1,0)]])[(M2++[MO.lst []]).length]?=some (.dict []):=by simp
 have k2:(M2++[MO.lst []]++[MO.dict []]++[MO.lst [tD ([0,1],1,0)]])[(M2++[MO.lst []]++[MO.dict []]).length]?=some (.lst [tD ([0,1],1,0)]):=zAD _ _;generalize M2++[MO.lst []]++[MO.dict []]++[MO.lst [tD ([0,1],1,0)]]=M3 at nw3 k0 k1 k2 eL ⊢;generalize (M2++[MO.lst []]).length=j1 at k1 eL ⊢;generalize (M2++[MO.lst []]++[MO.dict []]).length=j2 at k2 eL ⊢;generalize M2.length=j0 at k0 eL ⊢;have vs:∀ d∈[D.non,.int 0,.int 1,.bl true,.str "", .str "told", .ref j0,.tup [],.ref j1,.tup [.tup []],.tup [.non],.tup [tI [0,1]],tI [0,1,0],.ref j2],Vd M3 d/\zL9 d<=2000:=by
  intro d hd;simp only[zWw,zXF,zX5]at hd;rcases hd with rfl|rfl|rfl|rfl|rfl|rfl|rfl|rfl|rfl|rfl|rfl|rfl|rfl|rfl
  ·exact ⟨by unfold Vd;trivial,by decide⟩
  ·exact ⟨by unfold Vd;trivial,by decide⟩
  ·exact ⟨by unfold Vd;trivial,by decide⟩
  ·exact ⟨by unfold Vd;trivial,by decide⟩
  ·exact ⟨by unfold Vd;trivial,zXW _⟩
  ·exact ⟨by unfold Vd;trivial,zXW _⟩
  ·exact ⟨zK2 k0,zXW _⟩
  ·exact ⟨zEk (by simp) (by simp),by decide⟩
  ·refine ⟨?_,zXW _⟩;unfold Vd;refine ⟨"dict", ?_,.inr rfl⟩;unfold zIJ;dsimp only;rw[k1]
  ·exact ⟨zEk (by simp) fun d hd=>by rw[zXC]at hd;subst hd;exact zEk (by simp) (by simp),by decide⟩
  ·exact ⟨zEk (by simp) (by simp[Vd]),by decide⟩
  ·exact ⟨zEk (by simp) fun d hd=>by rw[zXC]at hd;subst hd;exact zHu (by simp),by decide⟩
  ·exact ⟨zHu (by simp),by decide⟩
  ·exact ⟨zK2 k2,zXW _⟩
 clear eL;refine zBr (I:=fun r σ M'=>(∀ d∈r,Vd M3 d/\zL9 d<=2000)/\(∃ y3,σ=[some (.ref 0),some (.ref 2),some (mD zA),y3,none,none,none,none])/\M'=M3) ?_ ?_ _ _ _ ⟨vs,⟨_,rfl⟩,rfl⟩
 ·rintro x r σ M' ⟨hv,⟨y3,rfl⟩,rfl⟩;refine ⟨zA2,_,rfl,?_⟩;obtain ⟨v1,v2⟩:=hv x zWy;exact zDX ((zBG (k:=true) (zr (ze (d:=mD zA) rfl (zi (d:=x) rfl)) (zMA m hR nw3.gen.wf v1 v2))).trans rfl) ⟨fun d hd=>hv d (zWx _ hd),⟨_,rfl⟩,rfl⟩
 rintro σ M' ⟨_,⟨y3,rfl⟩,rfl⟩;refine ⟨zA2,?_⟩;rw[zg];have g3:=nw3.gen;have e03:M'[0]?=some (.fro (ns.map D.int)):=nw3.get e02 (by omega) (by omega);clear vs k0 k1 k2 nw3 e02 g2;refine zC3 (zr (zi (f:=zE 2) (d:=mD zA) rfl) (zO6 m hR (by omega))) ?_;have shn:=zNM m hR;have hal:((zB4 zA l One).map (tpR zA l)).length<=676:=by rw[zWt];exact zMV hR
 have amem:=zTf m hR;rw[zRp]at shn ⊢;generalize (zB4 zA l One).map (tpR zA l)=A at shn hal amem ⊢;show OkS (zV _ _ [some (.ref 0),some (.ref 2),some (mD zA),y3,some (.tup (A.map tD)),none,none,none] M') _;rw[zU,zBV];obtain ⟨c,ec,lc⟩:=zUX (σ:=[some (.ref 0),some (.ref 2),some (mD zA),y3,some (.tup (A.map tD)),none,none,none]) (i:=8) (j:=0) rfl rfl e03;have er:=zS (k:=zAZ) (f:=fC (.int 3)) (r:=some (.dat (.int (3+((c.map D.int).length:Int))),M')) rfl (zCG ec zE9) rfl;refine ⟨_,_,_,zBs er (by omega) (by rw[zWt];omega),?_⟩;refine zGA (n:=(3+((c.map D.int).length:Int)).toNat) (I:=fun i σ M'=>(∃ y5 y6 y7,σ=[some (.ref 0),some (.ref 2),some (mD zA),y3,some (.tup (A.map tD)),y5,y6,y7])/\Gen M' 2 1) ?_ ?_ _ _ ⟨⟨_,_,_,rfl⟩,g3⟩
 ·rintro i σ B hi ⟨⟨y5,y6,y7,rfl⟩,g⟩;refine ⟨_,rfl,?_⟩;show OkS (zV _ _ [some (.ref 0),some (.ref 2),some (mD zA),y3,some (.tup (A.map tD)),some (.int (i:Int)),y6,y7] B) _;rw[zU,zm];refine zK (zKw (f:=zE 4) rfl (zAN (xs:=A.map tD))) (zAG ?_);rw[zg];show OkS (zV _ _ [some (.ref 0),some (.ref 2),some (mD zA),y3,some (.tup (A.map tD)),some (.int (i:Int)),some (.ref B.length),y7] (B++[MO.lst (A.map tD)])) _;have nw1:=g.lst (A.map tD) (zHr _ _);have e1:(B++[MO.lst (A.map tD)])[B.length]?=some (.lst (A.map tD)):=zAD _ _;obtain ⟨hb2,hb1⟩:=g.lt;generalize B++[MO.lst (A.map tD)]=B1 at nw1 e1 ⊢;generalize hjb:B.length=jb at e1 hb2 hb1 ⊢;rw[zU];refine OkS.mono (P:=fun o σ' C=>o=.nx /\ ∃ (j:Nat) (ts:List Tp),σ'=[some (.ref 0),some (.ref 2),some (mD zA),y3,some (.tup (A.map tD)),some (.int (i:Int)),some (.ref j),y7]/\Gen C 2 1/\C[j]?=some (.lst (ts.map tD))/\j≠2/\j≠1/\ts.length<=676 /\ ∀ t∈ts,Tbd zA l t) ?_ ?_
  ·rw[zBO];refine zKG.mpr (zA3.mpr (zAe (m:=2) nw1.gen rfl rfl (by omega) (by omega) fun t D1 t0 t1 nx1=>zK (a:=.dat (.int 0)) (M:=D1) rfl (zMp.mpr (zEP.mpr ?_))));by_cases ht:t=0
   ·rw[zXs ht,zWz rfl,zm];refine zC8.mpr (zK (ze (d:=.ref 2) rfl (zi (d:=mD zA) rfl)) (Ok.mono (zSW m hR (by omega) nx1.gen) ?_));rintro d D2 ⟨j,ts,rfl,hj,ej,hz,hp,nw2⟩;rw[zZ];have:=nx1.len;have:=nw1.len;exact ⟨rfl,j,ts,rfl,nw2.gen,ej,by omega,by omega,hz,hp⟩
   ·rw[zXJ ht,zW2 (by decide),zBK];exact ⟨rfl,jb,A,rfl,nx1.gen,(nx1.fr jb (by omega) (by omega)).trans e1,by omega,by omega,hal,amem⟩
  rintro o σ' C3 ⟨rfl,jq,qs,rfl,g3,e3,c2l,c1l,hz2,hp2⟩;rw[zg];clear e1 nw1 g;refine zC3 (zGM (f:=zE 6) rfl (zAJ e3)) ?_;show OkS (zV _ _ [some (.ref 0),some (.ref 2),some (mD zA),y3,some (.tup (A.map tD)),some (.int (i:Int)),some (.ref jq),some (.tup (qs.map tD))] C3) _;rw[zU];have vq:∀ M:Mem,Vd M (.tup (qs.map tD)):=fun M=>zEk (by rw[zWt];omega) (zNK hp2);have lq:zL9 (.tup (qs.map tD))<=2000:=by show (qs.map tD).length<=2000;rw[zWt];omega
  refine OkS.mono (P:=fun o σ' C=>o=.nx /\ ∃ d:D,σ'=[some (.ref 0),some (.ref 2),some (mD zA),y3,some (.tup (A.map tD)),some (.int (i:Int)),some (.ref jq),some d]/\Gen C 2 1/\Vd C d/\zL9 d<=2000) ?_ ?_
  ·have en:tst (fOp kNe (zE 6) (zAk zL)) [some (.ref 0),some (.ref 2),some (mD zA),y3,some (.tup (A.map tD)),some (.int (i:Int)),some (.ref jq),some (.tup (qs.map tD))] C3=some (!(qs.map tD).isEmpty,C3) :=
    zAU (zS (x:=.dat (.ref jq)) (y:=.fl []) rfl (zFj rfl (by simp)) (zf ((zK7 (zBl e3) (fun d hd=>by cases hd;rfl)).mpr ⟨rfl,rfl⟩)))
   cases hq:qs with
   |nil=>
    rw[hq]at en;rw[<-hq];exact zDX (zFX en) ⟨rfl,_,rfl,g3,vq _,lq⟩
   |cons q0 qr=>
    rw[<-hq];have hne:(!(qs.map tD).isEmpty)=true:=by rw[hq];rfl
    have q0l:0<qs.length:=by rw[hq];simp
    rw[hne]at en;obtain ⟨d4,C4,e4,⟨t,rfl,t0,t1⟩,nx4⟩:=zGk g3 (m:=3) (by omega) (by omega);have eg:tst (fOp kGt (zY zd (zF (toD (zE 1)) (zF (toD (fC (.int 3))) zL))) (fC (.int 0))) [some (.ref 0),some (.ref 2),some (mD zA),y3,some (.tup (A.map tD)),some (.int (i:Int)),some (.ref jq),some (.tup (qs.map tD))] C3=some (decide (0<t),C4) :=
     zAU (zJx (x:=.dat (.int t)) (y:=.dat (.int 0)) (zr (ze (d:=.ref 2) rfl (zi (d:=.int 3) rfl)) e4) rfl (zf (zVN.mpr ⟨rfl,rfl⟩)))
    clear e4;rw[zBO];refine zK (zKh en eg) ?_;have e4:C4[jq]?=some (.lst (qs.map tD)):=(nx4.fr jq (by omega) (by omega)).trans e3;by_cases ht:0<t
    ·rw[zXs ht,zWz rfl,zm];refine zC8.mpr (zK (ze (d:=.ref 2) rfl (ze (d:=mD zA) rfl (zi (d:=.ref jq) rfl))) (Ok.mono (zPu m hR (by omega) nx4.gen e4 (by omega) (by omega) hp2 q0l hz2) ?_));rintro d D2 ⟨vd,ld,nw2⟩;rw[zZ];exact ⟨rfl,d,rfl,nw2.gen,vd,ld⟩
    ·rw[zXJ ht,zW2 (by decide),zBK];exact ⟨rfl,_,rfl,nx4.gen,vq _,lq⟩
  rintro o σ' C5 ⟨rfl,d,rfl,g5,vd,ld⟩;rw[zg];exact zDX ((zBG (k:=true) (zr (ze (d:=mD zA) rfl (zi (d:=d) rfl)) (zMA m hR g5.wf vd ld))).trans rfl) ⟨⟨_,_,_,rfl⟩,g5⟩
 ·rintro σ B ⟨⟨y5,y6,y7,rfl⟩,g⟩;have es:=zEn m hR (d:=.tup (A.map tD)) g.wf (zEk (by rw[zWt];omega) (zNK amem)) (by show (A.map tD).length<=2000;rw[zWt];omega);rw[@zXs _ (Classical.propDecidable _) shn]at es;exact zx (d:=.bl true) (zS (x:=.dat (.bl true)) (y:=.dat (.bl true)) (zr (ze (d:=mD zA) rfl (zi (d:=.tup (A.map tD)) rfl)) es) rfl rfl) rfl
end Lac
set_option maxHeartbeats 4000000
namespace Lac
open PySem PySem.Spec PyProof.Rows L2 L3 Law
-- the text by places
def top (i:Nat):Stmt:=PySem.Challenge.pw_bringhome_k24_ladders_shown.main.body.getD i (.Pass ⟨0,0,0,0⟩)
abbrev zGE:Stmt:=top 1
abbrev zF0:Stmt:=top 2
abbrev zB2:Stmt:=top 3
abbrev zGz:Stmt:=top 4
abbrev zFE:Stmt:=top 5
abbrev zFh:Stmt:=top 7
abbrev zG7:Stmt:=top 9
abbrev zE0:Stmt:=top 10
abbrev zE6:Stmt:=top 11
abbrev zBQ:Stmt:=top 12
abbrev zEQ:Stmt:=top 14
abbrev zFH:Stmt:=top 15
abbrev zC9:Stmt:=top 16
abbrev zFV:Stmt:=top 17
abbrev zBw:Stmt:=top 18
abbrev zDW:Stmt:=top 19
abbrev zKY:Stmt:=top 20
abbrev zGs:Stmt:=top 21
abbrev zDf:Stmt:=top 23
abbrev zFx:Stmt:=top 24
abbrev zE3:Stmt:=top 25
abbrev zAn:Stmt:=top 26
abbrev zCC:Stmt:=top 27
abbrev zDp:Stmt:=top 28
abbrev zEO:Stmt:=top 29
abbrev zE8:Stmt:=top 30
abbrev zCv:Stmt:=top 31
abbrev zFT:Stmt:=top 32
abbrev zF9:Stmt:=top 33
abbrev zHL:Stmt:=top 34
abbrev zEf:Stmt:=top 35
abbrev zEu:Stmt:=top 36
abbrev zQM:Stmt:=top 37
structure Txt (K:PySem.W.Frag) (mg:Str->Option Value) where
  d_is_whole:Df K mg "is_whole" zGE ["thing"]
  d_is_below:Df K mg "is_below" zF0 ["thing", "many"]
  d_is_tuple_below:Df K mg "is_tuple_below" zB2 ["thing", "many"]
  d_is_set:Df K mg "is_set" zGz ["machine", "thing"]
  d_all_rooms:Df K mg "all_rooms" zFE ["machine"]
  d_stepped:Df K mg "stepped" zFh ["machine", "rooms", "letter"]
  d_is_pair:Df K mg "is_pair" zG7 ["machine", "thing"]
  d_is_triple:Df K mg "is_triple" zE0 ["machine", "thing"]
  d_goes_down:Df K mg "goes_down" zE6 ["machine", "triple", "counts"]
  d_shows_ladder:Df K mg "shows_ladder" zBQ ["machine", "told"]
  d_pairs_of:Df K mg "pairs_of" zEQ ["rooms"]
  d_ways_back:Df K mg "ways_back" zFH ["machine"]
  d_lengths_to:Df K mg "lengths_to" zC9 ["machine", "goals"]
  d_lengths:Df K mg "lengths" zFV ["machine"]
  d_first_letter:Df K mg "first_letter" zBw ["machine", "pair", "found"]
  d_rungs_to:Df K mg "rungs_to" zDW ["machine", "found"]
  d_rungs:Df K mg "rungs" zKY ["machine"]
  d_ladder:Df K mg "ladder" zGs ["machine"]
  d_law_begin:Df K mg "_law_begin" zDf ["_law_script"]
  d_law_next:Df K mg "_law_next" zFx ["_law_state", "_law_many"]
  d_law_order:Df K mg "_law_order" zE3 ["_law_state", "_law_many"]
  d_law_column:Df K mg "_law_column" zAn ["_law_state", "_law_family", "_law_rooms", "_law_letter"]
  d_law_machine:Df K mg "_law_machine" zCC ["_law_state", "_law_rooms", "_law_letters"]
  d_law_pairs:Df K mg "_law_pairs" zDp ["_law_rooms"]
  d_law_behind:Df K mg "_law_behind" zEO ["_law_machine_here", "_law_pair", "_law_letter"]
  d_law_whole:Df K mg "_law_whole" zE8 ["_law_thing"]
  d_law_is_pair:Df K mg "_law_is_pair" zCv ["_law_machine_here", "_law_thing"]
  d_law_shown:Df K mg "_law_shown" zFT ["_law_machine_here", "_law_told"]
  d_law_made:Df K mg "_law_made" zF9 ["_law_state", "_law_machine_here"]
  d_law_odd:Df K mg "_law_odd" zHL ["_law_state", "_law_machine_here", "_law_rung"]
  d_law_spoilt:Df K mg "_law_spoilt" zEf ["_law_state", "_law_machine_here", "_law_rungs"]
  d_law_right:Df K mg "_law_right" zEu ["_law_machine_here", "_law_thing"]
  d_law:Df K mg "law" zQM ["_law_script"]
  z_isinstance:mg "isinstance" = none
  z_int:mg "int" = none
  z_bool:mg "bool" = none
  z_tuple:mg "tuple" = none
  z_all:mg "all" = none
  z_len:mg "len" = none
  z_zip:mg "zip" = none
  z_range:mg "range" = none
  z_sorted:mg "sorted" = none
  z_min:mg "min" = none
  z_enumerate:mg "enumerate" = none
  z_abs:mg "abs" = none
  z_max:mg "max" = none
  z_list:mg "list" = none
  z_str:mg "str" = none
  kinds:Kinds K
section
variable {P:Program} {w:World} {K:PySem.W.Frag} {mg:Str->Option Value} {base:Heap}
abbrev zMv:List Str:=["thing"]
theorem zLe:FnScope zMv ["thing"] (zQ zGE):=⟨rfl,rfl,rfl,by decide+kernel,rfl,by decide+kernel,by decide+kernel⟩
theorem zHg (T:Txt K mg):Od P w base 1 T.d_is_whole zCg:=by
  unfold zCg;exact zAL (n:=1) T.d_is_whole.F zLe rfl (fun cdv A outer s H E hr=>by
    unfold zGJ;exact (zW (zu (zEL (zEv T.kinds (by decide) rfl T.z_isinstance rfl T.z_int (by rfl) (by decide) (by decide) (zG (pv 0)) (zC rfl) (zC rfl) (zN rfl)) (zEy (zP4 (zEv T.kinds (by decide) rfl T.z_isinstance rfl T.z_bool (by rfl) (by decide) (by decide) (zG (pv 0)) (zC rfl) (zC rfl) (zN rfl))))))))
abbrev zLs:List Str:=["machine"]
theorem zKJ:FnScope zLs ["machine"] (zQ zFE):=⟨rfl,rfl,rfl,by decide+kernel,rfl,by decide+kernel,by decide+kernel⟩
theorem zGy (T:Txt K mg):Od P w base 1 T.d_all_rooms zBp:=by
  unfold zBp;exact zAL (n:=1) T.d_all_rooms.F zKJ rfl (fun cdv A outer s H E hr=>by
    unfold zEt;exact (zW (zu (zUA rfl rfl T.z_tuple rfl T.z_range (zA5 rfl T.z_len (zc (zG (pv 0)) zj (zC rfl)) (zC rfl) rfl) (zC rfl) rfl (zC rfl) rfl))))
abbrev zJ4:List Str:=["machine", "rooms", "letter", "room"]
theorem zIo:FnScope zJ4 ["machine", "rooms", "letter"] (zQ zFh):=⟨rfl,rfl,rfl,by decide+kernel,rfl,by decide+kernel,by decide+kernel⟩
theorem zF5 (T:Txt K mg):Od P w base 1 T.d_stepped zBz:=by
  unfold zBz;exact zKj (zAL (n:=3) T.d_stepped.F zIo rfl (fun cdv A outer s H E hr=>by
    unfold zHG;exact (zW (zu (zDc rfl T.z_tuple (zc (zSX rfl rfl T.z_sorted (zUD (zw (i:=3) (by decide)) (zp (sc:=zQ zFh) (N:=zJ4) rfl rfl rfl (by decide+kernel) (by decide+kernel)) rfl (zBD (zG (pv 1))) ⟨fun _ _ _ _ _=>(zv (i:=3) zIo.nd rfl),fun _ _ _ _ _=>zAz,fun _ _ _ _ _=>(zAb (zAb (zG (pv 0)) (zG (pv 3))) (zG (pv 2)))⟩) (zC rfl) rfl) zj (zC rfl)) (zC rfl) rfl)))))
abbrev zIB:List Str:=["rooms", "one", "other"]
theorem zFC:FnScope zIB ["rooms"] (zQ zEQ):=⟨rfl,rfl,rfl,by decide+kernel,rfl,by decide+kernel,by decide+kernel⟩
theorem zHT (T:Txt K mg):Od P w base 1 T.d_pairs_of zBu:=by
  unfold zBu;exact zAL (n:=1) T.d_pairs_of.F zFC rfl (fun cdv A outer s H E hr=>by
    unfold zGC;exact (zW (zu (zTF (by decide) (zw (i:=1) (by decide)) (zw (i:=2) (by decide)) (zp (sc:=zQ zEQ) (N:=zIB) rfl rfl rfl (by decide+kernel) (by decide+kernel)) rfl (zBD (zG (pv 0))) ⟨fun _ _ _ _ _=>(zv (i:=1) zFC.nd rfl),fun _ _ _ _ _=>zAz,fun _ _ _ _ _=>(zBD (zG (pv 0))),fun _ _ _ _ _=>(zv (i:=2) zFC.nd rfl),fun _ _ _ _ _=>(zLB (zR4 (zG (pv 1)) (zG (pv 2)))),fun _ _ _ _ _=>(zAm (zD (zI (zG (pv 1))) (zD (zI (zG (pv 2))) zJ (zC rfl)) (zC rfl))),fun _ _ _ _ _ _=>rfl⟩))))
abbrev zHf:List Str:=["_law_script", "_law_seed", "_law_cell"]
theorem zCR:FnScope zHf ["_law_script"] (zQ zDf):=⟨rfl,rfl,rfl,by decide+kernel,rfl,by decide+kernel,by decide+kernel⟩
theorem zKs (T:Txt K mg):Od P w base 1 T.d_law_begin zCJ:=by
  unfold zCJ;exact zAL (n:=1) T.d_law_begin.F zCR rfl (fun cdv A outer s H E hr=>by
    unfold zFQ;exact (zO (zBB (i:=1) zCR.nd rfl (zA4 (zA5 rfl T.z_len (zc (zG (pv 0)) zj (zC rfl)) (zC rfl) rfl) zP))
    (zO (zDn zBM zYD rfl (zBD (zCr (zG (pv 0)) zCq (zCt zP))) (zv (i:=2) zCR.nd rfl) (zW (zBB (i:=1) zCR.nd rfl (zFv (zA4 (zA4 (zRI (zG (pv 1)) zP) (zFv (zG (pv 2)) (zNy zP zP))) zP) zP))))
    (zW (zu (zBg (zD (zI (zBZ (zw (i:=2) (by decide)) (zp (sc:=zQ zDf) (N:=zHf) rfl rfl rfl (by decide+kernel) (by decide+kernel)) rfl (zBD (zCr (zG (pv 0)) zCq (zCt zP))) ⟨fun _ _ _ _ _=>(zv (i:=2) zCR.nd rfl),fun _ _ _ _ _=>(zLB (zVY (zTc rfl T.z_abs (zc (zG (pv 2)) zj (zC rfl)) (zC rfl) rfl) (zNy zP zP))),fun _ _ _ _ _=>(zTc rfl T.z_abs (zc (zG (pv 2)) zj (zC rfl)) (zC rfl) rfl)⟩)) (zD (zI (zG (pv 1))) zJ (zC rfl)) (zC rfl))))))))
abbrev zNV:List Str:=["_law_state", "_law_many", "_law_digit"]
theorem zHR:FnScope zNV ["_law_state", "_law_many"] (zQ zFx):=⟨rfl,rfl,rfl,by decide+kernel,rfl,by decide+kernel,by decide+kernel⟩
theorem zk (T:Txt K mg):Od P w base 1 T.d_law_next zd:=by
  unfold zd;exact zAL (n:=2) T.d_law_next.F zHR rfl (fun cdv A outer s H E hr=>by
    unfold zF2;exact (zO (zN4 100 zYD (zFk (zEN (zGv hr.units0 (zAb (zG (pv 0)) zP) (zBg zJ)) (zDk (zBt hr.units0 (zAb (zAb (zG (pv 0)) zP) zP) zP)))) (zW (zFO (zV8 (zAb (zG (pv 0)) zP) (zD (zI zP) zJ (zC rfl))))))
    (zO (zBv (zGv hr.units0 (zAb (zG (pv 0)) zP) (zBg zJ)) (zO (zBB (i:=2) zHR.nd rfl (zFv (zAb (zAb (zG (pv 0)) zP) zP) (zG (pv 1))))
    (zO (zIb (zQw (zAb (zAb (zG (pv 0)) zP) zP) (zG (pv 1))) (zAb (zG (pv 0)) zP) zP)
    (zW (zu (zG (pv 2)))))) zAK)
    (zO (zIb (zFv (zA4 (zRI (zAb (zG (pv 0)) zP) zP) zP) zP) (zG (pv 0)) zP)
    (zW (zu (zFv (zQw (zFv (zRI (zAb (zG (pv 0)) zP) (zAb (zG (pv 0)) zP)) zP) zP) (zG (pv 1)))))))))
abbrev zHZ:List Str:=["_law_rooms", "_law_found", "_law_k", "_law_other"]
theorem zDI:FnScope zHZ ["_law_rooms"] (zQ zDp):=⟨rfl,rfl,rfl,by decide+kernel,rfl,by decide+kernel,by decide+kernel⟩
theorem zKC (T:Txt K mg):Od P w base 1 T.d_law_pairs zCz:=by
  unfold zCz;exact zAL (n:=1) T.d_law_pairs.F zDI rfl (fun cdv A outer s H E hr=>by
    unfold zEw;exact (zO (zBB (i:=1) zDI.nd rfl (zBg zJ))
    (zO (zDn zBM zYD rfl (zAW rfl T.z_range (zD (zI (zA5 rfl T.z_len (zc (zG (pv 0)) zj (zC rfl)) (zC rfl) rfl)) zJ (zC rfl)) (zH zM) (zAd rfl)) (zv (i:=2) zDI.nd rfl) (zW (zFO (zRZ (zG (pv 1)) (zD (zI (zBZ (zw (i:=3) (by decide)) (zp (sc:=zQ zDp) (N:=zHZ) rfl rfl rfl (by decide+kernel) (by decide+kernel)) rfl (zBD (zCr (zG (pv 0)) (zCt (zA4 (zG (pv 2)) zP)) zCq)) ⟨fun _ _ _ _ _=>(zv (i:=3) zDI.nd rfl),fun _ _ _ _ _=>zAz,fun _ _ _ _ _=>(zAm (zD (zI (zAb (zG (pv 0)) (zG (pv 2)))) (zD (zI (zG (pv 3))) zJ (zC rfl)) (zC rfl)))⟩)) zJ (zC rfl))))))
    (zW (zu (zG (pv 1)))))))
abbrev zLE:List Str:=["_law_machine_here", "_law_pair", "_law_letter", "_law_one", "_law_other"]
theorem zDw:FnScope zLE ["_law_machine_here", "_law_pair", "_law_letter"] (zQ zEO):=⟨rfl,rfl,rfl,by decide+kernel,rfl,by decide+kernel,by decide+kernel⟩
theorem zFu (T:Txt K mg):Od P w base 1 T.d_law_behind zBU:=by
  unfold zBU;exact zKj (zAL (n:=3) T.d_law_behind.F zDw rfl (fun cdv A outer s H E hr=>by
    unfold zEd;exact (zO (zBB (i:=3) zDw.nd rfl (zAb (zAb (zG (pv 0)) (zAb (zG (pv 1)) zP)) (zG (pv 2))))
    (zO (zBB (i:=4) zDw.nd rfl (zAb (zAb (zG (pv 0)) (zAb (zG (pv 1)) zP)) (zG (pv 2))))
    (zW (zu (zAm (zD (zI (zU2 rfl rfl T.z_min (zc (zG (pv 3)) (zc (zG (pv 4)) zj (zC rfl)) (zC rfl)) (zC rfl) (zN rfl))) (zD (zI (zUK rfl rfl T.z_max (zc (zG (pv 3)) (zc (zG (pv 4)) zj (zC rfl)) (zC rfl)) (zC rfl) (zN rfl))) zJ (zC rfl)) (zC rfl)))))))))
abbrev zLy:List Str:=["_law_thing"]
theorem zLH:FnScope zLy ["_law_thing"] (zQ zE8):=⟨rfl,rfl,rfl,by decide+kernel,rfl,by decide+kernel,by decide+kernel⟩
theorem zEK (T:Txt K mg):Od P w base 1 T.d_law_whole zAg:=by
  unfold zAg;exact zAL (n:=1) T.d_law_whole.F zLH rfl (fun cdv A outer s H E hr=>by
    unfold zFD;exact (zW (zu (zEL (zEv T.kinds (by decide) rfl T.z_isinstance rfl T.z_int (by rfl) (by decide) (by decide) (zG (pv 0)) (zC rfl) (zC rfl) (zN rfl)) (zEy (zP4 (zEv T.kinds (by decide) rfl T.z_isinstance rfl T.z_bool (by rfl) (by decide) (by decide) (zG (pv 0)) (zC rfl) (zC rfl) (zN rfl))))))))
abbrev zMn:List Str:=["thing", "many"]
theorem zMP:FnScope zMn ["thing", "many"] (zQ zF0):=⟨rfl,rfl,rfl,by decide+kernel,rfl,by decide+kernel,by decide+kernel⟩
theorem zHQ (T:Txt K mg):Od P w base 2 T.d_is_below zCh:=by
  unfold zCh;exact zAL (n:=2) T.d_is_below.F zMP rfl (fun cdv A outer s H E hr=>by
    unfold zF4;exact (zW (zu (zEL (zAQ (zHg T) (hr.mono (by omega)) rfl (zD (zI (zG (pv 0))) zJ (zC rfl)) (zH zM) (by decide) (zC rfl) (zN rfl)) (zEy (zSU (zCo fun _ _ _ _=>zBW) (zCo fun _ _ _ _=>zBW) zQg zJi zP (zG (pv 0)) (zG (pv 1))))))))
abbrev zLh:List Str:=["machine", "triple", "counts", "pair", "many", "letter", "goal"]
theorem zCV:FnScope zLh ["machine", "triple", "counts"] (zQ zE6):=⟨rfl,rfl,rfl,by decide+kernel,rfl,by decide+kernel,by decide+kernel⟩
theorem zKI (T:Txt K mg):Od P w base 2 T.d_goes_down zCK:=by
  unfold zCK;exact zAL (n:=3) T.d_goes_down.F zCV rfl (fun cdv A outer s H E hr=>by
    unfold zE4;exact (zO (zOT zKp (zG (pv 1)) (zD0 rfl (zAF (zv (i:=3) zCV.nd rfl) (zAF (zv (i:=4) zCV.nd rfl) (zAF (zv (i:=5) zCV.nd rfl) zCs)))))
    (zO (zBB (i:=6) zCV.nd rfl (zAQ (zF5 T) (hr.mono (by omega)) rfl (zD (zI (zG (pv 0))) (zD (zI (zG (pv 3))) (zD (zI (zG (pv 5))) zJ (zC rfl)) (zC rfl)) (zC rfl)) (zH (zH (zH zM))) (by decide) (zC rfl) (zN rfl)))
    (zO (zBv (zBt hr.units0 (zA5 rfl T.z_len (zc (zG (pv 6)) zj (zC rfl)) (zC rfl) rfl) zP) (zW (zu (zPm hr.units0 (zG (pv 4)) zP))) zAK)
    (zW (zu (zEL (zVi (zBb hr) (zG (pv 6)) (zG (pv 2))) (zEy (zPm hr.units0 (zE1 (zBb hr) (zG (pv 2)) (zG (pv 6))) (zIC (zG (pv 4)) zP))))))))))
abbrev zLL:List Str:=["machine", "sources", "pair", "letter", "goal"]
theorem zCW:FnScope zLL ["machine"] (zQ zFH):=⟨rfl,rfl,rfl,by decide+kernel,rfl,by decide+kernel,by decide+kernel⟩
theorem zK0 (T:Txt K mg):Od P w base 2 T.d_ways_back zCy:=by
  unfold zCy;exact zAL (n:=1) T.d_ways_back.F zCW rfl (fun cdv A outer s H E hr=>by
    unfold zFS;exact (zO (zBB (i:=1) zCW.nd rfl zKx)
    (zO (zDn zBM zYD rfl (zBD (zAQ (zHT T) (hr.mono (by omega)) rfl (zD (zI (zAQ (zGy T) (hr.mono (by omega)) rfl (zD (zI (zG (pv 0))) zJ (zC rfl)) (zH zM) (by decide) (zC rfl) (zN rfl))) zJ (zC rfl)) (zH zM) (by decide) (zC rfl) (zN rfl))) (zv (i:=2) zCW.nd rfl) (zW (zDn zBM zYD rfl (zAW rfl T.z_range (zD (zI (zA5 rfl T.z_len (zc (zAb (zG (pv 0)) zP) zj (zC rfl)) (zC rfl) rfl)) zJ (zC rfl)) (zH zM) (zAd rfl)) (zv (i:=3) zCW.nd rfl) (zO (zBB (i:=4) zCW.nd rfl (zAQ (zF5 T) (hr.mono (by omega)) rfl (zD (zI (zG (pv 0))) (zD (zI (zG (pv 2))) (zD (zI (zG (pv 3))) zJ (zC rfl)) (zC rfl)) (zC rfl)) (zH (zH (zH zM))) (by decide) (zC rfl) (zN rfl)))
    (zO (zBv (zFi (zBb hr) (zG (pv 4)) (zG (pv 1))) (zW (zKz (zBb hr) (zBg zJ) (zG (pv 1)) (zG (pv 4)))) zAK)
    (zW (zFO (zGm (zE1 (zBb hr) (zG (pv 1)) (zG (pv 4))) (zD (zI (zG (pv 2))) zJ (zC rfl))))))))))
    (zW (zu (zG (pv 1)))))))
abbrev zDY:List Str:=["machine", "pair", "found", "goals", "letter", "goal"]
theorem zBe:FnScope zDY ["machine", "pair", "found"] (zQ zBw):=⟨rfl,rfl,rfl,by decide+kernel,rfl,by decide+kernel,by decide+kernel⟩
theorem zHm (T:Txt K mg):Od P w base 2 T.d_first_letter zAq:=by
  unfold zAq;exact zAL (n:=3) T.d_first_letter.F zBe rfl (fun cdv A outer s H E hr=>by
    unfold zDU;exact (zO (zHB (i:=3) zBe.nd rfl (by first|exact Or.inl rfl|exact Or.inr rfl) (by first|exact .inl rfl|exact .inr rfl) rfl (zw (i:=4) (by decide)) (zp (sc:=zQ zBw) (N:=zDY) rfl rfl rfl (by decide+kernel) (by decide+kernel)) rfl (zAW rfl T.z_range (zD (zI (zA5 rfl T.z_len (zc (zAb (zG (pv 0)) zP) zj (zC rfl)) (zC rfl) rfl)) zJ (zC rfl)) (zH zM) (zAd rfl)) ⟨fun _ _ _ _ _=>(zv (i:=4) zBe.nd rfl),fun _ _ _ _ _=>zAz,fun _ _ _ _ _=>(zAQ (zF5 T) (hr.mono (by omega)) rfl (zD (zI (zG (pv 0))) (zD (zI (zG (pv 1))) (zD (zI (zG (pv 4))) zJ (zC rfl)) (zC rfl)) (zC rfl)) (zH (zH (zH zM))) (by decide) (zC rfl) (zN rfl))⟩)
    (zW (zu (zVG rfl rfl T.z_min (zc (zBZ (zJd (i:=4) (j:=5) (by decide) (by decide)) (zp (sc:=zQ zBw) (N:=zDY) rfl rfl rfl (by decide+kernel) (by decide+kernel)) rfl (zS8 rfl T.z_enumerate (zG (pv 3)) (zC rfl) rfl) ⟨fun _ _ _ _ _=>(zD0 rfl (zAF (zv (i:=4) zBe.nd rfl) (zAF (zv (i:=5) zBe.nd rfl) zCs))),fun _ _ _ _ _=>(zLB (zFk (zEN (zMo (zBb hr) (zG (pv 5)) (zG (pv 2))) (zDk (zBt hr.units0 (zE1 (zBb hr) (zG (pv 2)) (zG (pv 5))) (zIC (zE1 (zBb hr) (zG (pv 2)) (zG (pv 1))) zP)))))),fun _ _ _ _ _=>(zG (pv 4))⟩) zj (zC rfl)) (zC rfl) rfl)))))
abbrev zMF:List Str:=["_law_state", "_law_many", "_law_order_here", "_law_k"]
theorem zEW:FnScope zMF ["_law_state", "_law_many"] (zQ zE3):=⟨rfl,rfl,rfl,by decide+kernel,rfl,by decide+kernel,by decide+kernel⟩
theorem zGR (T:Txt K mg):Od P w base 2 T.d_law_order zBT:=by
  unfold zBT;exact zAL (n:=2) T.d_law_order.F zEW rfl (fun cdv A outer s H E hr=>by
    unfold zDv;exact (zO (zBB (i:=2) zEW.nd rfl (zBg zJ))
    (zO (zDn zBM zYD rfl (zAW rfl T.z_range (zD (zI (zG (pv 1))) zJ (zC rfl)) (zH zM) (zAd rfl)) (zv (i:=3) zEW.nd rfl) (zW (zFO (zLS (zG (pv 2)) (zD (zI (zAQ (zk T) (hr.mono (by omega)) rfl (zD (zI (zG (pv 0))) (zD (zI (zA4 (zG (pv 3)) zP)) zJ (zC rfl)) (zC rfl)) (zH (zH zM)) (by decide) (zC rfl) (zN rfl))) (zD (zI (zG (pv 3))) zJ (zC rfl)) (zC rfl))))))
    (zW (zu (zG (pv 2)))))))
abbrev zFn:List Str:=["_law_machine_here", "_law_thing", "_law_one"]
theorem zFB:FnScope zFn ["_law_machine_here", "_law_thing"] (zQ zCv):=⟨rfl,rfl,rfl,by decide+kernel,rfl,by decide+kernel,by decide+kernel⟩
theorem zIM (T:Txt K mg):Od P w base 2 T.d_law_is_pair zBj:=by
  unfold zBj;exact zAL (n:=2) T.d_law_is_pair.F zFB rfl (fun cdv A outer s H E hr=>by
    unfold zD5;exact (zO (zBv (zFk (zFA (zCU (zCm (zEv T.kinds (by decide) rfl T.z_isinstance rfl T.z_tuple (by rfl) (by decide) (by decide) (zG (pv 1)) (zC rfl) (zC rfl) (zN rfl)))) (zFA (zGv hr.units0 (zA5 rfl T.z_len (zc (zG (pv 1)) zj (zC rfl)) (zC rfl) rfl) zP) (zFI (zCU (zCm (zMH rfl rfl T.z_all (zc (zBZ (zw (i:=2) (by decide)) (zp (sc:=zQ zCv) (N:=zFn) rfl rfl rfl (by decide+kernel) (by decide+kernel)) rfl (zBD (zG (pv 1))) ⟨fun _ _ _ _ _=>(zv (i:=2) zFB.nd rfl),fun _ _ _ _ _=>zAz,fun _ _ _ _ _=>(zAQ (zEK T) (hr.mono (by omega)) rfl (zD (zI (zG (pv 2))) zJ (zC rfl)) (zH zM) (by decide) (zC rfl) (zN rfl))⟩) zj (zC rfl)) (zC rfl) rfl))))))) (zW (zu zD3)) zAK)
    (zW (zu (zQL (zCo fun _ _ _ _=>zBW) (zCo fun _ _ _ _=>zBW) (zCo fun _ _ _ _=>zBW) zQg zJi zJi zP (zAb (zG (pv 1)) zP) (zAb (zG (pv 1)) zP) (zA5 rfl T.z_len (zc (zG (pv 0)) zj (zC rfl)) (zC rfl) rfl))))))
abbrev zPE:List Str:=["_law_state", "_law_machine_here", "_law_rung", "_law_pair", "_law_many", "_law_letter", "_law_one", "_law_other", "_law_pairs_here", "_law_numbers", "_law_letters", "_law_whole_here", "_law_way"]
theorem zAu:FnScope zPE ["_law_state", "_law_machine_here", "_law_rung"] (zQ zHL):=⟨rfl,rfl,rfl,by decide+kernel,rfl,by decide+kernel,by decide+kernel⟩
theorem zNQ (T:Txt K mg):Od P w base 2 T.d_law_odd zDM:=by
  unfold zDM;exact zAL (n:=3) T.d_law_odd.F zAu rfl (fun cdv A outer s H E hr=>by
    unfold zHM;exact (zO (zOT zKp (zG (pv 2)) (zD0 rfl (zAF (zv (i:=3) zAu.nd rfl) (zAF (zv (i:=4) zAu.nd rfl) (zAF (zv (i:=5) zAu.nd rfl) zCs)))))
    (zO (zOT zMi (zG (pv 3)) (zD0 rfl (zAF (zv (i:=6) zAu.nd rfl) (zAF (zv (i:=7) zAu.nd rfl) zCs))))
    (zO (zBB (i:=8) zAu.nd rfl (zBg (zD (zI (zAm (zD (zI (zG (pv 7))) (zD (zI (zG (pv 6))) zJ (zC rfl)) (zC rfl)))) (zD (zI (zAm (zD (zI (zG (pv 6))) (zD (zI (zG (pv 6))) zJ (zC rfl)) (zC rfl)))) (zD (zI (zBg (zD (zI (zG (pv 6))) (zD (zI (zG (pv 7))) zJ (zC rfl)) (zC rfl)))) (zD (zI (zAm (zD (zI (zG (pv 6))) zJ (zC rfl)))) (zD (zI (zAm (zD (zI (zG (pv 6))) (zD (zI (zG (pv 7))) (zD (zI (zG (pv 7))) zJ (zC rfl)) (zC rfl)) (zC rfl)))) (zD (zI (zAm (zD (zI (zG (pv 6))) (zD (zI (zA5 rfl T.z_len (zc (zG (pv 1)) zj (zC rfl)) (zC rfl) rfl)) zJ (zC rfl)) (zC rfl)))) (zD (zI (zAm (zD (zI (zP0 zP)) (zD (zI (zG (pv 7))) zJ (zC rfl)) (zC rfl)))) zJ (zC rfl)) (zC rfl)) (zC rfl)) (zC rfl)) (zC rfl)) (zC rfl)) (zC rfl))))
    (zO (zBB (i:=8) zAu.nd rfl (zG1 (zG (pv 8)) (zBg (zD (zI (zAm (zD (zI (zG (pv 6))) (zD (zI (zRq rfl T.z_str (zc (zG (pv 7)) zj (zC rfl)) (zC rfl) rfl)) zJ (zC rfl)) (zC rfl)))) (zD (zI zJ6) (zD (zI (zG (pv 6))) (zD (zI (zAm zJ)) (zD (zI (zAm (zD (zI zD3) (zD (zI (zG (pv 7))) zJ (zC rfl)) (zC rfl)))) (zD (zI (zAm (zD (zI (zG (pv 6))) (zD (zI zD3) zJ (zC rfl)) (zC rfl)))) zJ (zC rfl)) (zC rfl)) (zC rfl)) (zC rfl)) (zC rfl)) (zC rfl)))))
    (zO (zBB (i:=9) zAu.nd rfl (zBg (zD (zI (zA4 (zG (pv 4)) zP)) (zD (zI (zIC (zG (pv 4)) zP)) (zD (zI zP) (zD (zI (zP0 zP)) (zD (zI zD3) (zD (zI zJ6) (zD (zI (zRq rfl T.z_str (zc (zG (pv 4)) zj (zC rfl)) (zC rfl) rfl)) (zD (zI (zAm (zD (zI (zG (pv 4))) zJ (zC rfl)))) (zD (zI (zNy zP zP)) (zD (zI (zA4 (zG (pv 4)) zP)) zJ (zC rfl)) (zC rfl)) (zC rfl)) (zC rfl)) (zC rfl)) (zC rfl)) (zC rfl)) (zC rfl)) (zC rfl)) (zC rfl))))
    (zO (zBB (i:=10) zAu.nd rfl (zBg (zD (zI (zA5 rfl T.z_len (zc (zAb (zG (pv 1)) zP) zj (zC rfl)) (zC rfl) rfl)) (zD (zI (zP0 zP)) (zD (zI zD3) (zD (zI zD3) (zD (zI zJ6) (zD (zI zOL) (zD (zI (zAm (zD (zI (zG (pv 5))) zJ (zC rfl)))) (zD (zI (zFv (zA4 (zG (pv 5)) zP) (zA5 rfl T.z_len (zc (zAb (zG (pv 1)) zP) zj (zC rfl)) (zC rfl) rfl))) (zD (zI (zNy zP zP)) zJ (zC rfl)) (zC rfl)) (zC rfl)) (zC rfl)) (zC rfl)) (zC rfl)) (zC rfl)) (zC rfl)) (zC rfl))))
    (zO (zBB (i:=11) zAu.nd rfl (zBg (zD (zI (zMm rfl T.z_list (zc (zG (pv 2)) zj (zC rfl)) (zC rfl) rfl)) (zD (zI (zCr (zG (pv 2)) zCq (zCt zP))) (zD (zI (zA4 (zG (pv 2)) (zAm (zD (zI zP) zJ (zC rfl))))) (zD (zI (zAm (zD (zI (zG (pv 4))) (zD (zI (zG (pv 3))) (zD (zI (zG (pv 5))) zJ (zC rfl)) (zC rfl)) (zC rfl)))) (zD (zI zJ6) (zD (zI zP) (zD (zI zOL) (zD (zI (zAm zJ)) (zD (zI (zG (pv 3))) zJ (zC rfl)) (zC rfl)) (zC rfl)) (zC rfl)) (zC rfl)) (zC rfl)) (zC rfl)) (zC rfl)) (zC rfl))))
    (zO (zBB (i:=12) zAu.nd rfl (zAQ (zk T) (hr.mono (by omega)) rfl (zD (zI (zG (pv 0))) (zD (zI zP) zJ (zC rfl)) (zC rfl)) (zH (zH zM)) (by decide) (zC rfl) (zN rfl)))
    (zO (zBv (zBt hr.units0 (zG (pv 12)) zP) (zW (zu (zAm (zD (zI (zAb (zG (pv 8)) (zAQ (zk T) (hr.mono (by omega)) rfl (zD (zI (zG (pv 0))) (zD (zI (zA5 rfl T.z_len (zc (zG (pv 8)) zj (zC rfl)) (zC rfl) rfl)) zJ (zC rfl)) (zC rfl)) (zH (zH zM)) (by decide) (zC rfl) (zN rfl)))) (zD (zI (zG (pv 4))) (zD (zI (zG (pv 5))) zJ (zC rfl)) (zC rfl)) (zC rfl))))) zAK)
    (zO (zBv (zBt hr.units0 (zG (pv 12)) zP) (zW (zu (zAm (zD (zI (zG (pv 3))) (zD (zI (zAb (zG (pv 9)) (zAQ (zk T) (hr.mono (by omega)) rfl (zD (zI (zG (pv 0))) (zD (zI (zA5 rfl T.z_len (zc (zG (pv 9)) zj (zC rfl)) (zC rfl) rfl)) zJ (zC rfl)) (zC rfl)) (zH (zH zM)) (by decide) (zC rfl) (zN rfl)))) (zD (zI (zG (pv 5))) zJ (zC rfl)) (zC rfl)) (zC rfl))))) zAK)
    (zO (zBv (zBt hr.units0 (zG (pv 12)) zP) (zW (zu (zAm (zD (zI (zG (pv 3))) (zD (zI (zG (pv 4))) (zD (zI (zAb (zG (pv 10)) (zAQ (zk T) (hr.mono (by omega)) rfl (zD (zI (zG (pv 0))) (zD (zI (zA5 rfl T.z_len (zc (zG (pv 10)) zj (zC rfl)) (zC rfl) rfl)) zJ (zC rfl)) (zC rfl)) (zH (zH zM)) (by decide) (zC rfl) (zN rfl)))) zJ (zC rfl)) (zC rfl)) (zC rfl))))) zAK)
    (zW (zu (zAb (zG (pv 11)) (zAQ (zk T) (hr.mono (by omega)) rfl (zD (zI (zG (pv 0))) (zD (zI (zA5 rfl T.z_len (zc (zG (pv 11)) zj (zC rfl)) (zC rfl) rfl)) zJ (zC rfl)) (zC rfl)) (zH (zH zM)) (by decide) (zC rfl) (zN rfl)))))))))))))))))
abbrev zEI:List Str:=["thing", "many", "part"]
theorem zDt:FnScope zEI ["thing", "many"] (zQ zB2):=⟨rfl,rfl,rfl,by decide+kernel,rfl,by decide+kernel,by decide+kernel⟩
theorem zGj (T:Txt K mg):Od P w base 3 T.d_is_tuple_below zBS:=by
  unfold zBS;exact zAL (n:=2) T.d_is_tuple_below.F zDt rfl (fun cdv A outer s H E hr=>by
    unfold zCj;exact (zW (zu (zEL (zEv T.kinds (by decide) rfl T.z_isinstance rfl T.z_tuple (by rfl) (by decide) (by decide) (zG (pv 0)) (zC rfl) (zC rfl) (zN rfl)) (zEy (zMH rfl rfl T.z_all (zc (zBZ (zw (i:=2) (by decide)) (zp (sc:=zQ zB2) (N:=zEI) rfl rfl rfl (by decide+kernel) (by decide+kernel)) rfl (zBD (zG (pv 0))) ⟨fun _ _ _ _ _=>(zv (i:=2) zDt.nd rfl),fun _ _ _ _ _=>zAz,fun _ _ _ _ _=>(zAQ (zHQ T) (hr.mono (by omega)) rfl (zD (zI (zG (pv 2))) (zD (zI (zG (pv 1))) zJ (zC rfl)) (zC rfl)) (zH (zH zM)) (by decide) (zC rfl) (zN rfl))⟩) zj (zC rfl)) (zC rfl) rfl))))))
abbrev zGw:List Str:=["machine", "goals", "sources", "level", "found", "goal", "behind", "pair"]
theorem zAo:FnScope zGw ["machine", "goals"] (zQ zC9):=⟨rfl,rfl,rfl,by decide+kernel,rfl,by decide+kernel,by decide+kernel⟩
theorem zJG (T:Txt K mg):Od P w base 3 T.d_lengths_to zCS:=by
  unfold zCS;exact zAL (n:=2) T.d_lengths_to.F zAo rfl (fun cdv A outer s H E hr=>by
    unfold zEU;exact (zO (zBB (i:=2) zAo.nd rfl (zAQ (zK0 T) (hr.mono (by omega)) rfl (zD (zI (zG (pv 0))) zJ (zC rfl)) (zH zM) (by decide) (zC rfl) (zN rfl)))
    (zO (zBB (i:=3) zAo.nd rfl (zG (pv 1)))
    (zO (zMx (i:=4) (isT:=true) zAo.nd rfl (by first|exact Or.inl rfl|exact Or.inr rfl) (by first|exact .inl rfl|exact .inr rfl) rfl (zBb hr) (zw (i:=5) (by decide)) (zp (sc:=zQ zC9) (N:=zGw) rfl rfl rfl (by decide+kernel) (by decide+kernel)) rfl (zBD (zG (pv 1))) ⟨fun _ _ _ _ _=>(zv (i:=5) zAo.nd rfl),fun _ _ _ _ _=>zAz,fun _ _ _ _ _=>(zG (pv 5))⟩ (fun _ _ _ _ _=>zP))
    (zO (zN4 1000 zYD (zS9 (zG (pv 3))) (zO (zBB (i:=6) zAo.nd rfl (zBg zJ))
    (zO (zDn zBM zYD rfl (zBD (zG (pv 3))) (zv (i:=5) zAo.nd rfl) (zW (zDn zBM zYD rfl (zBD (zOZ (zBb hr) (zG (pv 2)) (zG (pv 5)) (zBg zJ) ⟨rfl,rfl,rfl,rfl⟩)) (zv (i:=7) zAo.nd rfl) (zW (zBv (zFi (zBb hr) (zG (pv 7)) (zG (pv 4))) (zO (zKz (zBb hr) (zA4 (zE1 (zBb hr) (zG (pv 4)) (zG (pv 5))) zP) (zG (pv 4)) (zG (pv 7)))
    (zW (zFO (zGm (zG (pv 6)) (zD (zI (zG (pv 7))) zJ (zC rfl)))))) zAK)))))
    (zW (zBB (i:=3) zAo.nd rfl (zG (pv 6)))))))
    (zW (zu (zG (pv 4)))))))))
abbrev zGB:List Str:=["machine", "found", "pairs", "pair"]
theorem zDl:FnScope zGB ["machine", "found"] (zQ zDW):=⟨rfl,rfl,rfl,by decide+kernel,rfl,by decide+kernel,by decide+kernel⟩
theorem zLm (T:Txt K mg):Od P w base 3 T.d_rungs_to zCk:=by
  unfold zCk;exact zAL (n:=2) T.d_rungs_to.F zDl rfl (fun cdv A outer s H E hr=>by
    unfold zGK;exact (zO (zHB (i:=2) zDl.nd rfl (by first|exact Or.inl rfl|exact Or.inr rfl) (by first|exact .inl rfl|exact .inr rfl) rfl (zw (i:=3) (by decide)) (zp (sc:=zQ zDW) (N:=zGB) rfl rfl rfl (by decide+kernel) (by decide+kernel)) rfl (zBD (zAQ (zHT T) (hr.mono (by omega)) rfl (zD (zI (zAQ (zGy T) (hr.mono (by omega)) rfl (zD (zI (zG (pv 0))) zJ (zC rfl)) (zH zM) (by decide) (zC rfl) (zN rfl))) zJ (zC rfl)) (zH zM) (by decide) (zC rfl) (zN rfl))) ⟨fun _ _ _ _ _=>(zv (i:=3) zDl.nd rfl),fun _ _ _ _ _=>(zLB (zRP (zOZ (zBb hr) (zG (pv 1)) (zG (pv 3)) zP ⟨rfl,rfl,rfl,rfl⟩) zP)),fun _ _ _ _ _=>(zG (pv 3))⟩)
    (zW (zu (zOC (isT:=true) (zBb hr) (zw (i:=3) (by decide)) (zp (sc:=zQ zDW) (N:=zGB) rfl rfl rfl (by decide+kernel) (by decide+kernel)) rfl (zBD (zG (pv 2))) ⟨fun _ _ _ _ _=>(zv (i:=3) zDl.nd rfl),fun _ _ _ _ _=>zAz,fun _ _ _ _ _=>(zG (pv 3))⟩ (fun _ _ _ _ _=>(zAm (zD (zI (zE1 (zBb hr) (zG (pv 1)) (zG (pv 3)))) (zD (zI (zAQ (zHm T) (hr.mono (by omega)) rfl (zD (zI (zG (pv 0))) (zD (zI (zG (pv 3))) (zD (zI (zG (pv 1))) zJ (zC rfl)) (zC rfl)) (zC rfl)) (zH (zH (zH zM))) (by decide) (zC rfl) (zN rfl))) zJ (zC rfl)) (zC rfl)))))))))
abbrev zBE:List Str:=["_law_state", "_law_family", "_law_rooms", "_law_letter", "_law_room", "_law_half", "_law_ahead", "_law_far", "_law_order_here", "_law_goal"]
theorem zAE:FnScope zBE ["_law_state", "_law_family", "_law_rooms", "_law_letter"] (zQ zAn):=⟨rfl,rfl,rfl,by decide+kernel,rfl,by decide+kernel,by decide+kernel⟩
theorem zJS (T:Txt K mg):Od P w base 3 T.d_law_column zCQ:=by
  unfold zCQ;exact zAL (n:=4) T.d_law_column.F zAE rfl (fun cdv A outer s H E hr=>by
    unfold zEa;exact (zO (zBv (zBt hr.units0 (zG (pv 1)) zP) (zW (zu (zBZ (zw (i:=4) (by decide)) (zp (sc:=zQ zAn) (N:=zBE) rfl rfl rfl (by decide+kernel) (by decide+kernel)) rfl (zAW rfl T.z_range (zD (zI (zG (pv 2))) zJ (zC rfl)) (zH zM) (zAd rfl)) ⟨fun _ _ _ _ _=>(zv (i:=4) zAE.nd rfl),fun _ _ _ _ _=>zAz,fun _ _ _ _ _=>(zAQ (zk T) (hr.mono (by omega)) rfl (zD (zI (zG (pv 0))) (zD (zI (zG (pv 2))) zJ (zC rfl)) (zC rfl)) (zH (zH zM)) (by decide) (zC rfl) (zN rfl))⟩))) zAK)
    (zO (zBv (zBt hr.units0 (zG (pv 1)) zP) (zW (zu (zBZ (zw (i:=4) (by decide)) (zp (sc:=zQ zAn) (N:=zBE) rfl rfl rfl (by decide+kernel) (by decide+kernel)) rfl (zAW rfl T.z_range (zD (zI (zG (pv 2))) zJ (zC rfl)) (zH zM) (zAd rfl)) ⟨fun _ _ _ _ _=>(zv (i:=4) zAE.nd rfl),fun _ _ _ _ _=>zAz,fun _ _ _ _ _=>(zFv (zA4 (zG (pv 4)) (zAQ (zk T) (hr.mono (by omega)) rfl (zD (zI (zG (pv 0))) (zD (zI zP) zJ (zC rfl)) (zC rfl)) (zH (zH zM)) (by decide) (zC rfl) (zN rfl))) (zG (pv 2)))⟩))) zAK)
    (zO (zBv (zBt hr.units0 (zG (pv 1)) zP) (zO (zBB (i:=5) zAE.nd rfl (zQw (zA4 (zG (pv 2)) zP) zP))
    (zO (zHB (i:=6) zAE.nd rfl (by first|exact Or.inl rfl|exact Or.inr rfl) (by first|exact .inl rfl|exact .inr rfl) rfl (zw (i:=4) (by decide)) (zp (sc:=zQ zAn) (N:=zBE) rfl rfl rfl (by decide+kernel) (by decide+kernel)) rfl (zAW rfl T.z_range (zD (zI (zG (pv 5))) zJ (zC rfl)) (zH zM) (zAd rfl)) ⟨fun _ _ _ _ _=>(zv (i:=4) zAE.nd rfl),fun _ _ _ _ _=>zAz,fun _ _ _ _ _=>(zAQ (zk T) (hr.mono (by omega)) rfl (zD (zI (zG (pv 0))) (zD (zI (zG (pv 5))) zJ (zC rfl)) (zC rfl)) (zH (zH zM)) (by decide) (zC rfl) (zN rfl))⟩)
    (zW (zu (zG1 (zG (pv 6)) (zBZ (zw (i:=4) (by decide)) (zp (sc:=zQ zAn) (N:=zBE) rfl rfl rfl (by decide+kernel) (by decide+kernel)) rfl (zAW rfl T.z_range (zD (zI (zIC (zG (pv 2)) (zG (pv 5)))) zJ (zC rfl)) (zH zM) (zAd rfl)) ⟨fun _ _ _ _ _=>(zv (i:=4) zAE.nd rfl),fun _ _ _ _ _=>zAz,fun _ _ _ _ _=>(zA4 (zG (pv 5)) (zAQ (zk T) (hr.mono (by omega)) rfl (zD (zI (zG (pv 0))) (zD (zI (zIC (zG (pv 2)) (zG (pv 5)))) zJ (zC rfl)) (zC rfl)) (zH (zH zM)) (by decide) (zC rfl) (zN rfl)))⟩)))))) zAK)
    (zO (zBv (zFk (zEN (zBt hr.units0 (zG (pv 1)) zP) (zDk (zBt hr.units0 (zG (pv 3)) zP)))) (zW (zu (zBZ (zw (i:=4) (by decide)) (zp (sc:=zQ zAn) (N:=zBE) rfl rfl rfl (by decide+kernel) (by decide+kernel)) rfl (zAW rfl T.z_range (zD (zI (zG (pv 2))) zJ (zC rfl)) (zH zM) (zAd rfl)) ⟨fun _ _ _ _ _=>(zv (i:=4) zAE.nd rfl),fun _ _ _ _ _=>zAz,fun _ _ _ _ _=>(zFv (zA4 (zG (pv 4)) zP) (zG (pv 2)))⟩))) zAK)
    (zO (zBv (zBt hr.units0 (zG (pv 1)) zP) (zW (zu (zBZ (zw (i:=4) (by decide)) (zp (sc:=zQ zAn) (N:=zBE) rfl rfl rfl (by decide+kernel) (by decide+kernel)) rfl (zAW rfl T.z_range (zD (zI (zG (pv 2))) zJ (zC rfl)) (zH zM) (zAd rfl)) ⟨fun _ _ _ _ _=>(zv (i:=4) zAE.nd rfl),fun _ _ _ _ _=>zAz,fun _ _ _ _ _=>(zAb (zBg (zD (zI (zG (pv 4))) (zD (zI zP) zJ (zC rfl)) (zC rfl))) (zR5 rfl T.z_int (zc (zPm hr.units0 (zG (pv 4)) (zIC (zG (pv 2)) zP)) zj (zC rfl)) (zC rfl) rfl))⟩))) zAK)
    (zO (zBv (zFk (zFA (zBt hr.units0 (zG (pv 1)) zP) (zFI (zBt hr.units0 (zG (pv 1)) zP)))) (zO (zBB (i:=7) zAE.nd rfl (zAQ (zk T) (hr.mono (by omega)) rfl (zD (zI (zG (pv 0))) (zD (zI (zG (pv 2))) zJ (zC rfl)) (zC rfl)) (zH (zH zM)) (by decide) (zC rfl) (zN rfl)))
    (zW (zu (zBZ (zw (i:=4) (by decide)) (zp (sc:=zQ zAn) (N:=zBE) rfl rfl rfl (by decide+kernel) (by decide+kernel)) rfl (zAW rfl T.z_range (zD (zI (zG (pv 2))) zJ (zC rfl)) (zH zM) (zAd rfl)) ⟨fun _ _ _ _ _=>(zv (i:=4) zAE.nd rfl),fun _ _ _ _ _=>zAz,fun _ _ _ _ _=>(zAb (zBg (zD (zI (zFv (zA4 (zG (pv 4)) (zG (pv 7))) (zG (pv 2)))) (zD (zI (zG (pv 7))) zJ (zC rfl)) (zC rfl))) (zR5 rfl T.z_int (zc (zPm hr.units0 (zG (pv 1)) zP) zj (zC rfl)) (zC rfl) rfl))⟩)))) zAK)
    (zO (zBB (i:=8) zAE.nd rfl (zAQ (zGR T) (hr.mono (by omega)) rfl (zD (zI (zG (pv 0))) (zD (zI (zG (pv 2))) zJ (zC rfl)) (zC rfl)) (zH (zH zM)) (by decide) (zC rfl) (zN rfl)))
    (zO (zBv (zFk (zEN (zBt hr.units0 (zG (pv 1)) zP) (zDk (zBt hr.units0 (zG (pv 3)) zP)))) (zO (zBB (i:=9) zAE.nd rfl (zAb (zG (pv 8)) (zAQ (zk T) (hr.mono (by omega)) rfl (zD (zI (zG (pv 0))) (zD (zI (zG (pv 2))) zJ (zC rfl)) (zC rfl)) (zH (zH zM)) (by decide) (zC rfl) (zN rfl))))
    (zW (zIb (zG (pv 9)) (zG (pv 8)) (zAQ (zk T) (hr.mono (by omega)) rfl (zD (zI (zG (pv 0))) (zD (zI (zG (pv 2))) zJ (zC rfl)) (zC rfl)) (zH (zH zM)) (by decide) (zC rfl) (zN rfl))))) zAK)
    (zW (zu (zG (pv 8)))))))))))))
abbrev zL8:List Str:=["_law_machine_here", "_law_told", "_law_known", "_law_one", "_law_pair", "_law_many", "_law_letter", "_law_goal"]
theorem zBY:FnScope zL8 ["_law_machine_here", "_law_told"] (zQ zFT):=⟨rfl,rfl,rfl,by decide+kernel,rfl,by decide+kernel,by decide+kernel⟩
theorem zKT (T:Txt K mg):Od P w base 3 T.d_law_shown zCx:=by
  unfold zCx;exact zKW (zAL (n:=2) T.d_law_shown.F zBY rfl (fun cdv A outer s H E hr=>by
    unfold zFP;exact (zO (zBv (zCU (zCm (zEv T.kinds (by decide) rfl T.z_isinstance rfl T.z_tuple (by rfl) (by decide) (by decide) (zG (pv 1)) (zC rfl) (zC rfl) (zN rfl)))) (zW (zu zD3)) zAK)
    (zO (zBB (i:=2) zBY.nd rfl zKx)
    (zO (zDn zBM zYD rfl (zBD (zG (pv 1))) (zv (i:=3) zBY.nd rfl) (zO (zBv (zFk (zFA (zCU (zCm (zEv T.kinds (by decide) rfl T.z_isinstance rfl T.z_tuple (by rfl) (by decide) (by decide) (zG (pv 3)) (zC rfl) (zC rfl) (zN rfl)))) (zFA (zGv hr.units0 (zA5 rfl T.z_len (zc (zG (pv 3)) zj (zC rfl)) (zC rfl) rfl) zP) (zFI (zCU (zCm (zAQ (zIM T) (hr.mono (by omega)) rfl (zD (zI (zG (pv 0))) (zD (zI (zAb (zG (pv 3)) zP)) zJ (zC rfl)) (zC rfl)) (zH (zH zM)) (by decide) (zC rfl) (zN rfl)))))))) (zW (zu zD3)) zAK)
    (zO (zBv (zFk (zFA (zCU (zCm (zAQ (zEK T) (hr.mono (by omega)) rfl (zD (zI (zAb (zG (pv 3)) zP)) zJ (zC rfl)) (zH zM) (by decide) (zC rfl) (zN rfl)))) (zFA (zCU (zCm (zAQ (zEK T) (hr.mono (by omega)) rfl (zD (zI (zAb (zG (pv 3)) zP)) zJ (zC rfl)) (zH zM) (by decide) (zC rfl) (zN rfl)))) (zFI (zCU (zQe (zCo fun _ _ _ _=>zBW) (zCo fun _ _ _ _=>zBW) zQg zJi zP (zAb (zG (pv 3)) zP) (zA5 rfl T.z_len (zc (zAb (zG (pv 0)) zP) zj (zC rfl)) (zC rfl) rfl))))))) (zW (zu zD3)) zAK)
    (zO (zBv (zMo (zBb hr) (zAb (zG (pv 3)) zP) (zG (pv 2))) (zW (zu zD3)) zAK)
    (zW (zKz (zBb hr) (zAb (zG (pv 3)) zP) (zG (pv 2)) (zAb (zG (pv 3)) zP)))))))
    (zO (zDn zKp zYD rfl (zBD (zG (pv 1))) (zD0 rfl (zAF (zv (i:=4) zBY.nd rfl) (zAF (zv (i:=5) zBY.nd rfl) (zAF (zv (i:=6) zBY.nd rfl) zCs)))) (zO (zBB (i:=7) zBY.nd rfl (zAQ (zFu T) (hr.mono (by omega)) rfl (zD (zI (zG (pv 0))) (zD (zI (zG (pv 4))) (zD (zI (zG (pv 6))) zJ (zC rfl)) (zC rfl)) (zC rfl)) (zH (zH (zH zM))) (by decide) (zC rfl) (zN rfl)))
    (zO (zBv (zFk (zEN (zBt hr.units0 (zAb (zG (pv 7)) zP) (zAb (zG (pv 7)) zP)) (zDk (zGv hr.units0 (zG (pv 5)) zP)))) (zW (zu zD3)) zAK)
    (zW (zBv (zFk (zEN (zR4 (zAb (zG (pv 7)) zP) (zAb (zG (pv 7)) zP)) (zDk (zFk (zFA (zFi (zBb hr) (zG (pv 7)) (zG (pv 2))) (zFI (zGv hr.units0 (zE1 (zBb hr) (zG (pv 2)) (zG (pv 7))) (zIC (zG (pv 5)) zP)))))))) (zW (zu zD3)) zAK)))))
    (zW (zu zD3))))))))
abbrev zMz:List Str:=["_law_state", "_law_machine_here", "_law_pairs_here", "_law_order_here", "_law_known", "_law_rungs", "_law_turn", "_law_k", "_law_pair", "_law_ways", "_law_letter", "_law_goal", "_law_many"]
theorem zAX:FnScope zMz ["_law_state", "_law_machine_here"] (zQ zF9):=⟨rfl,rfl,rfl,by decide+kernel,rfl,by decide+kernel,by decide+kernel⟩
theorem zMa (T:Txt K mg):Od P w base 3 T.d_law_made zDP:=by
  unfold zDP;exact zAL (n:=2) T.d_law_made.F zAX rfl (fun cdv A outer s H E hr=>by
    unfold zF1;exact (zO (zBB (i:=2) zAX.nd rfl (zAQ (zKC T) (hr.mono (by omega)) rfl (zD (zI (zTs rfl rfl T.z_list rfl T.z_range (zA5 rfl T.z_len (zc (zG (pv 1)) zj (zC rfl)) (zC rfl) rfl) (zC rfl) rfl (zC rfl) rfl)) zJ (zC rfl)) (zH zM) (by decide) (zC rfl) (zN rfl)))
    (zO (zBB (i:=3) zAX.nd rfl (zAQ (zGR T) (hr.mono (by omega)) rfl (zD (zI (zG (pv 0))) (zD (zI (zA5 rfl T.z_len (zc (zG (pv 2)) zj (zC rfl)) (zC rfl) rfl)) zJ (zC rfl)) (zC rfl)) (zH (zH zM)) (by decide) (zC rfl) (zN rfl)))
    (zO (zBB (i:=4) zAX.nd rfl zKx)
    (zO (zBB (i:=5) zAX.nd rfl (zBg zJ))
    (zO (zDn zBM zYD rfl (zAW rfl T.z_range (zD (zI zP) zJ (zC rfl)) (zH zM) (zAd rfl)) (zv (i:=6) zAX.nd rfl) (zW (zDn zBM zYD rfl (zBD (zG (pv 3))) (zv (i:=7) zAX.nd rfl) (zO (zBB (i:=8) zAX.nd rfl (zAb (zG (pv 2)) (zG (pv 7))))
    (zO (zBB (i:=9) zAX.nd rfl (zBg zJ))
    (zO (zDn zBM zYD rfl (zAW rfl T.z_range (zD (zI (zA5 rfl T.z_len (zc (zAb (zG (pv 1)) zP) zj (zC rfl)) (zC rfl) rfl)) zJ (zC rfl)) (zH zM) (zAd rfl)) (zv (i:=10) zAX.nd rfl) (zO (zBB (i:=11) zAX.nd rfl (zAQ (zFu T) (hr.mono (by omega)) rfl (zD (zI (zG (pv 1))) (zD (zI (zG (pv 8))) (zD (zI (zG (pv 10))) zJ (zC rfl)) (zC rfl)) (zC rfl)) (zH (zH (zH zM))) (by decide) (zC rfl) (zN rfl)))
    (zW (zBv (zBt hr.units0 (zAb (zG (pv 11)) zP) (zAb (zG (pv 11)) zP)) (zW (zFO (zGm (zG (pv 9)) (zD (zI (zAm (zD (zI zP) (zD (zI (zG (pv 10))) zJ (zC rfl)) (zC rfl)))) zJ (zC rfl))))) (zW (zBv (zMo (zBb hr) (zG (pv 11)) (zG (pv 4))) (zW (zFO (zGm (zG (pv 9)) (zD (zI (zAm (zD (zI (zA4 (zE1 (zBb hr) (zG (pv 4)) (zG (pv 11))) zP)) (zD (zI (zG (pv 10))) zJ (zC rfl)) (zC rfl)))) zJ (zC rfl))))) zAK))))))
    (zW (zBv (zFk (zEN (zFi (zBb hr) (zG (pv 8)) (zG (pv 4))) (zEN (zGv hr.units0 (zG (pv 9)) (zBg zJ)) (zDk (zRP (zAQ (zk T) (hr.mono (by omega)) rfl (zD (zI (zG (pv 0))) (zD (zI zP) zJ (zC rfl)) (zC rfl)) (zH (zH zM)) (by decide) (zC rfl) (zN rfl)) zP))))) (zO (zOT zMi (zAb (zG (pv 9)) (zAQ (zk T) (hr.mono (by omega)) rfl (zD (zI (zG (pv 0))) (zD (zI (zA5 rfl T.z_len (zc (zG (pv 9)) zj (zC rfl)) (zC rfl) rfl)) zJ (zC rfl)) (zC rfl)) (zH (zH zM)) (by decide) (zC rfl) (zN rfl))) (zD0 rfl (zAF (zv (i:=12) zAX.nd rfl) (zAF (zv (i:=10) zAX.nd rfl) zCs))))
    (zO (zKz (zBb hr) (zG (pv 12)) (zG (pv 4)) (zG (pv 8)))
    (zW (zFO (zLS (zG (pv 5)) (zD (zI (zAQ (zk T) (hr.mono (by omega)) rfl (zD (zI (zG (pv 0))) (zD (zI (zA4 (zA5 rfl T.z_len (zc (zG (pv 5)) zj (zC rfl)) (zC rfl) rfl) zP)) zJ (zC rfl)) (zC rfl)) (zH (zH zM)) (by decide) (zC rfl) (zN rfl))) (zD (zI (zAm (zD (zI (zG (pv 8))) (zD (zI (zG (pv 12))) (zD (zI (zG (pv 10))) zJ (zC rfl)) (zC rfl)) (zC rfl)))) zJ (zC rfl)) (zC rfl))))))) zAK))))))))
    (zW (zu (zG (pv 5))))))))))
abbrev zKV:List Str:=["_law_state", "_law_machine_here", "_law_rungs", "_law_at", "_law_way"]
theorem zD2:FnScope zKV ["_law_state", "_law_machine_here", "_law_rungs"] (zQ zEf):=⟨rfl,rfl,rfl,by decide+kernel,rfl,by decide+kernel,by decide+kernel⟩
theorem zJO (T:Txt K mg):Od P w base 3 T.d_law_spoilt zCa:=by
  unfold zCa;exact zAL (n:=3) T.d_law_spoilt.F zD2 rfl (fun cdv A outer s H E hr=>by
    unfold zEZ;exact (zO (zBB (i:=3) zD2.nd rfl (zAQ (zk T) (hr.mono (by omega)) rfl (zD (zI (zG (pv 0))) (zD (zI (zA5 rfl T.z_len (zc (zG (pv 2)) zj (zC rfl)) (zC rfl) rfl)) zJ (zC rfl)) (zC rfl)) (zH (zH zM)) (by decide) (zC rfl) (zN rfl)))
    (zO (zBB (i:=4) zD2.nd rfl (zAQ (zk T) (hr.mono (by omega)) rfl (zD (zI (zG (pv 0))) (zD (zI zP) zJ (zC rfl)) (zC rfl)) (zH (zH zM)) (by decide) (zC rfl) (zN rfl)))
    (zO (zBv (zBt hr.units0 (zG (pv 4)) zP) (zW (zu (zDc rfl T.z_tuple (zc (zG1 (zCr (zG (pv 2)) zCq (zCt (zG (pv 3)))) (zCr (zG (pv 2)) (zCt (zA4 (zG (pv 3)) zP)) zCq)) zj (zC rfl)) (zC rfl) rfl))) zAK)
    (zO (zBv (zBt hr.units0 (zG (pv 4)) zP) (zW (zu (zDc rfl T.z_tuple (zc (zG1 (zG (pv 2)) (zBg (zD (zI (zAb (zG (pv 2)) (zG (pv 3)))) zJ (zC rfl)))) zj (zC rfl)) (zC rfl) rfl))) zAK)
    (zO (zBv (zBt hr.units0 (zG (pv 4)) zP) (zW (zu (zMm rfl T.z_list (zc (zG (pv 2)) zj (zC rfl)) (zC rfl) rfl))) zAK)
    (zW (zu (zDc rfl T.z_tuple (zc (zG1 (zG1 (zCr (zG (pv 2)) zCq (zCt (zG (pv 3)))) (zBg (zD (zI (zAQ (zNQ T) (hr.mono (by omega)) rfl (zD (zI (zG (pv 0))) (zD (zI (zG (pv 1))) (zD (zI (zAb (zG (pv 2)) (zG (pv 3)))) zJ (zC rfl)) (zC rfl)) (zC rfl)) (zH (zH (zH zM))) (by decide) (zC rfl) (zN rfl))) zJ (zC rfl)))) (zCr (zG (pv 2)) (zCt (zA4 (zG (pv 3)) zP)) zCq)) zj (zC rfl)) (zC rfl) rfl)))))))))
abbrev zLk:List Str:=["machine", "thing", "one", "other"]
theorem zHO:FnScope zLk ["machine", "thing"] (zQ zGz):=⟨rfl,rfl,rfl,by decide+kernel,rfl,by decide+kernel,by decide+kernel⟩
theorem zPJ (T:Txt K mg):Od P w base 4 T.d_is_set zDa:=by
  unfold zDa;exact zAL (n:=2) T.d_is_set.F zHO rfl (fun cdv A outer s H E hr=>by
    unfold zEx;exact (zO (zBv (zFk (zFA (zCU (zCm (zAQ (zGj T) (hr.mono (by omega)) rfl (zD (zI (zG (pv 1))) (zD (zI (zA5 rfl T.z_len (zc (zG (pv 0)) zj (zC rfl)) (zC rfl) rfl)) zJ (zC rfl)) (zC rfl)) (zH (zH zM)) (by decide) (zC rfl) (zN rfl)))) (zFI (zBt hr.units0 (zA5 rfl T.z_len (zc (zG (pv 1)) zj (zC rfl)) (zC rfl) rfl) zP)))) (zW (zu zD3)) zAK)
    (zW (zu (zMH rfl rfl T.z_all (zc (zBZ (zJd (i:=2) (j:=3) (by decide) (by decide)) (zp (sc:=zQ zGz) (N:=zLk) rfl rfl rfl (by decide+kernel) (by decide+kernel)) rfl (zU8 rfl T.z_zip (zD (zI (zG (pv 1))) (zD (zI (zCr (zG (pv 1)) (zCt zP) zCq)) zJ (zC rfl)) (zC rfl)) (zSA rfl rfl) (zAd rfl)) ⟨fun _ _ _ _ _=>(zD0 rfl (zAF (zv (i:=2) zHO.nd rfl) (zAF (zv (i:=3) zHO.nd rfl) zCs))),fun _ _ _ _ _=>zAz,fun _ _ _ _ _=>(zWU (zG (pv 2)) (zG (pv 3)))⟩) zj (zC rfl)) (zC rfl) rfl)))))
abbrev zJ9:List Str:=["machine", "room"]
theorem zH2:FnScope zJ9 ["machine"] (zQ zFV):=⟨rfl,rfl,rfl,by decide+kernel,rfl,by decide+kernel,by decide+kernel⟩
theorem zNg (T:Txt K mg):Od P w base 4 T.d_lengths zDK:=by
  unfold zDK;exact zAL (n:=1) T.d_lengths.F zH2 rfl (fun cdv A outer s H E hr=>by
    unfold zG4;exact (zW (zu (zAQ (zJG T) (hr.mono (by omega)) rfl (zD (zI (zG (pv 0))) (zD (zI (zBZ (zw (i:=1) (by decide)) (zp (sc:=zQ zFV) (N:=zJ9) rfl rfl rfl (by decide+kernel) (by decide+kernel)) rfl (zAW rfl T.z_range (zD (zI (zA5 rfl T.z_len (zc (zG (pv 0)) zj (zC rfl)) (zC rfl) rfl)) zJ (zC rfl)) (zH zM) (zAd rfl)) ⟨fun _ _ _ _ _=>(zv (i:=1) zH2.nd rfl),fun _ _ _ _ _=>zAz,fun _ _ _ _ _=>(zAm (zD (zI (zG (pv 1))) zJ (zC rfl)))⟩)) zJ (zC rfl)) (zC rfl)) (zH (zH zM)) (by decide) (zC rfl) (zN rfl)))))
abbrev zCu:List Str:=["_law_state", "_law_rooms", "_law_letters", "_law_family", "_law_columns", "_law_letter", "_law_column_here", "_law_room"]
theorem zBR:FnScope zCu ["_law_state", "_law_rooms", "_law_letters"] (zQ zCC):=⟨rfl,rfl,rfl,by decide+kernel,rfl,by decide+kernel,by decide+kernel⟩
theorem zIu (T:Txt K mg):Od P w base 4 T.d_law_machine zBi:=by
  unfold zBi;exact zKW (zAL (n:=3) T.d_law_machine.F zBR rfl (fun cdv A outer s H E hr=>by
    unfold zDy;exact (zO (zBB (i:=3) zBR.nd rfl (zAQ (zk T) (hr.mono (by omega)) rfl (zD (zI (zG (pv 0))) (zD (zI zP) zJ (zC rfl)) (zC rfl)) (zH (zH zM)) (by decide) (zC rfl) (zN rfl)))
    (zO (zBB (i:=4) zBR.nd rfl (zBZ (zw (i:=5) (by decide)) (zp (sc:=zQ zCC) (N:=zCu) rfl rfl rfl (by decide+kernel) (by decide+kernel)) rfl (zAW rfl T.z_range (zD (zI (zG (pv 2))) zJ (zC rfl)) (zH zM) (zAd rfl)) ⟨fun _ _ _ _ _=>(zv (i:=5) zBR.nd rfl),fun _ _ _ _ _=>zAz,fun _ _ _ _ _=>(zAQ (zJS T) (hr.mono (by omega)) rfl (zD (zI (zG (pv 0))) (zD (zI (zG (pv 3))) (zD (zI (zG (pv 1))) (zD (zI (zG (pv 5))) zJ (zC rfl)) (zC rfl)) (zC rfl)) (zC rfl)) (zH (zH (zH (zH zM)))) (by decide) (zC rfl) (zN rfl))⟩))
    (zW (zu (zDc rfl T.z_tuple (zc (zBZ (zw (i:=7) (by decide)) (zp (sc:=zQ zCC) (N:=zCu) rfl rfl rfl (by decide+kernel) (by decide+kernel)) rfl (zAW rfl T.z_range (zD (zI (zG (pv 1))) zJ (zC rfl)) (zH zM) (zAd rfl)) ⟨fun _ _ _ _ _=>(zv (i:=7) zBR.nd rfl),fun _ _ _ _ _=>zAz,fun _ _ _ _ _=>(zDc rfl T.z_tuple (zc (zBZ (zw (i:=6) (by decide)) (zp (N:=zCu) rfl rfl rfl (by rfl) (by decide+kernel)) rfl (zBD (zG (pv 4))) ⟨fun _ _ _ _ _=>(zv (i:=6) zBR.nd rfl),fun _ _ _ _ _=>zAz,fun _ _ _ _ _=>(zAb (zG (pv 6)) (zG (pv 7)))⟩) zj (zC rfl)) (zC rfl) rfl)⟩) zj (zC rfl)) (zC rfl) rfl)))))))
abbrev zPt:List Str:=["machine", "thing"]
theorem zNN:FnScope zPt ["machine", "thing"] (zQ zG7):=⟨rfl,rfl,rfl,by decide+kernel,rfl,by decide+kernel,by decide+kernel⟩
theorem zM5 (T:Txt K mg):Od P w base 5 T.d_is_pair zEF:=by
  unfold zEF;exact zAL (n:=2) T.d_is_pair.F zNN rfl (fun cdv A outer s H E hr=>by
    unfold zHF;exact (zW (zu (zEL (zAQ (zPJ T) (hr.mono (by omega)) rfl (zD (zI (zG (pv 0))) (zD (zI (zG (pv 1))) zJ (zC rfl)) (zC rfl)) (zH (zH zM)) (by decide) (zC rfl) (zN rfl)) (zEy (zPm hr.units0 (zA5 rfl T.z_len (zc (zG (pv 1)) zj (zC rfl)) (zC rfl) rfl) zP))))))
abbrev zTI:List Str:=["machine"]
theorem zRJ:FnScope zTI ["machine"] (zQ zKY):=⟨rfl,rfl,rfl,by decide+kernel,rfl,by decide+kernel,by decide+kernel⟩
theorem zRl (T:Txt K mg):Od P w base 5 T.d_rungs zGa:=by
  unfold zGa;exact zAL (n:=1) T.d_rungs.F zRJ rfl (fun cdv A outer s H E hr=>by
    unfold zKS;exact (zW (zu (zAQ (zLm T) (hr.mono (by omega)) rfl (zD (zI (zG (pv 0))) (zD (zI (zAQ (zNg T) (hr.mono (by omega)) rfl (zD (zI (zG (pv 0))) zJ (zC rfl)) (zH zM) (by decide) (zC rfl) (zN rfl))) zJ (zC rfl)) (zC rfl)) (zH (zH zM)) (by decide) (zC rfl) (zN rfl)))))
abbrev zMd:List Str:=["machine", "thing"]
theorem zKF:FnScope zMd ["machine", "thing"] (zQ zE0):=⟨rfl,rfl,rfl,by decide+kernel,rfl,by decide+kernel,by decide+kernel⟩
theorem zKb (T:Txt K mg):Od P w base 6 T.d_is_triple zCH:=by
  unfold zCH;exact zAL (n:=2) T.d_is_triple.F zKF rfl (fun cdv A outer s H E hr=>by
    unfold zFJ;exact (zO (zBv (zFk (zFA (zCU (zCm (zEv T.kinds (by decide) rfl T.z_isinstance rfl T.z_tuple (by rfl) (by decide) (by decide) (zG (pv 1)) (zC rfl) (zC rfl) (zN rfl)))) (zFI (zGv hr.units0 (zA5 rfl T.z_len (zc (zG (pv 1)) zj (zC rfl)) (zC rfl) rfl) zP)))) (zW (zu zD3)) zAK)
    (zW (zu (zEL (zAQ (zM5 T) (hr.mono (by omega)) rfl (zD (zI (zG (pv 0))) (zD (zI (zAb (zG (pv 1)) zP)) zJ (zC rfl)) (zC rfl)) (zH (zH zM)) (by decide) (zC rfl) (zN rfl)) (zEL (zAQ (zHg T) (hr.mono (by omega)) rfl (zD (zI (zAb (zG (pv 1)) zP)) zJ (zC rfl)) (zH zM) (by decide) (zC rfl) (zN rfl)) (zEy (zAQ (zHQ T) (hr.mono (by omega)) rfl (zD (zI (zAb (zG (pv 1)) zP)) (zD (zI (zA5 rfl T.z_len (zc (zAb (zG (pv 0)) zP) zj (zC rfl)) (zC rfl) rfl)) zJ (zC rfl)) (zC rfl)) (zH (zH zM)) (by decide) (zC rfl) (zN rfl)))))))))
abbrev zMU:List Str:=["machine", "pair", "many", "letter"]
theorem zFY:FnScope zMU ["machine"] (zQ zGs):=⟨rfl,rfl,rfl,by decide+kernel,rfl,by decide+kernel,by decide+kernel⟩
theorem zOw (T:Txt K mg):Od P w base 6 T.d_ladder zE2:=by
  unfold zE2;exact zKj (zAL (n:=1) T.d_ladder.F zFY rfl (fun cdv A outer s H E hr=>by
    unfold zIt;exact (zW (zu (zDc rfl T.z_tuple (zc (zBZ (zPN (i:=1) (j:=2) (k:=3) (by decide) (by decide) (by decide)) (zp (sc:=zQ zGs) (N:=zMU) rfl rfl rfl (by decide+kernel) (by decide+kernel)) rfl (zSI (zAQ (zRl T) (hr.mono (by omega)) rfl (zD (zI (zG (pv 0))) zJ (zC rfl)) (zH zM) (by decide) (zC rfl) (zN rfl))) ⟨fun _ _ _ _ _=>(zD0 rfl (zAF (zv (i:=1) zFY.nd rfl) (zAF (zD0 rfl (zAF (zv (i:=2) zFY.nd rfl) (zAF (zv (i:=3) zFY.nd rfl) zCs))) zCs))),fun _ _ _ _ _=>zAz,fun _ _ _ _ _=>(zAm (zD (zI (zG (pv 1))) (zD (zI (zG (pv 2))) (zD (zI (zG (pv 3))) zJ (zC rfl)) (zC rfl)) (zC rfl)))⟩) zj (zC rfl)) (zC rfl) rfl)))))
abbrev zCZ:List Str:=["machine", "told", "triple", "counts", "pair", "many", "letter"]
theorem zAy:FnScope zCZ ["machine", "told"] (zQ zBQ):=⟨rfl,rfl,rfl,by decide+kernel,rfl,by decide+kernel,by decide+kernel⟩
theorem zEh (T:Txt K mg):Od P w base 7 T.d_shows_ladder zBP:=by
  unfold zBP;exact zKW (zAL (n:=2) T.d_shows_ladder.F zAy rfl (fun cdv A outer s H E hr=>by
    unfold zDR;exact (zO (zBv (zFk (zFA (zCU (zCm (zEv T.kinds (by decide) rfl T.z_isinstance rfl T.z_tuple (by rfl) (by decide) (by decide) (zG (pv 1)) (zC rfl) (zC rfl) (zN rfl)))) (zFI (zCU (zCm (zMH rfl rfl T.z_all (zc (zBZ (zw (i:=2) (by decide)) (zp (sc:=zQ zBQ) (N:=zCZ) rfl rfl rfl (by decide+kernel) (by decide+kernel)) rfl (zBD (zG (pv 1))) ⟨fun _ _ _ _ _=>(zv (i:=2) zAy.nd rfl),fun _ _ _ _ _=>zAz,fun _ _ _ _ _=>(zAQ (zKb T) (hr.mono (by omega)) rfl (zD (zI (zG (pv 0))) (zD (zI (zG (pv 2))) zJ (zC rfl)) (zC rfl)) (zH (zH zM)) (by decide) (zC rfl) (zN rfl))⟩) zj (zC rfl)) (zC rfl) rfl)))))) (zW (zu zD3)) zAK)
    (zO (zBB (i:=3) zAy.nd rfl (zOC (isT:=true) (zBb hr) (zQ9 (i:=4) (j:=5) (k:=6) (by decide) (by decide) (by decide)) (zp (sc:=zQ zBQ) (N:=zCZ) rfl rfl rfl (by decide+kernel) (by decide+kernel)) rfl (zBD (zG (pv 1))) ⟨fun _ _ _ _ _=>(zD0 rfl (zAF (zv (i:=4) zAy.nd rfl) (zAF (zv (i:=5) zAy.nd rfl) (zAF (zv (i:=6) zAy.nd rfl) zCs)))),fun _ _ _ _ _=>zAz,fun _ _ _ _ _=>(zG (pv 4))⟩ (fun _ _ _ _ _=>(zG (pv 5)))))
    (zO (zBv (zR4 (zUI rfl T.z_len (zc (zG (pv 3)) zj (zC rfl)) (zC rfl) rfl) (zA5 rfl T.z_len (zc (zG (pv 1)) zj (zC rfl)) (zC rfl) rfl)) (zW (zu zD3)) zAK)
    (zW (zu (zMH rfl rfl T.z_all (zc (zBZ (zw (i:=2) (by decide)) (zp (sc:=zQ zBQ) (N:=zCZ) rfl rfl rfl (by decide+kernel) (by decide+kernel)) rfl (zBD (zG (pv 1))) ⟨fun _ _ _ _ _=>(zv (i:=2) zAy.nd rfl),fun _ _ _ _ _=>zAz,fun _ _ _ _ _=>(zAQ (zKI T) (hr.mono (by omega)) rfl (zD (zI (zG (pv 0))) (zD (zI (zG (pv 2))) (zD (zI (zG (pv 3))) zJ (zC rfl)) (zC rfl)) (zC rfl)) (zH (zH (zH zM))) (by decide) (zC rfl) (zN rfl))⟩) zj (zC rfl)) (zC rfl) rfl))))))))
abbrev zLO:List Str:=["_law_machine_here", "_law_thing", "_law_found"]
theorem zGW:FnScope zLO ["_law_machine_here", "_law_thing"] (zQ zEu):=⟨rfl,rfl,rfl,by decide+kernel,rfl,by decide+kernel,by decide+kernel⟩
theorem zGV (T:Txt K mg):Od P w base 8 T.d_law_right zCI:=by
  unfold zCI;exact zAL (n:=2) T.d_law_right.F zGW rfl (fun cdv A outer s H E hr=>by
    unfold zE5;exact (zO (zBB (i:=2) zGW.nd rfl (zAQ (zEh T) (hr.mono (by omega)) rfl (zD (zI (zG (pv 0))) (zD (zI (zG (pv 1))) zJ (zC rfl)) (zC rfl)) (zH (zH zM)) (by decide) (zC rfl) (zN rfl)))
    (zW (zu (zEL (zEv T.kinds (by decide) rfl T.z_isinstance rfl T.z_bool (by rfl) (by decide) (by decide) (zG (pv 2)) (zC rfl) (zC rfl) (zN rfl)) (zEy (zPm hr.units0 (zG (pv 2)) (zAQ (zKT T) (hr.mono (by omega)) rfl (zD (zI (zG (pv 0))) (zD (zI (zG (pv 1))) zJ (zC rfl)) (zC rfl)) (zH (zH zM)) (by decide) (zC rfl) (zN rfl)))))))))
abbrev zVZ:List Str:=["_law_script", "_law_state", "_law_machine_here", "_law_thing", "_law_told", "_law_turn", "_law_rungs", "_law_handed"]
theorem zD4:FnScope zVZ ["_law_script"] (zQ zQM):=⟨rfl,rfl,rfl,by decide+kernel,rfl,by decide+kernel,by decide+kernel⟩
theorem zTt (T:Txt K mg):Od P w base 9 T.d_law zHa:=by
  unfold zHa;exact zAL (n:=1) T.d_law.F zD4 rfl (fun cdv A outer s H E hr=>by
    unfold zQu;exact (zO (zBB (i:=1) zD4.nd rfl (zAQ (zKs T) (hr.mono (by omega)) rfl (zD (zI (zG (pv 0))) zJ (zC rfl)) (zH zM) (by decide) (zC rfl) (zN rfl)))
    (zO (zBB (i:=2) zD4.nd rfl (zAQ (zIu T) (hr.mono (by omega)) rfl (zD (zI (zG (pv 1))) (zD (zI (zA4 zP (zAQ (zk T) (hr.mono (by omega)) rfl (zD (zI (zG (pv 1))) (zD (zI zP) zJ (zC rfl)) (zC rfl)) (zH (zH zM)) (by decide) (zC rfl) (zN rfl)))) (zD (zI (zA4 zP (zAQ (zk T) (hr.mono (by omega)) rfl (zD (zI (zG (pv 1))) (zD (zI zP) zJ (zC rfl)) (zC rfl)) (zH (zH zM)) (by decide) (zC rfl) (zN rfl)))) zJ (zC rfl)) (zC rfl)) (zC rfl)) (zH (zH (zH zM))) (by decide) (zC rfl) (zN rfl)))
    (zO (zDn zBM zYD rfl (zBD (zBg (zD (zI zJ6) (zD (zI zP) (zD (zI zP) (zD (zI zD3) (zD (zI zOL) (zD (zI zOL) (zD (zI (zBg zJ)) (zD (zI (zAm zJ)) (zD (zI zTU) (zD (zI (zAm (zD (zI (zAm zJ)) zJ (zC rfl)))) (zD (zI (zAm (zD (zI zJ6) zJ (zC rfl)))) (zD (zI (zAm (zD (zI (zAm (zD (zI zP) (zD (zI zP) zJ (zC rfl)) (zC rfl)))) zJ (zC rfl)))) (zD (zI (zAm (zD (zI zP) (zD (zI zP) (zD (zI zP) zJ (zC rfl)) (zC rfl)) (zC rfl)))) (zD (zI (zBg (zD (zI (zAm (zD (zI (zAm (zD (zI zP) (zD (zI zP) zJ (zC rfl)) (zC rfl)))) (zD (zI zP) (zD (zI zP) zJ (zC rfl)) (zC rfl)) (zC rfl)))) zJ (zC rfl)))) zJ (zC rfl)) (zC rfl)) (zC rfl)) (zC rfl)) (zC rfl)) (zC rfl)) (zC rfl)) (zC rfl)) (zC rfl)) (zC rfl)) (zC rfl)) (zC rfl)) (zC rfl)) (zC rfl)))) (zv (i:=3) zD4.nd rfl) (zW (zBv (zCU (zCm (zAQ (zGV T) (hr.mono (by omega)) rfl (zD (zI (zG (pv 2))) (zD (zI (zG (pv 3))) zJ (zC rfl)) (zC rfl)) (zH (zH zM)) (by decide) (zC rfl) (zN rfl)))) (zW (zu zD3)) zAK)))
    (zO (zBB (i:=4) zD4.nd rfl (zAQ (zOw T) (hr.mono (by omega)) rfl (zD (zI (zG (pv 2))) zJ (zC rfl)) (zH zM) (by decide) (zC rfl) (zN rfl)))
    (zO (zDn zBM zYD rfl (zAW rfl T.z_range (zD (zI (zA4 zP (zA5 rfl T.z_len (zc (zCr (zG (pv 0)) zCq (zCt zP)) zj (zC rfl)) (zC rfl) rfl))) zJ (zC rfl)) (zH zM) (zAd rfl)) (zv (i:=5) zD4.nd rfl) (zO (zBB (i:=6) zD4.nd rfl (zMm rfl T.z_list (zc (zG (pv 4)) zj (zC rfl)) (zC rfl) rfl))
    (zO (zBv (zBt hr.units0 (zAQ (zk T) (hr.mono (by omega)) rfl (zD (zI (zG (pv 1))) (zD (zI zP) zJ (zC rfl)) (zC rfl)) (zH (zH zM)) (by decide) (zC rfl) (zN rfl)) zP) (zW (zBB (i:=6) zD4.nd rfl (zAQ (zMa T) (hr.mono (by omega)) rfl (zD (zI (zG (pv 1))) (zD (zI (zG (pv 2))) zJ (zC rfl)) (zC rfl)) (zH (zH zM)) (by decide) (zC rfl) (zN rfl)))) zAK)
    (zO (zBB (i:=7) zD4.nd rfl (zDc rfl T.z_tuple (zc (zG (pv 6)) zj (zC rfl)) (zC rfl) rfl))
    (zO (zBv (zFk (zEN (zGv hr.units0 (zG (pv 6)) (zBg zJ)) (zDk (zRP (zAQ (zk T) (hr.mono (by omega)) rfl (zD (zI (zG (pv 1))) (zD (zI zP) zJ (zC rfl)) (zC rfl)) (zH (zH zM)) (by decide) (zC rfl) (zN rfl)) zP)))) (zW (zBB (i:=7) zD4.nd rfl (zAQ (zJO T) (hr.mono (by omega)) rfl (zD (zI (zG (pv 1))) (zD (zI (zG (pv 2))) (zD (zI (zG (pv 6))) zJ (zC rfl)) (zC rfl)) (zC rfl)) (zH (zH (zH zM))) (by decide) (zC rfl) (zN rfl)))) zAK)
    (zW (zBv (zCU (zCm (zAQ (zGV T) (hr.mono (by omega)) rfl (zD (zI (zG (pv 2))) (zD (zI (zG (pv 7))) zJ (zC rfl)) (zC rfl)) (zH (zH zM)) (by decide) (zC rfl) (zN rfl)))) (zW (zu zD3)) zAK)))))))
    (zW (zu (zWY (zAQ (zEh T) (hr.mono (by omega)) rfl (zD (zI (zG (pv 2))) (zD (zI (zG (pv 4))) zJ (zC rfl)) (zC rfl)) (zH (zH zM)) (by decide) (zC rfl) (zN rfl)) zD3)))))))))
end
theorem zVC {l:PySem.W.OpenLaw} {w:World} {K:PySem.W.Frag} {h:Heap} {mg:Str->Option Value} {fa:Addr} (X:K.In h) (G:h.Ns mainGlobals mg) (hfa:mg "law" = some (.ref fa))
    (g1:Dg K "is_whole" zGE) (g2:Dg K "is_below" zF0) (g3:Dg K "is_tuple_below" zB2) (g4:Dg K "is_set" zGz) (g5:Dg K "all_rooms" zFE) (g6:Dg K "stepped" zFh) (g7:Dg K "is_pair" zG7) (g8:Dg K "is_triple" zE0) (g9:Dg K "goes_down" zE6) (g10:Dg K "shows_ladder" zBQ) (g11:Dg K "pairs_of" zEQ) (g12:Dg K "ways_back" zFH) (g13:Dg K "lengths_to" zC9) (g14:Dg K "lengths" zFV) (g15:Dg K "first_letter" zBw) (g16:Dg K "rungs_to" zDW) (g17:Dg K "rungs" zKY) (g18:Dg K "ladder" zGs) (g19:Dg K "_law_begin" zDf) (g20:Dg K "_law_next" zFx) (g21:Dg K "_law_order" zE3) (g22:Dg K "_law_column" zAn) (g23:Dg K "_law_machine" zCC) (g24:Dg K "_law_pairs" zDp) (g25:Dg K "_law_behind" zEO) (g26:Dg K "_law_whole" zE8) (g27:Dg K "_law_is_pair" zCv) (g28:Dg K "_law_shown" zFT) (g29:Dg K "_law_made" zF9) (g30:Dg K "_law_odd" zHL) (g31:Dg K "_law_spoilt" zEf) (g32:Dg K "_law_right" zEu) (g33:Dg K "law" zQM) (z1:Zn K "isinstance") (z2:Zn K "int") (z3:Zn K "bool") (z4:Zn K "tuple") (z5:Zn K "all") (z6:Zn K "len") (z7:Zn K "zip") (z8:Zn K "range") (z9:Zn K "sorted") (z10:Zn K "min") (z11:Zn K "enumerate") (z12:Zn K "abs") (z13:Zn K "max") (z14:Zn K "list") (z15:Zn K "str") (y1:Ki K "NoneType" "int" false) (y2:Ki K "NoneType" "bool" false) (y3:Ki K "NoneType" "str" false) (y4:Ki K "NoneType" "tuple" false) (y5:Ki K "bool" "int" true) (y6:Ki K "bool" "bool" true) (y7:Ki K "bool" "str" false) (y8:Ki K "bool" "tuple" false) (y9:Ki K "int" "int" true) (y10:Ki K "int" "bool" false) (y11:Ki K "int" "str" false) (y12:Ki K "int" "tuple" false) (y13:Ki K "str" "int" false) (y14:Ki K "str" "bool" false) (y15:Ki K "str" "str" true) (y16:Ki K "str" "tuple" false) (y17:Ki K "list" "int" false) (y18:Ki K "list" "bool" false) (y19:Ki K "list" "str" false) (y20:Ki K "list" "tuple" false) (y21:Ki K "tuple" "int" false) (y22:Ki K "tuple" "bool" false) (y23:Ki K "tuple" "str" false) (y24:Ki K "tuple" "tuple" true) (y25:Ki K "dict" "int" false) (y26:Ki K "dict" "bool" false) (y27:Ki K "dict" "str" false) (y28:Ki K "dict" "tuple" false) :
    ∃ fd:FuncData,(∀ (s:Shared) (v:Value),BindsTo s fd ⟨[v],[]⟩ [("_law_script", v)]) /\ ∀ base:Heap,K.In base->base.Ns mainGlobals mg->FnOk l.prog w K mg base CX0 9 fa fd ["_law_script"] (spF K 1 zHa):=by
  have e:=hfa.symm.trans (PySem.W.mg_of X G g33.a);cases e;have kinds:Kinds K:=⟨by
    intro t T ht hT;simp only[zWw,zXF,zX5]at ht hT;rcases ht with rfl|rfl|rfl|rfl|rfl|rfl|rfl <;> rcases hT with rfl|rfl|rfl|rfl <;> assumption⟩
  let T:Txt K mg:=⟨g1.df X G fun _ _ _ _ _ _=>zH0 fun _=>rfl,g2.df X G fun _ _ _ _ _ _=>zGT fun _ _=>rfl,g3.df X G fun _ _ _ _ _ _=>zGT fun _ _=>rfl,g4.df X G fun _ _ _ _ _ _=>zGT fun _ _=>rfl,g5.df X G fun _ _ _ _ _ _=>zH0 fun _=>rfl,g6.df X G fun _ _ _ _ _ _=>zMr fun _ _ _=>rfl,g7.df X G fun _ _ _ _ _ _=>zGT fun _ _=>rfl,g8.df X G fun _ _ _ _ _ _=>zGT fun _ _=>rfl,g9.df X G fun _ _ _ _ _ _=>zMr fun _ _ _=>rfl,g10.df X G fun _ _ _ _ _ _=>zGT fun _ _=>rfl,g11.df X G fun _ _ _ _ _ _=>zH0 fun _=>rfl,g12.df X G fun _ _ _ _ _ _=>zH0 fun _=>rfl,g13.df X G fun _ _ _ _ _ _=>zGT fun _ _=>rfl,g14.df X G fun _ _ _ _ _ _=>zH0 fun _=>rfl,g15.df X G fun _ _ _ _ _ _=>zMr fun _ _ _=>rfl,g16.df X G fun _ _ _ _ _ _=>zGT fun _ _=>rfl,g17.df X G fun _ _ _ _ _ _=>zH0 fun _=>rfl,g18.df X G fun _ _ _ _ _ _=>zH0 fun _=>rfl,g19.df X G fun _ _ _ _ _ _=>zH0 fun _=>rfl,g20.df X G fun _ _ _ _ _ _=>zGT fun _ _=>rfl,g21.df X G fun _ _ _ _ _ _=>zGT fun _ _=>rfl,g22.df X G fun _ _ _ _ _ _=>zWe fun _ _ _ _=>rfl,g23.df X G fun _ _ _ _ _ _=>zMr fun _ _ _=>rfl,g24.df X G fun _ _ _ _ _ _=>zH0 fun _=>rfl,g25.df X G fun _ _ _ _ _ _=>zMr fun _ _ _=>rfl,g26.df X G fun _ _ _ _ _ _=>zH0 fun _=>rfl,g27.df X G fun _ _ _ _ _ _=>zGT fun _ _=>rfl,g28.df X G fun _ _ _ _ _ _=>zGT fun _ _=>rfl,g29.df X G fun _ _ _ _ _ _=>zGT fun _ _=>rfl,g30.df X G fun _ _ _ _ _ _=>zMr fun _ _ _=>rfl,g31.df X G fun _ _ _ _ _ _=>zMr fun _ _ _=>rfl,g32.df X G fun _ _ _ _ _ _=>zGT fun _ _=>rfl,g33.df X G fun _ _ _ _ _ _=>zH0 fun _=>rfl,zXj X G z1,zXj X G z2,zXj X G z3,zXj X G z4,zXj X G z5,zXj X G z6,zXj X G z7,zXj X G z8,zXj X G z9,zXj X G z10,zXj X G z11,zXj X G z12,zXj X G z13,zXj X G z14,zXj X G z15,kinds⟩;refine ⟨T.d_law.fd,fun s v=> .of_eq rfl,fun base _ _=>?_⟩;exact zTt (P:=l.prog) (w:=w) (base:=base) T
theorem zWW {l:PySem.W.OpenLaw} {q:Program} {loose:List Str} {XP:(Str->Option Value)->Heap->Prop} {YP:World->Heap->Prop} {d:DefRec} {K:Params->PySem.W.Frag} (hn:l.most=some 63) (hdf:d.params.defaults=[])
    (hY:∀ (w:World) (h:Heap),YP w h->(K w.params).In h) (hL:∀ w:World,zKL (K w.params)=true)
    (F:∀ (w:World) (mg:Str->Option Value) (fa:Addr) (h:Heap),(K w.params).In h->h.Ns mainGlobals mg->mg d.name=some (.ref fa) ->
      ∃ fd:FuncData,(∀ (s:Shared) (u:Value),BindsTo s fd ⟨[u],[]⟩ [("_law_script", u)]) /\ ∀ base:Heap,(K w.params).In base->base.Ns mainGlobals mg->FnOk l.prog w (K w.params) mg base CX0 9 fa fd ["_law_script"] (spF (K w.params) 1 zHa)) :
    PySem.W.WalkO q loose XP YP l.row.toRowW d [] (fun f vs=>PySem.call f vs) :=
  L2.zSq (n:=63) (k:=9) (x := "_law_script") (CX:=fun _=>CX0) (sp:=fun w=>spF (K w.params) 1 zHa) hn (by decide) hdf ⟨rfl,by decide,by decide⟩ hY F
    (fun w H a ns hl hO hS=>zO0 (hL w) hO hS (zQm ns hl)) fun _ _ _ _ _ z=>z
end Lac
open PySem PySem.W PyProof.Rows
set_option maxRecDepth 100000 in
set_option maxHeartbeats 0 in
theorem PySem.Challenge.cw_bringhome_k24_ladders_shown_holds : PySem.Challenge.rw_bringhome_k24_ladders_shown.Holds := by
  w_on;o_law;k_head;(case hw=>w_witness2);k_fill;refine Lac.zWW (l:=PySem.Challenge.rw_bringhome_k24_ladders_shown) rfl rfl (fun w h Y=>PySem.W.kIn_of Y) (fun w=>by rfl) ?F
  case F=>
    intro w mg fa h KX G hmg;refine' Lac.zVC KX G hmg ?_ ?_ ?_ ?_ ?_ ?_ ?_ ?_ ?_ ?_ ?_ ?_ ?_ ?_ ?_ ?_ ?_ ?_ ?_ ?_ ?_ ?_ ?_ ?_ ?_ ?_ ?_ ?_ ?_ ?_ ?_ ?_ ?_ ?_ ?_ ?_ ?_ ?_ ?_ ?_ ?_ ?_ ?_ ?_ ?_ ?_ ?_ ?_ ?_ ?_ ?_ ?_ ?_ ?_ ?_ ?_ ?_ ?_ ?_ ?_ ?_ ?_ ?_ ?_ ?_ ?_ ?_ ?_ ?_ ?_ ?_ ?_ ?_ ?_ ?_ ?_;all_goals first|exact ⟨_,by k_is,by k_is,by k_is,by k_is⟩|(unfold L3.Zn;k_is)|(unfold L3.Ki;kit_is)|k_is
