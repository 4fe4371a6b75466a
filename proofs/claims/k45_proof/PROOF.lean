import PyProof.Rows.All
import Wide.All
import OpenK.AllK
import Wide.FinOn
import Lean
import PyProof.EqAt
import PyProof.EqKinds
import PyProof.TupleCall
import PyProof.NeKinds
import PyProof.ZipIter
import PyProof.ListRange
import PyProof.TupleOfSeq
import PyProof.ConsumeWalk
import PyProof.IsRules
import PyProof.SetKind
import PyProof.SetRoads
import PyProof.Rows.SetFrom
import PyProof.Draws
import PyProof.EnumMake
import PyProof.DictCompW
import PyProof.ListMulRoad
import PyProof.Rows.SeqMore2
import PyProof.WalkInts
import PyProof.DictRoadsH
import PyProof.DictItems
import KE.KDictList
import KE.KDictOf
import PyProof.AttrMissHeap
import PySem.Challenge.RW_bringhome_k45_stable_partings
namespace PySem.W.Fast
def tw1438649980571353493:=0
def tw13993668688640097766:=0
def tw6172477208610068208:=0
def tw17055362524650656551:=0
def tw6426387189170534821:=0
def tw1272959054511594115:=0
def tw5273208159393337447:=0
def tw10797391332098195284:=0
def tw15949348446549491983:=0
def tw16159031244814959149:=0
def tw8286950335828293274:=0
def tw8475749359847124766:=0
def tw7578744823540569883:=0
def tw545878364791847261:=0
def tw717229372234398356:=0
def tw1351091829007059614:=0
def tw3755331917632203341:=0
def tw10578780617568370144:=0
def tw12219768925585958908:=0
def tw11229218251111171442:=0
def tw6677404345988956819:=0
def tw2653034125426582713:=0
def tw5026950542266937880:=0
def tw1881205934469949627:=0
def tw14606605543267399733:=0
def tw8251404945617545851:=0
def tw12362695449635701319:=0
def tw16194689138084639005:=0
def tw14348474972808313166:=0
def tw2877322441081072654:=0
def tw11525513661090538327:=0
def tw7560738892716957650:=0
def tw14232095125512835598:=0
def tw10148922374570027058:=0
def tw17742831137021710531:=0
def tw7774618970581621240:=0
def tw10627643292716458712:=0
def tw2245369682176980128:=0
def tw11662273394172773470:=0
def tw2614424885771202600:=0
def tw12391998710219524917:=0
def tw12341742295966497241:=0
def tw2555043211721653363:=0
def tw4780492307947516115:=0
def tw8433111681079271085:=0
def tw4262727169710212859:=0
def tw1943587311638228581:=0
def tw7134855340757908180:=0
end PySem.W.Fast
section
open PySem PySem.Spec PyProof.Rows
theorem zWU:type_of% @wpAny_bind:=@wpAny_bind
theorem zWV:type_of% @Heap.get?_push_of_some:=@Heap.get?_push_of_some
theorem zWW:type_of% @wpAny_pure:=@wpAny_pure
theorem zWX:type_of% @List.getElem?_eq_some_iff:=@List.getElem?_eq_some_iff
theorem zWY:type_of% @List.getElem?_eq_getElem:=@List.getElem?_eq_getElem
theorem zWZ:type_of% @List.getD_eq_getElem?_getD:=@List.getD_eq_getElem?_getD
theorem zWa:type_of% @Nat.le_refl:=@Nat.le_refl
theorem zWb:type_of% @List.getElem?_append_left:=@List.getElem?_append_left
theorem zWc:type_of% @List.size_toArray:=@List.size_toArray
theorem zWd:type_of% @List.length_map:=@List.length_map
theorem zWe:type_of% @Heap.get?_push_size:=@Heap.get?_push_size
theorem zWf:type_of% @Heap.lt_size:=@Heap.lt_size
theorem zWg:type_of% @List.mem_cons:=@List.mem_cons
theorem zWh:type_of% @List.mem_cons_of_mem:=@List.mem_cons_of_mem
theorem zWi:type_of% @List.mem_cons_self:=@List.mem_cons_self
theorem zWj:type_of% @if_pos:=@if_pos
theorem zWk:type_of% @List.length_append:=@List.length_append
theorem zWl:type_of% @List.mem_map:=@List.mem_map
theorem zWm:type_of% @if_neg:=@if_neg
theorem zWn:type_of% @List.map_cons:=@List.map_cons
theorem zWo:type_of% @List.mem_append_right:=@List.mem_append_right
theorem zWp:type_of% @Nat.ne_of_lt:=@Nat.ne_of_lt
theorem zWq:type_of% @Bool.false_ne_true:=@Bool.false_ne_true
theorem zWr:type_of% @List.getElem?_map:=@List.getElem?_map
theorem zWs:type_of% @List.map_map:=@List.map_map
theorem zWt:type_of% @Nat.lt_of_lt_of_le:=@Nat.lt_of_lt_of_le
theorem zWu:type_of% @List.mem_append:=@List.mem_append
theorem zWv:type_of% @Nat.le_trans:=@Nat.le_trans
theorem zWw:type_of% @List.mem_singleton:=@List.mem_singleton
theorem zWx:type_of% @wpAny_newObj_type:=@wpAny_newObj_type
theorem zWy:type_of% @List.getElem?_set_ne:=@List.getElem?_set_ne
theorem zWz:type_of% @List.not_mem_nil:=@List.not_mem_nil
theorem zW0:type_of% @wpAny_mono:=@wpAny_mono
theorem zW1:type_of% @List.length_cons:=@List.length_cons
theorem zW2:type_of% @List.getElem_mem:=@List.getElem_mem
theorem zW3:type_of% @decide_eq_false:=@decide_eq_false
theorem zW4:type_of% @Bool.and_eq_true:=@Bool.and_eq_true
theorem zW5:type_of% @List.all_eq_true:=@List.all_eq_true
theorem zW6:type_of% @wpAny_callSpecial?_slot:=@wpAny_callSpecial?_slot
theorem zW7:type_of% @wpAny_call_entry:=@wpAny_call_entry
theorem zW8:type_of% @List.mem_range:=@List.mem_range
theorem zW9:type_of% @wpAny_field:=@wpAny_field
theorem zXA:type_of% @Heap.size_push:=@Heap.size_push
theorem zXB:type_of% @Heap.get?_update_other:=@Heap.get?_update_other
theorem zXC:type_of% @Nat.lt_irrefl:=@Nat.lt_irrefl
theorem zXD:type_of% @Array.length_toList:=@Array.length_toList
theorem zXE:type_of% @List.append_nil:=@List.append_nil
theorem zXF:type_of% @Array.getElem?_eq_getElem:=@Array.getElem?_eq_getElem
theorem zXG:type_of% @Nat.zero_le:=@Nat.zero_le
theorem zXH:type_of% @Heap.get?_update_self:=@Heap.get?_update_self
theorem zXJ:type_of% @Nat.lt_succ_of_lt:=@Nat.lt_succ_of_lt
theorem zXK:type_of% @wpAny_seqItems:=@wpAny_seqItems
theorem zXL:type_of% @List.mem_of_getElem?:=@List.mem_of_getElem?
theorem zXM:type_of% @List.map_append:=@List.map_append
theorem zXN:type_of% @wpAny_holding:=@wpAny_holding
theorem zXO:type_of% @List.getElem?_set_self:=@List.getElem?_set_self
theorem zXQ:type_of% @of_decide_eq_true:=@of_decide_eq_true
theorem zXR:type_of% @Nat.lt_succ_self:=@Nat.lt_succ_self
theorem zXS:type_of% @wpAny_standAt:=@wpAny_standAt
theorem zXT:type_of% @PySem.W.mg_none_of:=@PySem.W.mg_none_of
theorem zXU:type_of% @Option.some.inj:=@Option.some.inj
theorem zXV:type_of% @Bool.false_eq_true:=@Bool.false_eq_true
theorem zXW:type_of% @PySem.mem_of_lookup:=@PySem.mem_of_lookup
theorem zXX:type_of% @Heap.SameBut.update:=@Heap.SameBut.update
theorem zXY:type_of% @List.cons.inj:=@List.cons.inj
theorem zXa:type_of% @List.append_assoc:=@List.append_assoc
theorem zXc:type_of% @decide_eq_true:=@decide_eq_true
theorem zXd:type_of% @List.getElem?_eq_none:=@List.getElem?_eq_none
theorem zXe:type_of% @List.getElem?_append_right:=@List.getElem?_append_right
theorem zXf:type_of% @List.mem_filter:=@List.mem_filter
theorem zXh:type_of% @decide_eq_true_eq:=@decide_eq_true_eq
theorem zXi:type_of% @List.nodup_append:=@List.nodup_append
theorem zXj:type_of% @List.mem_append_left:=@List.mem_append_left
theorem zXl:type_of% @Obj.data_mapFields:=@Obj.data_mapFields
theorem zXn:type_of% @List.replicate_succ:=@List.replicate_succ
theorem zXo:type_of% @List.nodup_cons:=@List.nodup_cons
theorem zXp:type_of% @or_false:=@or_false
theorem zXq:type_of% @Nat.lt_or_ge:=@Nat.lt_or_ge
theorem zXr:type_of% @wpAny_rule:=@wpAny_rule
theorem zXs:type_of% @List.length_take:=@List.length_take
theorem zXz:type_of% @Nat.ne_of_gt:=@Nat.ne_of_gt
theorem zX2:type_of% @PyProof.Rows.slot_tuple_getitem:=@PyProof.Rows.slot_tuple_getitem
theorem zX3:type_of% @List.getElem?_set:=@List.getElem?_set
theorem zX6:type_of% @Nat.mul_le_mul:=@Nat.mul_le_mul
theorem zX7:type_of% @PySem.W.kia_one:=@PySem.W.kia_one
theorem zYG:type_of% @List.find?_cons:=@List.find?_cons
theorem zYH:type_of% @congrArg:=@congrArg
theorem zYO:type_of% @wpAny_comprehension_free:=@wpAny_comprehension_free
theorem zYR:type_of% @List.length_range:=@List.length_range
theorem zYT:type_of% @List.flatten_cons:=@List.flatten_cons
theorem zYY:type_of% @List.getElem?_range:=@List.getElem?_range
theorem zYZ:type_of% @List.lookup_cons:=@List.lookup_cons
theorem zYe:type_of% @List.pairwise_cons:=@List.pairwise_cons
theorem zYn:type_of% @List.length_set:=@List.length_set
theorem zYo:type_of% @List.length_filter_le:=@List.length_filter_le
theorem zZj:type_of% @List.length_singleton:=@List.length_singleton
end
set_option Elab.async false
set_option linter.all false
set_option maxRecDepth 100000
set_option genSizeOf false
set_option genInjectivity false
noncomputable section
namespace L2
open PySem PySem.Spec PyProof.Rows
abbrev Key:=Sum Int Str
def zIR:Key->Value->Bool
 |.inl k,v=>Value.isInt k v
 |.inr x,v=>Value.isStrOf x v
def zWG (w:World):Key->Int
 |.inl k=>hashInt k
 |.inr x=>hashStr w x
theorem zAf:∀ {k:Key} {v:Value},zIR k v=true->(∃ i t,k=Sum.inl i/\v=Value.int i t)\/(∃ x t,k=Sum.inr x/\v=Value.str x t)
 |.inl i,v,h=>by
  obtain ⟨t,e⟩:=Value.isInt_shape (k:=i) (v:=v) h;exact .inl ⟨i,t,rfl,e⟩
 |.inr x,v,h=>by
  obtain ⟨t,e⟩:=Value.isStrOf_shape (x:=x) (v:=v) h;exact .inr ⟨x,t,rfl,e⟩
theorem zNp (i:Int) (t:Tok):zIR (.inl i) (.int i t)=true:=by simp[zIR,Value.isInt]
theorem zOp (x:Str) (t:Tok):zIR (.inr x) (.str x t)=true:=by simp[zIR,Value.isStrOf]
theorem zTr (a b:Int):decide ((Sum.inl a:Key)=Sum.inl b)=(a==b):=by
 by_cases e:a=b
 ·subst e;simp
 ·have h:¬ (Sum.inl a:Key)=Sum.inl b:=fun q=>e (Sum.inl.inj q);rw[zW3 h];exact (beq_eq_false_iff_ne.mpr e).symm
theorem zUB (a b:Str):decide ((Sum.inr a:Key)=Sum.inr b)=decide (a=b):=by
 by_cases e:a=b
 ·subst e;simp
 ·have h:¬ (Sum.inr a:Key)=Sum.inr b:=fun q=>e (Sum.inr.inj q);rw[zW3 h,zW3 e]
theorem zTK (a:Int) (b:Str):decide ((Sum.inl a:Key)=Sum.inr b)=false:=zW3 (fun q=>nomatch q)
theorem zTO (a:Str) (b:Int):decide ((Sum.inr a:Key)=Sum.inl b)=false:=zW3 (fun q=>nomatch q)
def zAK (prog:Program) (w:World):PySem.KeyKind prog w Key where
 is:=zIR
 hash:=zWG w
 inj:=fun v a b ha hb=>by
  rcases zAf ha with ⟨i,t,rfl,rfl⟩|⟨x,t,rfl,rfl⟩
  ·rcases zAf hb with ⟨j,u,rfl,e⟩|⟨y,u,rfl,e⟩
   ·injection e with e1 _;rw[e1]
   ·exact nomatch e
  ·rcases zAf hb with ⟨j,u,rfl,e⟩|⟨y,u,rfl,e⟩
   ·exact nomatch e
   ·injection e with e1 _;rw[e1]
 byValue:=fun k v h=>by
  rcases zAf h with ⟨i,t,rfl,rfl⟩|⟨x,t,rfl,rfl⟩ <;> rfl
 pyHash:=fun hv h=>by
  rcases zAf hv with ⟨i,t,rfl,rfl⟩|⟨x,t,rfl,rfl⟩
  ·exact wpAny_pyHash_int h
  ·exact wpAny_pyHash_str h
 eqBool:=fun hu hv h=>by
  rcases zAf hu with ⟨i,t,rfl,rfl⟩|⟨x,t,rfl,rfl⟩
  ·rcases zAf hv with ⟨j,u,rfl,rfl⟩|⟨y,u,rfl,rfl⟩
   ·rw[zTr]at h;exact wpAny_eqBool_int h
   ·rw[zTK]at h;exact SeqAt.EqAt.int_str i t y u _ _ _ _ h
  ·rcases zAf hv with ⟨j,u,rfl,rfl⟩|⟨y,u,rfl,rfl⟩
   ·rw[zTO]at h;exact SeqAt.EqAt.str_int x t j u _ _ _ _ h
   ·rw[zUB]at h;exact wpAny_eqBool_str h
 «strs»:=fun k x t v h=>by
  rcases zAf h with ⟨i,u,rfl,e⟩|⟨y,u,rfl,e⟩
  ·exact nomatch e
  ·injection e with e1 _
   subst e1
   cases v <;> rfl
theorem zKm (prog:Program) (w:World) (i:Int) (t:Tok):(zAK prog w).is (.inl i) (.int i t)=true:=zNp i t
theorem zK1 (prog:Program) (w:World) (x:Str) (t:Tok):(zAK prog w).is (.inr x) (.str x t)=true:=zOp x t
set_option genInjectivity true in
inductive V where
 |non|bl (b:Bool)|int (i:Int)|str (x:Str)|byt (b:Array UInt8)|flt (b:UInt64)|ref (a:Addr)|ty (n:String)
 deriving DecidableEq
def zp:V->Value->Prop
 |.non,u=>u=Value.none
 |.bl b,u=>u=Value.bool b
 |.int i,u=>∃ t,u=Value.int i t
 |.str x,u=>∃ t,u=Value.str x t
 |.byt b,u=>∃ t,u=Value.bytes b t
 |.flt b,u=>∃ t,u=Value.float b t
 |.ref a,u=>u=Value.ref a
 |.ty n,u=>u=Value.type n
abbrev ze:List V->List Value->Prop:=Paired zp
theorem ze.length {xs:List V} {us:List Value} (r:ze xs us):xs.length=us.length:=Paired.length r
theorem ze.get:∀ {xs:List V} {us:List Value} {i:Nat} {x:V},ze xs us->xs[i]?=some x -> ∃ u,us[i]?=some u/\zp x u
 |_,_,_,_,.nil,e=>by simp at e
 |_,_,0,_,.cons r _,e=>by simp at e;subst e;exact ⟨_,rfl,r⟩
 |_,_,i+1,x,.cons _ t,e=>by
  obtain ⟨u,h1,h2⟩:=ze.get (i:=i) (x:=x) t (by simpa using e);exact ⟨u,by simpa using h1,h2⟩
theorem ze.set {x:V} {u:Value} (r:zp x u):∀ {xs:List V} {us:List Value} (i:Nat),ze xs us->ze (xs.set i x) (us.set i u)
 |_,_,_,.nil=> .nil
 |_,_,0,.cons _ t=> .cons r t
 |_,_,i+1,.cons q t=> .cons q (ze.set r i t)
theorem ze.append:∀ {xs ys:List V} {us ws:List Value},ze xs us->ze ys ws->ze (xs++ys) (us++ws)
 |_,_,_,_,.nil,s=>s
 |_,_,_,_,.cons r t,s=> .cons r (ze.append t s)
theorem ze.take:∀ {xs:List V} {us:List Value} (n:Nat),ze xs us->ze (xs.take n) (us.take n)
 |_,_,0,_=> .nil
 |_,_,_+1,.nil=> .nil
 |_,_,n+1,.cons r t=> .cons r (ze.take n t)
theorem ze.drop:∀ {xs:List V} {us:List Value} (n:Nat),ze xs us->ze (xs.drop n) (us.drop n)
 |_,_,0,r=>r
 |_,_,_+1,.nil=> .nil
 |_,_,n+1,.cons _ t=>ze.drop n t
def zFe:Option V->Option Value->Prop
 |some v,some u=>zp v u
 |none,none=>True
 |_,_=>False
def KV {κ:Type}:List (κ × V)->List (κ × Value)->Prop:=Paired fun (p:κ × V) (q:κ × Value)=>p.1=q.1/\zp p.2 q.2
def kV:Key->V
 |.inl i=> .int i
 |.inr x=> .str x
set_option genInjectivity true in
inductive HO where
 |lst (xs:List V)
 |tup (xs:List V)
 |dK (kvs:List (Key × V))|dT (kvs:List (List Key × V))
 |set (S:Int->Bool) (n:Nat)
 |ins (C dx:Addr) (fs:List (Str × V))
 |own (x:Addr)
 |xd (fs:List (Str × V))
 |met (f x:Addr)
 |rng (lo hi:Int)
 |frz (o:Obj) (u:HO)
 |tbl (ps:Array Value)
 |ext (φ:Heap->Prop)
abbrev Hp:=Addr->Option HO
def upd (H:Hp) (a:Addr) (o:HO):Hp:=fun b=>if b=a then some o else H b
theorem zw {H:Hp} {a:Addr} {o:HO}:upd H a o a=some o:=by unfold upd;rw[zWj rfl]
theorem zZ {H:Hp} {a b:Addr} {o:HO} (h:b≠a):upd H a o b=H b:=by unfold upd;rw[zWm h]
theorem zHU {H:Hp} {a b:Addr} {o u:HO} (h:H a=some o) (h':H b=some u) (d:o≠u):a≠b:=by
 intro e;subst e;rw[h]at h';exact d (zXU h')
theorem zAI {H:Hp} {a b:Addr} {o:HO} (h:H a=some o) (h':H b=none):a≠b:=by
 intro e;subst e;rw[h]at h';cases h'
def zCD (h:Heap) (a:Addr) (items:Array Value):Prop:=∃ o,h.get? a=some o/\o.cls=.type "tuple" /\ (∃ n,o.data=.seq items n)/\o.dict=none
theorem zCD.tup {h:Heap} {a:Addr} {items:Array Value} (x:zCD h a items):IsTup h a items:=let ⟨o,e,c,d,_⟩:=x;⟨o,e,c,d⟩
theorem zCD.lt {h:Heap} {a:Addr} {items:Array Value} (x:zCD h a items):a<h.objs.size:=let ⟨_,e,_⟩:=x;zWf e
theorem zCD.new (h:Heap) (items:Array Value):zCD (h.push { cls:=.type "tuple", data:=.seq items }) h.objs.size items:=⟨_,zWe _ rfl,rfl,⟨_,rfl⟩,rfl⟩
section
variable (P:Program) (w:World)
def zAR (H:Hp) (h:Heap) (a:Addr):HO->Prop
 |.lst xs=>xs.length<=sizeLine /\ ∃ (its:List Value) (n:Nat),ze xs its/\h.get? a=some { cls:=.type "list", data:=.seq its.toArray n }
 |.tup xs=>xs.length<=sizeLine /\ ∃ its:List Value,ze xs its/\zCD h a its.toArray
 |.dK kvs=>kvs.length<=sizeLine/\(a==sysModules)=false /\ ∃ vs,KV kvs vs/\h.DictOf (zAK P w) a vs
 |.dT kvs=>kvs.length<=sizeLine/\(a==sysModules)=false /\ ∃ xs:List (List Key × Addr × Value),
   Paired (fun (p:List Key × V) (q:List Key × Addr × Value)=>p.1=q.1/\H q.2.1=some (.tup (p.1.map kV))/\zp p.2 q.2.2) kvs xs /\
   ∃ o es ep,h.get? a=some o/\o.ExactDict/\o.data=.dict es ep/\es.toList=xs.map (entryOfKey (tupleKind (zAK P w)))/\(xs.map (·.1)).Nodup
 |.set S n=>h.SetOf (intKind P w) a S n
 |.ins C dx fs=>H dx=some (.own a)/\fs.length<=1000/\dx≠a/\h.get? a=some (PySem.W.instObj C dx) /\
   ∃ mA,h.Ns1 dx mA/\(∀ f,zFe (fs.lookup f) (mA f))/\PySem.Within mA (fs.map (·.1))
 |.own _=>∃ o,h.get? a=some o
 |.xd fs=>∃ mA,h.Ns1 a mA /\ ∀ f,zFe (fs.lookup f) (mA f)
 |.rng lo hi=>∃ t u v,h.get? a=some { cls:=.type "range", data:=.fields #[.int lo t,.int hi u,.int 1 v] }
 |.frz o u=>h.get? a=some o/\zAR H h a u
 |.tbl ps=>h.get? a=some { cls:=.none,data:=.fields ps }
 |.met f x=>h.get? a=some (PySem.W.methodObj (.ref f) (.ref x))
 |.ext φ=>φ h/\(∃ o,h.get? a=some o) /\ ∀ h1 h2:Heap,φ h1->(∀ o,h1.get? a=some o->h2.get? a=some o)->φ h2
def HOk (H:Hp) (h:Heap):Prop:=∀ a o,H a=some o->zAR P w H h a o
end
section
variable {P:Program} {w:World} {H H':Hp} {h h':Heap} {a:Addr} {o:HO}
theorem zAR.lt (x:zAR P w H h a o):a<h.objs.size:=by
 cases o with
 |lst xs=>obtain ⟨_,_,_,_,e⟩:=x;exact zWf e
 |tup xs=>obtain ⟨_,_,_,p⟩:=x;exact p.lt
 |dK kvs=>obtain ⟨_,_,_,_,o,_,_,e,_⟩:=x;exact zWf e
 |dT kvs=>obtain ⟨_,_,_,_,o,_,_,e,_⟩:=x;exact zWf e
 |set S n=>obtain ⟨o,_,_,_,e,_⟩:=x;exact zWf e
 |ins C dx fs=>obtain ⟨_,_,_,e,_⟩:=x;exact zWf e
 |own y=>obtain ⟨_,e⟩:=x;exact zWf e
 |xd fs=>obtain ⟨_,⟨_,_,_,e,_⟩,_⟩:=x;exact zWf e
 |rng lo hi=>obtain ⟨_,_,_,e⟩:=x;exact zWf e
 |frz ob u=>obtain ⟨e,_⟩:=x;exact zWf e
 |tbl ps=>exact zWf (show h.get? a=some _ from x)
 |met f y=>exact zWf (show h.get? a=some _ from x)
 |ext φ=>obtain ⟨_,⟨_,e⟩,_⟩:=x;exact zWf e
theorem Paired.mapP {α β:Type} {F G:α->β->Prop}:∀ {l₁:List α} {l₂:List β},Paired F l₁ l₂->(∀ a b,F a b->G a b)->Paired G l₁ l₂
 |_,_,.nil,_=> .nil
 |_,_,.cons r t,f=> .cons (f _ _ r) (Paired.mapP t f)
theorem zAR.stay (x:zAR P w H h a o) (k:∀ b u,(b=a\/H b=some (.own a))->h.get? b=some u->h'.get? b=some u)
  (ho:∀ b,H b=some (.own a)->H' b=some (.own a)) (ht:∀ b xs,H b=some (.tup xs)->H' b=some (.tup xs)):zAR P w H' h' a o:=by
 induction o with
 |lst xs=>obtain ⟨z,its,n,r,e⟩:=x;exact ⟨z,its,n,r,k _ _ (.inl rfl) e⟩
 |tup xs=>obtain ⟨z,its,r,ob,e,c⟩:=x;exact ⟨z,its,r,ob,k _ _ (.inl rfl) e,c⟩
 |dK kvs=>obtain ⟨z,y,vs,r,ob,es,ep,e,c⟩:=x;exact ⟨z,y,vs,r,ob,es,ep,k _ _ (.inl rfl) e,c⟩
 |dT kvs=>
  obtain ⟨z,y,xs,r,ob,es,ep,e,c⟩:=x;exact ⟨z,y,xs,Paired.mapP r fun p q z=>⟨z.1,ht _ _ z.2.1,z.2.2⟩,ob,es,ep,k _ _ (.inl rfl) e,c⟩
 |set S n=>obtain ⟨ob,es,ep,t,e,c⟩:=x;exact ⟨ob,es,ep,t,k _ _ (.inl rfl) e,c⟩
 |ins C dx fs=>
  obtain ⟨d,z,ne,e,mA,⟨od,es,ep,e2,c⟩,r⟩:=x;exact ⟨ho _ d,z,ne,k _ _ (.inl rfl) e,mA,⟨od,es,ep,k _ _ (.inr d) e2,c⟩,r⟩
 |own y=>obtain ⟨ob,e⟩:=x;exact ⟨ob,k _ _ (.inl rfl) e⟩
 |xd fs=>obtain ⟨mA,⟨od,es,ep,e,c⟩,r⟩:=x;exact ⟨mA,⟨od,es,ep,k _ _ (.inl rfl) e,c⟩,r⟩
 |rng lo hi=>obtain ⟨t,u,v,e⟩:=x;exact ⟨t,u,v,k _ _ (.inl rfl) e⟩
 |frz ob u ih=>obtain ⟨e,q⟩:=x;exact ⟨k _ _ (.inl rfl) e,ih q⟩
 |tbl ps=>
  have e:h.get? a=some { cls:=.none,data:=.fields ps }:=x;show h'.get? a=some { cls:=.none,data:=.fields ps };exact k a _ (.inl rfl) e
 |met f y=>
  have e:h.get? a=some (PySem.W.methodObj (.ref f) (.ref y)):=x;show h'.get? a=some (PySem.W.methodObj (.ref f) (.ref y));exact k a _ (.inl rfl) e
 |ext φ=>obtain ⟨p,⟨o,e⟩,st⟩:=x;exact ⟨st _ _ p fun o q=>k _ _ (.inl rfl) q,⟨o,k _ _ (.inl rfl) e⟩,st⟩
theorem HOk.lt (x:HOk P w H h) (e:H a=some o):a<h.objs.size:=(x a o e).lt
theorem HOk.fresh (x:HOk P w H h) (e:h.objs.size<=a):H a=none:=by
 cases q:H a with
 |none=>rfl
 |some u=>exact absurd (zWt (x.lt q) e) (zXC _)
theorem HOk.kept (x:HOk P w H h) (k:∀ b u,h.get? b=some u->h'.get? b=some u):HOk P w H h':=fun a o e=>
 (x a o e).stay (fun b u _ q=>k b u q) (fun _ q=>q) fun _ _ q=>q
theorem HOk.laid (x:HOk P w H h) (k:∀ b u,h.get? b=some u->h'.get? b=some u) (hp:h.objs.size<=a) (new:zAR P w (upd H a o) h' a o):HOk P w (upd H a o) h':=fun b u e=>by
 have hn:=x.fresh hp;by_cases hb:b=a
 ·subst hb;rw[zw]at e;cases e;exact new
 ·rw[zZ hb]at e;exact (x b u e).stay (fun c v _ q=>k c v q) (fun c q=>by rw[zZ (zAI q hn)];exact q) fun c xs q=>by rw[zZ (zAI q hn)];exact q
end
def Rd (H:Hp) (a:Addr) (u:HO):Prop:=H a=some u \/ ∃ o,H a=some (.frz o u)
theorem Rd.ok {P:Program} {w:World} {H:Hp} {h:Heap} {a:Addr} {u:HO} (r:Rd H a u) (x:HOk P w H h):zAR P w H h a u:=by
 rcases r with r|⟨o,r⟩
 ·exact x a u r
 ·obtain ⟨_,q⟩:=x a _ r;exact q
def Mut:Option HO->Prop
 |some (.lst _)=>True
 |some (.dK _)=>True
 |some (.dT _)=>True
 |some (.set _ _)=>True
 |some (.ins _ _ _)=>True
 |some (.ext _)=>True
 |_=>False
section
variable {P:Program} {w:World} {H:Hp} {h h':Heap} {x e:Addr} {o':HO}
theorem HOk.write (ok:HOk P w H h) (mu:Mut (H x)) (he:e=x\/H e=some (.own x)) (k:∀ b u,b≠e->h.get? b=some u->h'.get? b=some u) (heo:∃ u,h'.get? e=some u)
  (new:zAR P w (upd H x o') h' x o'):HOk P w (upd H x o') h':=fun b u q=>by
 have nown:∀ c y,H c=some (.own y)->c≠x:=fun c y r z=>by subst z;rw[r]at mu;exact mu
 have ntup:∀ c xs,H c=some (.tup xs)->c≠x:=fun c xs r z=>by subst z;rw[r]at mu;exact mu
 by_cases hb:b=x
 ·subst hb;rw[zw]at q;cases q;exact new
 ·rw[zZ hb]at q;by_cases hbe:b=e
  ·have q':H b=some (.own x):=by
    rcases he with z|z
    ·exact absurd (hbe.trans z) hb
    ·rw[hbe];exact z
   rw[q]at q';cases q';obtain ⟨v,hv⟩:=heo;exact ⟨v,by rw[hbe];exact hv⟩
  ·refine (ok b u q).stay (fun c v hc r=>k c v ?_ r) (fun c r=>by rw[zZ (nown c b r)];exact r) fun c xs r=>by rw[zZ (ntup c xs r)];exact r
   rcases hc with rfl|hc
   ·exact hbe
   ·rintro rfl;rcases he with z|z
    ·exact nown c b hc z
    ·rw[hc]at z;cases z;exact hb rfl
end
structure Un (fs ex:List Addr) (H H':Hp) (h h':Heap):Prop where
 keep:∀ b o,h.get? b=some o->H b=none->b∉fs->b∉ex->h'.get? b=some o
 slot:∀ b o,h.get? b=some o->H b=none->b∈fs->b∉ex -> ∃ sl,h'.get? b=some { o with slots:=sl }
 free:∀ b o,h.get? b=some o->H b=none->b∉ex->H' b=none
 there:∀ b o,h.get? b=some o->b∉ex -> ∃ o',h'.get? b=some o'
 tups:∀ b xs,H b=some (.tup xs)->H' b=some (.tup xs)
 frzs:∀ b o u,H b=some (.frz o u)->H' b=some (.frz o u)
 tbls:∀ b ps,H b=some (.tbl ps) -> ∃ more,H' b=some (.tbl (ps++more))
section
variable {fs fs' ex ex':List Addr} {H H1 H2:Hp} {h h1 h2 h':Heap} {a x e:Addr} {o:HO}
theorem Un.any (u:Un fs ex H H1 h h1) {b:Addr} {ob:Obj} (q:h.get? b=some ob) (n:H b=none) (hx:b∉ex):∃ sl,h1.get? b=some { ob with slots:=sl }:=by
 by_cases hb:b∈fs
 ·exact u.slot b ob q n hb hx
 ·exact ⟨ob.slots,u.keep b ob q n hb hx⟩
theorem Un.kept (k:∀ b u,h.get? b=some u->h'.get? b=some u):Un fs ex H H h h' :=
 ⟨fun b ob q _ _ _=>k b ob q,fun b ob q _ _ _=>⟨ob.slots,k b ob q⟩,fun _ _ _ n _=>n,fun b ob q _=>⟨ob,k b ob q⟩,fun _ _ q=>q,fun _ _ _ q=>q,fun _ ps q=>⟨#[],by rw[q];simp⟩⟩
theorem Un.refl:Un fs ex H H h h:=Un.kept fun _ _ q=>q
theorem Un.laid (k:∀ b u,h.get? b=some u->h'.get? b=some u) (hp:h.objs.size<=a) (hn:H a=none):Un fs ex H (upd H a o) h h' where
 keep:=fun b u q _ _ _=>k b u q;slot:=fun b u q _ _ _=>⟨u.slots,k b u q⟩;free:=fun b u q n _=>by rw[zZ (zWp (zWt (zWf q) hp))];exact n
 there:=fun b u q _=>⟨u,k b u q⟩;tups:=fun b xs q=>by rw[zZ (zAI q hn)];exact q
 frzs:=fun b u xs q=>by rw[zZ (zAI q hn)];exact q
 tbls:=fun b ps q=>⟨#[],by rw[zZ (zAI q hn),q];simp⟩
theorem Un.write (mu:Mut (H x)) (he:e=x\/H e=some (.own x)) (k:∀ b u,b≠e->h.get? b=some u->h'.get? b=some u) (heo:∃ u,h'.get? e=some u):Un fs ex H (upd H x o) h h':=by
 have hx:∀ b,H b=none->b≠x:=fun b n z=>by subst z;rw[n]at mu;exact mu
 have hb:∀ b,H b=none->b≠e:=fun b n z=>by
  subst z;rcases he with r|r
  ·exact hx b n r
  ·rw[n]at r;cases r
 have hm:∀ b u,H b=some u -> ¬ Mut (some u)->b≠x:=fun b u q nm z=>by subst z;rw[q]at mu;exact nm mu
 refine ⟨fun b u q n _ _=>k b u (hb b n) q,fun b u q n _ _=>⟨u.slots,k b u (hb b n) q⟩,fun b u q n _=>by rw[zZ (hx b n)];exact n,fun b u q _=>?_,
  fun b xs q=>by rw[zZ (hm b _ q fun z=>z)];exact q,fun b u xs q=>by rw[zZ (hm b _ q fun z=>z)];exact q,fun b ps q=>⟨#[],by rw[zZ (hm b _ q fun z=>z),q];simp⟩⟩
 by_cases hbe:b=e
 ·subst hbe;exact heo
 ·exact ⟨u,k b u hbe q⟩
end
def trk (h:Heap) (H:Hp):List Addr:=(List.range h.objs.size).filter fun a=>(H a).isSome
def zI5 (h:Heap) (H:Hp):Heap:=PySem.W.hideAll h (trk h H)
theorem zO1 (h:Heap) (H:Hp):(zI5 h H).objs.size=h.objs.size:=PySem.W.hideAll_size _ _
theorem zQp {h:Heap} {H:Hp} {b:Addr} {o:Obj} (e:h.get? b=some o) (n:H b=none):(zI5 h H).get? b=some o :=
 PySem.W.hideAll_get _ e fun hm=>by
  have q:(H b).isSome=true:=(zXf.mp hm).2;rw[n]at q;simp at q
theorem zRY {h:Heap} {H:Hp} {b:Addr} {o:Obj} (e:(zI5 h H).get? b=some o):h.get? b=some o/\H b=none:=by
 have e':h.get? b=some o:=PySem.W.of_hideAll (trk h H) e;refine ⟨e',?_⟩;cases q:H b with
 |none=>rfl
 |some x=>
  have hm:b∈trk h H:=zXf.mpr ⟨zW8.mpr (zWf e'),by simp[q]⟩;have z:(zI5 h H).get? b=none:=PySem.W.hideAll_none (trk h H) hm;rw[z]at e;cases e
structure Mod (K:PySem.W.Frag) (mg:Str->Option Value) (base:Heap):Prop where
 kin:K.In base
 glob:base.Ns mainGlobals mg
 blt:∃ mb,base.Ns builtinsNs mb /\ ∀ x:Str,x ≠ "__name__" -> mb x=bootBuiltins x
 nolimit:base.NoLimit
structure Cx where
 prog:Program
 w:World
 K:PySem.W.Frag
 mg:Str->Option Value
 base:Heap
 A:Around
 N:List Str
 s₀:Shared
 H₀:Hp
 env:Env
 outer:List Env
 stack:List Env
 ex:List Addr
 fn:Str->Bool
 calm:Bool
 pn:List (Addr × Obj)
 xe:Value->Shared->Prop
def frs (l:List Env):List Addr:=l.filterMap (·.frame)
abbrev Cx.fs (X:Cx):List Addr:=frs X.outer
def Vis (sc:Scope) (x:Str):Prop:=sc.names.lookup x=some .local\/sc.names.lookup x=some .cell\/sc.names.lookup x=some .free
def Loc (sc:Scope) (x:Str):Prop:=sc.names.lookup x=some .local\/sc.names.lookup x=some .cell
def zV3 (env:Env) (h:Heap) (m:Str->Option Value) (x:Str) (u:Value):Prop :=
 (env.kindOf x=some .local/\m x=some u)\/((env.kindOf x=some .cell\/env.kindOf x=some .free) /\ ∃ c,env.cells.lookup x=some c/\h.IsCell c (some u))
structure Cx.Ok (X:Cx):Prop where
 mod:Mod X.K X.mg X.base
 kind:X.env.scope.kind=.function
 glob:X.env.globals=mainGlobals
 blt:X.env.builtins=builtinsNs
 above:X.s₀.heap.objs.size<=X.env.locals
 inj:∀ x y c,X.env.cells.lookup x=some c->X.env.cells.lookup y=some c->x=y
 has:∀ x,(X.env.kindOf x=some .cell\/X.env.kindOf x=some .free) -> ∃ c,X.env.cells.lookup x=some c
 cab:∀ x c,X.fn x=true->X.env.cells.lookup x=some c->X.s₀.heap.objs.size<=c
 hd:X.calm=true->X.A.handled=none
 frames:X.A.frames=some X.stack
 stk:X.stack=X.outer\/(X.stack=X.env::X.outer/\X.env.frame=some X.env.locals)
 exf:∀ b∈X.ex,b≠X.env.locals /\ ∀ x c,X.env.cells.lookup x=some c->c≠b
 bs:∀ b o,X.base.get? b=some o->X.s₀.heap.get? b=some o/\X.H₀ b=none
 bsz:X.base.objs.size<=X.s₀.heap.objs.size
 noex:∀ b o,X.base.get? b=some o->b∉X.ex
 exfs:∀ b∈X.ex,b∉X.fs
 funs:X.s₀.heap.FunFrames X.base X.outer
 frf:∀ b∈X.fs,X.H₀ b=none
structure Inv (X:Cx) (zB:List (Addr × Obj)) (σ:List (Option V)) (H:Hp) (s:Shared):Prop where
 ok:X.Ok
 os:s.os=X.s₀.os
 bare:AllBare s.gens
 base:Un X.fs X.ex X.H₀ H X.s₀.heap s.heap
 loc:∃ m,s.heap.Ns X.env.locals m /\ ∀ (i:Nat) (x:Str) (v:V),X.N[i]?=some x->σ[i]?=some (some v)->Vis X.env.scope x -> ∃ u,zp v u/\zV3 X.env s.heap m x u
 cell:∀ x c,X.env.cells.lookup x=some c -> ∃ v,s.heap.IsCell c v
 free:H X.env.locals=none
 freeC:∀ x c,X.env.cells.lookup x=some c->H c=none
 pin:∀ p∈X.pn++zB,s.heap.get? p.1=some p.2/\H p.1=none/\p.1≠X.env.locals/\p.1∉X.fs /\ ∀ v,p.2.data≠.cell v
 hok:HOk X.prog X.w H s.heap
 len:σ.length=X.N.length
section
variable {X:Cx} {zB:List (Addr × Obj)} {σ:List (Option V)} {H H':Hp} {s:Shared} {h':Heap}
theorem Cx.Ok.nofr (ok:X.Ok) {b:Addr} {o:Obj} (e:X.base.get? b=some o):b∉X.fs:=fun hb=>by
 have:=(ok.funs.mem hb).1;rw[e]at this;cases this
theorem Inv.bs (I:Inv X zB σ H s):∀ b o,X.base.get? b=some o->s.heap.get? b=some o/\H b=none:=fun b o e=>
 ⟨I.base.keep b o (I.ok.bs b o e).1 (I.ok.bs b o e).2 (I.ok.nofr e) (I.ok.noex b o e),I.base.free b o (I.ok.bs b o e).1 (I.ok.bs b o e).2 (I.ok.noex b o e)⟩
theorem Inv.bk (I:Inv X zB σ H s):∀ b o,X.base.get? b=some o->s.heap.get? b=some o:=fun b o e=>(I.bs b o e).1
theorem Inv.mod (I:Inv X zB σ H s):Mod X.K X.mg X.base:=I.ok.mod
theorem Inv.kIn (I:Inv X zB σ H s):X.K.In s.heap:=I.ok.mod.kin.keeps I.bk
theorem Inv.lt (I:Inv X zB σ H s):X.env.locals<s.heap.objs.size:=let ⟨_,hn,_⟩:=I.loc;hn.lt
theorem Inv.sz (I:Inv X zB σ H s):X.s₀.heap.objs.size<=s.heap.objs.size:=zWv I.ok.above (Nat.le_of_lt I.lt)
theorem Inv.nofs (I:Inv X zB σ H s) {a:Addr} (h:s.heap.objs.size<=a):a∉X.fs:=fun hb=>by
 obtain ⟨_,o,ho,_⟩:=I.ok.funs.mem hb;exact absurd (zWt (zWf ho) (zWv I.sz h)) (zXC _)
theorem Inv.cne (I:Inv X zB σ H s):∀ x c,X.env.cells.lookup x=some c->c≠X.env.locals:=fun x c e z=>by
 obtain ⟨v,o,ho,hd⟩:=I.cell x c e;obtain ⟨m,⟨o',es,ep,ho',hd',_⟩,_⟩:=I.loc;rw[z,ho']at ho;cases ho;rw[hd']at hd;cases hd
theorem Inv.funs (I:Inv X zB σ H s):s.heap.FunFrames X.base X.outer:=by
 have all:∀ (l:List Env),(∀ b∈frs l,b∈X.fs)->X.s₀.heap.FunFrames X.base l->s.heap.FunFrames X.base l:=by
  intro l;induction l with
  |nil=>intro _ _;trivial
  |cons env r ih=>
   intro hs hl;obtain ⟨hk,⟨L,o,hf,hn,ho,hd⟩,hr⟩:=hl;have hL:L∈X.fs:=hs L (by unfold frs;rw[List.filterMap_cons,hf];exact zWi);obtain ⟨sl,e⟩:=I.base.slot L o ho (I.ok.frf L hL) hL fun z=>I.ok.exfs L z hL;exact ⟨hk,⟨L,_,hf,hn,e,hd⟩,ih (fun b hb=>hs b (by unfold frs;rw[List.filterMap_cons,hf];exact zWh _ hb)) hr⟩
 exact all X.outer (fun _ hb=>hb) I.ok.funs
theorem Inv.stack (I:Inv X zB σ H s):s.heap.FunFrames X.base X.stack:=by
 rcases I.ok.stk with e|⟨e,hf⟩
 ·rw[e];exact I.funs
 ·rw[e];obtain ⟨m,hn,_⟩:=I.loc;refine .cons (by rw[I.ok.kind];decide) hf hn ?_ I.funs;exact Heap.get?_none_of_le (zWv I.ok.bsz I.ok.above)
theorem Inv.stkSub (I:Inv X zB σ H s):∀ b∈frs X.stack,b∈X.env.locals::X.fs:=fun b hb=>by
 rcases I.ok.stk with e|⟨e,hf⟩
 ·rw[e]at hb;exact zWh _ hb
 ·rw[e]at hb;unfold frs at hb;rw[List.filterMap_cons,hf]at hb;exact hb
theorem Inv.stkFree (I:Inv X zB σ H s):∀ b∈frs X.stack,H b=none:=fun b hb=>by
 rcases zWg.mp (I.stkSub b hb)with e|hb
 ·rw[e];exact I.free
 ·obtain ⟨_,o,ho,_⟩:=I.ok.funs.mem hb;exact I.base.free b o ho (I.ok.frf b hb) fun z=>I.ok.exfs b z hb
theorem Inv.step {g':Array GenState} {t':Nat} {d':Drawn} {ch:List Addr} (I:Inv X zB σ H s)
  (hch:∀ b∈ch,(b∈X.ex\/X.s₀.heap.objs.size<=b)/\b≠X.env.locals/\(∀ x c,X.env.cells.lookup x=some c->c≠b) /\ ∀ p∈X.pn++zB,p.1≠b)
  (keep:∀ b o,b≠X.env.locals->b∉X.fs->b∉ch->s.heap.get? b=some o->H b=none->h'.get? b=some o)
  (slot:∀ b o,b≠X.env.locals->b∈X.fs->b∉ch->s.heap.get? b=some o->H b=none -> ∃ sl,h'.get? b=some { o with slots:=sl }) (free:∀ b o,b∉ch->s.heap.get? b=some o->H b=none->H' b=none)
  (there:∀ b o,b∉ch->s.heap.get? b=some o -> ∃ o',h'.get? b=some o')
  (tups:∀ b xs,H b=some (.tup xs)->H' b=some (.tup xs)) (frzs:∀ b o u,H b=some (.frz o u)->H' b=some (.frz o u)) (tbls:∀ b ps,H b=some (.tbl ps) -> ∃ more,H' b=some (.tbl (ps++more)))
  (ns:∀ m,s.heap.Ns X.env.locals m->h'.Ns X.env.locals m) (hok:HOk X.prog X.w H' h') (hg:AllBare g') :
  Inv X zB σ H' { s with heap:=h',gens:=g',drawn:=d',toks:=t' }:=by
 have neL:∀ b o,X.s₀.heap.get? b=some o->b≠X.env.locals:=fun b o e=>zWp (zWt (zWf e) I.ok.above);have neC:∀ b o,X.s₀.heap.get? b=some o->b∉X.ex->b∉ch:=fun b o e hx hb=>by
  rcases (hch b hb).1 with z|z
  ·exact hx z
  ·exact absurd (zWt (zWf e) z) (zXC _)
 have cellK:∀ x c,X.env.cells.lookup x=some c -> ∀ v,s.heap.IsCell c v->h'.IsCell c v:=fun x c e v ⟨o,ho,hd⟩=>by
  have nch:c∉ch:=fun z=>(hch c z).2.2.1 x c e rfl;by_cases hc:c∈X.fs
  ·obtain ⟨sl,q⟩:=slot c o (I.cne x c e) hc nch ho (I.freeC x c e);exact ⟨_,q,hd⟩
  ·exact ⟨o,keep c o (I.cne x c e) hc nch ho (I.freeC x c e),hd⟩
 refine ⟨I.ok,I.os,hg,⟨fun b o e n hb hx=>?_,fun b o e n hb hx=>?_,fun b o e n hx=>?_,fun b o e hx=>?_,fun b xs e=>tups b xs (I.base.tups b xs e),fun b o xs e=>frzs b o xs (I.base.frzs b o xs e),fun b ps e=>?_⟩,?_,fun x c e=>?_,?_,fun x c e=>?_,fun p hp=>?_,hok,I.len⟩
 ·exact keep b o (neL b o e) hb (neC b o e hx) (I.base.keep b o e n hb hx) (I.base.free b o e n hx)
 ·obtain ⟨sl,e1⟩:=I.base.slot b o e n hb hx;obtain ⟨sl',e2⟩:=slot b _ (neL b o e) hb (neC b o e hx) e1 (I.base.free b o e n hx);exact ⟨sl',e2⟩
 ·obtain ⟨o',e1⟩:=I.base.there b o e hx;exact free b o' (neC b o e hx) e1 (I.base.free b o e n hx)
 ·obtain ⟨o',e1⟩:=I.base.there b o e hx;exact there b o' (neC b o e hx) e1
 ·obtain ⟨m1,e1⟩:=I.base.tbls b ps e;obtain ⟨m2,e2⟩:=tbls b _ e1;exact ⟨m1++m2,by rw[e2,Array.append_assoc]⟩
 ·obtain ⟨m,hn,hl⟩:=I.loc;refine ⟨m,ns m hn,fun i x v e1 e2 e3=>?_⟩;obtain ⟨u,r,l⟩:=hl i x v e1 e2 e3;refine ⟨u,r,?_⟩;rcases l with l|⟨k,c,e,z⟩
  ·exact .inl l
  ·exact .inr ⟨k,c,e,cellK x c e _ z⟩
 ·obtain ⟨v,z⟩:=I.cell x c e;exact ⟨v,cellK x c e v z⟩
 ·obtain ⟨m,⟨o,_,_,ho,_⟩,_⟩:=I.loc;exact free _ o (fun z=>(hch _ z).2.1 rfl) ho I.free
 ·obtain ⟨v,o,ho,hd⟩:=I.cell x c e;exact free c o (fun z=>(hch c z).2.2.1 x c e rfl) ho (I.freeC x c e)
 ·obtain ⟨e,n,ne,nf,d⟩:=I.pin p hp;have nch:p.1∉ch:=fun z=>(hch p.1 z).2.2.2 p hp rfl;exact ⟨keep p.1 p.2 ne nf nch e n,free p.1 p.2 nch e n,ne,nf,d⟩
theorem Inv.un {t':Nat} (I:Inv X zB σ H s) (u:Un X.fs [] H H' s.heap h') (hok:HOk X.prog X.w H' h'):Inv X zB σ H' { s with heap:=h',toks:=t' }:=by
 obtain ⟨m,⟨o,es,ep,ho,r⟩,_⟩:=id I.loc;obtain ⟨sl,hL⟩:=u.any ho I.free (by simp);exact I.step (g':=s.gens) (d':=s.drawn) (ch:=[]) (fun _ z=>nomatch z) (fun b o _ hb _ e n=>u.keep b o e n hb (by simp)) (fun b o _ hb _ e n=>u.slot b o e n hb (by simp)) (fun b o _ e n=>u.free b o e n (by simp)) (fun b o _ e=>u.there b o e (by simp)) u.tups u.frzs u.tbls (fun m' hm=>by
  obtain ⟨o',es',ep',ho',r'⟩:=hm;rw[ho]at ho';cases ho';exact ⟨_,es',ep',hL,r'⟩) hok I.bare
theorem Inv.call {g':Array GenState} {t':Nat} {d':Drawn} {ch:List Addr} (I:Inv X zB σ H s) (u:Un (frs X.stack) ch H H' s.heap h') (hok:HOk X.prog X.w H' h') (hg:AllBare g')
  (hch:∀ b∈ch,(b∈X.ex\/X.s₀.heap.objs.size<=b)/\b≠X.env.locals/\(∀ x c,X.env.cells.lookup x=some c->c≠b) /\ ∀ p∈X.pn++zB,p.1≠b) :
  Inv X zB σ H' { s with heap:=h',gens:=g',drawn:=d',toks:=t' }:=by
 obtain ⟨m,⟨o,es,ep,ho,r⟩,_⟩:=id I.loc;obtain ⟨sl,hL⟩:=u.any ho I.free fun z=>(hch _ z).2.1 rfl;exact I.step (ch:=ch) hch (fun b o hL hb hc e n=>u.keep b o e n (fun z=>(zWg.mp (I.stkSub b z)).elim hL hb) hc) (fun b o _ _ hc e n=>u.any e n hc) (fun b o hc e n=>u.free b o e n hc) (fun b o hc e=>u.there b o e hc) u.tups u.frzs u.tbls (fun m' hm=>by
  obtain ⟨o',es',ep',ho',r'⟩:=hm;rw[ho]at ho';cases ho';exact ⟨_,es',ep',hL,r'⟩) hok hg
theorem Inv.turned {t':Nat} {it:Addr} (I:Inv X zB σ H s) (k:∀ b o,b≠it->s.heap.get? b=some o->h'.get? b=some o) (hn:H it=none) (hL:it≠X.env.locals)
  (h1:it∈X.ex\/X.s₀.heap.objs.size<=it) (h2:∀ x c,X.env.cells.lookup x=some c->c≠it) (h3:∀ p∈X.pn++zB,p.1≠it):Inv X zB σ H { s with heap:=h',toks:=t' }:=by
 have nit:∀ b u,H b=some u->b≠it:=fun b u e z=>by rw[z,hn]at e;cases e
 refine I.step (g':=s.gens) (d':=s.drawn) (ch:=[it]) (fun b hb=>?_) (fun b o _ _ hc e _=>k b o (fun z=>hc (by simp[z])) e) (fun b o _ _ hc e _=>⟨o.slots,k b o (fun z=>hc (by simp[z])) e⟩) (fun _ _ _ _ n=>n)
  (fun b o hc e=>⟨o,k b o (fun z=>hc (by simp[z])) e⟩) (fun _ _ e=>e) (fun _ _ _ e=>e) (fun b ps e=>⟨#[],by rw[e];simp⟩) (fun m hm=>?_) (fun b u e=>?_) I.bare
 ·have e:b=it:=by simpa using hb
  subst e;exact ⟨h1,hL,h2,h3⟩
 ·obtain ⟨o,es,ep,ho,r⟩:=hm;exact ⟨o,es,ep,k _ o (Ne.symm hL) ho,r⟩
 ·refine (I.hok b u e).stay (fun c v hc q=>k c v ?_ q) (fun _ q=>q) fun _ _ q=>q;rcases hc with z|z
  ·rw[z];exact nit b u e
  ·exact nit c _ z
theorem Inv.tok (I:Inv X zB σ H s) (t:Nat):Inv X zB σ H { s with toks:=t }:=I.un (h':=s.heap) (t':=t) Un.refl I.hok
theorem Inv.kept {t':Nat} (I:Inv X zB σ H s) (k:∀ b u,s.heap.get? b=some u->h'.get? b=some u):Inv X zB σ H { s with heap:=h',toks:=t' }:=I.un (Un.kept k) (I.hok.kept k)
theorem Inv.laid {a:Addr} {o:HO} {t':Nat} (I:Inv X zB σ H s) (k:∀ b u,s.heap.get? b=some u->h'.get? b=some u) (hp:s.heap.objs.size<=a) (new:zAR X.prog X.w (upd H a o) h' a o) :
  Inv X zB σ (upd H a o) { s with heap:=h',toks:=t' }:=I.un (Un.laid k hp (I.hok.fresh hp)) (I.hok.laid k hp new)
theorem Inv.write {x e:Addr} {o:HO} {t':Nat} (I:Inv X zB σ H s) (mu:Mut (H x)) (he:e=x\/H e=some (.own x)) (k:∀ b u,b≠e->s.heap.get? b=some u->h'.get? b=some u) (heo:∃ u,h'.get? e=some u)
  (new:zAR X.prog X.w (upd H x o) h' x o):Inv X zB σ (upd H x o) { s with heap:=h',toks:=t' }:=I.un (Un.write mu he k heo) (I.hok.write mu he k heo new)
theorem Inv.weak {σ':List (Option V)} (I:Inv X zB σ H s) (hl:σ'.length=σ.length) (w:∀ (i:Nat) v,σ'[i]?=some (some v)->σ[i]?=some (some v)):Inv X zB σ' H s :=
 ⟨I.ok,I.os,I.bare,I.base,let ⟨m,hn,hl'⟩:=I.loc;⟨m,hn,fun i x v e1 e2 e3=>hl' i x v e1 (w i v e2) e3⟩,I.cell,I.free,I.freeC,I.pin,I.hok,hl.trans I.len⟩
theorem Inv.pins_of {pins':List (Addr × Obj)} (I:Inv X zB σ H s) (h:∀ p∈pins',s.heap.get? p.1=some p.2/\H p.1=none/\p.1≠X.env.locals/\p.1∉X.fs /\ ∀ v,p.2.data≠.cell v):Inv X pins' σ H s :=
 ⟨I.ok,I.os,I.bare,I.base,I.loc,I.cell,I.free,I.freeC,fun p hp=>(zWu.mp hp).elim (fun z=>I.pin p (zXj _ z)) (h p),I.hok,I.len⟩
theorem zKr {N:List Str} (hN:N.Nodup) {i j:Nat} {x:Str} (a:N[i]?=some x) (b:N[j]?=some x):i=j:=by
 obtain ⟨h1,e1⟩:=zWX.mp a;obtain ⟨h2,e2⟩:=zWX.mp b;exact (List.getElem_inj hN).mp (e1.trans e2.symm)
theorem zNh {M:Model} {A:Around} {E:Value->Shared->Prop} {i:Nat} {x:Str} {v:V} {u:Value} {Q:Unit->Shared->Prop} (I:Inv X zB σ H s) (hN:X.N.Nodup) (hi:X.N[i]?=some x) (hx:Loc X.env.scope x) (r:zp v u)
  (h:∀ s',Inv X zB (σ.set i (some v)) H s'->(∃ a,Heap.SameBut a s.heap s'.heap/\(a=X.env.locals\/X.env.cells.lookup x=some a))->Q () s') (hf:X.fn x=true\/X.env.scope.names.lookup x=some .local:=by first|exact .inl rfl|exact .inr rfl|assumption):wpAny M A (storeName X.env x u) Q E s:=by
 obtain ⟨m,hn,hl⟩:=id I.loc;have hcls:(X.env.scope.kind == .class||(X.env.scope.kind == .module&&X.env.locals != X.env.globals))=false:=by rw[I.ok.kind];rfl
 have hiσ:i<σ.length:=by rw[I.len];exact (zWX.mp hi).1
 have cne:=I.cne;have tracked:∀ {a:Addr} {h':Heap},(∃ o,s.heap.get? a=some o/\H a=none)->Heap.SameBut a s.heap h'->HOk X.prog X.w H h':=fun {a h'} ha hs b ob e=>by
  obtain ⟨_,_,hfree⟩:=ha;refine (I.hok b ob e).stay (fun c w' hc q=>(hs.2 c ?_).trans q) (fun _ q=>q) fun _ _ q=>q;rintro rfl;rcases hc with rfl|hc
  ·rw[hfree]at e;cases e
  ·rw[hfree]at hc;cases hc
 rcases hx with hk|hk
 ·refine wpAny_storeName_local hk hn (fun h' hn' hs=>?_) hcls;obtain ⟨oL,_,_,hoL,_⟩:=id hn;refine h _ ⟨I.ok,I.os,I.bare,⟨fun b o e n hb hx=>?_,fun b o e n hb hx=>?_,I.base.free,fun b o e hx=>?_,I.base.tups,I.base.frzs,I.base.tbls⟩,⟨_,hn',fun j y v' e1 e2 e3=>?_⟩,fun y c e=>?_,I.free,I.freeC,fun p hp=>?_,tracked ⟨oL,hoL,I.free⟩ hs,by simpa using I.len⟩ ⟨_,hs,.inl rfl⟩
  ·exact (hs.2 b (zWp (zWt (zWf e) I.ok.above))).trans (I.base.keep b o e n hb hx)
  ·obtain ⟨sl,e1⟩:=I.base.slot b o e n hb hx;exact ⟨sl,(hs.2 b (zWp (zWt (zWf e) I.ok.above))).trans e1⟩
  ·obtain ⟨o',e1⟩:=I.base.there b o e hx;exact ⟨o',(hs.2 b (zWp (zWt (zWf e) I.ok.above))).trans e1⟩
  ·by_cases hj:j=i
   ·subst hj;rw[hi]at e1;cases e1;rw[zXO hiσ]at e2;cases e2;exact ⟨u,r,.inl ⟨hk,by simp⟩⟩
   ·rw[zWy (Ne.symm hj)]at e2;obtain ⟨u',r',q⟩:=hl j y v' e1 e2 e3;refine ⟨u',r',?_⟩;rcases q with ⟨k,e⟩|⟨k,c,e,z⟩
    ·refine .inl ⟨k,?_⟩;have:y≠x:=fun e=>hj (zKr hN e1 (e▸hi));simp[this,e]
    ·exact .inr ⟨k,c,e,z.sameBut hs (cne y c e)⟩
  ·obtain ⟨w',z⟩:=I.cell y c e;exact ⟨w',z.sameBut hs (cne y c e)⟩
  ·obtain ⟨e,n,ne,nf,d⟩:=I.pin p hp;exact ⟨(hs.2 p.1 ne).trans e,n,ne,nf,d⟩
 ·have hfn:X.fn x=true:=by
   rcases hf with z|z
   ·exact z
   ·rw[z]at hk;cases hk
  obtain ⟨c,hc⟩:=I.ok.has x (.inl hk);obtain ⟨w',z⟩:=I.cell x c hc;refine wpAny_storeName_cell I.ok.kind hk hc z (fun h' hc' hs=>?_);obtain ⟨oc,hoc,hocd⟩:=id z;refine h { s with heap:=h' } ⟨I.ok,I.os,I.bare,⟨fun b o e n hb hx=>?_,fun b o e n hb hx=>?_,I.base.free,fun b o e hx=>?_,I.base.tups,I.base.frzs,I.base.tbls⟩,⟨m,hn.sameBut hs (Ne.symm (cne x c hc)),fun j y v' e1 e2 e3=>?_⟩,fun y c' e=>?_,I.free,I.freeC,fun p hp=>?_,tracked ⟨oc,hoc,I.freeC x c hc⟩ hs,by simpa using I.len⟩ ⟨c,hs,.inr hc⟩
  ·exact (hs.2 b (zWp (zWt (zWf e) (I.ok.cab x c hfn hc)))).trans (I.base.keep b o e n hb hx)
  ·obtain ⟨sl,e1⟩:=I.base.slot b o e n hb hx;exact ⟨sl,(hs.2 b (zWp (zWt (zWf e) (I.ok.cab x c hfn hc)))).trans e1⟩
  ·obtain ⟨o',e1⟩:=I.base.there b o e hx;exact ⟨o',(hs.2 b (zWp (zWt (zWf e) (I.ok.cab x c hfn hc)))).trans e1⟩
  ·by_cases hj:j=i
   ·subst hj;rw[hi]at e1;cases e1;rw[zXO hiσ]at e2;cases e2;exact ⟨u,r,.inr ⟨.inl hk,c,hc,hc'⟩⟩
   ·rw[zWy (Ne.symm hj)]at e2;obtain ⟨u',r',q⟩:=hl j y v' e1 e2 e3;refine ⟨u',r',?_⟩;rcases q with q|⟨k,c',e,z'⟩
    ·exact .inl q
    ·refine .inr ⟨k,c',e,z'.sameBut hs ?_⟩;rintro rfl;exact hj (zKr hN e1 (I.ok.inj _ _ _ e hc▸hi))
  ·by_cases hcc:c'=c
   ·subst hcc;exact ⟨_,hc'⟩
   ·obtain ⟨w2,z2⟩:=I.cell y c' e;exact ⟨w2,z2.sameBut hs hcc⟩
  ·obtain ⟨e,n,ne,nf,d⟩:=I.pin p hp;refine ⟨(hs.2 p.1 ?_).trans e,n,ne,nf,d⟩;intro q;rw[q,hoc]at e;have q':oc=p.2:=zXU e;exact d w' (by rw[<-q'];exact hocd)
theorem zKw {M:Model} {A:Around} {E:Value->Shared->Prop} {i:Nat} {x:Str} {v:V} {u:Value} {Q:Unit->Shared->Prop} (I:Inv X zB σ H s) (hN:X.N.Nodup) (hi:X.N[i]?=some x) (hx:Loc X.env.scope x) (r:zp v u)
  (h:∀ s',Inv X zB (σ.set i (some v)) H s'->Q () s') (hf:X.fn x=true\/X.env.scope.names.lookup x=some .local:=by first|exact .inl rfl|exact .inr rfl|assumption):wpAny M A (storeName X.env x u) Q E s :=
 zNh I hN hi hx r (fun s' I' _=>h s' I') hf
theorem Inv.call' {s':Shared} {ch:List Addr} (I:Inv X zB σ H s) (ho:s'.os=s.os) (u:Un (frs X.stack) ch H H' s.heap s'.heap) (hok:HOk X.prog X.w H' s'.heap) (hg:AllBare s'.gens)
  (hch:∀ b∈ch,(b∈X.ex\/X.s₀.heap.objs.size<=b)/\b≠X.env.locals/\(∀ x c,X.env.cells.lookup x=some c->c≠b) /\ ∀ p∈X.pn++zB,p.1≠b):Inv X zB σ H' s':=by
 obtain ⟨h',g',d',t',o'⟩:=s';have e:o'=s.os:=ho;subst e;exact I.call (g':=g') (t':=t') (d':=d') u hok hg hch
end
abbrev XK:=Value->Option Addr->Hp->Prop
abbrev St:=List (Option V)
abbrev VK:=V->Hp->Prop
abbrev TE:=St->Hp->VK->Prop
abbrev TT:=St->Hp->(Bool->Hp->Prop)->Prop
abbrev TA:=St->Hp->(List V->Hp->Prop)->Prop
structure Ends where
 nx:St->Hp->Prop
 rt:VK
 bk:St->Hp->Prop:=fun _ _=>False
 ct:St->Hp->Prop:=fun _ _=>False
abbrev TS:=Ends->St->Hp->Prop
def EP (X:Cx) (zB:List (Addr × Obj)) (σ:St) (Q:VK) (u:Value) (s':Shared):Prop:=∃ v H',Inv X zB σ H' s'/\zp v u/\Q v H'
def TP (X:Cx) (zB:List (Addr × Obj)) (σ:St) (Q:Bool->Hp->Prop) (b:Bool) (s':Shared):Prop:=∃ H',Inv X zB σ H' s'/\Q b H'
def AP (X:Cx) (zB:List (Addr × Obj)) (σ:St) (Q:List V->Hp->Prop) (us:List Value) (s':Shared):Prop:=∃ vs H',Inv X zB σ H' s'/\ze vs us/\Q vs H'
def SP (X:Cx) (zB:List (Addr × Obj)) (D:Ends) (f:Flow) (s':Shared):Prop :=
 match f with
 |.next=>∃ σ' H',Inv X zB σ' H' s'/\D.nx σ' H'
 |.brk=>∃ σ' H',Inv X zB σ' H' s'/\D.bk σ' H'
 |.cont=>∃ σ' H',Inv X zB σ' H' s'/\D.ct σ' H'
 |.ret u=>∃ v σ' H',Inv X zB σ' H' s'/\zp v u/\D.rt v H'
def PE (X:Cx) (e:Expr) (t:TE):Prop :=
 ∀ (zB:List (Addr × Obj)) (s:Shared) (σ:St) (H:Hp) (Q:VK),Inv X zB σ H s->t σ H Q->wpAny (model X.prog X.w) X.A (eval e X.env) (EP X zB σ Q) X.xe s
def PT (X:Cx) (e:Expr) (t:TT):Prop :=
 ∀ (zB:List (Addr × Obj)) (s:Shared) (σ:St) (H:Hp) (Q:Bool->Hp->Prop),Inv X zB σ H s->t σ H Q->wpAny (model X.prog X.w) X.A (isTrue e X.env (eval e X.env)) (TP X zB σ Q) X.xe s
def PW (X:Cx) (e:Expr) (t:TT):Prop :=
 ∀ (whole:Sem Value) (zB:List (Addr × Obj)) (s:Shared) (σ:St) (H:Hp) (Q:Bool->Hp->Prop),Inv X zB σ H s->t σ H Q->wpAny (model X.prog X.w) X.A (isTrue e X.env whole) (TP X zB σ Q) X.xe s
theorem PW.pt {X:Cx} {e:Expr} {t:TT} (h:PW X e t):PT X e t:=h _
def PA (X:Cx) (es:List Expr) (t:TA):Prop :=
 ∀ (pos:Pos) (zB:List (Addr × Obj)) (s:Shared) (σ:St) (H:Hp) (Q:List V->Hp->Prop),Inv X zB σ H s->t σ H Q->wpAny (model X.prog X.w) X.A (spliced (backTo pos (starEach es X.env))) (AP X zB σ Q) X.xe s
def PS (X:Cx) (st:Stmt) (t:TS):Prop :=
 ∀ (zB:List (Addr × Obj)) (s:Shared) (σ:St) (H:Hp) (D:Ends),Inv X zB σ H s->t D σ H->wpAny (model X.prog X.w) X.A (exec st X.env) (SP X zB D) X.xe s
def PSs (X:Cx) (st:List Stmt) (t:TS):Prop :=
 ∀ (zB:List (Addr × Obj)) (s:Shared) (σ:St) (H:Hp) (D:Ends),Inv X zB σ H s->t D σ H->wpAny (model X.prog X.w) X.A (execs st X.env) (SP X zB D) X.xe s
theorem thn {α:Type} {t:Sem α} {Q Q':α->Shared->Prop} {M:Model} {A:Around} {E:Value->Shared->Prop} {s:Shared} (h:wpAny M A t Q E s) (hQ:∀ a s,Q a s->Q' a s):wpAny M A t Q' E s:=zW0 h hQ fun _ _ x=>x
section
variable {X:Cx}
def zTB (i:Nat):TE:=fun σ H Q=>∃ v,σ[i]?=some (some v)/\Q v H
def tC (v:V):TE:=fun _ H Q=>Q v H
theorem zUG {i:Nat} {x:Str} {pos:Pos} (hN:X.N[i]?=some x) (hv:Vis X.env.scope x) (hd:(x==("__debug__" : Str))=false:=by decide) (hcd:(x==("__classdict__" : Str))=false:=by decide):PE X (.Name x pos) (zTB i):=by
 intro zB s σ H Q I h;obtain ⟨v,e,h⟩:=h;obtain ⟨m,hn,hl⟩:=I.loc;obtain ⟨u,r,l⟩:=hl i x v hN e hv;have fin:EP X zB σ Q u s:=⟨v,H,I,r,h⟩;rcases l with ⟨hk,hm⟩|⟨hk,c,hc,hcell⟩
 ·exact wpAny_Name (wpAny_loadName_local I.ok.kind hk hn hm fin) hd
 ·rcases hk with hk|hk
  ·exact wpAny_Name (wpAny_loadName_cell I.ok.kind hk hc hcell fin) hd
  ·exact wpAny_Name (wpAny_loadName_free I.ok.kind hk hc hcell fin hcd) hd
theorem zTm {i j pos}:PE X (.Constant (.int i) j pos) (tC (.int i)):=fun _ _ _ H _ I h=>wpAny_Constant_int ⟨.int i,H,I.tok _,⟨_,rfl⟩,h⟩
theorem zVD {b j pos}:PE X (.Constant (.bool b) j pos) (tC (.bl b)):=fun _ _ _ H _ I h=>Constant_bool ⟨.bl b,H,I,rfl,h⟩
theorem zTj {x j pos}:PE X (.Constant (.str x) j pos) (tC (.str x)):=fun _ _ _ H _ I h=>Calls.Constant_str ⟨.str x,H,I.tok _,⟨_,rfl⟩,h⟩
def Gl (X:Cx) (x:Str):Prop:=X.env.kindOf x=some .globalImplicit
theorem zRX {E:Value->Shared->Prop} {zB:List (Addr × Obj)} {s:Shared} {σ:St} {H:Hp} {x:Str} {u:Value} {pos:Pos} {Q:Value->Shared->Prop} (I:Inv X zB σ H s) (hg:Gl X x) (hm:X.mg x=some u) (h:Q u s)
  (hd:(x==("__debug__" : Str))=false:=by decide):wpAny (model X.prog X.w) X.A (eval (.Name x pos) X.env) Q E s :=
 Calls.Name_function_global I.ok.kind hg (Calls.loadGlobal_global (by rw[I.ok.glob];exact I.mod.glob.keeps I.bk) hm h) hd
theorem zEH {E:Value->Shared->Prop} {zB:List (Addr × Obj)} {s:Shared} {σ:St} {H:Hp} {x:Str} {u:Value} {pos:Pos} {Q:Value->Shared->Prop} (I:Inv X zB σ H s) (hg:Gl X x) (hm:X.mg x=none) (hv:bootBuiltins x=some u) (h:Q u s)
  (hn:x ≠ "__name__" := by decide) (hd:(x==("__debug__" : Str))=false:=by decide):wpAny (model X.prog X.w) X.A (eval (.Name x pos) X.env) Q E s:=by
 obtain ⟨mb,h1,h2⟩:=I.mod.blt;exact Calls.Name_function_global I.ok.kind hg (Calls.loadGlobal_builtin (by rw[I.ok.glob];exact I.mod.glob.keeps I.bk) hm (by rw[I.ok.blt];exact h1.keeps I.bk) ((h2 x hn).trans hv) h) hd
theorem zRV {x:Str} {v:V} {u:Value} {pos:Pos} (hg:Gl X x) (hm:X.mg x=none) (hv:bootBuiltins x=some u) (r:zp v u) (hn:x ≠ "__name__" := by decide) (hd:(x==("__debug__" : Str))=false:=by decide):PE X (.Name x pos) (tC v) :=
 fun _ _ _ H _ I h=>zEH I hg hm hv ⟨v,H,I,r,h⟩ hn hd
variable {a b:Expr} {ta tb:TE} {pos:Pos}
def PC (X:Cx) (op:CmpOp) (a b:Expr) (t:TE):Prop :=
 ∀ (zB:List (Addr × Obj)) (s:Shared) (σ:St) (H:Hp) (Q:VK),Inv X zB σ H s->t σ H Q ->
  wpAny (model X.prog X.w) X.A (eval a X.env) (fun v s₁=>wpAny (model X.prog X.w) X.A (eval b X.env) (fun u s₂=>wpAny (model X.prog X.w) X.A (compareOp op v u) (EP X zB σ Q) X.xe s₂) X.xe s₁) X.xe s
def tB (t:TE):TT:=fun σ H Q=>t σ H fun x H1=>∃ c,x=.bl c/\Q c H1
theorem zRF {op:CmpOp} {t:TE} (h:PC X op a b t) (h1:behindInMarks op b=false:=by first|exact nobehind _ (by decide) (by decide)|rfl):PT X (.Compare a [op] [b] pos) (tB t):=by
 intro zB s σ H Q I hw;refine wpAny_isTrue_Compare1 (thn (h zB s σ H _ I hw) fun v s1 h1=>thn h1 fun u s2 h2=>thn h2 fun c s3 ⟨x,H1,I1,r1,q1⟩=>?_) h1;obtain ⟨d,rfl,q⟩:=q1;cases r1;exact wpAny_truthy_bool ⟨H1,I1,q⟩
theorem zS2 {e:Expr} {t:TE} (h:PE X e t) (he:∀ whole,isTrue e X.env whole=(do let v <- whole;standAt e.pos;holding [v] (truthy v)):=by intro _;rfl):PT X e (tB t):=by
 intro zB s σ H Q I hw;refine isTrue_plain (thn (h zB s σ H _ I hw) fun v s1 ⟨x,H1,I1,r1,q1⟩=>?_) (he _);obtain ⟨d,rfl,q⟩:=q1;cases r1;exact wpAny_truthy_bool ⟨H1,I1,q⟩
variable {tA tB':TT} {rest:List Expr}
def zV6 (t u:TT):TT:=fun σ H Q=>t σ H fun c H1=>if c=true then u σ H1 Q else Q false H1
def tOr (t u:TT):TT:=fun σ H Q=>t σ H fun c H1=>if c=true then Q true H1 else u σ H1 Q
def zWR (t:TT):TT:=fun σ H Q=>t σ H fun c H1=>Q (!c) H1
theorem zSC (ha:PT X a tA):PW X (.BoolOp .And [a] pos) tA:=by
 intro wh zB s σ H Q I h;refine isTrue_and (thn (ha zB s σ H Q I h) fun c s1 e=>?_);cases c with
 |true=>exact isTrue_and_nil e
 |false=>exact e
theorem zUL (ha:PT X a tA):PW X (.BoolOp .Or [a] pos) tA:=by
 intro wh zB s σ H Q I h;refine isTrue_or (thn (ha zB s σ H Q I h) fun c s1 e=>?_);cases c with
 |false=>exact isTrue_or_nil e
 |true=>exact e
theorem zTF (ha:PT X a tA) (hb:PW X (.BoolOp .And (b::rest) pos) tB'):PW X (.BoolOp .And (a::b::rest) pos) (zV6 tA tB'):=by
 intro wh zB s σ H Q I h;refine isTrue_and (thn (ha zB s σ H _ I h) fun c s1 ⟨H1,I1,q1⟩=>?_);cases c with
 |true=>exact hb wh zB s1 σ H1 Q I1 q1
 |false=>exact ⟨H1,I1,q1⟩
theorem zVe (ha:PT X a tA) (hb:PW X (.BoolOp .Or (b::rest) pos) tB'):PW X (.BoolOp .Or (a::b::rest) pos) (tOr tA tB'):=by
 intro wh zB s σ H Q I h;refine isTrue_or (thn (ha zB s σ H _ I h) fun c s1 ⟨H1,I1,q1⟩=>?_);cases c with
 |true=>exact ⟨H1,I1,q1⟩
 |false=>exact hb wh zB s1 σ H1 Q I1 q1
theorem zTC (ha:PT X a tA):PT X (.UnaryOp .Not a pos) (zWR tA):=by
 intro zB s σ H Q I h;exact isTrue_not (ha zB s σ H (fun c H1=>Q (!c) H1) I h)
def zUy (ta tb:TE):TE:=fun σ H Q=>ta σ H fun x H1=>∃ c,x=.bl c/\if c=true then tb σ H1 Q else Q (.bl false) H1
def zVA (ta:TE):TE:=fun σ H Q=>ta σ H fun x H1=>∃ c,x=.bl c/\Q (.bl (!c)) H1
theorem zTI {op} {t:TE} (h:PE X a t):PE X (.BoolOp op [a] pos) t:=fun zB s σ H Q I hw=>BoolOp_one (h zB s σ H Q I hw)
theorem zUN (ha:PE X a ta) (hb:PE X (.BoolOp .And (b::rest) pos) tb):PE X (.BoolOp .And (a::b::rest) pos) (zUy ta tb):=by
 intro zB s σ H Q I h;refine BoolOp_and (thn (ha zB s σ H _ I h) fun v s1 ⟨x,H1,I1,r1,q1⟩=>?_);obtain ⟨c,rfl,q1⟩:=q1;cases r1;refine wpAny_truthy_bool ?_;cases c with
 |true=>exact hb zB s1 σ H1 Q I1 q1
 |false=>exact ⟨.bl false,H1,I1,rfl,q1⟩
theorem zUK (ha:PE X a ta):PE X (.UnaryOp .Not a pos) (zVA ta):=by
 intro zB s σ H Q I h;refine UnaryOp_ (thn (ha zB s σ H _ I h) fun v s1 ⟨x,H1,I1,r1,q1⟩=>?_);obtain ⟨c,rfl,q1⟩:=q1;cases r1;exact not_of (wpAny_truthy_bool ⟨.bl (!c),H1,I1,rfl,q1⟩)
def tIf (t:TT) (ta tb:TE):TE:=fun σ H Q=>t σ H fun c H1=>if c=true then ta σ H1 Q else tb σ H1 Q
theorem zPS {c:Expr} (hc:PT X c tA) (ha:PE X a ta) (hb:PE X b tb):PE X (.IfExp c a b pos) (tIf tA ta tb):=by
 intro zB s σ H Q I h;refine wpAny_IfExp (thn (hc zB s σ H _ I h) fun d s1 ⟨H1,I1,q1⟩=>?_);cases d with
 |true=>exact ha zB s1 σ H1 Q I1 q1
 |false=>exact hb zB s1 σ H1 Q I1 q1
end
def SqL (K:PySem.W.Frag) (H:Hp) (a:Addr) (xs:List V):Prop :=
 Rd H a (.lst xs) \/
  ∃ (o:Obj) (its:Array Value) (n:Nat),K.lookup a=some o/\o.cls=.type "list" /\ o.dict=none/\o.data=.seq its n/\its.size<=sizeLine/\ze xs its.toList
def SqT (K:PySem.W.Frag) (H:Hp) (a:Addr) (xs:List V):Prop :=
 Rd H a (.tup xs) \/
  ∃ (o:Obj) (its:Array Value) (n:Nat),K.lookup a=some o/\o.cls=.type "tuple" /\ o.data=.seq its n/\its.size<=sizeLine/\ze xs its.toList
def zV7:Value->Option V
 |.none=>some .non
 |.bool b=>some (.bl b)
 |.int i _=>some (.int i)
 |.str x _=>some (.str x)
 |.bytes b _=>some (.byt b)
 |.float b _=>some (.flt b)
 |.ref a=>some (.ref a)
 |.type n=>some (.ty n)
 |_=>none
theorem zp.abs {x:V} {u:Value} (r:zp x u):zV7 u=some x:=by
 cases x with
 |non=>cases r;rfl
 |bl _=>cases r;rfl
 |int _=>obtain ⟨t,rfl⟩:=r;rfl
 |str _=>obtain ⟨t,rfl⟩:=r;rfl
 |byt _=>obtain ⟨t,rfl⟩:=r;rfl
 |flt _=>obtain ⟨t,rfl⟩:=r;rfl
 |ref _=>cases r;rfl
 |ty _=>cases r;rfl
theorem zp.inj {x y:V} {u:Value} (r:zp x u) (q:zp y u):x=y:=zXU (r.abs.symm.trans q.abs)
theorem ze.inj:∀ {xs ys:List V} {us:List Value},ze xs us->ze ys us->xs=ys
 |_,_,_,.nil,.nil=>rfl
 |_,_,_,.cons r t,.cons r' t'=>by rw[r.inj r',ze.inj t t']
section
variable {X:Cx} {zB:List (Addr × Obj)} {σ:St} {H:Hp} {s:Shared} {a:Addr} {xs ys:List V}
theorem SqL.of {K:PySem.W.Frag} (h:H a=some (.lst xs)):SqL K H a xs:=.inl (.inl h)
theorem SqT.of {K:PySem.W.Frag} (h:H a=some (.tup xs)):SqT K H a xs:=.inl (.inl h)
theorem Inv.list (I:Inv X zB σ H s) (h:SqL X.K H a xs):∃ its:List Value,ze xs its/\PlainL s.heap a its.toArray/\xs.length<=sizeLine:=by
 rcases h with h|⟨o,its,n,hk,hc,hd,hs,hz,r⟩
 ·obtain ⟨z,its,n,r,e⟩:=h.ok I.hok;exact ⟨its,r,⟨_,n,e,rfl,rfl,rfl⟩,z⟩
 ·refine ⟨its.toList,r,⟨o,n,I.kIn a o hk,hc,hd,by simpa using hs⟩,?_⟩;have e:=r.length;simp only[zXD]at e;omega
theorem Inv.tuple (I:Inv X zB σ H s) (h:SqT X.K H a xs):∃ its:List Value,ze xs its/\IsTup s.heap a its.toArray/\xs.length<=sizeLine:=by
 rcases h with h|⟨o,its,n,hk,hc,hs,hz,r⟩
 ·obtain ⟨z,its,r,p⟩:=h.ok I.hok;exact ⟨its,r,p.tup,z⟩
 ·refine ⟨its.toList,r,⟨o,I.kIn a o hk,hc,n,by simpa using hs⟩,?_⟩;have e:=r.length;simp only[zXD]at e;omega
theorem Inv.list_inj (I:Inv X zB σ H s) (h:SqL X.K H a xs) (h':SqL X.K H a ys):xs=ys:=by
 obtain ⟨its,r,⟨o,n,e,_,_,d⟩,_⟩:=I.list h;obtain ⟨its',r',⟨o',n',e',_,_,d'⟩,_⟩:=I.list h';rw[e]at e';cases e';rw[d]at d';injection d' with d1 _
 have:its=its':=by simpa using zYH Array.toList d1
 subst this;exact r.inj r'
theorem Inv.tuple_inj (I:Inv X zB σ H s) (h:SqT X.K H a xs) (h':SqT X.K H a ys):xs=ys:=by
 obtain ⟨its,r,⟨o,e,_,n,d⟩,_⟩:=I.tuple h;obtain ⟨its',r',⟨o',e',_,n',d'⟩,_⟩:=I.tuple h';rw[e]at e';cases e';rw[d]at d';injection d' with d1 _
 have:its=its':=by simpa using zYH Array.toList d1
 subst this;exact r.inj r'
end
abbrev Cx.wish (X:Cx) (E:Value->Shared->Prop):Cx:={ X with xe:=E }
abbrev Cx.nox (X:Cx):Cx:=X.wish fun _ _=>False
theorem Cx.Ok.wish {X:Cx} (ok:X.Ok) (E:Value->Shared->Prop):(X.wish E).Ok :=
 ⟨ok.mod,ok.kind,ok.glob,ok.blt,ok.above,ok.inj,ok.has,ok.cab,ok.hd,ok.frames,ok.stk,ok.exf,ok.bs,ok.bsz,ok.noex,ok.exfs,ok.funs,ok.frf⟩
theorem Cx.Ok.unwish {X:Cx} {E:Value->Shared->Prop} (ok:(X.wish E).Ok):X.Ok :=
 ⟨ok.mod,ok.kind,ok.glob,ok.blt,ok.above,ok.inj,ok.has,ok.cab,ok.hd,ok.frames,ok.stk,ok.exf,ok.bs,ok.bsz,ok.noex,ok.exfs,ok.funs,ok.frf⟩
section
variable {X:Cx} {zB:List (Addr × Obj)} {σ:St} {H:Hp} {s:Shared} {E:Value->Shared->Prop}
theorem Inv.wish (I:Inv X zB σ H s) (E:Value->Shared->Prop):Inv (X.wish E) zB σ H s:=⟨I.ok.wish E,I.os,I.bare,I.base,I.loc,I.cell,I.free,I.freeC,I.pin,I.hok,I.len⟩
theorem Inv.unwish (I:Inv (X.wish E) zB σ H s):Inv X zB σ H s:=⟨I.ok.unwish,I.os,I.bare,I.base,I.loc,I.cell,I.free,I.freeC,I.pin,I.hok,I.len⟩
theorem SP.unwish {D:Ends} {f:Flow} {s':Shared} (h:SP (X.wish E) zB D f s'):SP X zB D f s':=by
 cases f with
 |next=>obtain ⟨σ',H',I,q⟩:=h;exact ⟨σ',H',I.unwish,q⟩
 |brk=>obtain ⟨σ',H',I,q⟩:=h;exact ⟨σ',H',I.unwish,q⟩
 |cont=>obtain ⟨σ',H',I,q⟩:=h;exact ⟨σ',H',I.unwish,q⟩
 |ret u=>obtain ⟨v,σ',H',I,r,q⟩:=h;exact ⟨v,σ',H',I.unwish,r,q⟩
theorem PSs.nox {st:List Stmt} {t:TS} (h:PSs X.nox st t):PSs X st t:=fun zB s σ H D I hw=>
 zW0 (h zB s σ H D (I.wish _) hw) (fun _ _ q=>q.unwish) fun _ _ z=>False.elim z
end
section
variable {X:Cx} {st:Stmt} {rest:List Stmt} {t u:TS} {e:Expr} {te:TE} {pos:Pos}
def zVR:TS:=fun D σ H=>D.nx σ H
def zV1 (t u:TS):TS:=fun D σ H=>t { D with nx:=u D } σ H
theorem zRT:PSs X [] zVR:=fun _ _ σ H _ I h=>wpAny_execs_nil ⟨σ,H,I,h⟩
theorem zPH (h1:PS X st t) (h2:PSs X rest u):PSs X (st::rest) (zV1 t u):=by
 intro zB s σ H D I h;refine wpAny_execs_cons (thn (h1 zB s σ H { D with nx:=u D } I h) fun f s1 q=>?_);cases f with
 |next=>
  obtain ⟨σ',H',I',q⟩:=q;exact h2 zB s1 σ' H' D I' q
 |ret v=>exact q
 |brk=>exact q
 |cont=>exact q
theorem zSI (h1:PS X st t):PSs X [st] t:=by
 intro zB s σ H D I h;refine wpAny_execs_cons (thn (h1 zB s σ H D I h) fun f s1 q=>?_);cases f with
 |next=>exact wpAny_execs_nil q
 |ret v=>exact q
 |brk=>exact q
 |cont=>exact q
theorem Inv.quiet {zB:List (Addr × Obj)} {σ:St} {H:Hp} {s:Shared} (I:Inv X zB σ H s):interactive X.env=false:=by simp[interactive,I.ok.kind]
def zU9 (te:TE):TS:=fun D σ H=>te σ H fun _ H1=>D.nx σ H1
theorem zSO (he:PE X e te) (hs:swapsWith e none pos.line X.env=pure false:=by rfl):PS X (.Expr e pos) (zU9 te):=by
 intro zB s σ H D I h;exact wpAny_Expr_any (thn (he zB s σ H _ I h) fun v s1 ⟨x,H1,I1,r1,q1⟩=>⟨σ,H1,I1,q1⟩) I.quiet hs
def zV0 (te:TE):TS:=fun D σ H=>te σ H D.rt
theorem zTf (he:PE X e te):PS X (.Return (some e) pos) (zV0 te):=by
 intro zB s σ H D I h;exact wpAny_Return_some (thn (he zB s σ H _ I h) fun v s1 ⟨x,H1,I1,r1,q1⟩=>⟨x,σ,H1,I1,r1,q1⟩)
def zV9 (c:TT) (t u:TS):TS:=fun D σ H=>c σ H fun b H1=>if b=true then t D σ H1 else u D σ H1
theorem zVZ {c:Expr} {a b:List Stmt} {tc:TT} (hc:PT X c tc) (ha:PSs X a t) (hb:PSs X b u):PS X (.If c a b pos) (zV9 tc t u):=by
 intro zB s σ H D I h;refine wpAny_If (thn (hc zB s σ H _ I h) fun d s1 ⟨H1,I1,q1⟩=>?_);cases d with
 |true=>exact ha zB s1 σ H1 D I1 q1
 |false=>exact hb zB s1 σ H1 D I1 q1
end
abbrev TG:=V->St->Hp->(St->Hp->Prop)->Prop
abbrev TGs:=List V->St->Hp->(St->Hp->Prop)->Prop
def PG (X:Cx) (target:Expr) (t:TG):Prop :=
 ∀ (zB:List (Addr × Obj)) (s:Shared) (σ:St) (H:Hp) (v:V) (u:Value) (Q:St->Hp->Prop),Inv X zB σ H s->zp v u->t v σ H Q ->
  wpAny (model X.prog X.w) X.A (assign target X.env u) (fun _ s'=>∃ σ' H',Inv X zB σ' H' s'/\Q σ' H') X.xe s
def PGs (X:Cx) (ts:List Expr) (t:TGs):Prop :=
 ∀ (zB:List (Addr × Obj)) (s:Shared) (σ:St) (H:Hp) (vs:List V) (us:List Value) (Q:St->Hp->Prop),Inv X zB σ H s->ze vs us->t vs σ H Q ->
  wpAny (model X.prog X.w) X.A (assignInOrder ((assignEach ts X.env).map (·.2)) us) (fun _ s'=>∃ σ' H',Inv X zB σ' H' s'/\Q σ' H') X.xe s
abbrev zTu:=V->V->V->Hp->(Hp->Prop)->Prop
def zVd (X:Cx) (t:zTu):Prop :=
 ∀ (zB:List (Addr × Obj)) (s:Shared) (σ:St) (H:Hp) (o i v:V) (ov iv u:Value) (Q:Hp->Prop),Inv X zB σ H s->zp o ov->zp i iv->zp v u->t o i v H Q ->
  wpAny (model X.prog X.w) X.A (setItem ov iv u) (fun _ s'=>∃ H',Inv X zB σ H' s'/\Q H') X.xe s
section
variable {X:Cx} {pos:Pos}
def zDi (i:Nat):TG:=fun v σ H Q=>Q (σ.set i (some v)) H
theorem zJu {i:Nat} {x:Str} (hN:X.N.Nodup) (hi:X.N[i]?=some x) (hx:Loc X.env.scope x) (hf:X.fn x=true\/X.env.scope.names.lookup x=some .local:=by first|exact .inl rfl|exact .inr rfl|assumption):PG X (.Name x pos) (zDi i):=by
 intro zB s σ H v u Q I r h;exact wpAny_assign_Name (zKw I hN hi hx r (fun s' I'=>⟨_,H,I',h⟩) hf)
def zVL:TGs:=fun vs σ H Q=>vs=[]/\Q σ H
def zPB (t:TG) (u:TGs):TGs:=fun vs σ H Q=>∃ v r,vs=v::r/\t v σ H fun σ' H'=>u r σ' H' Q
theorem zNX:PGs X [] zVL:=by
 intro zB s σ H vs us Q I r h;obtain ⟨e,h⟩:=h;subst e;cases r;exact assignInOrder_nil ⟨σ,H,I,h⟩
theorem zGq {e:Expr} {es:List Expr} {t:TG} {u:TGs} (h1:PG X e t) (h2:PGs X es u)
  (hs:(assignEach (e::es) X.env).map (·.2)=assign e X.env::(assignEach es X.env).map (·.2):=by rfl):PGs X (e::es) (zPB t u):=by
 intro zB s σ H vs us Q I r h;obtain ⟨v,vr,e1,h⟩:=h;subst e1;cases r with
 |cons r rr=>
  rw[hs];refine assignInOrder_cons (thn (h1 zB s σ H _ _ _ I r h) fun _ s1 ⟨σ1,H1,I1,q1⟩=>?_);exact h2 zB s1 σ1 H1 _ _ Q I1 rr q1
def zUj (K:PySem.W.Frag) (n:Nat) (t:TGs):TG:=fun v σ H Q=>∃ a xs,v=.ref a/\SqT K H a xs/\xs.length=n/\t xs σ H Q
theorem zPT {es:List Expr} {k:Nat} {t:TGs} {n:Nat} (hc:X.calm=true) (h:PGs X es t)
  (hn:(assignEach es X.env).length=n:=by rfl) (hst:(assignEach es X.env).findIdx? (·.1)=none:=by rfl):PG X (.Tuple es k pos) (zUj X.K n t):=by
 intro zB s σ H v u Q I r hw;obtain ⟨a,xs,e1,hq,hl,hw⟩:=hw;subst e1;cases r;obtain ⟨its,rv,ht,hz⟩:=I.tuple hq;refine assign_Tuple_tuple (I.ok.hd hc) ht (by simp[hn,<-hl,rv.length]) hst fun h' hx=>?_;have I1:Inv X zB σ H { s with heap:=h' }:=I.kept (t':=s.toks) fun b o e=>hx b o (zWp (zWf e)) e;exact h zB _ σ H xs _ Q I1 (by simpa using rv) hw
def zWM (to ti:TE) (t:zTu):TG:=fun v σ H Q=>to σ H fun o H1=>ti σ H1 fun i H2=>t o i v H2 fun H3=>Q σ H3
theorem zS1 {o i:Expr} {to ti:TE} {t:zTu} (ho:PE X o to) (hi:PE X i ti) (hs:zVd X t)
  (ha:∀ v,assign (.Subscript o i pos) X.env v=(do
   let ov <- holding [v] (eval o X.env);let iv <- holding [v,ov] (eval i X.env);standAt pos;holding [v,ov,iv] (setItem ov iv v);release [v,ov,iv] []):=by intro _;rfl):PG X (.Subscript o i pos) (zWM to ti t):=by
 intro zB s σ H v u Q I r h;rw[ha];refine zWU (zXN (thn (ho zB s σ H _ I h) fun ov s1 ⟨x,H1,I1,r1,q1⟩=>?_));refine zWU (zXN (thn (hi zB s1 σ H1 _ I1 q1) fun iv s2 ⟨y,H2,I2,r2,q2⟩=>?_));refine zWU (zXS (zWU (zXN (thn (hs zB s2 σ H2 x y v ov iv u _ I2 r1 r2 r q2) fun _ s3 ⟨H3,I3,q3⟩=>?_))));exact wpAny_release ⟨σ,H3,I3,q3⟩
def zPy (te:TE) (g:TG):TS:=fun D σ H=>te σ H fun x H1=>g x σ H1 D.nx
theorem zPv {tg e:Expr} {te:TE} {g:TG} (he:PE X e te) (hg:PG X tg g) (hs:swapsWithSole [tg] e pos.line X.env=pure false:=by rfl) (hw:swappedStores [tg] e X.env=pure none:=by rfl)
  (h1:(assignEach [tg] X.env).map (·.2)=[assign tg X.env]:=by rfl):PS X (.Assign [tg] e pos) (zPy te g):=by
 intro zB s σ H D I h;refine wpAny_Assign_stores (thn (he zB s σ H _ I h) fun v s1 ⟨x,H1,I1,r1,q1⟩=>?_) hs hw;rw[h1];exact thn (hg zB s1 σ H1 x v _ I1 r1 q1) fun _ s2 q=>q
theorem zTp {i:Nat} {x:Str} {e:Expr} {te:TE} {pos':Pos} (hN:X.N.Nodup) (hi:X.N[i]?=some x) (hx:Loc X.env.scope x) (he:PE X e te) (hs:swapsWith e (some (.Name x pos')) pos.line X.env=pure false:=by rfl) (hf:X.fn x=true\/X.env.scope.names.lookup x=some .local:=by first|exact .inl rfl|exact .inr rfl|assumption) :
  PS X (.Assign [.Name x pos'] e pos) (zPy te (zDi i)):=by
 intro zB s σ H D I h;refine wpAny_Assign_Name (thn (he zB s σ H _ I h) fun v s1 ⟨y,H1,I1,r1,q1⟩=>?_) hs;exact zKw I1 hN hi hx r1 (fun s2 I2=>⟨_,H1,I2,q1⟩) hf
def zPF (c:TT) (tb:TS):TS:=fun D σ H=>∃ W:Nat->St->Hp->Prop,(∃ m,W m σ H) /\ ∀ m σ H,W m σ H ->
 c σ H fun b H1=>if b=true then ∃ N:St->Hp->Prop,(∀ σ' H',N σ' H' -> ∃ m',m'<m/\W m' σ' H')/\tb { D with nx:=N,ct:=N,bk:=D.nx } σ H1 else D.nx σ H1
theorem zQB {c:Expr} {body:List Stmt} {tc:TT} {tb:TS} (hp:PassesOwn (model X.prog X.w) X.A X.env X.xe) (hc:PT X c tc) (hb:PSs X body tb):PS X (.While c body [] pos) (zPF tc tb):=by
 intro zB s σ H D I h;obtain ⟨W,⟨m0,w0⟩,turn⟩:=h;refine wpAny_While (codeAny_whileLoop (fun n s'=>∃ σ' H',Inv X zB σ' H' s'/\W n σ' H') ?_ m0 ⟨σ,H,I,w0⟩);rintro n s1 ⟨σ1,H1,I1,w1⟩;refine wpAny_passesOwn hp (thn (hc zB s1 σ1 H1 _ I1 (turn n σ1 H1 w1)) fun b s2 ⟨H2,I2,q2⟩=>?_);cases b with
 |true=>
  obtain ⟨N,hN,q2⟩:=q2;rw[zWj rfl];refine wpAny_passesOwn hp (thn (hb zB s2 σ1 H2 _ I2 q2) fun f s3 q3=>?_);cases f with
  |next=>
   obtain ⟨σ3,H3,I3,n3⟩:=q3;obtain ⟨m',hm,w3⟩:=hN σ3 H3 n3;exact ⟨m',hm,σ3,H3,I3,w3⟩
  |cont=>
   obtain ⟨σ3,H3,I3,n3⟩:=q3;obtain ⟨m',hm,w3⟩:=hN σ3 H3 n3;exact ⟨m',hm,σ3,H3,I3,w3⟩
  |brk=>exact q3
  |ret v=>exact q3
 |false=>
  rw[zWm zWq];exact wpAny_execs_nil ⟨σ1,H2,I2,q2⟩
end
structure It where
 go:Nat->Hp->Prop
 yld:Nat->Hp->V->Hp->Prop
 stop:Nat->Hp->Prop
def zCE (X:Cx) (zB:List (Addr × Obj)) (H:Hp) (b:Addr):Prop :=
 H b=none/\b≠X.env.locals/\b∉X.fs/\(b∈X.ex\/X.s₀.heap.objs.size<=b)/\(∀ x c,X.env.cells.lookup x=some c->c≠b) /\ ∀ p∈X.pn++zB,p.1≠b
theorem Inv.fpOk {X:Cx} {zB:List (Addr × Obj)} {σ:St} {H H':Hp} {s:Shared} {b:Addr} (I:Inv X zB σ H s) (hb:s.heap.objs.size<=b) (hn:H' b=none):zCE X zB H' b:=by
 refine ⟨hn,zXz (zWt I.lt hb),I.nofs hb,.inr (zWv I.sz hb),fun x c e z=>?_,fun p hp z=>?_⟩
 ·obtain ⟨v,q⟩:=I.cell x c e;exact absurd (zWt q.lt (by rw[z];exact hb)) (zXC _)
 ·exact absurd (zWt (zWf (I.pin p hp).1) (by rw[z];exact hb)) (zXC _)
structure Turn (P:Program) (w:World) (K:PySem.W.Frag) (tg:Expr) (J:It) (fp:List Addr) (it:Addr) (tn:Nat->Heap->Prop):Prop where
 mem:it∈fp
 obj:∀ i h,tn i h -> ∀ b∈fp,∃ o,h.get? b=some o /\ ∀ v,o.data≠.cell v
 keep:∀ i h h',tn i h->(∀ b∈fp,∀ o,h.get? b=some o->h'.get? b=some o)->tn i h'
 item:∀ (X:Cx),X.prog=P->X.w=w->X.K=K->X.calm=true -> ∀ (i:Nat) (zB:List (Addr × Obj)) (s:Shared) (σ:St) (H:Hp) (E:Value->Shared->Prop),Inv X zB σ H s->(∀ b∈fp,zCE X zB H b)->tn i s.heap->J.go i H ->
  wpAny (model P w) X.A (pyNext (.ref it)) (fun r s1=>∃ u,r=some u /\
   wpAny (model P w) X.A (letOwnedTupleGo tg (.ref it) u) (fun _ s2=>∃ x H',Inv X zB σ H' s2/\zp x u/\J.yld i H x H'/\tn (i+1) s2.heap /\ ∀ b∈fp,H' b=none) E s1) E s
 done:∀ (X:Cx),X.prog=P->X.w=w->X.K=K->X.calm=true -> ∀ (i:Nat) (zB:List (Addr × Obj)) (s:Shared) (σ:St) (H:Hp) (E:Value->Shared->Prop),Inv X zB σ H s->(∀ b∈fp,zCE X zB H b)->tn i s.heap->J.stop i H ->
  wpAny (model P w) X.A (pyNext (.ref it)) (fun r s1=>r=none/\Inv X zB σ H s1) E s
 self:∀ (A:Around) (i:Nat) (s:Shared) (Q:Value->Shared->Prop) (E:Value->Shared->Prop),tn i s.heap->Q (.ref it) s->wpAny (model P w) A (pyIter (.ref it)) Q E s
abbrev TI:=St->Hp->(It->Hp->Prop)->Prop
def PIE (X:Cx) (zB:List (Addr × Obj)) (σ:St) (tg:Expr) (R:It->Hp->Prop) (itv:Value) (s2:Shared):Prop :=
 ∃ (it:Addr) (fp:List Addr) (tn:Nat->Heap->Prop) (J:It) (H':Hp),itv=.ref it/\Inv X zB σ H' s2/\Turn X.prog X.w X.K tg J fp it tn/\tn 0 s2.heap/\(∀ b∈fp,zCE X zB H' b)/\R J H'
def PI (X:Cx) (tg iter:Expr) (wi:TI):Prop :=
  ∀ (zB:List (Addr × Obj)) (s:Shared) (σ:St) (H:Hp) (R:It->Hp->Prop),Inv X zB σ H s->wi σ H R ->
    wpAny (model X.prog X.w) X.A (eval iter X.env) (fun v s1=>wpAny (model X.prog X.w) X.A (pyIter v) (PIE X zB σ tg R) X.xe s1) X.xe s
theorem zQU {M:Model} {A:Around} {E:Value->Shared->Prop} {s:Shared} {tg:Expr} {it:Addr} {u:Value} {o:Obj} {n:String} {vs:Array Value} {Q:Unit->Shared->Prop} (ho:s.heap.get? it=some o) (hc:o.cls=.type n) (hd:o.data=.fields vs)
    (hn:["enumerate", "zip", "dict_itemiterator", "dict_reverseitemiterator", "odict_iterator", "itertools.zip_longest", "itertools.pairwise"].contains n=false) (hQ:Q () s):wpAny M A (letOwnedTupleGo tg (.ref it) u) Q E s:=by
  unfold letOwnedTupleGo
  cases tg <;> first
    |exact zWW hQ
    | (cases u <;> first
        |exact zWW hQ
        | (refine zWU (wpAny_load ho ?_)
           rw[hc,hd];show wpAny M A (if (["enumerate", "zip", "dict_itemiterator", "dict_reverseitemiterator", "odict_iterator", "itertools.zip_longest", "itertools.pairwise"].contains n&&vs[0]?==some (rawInt _))=true then _ else _) Q E s;rw[zWm (by intro h;rw[hn,Bool.false_and]at h;cases h)];exact zWW hQ))
def Itl (K:PySem.W.Frag) (a:Addr):It :=
 ⟨fun i H=>∃ xs x,SqL K H a xs/\xs[i]?=some x,fun i H x H'=>H'=H /\ ∀ xs,SqL K H a xs->xs[i]?=some x,fun i H=>∃ xs,SqL K H a xs/\xs.length<=i⟩
def Itt (K:PySem.W.Frag) (a:Addr):It :=
 ⟨fun i H=>∃ xs x,SqT K H a xs/\xs[i]?=some x,fun i H x H'=>H'=H /\ ∀ xs,SqT K H a xs->xs[i]?=some x,fun i H=>∃ xs,SqT K H a xs/\xs.length<=i⟩
def Itr (lo:Int) (n:Nat):It:=⟨fun i _=>i<n,fun i H x H'=>H'=H/\x=.int (lo+i),fun i _=>n<=i⟩
theorem zNg {P:Program} {w:World} {K:PySem.W.Frag} {tg:Expr} (a it:Addr):Turn P w K tg (Itl K a) [it] it (fun i h=>h.IsListIter it a i) where
 mem:=by simp
 obj:=fun i h st b hb=>by
  have e:b=it:=by simpa using hb
  subst e;obtain ⟨o,e,c,d⟩:=st;exact ⟨o,e,fun v z=>by rw[d]at z;cases z⟩
 keep:=fun i h h' st k=>st.at fun o e=>k it (by simp) o e;item:=by
  intro X hP hw hK hc i zB s σ H E I hf st hg;subst hP hw hK;obtain ⟨xs,x,hq,hx⟩:=hg;obtain ⟨its,rv,p,hz⟩:=I.list hq;obtain ⟨u,hu,ru⟩:=rv.get hx;obtain ⟨f0,f1,f2,f3,f4,f5⟩:=hf it (by simp);refine wpAny_pyNext_list_item st p.isList (x:=u) (by simpa using hu) fun h' st' sb=>?_;have I1:Inv X zB σ H { s with heap:=h' }:=I.turned (t':=s.toks) (fun b o hb e=>(sb.2 b hb).trans e) f0 f1 f3 f4 f5;obtain ⟨o,e,c,d⟩:=id st';exact ⟨u,rfl,zQU (s:={ s with heap:=h' }) e c d (by decide) ⟨x,H,I1,ru,⟨rfl,fun ys hy=>by rw[I.list_inj hy hq];exact hx⟩,st',fun b hb=>(hf b hb).1⟩⟩
 done:=by
  intro X hP hw hK hc i zB s σ H E I hf st hg;subst hP hw hK;obtain ⟨xs,hq,hx⟩:=hg;obtain ⟨its,rv,p,hz⟩:=I.list hq;obtain ⟨f0,f1,f2,f3,f4,f5⟩:=hf it (by simp);have hl:=rv.length;exact wpAny_pyNext_list_end (I.ok.hd hc) st p.isList (by simp;omega) fun h' eb=>⟨rfl,I.turned (t':=s.toks) (fun b o hb e=>eb b o hb e) f0 f1 f3 f4 f5⟩
 self:=fun _ _ _ _ _ st h=>wpAny_pyIter_listiter st h
theorem zMH {P:Program} {w:World} {K:PySem.W.Frag} {tg:Expr} (a it:Addr):Turn P w K tg (Itt K a) [it] it (fun i h=>h.IsTupleIter it a i) where
 mem:=by simp
 obj:=fun i h st b hb=>by
  have e:b=it:=by simpa using hb
  subst e;obtain ⟨o,e,c,d⟩:=st;exact ⟨o,e,fun v z=>by rw[d]at z;cases z⟩
 keep:=fun i h h' st k=>st.at fun o e=>k it (by simp) o e;item:=by
  intro X hP hw hK hc i zB s σ H E I hf st hg;subst hP hw hK;obtain ⟨xs,x,hq,hx⟩:=hg;obtain ⟨its,rv,p,hz⟩:=I.tuple hq;obtain ⟨u,hu,ru⟩:=rv.get hx;obtain ⟨f0,f1,f2,f3,f4,f5⟩:=hf it (by simp);refine wpAny_pyNext_tuple_item st (show s.heap.IsTuple a its.toArray from p) (x:=u) (by simpa using hu) fun h' st' sb=>?_;have I1:Inv X zB σ H { s with heap:=h' }:=I.turned (t':=s.toks) (fun b o hb e=>(sb.2 b hb).trans e) f0 f1 f3 f4 f5;obtain ⟨o,e,c,d⟩:=id st';exact ⟨u,rfl,zQU (s:={ s with heap:=h' }) e c d (by decide) ⟨x,H,I1,ru,⟨rfl,fun ys hy=>by rw[I.tuple_inj hy hq];exact hx⟩,st',fun b hb=>(hf b hb).1⟩⟩
 done:=by
  intro X hP hw hK hc i zB s σ H E I hf st hg;subst hP hw hK;obtain ⟨xs,hq,hx⟩:=hg;obtain ⟨its,rv,p,hz⟩:=I.tuple hq;obtain ⟨f0,f1,f2,f3,f4,f5⟩:=hf it (by simp);have hl:=rv.length;exact wpAny_pyNext_tuple_end (I.ok.hd hc) st (show s.heap.IsTuple a its.toArray from p) (by simp;omega) fun h' eb=>⟨rfl,I.turned (t':=s.toks) (fun b o hb e=>eb b o hb e) f0 f1 f3 f4 f5⟩
 self:=fun _ _ _ _ _ st h=>wpAny_pyIter_tupleiter st h
theorem zMl {P:Program} {w:World} {K:PySem.W.Frag} {tg:Expr} (it:Addr) (lo:Int) (n:Nat):Turn P w K tg (Itr lo n) [it] it (fun i h=>IsRangeIter h it (lo+(i:Nat)*1) ((n:Int)-(i:Nat)) 1) where
 mem:=by simp
 obj:=fun i h st b hb=>by
  have e:b=it:=by simpa using hb
  subst e;exact ⟨_,st,fun v z=>by
   have z':Data.fields _=Data.cell v:=z;cases z'⟩
 keep:=fun i h h' st k=>k it (by simp) _ st;item:=by
  intro X hP hw hK hc i zB s σ H E I hf st hg;subst hP hw hK;obtain ⟨f0,f1,f2,f3,f4,f5⟩:=hf it (by simp);have W:=Walks.range (prog:=X.prog) (w:=X.w) (I.ok.hd hc) it lo 1 n;refine W.item i s _ _ hg st fun v h' tk hv st' kk=>?_;obtain ⟨t,rfl⟩:=hv;have I1:Inv X zB σ H { s with heap:=h',toks:=tk }:=I.turned (fun b o hb e=>kk b o (by simpa using hb) e) f0 f1 f3 f4 f5;refine ⟨_,rfl,zQU (s:={ s with heap:=h',toks:=tk }) (n := "range_iterator") st' rfl rfl (by decide) ⟨.int (lo+i),H,I1,⟨t,?_⟩,⟨rfl,rfl⟩,st',fun b hb=>(hf b hb).1⟩⟩;rw[Int.mul_one]
 done:=by
  intro X hP hw hK hc i zB s σ H E I hf st hg;subst hP hw hK;obtain ⟨f0,f1,f2,f3,f4,f5⟩:=hf it (by simp);exact wpAny_pyNext_range_end (I.ok.hd hc) st (by have:n<=i:=hg;omega) fun h' eb=>⟨rfl,I.turned (t':=s.toks) (fun b o hb e=>eb b o hb e) f0 f1 f3 f4 f5⟩
 self:=fun _ _ _ _ _ st h=>wpAny_pyIter_rangeiter st h
section
variable {X:Cx} {tg:Expr}
theorem zKW {zB:List (Addr × Obj)} {σ:St} {H:Hp} {s:Shared} {R:It->Hp->Prop} {E:Value->Shared->Prop} {lo hi:Int} {t u v:Tok} {tk:Nat} (I:Inv X zB σ H s) (h1 : -(2 ^ 62)<=lo) (h2:lo<2 ^ 62) (h3 : -(2 ^ 62)<=hi) (h4:hi<2 ^ 62)
  (q:R (Itr lo (hi-lo).toNat) H):wpAny (model X.prog X.w) X.A (pyIter (.ref s.heap.objs.size)) (PIE X zB σ tg R) E { s with heap:=s.heap.push { cls:=.type "range", data:=.fields #[.int lo t,.int hi u,.int 1 v] },toks:=tk }:=by
 refine wpAny_pyIter_range (IsRange.new ..) (small_one h1 h2 h3 h4) ?_;have I1:Inv X zB σ H { s with heap:=s.heap.push { cls:=.type "range", data:=.fields #[.int lo t,.int hi u,.int 1 v] },toks:=tk }:=I.kept fun b o e=>zWV _ e
 refine ⟨(s.heap.push { cls:=.type "range", data:=.fields #[.int lo t,.int hi u,.int 1 v] }).objs.size,[(s.heap.push { cls:=.type "range", data:=.fields #[.int lo t,.int hi u,.int 1 v] }).objs.size],_,_,H,rfl,
  I1.kept (t':=tk) fun b o e=>zWV _ e,zMl _ lo (hi-lo).toNat,?_,fun b hb=>?_,q⟩
 ·have e1:lo+((0:Nat):Int)*1=lo:=by simp
  have e2:(((hi-lo).toNat:Nat):Int)-((0:Nat):Int)=Builtin.Range.rangeSize lo hi 1:=by rw[rangeSize_one];split <;> omega
  show IsRangeIter _ _ (lo+((0:Nat):Int)*1) ((((hi-lo).toNat:Nat):Int)-((0:Nat):Int)) 1;rw[e1,e2];exact zWe _ rfl
 ·have e:b=(s.heap.push { cls:=.type "range", data:=.fields #[.int lo t,.int hi u,.int 1 v] }).objs.size:=by simpa using hb
  subst e;exact I1.fpOk (zWa _) (I1.hok.fresh (zWa _))
def zUh (ta:TA):TI:=fun σ H R=>ta σ H fun vs H1=>∃ j:Int,vs=[.int j] /\ -(2 ^ 62)<=j/\j<2 ^ 62/\R (Itr 0 j.toNat) H1
def zVO (ta:TA):TI:=fun σ H R=>ta σ H fun vs H1=>∃ i j:Int,vs=[.int i,.int j]/\(-(2 ^ 62)<=i/\i<2 ^ 62 /\ -(2 ^ 62)<=j/\j<2 ^ 62)/\R (Itr i (j-i).toNat) H1
theorem zOm {a:Expr} {ta:TA} {p pos:Pos} (hg:Gl X "range") (hm:X.mg "range" = none) (ha:PA X [a] ta) (hs:starEach [a] X.env=[(false,eval a X.env)]:=by rfl):PI X tg (.Call (.Name "range" p) [a] [] pos) (zUh ta):=by
 intro zB s σ H R I h;refine Call_ (zEH I hg hm boot_range (PyProof.Rows.callWith_type1 (thn (ha pos zB s σ H _ I h) fun us s1 ⟨vs,H1,I1,r1,q1⟩=>?_) hs rfl));obtain ⟨j,e,q1,q2,q⟩:=q1;subst e;cases r1 with
 |cons r rr=>
  cases rr;obtain ⟨t,rfl⟩:=r;exact call_range_1 (zKW I1 (by omega) (by omega) q1 q2 (by simpa using q))
theorem zOR {a b:Expr} {ta:TA} {p pos:Pos} (hg:Gl X "range") (hm:X.mg "range" = none) (ha:PA X [a,b] ta) (hs:starEach [a,b] X.env=[(false,eval a X.env),(false,eval b X.env)]:=by rfl) (hs2:starEach [b] X.env=[(false,eval b X.env)]:=by rfl) :
  PI X tg (.Call (.Name "range" p) [a,b] [] pos) (zVO ta):=by
 intro zB s σ H R I h;refine Call_ (zEH I hg hm boot_range (PyProof.Rows.callWith_type1 (thn (ha pos zB s σ H _ I h) fun us s1 ⟨vs,H1,I1,r1,q1⟩=>?_) (by rw[hs,hs2]) (by rw[hs2];rfl)));obtain ⟨i,j,e,⟨q1,q2,q3,q4⟩,q⟩:=q1;subst e;cases r1 with
 |cons r rr=>
  cases rr with
  |cons r' rr=>
   cases rr;obtain ⟨t,rfl⟩:=r;obtain ⟨t',rfl⟩:=r';exact call_range_2 (zKW I1 q1 q2 q3 q4 q)
def zVV (wi:TI) (g:TG) (tb:TS):TS:=fun D σ H=>wi σ H fun J H1=>∃ W:Nat->Nat->St->Hp->Prop,(∃ m,W 0 m σ H1) /\ ∀ i m σ H,W i m σ H ->
 (J.stop i H/\D.nx σ H)\/(J.go i H /\ ∃ N:St->Hp->Prop,(∀ σ' H',N σ' H' -> ∃ m',m'<m/\W (i+1) m' σ' H') /\ ∀ x H',J.yld i H x H'->g x σ H' fun σ2 H2=>tb { D with nx:=N,ct:=N,bk:=D.nx } σ2 H2)
def zC3 (fp:List Addr) (h:Heap):List (Addr × Obj):=fp.filterMap fun b=>(h.get? b).map fun o=>(b,o)
theorem zAQ {fp:List Addr} {h:Heap} {b:Addr} {o:Obj} (hb:b∈fp) (e:h.get? b=some o):(b,o)∈zC3 fp h:=List.mem_filterMap.mpr ⟨b,hb,by rw[e];rfl⟩
theorem zIm {fp:List Addr} {h:Heap} {p:Addr × Obj} (hp:p∈zC3 fp h):p.1∈fp/\h.get? p.1=some p.2:=by
 obtain ⟨b,hb,e⟩:=List.mem_filterMap.mp hp;cases q:h.get? b with
 |none=>rw[q]at e;cases e
 |some o=>
  rw[q]at e;have e':(b,o)=p:=zXU e;subst e';exact ⟨hb,q⟩
theorem Inv.pinned {zB:List (Addr × Obj)} {σ:St} {H:Hp} {s:Shared} {fp:List Addr} (I:Inv X zB σ H s) (hf:∀ b∈fp,zCE X zB H b) (ho:∀ b∈fp,∃ o,s.heap.get? b=some o /\ ∀ v,o.data≠.cell v):Inv X (zB++zC3 fp s.heap) σ H s :=
 I.pins_of fun p hp=>(zWu.mp hp).elim (fun z=>I.pin p (zWo _ z)) fun z=>by
  obtain ⟨hb,e⟩:=zIm z;obtain ⟨f0,f1,f2,_⟩:=hf p.1 hb;obtain ⟨o,e',d⟩:=ho p.1 hb;rw[e]at e';cases e';exact ⟨e,f0,f1,f2,d⟩
theorem Inv.unpinned {zB pl:List (Addr × Obj)} {σ:St} {H:Hp} {s:Shared} (I:Inv X (zB++pl) σ H s):Inv X zB σ H s:=I.pins_of fun p hp=>I.pin p (zWo _ (zXj _ hp))
theorem zTN {iter:Expr} {body:List Stmt} {wi:TI} {g:TG} {tb:TS} {pos:Pos} (hp:PassesOwn (model X.prog X.w) X.A X.env X.xe) (hc:X.calm=true) (hi:PI X tg iter wi) (hg:PG X tg g) (hb:PSs X body tb)
  (hs:∀ x,foldedSetIterable iter X.env x=pure x:=by intro _;rfl):PS X (.For tg iter body [] pos) (zVV wi g tb):=by
 intro zB s σ H D I h;refine wpAny_For (thn (hi zB s σ H _ I h) fun v s1 h1=>thn h1 fun itv s2 h2=>?_) hs;obtain ⟨it,fp,tn,J,H2,e,I2,T,st2,f2,W,⟨m0,w0⟩,turn⟩:=h2;subst e;have stat:∀ {H':Hp},(∀ b∈fp,H' b=none) -> ∀ b∈fp,zCE X zB H' b:=fun hn b hb=>⟨hn b hb,(f2 b hb).2⟩;refine codeAny_forLoop_any (fun n s'=>∃ i σ' H',Inv X zB σ' H' s'/\tn i s'.heap/\(∀ b∈fp,H' b=none)/\W i n σ' H') ?_ m0 ⟨0,σ,H2,I2,st2,fun b hb=>(f2 b hb).1,w0⟩;rintro n s3 ⟨i,σ3,H3,I3,st3,fr3,w3⟩;rcases turn i n σ3 H3 w3 with ⟨stop,qn⟩|⟨go,N,hN,step⟩
 ·refine wpAny_passesOwn hp (thn (T.done X rfl rfl rfl hc i zB s3 σ3 H3 X.xe I3 (stat fr3) st3 stop) fun r s4 ⟨hr,I4⟩=>?_);subst hr;exact wpAny_execs_nil ⟨σ3,H3,I4,qn⟩
 ·refine wpAny_passesOwn hp (thn (T.item X rfl rfl rfl hc i zB s3 σ3 H3 X.xe I3 (stat fr3) st3 go) fun r s4 ⟨u,hr,h4⟩=>?_);subst hr;refine wpAny_passesOwn hp (thn h4 fun _ s5 ⟨x,H5,I5,r5,y5,st5,fr5⟩=>?_);have I5':=I5.pinned (stat fr5) (T.obj _ _ st5);refine wpAny_passesOwn hp (thn (hg _ s5 σ3 H5 x u _ I5' r5 (step x H5 y5)) fun _ s6 ⟨σ6,H6,I6,q6⟩=>?_);refine wpAny_passesOwn hp (thn (hb _ s6 σ6 H6 _ I6 q6) fun f s7 q7=>?_);have again:∀ {σ7:St} {H7:Hp},Inv X (zB++zC3 fp s5.heap) σ7 H7 s7->N σ7 H7 -> ∃ m,m<n /\ ∃ i σ' H',Inv X zB σ' H' s7/\tn i s7.heap/\(∀ b∈fp,H' b=none)/\W i m σ' H':=fun {σ7 H7} I7 n7=>by
   obtain ⟨m',hm,w7⟩:=hN σ7 H7 n7;refine ⟨m',hm,i+1,σ7,H7,I7.unpinned,T.keep _ _ _ st5 fun b hb o e=>(I7.pin (b,o) (zWo _ (zWo _ (zAQ hb e)))).1,fun b hb=>?_,w7⟩;obtain ⟨o,e,d⟩:=T.obj _ _ st5 b hb;exact (I7.pin (b,o) (zWo _ (zWo _ (zAQ hb e)))).2.1
  cases f with
  |next=>obtain ⟨σ7,H7,I7,n7⟩:=q7;exact again I7 n7
  |cont=>obtain ⟨σ7,H7,I7,n7⟩:=q7;exact again I7 n7
  |brk=>obtain ⟨σ7,H7,I7,q7⟩:=q7;exact ⟨σ7,H7,I7.unpinned,q7⟩
  |ret v=>obtain ⟨x7,σ7,H7,I7,r7,q7⟩:=q7;exact ⟨x7,σ7,H7,I7.unpinned,r7,q7⟩
end
abbrev R2:=V->V->Hp->VK->Prop
def OpR (X:Cx) (f:Value->Value->Sem Value) (r:R2):Prop :=
 ∀ (zB:List (Addr × Obj)) (s:Shared) (σ:St) (H:Hp) (x y:V) (v u:Value) (Q:VK),Inv X zB σ H s->zp x v->zp y u->r x y H Q ->
  wpAny (model X.prog X.w) X.A (f v u) (EP X zB σ Q) X.xe s
def UnR (X:Cx) (f:Value->Sem Value) (r:V->Hp->VK->Prop):Prop :=
 ∀ (zB:List (Addr × Obj)) (s:Shared) (σ:St) (H:Hp) (x:V) (v:Value) (Q:VK),Inv X zB σ H s->zp x v->r x H Q ->
  wpAny (model X.prog X.w) X.A (f v) (EP X zB σ Q) X.xe s
def zB5 (X:Cx) (f:Value) (r:List V->Hp->VK->Prop):Prop :=
 ∀ (zB:List (Addr × Obj)) (s:Shared) (σ:St) (H:Hp) (xs:List V) (us:List Value) (Q:VK),Inv X zB σ H s->ze xs us->r xs H Q ->
  wpAny (model X.prog X.w) X.A (call f us) (EP X zB σ Q) X.xe s
def zWQ (X:Cx) (r:V->Hp->(Bool->Hp->Prop)->Prop):Prop :=
 ∀ (zB:List (Addr × Obj)) (s:Shared) (σ:St) (H:Hp) (x:V) (v:Value) (Q:Bool->Hp->Prop),Inv X zB σ H s->zp x v->r x H Q ->
  wpAny (model X.prog X.w) X.A (truthy v) (TP X zB σ Q) X.xe s
def tOp (r:R2) (ta tb:TE):TE:=fun σ H Q=>ta σ H fun x H1=>tb σ H1 fun y H2=>r x y H2 Q
def tUn (r:V->Hp->VK->Prop) (ta:TE):TE:=fun σ H Q=>ta σ H fun x H1=>r x H1 Q
def rI (C:Int->Int->Prop) (g:Int->Int->V):R2:=fun x y H Q=>∃ i j,x=.int i/\y=.int j/\C i j/\Q (g i j) H
def rI0 (g:Int->Int->V):R2:=fun x y H Q=>∃ i j,x=.int i/\y=.int j/\Q (g i j) H
def rU (g:Int->V):V->Hp->VK->Prop:=fun x H Q=>∃ i,x=.int i/\Q (g i) H
section
variable {X:Cx} {a b c:Expr} {ta tb tc:TE} {pos:Pos}
theorem zTs (ha:PE X a ta) (hb:PE X b tb) {zB:List (Addr × Obj)} {s:Shared} {σ:St} {H:Hp} {R:V->V->Hp->Prop} (I:Inv X zB σ H s)
  (h:ta σ H fun x H1=>tb σ H1 fun y H2=>R x y H2) {Q:Value->Shared->Prop} {f:Value->Value->Sem Value}
  (hf:∀ v u s2 x y H2,Inv X zB σ H2 s2->zp x v->zp y u->R x y H2->wpAny (model X.prog X.w) X.A (f v u) Q X.xe s2) :
  wpAny (model X.prog X.w) X.A (eval a X.env) (fun v s₁=>wpAny (model X.prog X.w) X.A (eval b X.env) (fun u s₂=>wpAny (model X.prog X.w) X.A (f v u) Q X.xe s₂) X.xe s₁) X.xe s:=by
 refine thn (ha zB s σ H _ I h) fun v s1 ⟨x,H1,I1,r1,q1⟩=>?_;refine thn (hb zB s1 σ H1 _ I1 q1) fun u s2 ⟨y,H2,I2,r2,q2⟩=>?_;exact hf v u s2 x y H2 I2 r1 r2 q2
theorem zUe {op:Operator} {r:R2} (ho:OpR X (binaryOp op) r) (ha:PE X a ta) (hb:PE X b tb):PE X (.BinOp a op b pos) (tOp r ta tb):=by
 intro zB s σ H Q I h;exact wpAny_BinOp (zTs ha hb I h fun v u s2 x y H2 I2 rx ry q=>ho zB s2 σ H2 x y v u Q I2 rx ry q)
theorem zVi {op:UnaryOp} {r:V->Hp->VK->Prop} (ho:UnR X (unaryOp op) r) (ha:PE X a ta):PE X (.UnaryOp op a pos) (tUn r ta):=by
 intro zB s σ H Q I h;exact UnaryOp_ (thn (ha zB s σ H _ I h) fun v s1 ⟨x,H1,I1,r1,q1⟩=>ho zB s1 σ H1 x v Q I1 r1 q1)
theorem opI {f:Value->Value->Sem Value} {C:Int->Int->Prop} {g:Int->Int->Int}
  (rule:∀ (i j:Int) (t u:Tok) (s:Shared) (Q:Value->Shared->Prop) (E:Value->Shared->Prop),C i j->Q (.int (g i j) s.toks) { s with toks:=s.toks+1 }->wpAny (model X.prog X.w) X.A (f (.int i t) (.int j u)) Q E s) :
  OpR X f (rI C fun i j=> .int (g i j)):=by
 intro zB s σ H x y v u Q I rx ry h;obtain ⟨i,j,rfl,rfl,hc,q⟩:=h;obtain ⟨t,rfl⟩:=rx;obtain ⟨t',rfl⟩:=ry;exact rule i j t t' s _ _ hc ⟨.int (g i j),H,I.tok _,⟨_,rfl⟩,q⟩
theorem zVx {f:Value->Value->Sem Value} {g:Int->Int->Int}
  (rule:∀ (i j:Int) (t u:Tok) (s:Shared) (Q:Value->Shared->Prop) (E:Value->Shared->Prop),Q (.int (g i j) s.toks) { s with toks:=s.toks+1 }->wpAny (model X.prog X.w) X.A (f (.int i t) (.int j u)) Q E s) :
  OpR X f (rI0 fun i j=> .int (g i j)):=by
 intro zB s σ H x y v u Q I rx ry h;obtain ⟨i,j,rfl,rfl,q⟩:=h;obtain ⟨t,rfl⟩:=rx;obtain ⟨t',rfl⟩:=ry;exact rule i j t t' s _ _ ⟨.int (g i j),H,I.tok _,⟨_,rfl⟩,q⟩
theorem zRt {f:Value->Value->Sem Value} {g:Int->Int->Bool}
  (rule:∀ (i j:Int) (t u:Tok) (s:Shared) (Q:Value->Shared->Prop) (E:Value->Shared->Prop),Q (.bool (g i j)) s->wpAny (model X.prog X.w) X.A (f (.int i t) (.int j u)) Q E s) :
  OpR X f (rI0 fun i j=> .bl (g i j)):=by
 intro zB s σ H x y v u Q I rx ry h;obtain ⟨i,j,rfl,rfl,q⟩:=h;obtain ⟨t,rfl⟩:=rx;obtain ⟨t',rfl⟩:=ry;exact rule i j t t' s _ _ ⟨.bl (g i j),H,I,rfl,q⟩
def zV4 (i j:Int):Prop:=0<j/\j<1073741824
def zWS (i j:Int):Prop:=0<=j/\j<=1000000/\i.natAbs<2 ^ 64
def zUS (i j:Int):Prop:=(-(2 ^ 64)<i/\i<2 ^ 64)\/(-(2 ^ 64)<j/\j<2 ^ 64)
theorem zUS.ok {i j:Int} (h:zUS i j):IntMulOk i j:=by
 rcases h with ⟨h1,h2⟩|⟨h1,h2⟩
 ·exact .of_left (intBits_le_64 h1 h2)
 ·exact .of_right (intBits_le_64 h1 h2)
theorem zUQ:OpR X (binaryOp .Add) (rI0 fun i j=> .int (i+j)):=zVx fun _ _ _ _ _ _ _ q=>add_int q
theorem zTb:OpR X (binaryOp .Sub) (rI0 fun i j=> .int (i-j)):=zVx fun _ _ _ _ _ _ _ q=>sub_int q
theorem zUD:OpR X (binaryOp .Mult) (rI zUS fun i j=> .int (i*j)):=opI fun _ _ _ _ _ _ _ hc q=>mul_int q hc.ok
theorem zSh:OpR X (binaryOp .FloorDiv) (rI zV4 fun i j=> .int (i / j)):=opI fun i j _ _ _ _ _ hc q=>by
 have h1:(0:Int)<j:=hc.1;have h2:j<1073741824:=hc.2;exact floordiv_int (by omega) (by rw[Int.fdiv_eq_ediv_of_nonneg i (by omega)];exact q) (.inl (PyProof.noPylong_small (by omega)))
theorem zS8:OpR X (binaryOp .Mod) (rI (fun _ j=>0<j) fun i j=> .int (i % j)):=opI fun i j _ _ _ _ _ hc q=>by
 have h1:(0:Int)<j:=hc;exact mod_int' (by omega) (by rw[Int.fmod_eq_emod_of_nonneg i (by omega)];exact q)
theorem zTd:OpR X (binaryOp .Pow) (rI zWS fun i j=> .int (i ^ j.toNat)):=opI fun _ _ _ _ _ _ _ hc q=>pow_int_small hc.1 hc.2.1 hc.2.2 q
theorem unI {f:Value->Sem Value} {g:Int->Int}
  (rule:∀ (i:Int) (t:Tok) (s:Shared) (Q:Value->Shared->Prop) (E:Value->Shared->Prop),Q (.int (g i) s.toks) { s with toks:=s.toks+1 }->wpAny (model X.prog X.w) X.A (f (.int i t)) Q E s) :
  UnR X f (rU fun i=> .int (g i)):=by
 intro zB s σ H x v Q I rx h;obtain ⟨i,rfl,q⟩:=h;obtain ⟨t,rfl⟩:=rx;exact rule i t s _ _ ⟨.int (g i),H,I.tok _,⟨_,rfl⟩,q⟩
theorem zSz:UnR X (unaryOp .USub) (rU fun i=> .int (-i)):=unI fun _ _ _ _ _ q=>neg_int q
end
def zRM:V->V->Bool
 |.non,.non=>true|.non,.int _=>true|.int _,.non=>true|.non,.bl _=>true|.bl _,.non=>true|.non,.str _=>true|.str _,.non=>true
 |.int _,.int _=>true|.bl _,.bl _=>true|.str _,.str _=>true|.byt _,.byt _=>true
 |.int _,.str _=>true|.str _,.int _=>true|.bl _,.str _=>true|.str _,.bl _=>true
 |_,_=>false
def rEq:R2:=fun x y H Q=>zRM x y=true/\Q (.bl (decide (x=y))) H
def rNe:R2:=fun x y H Q=>zRM x y=true/\Q (.bl (!decide (x=y))) H
theorem zM8 {i j:Int}:decide (V.int i=V.int j)=(i==j):=by
 rw[Bool.eq_iff_iff];simp
theorem zPk {i j:Bool}:decide (V.bl i=V.bl j)=(i==j):=by
 rw[Bool.eq_iff_iff];simp
theorem zNO {i j:Str}:decide (V.str i=V.str j)=(i==j):=by
 rw[Bool.eq_iff_iff];simp
theorem zMw {i j:Array UInt8}:decide (V.byt i=V.byt j)=(i.toList==j.toList):=by
 rw[Bool.eq_iff_iff];cases i;cases j;simp
section
variable {X:Cx} {a b c:Expr} {ta tb tc:TE} {pos:Pos}
theorem zAB {zB:List (Addr × Obj)} {σ:St} {H:Hp} {s:Shared} {Q:VK} {k k':Bool} (I:Inv X zB σ H s) (q:Q (.bl k) H) (e:k=k'):EP X zB σ Q (.bool k') s:=by
 subst e;exact ⟨.bl k,H,I,rfl,q⟩
theorem zSm:OpR X (compareOp .Eq) rEq:=by
 intro zB s σ H x y v u Q I rx ry h;obtain ⟨hs,q⟩:=h;cases x with
 |non=>
  cases rx;cases y with
  |non=>cases ry;exact PySem.EqNone.eq_none_none (zAB I q (by simp))
  |bl j=>cases ry;exact PySem.EqNone.eq_none_bool (zAB I q (by simp))
  |int j=>obtain ⟨t',rfl⟩:=ry;exact PySem.EqNone.eq_none_int (zAB I q (by simp))
  |str j=>obtain ⟨t',rfl⟩:=ry;exact PySem.EqNone.eq_none_str (zAB I q (by simp))
  |_=>exact absurd (show false=true from hs) zWq
 |bl i=>
  cases rx;cases y with
  |non=>cases ry;exact PySem.EqNone.eq_bool_none (zAB I q (by simp))
  |bl j=>cases ry;exact eq_bool (zAB I q zPk)
  |str j=>obtain ⟨t',rfl⟩:=ry;exact PySem.EqMixed.eq_bool_str (zAB I q (by simp))
  |_=>exact absurd (show false=true from hs) zWq
 |int i=>
  obtain ⟨t,rfl⟩:=rx;cases y with
  |non=>cases ry;exact PySem.EqNone.eq_int_none (zAB I q (by simp))
  |int j=>obtain ⟨t',rfl⟩:=ry;exact eq_int (zAB I q zM8)
  |str j=>obtain ⟨t',rfl⟩:=ry;exact PySem.EqMixed.eq_int_str (zAB I q (by simp))
  |_=>exact absurd (show false=true from hs) zWq
 |str i=>
  obtain ⟨t,rfl⟩:=rx;cases y with
  |non=>cases ry;exact PySem.EqNone.eq_str_none (zAB I q (by simp))
  |bl j=>cases ry;exact PySem.EqMixed.eq_str_bool (zAB I q (by simp))
  |int j=>obtain ⟨t',rfl⟩:=ry;exact PySem.EqMixed.eq_str_int (zAB I q (by simp))
  |str j=>obtain ⟨t',rfl⟩:=ry;exact eq_str (zAB I q zNO)
  |_=>exact absurd (show false=true from hs) zWq
 |byt i=>
  obtain ⟨t,rfl⟩:=rx;cases y with
  |byt j=>obtain ⟨t',rfl⟩:=ry;exact PySem.W.eq_bytes (zAB I q zMw)
  |_=>exact absurd (show false=true from hs) zWq
 |_=>cases y <;> exact absurd (show false=true from hs) zWq
theorem zVh:OpR X (compareOp .NotEq) rNe:=by
 intro zB s σ H x y v u Q I rx ry h;obtain ⟨hs,q⟩:=h;cases x with
 |non=>
  cases rx;cases y with
  |non=>cases ry;exact PySem.EqNone.ne_none_none (zAB I q (by simp))
  |bl j=>cases ry;exact PySem.EqNone.ne_none_bool (zAB I q (by simp))
  |int j=>obtain ⟨t',rfl⟩:=ry;exact PySem.EqNone.ne_none_int (zAB I q (by simp))
  |str j=>obtain ⟨t',rfl⟩:=ry;exact PySem.EqNone.ne_none_str (zAB I q (by simp))
  |_=>exact absurd (show false=true from hs) zWq
 |bl i=>
  cases rx;cases y with
  |non=>cases ry;exact PySem.EqNone.ne_bool_none (zAB I q (by simp))
  |bl j=>cases ry;exact ne_bool (zAB I q (zYH not zPk))
  |str j=>obtain ⟨t',rfl⟩:=ry;exact PySem.EqMixed.ne_bool_str (zAB I q (by simp))
  |_=>exact absurd (show false=true from hs) zWq
 |int i=>
  obtain ⟨t,rfl⟩:=rx;cases y with
  |non=>cases ry;exact PySem.EqNone.ne_int_none (zAB I q (by simp))
  |int j=>obtain ⟨t',rfl⟩:=ry;exact ne_int (zAB I q (zYH not zM8))
  |str j=>obtain ⟨t',rfl⟩:=ry;exact PySem.EqMixed.ne_int_str (zAB I q (by simp))
  |_=>exact absurd (show false=true from hs) zWq
 |str i=>
  obtain ⟨t,rfl⟩:=rx;cases y with
  |non=>cases ry;exact PySem.EqNone.ne_str_none (zAB I q (by simp))
  |bl j=>cases ry;exact PySem.EqMixed.ne_str_bool (zAB I q (by simp))
  |int j=>obtain ⟨t',rfl⟩:=ry;exact PySem.EqMixed.ne_str_int (zAB I q (by simp))
  |str j=>obtain ⟨t',rfl⟩:=ry;exact ne_str (zAB I q (zYH not zNO))
  |_=>exact absurd (show false=true from hs) zWq
 |byt i=>
  obtain ⟨t,rfl⟩:=rx;cases y with
  |byt j=>obtain ⟨t',rfl⟩:=ry;exact PySem.W.ne_bytes (zAB I q (zYH not zMw))
  |_=>exact absurd (show false=true from hs) zWq
 |_=>cases y <;> exact absurd (show false=true from hs) zWq
theorem zVH:OpR X (compareOp .Lt) (rI0 fun i j=> .bl (decide (i<j))):=zRt fun _ _ _ _ _ _ _ q=>lt_int q
theorem zUk:OpR X (compareOp .LtE) (rI0 fun i j=> .bl (decide (i<=j))):=zRt fun _ _ _ _ _ _ _ q=>le_int q
theorem zVE:OpR X (compareOp .Gt) (rI0 fun i j=> .bl (decide (j<i))):=zRt fun _ _ _ _ _ _ _ q=>gt_int q
theorem zVk:OpR X (compareOp .GtE) (rI0 fun i j=> .bl (decide (j<=i))):=zRt fun _ _ _ _ _ _ _ q=>ge_int q
theorem OpR.or {f:Value->Value->Sem Value} {r r':R2} (h:OpR X f r) (h':OpR X f r'):OpR X f (fun x y H Q=>r x y H Q\/r' x y H Q):=by
 intro zB s σ H x y v u Q I rx ry q;rcases q with q|q
 ·exact h zB s σ H x y v u Q I rx ry q
 ·exact h' zB s σ H x y v u Q I rx ry q
theorem zEr (b:Expr) {op:CmpOp} (h:op≠.In:=by decide) (h2:op≠.NotIn:=by decide):behindInMarks op b=false:=by
 have e1:(op==CmpOp.In)=false:=by cases op <;> first|rfl|exact absurd rfl h
 have e2:(op==CmpOp.NotIn)=false:=by cases op <;> first|rfl|exact absurd rfl h2
 cases b <;> simp[behindInMarks,e1,e2]
theorem zRH {op:CmpOp} {r:R2} (ho:OpR X (compareOp op) r) (ha:PE X a ta) (hb:PE X b tb) (hm:behindInMarks op b=false):PE X (.Compare a [op] [b] pos) (tOp r ta tb):=by
 intro zB s σ H Q I h;exact wpAny_Compare1 (zTs ha hb I h fun v u s2 x y H2 I2 rx ry q=>ho zB s2 σ H2 x y v u Q I2 rx ry q) hm
def zNW (t:TE):TT:=fun σ H Q=>t σ H fun x H'=>∃ k,x=.bl k/\Q k H'
theorem zRu {op:CmpOp} {r:R2} (ho:OpR X (compareOp op) r) (ha:PE X a ta) (hb:PE X b tb) (hm:behindInMarks op b=false):PT X (.Compare a [op] [b] pos) (zNW (tOp r ta tb)):=by
 intro zB s σ H Q I h;refine wpAny_isTrue_Compare1 (thn (ha zB s σ H _ I h) fun v s1 ⟨x,H1,I1,r1,q1⟩=>thn (hb zB s1 σ H1 _ I1 q1) fun u s2 ⟨y,H2,I2,r2,q2⟩=>
  thn (ho zB s2 σ H2 x y v u _ I2 r1 r2 q2) fun c s3 ⟨z,H3,I3,r3,k,e,q3⟩=>?_) hm
 subst e;cases r3;exact wpAny_truthy_bool ⟨H3,I3,q3⟩
def zVM (K:PySem.W.Frag) (x:V) (H:Hp) (k:Bool):Prop :=
 match x with
 |.non=>k=false
 |.bl b=>k=b
 |.int i=>k=(i != 0)
 |.str y=>y.length<=sizeLine/\k=((y.length:Int) != 0)
 |.byt y=>y.size<=sizeLine/\k=((y.size:Int) != 0)
 |.ref p=>(∃ xs,SqL K H p xs/\k = !xs.isEmpty)\/(∃ xs,SqT K H p xs/\k = !xs.isEmpty) \/ ∃ kvs,H p=some (.dK kvs)/\k = !kvs.isEmpty
 |_=>False
theorem zL5 {κ:Type} {kvs:List (κ × V)} {vs:List (κ × Value)} (r:KV kvs vs):(!vs.isEmpty) = !kvs.isEmpty:=by
 cases r <;> rfl
theorem zGs {xs:List V} {its:List Value} (r:ze xs its):(!its.toArray.isEmpty) = !xs.isEmpty:=by
 cases r <;> simp
theorem zEk:(sizeLine:Nat)<2 ^ 63:=by rw[sizeLine_eq];decide
theorem zTW:zWQ X (fun x H Q=>∃ k,zVM X.K x H k/\Q k H):=by
 intro zB s σ H x v Q I rx h;obtain ⟨k,e,q⟩:=h;have hl:=zEk;have hs:sizeLine=16777216:=sizeLine_eq;cases x with
 |non=>
  cases rx;have e':k=false:=e;subst e';exact truthy_none ⟨H,I,q⟩
 |bl b=>
  cases rx;have e':k=b:=e;subst e';exact wpAny_truthy_bool ⟨H,I,q⟩
 |int i=>
  obtain ⟨t,rfl⟩:=rx;have e':k=(i != 0):=e;subst e';exact PySem.P.truthy_int ⟨H,I,q⟩
 |str y=>
  obtain ⟨t,rfl⟩:=rx;obtain ⟨hy,e'⟩:y.length<=sizeLine/\k=((y.length:Int) != 0):=e;subst e';exact PySem.P.truthy_str (by omega) ⟨H,I.tok _,q⟩
 |byt y=>
  obtain ⟨t,rfl⟩:=rx;obtain ⟨hy,e'⟩:y.size<=sizeLine/\k=((y.size:Int) != 0):=e;subst e';exact PySem.W.truthy_bytes (by omega) ⟨H,I.tok _,q⟩
 |ref p=>
  cases rx;have e':(∃ xs,SqL X.K H p xs/\k = !xs.isEmpty)\/(∃ xs,SqT X.K H p xs/\k = !xs.isEmpty) \/ ∃ kvs,H p=some (.dK kvs)/\k = !kvs.isEmpty:=e;rcases e' with ⟨xs,hx,e'⟩|⟨xs,hx,e'⟩|⟨kvs,hx,e'⟩
  ·subst e';obtain ⟨its,r,pl,hz⟩:=I.list hx;have hlen:=r.length;exact wpAny_truthy_list pl.isList (by simp only[zWc];omega) ⟨H,I.tok _,by rw[zGs r];exact q⟩
  ·subst e';obtain ⟨its,r,pl,hz⟩:=I.tuple hx;have hlen:=r.length;exact truthy_tuple pl (by simp only[zWc];omega) ⟨H,I.tok _,by rw[zGs r];exact q⟩
  ·subst e';obtain ⟨hz,hS,vs,r,m⟩:kvs.length<=sizeLine/\(p==sysModules)=false /\ ∃ vs,KV kvs vs/\s.heap.DictOf (zAK X.prog X.w) p vs:=I.hok p _ hx;have hlen:kvs.length=vs.length:=Paired.length r;exact wpAny_truthy_dict hS m (by omega) ⟨H,I.tok _,by rw[zL5 r];exact q⟩
 |_=>exact (show False from e).elim
theorem zPe (ha:PE X a ta) (he:∀ whole,isTrue a X.env whole=(do let v <- whole;standAt a.pos;holding [v] (truthy v))) :
  PT X a (fun σ H Q=>ta σ H fun x H'=>∃ k,zVM X.K x H' k/\Q k H'):=by
 intro zB s σ H Q I h;exact isTrue_plain (thn (ha zB s σ H _ I h) fun v s1 ⟨x,H1,I1,r1,q1⟩=>zTW zB s1 σ H1 x v Q I1 r1 q1) (he _)
theorem zEc {x:V} {us:List Value} (r:ze [x] us):∃ u,us=[u]/\zp x u:=by
 cases r with
 |cons r1 r2=>cases r2;exact ⟨_,rfl,r1⟩
theorem zPQ {x y:V} {us:List Value} (r:ze [x,y] us):∃ u w',us=[u,w']/\zp x u/\zp y w':=by
 cases r with
 |cons r1 r2=>
  cases r2 with
  |cons r3 r4=>cases r4;exact ⟨_,_,rfl,r1,r3⟩
theorem zOL (hc:X.calm=true):zB5 X (.builtin "max") (fun xs H Q=>∃ i j,xs=[.int i,.int j]/\Q (.int (if j>i then j else i)) H):=by
 intro zB s σ H xs us Q I r h;obtain ⟨i,j,rfl,q⟩:=h;obtain ⟨u,w',rfl,⟨t,rfl⟩,⟨t',rfl⟩⟩:=zPQ r;refine max_two_ints (I.ok.hd hc) fun h' tk k=>⟨_,H,I.kept k,?_,q⟩;by_cases hj:j>i
 ·rw[zWj hj,zWj hj];exact ⟨_,rfl⟩
 ·rw[zWm hj,zWm hj];exact ⟨_,rfl⟩
theorem zN7 (hc:X.calm=true):zB5 X (.builtin "min") (fun xs H Q=>∃ i j,xs=[.int i,.int j]/\Q (.int (if j<i then j else i)) H):=by
 intro zB s σ H xs us Q I r h;obtain ⟨i,j,rfl,q⟩:=h;obtain ⟨u,w',rfl,⟨t,rfl⟩,⟨t',rfl⟩⟩:=zPQ r;refine min_two_ints (I.ok.hd hc) fun h' tk k=>⟨_,H,I.kept k,?_,q⟩;by_cases hj:j<i
 ·rw[zWj hj,zWj hj];exact ⟨_,rfl⟩
 ·rw[zWm hj,zWm hj];exact ⟨_,rfl⟩
end
structure ObjM (h:Heap) (x dx C:Addr) (mA:Str->Option Value):Prop where
 obj:h.get? x=some (PySem.W.instObj C dx)
 ns:h.Ns1 dx mA
 ne:dx≠x
theorem zO0 {h:Heap} {dx:Addr} {mA:Str->Option Value} (n:h.Ns1 dx mA):∃ od,h.get? dx=some od /\ ∀ name,PySem.W.lookIn name od=some (mA name):=by
 obtain ⟨o,es,ep,ho,hd,hk,_,hm⟩:=n;refine ⟨o,ho,fun name=>?_⟩;have e:=hm name;unfold nsFind findBy at e;rw[<-Array.find?_toList]at e;unfold PySem.W.lookIn;rw[hd];dsimp only;split
 ·rename_i y q;rw[q]at e;exact zYH some e
 ·rename_i q;rw[q]at e;have a:es.toList.any (·.refKey)=false:=by
   rw[List.any_eq_false];intro y hy;obtain ⟨z,t,hkey⟩:=hk y (Array.mem_toList_iff.mp hy);simp[DictEntry.refKey,hkey]
  have a':¬ es.toList.any (·.refKey)=true:=by rw[a];exact zWq
  rw[zWm a'];exact zYH some e
theorem ObjM.look {h:Heap} {x dx C:Addr} {mA:Str->Option Value} (I:ObjM h x dx C mA):∃ od,PySem.W.InstAt h x (PySem.W.instObj C dx) C (some od) /\ ∀ name,PySem.W.lookIn name od=some (mA name) :=
 let ⟨od,ho,hl⟩:=zO0 I.ns
 ⟨od,⟨I.obj,rfl,rfl,ho⟩,hl⟩
theorem zFe.some_of {v:V} {o:Option Value} (r:zFe (some v) o):∃ u,o=some u/\zp v u:=by
 cases o with
 |none=>exact (show False from r).elim
 |some u=>exact ⟨u,rfl,r⟩
section
variable {P:Program} {w:World} {H H':Hp} {h h':Heap} {a C dx:Addr} {fs fs':List (Str × V)}
theorem zRq (hok:HOk P w H h) (e:H a=some (.ins C dx fs)):∃ mA,ObjM h a dx C mA/\(∀ f,zFe (fs.lookup f) (mA f))/\PySem.Within mA (fs.map (·.1))/\fs.length<=1000/\H dx=some (.own a):=by
 obtain ⟨d,z,ne,ob,mA,n,r,q⟩:=(show zAR P w H h a (.ins C dx fs)from hok a _ e);exact ⟨mA,⟨ob,n,ne⟩,r,q,z,d⟩
end
structure Cls (K:PySem.W.Frag) (C:Addr):Prop where
 pg:PySem.W.plainGet K C Str.empty=true
 hd:PySem.W.hasDictIn K C=true
 po:PySem.W.plainOver K C=true
 sa:PySem.W.findIn K (.ref C) "__setattr__" = some (some (.builtin "object.__setattr__"))
theorem Cls.get {K:PySem.W.Frag} {C:Addr} (c:Cls K C) (f:Str):PySem.W.plainGet K C f=true:=c.pg
section
variable {X:Cx} {zB:List (Addr × Obj)} {σ:St} {H:Hp} {s:Shared} {A:Around} {E:Value->Shared->Prop} {Q:Value->Shared->Prop} {c:Value} {b:Bool}
set_option genInjectivity true in
inductive TyOf (K:PySem.W.Frag) (H:Hp):V->Value->Prop where
 |non:TyOf K H .non (.type "NoneType")
 |bl (x:Bool):TyOf K H (.bl x) (.type "bool")
 |int (i:Int):TyOf K H (.int i) (.type "int")
 |str (x:Str):TyOf K H (.str x) (.type "str")
 |flt (x:UInt64):TyOf K H (.flt x) (.type "float")
 |lst {a:Addr} {xs:List V} (e:H a=some (.lst xs)):TyOf K H (.ref a) (.type "list")
 |frz {a:Addr} {o:Obj} {xs:List V} (e:H a=some (.frz o (.lst xs))):TyOf K H (.ref a) (.type "list")
 |tup {a:Addr} {xs:List V} (e:H a=some (.tup xs)):TyOf K H (.ref a) (.type "tuple")
 |dK {a:Addr} {kvs:List (Key × V)} (e:H a=some (.dK kvs)):TyOf K H (.ref a) (.type "dict")
 |dT {a:Addr} {kvs:List (List Key × V)} (e:H a=some (.dT kvs)):TyOf K H (.ref a) (.type "dict")
 |ins {a C dx:Addr} {fs:List (Str × V)} (e:H a=some (.ins C dx fs)) (cl:Cls K C) (ha:PySem.W.findIn K (.ref C) "__class__" = some (some (.builtin "object.__class__")))
   (hn:PySem.W.specialIn K (.builtin "object.__class__") "__get__" = some (some (.builtin "getset_descriptor.__get__"))) (htk:PySem.W.takesIn K (.builtin "object.__class__")=some true)
   (hm:PySem.W.mroIn K C (.type "object")=some true):TyOf K H (.ref a) (.ref C)
theorem zO4 {x:V} {u t:Value} (I:Inv X zB σ H s) (rx:zp x u) (ty:TyOf X.K H x t) (e:PySem.W.kitOne X.K t c=some b) (h:∀ tk,Q (.bool b) { s with toks:=tk }) :
  wpAny (model X.prog X.w) A (call (.builtin "isinstance") [u,c]) Q E s:=by
 cases ty with
 |non=>cases (show u=Value.none from rx);exact zX7 PySem.W.kitx_none I.kIn True.intro e (fun z=>nomatch z) h
 |bl y=>cases (show u=Value.bool y from rx);exact zX7 PySem.W.kitx_bool I.kIn True.intro e (fun z=>nomatch z) h
 |int i=>obtain ⟨t,q⟩:=(show ∃ t,u=Value.int i t from rx);cases q;exact zX7 PySem.W.kitx_int I.kIn True.intro e (fun z=>nomatch z) h
 |str y=>obtain ⟨t,q⟩:=(show ∃ t,u=Value.str y t from rx);cases q;exact zX7 PySem.W.kitx_str I.kIn True.intro e (fun z=>nomatch z) h
 |flt y=>obtain ⟨t,q⟩:=(show ∃ t,u=Value.float y t from rx);cases q;exact zX7 PySem.W.kitx_float I.kIn True.intro e (fun z=>nomatch z) h
 | @lst a xs ea=>
  cases (show u=Value.ref a from rx);obtain ⟨_,_,n,_,h1⟩:=(show zAR X.prog X.w H s.heap a (.lst xs)from I.hok a _ ea);exact zX7 PySem.W.kitx_list I.kIn ⟨_,h1,rfl⟩ e (fun z=>nomatch z) h
 | @frz a ob xs ea=>
  cases (show u=Value.ref a from rx);obtain ⟨_,_,_,n,_,h1⟩:=(show zAR X.prog X.w H s.heap a (.frz ob (.lst xs))from I.hok a _ ea);exact zX7 PySem.W.kitx_list I.kIn ⟨_,h1,rfl⟩ e (fun z=>nomatch z) h
 | @tup a xs ea=>
  cases (show u=Value.ref a from rx);obtain ⟨_,_,_,p⟩:=(show zAR X.prog X.w H s.heap a (.tup xs)from I.hok a _ ea);obtain ⟨o,h1,h2,_⟩:=p;exact zX7 PySem.W.kitx_tuple I.kIn ⟨o,h1,h2⟩ e (fun z=>nomatch z) h
 | @dK a kvs ea=>
  cases (show u=Value.ref a from rx);obtain ⟨_,_,vs,_,p⟩:=(show zAR X.prog X.w H s.heap a (.dK kvs)from I.hok a _ ea);obtain ⟨o,es,ep,h1,h2,_⟩:=p;exact zX7 PySem.W.kitx_dict I.kIn ⟨o,h1,h2.1⟩ e (fun z=>nomatch z) h
 | @dT a kvs ea=>
  cases (show u=Value.ref a from rx);obtain ⟨_,_,xs,_,o,es,ep,h1,h2,_⟩:=(show zAR X.prog X.w H s.heap a (.dT kvs)from I.hok a _ ea);exact zX7 PySem.W.kitx_dict I.kIn ⟨o,h1,h2.1⟩ e (fun z=>nomatch z) h
 | @ins a C dx fs ea cl ha hn htk hm=>
  cases (show u=Value.ref a from rx);obtain ⟨mA,O,_⟩:=zRq I.hok ea;obtain ⟨od,J,_⟩:=O.look;exact zX7 (PySem.W.kitx_own (cl.get _) cl.hd ha hn htk hm) I.kIn J e (fun z=>nomatch z) h
end
structure Room (k:Nat) (A:Around):Prop where
 hd:A.handled=none
 dp:A.depth+3*k+5<recursionLimit
 un:A.units+16*k+200<cLine
theorem Room.mono {j k:Nat} {A:Around} (r:Room k A) (h:j<=k):Room j A:=⟨r.hd,by have:=r.dp;omega,by have:=r.un;omega⟩
theorem Room.deeper {k:Nat} {A:Around} (r:Room (k+1) A) (env:Env):Room k (A.deeper env) :=
 ⟨r.hd,by have:=r.dp;show A.depth+1+3*k+5<_;omega,by have:=r.un;show A.units+3+16*k+200<_;omega⟩
theorem Room.depth {k:Nat} {A:Around} (r:Room k A):A.depth<recursionLimit:=by have:=r.dp;omega
theorem Room.units {k:Nat} {A:Around} (r:Room k A):A.units+64<cLine:=by have:=r.un;omega
theorem Room.units0 {k:Nat} {A:Around} (r:Room k A):A.units<cLine:=by have:=r.un;omega
def zWT:TA:=fun _ H Q=>Q [] H
def zUg (ta:TE) (tr:TA):TA:=fun σ H Q=>ta σ H fun x H1=>tr σ H1 fun xs H2=>Q (x::xs) H2
section
variable {X:Cx} {e:Expr} {es:List Expr} {te:TE} {t:TA} {pos:Pos}
theorem zEq:PA X [] zWT:=fun _ _ _ _ H Q I h=>Calls.spliced_nil ⟨[],H,I,.nil,h⟩
theorem zCu (ha:PE X e te) (hr:PA X es t) (hs:starEach (e::es) X.env=(false,eval e X.env)::starEach es X.env:=by rfl):PA X (e::es) (zUg te t):=by
 intro pos zB s σ H Q I h;rw[hs];show wpAny _ _ (spliced ((false,eval e X.env)::backTo pos (starEach es X.env))) _ _ s;refine Calls.spliced_cons (thn (ha zB s σ H _ I h) fun u s1 ⟨x,H1,I1,r1,q1⟩=>?_);exact thn (hr pos zB s1 σ H1 _ I1 q1) fun us s2 ⟨xs,H2,I2,r2,q2⟩=>⟨x::xs,H2,I2,.cons r1 r2,q2⟩
def zWC (t:TA):TE:=fun σ H Q=>t σ H fun xs H1=>xs.length<=sizeLine /\ ∀ p,H1 p=none->Q (.ref p) (upd H1 p (.tup xs))
def zWJ (t:TA):TE:=fun σ H Q=>t σ H fun xs H1=>xs.length<=sizeLine /\ ∀ p,H1 p=none->Q (.ref p) (upd H1 p (.lst xs))
theorem zS9 {x1} (h:PA X es t):PE X (.Tuple es x1 pos) (zWC t):=by
 intro zB s σ H Q I hq;refine wpAny_Tuple_spliced (thn (h pos zB s σ H _ I hq) fun us s1 ⟨xs,H1,I1,r,z,q⟩=>⟨by rw[<-r.length];exact z,?_⟩);have hf:H1 s1.heap.objs.size=none:=I1.hok.fresh (zWa _);refine ⟨.ref s1.heap.objs.size,upd H1 s1.heap.objs.size (.tup xs),I1.laid (t':=s1.toks) (fun b u e=>zWV _ e) (zWa _) ?_,rfl,q _ hf⟩;exact ⟨z,us,r,⟨_,zWe _ rfl,rfl,⟨_,rfl⟩,rfl⟩⟩
theorem zUA (h:PA X es t):PE X (.List es pos) (zWJ t):=by
 intro zB s σ H Q I hq;refine wpAny_List_spliced (thn (h pos zB s σ H _ I hq) fun us s1 ⟨xs,H1,I1,r,z,q⟩=>⟨by rw[<-r.length];exact z,?_⟩);have hf:H1 s1.heap.objs.size=none:=I1.hok.fresh (zWa _);refine ⟨.ref s1.heap.objs.size,upd H1 s1.heap.objs.size (.lst xs),I1.laid (t':=s1.toks) (fun b u e=>zWV _ e) (zWa _) ?_,rfl,q _ hf⟩;exact ⟨z,us,0,r,zWe _ rfl⟩
end
abbrev Sp:=List V->Hp->VK->XK->Prop
abbrev CXT:=List Env->Hp->Shared->XK->Value->Shared->Prop
structure Env0 (P:Program) (w:World) (K:PySem.W.Frag) (mg:Str->Option Value) (base:Heap) (A:Around) (outer:List Env) (s:Shared) (H:Hp):Prop where
 frames:A.frames=some outer
 mod:Mod K mg base
 bs:∀ b o,base.get? b=some o->s.heap.get? b=some o/\H b=none
 bsz:base.objs.size<=s.heap.objs.size
 funs:s.heap.FunFrames base outer
 frf:∀ b∈frs outer,H b=none
 hok:HOk P w H s.heap
 bare:AllBare s.gens
def CE (outer:List Env) (P:Program) (w:World) (H:Hp) (s:Shared) (Q:VK) (u:Value) (s':Shared):Prop :=
 ∃ v H',s'.os=s.os/\AllBare s'.gens/\Un (frs outer) [] H H' s.heap s'.heap/\HOk P w H' s'.heap/\zp v u/\Q v H'
def CR (CX:CXT) (outer:List Env) (P:Program) (w:World) (H:Hp) (s:Shared) (Q:VK) (E:XK) (r:Result) (s':Shared):Prop :=
 match r with
 |.ok (.ret u)=>CE outer P w H s Q u s'
 |.ok _=>False
 |.error e=>CX outer H s E e s'
structure FnOk (P:Program) (w:World) (K:PySem.W.Frag) (mg:Str->Option Value) (base:Heap) (CX:CXT) (k:Nat) (f:Addr) (fd:FuncData) (ps:List Str) (sp:Sp):Prop where
 len:∀ vs H Q E,sp vs H Q E->vs.length=ps.length
 run:∀ (A:Around) (outer:List Env) (s:Shared) (H:Hp) (args:Args) (us:List Value) (vs:List V) (Q:VK) (E:XK),Room k A->Env0 P w K mg base A outer s H->BindsTo s fd args (ps.zip us)->ze vs us->sp vs H Q E ->
  codeAny (model P w) A (.call (.ref f) args) (CR CX outer P w H s Q E) s
theorem FnOk.imp {P:Program} {w:World} {K:PySem.W.Frag} {mg:Str->Option Value} {base:Heap} {CX:CXT} {k:Nat} {f:Addr} {fd:FuncData} {ps:List Str} {sp sp':Sp} (F:FnOk P w K mg base CX k f fd ps sp)
  (h:∀ vs H Q E,sp' vs H Q E->sp vs H Q E):FnOk P w K mg base CX k f fd ps sp' :=
 ⟨fun vs H Q E q=>F.len vs H Q E (h _ _ _ _ q),fun A outer s H args us vs Q E hr he hb hv hs=>F.run A outer s H args us vs Q E hr he hb hv (h _ _ _ _ hs)⟩
section
variable {X:Cx} {zB:List (Addr × Obj)} {σ:St} {H:Hp} {s s':Shared}
theorem Inv.env0 (I:Inv X zB σ H s):Env0 X.prog X.w X.K X.mg X.base X.A X.stack s H :=
 ⟨I.ok.frames,I.ok.mod,I.bs,zWv I.ok.bsz I.sz,I.stack,I.stkFree,I.hok,I.bare⟩
theorem Inv.after {Q:VK} {u:Value} (I:Inv X zB σ H s) (h:CE X.stack X.prog X.w H s Q u s'):EP X zB σ Q u s':=by
 obtain ⟨v,H',os,bare,un,hok,r,q⟩:=h;obtain ⟨hh,g,d,t,os'⟩:=s';obtain rfl:os'=s.os:=os;exact ⟨v,H',I.call (h':=hh) (g':=g) (d':=d) (t':=t) (ch:=[]) un hok bare (fun b z=>absurd z (by simp)),r,q⟩
end
def zU0 (sp:Sp) (dvs:List V) (E:XK) (t:TA):TE:=fun σ H Q=>t σ H fun vs H1=>sp (vs++dvs) H1 Q E
def zHC (K:PySem.W.Frag) (fd:FuncData) (ps:List Str) (ds:List Value):Prop :=
 ∀ (s:Shared) (us:List Value),K.In s.heap->(us++ds).length=ps.length->BindsTo s fd ⟨us,[]⟩ (ps.zip (us++ds))
theorem zHC.all {K:PySem.W.Frag} {fd:FuncData} {ps:List Str} (h:∀ us:List Value,us.length=ps.length->bindArgs fd ⟨us,[]⟩=pure (ps.zip us)):zHC K fd ps []:=fun s us _ hl=>by
 rw[zXE]at hl ⊢;exact .of_eq (h us hl)
def zL0 (CX:CXT) (X:Cx) (E:XK):Prop:=∀ (zB:List (Addr × Obj)) (σ:St) (H:Hp) (s:Shared) (e:Value) (s':Shared),Inv X zB σ H s->CX X.stack H s E e s'->X.xe e s'
section
variable {X:Cx} {CX:CXT} {k:Nat} {f C:Addr} {fd:FuncData} {ps:List Str} {sp:Sp} {dvs:List V} {ds:List Value} {E:XK} {x m:Str} {p pos apos:Pos} {e o:Expr} {es:List Expr} {ta:TE} {t:TA}
theorem zTA {zB:List (Addr × Obj)} {σ:St} {H:Hp} {s:Shared} {Q:VK} {us:List Value} {vs:List V} (F:FnOk X.prog X.w X.K X.mg X.base CX k f fd ps sp) (hr:Room k X.A) (hb:zHC X.K fd ps ds) (hd:ze dvs ds) (hx:zL0 CX X E)
  (I:Inv X zB σ H s) (r:ze vs us) (h:sp (vs++dvs) H Q E):wpAny (model X.prog X.w) X.A (call (.ref f) us) (EP X zB σ Q) X.xe s:=by
 have r2:ze (vs++dvs) (us++ds):=r.append hd;have hl:(us++ds).length=ps.length:=by rw[<-r2.length];exact F.len _ _ _ _ h
 refine wpAny_call (codeAny_mono (F.run X.A X.stack s H ⟨us,[]⟩ (us++ds) (vs++dvs) Q E hr I.env0 (hb s us I.kIn hl) r2 h) fun r s' hq=>?_);cases r with
 |error e=>exact hx zB σ H s e s' I hq
 |ok fl=>
  cases fl with
  |ret u=>exact I.after hq
  |next=>exact False.elim hq
  |brk=>exact False.elim hq
  |cont=>exact False.elim hq
theorem zRi (F:FnOk X.prog X.w X.K X.mg X.base CX k f fd ps sp) (hr:Room k X.A) (hg:Gl X x) (hm:X.mg x=some (.ref f)) (hk:PySem.W.keepIn X.K (.ref f)=true) (hb:zHC X.K fd ps ds) (hd:ze dvs ds) (hx:zL0 CX X E)
  (ha:PA X (e::es) t) (hdb:(x==("__debug__" : Str))=false:=by decide) (he:starEach (e::es) X.env=(false,eval e X.env)::starEach es X.env:=by rfl) (hpl:(backTo pos (starEach es X.env)).any (·.1)=false:=by rfl) :
  PE X (.Call (.Name x p) (e::es) [] pos) (zU0 sp dvs E t):=by
 intro zB s σ H Q I h;refine wpAny_Call_Name_kw (zRX I hg hm ?_ hdb);refine PySem.W.callWith_K (h₀:=X.base) I.ok.mod.kin hk (thn (ha pos zB s σ H _ I h) fun us s1 ⟨vs,H1,I1,r,q⟩=>⟨I1.kIn,?_⟩) he hpl;exact zTA F hr hb hd hx I1 r q
end
structure FnScope (N P:List Str) (sc:Scope):Prop where
 kind:sc.kind=.function
 co:sc.isCoroutine=false
 gen:sc.isGenerator=false
 nd:N.Nodup
 pre:N.take P.length=P
 par:∀ x∈P,sc.names.lookup x=some .local\/sc.names.lookup x=some .cell
 nofree:∀ y∈sc.names,y.2≠.free
theorem zIs {kindOf:Str->Option NameKind} {x:Str}:∀ {binds:List (Str × Value)} {m:Str->Option Value},(∀ v,(x,v)∉binds)->bindL kindOf binds m x=m x
 |[],_,_=>rfl
 | (n,v)::r,m,h=>by
  unfold bindL;rw[zIs fun w hw=>h w (zWh _ hw)];split
  ·have:x≠n:=by rintro rfl;exact h v zWi
   simp[this]
  ·rfl
theorem zIW {kindOf:Str->Option NameKind} {x:Str}:∀ {binds:List (Str × Value)} {m:Str->Option Value},(∀ v,(x,v)∉binds)->bindC kindOf binds m x=m x
 |[],_,_=>rfl
 | (n,v)::r,m,h=>by
  unfold bindC;rw[zIW fun w hw=>h w (zWh _ hw)];split
  ·rfl
  ·have:x≠n:=by rintro rfl;exact h v zWi
   simp[this]
theorem zI3 {kindOf:Str->Option NameKind} {x:Str} {v:Value}:∀ {P:List Str} {vs:List Value} {i:Nat} {m:Str->Option Value},P.Nodup->P[i]?=some x->vs[i]?=some v->kindOf x=some .local ->
  bindL kindOf (P.zip vs) m x=some v
 |[],_,_,_,_,h,_,_=>by simp at h
 |_::_,[],_,_,_,_,h,_=>by simp at h
 |p::P,w::vs,0,m,nd,h1,h2,hk=>by
  simp at h1 h2;subst h1;subst h2;show bindL kindOf ((p,w)::P.zip vs) m p=_;unfold bindL;rw[zIs fun v hv=>(zXo.mp nd).1 (List.of_mem_zip hv).1,zWj hk];simp
 |p::P,w::vs,i+1,m,nd,h1,h2,hk=>by
  show bindL kindOf ((p,w)::P.zip vs) m x=_;unfold bindL;exact zI3 (i:=i) (zXo.mp nd).2 (by simpa using h1) (by simpa using h2) hk
theorem zIx {kindOf:Str->Option NameKind} {x:Str} {v:Value}:∀ {P:List Str} {vs:List Value} {i:Nat} {m:Str->Option Value},P.Nodup->P[i]?=some x->vs[i]?=some v->kindOf x≠some .local ->
  bindC kindOf (P.zip vs) m x=some v
 |[],_,_,_,_,h,_,_=>by simp at h
 |_::_,[],_,_,_,_,h,_=>by simp at h
 |p::P,w::vs,0,m,nd,h1,h2,hk=>by
  simp at h1 h2;subst h1;subst h2;show bindC kindOf ((p,w)::P.zip vs) m p=_;unfold bindC;rw[zIW fun v hv=>(zXo.mp nd).1 (List.of_mem_zip hv).1,zWm hk];simp
 |p::P,w::vs,i+1,m,nd,h1,h2,hk=>by
  show bindC kindOf ((p,w)::P.zip vs) m x=_;unfold bindC;exact zIx (i:=i) (zXo.mp nd).2 (by simpa using h1) (by simpa using h2) hk
def zEh (N:List Str) (vs:List V):St:=vs.map some++List.replicate (N.length-vs.length) none
def zMq (CX:CXT) (P:Program) (w:World) (K:PySem.W.Frag) (mg:Str->Option Value) (base:Heap) (N:List Str) (qual:Str) (scope:Scope) (f:Addr) (cd:Value) (A:Around) (outer:List Env) (s:Shared) (H:Hp) (E:XK):Cx where
 prog:=P
 w:=w
 K:=K
 mg:=mg
 base:=base
 A:=A.deeper (envOfC qual scope s.heap.objs.size f cd)
 N:=N
 s₀:=s
 H₀:=H
 env:=envOfC qual scope s.heap.objs.size f cd
 outer:=outer
 stack:=envOfC qual scope s.heap.objs.size f cd::outer
 ex:=[]
 calm:=true
 fn:=fun _=>true
 pn:=[]
 xe:=fun e s'=>wpAny (model P w) (A.deeper (envOfC qual scope s.heap.objs.size f cd)) (leaving (envOfC qual scope s.heap.objs.size f cd) e) (fun _ s''=>CX outer H s E e s'') (fun e' s''=>CX outer H s E e' s'') s'
theorem zHA {sc:Scope} {n:Nat} {x:Str} (h:sc.names.lookup x=some .cell):∃ c,(cellsFrom n sc.names []).lookup x=some c:=by
 have q:=PySem.W.cellsFrom_some sc.names n [] (.inl h);exact Option.isSome_iff_exists.mp q
theorem zOo {CX:CXT} {P:Program} {w:World} {K:PySem.W.Frag} {mg:Str->Option Value} {base:Heap} {N ps:List Str} {qual:Str} {scope:Scope} {f:Addr} {cd:Value} {A:Around} {outer:List Env} {s s1:Shared} {H:Hp} {E:XK} {us:List Value} {vs:List V}
  (S:FnScope N ps scope) (hd:A.handled=none) (e0:Env0 P w K mg base A outer s H) (hl:vs.length=ps.length) (r:ze vs us)
  (x:InCallC s s.heap.objs.size (bindL (envOfC qual scope s.heap.objs.size f cd).kindOf (ps.zip us) fun _=>none) (cellsFrom (s.heap.objs.size+1) scope.names []) (bindC (envOfC qual scope s.heap.objs.size f cd).kindOf (ps.zip us) fun _=>none) s1) :
  Inv (zMq CX P w K mg base N qual scope f cd A outer s H E) [] (zEh N vs) H s1:=by
 have hpl:ps.length<=N.length:=by have:=zYH List.length S.pre;rw[zXs]at this;omega
 obtain ⟨h1,tk,rfl,hk⟩:=x.done;have noA:∀ b:Addr,b∉(zMq CX P w K mg base N qual scope f cd A outer s H E).ex:=fun b z=>absurd (show b∈([]:List Addr)from z) (by simp)
 refine ⟨⟨e0.mod,S.kind,rfl,rfl,zWa _,fun y z c h1 h2=>?_,fun y hy=>?_,fun y c _ h=>?_,fun _=>hd,Around.frames_deeper e0.frames,.inr ⟨rfl,rfl⟩,fun b z=>absurd z (noA b),e0.bs,e0.bsz,fun b _ _=>noA b,fun b z=>absurd z (noA b),e0.funs,e0.frf⟩,
  rfl,e0.bare,Un.kept hk,⟨_,x.toInCall.ns,fun i y v h1 h2 h3=>?_⟩,fun y c h=>⟨_,x.cell y c h⟩,e0.hok.fresh (zWa _),fun y c h=>?_,fun p hp=>absurd (show p∈([]:List (Addr × Obj))from hp) (by simp),e0.hok.kept hk,?_⟩
 ·exact name_of_addr x.apart (zXW h1) (zXW h2)
 ·have hy:scope.names.lookup y=some .cell\/scope.names.lookup y=some .free:=hy;rcases hy with hy|hy
  ·exact zHA hy
  ·exact absurd rfl (S.nofree _ (zXW hy))
 ·exact Nat.le_of_lt (x.above y c (zXW h))
 ·have hi:i<vs.length:=by
   unfold zEh at h2;by_cases hi:i<vs.length
   ·exact hi
   ·rw[zXe (by simpa using hi)]at h2;rw[List.getElem?_replicate]at h2;split at h2 <;> cases h2
  have ha:vs[i]?=some v:=by
   unfold zEh at h2;rw[zWb (by simpa using hi),zWr]at h2;cases e:vs[i]? with
   |none=>rw[e]at h2;cases h2
   |some a=>rw[e]at h2;cases h2;rfl
  obtain ⟨u,hu,rv⟩:=r.get ha;have hp:ps[i]?=some y:=by
   rw[<-S.pre,List.getElem?_take_of_lt (by omega)];exact h1
  have ndP:ps.Nodup:=by rw[<-S.pre];exact S.nd.sublist (List.take_sublist _ _)
  refine ⟨u,rv,?_⟩;rcases S.par y (zXL hp)with k|k
  ·exact .inl ⟨k,zI3 ndP hp hu k⟩
  ·obtain ⟨c,e⟩:=zHA (n:=s.heap.objs.size+1) k;refine .inr ⟨.inl k,c,e,?_⟩;have q:=x.cell y c e;rw[zIx ndP hp hu (by show scope.names.lookup y≠_;rw[k];decide)]at q;exact q
 ·exact e0.hok.fresh (Nat.le_of_lt (x.above y c (zXW h)))
 ·unfold zEh;show _=N.length;rw[zWk,zWd,List.length_replicate];omega
theorem zUi {CX:CXT} {P:Program} {w:World} {K:PySem.W.Frag} {mg:Str->Option Value} {base:Heap} {k:Nat} {f:Addr} {name qual:Str} {params:Arguments} {body:List Stmt} {scope:Scope} {dV kV doc pm cdv ct oc:Value} {an od:Option Addr}
  {osl:Array (Option Value)} {N ps:List Str} {sp:Sp} (lk:K.lookup f=some ⟨oc,od,.func (PySem.W.fnOf name qual params body scope dV kV doc pm an cdv ct),osl⟩) (hcd:PySem.W.codeIn K cdv qual=true) (S:FnScope N ps scope)
  (len:∀ vs H Q E,sp vs H Q E->vs.length=ps.length)
  (hbody:∀ (A:Around) (outer:List Env) (s:Shared) (H:Hp) (vs:List V) (Q:VK) (E:XK),Room k (A.deeper (envOfC qual scope s.heap.objs.size f cdv))->sp vs H Q E ->
   ∃ t,PSs (zMq CX P w K mg base N qual scope f cdv A outer s H E) body t/\t { nx:=fun _ H'=>Q .non H',rt:=Q } (zEh N vs) H) :
  FnOk P w K mg base CX (k+1) f (PySem.W.fnOf name qual params body scope dV kV doc pm an cdv ct) ps sp:=by
 refine ⟨len,fun A outer s H args us vs Q E hr e0 hb r hsp=>?_⟩;have hl:=len _ _ _ _ hsp;have KX:K.In s.heap:=e0.mod.kin.keeps fun b o e=>(e0.bs b o e).1;have lim:s.heap.NoLimit:=e0.mod.nolimit.keeps fun b o e=>(e0.bs b o e).1;have hkind:∀ y∈ps.zip us,scope.names.lookup y.1=some .local\/(scope.names.lookup y.1=some .cell/\((cellsFrom (s.heap.objs.size+1) scope.names []).lookup y.1).isSome=true):=fun ⟨n,v⟩ hy=>by
  rcases S.par n (List.of_mem_zip hy).1 with q|q
  ·exact .inl q
  ·exact .inr ⟨q,PySem.W.cellsFrom_some _ _ _ (.inl q)⟩
 refine codeAny_call_function hr.depth (KX _ _ lk) rfl S.co S.gen rfl (PySem.W.codeRec_of KX hcd) (hb _ _ _ _ ?_);refine wpAny_newFunctionEnv_cells S.kind hkind fun env he s1 x=>?_;subst he;refine ⟨lim.keeps x.toInCall.keep,codeAny_func ?_⟩;obtain ⟨t,ht,hq⟩:=hbody A outer s H vs Q E (hr.deeper _) hsp;have I:Inv (zMq CX P w K mg base N qual scope f cdv A outer s H E) [] (zEh N vs) H s1:=zOo S hr.hd e0 hl r x;refine zW0 (ht [] s1 (zEh N vs) H _ I hq) (fun fl s' hs=>?_) fun e s' hs=>hs;have fin:∀ {σ':St} {H':Hp} {v:V} {u:Value},Inv (zMq CX P w K mg base N qual scope f cdv A outer s H E) [] σ' H' s'->zp v u->Q v H'->CE outer P w H s Q u s' :=
  fun {σ' H' v u} J rv q=>⟨v,H',J.os,J.bare,J.base,J.hok,rv,q⟩
 cases fl with
 |ret u=>
  obtain ⟨v,σ',H',J,rv,q⟩:=hs;exact fin J rv q
 |next=>
  obtain ⟨σ',H',J,q⟩:=hs;exact fin (v:=V.non) (u:=Value.none) J rfl q
 |brk=>
  obtain ⟨_,_,_,q⟩:=hs;exact False.elim q
 |cont=>
  obtain ⟨_,_,_,q⟩:=hs;exact False.elim q
section
variable {X:Cx} {x:Str} {p pos:Pos} {e:Expr} {es:List Expr} {t:TA} {id T:String} {r:List V->Hp->VK->Prop}
def tCB (r:List V->Hp->VK->Prop) (t:TA):TE:=fun σ H Q=>t σ H fun vs H1=>r vs H1 Q
theorem zKQ (hc:zB5 X (.builtin id) r) (hg:Gl X x) (hm:X.mg x=none) (hv:bootBuiltins x=some (.builtin id)) (ha:PA X (e::es) t) (hn:x ≠ "__name__" := by decide) (hdb:(x==("__debug__" : Str))=false:=by decide)
  (he:starEach (e::es) X.env=(false,eval e X.env)::starEach es X.env:=by rfl) (hpl:(backTo pos (starEach es X.env)).any (·.1)=false:=by rfl):PE X (.Call (.Name x p) (e::es) [] pos) (tCB r t):=by
 intro zB s σ H Q I h;refine wpAny_Call_Name_kw (zEH I hg hm hv ?_ hn hdb);exact PyProof.Rows.callWith_builtin1 (thn (ha pos zB s σ H _ I h) fun us s1 ⟨vs,H1,I1,r1,q1⟩=>hc zB s1 σ H1 vs us Q I1 r1 q1) he hpl
theorem zC7 (hc:zB5 X (.type T) r) (hg:Gl X x) (hm:X.mg x=none) (hv:bootBuiltins x=some (.type T)) (ha:PA X (e::es) t) (hn:x ≠ "__name__" := by decide) (hdb:(x==("__debug__" : Str))=false:=by decide)
  (he:starEach (e::es) X.env=(false,eval e X.env)::starEach es X.env:=by rfl) (hpl:(backTo pos (starEach es X.env)).any (·.1)=false:=by rfl):PE X (.Call (.Name x p) (e::es) [] pos) (tCB r t):=by
 intro zB s σ H Q I h;refine wpAny_Call_Name_kw (zEH I hg hm hv ?_ hn hdb);exact PyProof.Rows.callWith_type1 (thn (ha pos zB s σ H _ I h) fun us s1 ⟨vs,H1,I1,r1,q1⟩=>hc zB s1 σ H1 vs us Q I1 r1 q1) he hpl
end
end L2
namespace HT
open PySem PyProof.Rows
section
variable {prog:Program} {w:World} {A:Around} {E:Value->Shared->Prop} {s:Shared}
theorem zR5 {t b:Addr} {vs ws:List Value} {Q:Value->Shared->Prop} (ht:IsTup s.heap t vs.toArray) (hb:IsTup s.heap b ws.toArray) (hv:vs≠[])
  (h1:ws=[]->Q (.ref t) s) (h2:ws≠[]->Q (.ref s.heap.objs.size) { s with heap:=s.heap.push { cls:=.type "tuple", data:=.seq (vs++ws).toArray } })
  (hsz:vs.length+ws.length<=sizeLine):wpAny (model prog w) A (binaryOp .Add (.ref t) (.ref b)) Q E s:=by
 obtain ⟨⟨cls,dd,data,sl⟩,ho,hc,n,hd⟩:=id ht;obtain ⟨⟨cls2,dd2,data2,sl2⟩,ho2,hc2,n2,hd2⟩:=id hb;simp only at hc hd hc2 hd2;subst hc hd hc2 hd2;have e:vs.toArray++ws.toArray=(vs++ws).toArray:=by simp
 by_cases hw:ws=[]
 ·exact concat_meets ⟨_,ho,rfl⟩ ⟨_,ho2,rfl⟩ noFill_tuple_add seq_tuple_add PySem.F.slot_tuple_add PySem.F.entry_tuple_add (PySem.F.args_tuple_add_2 _ _)
   (tuple_addW1 t b vs.toArray ws.toArray n n2 dd dd2 sl sl2 (by simpa using hv) (by simp[hw])) ⟨ho,ho2,h1 hw⟩
 ·refine concat_meets ⟨_,ho,rfl⟩ ⟨_,ho2,rfl⟩ noFill_tuple_add seq_tuple_add PySem.F.slot_tuple_add PySem.F.entry_tuple_add (PySem.F.args_tuple_add_2 _ _)
   (tuple_addW2 t b vs.toArray ws.toArray n n2 dd dd2 sl sl2 (by simpa using hv) (by simpa using hw) (by rw[zWc,zWc];exact hsz)) ⟨ho,ho2,?_⟩
  rw[e];exact h2 hw
def sIx (n d:Nat):Option Int->Nat
 |none=>d
 |some v=>if v<0 then (v+(n:Int)).toNat else min v.toNat n
theorem zGd (n d k:Nat):sIx n d (some (k:Int))=min k n:=by
 show (if (k:Int)<0 then ((k:Int)+(n:Int)).toNat else min (k:Int).toNat n)=min k n;rw[zWm (by omega),Int.toNat_natCast]
theorem zTv (n d:Nat) (hd:d<=n) (o:Option Int):sIx n d o<=n:=by
 cases o with
 |none=>exact hd
 |some v=>
  show (if v<0 then (v+(n:Int)).toNat else min v.toNat n)<=n;by_cases hv:v<0
  ·rw[zWj hv];omega
  ·rw[zWm hv];exact Nat.min_le_right _ _
theorem zNB (v:Int) (n d:Nat):(if v<0 then max (v+(n:Int)) 0 else min v (n:Int))=((sIx n d (some v):Nat):Int):=by
 show (if v<0 then max (v+(n:Int)) 0 else min v (n:Int))=(((if v<0 then (v+(n:Int)).toNat else min v.toNat n):Nat):Int);by_cases hv:v<0
 ·simp only[zWj hv];omega
 ·simp only[zWm hv];omega
theorem zMN (lo hi:Option Int) (n:Nat):Builtin.Slice.sliceAdjust lo hi 1 (n:Int)=(((sIx n 0 lo:Nat):Int),((sIx n n hi:Nat):Int)):=by
 have h1:¬ ((1:Int)<0):=by omega
 unfold Builtin.Slice.sliceAdjust;simp only[h1,if_false];refine Prod.ext ?_ ?_
 ·cases lo with
  |none=>rfl
  |some v=>exact zNB v n 0
 ·cases hi with
  |none=>rfl
  |some v=>exact zNB v n n
theorem zLs (i j:Nat):Builtin.Slice.slicePlaces (i:Int) (j:Int) 1=j-i:=by
 unfold Builtin.Slice.slicePlaces;have h1:(1:Int)>0:=by omega
 simp only[h1,if_true,Int.ediv_one];split <;> omega
theorem zHM {v:Value} {o:Option Int} {Q:Option Int->Shared->Prop} (p:IsPart v o) (h:Q o s):wpAny (model prog w) A (Builtin.Slice.slicePartIndex v) Q E s:=by
 cases p with
 |none=>exact slicePart_none h
 |int i t=>exact slicePart_int h
theorem zC6 {sl:Addr} {vl vu:Value} {lo hi:Option Int} {n:Nat} {Q:Int × Int × Nat->Shared->Prop} (hs:s.heap.IsSliceOf sl vl vu .none) (pl:IsPart vl lo) (pu:IsPart vu hi)
  (h:Q (((sIx n 0 lo:Nat):Int),1,sIx n n hi-sIx n 0 lo) s):wpAny (model prog w) A (Builtin.Slice.sliceApplied (.ref sl) (pure (n:Int))) Q E s:=by
 obtain ⟨os,hos,hcs,hds⟩:=id hs;unfold Builtin.Slice.sliceApplied Builtin.Slice.sliceFields;refine zWU (zWU (zW9 hos hds (x:=vl) rfl (zWU (zW9 hos hds (x:=vu) rfl (zWU (zW9 hos hds (x:=.none) rfl (zWW ?_)))))));refine zWU (slicePart_none ?_);show wpAny _ _ (if ((1:Int)==0)=true then _ else _) _ _ s;rw[zWm (by decide)];refine zWU (zHM pl (zWU (zHM pu (zWU (zWW ?_)))));show wpAny _ _ (match Builtin.Slice.sliceAdjust lo hi 1 (n:Int) with|(lo,hi)=>pure (lo,(1:Int),Builtin.Slice.slicePlaces lo hi 1)) _ _ s;rw[zMN lo hi n];show wpAny _ _ (pure (((sIx n 0 lo:Nat):Int),(1:Int),Builtin.Slice.slicePlaces ((sIx n 0 lo:Nat):Int) ((sIx n n hi:Nat):Int) 1)) _ _ s;rw[zLs];exact zWW h
theorem zQz (xs:Array Value) (i k:Nat):((List.range k).filterMap fun (m:Nat)=>xs[((i:Int)+(m:Int)*1).toNat]?).toArray=((xs.toList.drop i).take k).toArray:=by
 have e:(fun (m:Nat)=>xs[((i:Int)+(m:Int)*1).toNat]?)=fun m=>xs[i+m]?:=by
  funext m;have:((i:Int)+(m:Int)*1).toNat=i+m:=by omega
  rw[this]
 rw[e];have:=pick_run xs i k;rw[List.filterMap_map]at this;have e2:((fun x=>xs[x]?)∘fun x=>i+x)=fun m=>xs[i+m]?:=rfl;rw[e2]at this;rw[this]
theorem zE6 {t sl:Addr} {items:Array Value} {vl vu:Value} {lo hi:Option Int} {Q:Value->Shared->Prop} (ht:IsTup s.heap t items) (hs:s.heap.IsSliceOf sl vl vu .none) (pl:IsPart vl lo) (pu:IsPart vu hi)
  (hw:¬ (sIx items.size 0 lo=0/\sIx items.size items.size hi=items.size))
  (h:Q (.ref s.heap.objs.size) { s with heap:=s.heap.push { cls:=.type "tuple", data:=.seq ((items.toList.drop (sIx items.size 0 lo)).take (sIx items.size items.size hi-sIx items.size 0 lo)).toArray } })
  (hsz:items.size<=sizeLine):wpAny (model prog w) A (getItem (.ref t) (.ref sl)) Q E s:=by
 have htake:sizeOk (.seq ((items.toList.drop (sIx items.size 0 lo)).take (sIx items.size items.size hi-sIx items.size 0 lo)).toArray):=by
  show ((items.toList.drop (sIx items.size 0 lo)).take (sIx items.size items.size hi-sIx items.size 0 lo)).toArray.size<=sizeLine;rw[zWc,zXs,List.length_drop,zXD];omega
 have hj:sIx items.size items.size hi<=items.size:=zTv _ _ (zWa _) hi;obtain ⟨os,hos,hcs,hds⟩:=id hs;have hTs:s.TypeIs (.ref sl) "slice" := ⟨os,hos,hcs⟩;unfold getItem;try with_reducible refine zXN ?_
 first|refine zWU (zWW ?_)|skip
 refine zWU (wpAny_sequenceKey ht.typeIs (by decide) ?_)
 refine zWU (zW6 (name:=Str.ofString "__getitem__") ht.typeIs zX2
  (zW7 zX2 ht.typeIs entry_tuple_getitem ?_ (args_tuple_getitem _ _)))
 show wpAny _ _ (Builtin.Tuple.tupleItemsOf (.ref t) >>= _) _ _ s;refine zWU (tupleItemsOf_ ht ?_);refine zWU (wpAny_typeOf hTs ?_);rw[zWj (by decide)];refine zWU (zC6 hs pl pu ?_);have hno:¬ ((((sIx items.size 0 lo:Nat):Int)==0&&(1:Int)==1&&(sIx items.size items.size hi-sIx items.size 0 lo)==items.size)=true):=by
  intro q;rw[zW4,zW4]at q;have q1:((sIx items.size 0 lo:Nat):Int)=0:=eq_of_beq q.1.1;have q2:sIx items.size items.size hi-sIx items.size 0 lo=items.size:=eq_of_beq q.2;exact hw ⟨by omega,by omega⟩
 show wpAny _ _ (if (((sIx items.size 0 lo:Nat):Int)==0&&(1:Int)==1&&(sIx items.size items.size hi-sIx items.size 0 lo)==items.size)=true then _ else _) _ _ s;rw[zWm hno,zQz]
 first
  |exact zWU (m:=Builtin.Tuple.tupleExact _) (zWx (zWW ⟨_,rfl,zWW h⟩) htake)
  |exact zWU (m:=Builtin.Tuple.tupleExact _) (zWx (zWU (zWW (zWW ⟨_,rfl,zWW h⟩))) htake)
  |exact zWU (zWU (m:=Builtin.Tuple.tupleExact _) (zWx (zWW (zWW ⟨_,rfl,zWW h⟩)) htake))
  |exact zWU (zWU (m:=Builtin.Tuple.tupleExact _) (zWx (zWW ⟨_,rfl,zWW h⟩) htake))
end
end HT
namespace L2
open PySem PySem.Spec PyProof.Rows
abbrev TO:=St->Hp->(Option Int->Hp->Prop)->Prop
def PO (X:Cx) (e:Option Expr) (t:TO):Prop :=
 ∀ (zB:List (Addr × Obj)) (s:Shared) (σ:St) (H:Hp) (Q:Option Int->Hp->Prop),Inv X zB σ H s->t σ H Q ->
  wpAny (model X.prog X.w) X.A (evalPart e X.env) (fun u s'=>∃ o H',Inv X zB σ H' s'/\IsPart u o/\Q o H') X.xe s
def zSP:TO:=fun _ H Q=>Q none H
def zVf (t:TE):TO:=fun σ H Q=>t σ H fun x H1=>∃ i,x=.int i/\Q (some i) H1
theorem zL4 {ns:List Int}:∀ {us:List Value},ze (ns.map V.int) us->IntsAre us ns:=by
 induction ns with
 |nil=>intro us r;rw[List.map_nil]at r;cases r;exact .nil
 |cons n ns ih=>
  intro us r;rw[zWn]at r;cases r with
  |cons r1 r2=>
   obtain ⟨t,e⟩:=r1;subst e;exact .cons n t (ih r2)
section
variable {X:Cx} {e:Expr} {te:TE} {lo hi:Option Expr} {tl th:TO} {pos p2:Pos}
theorem zRa:PO X none zSP:=by
 intro zB s σ H Q I h;rw[evalPart_none];exact zWW ⟨none,H,I,.none,h⟩
theorem zRm (h:PE X e te):PO X (some e) (zVf te):=by
 intro zB s σ H Q I hw;rw[evalPart_some];refine thn (h zB s σ H _ I hw) fun u s1 ⟨x,H1,I1,r1,q1⟩=>?_;obtain ⟨i,rfl,q⟩:=q1;obtain ⟨t,rfl⟩:=r1;exact ⟨some i,H1,I1,.int i t,q⟩
def SlR (X:Cx) (r:V->Option Int->Option Int->Hp->VK->Prop):Prop :=
 ∀ (zB:List (Addr × Obj)) (s:Shared) (σ:St) (H:Hp) (x:V) (v vl vu:Value) (lo hi:Option Int) (sl:Addr) (Q:VK),Inv X zB σ H s->zp x v->s.heap.IsSliceOf sl vl vu .none->IsPart vl lo->IsPart vu hi->r x lo hi H Q ->
  ∃ T id,typeLookup (.type T) "__getitem__" = pure (some (.builtin id))/\s.TypeIs v T/\wpAny (model X.prog X.w) X.A (getItem v (.ref sl)) (EP X zB σ Q) X.xe s
theorem SlR.or {r r':V->Option Int->Option Int->Hp->VK->Prop} (h:SlR X r) (h':SlR X r'):SlR X (fun x lo hi H Q=>r x lo hi H Q\/r' x lo hi H Q):=by
 intro zB s σ H x v vl vu lo hi sl Q I rx hs pl pu q;rcases q with q|q
 ·exact h zB s σ H x v vl vu lo hi sl Q I rx hs pl pu q
 ·exact h' zB s σ H x v vl vu lo hi sl Q I rx hs pl pu q
def tSl (r:V->Option Int->Option Int->Hp->VK->Prop) (te:TE) (tl th:TO):TE:=fun σ H Q=>te σ H fun x H1=>tl σ H1 fun l H2=>th σ H2 fun u H3=>r x l u H3 Q
theorem zP0 {r:V->Option Int->Option Int->Hp->VK->Prop} (hr:SlR X r) (he:PE X e te) (hl:PO X lo tl) (hu:PO X hi th):PE X (.Subscript e (.Slice lo hi none p2) pos) (tSl r te tl th):=by
 intro zB s σ H Q I h;refine Subscript_ (thn (he zB s σ H _ I h) fun v s1 ⟨x,H1,I1,r1,q1⟩=>?_);refine wpAny_Slice (thn (hl zB s1 σ H1 _ I1 q1) fun vl s2 ⟨l,H2,I2,pl,q2⟩=>thn (hu zB s2 σ H2 _ I2 q2) fun vu s3 ⟨u,H3,I3,pu,q3⟩=>?_);rw[evalPart_none];refine zWW ?_;have I4:Inv X zB σ H3 { s3 with heap:=s3.heap.push { cls:=.type "slice", data:=.fields #[vl,vu,.none] } }:=I3.kept (t':=s3.toks) fun b ob q=>zWV _ q;obtain ⟨T,id,hT,ht,hg⟩:=hr zB { s3 with heap:=s3.heap.push { cls:=.type "slice", data:=.fields #[vl,vu,.none] } } σ H3 x v vl vu l u s3.heap.objs.size Q I4 r1 (Heap.IsSliceOf.new ..) pl pu q3;show wpAny (model X.prog X.w) X.A (subscriptTail e (.Slice lo hi none p2) v (.ref s3.heap.objs.size)) (EP X zB σ Q) X.xe { s3 with heap:=s3.heap.push { cls:=.type "slice", data:=.fields #[vl,vu,.none] } };exact tail_any (ops:=[.ref s3.heap.objs.size,v]) ht hT hg (by with_unfolding_all rfl)
def zKt (xs:List V) (lo hi:Option Int):List V:=(xs.drop (HT.sIx xs.length 0 lo)).take (HT.sIx xs.length xs.length hi-HT.sIx xs.length 0 lo)
theorem zF5 (xs:List V) (lo hi:Option Int):(zKt xs lo hi).length<=xs.length:=by
 unfold zKt;rw[zXs,List.length_drop];omega
def zWE (K:PySem.W.Frag):V->Option Int->Option Int->Hp->VK->Prop:=fun x lo hi H Q=>∃ a xs,x=.ref a/\SqT K H a xs /\
 ¬ (HT.sIx xs.length 0 lo=0/\HT.sIx xs.length xs.length hi=xs.length) /\ ∀ p,H p=none->Q (.ref p) (upd H p (.tup (zKt xs lo hi)))
theorem zTc:SlR X (zWE X.K):=by
 intro zB s σ H x v vl vu lo hi sl Q I rx hs pl pu h;obtain ⟨a,xs,rfl,hx,hw,q⟩:=h;cases rx;obtain ⟨its,r,ht,hz⟩:=I.tuple hx;have hlen:its.toArray.size=xs.length:=by rw[zWc];exact r.length.symm
 refine ⟨"tuple", _,zX2.lookup,ht.typeIs,?_⟩;refine HT.zE6 ht hs pl pu (by rw[hlen];exact hw) ?_ (by rw[hlen];exact hz);rw[hlen];refine ⟨.ref s.heap.objs.size,_,I.laid (t':=s.toks) (o:=.tup (zKt xs lo hi)) (fun b ob q=>zWV _ q) (zWa _) ?_,rfl,q _ (I.hok.fresh (zWa _))⟩;exact ⟨zWv (zF5 xs lo hi) hz,_,(r.drop (HT.sIx xs.length 0 lo)).take (HT.sIx xs.length xs.length hi-HT.sIx xs.length 0 lo),zCD.new _ _⟩
def zSk (K:PySem.W.Frag):R2:=fun x y H Q=>∃ a b xs ys,x=.ref a/\y=.ref b/\SqT K H a xs/\SqT K H b ys/\xs≠[]/\xs.length+ys.length<=sizeLine /\
 (ys=[]->Q (.ref a) H)/\(ys≠[] -> ∀ p,H p=none->Q (.ref p) (upd H p (.tup (xs++ys))))
theorem ze.nil_iff {xs:List V} {us:List Value} (r:ze xs us):us=[] ↔ xs=[]:=by
 cases r with
 |nil=>simp
 |cons _ _=>simp
theorem zSU:OpR X (binaryOp .Add) (zSk X.K):=by
 intro zB s σ H x y v u Q I rx ry h;obtain ⟨a,b,xs,ys,rfl,rfl,ha,hb,hx,hz,q1,q2⟩:=h;cases rx;cases ry;obtain ⟨its,r1,p1,_⟩:=I.tuple ha;obtain ⟨its2,r2,p2,_⟩:=I.tuple hb;refine HT.zR5 p1 p2 (fun z=>hx (r1.nil_iff.mp z)) (fun z=>⟨.ref a,H,I,rfl,q1 (r2.nil_iff.mp z)⟩) (fun z=>?_) (by rw[<-r1.length,<-r2.length];exact hz);refine ⟨.ref s.heap.objs.size,_,I.laid (t':=s.toks) (o:=.tup (xs++ys)) (fun b ob q=>zWV _ q) (zWa _) ?_,rfl,q2 (fun w=>z (r2.nil_iff.mpr w)) _ (I.hok.fresh (zWa _))⟩;exact ⟨by rw[zWk];exact hz,_,r1.append r2,zCD.new _ _⟩
end
def ixN (n:Nat) (i:Int):Option Nat:=if 0<=i then (if i<n then some i.toNat else none) else if -(n:Int)<=i then some (i+n).toNat else none
def atI {α:Type} (xs:List α) (i:Int):Option α:=(ixN xs.length i).bind fun j=>xs[j]?
theorem zKC {n:Nat} {i:Int} {j:Nat} (h:ixN n i=some j):seqIndex? i n=some j/\j<n /\ -(n:Int)<=i/\i<n:=by
 unfold ixN at h;by_cases h0:0<=i
 ·rw[zWj h0]at h;by_cases h1:i<n
  ·rw[zWj h1]at h;have e:i.toNat=j:=zXU h;exact ⟨by rw[seqIndex_of h0 h1,e],by omega,by omega,h1⟩
  ·rw[zWm h1]at h;cases h
 ·rw[zWm h0]at h;by_cases h1 : -(n:Int)<=i
  ·rw[zWj h1]at h;have e:(i+n).toNat=j:=zXU h;exact ⟨by rw[seqIndex_neg (by omega) h1,e],by omega,h1,by omega⟩
  ·rw[zWm h1]at h;cases h
theorem zJp {α:Type} {xs:List α} {i:Int} {v:α} (h:atI xs i=some v):∃ j,seqIndex? i xs.length=some j/\xs[j]?=some v/\j<xs.length /\ -(xs.length:Int)<=i/\i<xs.length:=by
 unfold atI at h;cases e:ixN xs.length i with
 |none=>rw[e]at h;cases h
 |some j=>
  rw[e]at h;obtain ⟨h1,h2,h3,h4⟩:=zKC e;exact ⟨j,h1,h,h2,h3,h4⟩
theorem zNJ {α:Type} {xs:List α} {j:Nat} {v:α} (h:xs[j]?=some v):atI xs (j:Int)=some v:=by
 have hj:j<xs.length:=(zWX.mp h).1;have e:ixN xs.length (j:Int)=some j:=by
  unfold ixN;rw[zWj (by omega),zWj (by omega)];simp
 unfold atI;rw[e];exact h
theorem zLS {α:Type} (xs:List α) (v:α):atI (xs++[v]) (-1)=some v:=by
 have hl:(xs++[v]).length=xs.length+1:=by simp
 have e:ixN (xs++[v]).length (-1)=some xs.length:=by
  unfold ixN;rw[hl,zWm (by decide),zWj (by omega)];congr 1;omega
 unfold atI;rw[e];show (xs++[v])[xs.length]?=some v;simp
def zNR (b:Expr):Prop:=∀ o i,subscripted b false o i=operate [o,i] (getItem o i)
def IxR (X:Cx) (r:R2):Prop :=
 ∀ (value slice:Expr) (zB:List (Addr × Obj)) (s:Shared) (σ:St) (H:Hp) (x y:V) (v u:Value) (Q:VK),Inv X zB σ H s->zp x v->zp y u->r x y H Q ->
  subscripted slice false v u=operate [v,u] (getItem v u)->wpAny (model X.prog X.w) X.A (subscriptTail value slice v u) (EP X zB σ Q) X.xe s
def MtR (X:Cx) (id:String) (r:V->List V->Hp->VK->Prop):Prop :=
 ∀ (zB:List (Addr × Obj)) (s:Shared) (σ:St) (H:Hp) (x:V) (xs:List V) (v:Value) (us:List Value) (Q:VK),Inv X zB σ H s->zp x v->ze xs us->r x xs H Q ->
  wpAny (model X.prog X.w) X.A (call (.builtin id) (v::us)) (EP X zB σ Q) X.xe s
section
variable {X:Cx} {a b:Expr} {ta tb:TE} {pos:Pos}
theorem IxR.or {r r':R2} (h:IxR X r) (h':IxR X r'):IxR X (fun x y H Q=>r x y H Q\/r' x y H Q):=by
 intro value slice zB s σ H x y v u Q I rx ry q hs;rcases q with q|q
 ·exact h value slice zB s σ H x y v u Q I rx ry q hs
 ·exact h' value slice zB s σ H x y v u Q I rx ry q hs
theorem zUs {r:R2} (hr:IxR X r) (ha:PE X a ta) (hb:PE X b tb) (hs:zNR b):PE X (.Subscript a b pos) (tOp r ta tb):=by
 intro zB s σ H Q I h;exact Subscript_ (zTs ha hb I h fun v u s2 x y H2 I2 rx ry q=>hr a b zB s2 σ H2 x y v u Q I2 rx ry q (hs _ _))
def zUt (K:PySem.W.Frag):R2:=fun x y H Q=>∃ p xs i v,x=.ref p/\y=.int i/\SqL K H p xs/\atI xs i=some v/\Q v H
def zVK (K:PySem.W.Frag):R2:=fun x y H Q=>∃ p xs i v,x=.ref p/\y=.int i/\SqT K H p xs/\atI xs i=some v/\Q v H
def zUq:R2:=fun x y H Q=>∃ z i c,x=.str z/\y=.int i/\z.length<=sizeLine/\atI z.cps.toList i=some c/\Q (.str ⟨#[c]⟩) H
theorem zSJ:IxR X (zUt X.K):=by
 intro value slice zB s σ H x y v u Q I rx ry h hs;obtain ⟨p,xs,i,z,rfl,rfl,hq,he,q⟩:=h;cases rx;obtain ⟨t,rfl⟩:=ry;obtain ⟨its,r,pl,hz⟩:=I.list hq;obtain ⟨j,h1,h2,h3,h4,h5⟩:=zJp he;obtain ⟨w,ew,rw'⟩:=r.get h2;have hl:=r.length;have hn:=zEk;have fin:EP X zB σ Q w s:=⟨z,H,I,rw',q⟩;by_cases h0:0<=i
 ·have hj:i.toNat=j:=by
   rw[seqIndex_of h0 h5]at h1;exact zXU h1
  exact item_listR pl.isList h0 (by omega) (by rw[hj];simpa using ew) fin hs
 ·have hj:(i+(its.toArray.size:Int)).toNat=j:=by
   rw[seqIndex_neg (by omega) h4]at h1;rw[zWc,<-hl];exact zXU h1
  exact subscriptTail_builtinR (x:=w) pl.isList.typeIs slot_list_getitem.lookup
   (wpAny_getItem_list_neg (Q:=fun r s'=>r=w/\EP X zB σ Q r s') pl.isList (by omega) (by rw[zWc] <;> omega) (by omega) (by rw[hj];simpa using ew) ⟨rfl,fin⟩) hs
theorem zS5:IxR X (zVK X.K):=by
 intro value slice zB s σ H x y v u Q I rx ry h hs;obtain ⟨p,xs,i,z,rfl,rfl,hq,he,q⟩:=h;cases rx;obtain ⟨t,rfl⟩:=ry;obtain ⟨its,r,pl,hz⟩:=I.tuple hq;obtain ⟨j,h1,h2,h3,h4,h5⟩:=zJp he;obtain ⟨w,ew,rw'⟩:=r.get h2;have hl:=r.length;have hn:=zEk;have fin:EP X zB σ Q w s:=⟨z,H,I,rw',q⟩
 exact subscriptTail_builtinR (x:=w) pl.typeIs slot_tuple_getitem.lookup
  (getItem_tuple (j:=j) (Q:=fun r s'=>r=w/\EP X zB σ Q r s') pl (by omega) (by omega) (by rw[zWc,<-hl];exact h1) (by simpa using ew) ⟨rfl,fin⟩) hs
theorem zUV:IxR X zUq:=by
 intro value slice zB s σ H x y v u Q I rx ry h hs;obtain ⟨z,i,c,rfl,rfl,hz,he,q⟩:=h;obtain ⟨t,rfl⟩:=rx;obtain ⟨t',rfl⟩:=ry;obtain ⟨j,h1,h2,h3,h4,h5⟩:=zJp he;have hl:z.cps.toList.length=z.length:=by simp[Str.length]
 rw[hl]at h1 h4 h5;have hn:=zEk;exact tail_any (typeIs_str s z t) slot_str_getitem.lookup (getItem_str (c:=c) (by
  have e1:decide (i < -(2 ^ 63:Int))=false:=zW3 (by omega);have e2:decide (i≥2 ^ 63)=false:=zW3 (by omega);rw[e1,e2,Bool.or_false]) (by rw[h1];simpa using h2) ⟨.str ⟨#[c]⟩,H,I.tok _,⟨_,rfl⟩,q⟩) hs
def rIx (K:PySem.W.Frag):R2:=fun x y H Q=>zUt K x y H Q\/zVK K x y H Q\/zUq x y H Q
theorem zUY:IxR X (rIx X.K):=zSJ.or (zS5.or zUV)
theorem zMj (its:List Value) (n j:Nat) (u:Value):Obj.mapSeq (·.setIfInBounds j u) { cls:=.type "list", data:=.seq its.toArray n }={ cls:=.type "list", data:=.seq (its.set j u).toArray n }:=by
 simp[Obj.mapSeq]
theorem Inv.lst {zB:List (Addr × Obj)} {σ:St} {H:Hp} {s:Shared} {p:Addr} {xs:List V} (I:Inv X zB σ H s) (h:H p=some (.lst xs)) :
  ∃ (its:List Value) (n:Nat),ze xs its/\s.heap.get? p=some { cls:=.type "list", data:=.seq its.toArray n }/\xs.length<=sizeLine:=by
 obtain ⟨z,its,n,r,e⟩:=I.hok p _ h;exact ⟨its,n,r,e,z⟩
theorem Inv.lstUpd {zB:List (Addr × Obj)} {σ:St} {H:Hp} {s:Shared} {p:Addr} {xs ys:List V} {its its':List Value} {n n':Nat} {f:Obj->Obj} (I:Inv X zB σ H s) (h:H p=some (.lst xs))
  (ho:s.heap.get? p=some { cls:=.type "list", data:=.seq its.toArray n }) (hf:f { cls:=.type "list", data:=.seq its.toArray n }={ cls:=.type "list", data:=.seq its'.toArray n' }) (r:ze ys its') (hz:ys.length<=sizeLine) (t:Nat) :
  Inv X zB σ (upd H p (.lst ys)) { s with heap:=s.heap.update p f,toks:=t }:=by
 have e:(s.heap.update p f).get? p=some { cls:=.type "list", data:=.seq its'.toArray n' }:=by
  rw[zXH f ho (by rw[hf] <;> rfl),hf]
 refine I.write (x:=p) (e:=p) (by rw[h];trivial) (.inl rfl) (fun b u hb q=>(zXB _ _ (Ne.symm hb)).trans q) ⟨_,e⟩ ?_;exact ⟨hz,its',n',r,e⟩
def zVw:V->V->V->Hp->(Hp->Prop)->Prop:=fun o i v H Q=>∃ p xs k j,o=.ref p/\i=.int k/\H p=some (.lst xs)/\ixN xs.length k=some j/\Q (upd H p (.lst (xs.set j v)))
theorem zPY:zVd X zVw:=by
 intro zB s σ H o i v ov iv u Q I ro ri rv h;obtain ⟨p,xs,k,j,rfl,rfl,hp,hj,q⟩:=h;cases ro;obtain ⟨t,rfl⟩:=ri;obtain ⟨its,n,r,ho,hz⟩:=I.lst hp;obtain ⟨h1,h2,h3,h4⟩:=zKC hj;have hl:=r.length;have hn:=zEk;have I':Inv X zB σ (upd H p (.lst (xs.set j v))) { s with heap:=s.heap.update p (Obj.mapSeq (·.setIfInBounds j u)) } :=
  I.lstUpd hp ho (zMj its n j u) (r.set rv j) (by rw[zYn];exact hz) s.toks
 by_cases h0:0<=k
 ·have hk:k.toNat=j:=by
   rw[seqIndex_of h0 h4]at h1;exact zXU h1
  exact PySem.W.ki_setAt ho h0 (by omega) (by rw[zWc,<-hl];exact h4) (by rw[hk];exact ⟨_,I',q⟩)
 ·have hk:(k+(its.toArray.size:Int)).toNat=j:=by
   rw[seqIndex_neg (by omega) h3]at h1;rw[zWc,<-hl];exact zXU h1
  exact PySem.W.ki_setBack ho (by omega) (by rw[zWc,<-hl];exact h3) (by omega) (by rw[hk];exact ⟨_,I',q⟩)
theorem zJF (lo hi:Option Int) (n:Nat):(sliceBounds lo hi none n).1=((HT.sIx n 0 lo:Nat):Int)/\(sliceBounds lo hi none n).2.1=((HT.sIx n n hi:Nat):Int)/\(sliceBounds lo hi none n).2.2=1:=by
 refine ⟨?_,?_,rfl⟩
 ·cases lo with
  |none=>simp[sliceBounds,HT.sIx]
  |some i=>
   simp only[sliceBounds,HT.sIx,Option.getD_none,show (1:Int)>0 by decide,if_true];by_cases h:i<0
   ·simp only[h,if_true] <;> omega
   ·simp only[h,if_false] <;> omega
 ·cases hi with
  |none=>simp[sliceBounds,HT.sIx]
  |some i=>
   simp only[sliceBounds,HT.sIx,Option.getD_none,show (1:Int)>0 by decide,if_true];by_cases h:i<0
   ·simp only[h,if_true] <;> omega
   ·simp only[h,if_false] <;> omega
theorem zH7 (its:List Value) (lo hi:Option Int):slicePick its.toArray lo hi none=((its.drop (HT.sIx its.length 0 lo)).take (HT.sIx its.length its.length hi-HT.sIx its.length 0 lo)).toArray:=by
 obtain ⟨h1,h2,h3⟩:=zJF lo hi its.toArray.size;unfold slicePick;rw[h1,h2,h3];simp only[sliceRange_one,pick_run,zWc] <;> rfl
def zWI (K:PySem.W.Frag):V->Option Int->Option Int->Hp->VK->Prop:=fun x lo hi H Q=>∃ a xs,x=.ref a/\SqL K H a xs /\ ∀ p,H p=none->Q (.ref p) (upd H p (.lst (zKt xs lo hi)))
theorem zSM:SlR X (zWI X.K):=by
 intro zB s σ H x v vl vu lo hi sl Q I rx hs pl pu h;obtain ⟨a,xs,rfl,hx,q⟩:=h;cases rx;obtain ⟨its,r,ht,hz⟩:=I.list hx;have hlen:=r.length;refine ⟨"list", _,slot_list_getitem.lookup,ht.isList.typeIs,?_⟩;refine wpAny_getItem_list_slice ht.isList hs pl pu .none (by simp) ?_ (by rw[zWc] <;> omega);rw[zH7,<-hlen];refine ⟨.ref s.heap.objs.size,_,I.laid (t':=s.toks) (o:=.lst (zKt xs lo hi)) (fun b ob q=>zWV _ q) (zWa _) ?_,rfl,q _ (I.hok.fresh (zWa _))⟩;exact ⟨zWv (zF5 xs lo hi) hz,_,0,(r.drop (HT.sIx xs.length 0 lo)).take (HT.sIx xs.length xs.length hi-HT.sIx xs.length 0 lo),zWe _ rfl⟩
def zFH:V->Bool
 |.non=>true
 |.bl _=>true
 |.int _=>true
 |.str _=>true
 |_=>false
def eqV:V->V->Bool
 |.non,.non=>true
 |.bl a,.bl b=>a==b
 |.bl a,.int b=>(if a then 1 else 0)==b
 |.int a,.bl b=>a==(if b then 1 else 0)
 |.int a,.int b=>a==b
 |.str a,.str b=>a==b
 |_,_=>false
theorem zTy {A:Around} {s:Shared} {y x:V} {u v:Value} (ry:zp y u) (rx:zp x v) (fy:zFH y=true) (fx:zFH x=true):SeqAt.EqAt A s u v (eqV y x):=by
 cases y with
 |non=>
  cases ry;cases x with
  |non=>cases rx;exact SeqAt.EqAt.same _
  |bl b=>cases rx;exact SeqAt.EqAt.none_bool b
  |int b=>obtain ⟨t,rfl⟩:=rx;exact SeqAt.EqAt.none_int b t
  |str b=>obtain ⟨t,rfl⟩:=rx;exact SeqAt.EqAt.none_str b t
  |_=>exact absurd (show false=true from fx) zWq
 |bl a=>
  cases ry;cases x with
  |non=>cases rx;exact SeqAt.EqAt.bool_none a
  |bl b=>cases rx;exact SeqAt.EqAt.bool_bool a b
  |int b=>obtain ⟨t,rfl⟩:=rx;exact SeqAt.EqAt.bool_int a b t
  |str b=>obtain ⟨t,rfl⟩:=rx;exact SeqAt.EqAt.bool_str a b t
  |_=>exact absurd (show false=true from fx) zWq
 |int a=>
  obtain ⟨t',rfl⟩:=ry;cases x with
  |non=>cases rx;exact SeqAt.EqAt.int_none a t'
  |bl b=>cases rx;exact SeqAt.EqAt.int_bool a t' b
  |int b=>obtain ⟨t,rfl⟩:=rx;exact SeqAt.EqAt.int_int a t' b t
  |str b=>obtain ⟨t,rfl⟩:=rx;exact SeqAt.EqAt.int_str a t' b t
  |_=>exact absurd (show false=true from fx) zWq
 |str a=>
  obtain ⟨t',rfl⟩:=ry;cases x with
  |non=>cases rx;exact SeqAt.EqAt.str_none a t'
  |bl b=>cases rx;exact SeqAt.EqAt.str_bool a t' b
  |int b=>obtain ⟨t,rfl⟩:=rx;exact SeqAt.EqAt.str_int a t' b t
  |str b=>obtain ⟨t,rfl⟩:=rx;exact SeqAt.EqAt.str_str a t' b t
  |_=>exact absurd (show false=true from fx) zWq
 |_=>exact absurd (show false=true from fy) zWq
def eqU (x:V) (u:Value):Bool:=match u with
 |.none=>eqV .non x
 |.bool b=>eqV (.bl b) x
 |.int i _=>eqV (.int i) x
 |.str z _=>eqV (.str z) x
 |_=>false
theorem zP5 {x y:V} {u:Value} (r:zp y u) (f:zFH y=true):eqU x u=eqV y x:=by
 cases y with
 |non=>cases r;rfl
 |bl b=>cases r;rfl
 |int i=>obtain ⟨t,rfl⟩:=r;rfl
 |str z=>obtain ⟨t,rfl⟩:=r;rfl
 |_=>exact absurd (show false=true from f) zWq
theorem zFI {x:V}:∀ {xs:List V} {us:List Value},ze xs us->xs.all zFH=true->us.any (eqU x)=xs.any fun y=>eqV y x
 |_,_,.nil,_=>rfl
 |y::xs,u::us,.cons r t,f=>by
  rw[List.all_cons,zW4]at f;rw[List.any_cons,List.any_cons,zP5 r f.1,zFI t f.2]
theorem zDs {A:Around} {s:Shared} {x:V} {v:Value} (rx:zp x v) (fx:zFH x=true):∀ {xs:List V} {us:List Value},ze xs us->xs.all zFH=true -> ∀ u∈us,SeqAt.EqAt A s u v (eqU x u)
 |_,_,.nil,_=>fun u hu=>by cases hu
 |y::xs,u::us,.cons r t,f=>fun u' hu=>by
  rw[List.all_cons,zW4]at f;rcases zWg.mp hu with rfl|hu
  ·rw[zP5 r f.1];exact zTy r rx f.1 fx
  ·exact zDs rx fx t f.2 u' hu
def inV (x:V) (xs:List V):Bool:=xs.any fun y=>eqV y x
def rIn (K:PySem.W.Frag) (neg:Bool):R2:=fun x y H Q=>∃ p xs,y=.ref p/\(SqL K H p xs\/SqT K H p xs)/\zFH x=true/\xs.all zFH=true/\Q (.bl (if neg then !inV x xs else inV x xs)) H
theorem zOh:OpR X (compareOp .In) (rIn X.K false):=by
 intro zB s σ H x y v u Q I rx ry h;obtain ⟨p,xs,rfl,hq,fx,fs,q⟩:=h;cases ry;rcases hq with hq|hq
 ·obtain ⟨its,r,pl,hz⟩:=I.list hq;refine SeqAt.in_listAt (eqU x) pl.isList (fun w hw=>zDs rx fx r fs w (by simpa using hw)) ⟨.bl _,H,I,rfl,?_⟩;rw[show its.toArray.any (eqU x)=its.any (eqU x) by simp,zFI r fs];exact q
 ·obtain ⟨its,r,pl,hz⟩:=I.tuple hq;refine SeqAt.in_tupleAt (eqU x) pl (fun w hw=>zDs rx fx r fs w (by simpa using hw)) ⟨.bl _,H,I,rfl,?_⟩;rw[show its.toArray.any (eqU x)=its.any (eqU x) by simp,zFI r fs];exact q
theorem zJK:OpR X (compareOp .NotIn) (rIn X.K true):=by
 intro zB s σ H x y v u Q I rx ry h;obtain ⟨p,xs,rfl,hq,fx,fs,q⟩:=h;cases ry;rcases hq with hq|hq
 ·obtain ⟨its,r,pl,hz⟩:=I.list hq;refine SeqAt.notIn_listAt (eqU x) pl.isList (fun w hw=>zDs rx fx r fs w (by simpa using hw)) ⟨.bl _,H,I,rfl,?_⟩;rw[show its.toArray.any (eqU x)=its.any (eqU x) by simp,zFI r fs];exact q
 ·obtain ⟨its,r,pl,hz⟩:=I.tuple hq;refine SeqAt.notIn_tupleAt (eqU x) pl (fun w hw=>zDs rx fx r fs w (by simpa using hw)) ⟨.bl _,H,I,rfl,?_⟩;rw[show its.toArray.any (eqU x)=its.any (eqU x) by simp,zFI r fs];exact q
theorem zKE:zB5 X (.builtin "len") (fun xs H Q=>∃ p ys,xs=[.ref p]/\(SqL X.K H p ys\/SqT X.K H p ys)/\Q (.int ys.length) H):=by
 intro zB s σ H xs us Q I r h;obtain ⟨p,ys,rfl,hq,q⟩:=h;obtain ⟨u,rfl,rx⟩:=zEc r;cases rx;have hn:=zEk;rcases hq with hq|hq
 ·obtain ⟨its,r',pl,hz⟩:=I.list hq;have hlen:=r'.length;exact Calls.call_len_list pl.isList (by simp only[zWc] <;> omega) ⟨.int ys.length,H,I.tok _,⟨s.toks+1,by rw[zWc,hlen]⟩,q⟩
 ·obtain ⟨its,r',pl,hz⟩:=I.tuple hq;have hlen:=r'.length;exact len_tuple pl (by simp only[zWc] <;> omega) ⟨.int ys.length,H,I.tok _,⟨s.toks+1,by rw[zWc,hlen]⟩,q⟩
theorem zJP:zB5 X (.type "list") (fun xs H Q=>∃ p ys,xs=[.ref p]/\(SqL X.K H p ys\/SqT X.K H p ys) /\ ∀ l,H l=none->Q (.ref l) (upd H l (.lst ys))):=by
 intro zB s σ H xs us Q I r h;obtain ⟨p,ys,rfl,hq,q⟩:=h;obtain ⟨u,rfl,rx⟩:=zEc r;cases rx
 have fin:∀ (its:List Value),ze ys its->ys.length<=sizeLine -> ∀ (h':Heap) (c':Nat),(∀ b o',s.heap.get? b=some o'->h'.get? b=some o') ->
   h'.get? s.heap.objs.size=some { cls:=.type "list", dict:=none,data:=.seq its.toArray c',slots:=#[] }->EP X zB σ Q (.ref s.heap.objs.size) { s with heap:=h' }:=fun its r' hz h' c' kp e=>
  ⟨.ref s.heap.objs.size,_,I.laid (t':=s.toks) kp (zWa _) (show zAR X.prog X.w _ h' _ (.lst ys)from ⟨hz,its,c',r',e⟩),rfl,q _ (I.hok.fresh (zWa _))⟩
 rcases hq with hq|hq
 ·obtain ⟨its,r',pl,hz⟩:=I.list hq;have hlen:=r'.length;obtain ⟨o,ho,hc,n,hd⟩:=pl.isList;exact call_list_seq p (.inl rfl) ho hc hd (fun h' c' kp e=>fin its r' hz h' c' kp e) (by simp only[zWc] <;> omega)
 ·obtain ⟨its,r',pl,hz⟩:=I.tuple hq;have hlen:=r'.length;obtain ⟨o,ho,hc,n,hd⟩:=pl;exact call_list_seq p (.inr rfl) ho hc hd (fun h' c' kp e=>fin its r' hz h' c' kp e) (by simp only[zWc] <;> omega)
theorem zH1:zB5 X (.type "tuple") (fun xs H Q=>∃ p ys,xs=[.ref p]/\((SqL X.K H p ys /\ ∀ l,H l=none->Q (.ref l) (upd H l (.tup ys)))\/(SqT X.K H p ys/\Q (.ref p) H))):=by
 intro zB s σ H xs us Q I r h;obtain ⟨p,ys,rfl,h⟩:=h;obtain ⟨u,rfl,rx⟩:=zEc r;cases rx;rcases h with ⟨hq,q⟩|⟨hq,q⟩
 ·obtain ⟨its,r',pl,hz⟩:=I.list hq;have hlen:=r'.length;refine call_tuple_list pl.isList (fun h' kp=>?_) (by simp only[zWc] <;> omega);have I1:Inv X zB σ H { s with heap:=h' }:=I.kept (t':=s.toks) kp;have I2:Inv X zB σ (upd H h'.objs.size (.tup ys)) { s with heap:=h'.push { cls:=.type "tuple", data:=.seq its.toArray } } :=
   I1.laid (t':=s.toks) (fun b o e=>zWV _ e) (zWa _) (show zAR X.prog X.w _ _ _ (.tup ys)from ⟨hz,its,r',zCD.new _ _⟩)
  exact ⟨.ref h'.objs.size,_,I2,rfl,q _ (I1.hok.fresh (zWa _))⟩
 ·obtain ⟨its,r',pl,hz⟩:=I.tuple hq;exact call_tuple_same pl ⟨.ref p,H,I,rfl,q⟩
def tyV (K:PySem.W.Frag) (T:String) (x:V) (H:Hp):Prop:=match x with
 |.str _=>T = "str"
 |.int _=>T = "int"
 |.ref p=>(T = "list" /\ ∃ xs,SqL K H p xs)\/(T = "tuple" /\ ((∃ o,K.lookup p=some o/\o.cls=.type "tuple" /\ o.dict=none) \/ ∃ xs,H p=some (.tup xs))) \/
   (T = "dict" /\ ((∃ kvs,H p=some (.dK kvs)) \/ ∃ kvs,H p=some (.dT kvs)))\/(T = "set" /\ ∃ S n,H p=some (.set S n))
 |_=>False
theorem zUb {zB:List (Addr × Obj)} {σ:St} {H:Hp} {s:Shared} {T:String} {x:V} {v:Value} (I:Inv X zB σ H s) (r:zp x v) (ty:tyV X.K T x H) :
  s.TypeIs v T /\ ∀ a,v=.ref a -> ∃ ob,s.heap.get? a=some ob/\ob.dict=none:=by
 cases x with
 |str z=>
  obtain ⟨t,rfl⟩:=r;cases (show T = "str" from ty);exact ⟨typeIs_str s z t,fun _ e=>nomatch e⟩
 |int i=>
  obtain ⟨t,rfl⟩:=r;cases (show T = "int" from ty);exact ⟨typeIs_int s i t,fun _ e=>nomatch e⟩
 |ref p=>
  cases r;rcases ty with ⟨rfl,xs,hq⟩|⟨rfl,⟨o,hk,hc,hd⟩|⟨xs,hq⟩⟩|⟨rfl,hk⟩|⟨rfl,S,n,hk⟩
  ·obtain ⟨its,_,pl,_⟩:=I.list hq;refine ⟨pl.isList.typeIs,fun a e=>?_⟩;cases e;obtain ⟨o,n,e,c,hd,_⟩:=pl;exact ⟨o,e,hd⟩
  ·refine ⟨⟨o,I.kIn p o hk,hc⟩,fun a e=>?_⟩;cases e;exact ⟨o,I.kIn _ o hk,hd⟩
  ·obtain ⟨_,its,_,o,e,c,_,hd⟩:=I.hok p _ hq;refine ⟨⟨o,e,c⟩,fun a e2=>?_⟩;cases e2;exact ⟨o,e,hd⟩
  ·have z:∃ o,s.heap.get? p=some o/\o.ExactDict:=by
    rcases hk with ⟨kvs,hk⟩|⟨kvs,hk⟩
    ·obtain ⟨_,_,_,_,o,_,_,e,ex,_⟩:=I.hok p _ hk;exact ⟨o,e,ex⟩
    ·obtain ⟨_,_,_,_,o,_,_,e,ex,_⟩:=I.hok p _ hk;exact ⟨o,e,ex⟩
   obtain ⟨o,e,ex⟩:=z;refine ⟨⟨o,e,ex.1⟩,fun a e2=>?_⟩;cases e2;exact ⟨o,e,ex.2.1⟩
  ·obtain ⟨o,_,_,_,e,ex,_⟩:=I.hok p _ hk;refine ⟨⟨o,e,ex.1⟩,fun a e2=>?_⟩;cases e2;exact ⟨o,e,ex.2.1⟩
 |_=>exact False.elim ty
def tBM (K:PySem.W.Frag) (T:String) (r:V->List V->Hp->VK->Prop) (to:TE) (t:TA):TE:=fun σ H Q=>to σ H fun x H1=>tyV K T x H1/\t σ H1 fun xs H2=>r x xs H2 Q
variable {o e:Expr} {es:List Expr} {to:TE} {t:TA} {name:Str} {apos cpos:Pos} {T id:String} {r:V->List V->Hp->VK->Prop}
theorem zNY (pa:PlainAttrs T) (slot:Slot T name id) (hty:typeOf (.builtin id)=pure (.type "method_descriptor")) (hm:MtR X id r) (ho:PE X o to) (ha:PA X (e::es) t)
  (hbase:attributeBase o name X.env (eval o X.env)=eval o X.env:=by rfl)
  (hfew:((backTo cpos (starEach (e::es) X.env)).all (fun x=> !x.1)&&(backToKw cpos (keywordEach [] X.env)).all (fun x=>x.1.isSome)
   && decide ((e::es).length+([]:List Keyword).length+(if ([]:List Keyword).isEmpty then 0 else 1)<30))=true:=by rfl)
  (hline:(apos.endLine==cpos.line)=true:=by rfl) (hs:starEach (e::es) X.env=(false,eval e X.env)::starEach es X.env:=by rfl) (hplain:(backTo cpos (starEach es X.env)).any (·.1)=false:=by rfl) :
  PE X (.Call (.Attribute o name apos) (e::es) [] cpos) (tBM X.K T r to t):=by
 intro zB s σ H Q I h;refine wpAny_Call_method_late hbase hfew hline rfl (thn (ho zB s σ H _ I h) fun v s1 ⟨x,H1,I1,r1,ty,q1⟩=>?_);obtain ⟨h1,h2⟩:=zUb I1 r1 ty;refine ⟨T,id,pa,slot,hty,h1,h2,?_⟩;have hA:=ha cpos zB s1 σ H1 _ I1 q1;rw[hs]at hA ⊢;refine Calls.callWith_builtin (by show (false||(backTo cpos (starEach es X.env)).any (·.1))=false;rw[hplain] <;> rfl) (Calls.evalArgs_plain ?_);exact thn hA fun us s2 ⟨vs,H2,I2,r2,q2⟩=>hm zB s2 σ H2 x vs v us Q I2 r1 r2 q2
end
def MtM (X:Cx) (id:String) (r:V->List V->Hp->VK->Prop):Prop :=
 ∀ (zB:List (Addr × Obj)) (s:Shared) (σ:St) (H:Hp) (x:V) (xs:List V) (v:Value) (us:List Value) (Q:VK),Inv X zB σ H s->zp x v->ze xs us->r x xs H Q ->
  wpAny (model X.prog X.w) X.A (call (.builtin id) (v::us)) (EP X zB σ Q) X.xe s
theorem ze.one:∀ {x:V} {us:List Value},ze [x] us -> ∃ u,us=[u]/\zp x u
 |_,_,.cons r .nil=>⟨_,rfl,r⟩
theorem ze.eraseIdx:∀ {xs:List V} {us:List Value} (i:Nat),ze xs us->ze (xs.eraseIdx i) (us.eraseIdx i)
 |_,_,_,.nil=> .nil
 |_,_,0,.cons _ t=>t
 |_,_,i+1,.cons r t=> .cons r (ze.eraseIdx i t)
theorem ze.rep {xs:List V} {us:List Value} (h:ze xs us):∀ k:Nat,ze (List.replicate k xs).flatten (List.replicate k us).flatten
 |0=> .nil
 |k+1=>by
  rw[zXn,zXn,zYT,zYT];exact ze.append h (ze.rep h k)
theorem zIX {α:Type}:∀ (l:List α) (i:Nat),(l.eraseIdx i).length<=l.length
 |[],_=>zWa _
 |_::_,0=>Nat.le_succ _
 |_::r,i+1=>Nat.succ_le_succ (zIX r i)
theorem zFr (its:List Value):∀ (k:Nat) (acc:List Value),
  List.foldl (fun x1 x2=>x1++x2) acc.toArray (List.replicate k its.toArray)=(acc++(List.replicate k its).flatten).toArray
 |0,acc=>by simp
 |k+1,acc=>by
  have e:acc.toArray++its.toArray=(acc++its).toArray:=by simp
  have e2:(acc++its)++(List.replicate k its).flatten=acc++(List.replicate (k+1) its).flatten:=by
   rw[zXn,zYT,zXa]
  rw[<-e2,<-zFr its k (acc++its),<-e,zXn,List.foldl_cons]
section
variable {X:Cx} {zB:List (Addr × Obj)} {σ:St} {H:Hp} {s:Shared} {l b:Addr} {xs ys zs:List V}
theorem Inv.lset {its its':List Value} {n:Nat} {f:Array Value->Array Value} {t':Nat} (I:Inv X zB σ H s) (hH:H l=some (.lst xs))
  (e:s.heap.get? l=some { cls:=.type "list", data:=.seq its.toArray n }) (hf:f its.toArray=its'.toArray) (hv:ze ys its') (hz:ys.length<=sizeLine) :
  Inv X zB σ (upd H l (.lst ys)) { s with heap:=s.heap.update l (Obj.mapSeq f),toks:=t' }:=by
 have q:=PySem.IsL.update e f;rw[hf]at q;refine I.write (x:=l) (e:=l) (by rw[hH];exact trivial) (.inl rfl) (fun b' u hb hu=>(zXB s.heap (Obj.mapSeq f) (Ne.symm hb)).trans hu) ⟨_,q⟩ ?_;exact ⟨hz,its',_,hv,q⟩
theorem Inv.lnew {its:List Value} {t':Nat} (I:Inv X zB σ H s) (hv:ze ys its) (hz:ys.length<=sizeLine) :
  Inv X zB σ (upd H s.heap.objs.size (.lst ys)) { s with heap:=s.heap.push { cls:=.type "list", data:=.seq its.toArray },toks:=t' } :=
 I.laid (fun _ _ q=>zWV _ q) (zWa _) ⟨hz,its,0,hv,zWe _ rfl⟩
theorem Inv.fresh (I:Inv X zB σ H s):H s.heap.objs.size=none:=I.hok.fresh (zWa _)
theorem Inv.lstM (I:Inv X zB σ H s) (hH:H l=some (.lst xs)):xs.length<=sizeLine /\ ∃ (its:List Value) (n:Nat),ze xs its/\xs.length=its.length/\s.heap.get? l=some { cls:=.type "list", data:=.seq its.toArray n }:=by
 obtain ⟨z,its,n,r,e⟩:=I.hok l _ hH;exact ⟨z,its,n,r,r.length,e⟩
theorem zLH {n:Nat} (h:n<=sizeLine):Builtin.List.listTooLong n=false:=by
 unfold Builtin.List.listTooLong;exact zW3 (by omega)
end
section
variable {X:Cx}
def zNL:V->List V->Hp->VK->Prop:=fun x vs H Q=>∃ l xs y,x=.ref l/\vs=[y]/\H l=some (.lst xs)/\xs.length<sizeLine/\Q .non (upd H l (.lst (xs++[y])))
theorem zNv:MtM X "list.append" zNL:=by
 intro zB s σ H x vs v us Q I rx rv h;obtain ⟨l,xs,y,rfl,rfl,hH,hz,q⟩:=h;cases rx;obtain ⟨u,rfl,ru⟩:=rv.one;obtain ⟨z,its,n,r,hl,e⟩:=I.lstM hH;refine call_meets F.slot_list_append ⟨_,e,rfl⟩ F.entry_list_append (F.args_list_append_2 _ _) (PySem.list_append l its.toArray n u (by rw[zWc];omega)) ⟨e,?_⟩;refine ⟨.non,_,I.lset (its':=its++[u]) hH e (by simp) (r.append (.cons ru .nil)) ?_,rfl,q⟩;rw[zWk,zZj];omega
def zM4:V->List V->Hp->VK->Prop:=fun x vs H Q=>∃ l b xs zs,x=.ref l/\vs=[.ref b]/\H l=some (.lst xs)/\H b=some (.lst zs)/\xs.length+zs.length<=sizeLine/\Q .non (upd H l (.lst (xs++zs)))
theorem zOF:MtM X "list.extend" zM4:=by
 intro zB s σ H x vs v us Q I rx rv h;obtain ⟨l,b,xs,zs,rfl,rfl,hH,hB,hz,q⟩:=h;cases rx;obtain ⟨u,rfl,ru⟩:=rv.one;cases ru;obtain ⟨z,its,n,r,hl,e⟩:=I.lstM hH;obtain ⟨z2,its2,n2,r2,hl2,e2⟩:=I.lstM hB;have hsz:its.toArray.size+its2.toArray.size<=sizeLine:=by rw[zWc,zWc];omega
 have hlong:¬ (!its.toArray.isEmpty&&Builtin.List.listTooLong (its.toArray.size+its2.toArray.size))=true:=by
  rw[zLH hsz,Bool.and_false];exact zWq
 refine call_meets F.slot_list_extend ⟨_,e,rfl⟩ F.entry_list_extend (F.args_list_extend_2 _ _)
  (AutoSeq1.list_extend_list_list_0 l its.toArray n b its2.toArray n2 hlong (by rw[zWc];omega) (by omega)) ⟨e,e2,?_⟩
 refine ⟨.non,_,I.lset (its':=its++its2) hH e (by simp) (r.append r2) ?_,rfl,q⟩;rw[zWk];omega
def zQZ:V->List V->Hp->VK->Prop:=fun x vs H Q=>∃ l xs i k y,x=.ref l/\vs=[.int i]/\H l=some (.lst xs) /\ -(2 ^ 63)<=i/\i<2 ^ 63/\seqIndex? i xs.length=some k/\xs[k]?=some y/\Q y (upd H l (.lst (xs.eraseIdx k)))
theorem zPn:MtM X "list.pop" zQZ:=by
 intro zB s σ H x vs v us Q I rx rv h;obtain ⟨l,xs,i,k,y,rfl,rfl,hH,h1,h2,hk,hy,q⟩:=h;cases rx;obtain ⟨u,rfl,ru⟩:=rv.one;obtain ⟨t,rfl⟩:=ru;obtain ⟨z,its,n,r,hl,e⟩:=I.lstM hH;obtain ⟨w,hw,rw'⟩:=r.get hy
 refine call_meets F.slot_list_pop ⟨_,e,rfl⟩ F.entry_list_pop (F.args_list_pop_2 _ _)
  (MeetsSeq.list_pop_at l its.toArray n i t k w (fitsIndex_both h1 h2) (by rw[zWc,<-hl];exact hk) (by rw[<-Array.getElem?_toList];exact hw) (by rw[zWc];omega)) ⟨e,?_⟩
 refine ⟨y,_,I.lset (its':=its.eraseIdx k) hH e ?_ (r.eraseIdx k) ?_,rw',q⟩
 ·show its.toArray.eraseIdxIfInBounds k=(its.eraseIdx k).toArray;rw[List.eraseIdxIfInBounds_toArray]
 ·have:=zIX xs k;omega
def zVo:R2:=fun x y H Q=>∃ l b xs zs,x=.ref l/\y=.ref b/\H l=some (.lst xs)/\H b=some (.lst zs)/\xs.length+zs.length<=sizeLine /\ ∀ p,H p=none->Q (.ref p) (upd H p (.lst (xs++zs)))
theorem zTa:OpR X (binaryOp .Add) zVo:=by
 intro zB s σ H x y v u Q I rx ry h;obtain ⟨l,b,xs,zs,rfl,rfl,hH,hB,hz,q⟩:=h;cases rx;cases ry;obtain ⟨z,its,n,r,hl,e⟩:=I.lstM hH;obtain ⟨z2,its2,n2,r2,hl2,e2⟩:=I.lstM hB;refine PySem.P.add_list e e2 ?_ (by rw[zWc,zWc];omega);have ea:its.toArray++its2.toArray=(its++its2).toArray:=by simp
 rw[ea];exact ⟨.ref _,_,I.lnew (t':=s.toks) (r.append r2) (by rw[zWk];omega),rfl,q _ I.fresh⟩
def zVQ:R2:=fun x y H Q=>∃ l k xs,x=.ref l/\y=.int k/\H l=some (.lst xs) /\ -(2 ^ 63)<=k/\k<2 ^ 63/\xs.length*k.toNat<=sizeLine /\
 ∀ p,H p=none->Q (.ref p) (upd H p (.lst (List.replicate k.toNat xs).flatten))
theorem zJq {α:Type} (xs:List α) (k:Nat):(List.replicate k xs).flatten.length=k*xs.length:=by
 induction k with
 |zero=>simp
 |succ k ih=>rw[zXn,zYT,zWk,ih,Nat.succ_mul,Nat.add_comm]
theorem zTE:OpR X (binaryOp .Mult) zVQ:=by
 intro zB s σ H x y v u Q I rx ry h;obtain ⟨l,k,xs,rfl,rfl,hH,h1,h2,hz,q⟩:=h;cases rx;obtain ⟨t,rfl⟩:=ry;obtain ⟨z,its,n,r,hl,e⟩:=I.lstM hH;have hlen:its.toArray.size*k.toNat<=sizeLine:=by rw[zWc,<-hl];exact hz
 have hcap:¬ its.toArray.size*k.toNat>(2 ^ 63-1) / 8:=by
  have:(sizeLine:Nat)<=(2 ^ 63-1) / 8:=by decide
  omega
 have hfit:¬ (!Builtin.List.listFitsIndex k)=true:=by
  rw[fitsIndex_both h1 h2];exact zWq
 have hlong:¬ Builtin.List.listTooLong (its.toArray.size*k.toNat)=true:=by
  rw[zLH hlen];exact zWq
 have hnew:List.foldl (fun x1 x2=>x1++x2) #[] (List.replicate (if its.toArray.isEmpty=true then 0 else k.toNat) its.toArray)=(List.replicate k.toNat its).flatten.toArray:=by
  have f0:∀ m:Nat,List.foldl (fun x1 x2=>x1++x2) #[] (List.replicate m its.toArray)=(List.replicate m its).flatten.toArray:=fun m=>by
   have:=zFr its m [];rw[List.nil_append]at this;exact this
  rw[f0];cases its with
  |nil=>simp
  |cons a r'=>rw[zWm (by simp)]
 refine wpAny_binaryOp_repeat_ref (T := "list") (U := "int") (by decide) ⟨_,e,rfl⟩ (fun s'=>typeIs_int s' k t) noFill_list_mul F.fills_int_mul F.slot_int_rmul repeat_list F.slot_int_index.lookup
  (call_meets F.slot_int_rmul (typeIs_int s k t) F.entry_int_rmul (F.args_int_rmul_2 _ _) (int___rmul___int_list k t l its.toArray n)
   ⟨e,rfl,⟨_,e,rfl⟩,call_meets F.slot_list_mul ⟨_,e,rfl⟩ F.entry_list_mul (F.args_list_mul_2 _ _) (AutoListH.list___mul___list_int_3 l its.toArray n k t hfit hcap hlong) ⟨e,?_⟩⟩)
 rw[hnew];exact ⟨.ref _,_,I.lnew (t':=s.toks) (r.rep k.toNat) (by rw[zJq,Nat.mul_comm];exact hz),rfl,q _ I.fresh⟩
end
end L2
namespace Att
open PySem PySem.W PySem.Calls PyProof.Rows
theorem zGJ {P:Params} {h:Heap}:∀ (ns:List Int) (vs:List Value),WellAll P h vs (ns.map WData.int)->IntsAre vs ns:=by
 intro ns;induction ns with
 |nil=>
  intro vs w;rw[List.map_nil]at w;cases w;exact .nil
 |cons n ns ih=>
  intro vs w;rw[zWn]at w;cases w with
  |cons a b=>
   cases a;exact .cons _ _ (ih _ b)
theorem zN2 {l:OpenLaw} {n:Nat} (hn:l.most=some n) {P:Params} {h:Heap} {args:List WData} {vals:List Value}
  (hpre:l.row.toRowW.claim.pre args=true) (hwl:WellAll P h vals args) :
  ∃ a vs ns,vals=[Value.ref a]/\args=[WData.list (ns.map WData.int)]/\h.get? a=some { cls:=.type "list", data:=.seq vs.toArray }/\IntsAre vs ns/\ns.length<=n:=by
 have hsh:WShape.hasAll [] args [.list .int]=true:=(pre_splitW hpre).1;have hc:l.pre.holds [] { args:=args }=true:=(pre_splitW hpre).2;obtain ⟨d,r,rfl,h1,h2⟩:=hasAllW_cons hsh;obtain rfl:=hasAllW_nil h2;obtain ⟨xs,rfl,h3⟩:=hasW_list h1;obtain ⟨ns,rfl⟩:=items_int h3;have hlen:ns.length<=n:=by
  unfold OpenLaw.pre at hc;have h4:(WTm.not (.lt (.lit (.int (n:Int))) (.len (.arg 0)))).holds [] { args:=[.list (ns.map .int)] }=true:=by
   have h4:=(holds_andW hc).1;rw[hn]at h4;exact h4
  have h5:=condW_of h4 (w_not (w_lt w_lit (w_len_list (w_arg rfl))));rw[zWd]at h5;refine Nat.le_of_not_lt fun q=>?_;have q':(n:Int)<((ns.length:Nat):Int):=by omega
  first
   | (rw[zXc q']at h5;exact absurd h5 (by decide))
   | (simp at h5;omega)
 cases hwl with
 |cons w1 w2=>
  cases w2;cases w1 with
  |list ho hall=>exact ⟨_,_,ns,rfl,rfl,ho,zGJ ns _ hall,hlen⟩
theorem zOg (l:OpenLaw) (args:List WData):l.row.toRowW.claim.post args (.bool true) args=true :=
 postW_of (r:=l.row.toRowW) (X:=(true==true))
  (show WShape.has [] (.bool true) .bool=true by first|rfl|decide|simp[WShape.has,WShape.arms,WShape.armsAll])
  (show (WTm.eq .res (.lit (.bool true))).value [] { args:=args,res:=some (.bool true),after:=args }=some (.bool (true==true))from w_eq_bool (w_res rfl) w_lit) rfl
theorem zKf {l:OpenLaw} {n:Nat} {q:Program} {loose:List Str} {XP:(Str->Option Value)->Heap->Prop} {YP:World->Heap->Prop} {d:DefRec}
  (hn:l.most=some n) (hdf:d.params.defaults=[])
  (call:∀ (w:World) (s₀ s₁:Shared) (mg mb:Str->Option Value) (fa:Addr) (o:Obj) (pm cd doc:Value) (a:Addr) (vs:List Value) (ns:List Int),
   Ground q loose [] XP w s₀ mg mb s₁.heap->YP w s₁.heap ->
   s₁.heap.get? fa=some o->o.data=.func (docDef d.name d.params d.body d.scope pm cd doc)->s₁.heap.CodeRec cd d.name->mg d.name=some (.ref fa) ->
   s₁.heap.get? a=some { cls:=.type "list", data:=.seq vs.toArray }->IntsAre vs ns->ns.length<=n->s₁.gens = #[] ->
   codeAny (model l.prog w) callerA (.call (.ref fa) ⟨[.ref a],[]⟩) (fun r s'=>r=.ok (.ret (.bool true))/\OldK s₁.heap s'.heap/\s'.os=s₁.os/\AllBare s'.gens) s₁) :
  WalkO q loose XP YP l.row.toRowW d [] (fun f vs=>PySem.call f vs):=by
 intro w s₀ s₁ mg mb G Y fa o pm cd doc dV kV ho hd hcd hD hmg hg args vals as hpre hlay hrd hwl hlo;obtain rfl:dV=.none:=Dflts.none hD hdf;obtain rfl:kV=.none:=Dflts.noKw hD;obtain ⟨a,vs,ns,rfl,rfl,hobj,hints,hlen⟩:=zN2 hn hpre hwl;refine enter_call (codeAny_mono (call w s₀ s₁ mg mb fa o pm cd doc a vs ns G Y ho (fd_plain hd) hcd hmg hobj hints hlen hg) fun r s' hq=>?_);obtain ⟨rfl,h2,h3,h4⟩:=hq;exact ⟨.inl ⟨.bool true,.bool true,[],rfl,fun _=>rfl,.bool true,zOg l _,fun _=>⟨List.Pairwise.nil,fun _ hm=>(nomatch hm)⟩⟩,h2,h3,h4⟩
end Att
namespace L2
open PySem PySem.Spec PyProof.Rows
theorem zIy:∀ {vs:List Value} {ns:List Int},IntsAre vs ns->ze (ns.map V.int) vs
 |_,_,.nil=> .nil
 |_,_,.cons n t h=> .cons ⟨t,rfl⟩ (zIy h)
def zR2 (H:Hp):Prop:=∀ b,H b=none \/ ∃ o xs,H b=some (.frz o (.lst xs))
theorem zQD {P:Program} {w:World} {K:PySem.W.Frag} {mg mb:Str->Option Value} {CX:CXT} {k:Nat} {fa a:Addr} {fd:FuncData} {x:Str} {sp:Sp} {s₁:Shared} {vs:List Value} {ns:List Int}
  (KX:K.In s₁.heap) (hns:s₁.heap.Ns mainGlobals mg) (hb:s₁.heap.Ns builtinsNs mb) (hbb:∀ x:Str,x ≠ "__name__" -> mb x=bootBuiltins x) (hlim:s₁.heap.NoLimit) (hg:s₁.gens = #[])
  (ha:s₁.heap.get? a=some { cls:=.type "list", data:=.seq vs.toArray }) (hi:IntsAre vs ns) (hl:ns.length<=sizeLine) (hr:Room k callerA)
  (F:∀ base:Heap,K.In base->base.Ns mainGlobals mg->FnOk P w K mg base CX k fa fd [x] sp) (hbind:∀ (s:Shared) (u:Value),BindsTo s fd ⟨[u],[]⟩ [(x,u)])
  (hsp:∀ H:Hp,zR2 H->SqL K H a (ns.map V.int)->sp [.ref a] H (fun v _=>v=.bl true) fun _ _ _=>False)
  (hCX:∀ H e s',CX [] H s₁ (fun _ _ _=>False) e s'->False) :
  codeAny (model P w) callerA (.call (.ref fa) ⟨[.ref a],[]⟩) (fun r s'=>r=.ok (.ret (.bool true))/\OldK s₁.heap s'.heap/\s'.os=s₁.os/\AllBare s'.gens) s₁:=by
 have rv:=zIy hi;have lenV:=hi.length
 have core:∀ H:Hp,zR2 H->SqL K H a (ns.map V.int)->HOk P w H s₁.heap->(∀ b,H b≠none->b=a)->(H a≠none->K.lookup a=none) ->
   codeAny (model P w) callerA (.call (.ref fa) ⟨[.ref a],[]⟩) (fun r s'=>r=.ok (.ret (.bool true))/\OldK s₁.heap s'.heap/\s'.os=s₁.os/\AllBare s'.gens) s₁:=by
  intro H hO hS hok hA hK;have base_of:∀ {b:Addr} {o:Obj},s₁.heap.get? b=some o->H b=none->(zI5 s₁.heap H).get? b=some o:=fun e n=>zQp e n;have noA:∀ {b:Addr} {o:Obj} {es:Array DictEntry} {ep:Nat},s₁.heap.get? b=some o->o.data=.dict es ep->H b=none:=fun {b o es ep} e d=>by
   cases q:H b with
   |none=>rfl
   |some u=>
    have e':b=a:=hA b (by rw[q];simp);subst e';rw[ha]at e;cases e;have d':Data.seq vs.toArray _=Data.dict es ep:=d;cases d'
  have nsK:∀ {b:Addr} {m:Str->Option Value},s₁.heap.Ns b m->(zI5 s₁.heap H).Ns b m:=fun {b m} ⟨o,es,ep,e,d,r⟩=>⟨o,es,ep,base_of e (noA e d),d,r⟩;have hKb:K.In (zI5 s₁.heap H):=fun b o e=>base_of (KX b o e) (by
   cases q:H b with
   |none=>rfl
   |some u=>
    have e':b=a:=hA b (by rw[q];simp);subst e';rw[hK (by rw[q];simp)]at e;cases e)
  have hM:Mod K mg (zI5 s₁.heap H):=⟨hKb,nsK hns,⟨mb,nsK hb,hbb⟩,let ⟨mc,h1,h2⟩:=hlim;⟨mc,nsK h1,h2⟩⟩;have e0:Env0 P w K mg (zI5 s₁.heap H) callerA [] s₁ H:=⟨rfl,hM,fun b o e=>zRY e,Nat.le_of_eq (zO1 _ _),trivial,fun b hb=>absurd (show b∈([]:List Addr)from hb) (by simp),hok,.of_eq hg⟩;refine codeAny_mono ((F _ hKb (nsK hns)).run callerA [] s₁ H ⟨[.ref a],[]⟩ [.ref a] [.ref a] _ _ hr e0 (hbind s₁ (.ref a)) (.cons rfl .nil) (hsp H hO hS)) fun r s' h=>?_;cases r with
  |error e=>exact (hCX H e s' h).elim
  |ok fl=>
   cases fl with
   |next=>exact False.elim h
   |brk=>exact False.elim h
   |cont=>exact False.elim h
   |ret u=>
    obtain ⟨v,H',os,bare,un,hok',r',q⟩:=h;have q':v=.bl true:=q;subst q';obtain rfl:u=Value.bool true:=r';refine ⟨rfl,OldK.of_keep fun b o e=>?_,os,bare⟩;cases q:H b with
    |none=>exact un.keep b o e q (by intro z;exact absurd (show b∈([]:List Addr)from z) (by simp)) (by simp)
    |some u=>
     rcases hO b with z|⟨ob,xs,z⟩
     ·rw[q]at z;cases z
     ·have z2:=un.frzs b ob _ z;obtain ⟨e1,_⟩:=hok b _ z;obtain ⟨e2,_⟩:=hok' b _ z2;rw[e]at e1;cases e1;exact e2
 cases hk:K.lookup a with
 |some o=>
  have e:=KX a o hk;rw[ha]at e;cases e;refine core (fun _=>none) (fun _=> .inl rfl) (.inr ⟨_,vs.toArray,_,hk,rfl,rfl,rfl,by rw[zWc,lenV];exact hl,by simpa using rv⟩) (fun b u z=>by have z':(none:Option HO)=some u:=z;cases z') (fun b z=>absurd rfl z) fun z=>absurd rfl z
 |none=>
  refine core (fun b=>if b=a then some (.frz { cls:=.type "list", data:=.seq vs.toArray } (.lst (ns.map V.int))) else none) (fun b=>?_) (.inl (.inr ⟨{ cls:=.type "list", data:=.seq vs.toArray },zWj rfl⟩)) (fun b u z=>?_) (fun b z=>?_) fun _=>hk
  ·by_cases hb:b=a
   ·exact .inr ⟨_,_,zWj hb⟩
   ·exact .inl (zWm hb)
  ·by_cases hb:b=a
   ·have z':=(zWj hb).symm.trans z;cases z';subst hb;exact ⟨ha,by rw[zWd];exact hl,vs,_,rv,ha⟩
   ·have z':=(zWm hb).symm.trans z;cases z'
  ·by_cases hb:b=a
   ·exact hb
   ·exact absurd (zWm hb) z
theorem zRU {l:PySem.W.OpenLaw} {n k:Nat} {q:Program} {loose:List Str} {XP:(Str->Option Value)->Heap->Prop} {YP:World->Heap->Prop} {d:DefRec} {K:Params->PySem.W.Frag} {CX:World->CXT} {sp:World->Sp} {x:Str}
  (hn:l.most=some n) (hn2:n<=sizeLine) (hdf:d.params.defaults=[]) (hr:Room k callerA)
  (hY:∀ (w:World) (h:Heap),YP w h->(K w.params).In h)
  (F:∀ (w:World) (mg:Str->Option Value) (fa:Addr) (h:Heap),(K w.params).In h->h.Ns mainGlobals mg->mg d.name=some (.ref fa) ->
   ∃ fd:FuncData,(∀ (s:Shared) (u:Value),BindsTo s fd ⟨[u],[]⟩ [(x,u)]) /\
    ∀ base:Heap,(K w.params).In base->base.Ns mainGlobals mg->FnOk l.prog w (K w.params) mg base (CX w) k fa fd [x] (sp w))
  (hsp:∀ (w:World) (H:Hp) (a:Addr) (ns:List Int),ns.length<=n->zR2 H->SqL (K w.params) H a (ns.map V.int)->sp w [.ref a] H (fun v _=>v=.bl true) fun _ _ _=>False)
  (hCX:∀ (w:World) (H:Hp) (s:Shared) (e:Value) (s':Shared),CX w [] H s (fun _ _ _=>False) e s'->False) :
  PySem.W.WalkO q loose XP YP l.row.toRowW d [] (fun f vs=>PySem.call f vs):=by
 refine Att.zKf hn hdf fun w s₀ s₁ mg mb fa o pm cd doc a vs ns G Y ho hd hcd hmg hobj hints hlen hg=>?_;have KX:=hY w _ Y;obtain ⟨fd,hb,hF⟩:=F w mg fa _ KX G.T.g hmg;exact zQD KX G.T.g G.T.b G.T.builtins G.T.nolimit hg hobj hints (zWv hlen hn2) hr hF hb (fun H hO hS=>hsp w H a ns hlen hO hS) fun H e s'=>hCX w H s₁ e s'
def zEL (s:Stmt):Arguments:=match s with
 |.FunctionDef _ a _ _ _ _ _ _ _ _=>a
 |_=>{ posonlyargs:=[],args:=[],vararg:=none,kwonlyargs:=[],kw_defaults:=[],kwarg:=none,defaults:=[] }
def zCq (s:Stmt):List Stmt:=match s with
 |.FunctionDef _ _ b _ _ _ _ _ _ _=>b
 |_=>[]
def zU (s:Stmt):Scope:=match s with
 |.FunctionDef _ _ _ _ _ _ sc _ _ _=>sc
 |_=>{ kind:=.function,names:=[],isGenerator:=false,isCoroutine:=false }
abbrev CX0:CXT:=fun _ _ _ _ _ _=>False
abbrev E0:XK:=fun _ _ _=>False
theorem zVG {X:Cx}:zL0 CX0 X E0:=fun _ _ _ _ _ _ _ h=>h.elim
structure Fun (K:PySem.W.Frag) (x qual:Str) (st:Stmt) (f:Addr) (fd:FuncData):Prop where
 ex:∃ (oc:Value) (od:Option Addr) (kV doc pm:Value) (an:Option Addr) (cdv ct:Value) (osl:Array (Option Value)),
  fd=PySem.W.fnOf x qual (zEL st) (zCq st) (zU st) .none kV doc pm an cdv ct/\K.lookup f=some ⟨oc,od,.func fd,osl⟩/\PySem.W.codeIn K cdv qual=true
 kp:PySem.W.keepIn K (.ref f)=true
section
variable {P:Program} {w:World} {K:PySem.W.Frag} {mg:Str->Option Value} {base:Heap}
theorem Fun.ok {x qual:Str} {st:Stmt} {f:Addr} {fd:FuncData} {N ps:List Str} {k:Nat} {sp:Sp} (F:Fun K x qual st f fd) (S:FnScope N ps (zU st)) (len:∀ vs H Q E,sp vs H Q E->vs.length=ps.length)
  (hbody:∀ (cdv:Value) (A:Around) (outer:List Env) (s:Shared) (H:Hp) (vs:List V) (Q:VK) (E:XK),Room k (A.deeper (envOfC qual (zU st) s.heap.objs.size f cdv))->sp vs H Q E ->
   ∃ t,PSs (zMq CX0 P w K mg base N qual (zU st) f cdv A outer s H E).nox (zCq st) t/\t { nx:=fun _ H'=>Q .non H',rt:=Q } (zEh N vs) H):FnOk P w K mg base CX0 (k+1) f fd ps sp:=by
 obtain ⟨oc,od,kV,doc,pm,an,cdv,ct,osl,rfl,lk,hcd⟩:=F.ex;refine zUi lk hcd S len fun A outer s H vs Q E hr hsp=>?_;obtain ⟨t,h,q⟩:=hbody cdv A outer s H vs Q E hr hsp;exact ⟨t,h.nox,q⟩
theorem Fun.binds {x qual:Str} {st:Stmt} {f:Addr} {fd:FuncData} {ps:List Str} (F:Fun K x qual st f fd)
  (h:∀ (kV doc pm:Value) (an:Option Addr) (cdv ct:Value) (us:List Value),us.length=ps.length->bindArgs (PySem.W.fnOf x qual (zEL st) (zCq st) (zU st) .none kV doc pm an cdv ct) ⟨us,[]⟩=pure (ps.zip us)):zHC K fd ps []:=by
 obtain ⟨oc,od,kV,doc,pm,an,cdv,ct,osl,rfl,lk,hcd⟩:=F.ex;exact .all (h kV doc pm an cdv ct)
theorem zQs {x qual:Str} {st:Stmt} {f:Addr} {oc:Value} {od an:Option Addr} {osl:Array (Option Value)} {kV doc pm cdv ct:Value} (l:K.lookup f=some ⟨oc,od,.func (PySem.W.fnOf x qual (zEL st) (zCq st) (zU st) .none kV doc pm an cdv ct),osl⟩)
  (c:PySem.W.codeIn K cdv qual=true) (k:PySem.W.keepIn K (.ref f)=true):Fun K x qual st f (PySem.W.fnOf x qual (zEL st) (zCq st) (zU st) .none kV doc pm an cdv ct):=⟨⟨oc,od,kV,doc,pm,an,cdv,ct,osl,rfl,l,c⟩,k⟩
end
theorem zF8 {A:Around} {k:Nat} (hr:Room k A):A.units+1<cLine:=Nat.lt_of_le_of_lt (Nat.add_le_add_left (by decide:1<=64) _) hr.units
section
variable {X:Cx}
theorem pv (i:Nat) {x:Str} {pos:Pos} (hN:X.N[i]?=some x:=by rfl) (hv:Vis X.env.scope x:=by first|exact Or.inl rfl|exact Or.inr (Or.inl rfl)|exact Or.inr (Or.inr rfl)) (hd:(x==("__debug__" : Str))=false:=by decide)
  (hcd:(x==("__classdict__" : Str))=false:=by decide):PE X (.Name x pos) (zTB i):=zUG hN hv hd hcd
end
theorem zHB {A B:Prop} (h:B):if false=true then A else B:=by
 rw[zWm zWq];exact h
theorem zHt {A B:Prop} (h:A):if true=true then A else B:=by
 rw[zWj rfl];exact h
section
variable {κ:Type} [DecidableEq κ]
def zCK (kvs:List (κ × V)) (k:κ):Option V:=(kvs.find? fun kv=>decide (kv.1=k)).map (·.2)
def zBs (kvs:List (κ × V)) (k:κ) (v:V):List (κ × V) :=
 if (kvs.any fun kv=>decide (kv.1=k))=true then kvs.map (fun kv=>if kv.1=k then (kv.1,v) else kv) else kvs++[(k,v)]
theorem zFC {p:κ × V} {r:List (κ × V)} {k:κ} (e:p.1=k):zCK (p::r) k=some p.2:=by simp[zCK,zYG,e]
theorem zFM {p:κ × V} {r:List (κ × V)} {k:κ} (e:¬ p.1=k):zCK (p::r) k=zCK r k:=by simp[zCK,zYG,e]
theorem zLB (k:κ):∀ kvs:List (κ × V),(kvs.any fun kv=>decide (kv.1=k))=(zCK kvs k).isSome
 |[]=>rfl
 |p::r=>by
  rw[List.any_cons];by_cases e:p.1=k
  ·simp only[zFC e,zXc e,Bool.true_or,Option.isSome_some]
  ·rw[zFM e,zW3 e,Bool.false_or];exact zLB k r
theorem zBX (kvs:List (κ × V)) (k:κ) (v:V):(zBs kvs k v).length<=kvs.length+1:=by
 unfold zBs;split
 ·rw[zWd];omega
 ·rw[zWk,zW1,List.length_nil];omega
theorem zFe.isSome_eq (r:zFe o u):o.isSome=u.isSome:=by
 cases o with
 |none=>cases u with
  |none=>rfl
  |some _=>exact (show False from r).elim
 |some _=>cases u with
  |none=>exact (show False from r).elim
  |some _=>rfl
theorem zFe.getD (r:zFe o u) (rd:zp d d'):zp (o.getD d) (u.getD d'):=by
 cases o with
 |none=>cases u with
  |none=>exact rd
  |some _=>exact (show False from r).elim
 |some _=>cases u with
  |none=>exact (show False from r).elim
  |some _=>exact r
theorem KV.val {kvs:List (κ × V)} {vs:List (κ × Value)} (r:KV kvs vs) (k:κ):zFe (zCK kvs k) (valueAt vs k):=by
 unfold KV at r;induction r with
 |nil=>exact True.intro
 | @cons p q ps qs h t ih=>
  obtain ⟨h1,h2⟩:=h;by_cases e:p.1=k
  ·have e':q.1=k:=h1.symm.trans e;have b:valueAt (q::qs) k=some q.2:=by simp[valueAt,zYG,e']
   rw[zFC e,b];exact h2
  ·have e':¬ q.1=k:=fun z=>e (h1.trans z);have b:valueAt (q::qs) k=valueAt qs k:=by simp[valueAt,zYG,e']
   rw[zFM e,b];exact ih
theorem KV.any (r:KV kvs vs) (k:κ):(kvs.any fun kv=>decide (kv.1=k))=vs.any fun kv=>decide (kv.1=k):=by
 unfold KV at r;induction r with
 |nil=>rfl
 |cons h t ih=>rw[List.any_cons,List.any_cons,ih,h.1]
theorem KV.repl (r:KV kvs vs) (k:κ) (ry:zp y u) :
  KV (kvs.map fun kv=>if kv.1=k then (kv.1,y) else kv) (vs.map fun kv=>if kv.1=k then (kv.1,u) else kv):=by
 unfold KV at r ⊢;induction r with
 |nil=>exact .nil
 | @cons p q ps qs h t ih=>
  rw[zWn,zWn];refine .cons ?_ ih;obtain ⟨h1,h2⟩:=h;by_cases e:p.1=k
  ·rw[zWj e,zWj (h1.symm.trans e)];exact ⟨h1,ry⟩
  ·rw[zWm e,zWm (fun z=>e (h1.trans z))];exact ⟨h1,h2⟩
theorem KV.put (r:KV kvs vs) (k:κ) (ry:zp y u):KV (zBs kvs k y) (stored vs k u):=by
 unfold zBs stored;rw[r.any k];by_cases e:(vs.any fun kv=>decide (kv.1=k))=true
 ·rw[zWj e,zWj e];exact r.repl k ry
 ·rw[zWm e,zWm e];exact Paired.snoc r ⟨rfl,ry⟩
theorem KV.length (r:KV kvs vs):kvs.length=vs.length:=Paired.length r
end
theorem zGA (r:zp (kV k) u):(zAK P w).is k u=true:=by
 cases k with
 |inl i=>obtain ⟨t,e⟩:=(show ∃ t,u=Value.int i t from r);subst e;exact zKm P w i t
 |inr x=>obtain ⟨t,e⟩:=(show ∃ t,u=Value.str x t from r);subst e;exact zK1 P w x t
theorem zIT:∀ {ks:List Key} {us:List Value},ze (ks.map kV) us->ItemsAre (zAK P w) ks us
 |[],_,r=>by rw[List.map_nil]at r;cases r;exact .nil
 |k::ks,_,r=>by
  rw[zWn]at r;cases r with
  |cons h t=>exact .cons (zGA h) (zIT t)
abbrev KT (H:Hp):List (List Key × V)->List (List Key × Addr × Value)->Prop:=Paired fun p q=>p.1=q.1/\H q.2.1=some (.tup (p.1.map kV))/\zp p.2 q.2.2
theorem KT.val {H:Hp} {kvs:List (List Key × V)} {xs:List (List Key × Addr × Value)} (r:KT H kvs xs) (k:List Key):zFe (zCK kvs k) ((atKey xs k).map (·.2)):=by
 induction r with
 |nil=>exact True.intro
 | @cons p q ps qs h t ih=>
  obtain ⟨h1,_,h2⟩:=h;by_cases e:p.1=k
  ·have e':q.1=k:=h1.symm.trans e;have b:atKey (q::qs) k=some q.2:=by simp[atKey,zYG,e']
   rw[zFC e,b];exact h2
  ·have e':¬ q.1=k:=fun z=>e (h1.trans z);have b:atKey (q::qs) k=atKey qs k:=by simp[atKey,zYG,e']
   rw[zFM e,b];exact ih
theorem KT.repl (r:KT H kvs xs) (k:List Key) (ry:zp y u) :
  KT H (kvs.map fun kv=>if kv.1=k then (kv.1,y) else kv) (xs.map (putAt k u)):=by
 induction r with
 |nil=>exact .nil
 | @cons p q ps qs h t ih=>
  rw[zWn,zWn];refine .cons ?_ ih;obtain ⟨h1,h2,h3⟩:=h;unfold putAt;by_cases e:p.1=k
  ·rw[zWj e,zWj (h1.symm.trans e)];exact ⟨h1,h2,ry⟩
  ·rw[zWm e,zWm (fun z=>e (h1.trans z))];exact ⟨h1,h2,h3⟩
theorem KT.put (r:KT H kvs xs) (k:List Key) (hb:H b=some (.tup (k.map kV))) (ry:zp y u) :
  KT H (zBs kvs k y) (storedH xs k b u):=by
 have e:(kvs.any fun kv=>decide (kv.1=k))=(atKey xs k).isSome:=by
  rw[zLB,(r.val k).isSome_eq,Option.isSome_map]
 unfold zBs storedH;rw[e];by_cases q:(atKey xs k).isSome=true
 ·rw[zWj q,zWj q];exact r.repl k ry
 ·rw[zWm q,zWm q];exact Paired.snoc r ⟨rfl,hb,ry⟩
theorem KT.keeps (r:KT H kvs xs) (ht:∀ b ys,H b=some (.tup ys)->H' b=some (.tup ys)):KT H' kvs xs :=
 Paired.mapP r fun _ _ z=>⟨z.1,ht _ _ z.2.1,z.2.2⟩
section
variable {P:Program} {w:World} {H:Hp} {h:Heap} {a:Addr}
theorem zSn (ok:HOk P w H h) (e:Rd H a u):zAR P w H h a u:=e.ok ok
theorem zHb (ok:HOk P w H h) (e:Rd H a (.dK kvs)):kvs.length<=sizeLine/\(a==sysModules)=false /\ ∃ vs,KV kvs vs/\h.DictOf (zAK P w) a vs :=
 show zAR P w H h a (.dK kvs)from zSn ok e
theorem zQF (ok:HOk P w H h) (e:H a=some (.dK kvs)):kvs.length<=sizeLine/\(a==sysModules)=false /\ ∃ vs,KV kvs vs/\h.DictOf (zAK P w) a vs:=zHb ok (.inl e)
theorem zEG (ok:HOk P w H h) (e:H a=some (.tup (ks.map kV))):(tupleKind (zAK P w)).is h ks a:=by
 obtain ⟨_,its,r,o,h1,h2,⟨n,h3⟩,_⟩:=(show zAR P w H h a (.tup (ks.map kV))from ok a _ e);exact ⟨o,its.toArray,n,h1,h2,h3,by simpa using zIT r⟩
theorem zGt (ok:HOk P w H h) (e:Rd H a (.dT kvs)):kvs.length<=sizeLine/\(a==sysModules)=false /\
  ∃ xs,KT H kvs xs/\h.DictOfH (tupleKind (zAK P w)) a xs:=by
 obtain ⟨z,y,xs,r,o,es,ep,h1,h2,h3,h4,h5⟩:=(show zAR P w H h a (.dT kvs)from zSn ok e);refine ⟨z,y,xs,r,o,es,ep,h1,h2,h3,h4,fun x hx=>?_,h5⟩;have all:∀ {l:List (List Key × V)} {m:List (List Key × Addr × Value)},KT H l m -> ∀ x∈m,(tupleKind (zAK P w)).is h x.1 x.2.1:=by
  intro l m q;induction q with
  |nil=>intro x hx;exact nomatch hx
  | @cons p q ps qs hq t ih=>
   intro x hx;rcases zWg.mp hx with e|hx
   ·subst e;exact zEG ok (by rw[<-hq.1];exact hq.2.1)
   ·exact ih x hx
 exact all r x hx
theorem zRD (ok:HOk P w H h) (e:H a=some (.dT kvs)):kvs.length<=sizeLine/\(a==sysModules)=false /\
  ∃ xs,KT H kvs xs/\h.DictOfH (tupleKind (zAK P w)) a xs:=zGt ok (.inl e)
end
def zDM (H:Hp) (a:Addr) (y:V) (r:Option V):Prop :=
 (∃ kvs k,Rd H a (.dK kvs)/\y=kV k/\r=zCK kvs k) \/ ∃ kvs k b,Rd H a (.dT kvs)/\y=.ref b/\H b=some (.tup (k.map kV))/\r=zCK kvs k
def zEx (H:Hp) (a:Addr) (y v:V) (H':Hp):Prop :=
 (∃ kvs k,H a=some (.dK kvs)/\y=kV k/\kvs.length<sizeLine/\H'=upd H a (.dK (zBs kvs k v))) \/
 ∃ kvs k b,H a=some (.dT kvs)/\y=.ref b/\H b=some (.tup (k.map kV))/\kvs.length<sizeLine/\H'=upd H a (.dT (zBs kvs k v))
theorem zDM.k {H:Hp} {a:Addr} {kvs:List (Key × V)} {k:Key} (e:H a=some (.dK kvs)):zDM H a (kV k) (zCK kvs k):=.inl ⟨kvs,k,.inl e,rfl,rfl⟩
theorem zDM.t {k:List Key} (e:H a=some (.dT kvs)) (eb:H b=some (.tup (k.map kV))):zDM H a (.ref b) (zCK kvs k):=.inr ⟨kvs,k,b,.inl e,rfl,eb,rfl⟩
theorem zEx.k {H:Hp} {a:Addr} {kvs:List (Key × V)} {k:Key} {v:V} (e:H a=some (.dK kvs)) (hl:kvs.length<sizeLine):zEx H a (kV k) v (upd H a (.dK (zBs kvs k v))):=.inl ⟨kvs,k,e,rfl,hl,rfl⟩
theorem zEx.t {kvs:List (List Key × V)} {k:List Key} (e:H a=some (.dT kvs)) (eb:H b=some (.tup (k.map kV))) (hl:kvs.length<sizeLine) :
  zEx H a (.ref b) v (upd H a (.dT (zBs kvs k v))):=.inr ⟨kvs,k,b,e,rfl,eb,hl,rfl⟩
section
variable {X:Cx} {zB:List (Addr × Obj)} {σ:St} {H:Hp} {s:Shared} {a:Addr} {y v:V} {u r:Value} {o:Option V} {A:Around} {E:Value->Shared->Prop}
theorem Inv.big (I:Inv X zB σ H s):sysModules<s.heap.objs.size:=by
 have h:mainGlobals<s.heap.objs.size:=(I.mod.glob.keeps I.bk).lt;exact Nat.lt_trans (by decide) h
theorem zOV (hu:A.units+1<cLine) (I:Inv X zB σ H s) (g:zDM H a y (some v)) (ry:zp y u) (h:∀ w' s',Inv X zB σ H s'->zp v w'->Q w' s') :
  wpAny (model X.prog X.w) A (getItem (.ref a) u) Q E s:=by
 rcases g with ⟨kvs,k,e,ey,l⟩|⟨kvs,k,b,e,ey,eb,l⟩
 ·subst ey;obtain ⟨z,hd,vs,rel,dd⟩:=zHb I.hok e;obtain ⟨w',hw,rw'⟩:=zFe.some_of (v:=v) (o:=valueAt vs k) (by rw[l];exact rel.val k);exact wpAny_getItem_of (zGA ry) dd.mapOf hw (h w' _ (I.tok _) rw')
 ·subst ey;cases (show u=Value.ref b from ry);obtain ⟨z,hd,xs,rel,dd⟩:=zGt I.hok e;obtain ⟨w',hw,rw'⟩:=zFe.some_of (v:=v) (o:=(atKey xs k).map (·.2)) (by rw[l];exact rel.val k);obtain ⟨p,hp,hp2⟩:=Option.map_eq_some_iff.mp hw;refine wpAny_getItem_heap (tupleKind_room_in1 hu) (zEG I.hok eb) dd hp ?_;rw[hp2];exact h w' _ (I.tok _) rw'
theorem zWL (hu:A.units+1<cLine) (I:Inv X zB σ H s) (g:zDM H a y o) (ry:zp y u) (h:∀ s',Inv X zB σ H s'->Q (.bool o.isSome) s') :
  wpAny (model X.prog X.w) A (compareOp .In u (.ref a)) Q E s:=by
 rcases g with ⟨kvs,k,e,ey,l⟩|⟨kvs,k,b,e,ey,eb,l⟩
 ·subst ey;obtain ⟨z,hd,vs,rel,dd⟩:=zHb I.hok e;refine wpAny_in_of (zGA ry) hd dd.mapOf ?_;rw[<-(rel.val k).isSome_eq,<-l];exact h _ (I.tok _)
 ·subst ey;cases (show u=Value.ref b from ry);obtain ⟨z,hd,xs,rel,dd⟩:=zGt I.hok e;refine wpAny_in_heap (tupleKind_room_in1 hu) (zEG I.hok eb) hd dd ?_;have q:=(rel.val k).isSome_eq;rw[Option.isSome_map]at q;rw[<-q,<-l];exact h _ (I.tok _)
theorem zSE (hu:A.units+1<cLine) (I:Inv X zB σ H s) (g:zDM H a y o) (ry:zp y u) (h:∀ s',Inv X zB σ H s'->Q (.bool (!o.isSome)) s') :
  wpAny (model X.prog X.w) A (compareOp .NotIn u (.ref a)) Q E s:=by
 rcases g with ⟨kvs,k,e,ey,l⟩|⟨kvs,k,b,e,ey,eb,l⟩
 ·subst ey;obtain ⟨z,hd,vs,rel,dd⟩:=zHb I.hok e;refine wpAny_notIn_of (zGA ry) hd dd.mapOf ?_;rw[<-(rel.val k).isSome_eq,<-l];exact h _ (I.tok _)
 ·subst ey;cases (show u=Value.ref b from ry);obtain ⟨z,hd,xs,rel,dd⟩:=zGt I.hok e;refine wpAny_notIn_heap (tupleKind_room_in1 hu) (zEG I.hok eb) hd dd ?_;have q:=(rel.val k).isSome_eq;rw[Option.isSome_map]at q;rw[<-q,<-l];exact h _ (I.tok _)
theorem zES (I:Inv X zB σ H s) (mu:Mut (H a)) (hs:Heap.SameBut a s.heap h') (he:∃ q,h'.get? a=some q) (new:zAR X.prog X.w (upd H a ob) h' a ob) :
  Inv X zB σ (upd H a ob) { s with heap:=h',toks:=t' } :=
 I.write (x:=a) (e:=a) mu (.inl rfl) (fun b q hb z=>(hs.2 b hb).trans z) he new
theorem zMY (z:kvs.length<=sizeLine) (hd:(a==sysModules)=false) (rel:KV kvs vs) (dd:h'.DictOf (zAK P w) a vs) :
  zAR P w H' h' a (.dK kvs):=⟨z,hd,vs,rel,dd⟩
theorem zOS (hu:A.units+1<cLine) (I:Inv X zB σ H s) (g:zEx H a y v H') (ry:zp y u) (rv:zp v r) (h:∀ s',Inv X zB σ H' s'->Q () s') :
  wpAny (model X.prog X.w) A (setItem (.ref a) u r) Q E s:=by
 rcases g with ⟨kvs,k,e,ey,l,eH⟩|⟨kvs,k,b,e,ey,eb,l,eH⟩
 ·subst ey eH;obtain ⟨z,hd,vs,rel,dd⟩:=zQF I.hok e;have hz:vs.length<=sizeLine:=by rw[<-rel.length];exact z
  have hl:(zBs kvs k v).length<=sizeLine:=by have:=zBX kvs k v;omega
  refine wpAny_setItem_pairs (hsz:=hz) (zGA ry) dd fun h' dd' hs=>h _ ?_;have he:∃ q,h'.get? a=some q:=let ⟨q,_,_,hq,_⟩:=dd';⟨q,hq⟩;exact zES I (by rw[e];exact True.intro) hs he (zMY hl hd (rel.put k rv) dd')
 ·subst ey eH;cases (show u=Value.ref b from ry);obtain ⟨z,hd,xs,rel,dd⟩:=zRD I.hok e;have hz:xs.length<=sizeLine:=by rw[<-Paired.length rel];exact z
  have hl:(zBs kvs k v).length<=sizeLine:=by have:=zBX kvs k v;omega
  refine wpAny_setItem_heap (hsz:=hz) (tupleKind_room_in1 hu) (zEG I.hok eb) dd fun h' dd' hs=>h _ ?_;obtain ⟨q,es,ep,hq,h2,h3,h4,_,h5⟩:=dd';refine zES I (by rw[e];exact True.intro) hs ⟨q,hq⟩ ⟨hl,hd,_,(rel.put k eb rv).keeps fun c ys ec=>?_,q,es,ep,hq,h2,h3,h4,h5⟩;rw[zZ (zHU ec e (fun z=>nomatch z))];exact ec
end
def zUO (i:Expr):Prop:=∀ ov iv,subscripted i false ov iv=operate [ov,iv] (getItem ov iv)
theorem zRk {prog:Program} {w:World} {A:Around} {E:Value->Shared->Prop} {s:Shared} {env:Env} {value slice:Expr} {pos:Pos} {T id:String} {Q:Value->Shared->Prop}
  (hl:typeLookup (.type T) "__getitem__" = pure (some (.builtin id))) (hs:zUO slice)
  (h:wpAny (model prog w) A (eval value env) (fun o s₁=>wpAny (model prog w) A (eval slice env) (fun i s₂=>s₂.TypeIs o T/\wpAny (model prog w) A (getItem o i) Q E s₂) E s₁) E s) :
  wpAny (model prog w) A (eval (.Subscript value slice pos) env) Q E s:=by
 refine Subscript_ (zW0 h (fun o s₁ h₁=>zW0 h₁ (fun i s₂ h₂=>?_) fun _ _ x=>x) fun _ _ x=>x);obtain ⟨hT,h₂⟩:=h₂;unfold subscriptTail;refine zWU ?_;rw[getitemInPython_of_ne hT.not_modules];refine zWU (wpAny_specialOf hT hl ?_);have fin:wpAny (model prog w) A (subscripted slice false o i) (fun r s₃=>wpAny (model prog w) A (letTemporaryGo value o r >>= fun _=>pure r) Q E s₃) E s₂:=by
  rw[hs o i];exact wpAny_operating (zW0 h₂ (fun r s₃ h₃=>zWU (wpAny_letTemporaryGo (zWW h₃))) fun _ _ x=>x)
 first
  |exact zWW (zWU fin)
  |exact zWU (zWW (zWU fin))
  |exact zWU fin
theorem zLF (I:Inv X zB σ H s) (g:zDM H a y o):s.TypeIs (.ref a) "dict" := by
 rcases g with ⟨kvs,k,e,_,_⟩|⟨kvs,k,b,e,_,_,_⟩
 ·obtain ⟨_,_,vs,_,dd⟩:=zHb I.hok e;exact dd.typeIs
 ·obtain ⟨_,_,xs,_,dd⟩:=zGt I.hok e;exact dd.typeIs
def zVC (td ty:TE):TE:=fun σ H Q=>td σ H fun x H1=>ty σ H1 fun y H2=>∃ a v,x=.ref a/\zDM H2 a y (some v)/\Q v H2
def zV2 (ty td:TE):TE:=fun σ H Q=>ty σ H fun y H1=>td σ H1 fun x H2=>∃ a o,x=.ref a/\zDM H2 a y o/\Q (.bl o.isSome) H2
def zRp (ty td:TE):TE:=fun σ H Q=>ty σ H fun y H1=>td σ H1 fun x H2=>∃ a o,x=.ref a/\zDM H2 a y o/\Q (.bl (!o.isSome)) H2
def zVS (td ty tv:TE):TS:=fun D σ H=>tv σ H fun v H1=>td σ H1 fun x H2=>ty σ H2 fun y H3=>∃ a H4,x=.ref a/\zEx H3 a y v H4/\D.nx σ H4
section
variable {X:Cx} {o i e value:Expr} {pos pos' tpos:Pos} {td ty tv:TE}
theorem zRs (hu:X.A.units+1<cLine) (ho:PE X o td) (hi:PE X i ty) (hs:zUO i):PE X (.Subscript o i pos) (zVC td ty):=by
 intro zB s σ H Q I h;refine zRk PySem.F.slot_dict_getitem.lookup hs (thn (ho zB s σ H _ I h) fun u s1 ⟨x,H1,I1,rx,q1⟩=>thn (hi zB s1 σ H1 _ I1 q1) fun iv s2 ⟨y,H2,I2,ry,a,v,ex,g,q2⟩=>?_);subst ex;obtain rfl:u=Value.ref a:=rx;exact ⟨zLF I2 g,zOV hu I2 g ry fun w' s3 I3 rw'=>⟨v,H2,I3,rw',q2⟩⟩
theorem zS6 (hu:X.A.units+1<cLine) (hi:PE X i ty) (ho:PE X o td):PC X .In i o (zV2 ty td):=by
 intro zB s σ H Q I h;refine thn (hi zB s σ H _ I h) fun iv s1 ⟨y,H1,I1,ry,q1⟩=>thn (ho zB s1 σ H1 _ I1 q1) fun u s2 ⟨x,H2,I2,rx,a,ov,ex,g,q2⟩=>?_;subst ex;obtain rfl:u=Value.ref a:=rx;exact zWL hu I2 g ry fun s3 I3=>⟨.bl ov.isSome,H2,I3,rfl,q2⟩
theorem zNm (hu:X.A.units+1<cLine) (hi:PE X i ty) (ho:PE X o td):PC X .NotIn i o (zRp ty td):=by
 intro zB s σ H Q I h;refine thn (hi zB s σ H _ I h) fun iv s1 ⟨y,H1,I1,ry,q1⟩=>thn (ho zB s1 σ H1 _ I1 q1) fun u s2 ⟨x,H2,I2,rx,a,ov,ex,g,q2⟩=>?_;subst ex;obtain rfl:u=Value.ref a:=rx;exact zSE hu I2 g ry fun s3 I3=>⟨.bl (!ov.isSome),H2,I3,rfl,q2⟩
theorem zR8 (hu:X.A.units+1<cLine) (ho:PE X o td) (hi:PE X i ty) (hv:PE X value tv) (hs:swapsWith value (some (.Subscript o i pos')) pos.line X.env=pure false) :
  PS X (.Assign [.Subscript o i pos'] value pos) (zVS td ty tv):=by
 intro zB s σ H D I h;refine wpAny_Assign_Subscript (thn (hv zB s σ H _ I h) fun r s1 ⟨v,H1,I1,rv,q1⟩=>thn (ho zB s1 σ H1 _ I1 q1) fun u s2 ⟨x,H2,I2,rx,q2⟩=>thn (hi zB s2 σ H2 _ I2 q2) fun iv s3 ⟨y,H3,I3,ry,a,H4,ex,g,q3⟩=>?_) hs;subst ex;obtain rfl:u=Value.ref a:=rx;exact zOS hu I3 g ry rv fun s4 I4=>⟨σ,H4,I4,q3⟩
end
theorem zKn (h:Heap) (hb:sysModules<h.objs.size):zAR P w H (h.push { cls:=.type "dict", data:=.dict #[] }) h.objs.size (.dK []) :=
 ⟨zXG _,beq_eq_false_iff_ne.mpr (Ne.symm (zWp hb)),[],.nil,Heap.DictOf.new h⟩
theorem zQj (h:Heap) (hb:sysModules<h.objs.size):zAR P w H (h.push { cls:=.type "dict", data:=.dict #[] }) h.objs.size (.dT []) :=
 ⟨zXG _,beq_eq_false_iff_ne.mpr (Ne.symm (zWp hb)),[],.nil,_,#[],0,zWe _ rfl,⟨rfl,rfl,rfl⟩,rfl,rfl,List.nodup_nil⟩
def zUT:TE:=fun _ H Q=>∀ p,H p=none->Q (.ref p) (upd H p (.dK []))
def zUJ:TE:=fun _ H Q=>∀ p,H p=none->Q (.ref p) (upd H p (.dT []))
section
variable {X:Cx} {pos:Pos}
theorem zP9:PE X (.Dict [] [] pos) zUT:=fun zB s σ H Q I h=>
 wpAny_Dict_empty ⟨.ref s.heap.objs.size,_,I.laid (a:=s.heap.objs.size) (o:=.dK []) (t':=s.toks) (fun _ _ q=>zWV _ q) (zWa _) (zKn s.heap I.big),rfl,h _ (I.hok.fresh (zWa _))⟩
theorem zQO:PE X (.Dict [] [] pos) zUJ:=fun zB s σ H Q I h=>
 wpAny_Dict_empty ⟨.ref s.heap.objs.size,_,I.laid (a:=s.heap.objs.size) (o:=.dT []) (t':=s.toks) (fun _ _ q=>zWV _ q) (zWa _) (zQj s.heap I.big),rfl,h _ (I.hok.fresh (zWa _))⟩
end
def zLy:List (TE × TE)->St->Hp->(List (V × V)->Hp->Prop)->Prop
 |[],_,H,Q=>Q [] H
 | (tk,tv)::r,σ,H,Q=>tk σ H fun x H1=>tv σ H1 fun y H2=>zLy r σ H2 fun ps H3=>Q ((x,y)::ps) H3
abbrev VV:List (V × V)->List (Value × Value)->Prop:=Paired fun p q=>zp p.1 q.1/\zp p.2 q.2
def PPs (X:Cx) (pos:Pos) (keys:List (Option Expr)) (values:List Expr) (trs:List (TE × TE)):Prop :=
 ∀ (zB:List (Addr × Obj)) (s:Shared) (σ:St) (H:Hp) (Q:List (V × V)->Hp->Prop),Inv X zB σ H s->zLy trs σ H Q ->
  wpAny (model X.prog X.w) X.A (evalPairs (pairTrees keys values X.env pos)) (fun vs s'=>∃ ps H',Inv X zB σ H' s'/\VV ps vs/\Q ps H') X.xe s
theorem zRn:PPs X pos [] [] []:=fun zB s σ H Q I h=>pairTrees_nil_walk ⟨[],H,I,.nil,h⟩
theorem zLE (hk:PE X k tk) (hv:PE X v tv) (hr:PPs X pos ks vs trs) :
  PPs X pos (some k::ks) (v::vs) ((tk,tv)::trs):=fun zB s σ H Q I h=>
 pairTrees_cons_walk (thn (hk zB s σ H _ I h) fun u s1 ⟨x,H1,I1,rx,q1⟩=>thn (hv zB s1 σ H1 _ I1 q1) fun w2 s2 ⟨y,H2,I2,ry,q2⟩=>
  thn (hr zB s2 σ H2 _ I2 q2) fun ws s3 ⟨ps,H3,I3,rel,q3⟩=>⟨(x,y)::ps,H3,I3,.cons ⟨rx,ry⟩ rel,q3⟩)
def zE3 (kvs more:List (Key × V)):List (Key × V):=more.foldl (fun acc kv=>zBs acc kv.1 kv.2) kvs
theorem KV.merge:∀ {more:List (Key × V)} {rs:List (Key × Value)} {kvs:List (Key × V)} {vs:List (Key × Value)},KV more rs->KV kvs vs->KV (zE3 kvs more) (merged vs rs):=by
 intro more rs kvs vs r;unfold KV at r;induction r generalizing kvs vs with
 |nil=>intro q;exact q
 | @cons p q ps qs h t ih=>
  intro r0;have e:KV (zBs kvs p.1 p.2) (stored vs q.1 q.2):=by
   have:=r0.put p.1 h.2;rw[<-h.1];exact this
  exact ih e
theorem zEe:∀ (more kvs:List (Key × V)),(zE3 kvs more).length<=kvs.length+more.length
 |[],kvs=>by show kvs.length<=kvs.length+0;omega
 |p::r,kvs=>by
  have h1:=zEe r (zBs kvs p.1 p.2);have h2:=zBX kvs p.1 p.2;show (zE3 (zBs kvs p.1 p.2) r).length<=_;rw[zW1];omega
theorem zGy:∀ {kvs:List (Key × V)} {ws:List (Value × Value)},VV (kvs.map fun kv=>(kV kv.1,kv.2)) ws -> ∃ rs,Carries (zAK P w) ws rs/\KV kvs rs
 |[],_,r=>by rw[List.map_nil]at r;cases r;exact ⟨[],True.intro,.nil⟩
 |p::kvs,_,r=>by
  rw[zWn]at r;cases r with
  | @cons a b as bs h t=>
   obtain ⟨rs,c,q⟩:=zGy (P:=P) (w:=w) t;obtain ⟨b1,b2⟩:=b;exact ⟨(p.1,b2)::rs,⟨zGA h.1,rfl,c⟩,.cons ⟨rfl,h.2⟩ q⟩
def zVp (trs:List (TE × TE)):TE:=fun σ H Q=>∀ p,H p=none->zLy trs σ (upd H p (.dK [])) fun ps H2=>H2 p=some (.dK []) /\ ∃ kvs:List (Key × V),ps=kvs.map (fun kv=>(kV kv.1,kv.2))/\kvs.length<=15/\Q (.ref p) (upd H2 p (.dK (zE3 [] kvs)))
theorem zR0 (h:PPs X pos keys values trs) (hall:keys.all (·.isSome)=true) (hl:keys.length=values.length) (h0:keys≠[])
  (h15:keys.length<=15):PE X (.Dict keys values pos) (zVp trs):=by
 intro zB s σ H Q I q;have hn:=I.hok.fresh (zWa s.heap.objs.size);have I1:=I.laid (a:=s.heap.objs.size) (o:=.dK []) (h':=s.heap.push { cls:=.type "dict", data:=.dict #[] }) (t':=s.toks) (fun _ _ q=>zWV _ q) (zWa _) (zKn s.heap I.big);refine wpAny_Dict_walk (knd:=zAK X.prog X.w) hall hl h0 h15 (thn (h zB _ σ _ _ I1 (q _ hn)) fun ws s2 ⟨ps,H2,I2,rel,e,kvs,ep,lk,q2⟩=>?_);subst ep;obtain ⟨rs,c,rk⟩:=zGy (P:=X.prog) (w:=X.w) rel;obtain ⟨z,hd,vs0,r0,dd⟩:=zQF I2.hok e;cases r0;refine ⟨rs,c,dd,fun h' dd' hs=>⟨.ref s.heap.objs.size,_,?_,rfl,q2⟩⟩;have hz:(zE3 [] kvs).length<=sizeLine:=by
  have h1:=zEe kvs [];rw[List.length_nil]at h1;rw[sizeLine_eq];omega
 have he:∃ q,h'.get? s.heap.objs.size=some q:=let ⟨q,_,_,hq,_⟩:=dd';⟨q,hq⟩;exact zES I2 (by rw[e];exact True.intro) hs he (zMY hz hd (rk.merge .nil) dd')
structure M2 (X:Cx) (o:Expr) (m:Str) (apos:Pos) (e f:Expr) (cpos:Pos):Prop where
 base:attributeBase o m X.env (eval o X.env)=eval o X.env
 few:((backTo cpos (starEach [e,f] X.env)).all (fun x=> !x.1)&&(backToKw cpos (keywordEach [] X.env)).all (fun x=>x.1.isSome)
  && decide (([e,f]:List Expr).length+([]:List Keyword).length+(if ([]:List Keyword).isEmpty then 0 else 1)<30))=true
 line:(apos.endLine==cpos.line)=true
 trees:backTo cpos (starEach [e,f] X.env)=[(false,eval e X.env),(false,eval f X.env)]
def IsD (H:Hp) (a:Addr):Prop:=(∃ kvs,Rd H a (.dK kvs)) \/ ∃ kvs,Rd H a (.dT kvs)
theorem zQ4 (I:Inv X zB σ H s) (d:IsD H a) :
  s.TypeIs (.ref a) "dict" /\ (∀ b,Value.ref a=.ref b -> ∃ ob,s.heap.get? b=some ob/\ob.dict=none)/\(a==sysModules)=false:=by
 rcases d with ⟨kvs,e⟩|⟨kvs,e⟩
 ·obtain ⟨_,hd,vs,_,dd⟩:=zHb I.hok e;refine ⟨dd.typeIs,fun b q=>?_,hd⟩;cases q;obtain ⟨ob,_,_,h1,h2,_⟩:=dd;exact ⟨ob,h1,h2.2.1⟩
 ·obtain ⟨_,hd,xs,_,dd⟩:=zGt I.hok e;refine ⟨dd.typeIs,fun b q=>?_,hd⟩;cases q;obtain ⟨ob,_,_,h1,h2,_⟩:=dd;exact ⟨ob,h1,h2.2.1⟩
section
variable {X:Cx} {zB:List (Addr × Obj)} {σ:St} {H:Hp} {s:Shared} {a:Addr} {y d:V} {u r:Value} {o:Option V} {A:Around} {E:Value->Shared->Prop}
theorem zTw (hu:A.units+1<cLine) (I:Inv X zB σ H s) (g:zDM H a y o) (ry:zp y u) (rd:zp d r) (h:∀ w' s',Inv X zB σ H s'->zp (o.getD d) w'->Q w' s') :
  wpAny (model X.prog X.w) A (call (.builtin "dict.get") [.ref a,u,r]) Q E s:=by
 rcases g with ⟨kvs,k,e,ey,l⟩|⟨kvs,k,b,e,ey,eb,l⟩
 ·subst ey;obtain ⟨z,hd,vs,rel,dd⟩:=zHb I.hok e;refine call_meetsIn PySem.F.slot_dict_get dd.typeIs PySem.F.entry_dict_get (PySem.F.args_dict_get_3 _ _ _) (meets_dict_get_default (zAK X.prog X.w) a (zGA ry) hd r) ⟨_,dd.mapOf,h _ _ (I.tok _) ?_⟩;rw[l];exact (rel.val k).getD rd
 ·subst ey;cases (show u=Value.ref b from ry);obtain ⟨z,hd,xs,rel,dd⟩:=zGt I.hok e;refine call_meetsIn PySem.F.slot_dict_get dd.typeIs PySem.F.entry_dict_get (PySem.F.args_dict_get_3 _ _ _) (meetsH_dict_get_default (tupleKind (zAK X.prog X.w)) a b hd r) ⟨tupleKind_room_in1 hu,k,xs,zEG I.hok eb,dd,h _ _ (I.tok _) ?_⟩;rw[l];exact (rel.val k).getD rd
end
def zPO (td ty tx:TE):TE:=fun σ H Q=>td σ H fun x H1=>∃ a,x=.ref a/\IsD H1 a/\ty σ H1 fun y H2=>tx σ H2 fun z H3=>∃ o,zDM H3 a y o/\Q (o.getD z) H3
section
variable {X:Cx} {o e f:Expr} {apos cpos:Pos} {td ty tx:TE}
theorem zQ5 (hu:X.A.units+1<cLine) (ho:PE X o td) (he:PE X e ty) (hf:PE X f tx) (m:M2 X o "get" apos e f cpos):PE X (.Call (.Attribute o "get" apos) [e,f] [] cpos) (zPO td ty tx):=by
 intro zB s σ H Q I h;refine wpAny_Call_method m.base m.few m.line PySem.F.plainAttrs_dict PySem.F.slot_dict_get PySem.F.type_dict_get (thn (ho zB s σ H _ I h) fun u s1 ⟨x,H1,I1,rx,a,ex,d,q1⟩=>?_);subst ex;obtain rfl:u=Value.ref a:=rx;obtain ⟨t1,t2,_⟩:=zQ4 I1 d;refine ⟨t1,t2,?_⟩;rw[m.trees];refine Calls.callWith_builtin rfl (Calls.evalArgs_plain (Calls.spliced_cons (thn (he zB s1 σ H1 _ I1 q1) fun iv s2 ⟨y,H2,I2,ry,q2⟩=>
  Calls.spliced_cons (thn (hf zB s2 σ H2 _ I2 q2) fun fv s3 ⟨z,H3,I3,rz,ov,g,q3⟩=>Calls.spliced_nil ?_))))
 exact zTw hu I3 g ry rz fun w' s4 I4 rw'=>⟨_,H3,I4,rw',q3⟩
end
theorem zAl:∀ (names:List (Str × NameKind)) (n:Nat) (acc:List (Str × Addr)),cellsFrom n names acc=cellsFrom n names []++acc
 |[],_,_=>rfl
 | (name,kind)::r,n,acc=>by
  unfold cellsFrom;split
  ·rw[zAl r (n+1) ((name,n)::acc),zAl r (n+1) [(name,n)],zXa];rfl
  ·exact zAl r n acc
theorem zCc {α:Type} (x:Str):∀ (l r:List (Str × α)),(l++r).lookup x=(match l.lookup x with|some c=>some c|none=>r.lookup x)
 |[],r=>rfl
 | (k,v)::l,r=>by
  rw[List.cons_append,zYZ,zYZ];cases hb:x==k with
  |true=>rfl
  |false=>exact zCc x l r
theorem zEt:∀ (names:List (Str × NameKind)) (acc:List (Str × Addr)),
  (∀ y∈names,y.2=.free -> ∃ c,env.cells.lookup y.1=some c) ->
  (∀ x c,acc.lookup x=some c->env.cells.lookup x=some c) ->
  ∃ cl:List (Str × Addr),(forIn names acc (fun (p:Str × NameKind) (cs:List (Str × Addr))=>(do
    if p.2 == .free then
     let a <- cellOf env p.1;pure (ForInStep.yield ((p.1,a)::cs))
    else pure (ForInStep.yield cs):Sem (ForInStep (List (Str × Addr))))))=pure cl /\
   (∀ x c,cl.lookup x=some c->env.cells.lookup x=some c) /\
   (∀ x,(acc.lookup x).isSome=true->(cl.lookup x).isSome=true) /\ ∀ y∈names,y.2=.free->(cl.lookup y.1).isSome=true
 |[],acc,_,ha=>⟨acc,by rw[List.forIn_nil],ha,fun _ h=>h,fun _ h=>nomatch h⟩
 | (n,k)::r,acc,hf,ha=>by
  rw[List.forIn_cons];by_cases hk:k=.free
  ·subst hk;obtain ⟨c,hc⟩:=hf (n,.free) zWi rfl;have hco:cellOf env n=pure c:=by unfold cellOf;rw[hc]
   obtain ⟨cl,e,h1,h2,h3⟩:=zEt r ((n,c)::acc) (fun y hy=>hf y (zWh _ hy)) (fun x d hx=>by
    rw[zYZ]at hx;cases hb:x==n with
    |true=>rw[hb]at hx;cases hx;rw[beq_iff_eq.mp hb];exact hc
    |false=>rw[hb]at hx;exact ha x d hx)
   refine ⟨cl,?_,h1,fun x hx=>h2 x ?_,fun y hy hk=>?_⟩
   ·rw[<-e];simp only[beq_self_eq_true,if_true,hco];rfl
   ·rw[zYZ];cases hb:x==n with
    |true=>rfl
    |false=>exact hx
   ·rcases zWg.mp hy with z|z
    ·subst z;exact h2 n (by rw[zYZ];simp)
    ·exact h3 y z hk
  ·obtain ⟨cl,e,h1,h2,h3⟩:=zEt r acc (fun y hy=>hf y (zWh _ hy)) ha;refine ⟨cl,?_,h1,h2,fun y hy hk'=>?_⟩
   ·rw[<-e];have:(k==NameKind.free)=false:=by simpa using hk
    simp only[this,zXV,if_false];rfl
   ·rcases zWg.mp hy with z|z
    ·subst z;exact absurd hk' hk
    ·exact h3 y z hk'
theorem zII (hf:∀ y∈scope.names,y.2=.free -> ∃ c,env.cells.lookup y.1=some c) :
  ∃ cl,closureFor scope env=pure cl/\(∀ x c,cl.lookup x=some c->env.cells.lookup x=some c) /\ ∀ y∈scope.names,y.2=.free->(cl.lookup y.1).isSome=true:=by
 obtain ⟨cl,e,h1,_,h3⟩:=zEt (env:=env) scope.names [] hf (fun x c h=>nomatch h);refine ⟨cl,?_,h1,h3⟩;unfold closureFor;rw[show (pure cl:Sem _)=pure cl >>= pure from rfl,<-e]
theorem zCm
  (hQ:Q (newEnv scope s.heap.objs.size globals (cellsFrom (s.heap.objs.size+1) scope.names cl) qual none .none (some env) builtinsNs)
   { s with heap:=pushCells (s.heap.push { cls:=.type "dict", data:=.dict #[] }) scope.names }) :
  wpAny M A (newFunctionEnv scope globals cl [] qual none .none (some env)) Q E s:=by
 simp only[newFunctionEnv,Option.isSome_some,if_true];refine zWU (wpAny_alloc ?_);refine zWU (wpAny_layCells _ (fun name kind cells=>by cases hkc:kind==NameKind.cell <;> simp[hkc]) _ _ _ _ ?_);rw[show ({ s with heap:=s.heap.push { cls:=.type "dict", data:=.dict #[] } }:Shared).heap.objs.size=s.heap.objs.size+1 from zXA ..];exact zWU (zWW (zWW hQ))
def zL (X:Cx) (zB:List (Addr × Obj)) (scope:Scope) (cl:List (Str × Addr)) (s:Shared) (H:Hp) (fp:List Addr):Cx where
 prog:=X.prog
 w:=X.w
 K:=X.K
 mg:=X.mg
 base:=X.base
 A:=X.A
 N:=X.N
 s₀:=s
 H₀:=H
 env:={ scope:=relabel scope X.env,locals:=s.heap.objs.size+1,globals:=X.env.globals,cells:=cellsFrom (s.heap.objs.size+1+1) scope.names cl,qual:=X.env.qual,func:=none,code:=X.env.code,frame:=X.env.frame,builtins:=X.env.builtins }
 outer:=X.stack
 stack:=X.stack
 ex:=fp
 fn:=fun x=>decide (scope.names.lookup x=some .cell)
 calm:=X.calm
 pn:=X.pn++zB
 xe:=fun _ _=>False
theorem zBK {scope:Scope} {env:Env} (x:Str):∀ {names:List (Str × NameKind)} {k:NameKind},
  (names.map fun (n,k)=>if (k==NameKind.free&&env.scope.kind == .function&&env.kindOf n==some .cell) then (n,NameKind.cell) else (n,k)).lookup x=some k ->
  names.lookup x=some k\/(names.lookup x=some .free/\k=.cell)
 |[],_,h=>by simp at h
 | (n,k')::r,k,h=>by
  rw[zWn]at h;by_cases hc:(k'==NameKind.free&&env.scope.kind == .function&&env.kindOf n==some .cell)=true
  ·simp only[hc,if_true]at h;rw[zYZ]at h ⊢;cases hb:x==n with
   |true=>
    rw[hb]at h;simp only[zW4,beq_iff_eq]at hc;exact .inr ⟨by rw[hc.1.1],(zXU h).symm⟩
   |false=>rw[hb]at h;exact zBK (scope:=scope) x h
  ·simp only[hc,zXV,if_false]at h;rw[zYZ]at h ⊢;cases hb:x==n with
   |true=>rw[hb]at h;exact .inl h
   |false=>rw[hb]at h;exact zBK (scope:=scope) x h
theorem zHe:∀ (names:List (Str × NameKind)) (n:Nat) (acc:List (Str × Addr)) (x:Str) (c:Addr),(x,c)∈cellsFrom n names acc->(x,c)∉acc->(x,NameKind.cell)∈names
 |[],_,_,_,_,h,h'=>absurd h h'
 | (name,kind)::r,n,acc,x,c,h,h'=>by
  unfold cellsFrom at h;split at h
  ·rename_i hk;by_cases e:(x,c)=(name,n)
   ·cases e;rw[beq_iff_eq]at hk;subst hk;exact zWi
   ·exact zWh _ (zHe r _ _ x c h fun z=>(zWg.mp z).elim e h')
  ·exact zWh _ (zHe r _ _ x c h h')
structure CompScope (X:Cx) (scope:Scope):Prop where
 kind:scope.kind=.function
 names:∀ y∈scope.names,y.2=.local->scope.names.lookup y.1=some .local
 cells:∀ y∈scope.names,y.2=.cell->scope.names.lookup y.1=some .cell
 free:∀ y∈scope.names,y.2=.free->X.env.kindOf y.1=some .cell\/X.env.kindOf y.1=some .free
section
variable {X:Cx} {zB:List (Addr × Obj)} {σ σc:St} {H:Hp} {s s4:Shared} {scope:Scope} {cl:List (Str × Addr)} {fp:List Addr}
theorem zFA (S:CompScope X scope) (I:Inv X zB σ H s) (hf:∀ b∈fp,zCE X zB H b) (ho:∀ b:Nat,b∈fp->b<s.heap.objs.size)
  (c1:∀ x c,cl.lookup x=some c->X.env.cells.lookup x=some c) (c2:∀ y∈scope.names,y.2=.free->(cl.lookup y.1).isSome=true)
  (hl:σc.length=σ.length) (hσ:∀ (i:Nat) x v,X.N[i]?=some x->σc[i]?=some (some v)->(relabel scope X.env).names.lookup x≠none->scope.names.lookup x=some .free/\σ[i]?=some (some v))
  (lo:Obj) (hlo:∀ v,lo.data≠.cell v) (hfr:lo.isFreed=false)
  (h4:s4={ s with heap:=pushCells ((s.heap.push lo).push { cls:=.type "dict", data:=.dict #[] }) scope.names }) :
  Inv (zL X zB scope cl s H fp) [(s.heap.objs.size,lo)] σc H s4:=by
 subst h4;have sz1:(s.heap.push lo).objs.size=s.heap.objs.size+1:=zXA ..;have sz2:((s.heap.push lo).push { cls:=.type "dict", data:=.dict #[] }).objs.size=s.heap.objs.size+1+1:=by rw[zXA,sz1]
 have hk:∀ b o,s.heap.get? b=some o->(pushCells ((s.heap.push lo).push { cls:=.type "dict", data:=.dict #[] }) scope.names).get? b=some o:=fun b o e=>
  pushCells_keeps _ _ b o (zWV _ (zWV _ e))
 have ok:=cellsFrom_ok scope.names ((s.heap.push lo).push { cls:=.type "dict", data:=.dict #[] }) (s.heap.objs.size+1+1) [] ⟨fun _ _ hm=>(nomatch hm),List.Pairwise.nil⟩ (by rw[sz2];exact zWa _);rw[sz2]at ok;have look:∀ x c,(cellsFrom (s.heap.objs.size+1+1) scope.names cl).lookup x=some c->((cellsFrom (s.heap.objs.size+1+1) scope.names []).lookup x=some c)\/((cellsFrom (s.heap.objs.size+1+1) scope.names []).lookup x=none/\X.env.cells.lookup x=some c):=fun x c e=>by
  rw[zAl,zCc]at e;cases q:(cellsFrom (s.heap.objs.size+1+1) scope.names []).lookup x with
  |some d=>rw[q]at e;exact .inl e
  |none=>rw[q]at e;exact .inr ⟨rfl,c1 x c e⟩
 have old:∀ x (c:Nat),X.env.cells.lookup x=some c->c<s.heap.objs.size:=fun x c e=>let ⟨_,q⟩:=I.cell x c e;q.lt;have new:∀ x (c:Nat),(cellsFrom (s.heap.objs.size+1+1) scope.names []).lookup x=some c->s.heap.objs.size+1+1<=c:=fun x c e=>(ok.empty x c (zXW e)).2;have own:∀ x,scope.names.lookup x=some .cell -> ∃ c,(cellsFrom (s.heap.objs.size+1+1) scope.names []).lookup x=some c:=fun x e=>zHA e;have cne:∀ x (c:Nat),(cellsFrom (s.heap.objs.size+1+1) scope.names cl).lookup x=some c->c<s.heap.objs.size\/s.heap.objs.size+1+1<=c:=fun x c e=>by
  rcases look x c e with q|⟨_,q⟩
  ·exact .inr (new x c q)
  ·exact .inl (old x c q)
 refine ⟨⟨I.ok.mod,S.kind,I.ok.glob,I.ok.blt,Nat.le_succ _,fun x y c h1 h2=>?_,fun x hx=>?_,fun x c hx h=>?_,I.ok.hd,I.ok.frames,.inl rfl,fun b hb=>⟨?_,fun x c e z=>?_⟩,I.bs,zWv I.ok.bsz I.sz,fun b o e hb=>?_,fun b hb z=>?_,I.stack,I.stkFree⟩,
  rfl,I.bare,Un.kept hk,⟨fun _=>none,?_,fun i x v h1 h2 h3=>?_⟩,fun x c e=>?_,I.hok.fresh (Nat.le_succ _),fun x c e=>?_,fun p hp=>?_,I.hok.kept hk,hl.trans I.len⟩
 ·rcases look x c h1 with a|⟨_,a⟩ <;> rcases look y c h2 with b|⟨_,b⟩
  ·exact name_of_addr ok.apart (zXW a) (zXW b)
  ·exact absurd (Nat.lt_of_le_of_lt (new x c a) (old y c b)) (by omega)
  ·exact absurd (Nat.lt_of_le_of_lt (new y c b) (old x c a)) (by omega)
  ·exact I.ok.inj x y c a b
 ·have hx':(relabel scope X.env).names.lookup x=some .cell\/(relabel scope X.env).names.lookup x=some .free:=hx;have go:scope.names.lookup x=some .cell\/scope.names.lookup x=some .free:=by
   rcases hx' with q|q
   ·rcases zBK (scope:=scope) x q with z|z
    ·exact .inl z
    ·exact .inr z.1
   ·rcases zBK (scope:=scope) x q with z|z
    ·exact .inr z
    ·exact .inr z.1
  show ∃ c,(cellsFrom (s.heap.objs.size+1+1) scope.names cl).lookup x=some c;rw[zAl,zCc];rcases go with q|q
  ·obtain ⟨c,e⟩:=own x q;exact ⟨c,by rw[e]⟩
  ·cases e:(cellsFrom (s.heap.objs.size+1+1) scope.names []).lookup x with
   |some d=>exact ⟨d,rfl⟩
   |none=>exact Option.isSome_iff_exists.mp (c2 (x,.free) (zXW q) rfl)
 ·obtain ⟨d,e⟩:=own x (zXQ hx);have h':(cellsFrom (s.heap.objs.size+1+1) scope.names cl).lookup x=some c:=h;rw[zAl,zCc,e]at h';cases h';exact zWv (zWv (Nat.le_succ _) (Nat.le_succ _)) (new x _ e)
 ·exact zWp (zXJ (ho b hb))
 ·rcases look x c e with q|⟨_,q⟩
  ·have a:=new x c q;rw[z]at a;exact absurd (Nat.lt_of_le_of_lt a (ho b hb)) (by omega)
  ·exact (hf b hb).2.2.2.2.1 x c q z
 ·rcases (hf b hb).2.2.2.1 with z|z
  ·exact I.ok.noex b o e z
  ·exact absurd (zWt (zWf e) (zWv I.ok.bsz z)) (zXC _)
 ·rcases zWg.mp (I.stkSub b z)with q|q
  ·exact (hf b hb).2.1 q
  ·exact (hf b hb).2.2.1 q
 ·have q:((s.heap.push lo).push { cls:=.type "dict", data:=.dict #[] }).Ns (s.heap.push lo).objs.size (fun _=>none):=Heap.Ns.new ..;rw[sz1]at q;exact q.keeps (pushCells_keeps _ _)
 ·have h3':(relabel scope X.env).names.lookup x≠none:=by
   rcases h3 with z|z|z <;> (intro q;have z':(relabel scope X.env).names.lookup x=_:=z;rw[q]at z';cases z')
  obtain ⟨fr,hv⟩:=hσ i x v h1 h2 h3';obtain ⟨m,hn,hlk⟩:=I.loc;have kx:=S.free (x,.free) (zXW fr) rfl;obtain ⟨u,rv,lk⟩:=hlk i x v h1 hv (by rcases kx with z|z;exact .inr (.inl z);exact .inr (.inr z));refine ⟨u,rv,?_⟩;rcases lk with ⟨z,_⟩|⟨_,c,e,ic⟩
  ·rcases kx with k|k <;> (rw[k]at z;cases z)
  ·have kind:(relabel scope X.env).names.lookup x=some .cell\/(relabel scope X.env).names.lookup x=some .free:=by
    cases q:(relabel scope X.env).names.lookup x with
    |none=>exact absurd q h3'
    |some k=>
     rcases zBK (scope:=scope) x q with z|z
     ·rw[fr]at z;cases z;exact .inr rfl
     ·rw[z.2];exact .inl rfl
   refine .inr ⟨kind,c,?_,ic.keeps hk⟩;show (cellsFrom (s.heap.objs.size+1+1) scope.names cl).lookup x=some c;rw[zAl,zCc];obtain ⟨d,hd⟩:=Option.isSome_iff_exists.mp (c2 (x,.free) (zXW fr) rfl);have:=c1 x d hd;rw[e]at this;cases this;have nn:(cellsFrom (s.heap.objs.size+1+1) scope.names []).lookup x=none:=by
    cases q:(cellsFrom (s.heap.objs.size+1+1) scope.names []).lookup x with
    |none=>rfl
    |some d'=>
     have z:=S.cells (x,.cell) (zHe scope.names _ [] x d' (zXW q) fun z=>nomatch z) rfl;rw[fr]at z;cases z
   rw[nn];exact hd
 ·rcases look x c e with q|⟨_,q⟩
  ·exact ⟨none,(ok.empty x c (zXW q)).1⟩
  ·obtain ⟨v,z⟩:=I.cell x c q;exact ⟨v,z.keeps hk⟩
 ·rcases look x c e with q|⟨_,q⟩
  ·exact I.hok.fresh (by have:=new x c q;omega)
  ·exact I.freeC x c q
 ·have hp':p∈X.pn++zB\/p=(s.heap.objs.size,lo):=by
   rcases zWu.mp hp with z|z
   ·exact .inl z
   ·exact .inr (by simpa using z)
  rcases hp' with z|z
  ·obtain ⟨e,n,ne,nf,d⟩:=I.pin p z;have lt:(p.1:Nat)<s.heap.objs.size:=zWf e;refine ⟨hk _ _ e,n,?_,fun q=>?_,d⟩
   ·exact zWp (zXJ lt)
   ·rcases zWg.mp (I.stkSub _ q)with r|r
    ·exact ne r
    ·exact nf r
  ·subst z;refine ⟨pushCells_keeps _ _ _ _ (zWV _ (zWe _ hfr)),I.hok.fresh (zWa _),?_,fun q=>?_,hlo⟩
   ·show s.heap.objs.size≠s.heap.objs.size+1;omega
   ·rcases zWg.mp (I.stkSub _ q)with r|r
    ·exact absurd I.lt (by rw[<-r];exact zXC _)
    ·exact I.nofs (zWa _) r
end
def clr (own:List Nat) (σ:St):St:=own.foldl (fun σ i=>σ.set i none) σ
theorem zBU:∀ (own:List Nat) (σ:St),(clr own σ).length=σ.length
 |[],_=>rfl
 |i::r,σ=>by
  show (clr r (σ.set i none)).length=_;rw[zBU r,zYn]
theorem zCr:∀ (own:List Nat) (σ:St) (j:Nat) (v:V),(clr own σ)[j]?=some (some v)->σ[j]?=some (some v)/\j∉own
 |[],_,_,_,h=>⟨h,fun z=>nomatch z⟩
 |i::r,σ,j,v,h=>by
  have h':(clr r (σ.set i none))[j]?=some (some v):=h;obtain ⟨a,b⟩:=zCr r _ j v h';rw[zX3]at a;split at a
  ·split at a <;> cases a
  ·rename_i hne;exact ⟨a,fun z=>(zWg.mp z).elim (fun e=>hne e.symm) b⟩
def Ext (a b:St):Prop:=b.length=a.length /\ ∀ (i:Nat) v,a[i]?=some (some v)->b[i]?=some (some v)
theorem Ext.refl (a:St):Ext a a:=⟨rfl,fun _ _ h=>h⟩
theorem Ext.set (e:Ext (clr own σ) a) (h:i∈own):Ext (clr own σ) (a.set i (some v)):=by
 refine ⟨by rw[zYn];exact e.1,fun j u q=>?_⟩;rw[zX3];split
 ·rename_i z;exact absurd (z▸h) (zCr own σ j u q).2
 ·exact e.2 j u q
def zGQ (X:Cx) (ifs:List Expr) (t:TT):Prop :=
 ∀ (zB:List (Addr × Obj)) (s:Shared) (σ:St) (H:Hp) (Q:Bool->Hp->Prop),Inv X zB σ H s->t σ H Q ->
  wpAny (model X.prog X.w) X.A (forIn ifs true fun c r=>if r=true then do let ok <- isTrue c X.env (eval c X.env);pure (ForInStep.yield ok) else pure (ForInStep.yield r)) (TP X zB σ Q) X.xe s
def zV8:TT:=fun _ H Q=>Q true H
theorem zQc:zGQ X [] zV8:=fun _ _ _ H _ I h=>wpAny_tests_nil ⟨H,I,h⟩
theorem zPh (h:PT X c t):zGQ X [c] t:=fun zB s σ H Q I hq=>wpAny_tests_one (h zB s σ H Q I hq)
section
variable {prog:Program} {w:World} {A:Around} {E:Value->Shared->Prop} {R:Result->Shared->Prop} {s:Shared}
theorem zJV (I:Nat->Shared->Prop)
  (turn:∀ n s,I n s->wpAny (model prog w) A (pyNext it) (fun r s₁=>match r with
   |none=>R (.ok .next) s₁
   |some v=>wpAny (model prog w) A (letOwnedTupleGo target it v) (fun _ s₁'=>wpAny (model prog w) A (assign target env v) (fun _ s₂=>
     wpAny (model prog w) A (forIn ifs true fun c r=>if r=true then do let ok <- isTrue c env (eval c env);pure (ForInStep.yield ok) else pure (ForInStep.yield r)) (fun ok s₃=>
      if ok=true then wpAny (model prog w) A (eval elt env) (fun x s₄=>
       wpAny (model prog w) A (call (.builtin "list.append") [acc,x]) (fun _ s₅=>∃ m,m<n/\I m s₅) (fun _ _=>False) s₄) (fun _ _=>False) s₃
      else ∃ m,m<n/\I m s₃) (fun _ _=>False) s₂) (fun _ _=>False) s₁') (fun _ _=>False) s₁) (fun _ _=>False) s)
  (n:Nat) (h:I n s) :
  codeAny (model prog w) A (.compLoop (.ListComp elt [⟨target,iter,ifs,0⟩] scope pos) 0 it acc env) R s:=by
 refine codeAny_loop rfl I (fun n s hI=>?_) n h;show wpAny _ A ((compTurn (.ListComp elt [⟨target,iter,ifs,0⟩] scope pos) 0 it acc env).onRaise (fun x=>do noteFrame x env;theTreesLotGoes x)) _ _ s;refine wpAny_noted ?_;rw[compTurn_list];refine zWU (zXS (zWU (zW0 (turn n s hI) (fun r s₁ h₁=>?_) fun _ _ h'=>h'.elim)));cases r with
 |none=>exact zWW h₁
 |some v=>
  refine zWU (zW0 h₁ (fun _ s₁' h₁'=>?_) fun _ _ h'=>h'.elim);refine zWU (zW0 h₁' (fun _ s₂ h₂=>zWU (zW0 h₂ (fun ok s₃ h₃=>?_) fun _ _ h'=>h'.elim)) fun _ _ h'=>h'.elim);cases ok with
  |false=>exact zWW ⟨rfl,h₃⟩
  |true=>
   exact zWU (zWU (zW0 h₃ (fun x s₄ h₄=>zWU (zW0 h₄ (fun _ s₅ h₅=>zWW (zWW ⟨rfl,h₅⟩)) fun _ _ h'=>h'.elim)) fun _ _ h'=>h'.elim))
end
def zPf (own:List Nat) (wi:TI) (g:TG) (tc:TT) (te:TE):TE:=fun σ H Q=>wi σ H fun J H1=>∃ W:Nat->Nat->List V->Hp->Prop,(∃ m,W 0 m [] H1) /\ ∀ i m ys H,W i m ys H ->
 (J.stop i H/\ys.length<=sizeLine /\ ∀ D,H D=none->Q (.ref D) (upd H D (.lst ys))) \/
 (J.go i H /\ ∀ x H',J.yld i H x H'->g x (clr own σ) H' fun σ2 H2=>Ext (clr own σ) σ2/\tc σ2 H2 fun b H3=>
  if b=true then te σ2 H3 fun v H4=>ys.length<sizeLine /\ ∃ m',m'<m/\W (i+1) m' (ys++[v]) H4 else ∃ m',m'<m/\W (i+1) m' ys H3)
abbrev zj (its:List Value) (n:Nat):Obj:={ cls:=.type "list", data:=.seq its.toArray n }
section
variable {X:Cx} {zB:List (Addr × Obj)} {σ:St} {H:Hp} {s:Shared}
theorem Inv.repin (I:Inv X (pl++[(D,o)]) σ H s) (hpl:∀ p∈X.pn++pl,p.1≠D) (hs:Heap.SameBut D s.heap h') (hD:X.s₀.heap.objs.size<=D) (hc:∀ x c,X.env.cells.lookup x=some c->c≠D)
  (e:h'.get? D=some o') (hn:∀ v,o'.data≠.cell v):Inv X (pl++[(D,o')]) σ H { s with heap:=h' }:=by
 obtain ⟨e0,n0,ne0,nf0,d0⟩:=I.pin (D,o) (by simp);have I1:Inv X pl σ H s:=I.pins_of fun p hp=>I.pin p (by simp[hp]);have I2:Inv X pl σ H { s with heap:=h' }:=I1.turned (t':=s.toks) (it:=D) (fun b u hb q=>hs.extBut b u hb q) n0 ne0 (.inr hD) hc hpl;exact I2.pins_of fun p hp=>by
  rcases zWu.mp hp with z|z
  ·exact I2.pin p (zWo _ z)
  ·have:p=(D,o'):=by simpa using z
   subst this;exact ⟨e,n0,ne0,nf0,hn⟩
end
section
variable {X:Cx} {zB:List (Addr × Obj)} {σ:St} {H:Hp} {s:Shared} {scope:Scope} {cl:List (Str × Addr)} {fp:List Addr} {it:Addr} {tn:Nat->Heap->Prop} {J:It} {tg elt iter:Expr} {ifs:List Expr} {pos:Pos}
 {own:List Nat} {g:TG} {tc:TT} {te:TE} {E:Value->Shared->Prop}
structure CompIn (X:Cx) (scope:Scope) (own:List Nat):Prop where
 sc:CompScope X scope
 nm:∀ (i:Nat) x,X.N[i]?=some x->i∈own\/scope.names.lookup x=none\/scope.names.lookup x=some .free
theorem zCL (x:Str) (h:scope.names.lookup x=none):(relabel scope env).names.lookup x=none:=by
 cases q:(relabel scope env).names.lookup x with
 |none=>rfl
 |some k=>
  rcases zBK (scope:=scope) x q with z|z
  ·rw[h]at z;cases z
  ·rw[h]at z;cases z.1
theorem zG4 (C:CompIn X scope own) (hcalm:X.calm=true) (I:Inv X zB σ H s) (T:Turn X.prog X.w X.K tg J fp it tn) (st:tn 0 s.heap) (hf:∀ b∈fp,zCE X zB H b)
  (c1:∀ x c,cl.lookup x=some c->X.env.cells.lookup x=some c) (c2:∀ y∈scope.names,y.2=.free->(cl.lookup y.1).isSome=true)
  (hg:PG (zL X zB scope cl s H fp) tg g) (hi:zGQ (zL X zB scope cl s H fp) ifs tc) (he:PE (zL X zB scope cl s H fp) elt te)
  {RR:Value->Addr->Result->Shared->Prop} {QQ:List V->Hp->Prop} {W:Nat->Nat->List V->Hp->Prop} {m0:Nat} (w0:W 0 m0 [] H)
  (turn:∀ i m ys H,W i m ys H->(J.stop i H/\ys.length<=sizeLine/\QQ ys H) \/
   (J.go i H /\ ∀ x H',J.yld i H x H'->g x (clr own σ) H' fun σ2 H2=>Ext (clr own σ) σ2/\tc σ2 H2 fun b H3=>
    if b=true then te σ2 H3 fun v H4=>ys.length<sizeLine /\ ∃ m',m'<m/\W (i+1) m' (ys++[v]) H4 else ∃ m',m'<m/\W (i+1) m' ys H3))
  (fin:∀ σc H' s' its n ys,Inv (zL X zB scope cl s H fp) [(s.heap.objs.size,zj its n)] σc H' s'->ze ys its->ys.length<=sizeLine->QQ ys H'->RR (.ref s.heap.objs.size) (s.heap.objs.size+1) (.ok .next) s') :
  wpAny (model X.prog X.w) X.A (newList []) (fun acc s₃=>wpAny (model X.prog X.w) X.A (newFunctionEnv scope X.env.globals cl [] X.env.qual none .none (some X.env)) (fun cenv s₄=>
   codeAny (model X.prog X.w) X.A (.compStart (.ListComp elt [⟨tg,iter,ifs,0⟩] scope pos) 0 (.ref it) acc { cenv with scope:=relabel scope X.env }) (RR acc cenv.locals) s₄) E s₃) E s:=by
 have ob:∀ b:Nat,b∈fp->b<s.heap.objs.size:=fun b hb=>let ⟨_,e,_⟩:=T.obj 0 _ st b hb;zWf e;refine zWx (zCm ?_);have sz1:(s.heap.push (zj [] 0)).objs.size=s.heap.objs.size+1:=zXA ..;have I4:=zFA (X:=X) (zB:=zB) (σ:=σ) (σc:=clr own σ) (H:=H) (s:=s) (scope:=scope) (cl:=cl) (fp:=fp) C.sc I hf ob c1 c2 (zBU own σ) (fun i x v h1 h2 h3=>by
  obtain ⟨a,b⟩:=zCr own σ i v h2;rcases C.nm i x h1 with z|z|z
  ·exact absurd z b
  ·exact absurd (zCL x z) h3
  ·exact ⟨z,a⟩) (zj [] 0) (by intro v z;cases z) rfl rfl
 have st4:tn 0 (pushCells ((s.heap.push (zj [] 0)).push { cls:=.type "dict", data:=.dict #[] }) scope.names):=T.keep 0 _ _ st fun b _ o e=>pushCells_keeps _ _ b o (zWV _ (zWV _ e));unfold newEnv;rw[sz1];have hDfp:s.heap.objs.size∉fp:=fun z=>zXC _ (ob _ z);have hcD:∀ x c,(zL X zB scope cl s H fp).env.cells.lookup x=some c->c≠s.heap.objs.size:=fun x c e z=>by
  obtain ⟨v,o,ho,hd⟩:=I4.cell x c e;obtain ⟨q,_⟩:=I4.pin (s.heap.objs.size,zj [] 0) (by simp);rw[z,q]at ho;cases ho;cases hd
 have fpk:∀ {H':Hp} {pl:List (Addr × Obj)},(∀ b∈fp,H' b=none)->(∀ p∈pl,p.1=s.heap.objs.size) -> ∀ b∈fp,zCE (zL X zB scope cl s H fp) pl H' b:=fun {H' pl} hn hp b hb=>
  ⟨hn b hb,(I4.ok.exf b hb).1,I4.ok.exfs b hb,.inl hb,(I4.ok.exf b hb).2,fun p hq=>by
   rcases zWu.mp hq with z|z
   ·exact (hf b hb).2.2.2.2.2 p z
   ·intro e;have e2:=hp p z;rw[e]at e2;exact hDfp (e2▸hb)⟩
 have loop:codeAny (model X.prog X.w) X.A (.compLoop (.ListComp elt [⟨tg,iter,ifs,0⟩] scope pos) 0 (.ref it) (.ref s.heap.objs.size) (zL X zB scope cl s H fp).env) (RR (.ref s.heap.objs.size) (s.heap.objs.size+1))
   { s with heap:=pushCells ((s.heap.push (zj [] 0)).push { cls:=.type "dict", data:=.dict #[] }) scope.names }:=by
  refine zJV (fun n s'=>∃ i H' ys its k,Inv (zL X zB scope cl s H fp) [(s.heap.objs.size,zj its k)] (clr own σ) H' s'/\ze ys its/\tn i s'.heap/\(∀ b∈fp,H' b=none)/\W i n ys H') ?_ m0
   ⟨0,H,[],[],0,I4,.nil,st4,fun b hb=>(hf b hb).1,w0⟩
  rintro n s5 ⟨i,H5,ys,its,k,I5,r5,st5,f5,w5⟩;have pinD:∀ p∈[(s.heap.objs.size,zj its k)],p.1=s.heap.objs.size:=fun p hp=>by
   have:p=(s.heap.objs.size,zj its k):=by simpa using hp
   rw[this]
  rcases turn i n ys H5 w5 with ⟨stop,hz,qq⟩|⟨go,step⟩
  ·refine thn (T.done (zL X zB scope cl s H fp) rfl rfl rfl hcalm i _ s5 _ H5 _ I5 (fpk f5 pinD) st5 stop) fun r s6 ⟨hr,I6⟩=>?_;subst hr;exact fin _ H5 s6 its k ys I6 r5 hz qq
  ·refine thn (T.item (zL X zB scope cl s H fp) rfl rfl rfl hcalm i _ s5 _ H5 _ I5 (fpk f5 pinD) st5 go) fun r s6 ⟨u,hr,h6⟩=>?_;subst hr;refine thn h6 fun _ s7 ⟨x,H7,I7,r7,y7,st7,f7⟩=>?_;have I7':=I7.pinned (fpk f7 pinD) (T.obj _ _ st7);refine thn (hg _ s7 _ H7 x u _ I7' r7 (step x H7 y7)) fun _ s8 ⟨σ8,H8,I8,x8,q8⟩=>?_;refine thn (hi _ s8 σ8 H8 _ I8 q8) fun ok s9 ⟨H9,I9,q9⟩=>?_;have back:∀ {s':Shared} {Hx:Hp},Inv (zL X zB scope cl s H fp) ([(s.heap.objs.size,zj its k)]++zC3 fp s7.heap) σ8 Hx s'->tn (i+1) s'.heap /\ ∀ b∈fp,Hx b=none:=fun {s' Hx} Ix=>
    ⟨T.keep _ _ _ st7 fun b hb o e=>(Ix.pin (b,o) (zWo _ (zWo _ (zAQ hb e)))).1,fun b hb=>by
     obtain ⟨o,e,d⟩:=T.obj _ _ st7 b hb;exact (Ix.pin (b,o) (zWo _ (zWo _ (zAQ hb e)))).2.1⟩
   cases ok with
   |false=>
    obtain ⟨m',hm,w'⟩:=q9;obtain ⟨b1,b2⟩:=back I9;exact ⟨m',hm,i+1,H9,ys,its,k,(I9.weak (by rw[x8.1]) x8.2).unpinned,r5,b1,b2,w'⟩
   |true=>
    refine thn (he _ s9 σ8 H9 _ I9 q9) fun v s10 ⟨y,H10,I10,r10,hlt,m',hm,w'⟩=>?_;obtain ⟨b1,b2⟩:=back I10;have J10:=(I10.weak (by rw[x8.1]) x8.2).unpinned;obtain ⟨e10,n10,ne10,nf10,d10⟩:=J10.pin (s.heap.objs.size,zj its k) (by simp);have hlen:its.toArray.size<=sizeLine:=by
     have:=r5.length;rw[zWc,<-this];exact Nat.le_of_lt hlt
    refine wpAny_list_append_plain (hsz:=hlen) (show s10.heap.PlainList s.heap.objs.size its.toArray from ⟨k,e10⟩) fun h' hl' hs'=>?_;obtain ⟨k',e'⟩:=hl';have e'':h'.get? s.heap.objs.size=some (zj (its++[v]) k'):=by rw[e'];simp[zj]
    refine ⟨m',hm,i+1,H10,ys++[y],its++[v],k',?_,r5.append (.cons r10 .nil),T.keep _ _ _ b1 fun b hb o e=>hs'.extBut b o (fun z=>hDfp (z▸hb)) e,b2,w'⟩;refine Inv.repin (pl:=[]) J10 (fun p hp=>?_) hs' (zWa _) hcD e'' (by intro v z;cases z);rw[zXE]at hp;have hp':p∈X.pn++zB:=hp;exact zWp (zWf (I.pin p hp').1)
 exact codeAny_compStart_list loop (T.self _ 0 _ _ _ st4 loop)
end
section
variable {X:Cx} {zB:List (Addr × Obj)} {σ:St} {H:Hp} {s:Shared} {scope:Scope} {cl:List (Str × Addr)} {fp:List Addr}
theorem zHZ (I:Inv X zB σ H s) (hf:∀ b∈fp,zCE X zB H b)
  (Ic:Inv (zL X zB scope cl s H fp) [(s.heap.objs.size,zj its n)] σc H' s') (rv:ze ys its) (hz:ys.length<=sizeLine) (hs:Heap.SameBut (s.heap.objs.size+1) s'.heap h') :
  Inv X zB σ (upd H' s.heap.objs.size (.lst ys)) { s' with heap:=h' }/\H' s.heap.objs.size=none:=by
 obtain ⟨eD,nD,_⟩:=Ic.pin (s.heap.objs.size,zj its n) (by simp);have nC:H' (s.heap.objs.size+1)=none:=Ic.free;have eD':h'.get? s.heap.objs.size=some (zj its n):=hs.extBut _ _ (zWp (zXR _)) eD;have lt1:∀ {b:Addr} {o:Obj},s.heap.get? b=some o->b≠s.heap.objs.size+1/\b≠s.heap.objs.size:=fun e=>⟨zWp (zXJ (zWf e)),zWp (zWf e)⟩;have tr:∀ b u,H' b=some u->b≠s.heap.objs.size+1/\b≠s.heap.objs.size:=fun b u e=>⟨fun z=>(by rw[z,nC]at e;cases e),fun z=>(by rw[z,nD]at e;cases e)⟩;refine ⟨?_,nD⟩;have B:=Ic.base;have un:Un (frs X.stack) fp H (upd H' s.heap.objs.size (.lst ys)) s.heap h':=by
  refine ⟨fun b o e q hb hx=>hs.extBut b o (lt1 e).1 (B.keep b o e q hb hx),fun b o e q hb hx=>?_,fun b o e q hx=>?_,fun b o e hx=>?_,fun b xs e=>?_,fun b o xs e=>?_,fun b ps e=>?_⟩
  ·obtain ⟨sl,e1⟩:=B.slot b o e q hb hx;exact ⟨sl,hs.extBut b _ (lt1 e).1 e1⟩
  ·rw[zZ (lt1 e).2];exact B.free b o e q hx
  ·obtain ⟨o',e1⟩:=B.there b o e hx;exact ⟨o',hs.extBut b _ (lt1 e).1 e1⟩
  ·have q:=B.tups b xs e;rw[zZ (tr b _ q).2];exact q
  ·have q:=B.frzs b o xs e;rw[zZ (tr b _ q).2];exact q
  ·obtain ⟨more,q⟩:=B.tbls b ps e;exact ⟨more,by rw[zZ (tr b _ q).2];exact q⟩
 have hok:HOk X.prog X.w (upd H' s.heap.objs.size (.lst ys)) h':=fun b u e=>by
  by_cases hb:b=s.heap.objs.size
  ·subst hb;rw[zw]at e;cases e;exact ⟨hz,its,n,rv,eD'⟩
  ·rw[zZ hb]at e;refine (Ic.hok b u e).stay (fun c v hc q=>hs.extBut c v ?_ q) (fun c q=>by rw[zZ (tr c _ q).2];exact q) fun c xs q=>by rw[zZ (tr c _ q).2];exact q
   rcases hc with z|z
   ·rw[z];exact (tr b u e).1
   ·exact (tr c _ z).1
 exact I.call' (s':={ s' with heap:=h' }) (ch:=fp) Ic.os un hok Ic.bare fun b hb=>⟨(hf b hb).2.2.2.1,(hf b hb).2.1,(hf b hb).2.2.2.2.1,(hf b hb).2.2.2.2.2⟩
end
section
variable {X:Cx} {scope:Scope} {tg elt iter:Expr} {ifs:List Expr} {pos:Pos} {own:List Nat} {wi:TI} {g:TG} {tc:TT} {te:TE}
structure CompParts (X:Cx) (scope:Scope) (tg:Expr) (ifs:List Expr) (elt:Expr) (g:TG) (tc:TT) (te:TE):Prop where
 g:∀ zB cl s H fp,PG (zL X zB scope cl s H fp) tg g
 c:∀ zB cl s H fp,zGQ (zL X zB scope cl s H fp) ifs tc
 e:∀ zB cl s H fp,PE (zL X zB scope cl s H fp) elt te
theorem CompScope.closure (S:CompScope X scope) (I:Inv X zB σ H s) :
  ∃ cl,closureFor scope X.env=pure cl/\(∀ x c,cl.lookup x=some c->X.env.cells.lookup x=some c) /\ ∀ y∈scope.names,y.2=.free->(cl.lookup y.1).isSome=true :=
 zII fun y hy hk=>I.ok.has y.1 (S.free y hy hk)
theorem zSY (C:CompIn X scope own) (hcalm:X.calm=true) (hi:PI X tg iter wi) (p:CompParts X scope tg ifs elt g tc te) (hs:∀ x,foldedSetIterable iter X.env x=pure x:=by intro _;rfl) :
  PE X (.ListComp elt [⟨tg,iter,ifs,0⟩] scope pos) (zPf own wi g tc te):=by
 intro zB s σ H Q I h;obtain ⟨cl,hcl,c1,c2⟩:=C.sc.closure I;rw[eval_ListComp];refine zYO (use:=none) rfl hs hcl C.sc.kind C.sc.names (thn (hi zB s σ H _ I h) fun v s1 h1=>thn h1 fun itv s2 h2=>?_);obtain ⟨it,fp,tn,J,H2,e,I2,T,st2,f2,W,⟨m0,w0⟩,turn⟩:=h2;subst e;refine zG4 C hcalm I2 T st2 f2 c1 c2 (p.g _ _ _ _ _) (p.c _ _ _ _ _) (p.e _ _ _ _ _) (RR:=fun acc C r s'=>compPost (model X.prog X.w) X.A X.xe none (EP X zB σ Q) acc C r s') (QQ:=fun ys H=>∀ D,H D=none->Q (.ref D) (upd H D (.lst ys))) w0 turn ?_;intro σc H' s' its n ys Ic rv hz qq;obtain ⟨m,hn,_⟩:=Ic.loc;refine ⟨m,hn,fun h' hs'=>?_⟩;obtain ⟨J',nD⟩:=zHZ I2 f2 Ic rv hz hs';exact ⟨.ref s2.heap.objs.size,_,J',rfl,qq _ nD⟩
theorem zMr (hN:X.N.Nodup) (hi':X.N[i]?=some x) (hx:Loc X.env.scope x) (hfn:X.fn x=true\/X.env.scope.names.lookup x=some .local)
  (C:CompIn X scope own) (hcalm:X.calm=true) (hi:PI X tg iter wi) (p:CompParts X scope tg ifs elt g tc te)
  (hsw:swapsWith (.ListComp elt [⟨tg,iter,ifs,0⟩] scope pos) (some (.Name x pos')) pos''.line X.env=pure true) (hs:∀ x,foldedSetIterable iter X.env x=pure x:=by intro _;rfl) :
  PS X (.Assign [.Name x pos'] (.ListComp elt [⟨tg,iter,ifs,0⟩] scope pos) pos'') (zPy (zPf own wi g tc te) (zDi i)):=by
 intro zB s σ H D I h;obtain ⟨cl,hcl,c1,c2⟩:=C.sc.closure I;rw[exec_Assign_Name_used _ _ _ _ hsw];refine zWU (zXS (zWU ?_))
 refine zWU (zW0 (zYO (use:=some (assign (.Name x pos') X.env)) (Q:=fun _ s'=>SP X zB D .next s') rfl hs hcl C.sc.kind C.sc.names
  (thn (hi zB s σ H _ I h) fun v s1 h1=>thn h1 fun itv s2 h2=>?_)) (fun _ s' hq=>zWW (zWW hq)) fun _ _ e=>e)
 obtain ⟨it,fp,tn,J,H2,e,I2,T,st2,f2,W,⟨m0,w0⟩,turn⟩:=h2;subst e
 refine zG4 C hcalm I2 T st2 f2 c1 c2 (p.g _ _ _ _ _) (p.c _ _ _ _ _) (p.e _ _ _ _ _) (RR:=fun acc C r s'=>compPost (model X.prog X.w) X.A X.xe (some (assign (.Name x pos') X.env)) (fun _ s'=>SP X zB D .next s') acc C r s')
  (QQ:=fun ys H=>∀ E,H E=none->zDi i (.ref E) σ (upd H E (.lst ys)) D.nx) w0 turn ?_
 intro σc H' s' its n ys Ic rv hz qq;obtain ⟨m,hn,_⟩:=Ic.loc;obtain ⟨J',nD⟩:=zHZ (h':=s'.heap) I2 f2 Ic rv hz (.refl ..);obtain ⟨oC,es,ep,hoC,hdC,r1,r2⟩:=id hn;have nC:upd H' s2.heap.objs.size (.lst ys) (s2.heap.objs.size+1)=none:=by rw[zZ (zXz (zXR _))];exact Ic.free
 have K':Inv X (zB++[(s2.heap.objs.size+1,oC)]) σ (upd H' s2.heap.objs.size (.lst ys)) s':=J'.pins_of fun q hq=>by
  rcases zWu.mp hq with z|z
  ·exact J'.pin q (zWo _ z)
  ·have e:q=(s2.heap.objs.size+1,oC):=by simpa using z
   subst e;refine ⟨hoC,nC,zXz (zXJ I2.lt),I2.nofs (Nat.le_succ _),fun v z=>?_⟩;have z':oC.data=.cell v:=z;rw[hdC]at z';cases z'
 refine thn (zJu hN hi' hx hfn _ s' σ _ (.ref s2.heap.objs.size) (.ref s2.heap.objs.size) _ K' rfl (qq _ nD)) fun _ s'' ⟨σ'',H'',I'',q''⟩=>?_;obtain ⟨eC,_⟩:=I''.pin (s2.heap.objs.size+1,oC) (by simp);refine ⟨m,⟨oC,es,ep,eC,hdC,r1,r2⟩,fun h' hs'=>⟨σ'',H'',?_,q''⟩⟩;have I3:Inv X zB σ'' H'' s'':=I''.unpinned;obtain ⟨_,nC'',neC,_,_⟩:=I''.pin (s2.heap.objs.size+1,oC) (by simp);refine I3.turned (t':=s''.toks) (it:=s2.heap.objs.size+1) (fun b o hb e=>hs'.extBut b o hb e) nC'' neC (.inr (zWv I2.sz (Nat.le_succ _))) (fun x c e z=>?_) (fun q hq z=>?_)
 ·obtain ⟨v,o,ho,hd⟩:=I3.cell x c e;rw[z,eC]at ho;cases ho;rw[hdC]at hd;cases hd
 ·obtain ⟨e,_⟩:=I2.pin q hq;exact zWp (zXJ (zWf e)) z
end
abbrev zBb (elt t1 i1:Expr) (f1:List Expr) (t2 i2:Expr) (f2:List Expr) (scope:Scope) (pos:Pos):Expr:=.ListComp elt [⟨t1,i1,f1,0⟩,⟨t2,i2,f2,0⟩] scope pos
theorem zIP (elt t1 i1:Expr) (f1:List Expr) (t2 i2:Expr) (f2:List Expr) (scope:Scope) (pos:Pos) (it acc:Value) (env:Env) :
  compTurn (zBb elt t1 i1 f1 t2 i2 f2 scope pos) 0 it acc env=(do
   standAt i1.pos;match <- pyNext it with
   |none=>pure (.done .next)
   |some v=>
    letOwnedTupleGo t1 it v;assign t1 env v;let mut ok:=true
    for c in f1 do
     if ok then ok <- isTrue c env (eval c env)
    if ok then
     let x <- eval i2 env;standAt i2.pos;let x <- foldedSetIterable i2 env x;let _ <- runOwn (.compStart (zBb elt t1 i1 f1 t2 i2 f2 scope pos) 1 (<- holding [x] (pyIter x)) acc env) env
    again (.compLoop (zBb elt t1 i1 f1 t2 i2 f2 scope pos) 0 it acc env)):=by rfl
theorem zJ1 (elt t1 i1:Expr) (f1:List Expr) (t2 i2:Expr) (f2:List Expr) (scope:Scope) (pos:Pos) (it acc:Value) (env:Env) :
  compTurn (zBb elt t1 i1 f1 t2 i2 f2 scope pos) 1 it acc env=(do
   standAt i2.pos;match <- pyNext it with
   |none=>pure (.done .next)
   |some v=>
    letOwnedTupleGo t2 it v;assign t2 env v;let mut ok:=true
    for c in f2 do
     if ok then ok <- isTrue c env (eval c env)
    if ok then
     (do let _ <- call (.builtin "list.append") [acc,<-eval elt env])
    again (.compLoop (zBb elt t1 i1 f1 t2 i2 f2 scope pos) 1 it acc env)):=by rfl
section
variable {prog:Program} {w:World} {A:Around} {E:Value->Shared->Prop} {R:Result->Shared->Prop} {s:Shared}
variable {elt t1 i1 t2 i2:Expr} {f1 f2:List Expr} {scope:Scope} {pos:Pos} {it acc:Value} {env:Env}
theorem zJ0 (I:Nat->Shared->Prop)
  (turn:∀ n s,I n s->wpAny (model prog w) A (pyNext it) (fun r s₁=>match r with
   |none=>R (.ok .next) s₁
   |some v=>wpAny (model prog w) A (letOwnedTupleGo t2 it v) (fun _ s₁'=>wpAny (model prog w) A (assign t2 env v) (fun _ s₂=>
     wpAny (model prog w) A (forIn f2 true fun c r=>if r=true then do let ok <- isTrue c env (eval c env);pure (ForInStep.yield ok) else pure (ForInStep.yield r)) (fun ok s₃=>
      if ok=true then wpAny (model prog w) A (eval elt env) (fun x s₄=>
       wpAny (model prog w) A (call (.builtin "list.append") [acc,x]) (fun _ s₅=>∃ m,m<n/\I m s₅) (fun _ _=>False) s₄) (fun _ _=>False) s₃
      else ∃ m,m<n/\I m s₃) (fun _ _=>False) s₂) (fun _ _=>False) s₁') (fun _ _=>False) s₁) (fun _ _=>False) s)
  (n:Nat) (h:I n s) :
  codeAny (model prog w) A (.compLoop (zBb elt t1 i1 f1 t2 i2 f2 scope pos) 1 it acc env) R s:=by
 refine codeAny_loop rfl I (fun n s hI=>?_) n h;show wpAny _ A ((compTurn (zBb elt t1 i1 f1 t2 i2 f2 scope pos) 1 it acc env).onRaise (fun x=>do noteFrame x env;theTreesLotGoes x)) _ _ s;refine wpAny_noted ?_;rw[zJ1];refine zWU (zXS (zWU (zW0 (turn n s hI) (fun r s₁ h₁=>?_) fun _ _ h'=>h'.elim)));cases r with
 |none=>exact zWW h₁
 |some v=>
  refine zWU (zW0 h₁ (fun _ s₁' h₁'=>?_) fun _ _ h'=>h'.elim);refine zWU (zW0 h₁' (fun _ s₂ h₂=>zWU (zW0 h₂ (fun ok s₃ h₃=>?_) fun _ _ h'=>h'.elim)) fun _ _ h'=>h'.elim);cases ok with
  |false=>exact zWW ⟨rfl,h₃⟩
  |true=>
   exact zWU (zWU (zW0 h₃ (fun x s₄ h₄=>zWU (zW0 h₄ (fun _ s₅ h₅=>zWW (zWW ⟨rfl,h₅⟩)) fun _ _ h'=>h'.elim)) fun _ _ h'=>h'.elim))
theorem zIL
  (h0:codeAny (model prog w) A (.compLoop (zBb elt t1 i1 f1 t2 i2 f2 scope pos) 1 it acc env) R s)
  (h:wpAny (model prog w) A (pyIter it) (fun it' s'=>codeAny (model prog w) A (.compLoop (zBb elt t1 i1 f1 t2 i2 f2 scope pos) 1 it' acc env) R s')
   (notedBy (model prog w) A env fun x s'=>R (.error x) s') s) :
  codeAny (model prog w) A (.compStart (zBb elt t1 i1 f1 t2 i2 f2 scope pos) 1 it acc env) R s:=by
 refine codeAny_of_tree ?_;show wpAny _ _ ((compStart (zBb elt t1 i1 f1 t2 i2 f2 scope pos) 1 it acc env).onRaise (fun x=>do noteFrame x env;standAt theWindowsPlace)) _ _ s;refine wpAny_notedAt ?_;unfold compStart;refine zWU (wpAny_askSetting (wpAny_ite ?_));split
 ·first
   |exact zWU (zWW (zWW (And.intro rfl h0)))
   |exact zWW (And.intro rfl h0)
 ·first
   |exact zWU (zXr (zWU (zXS (zWU (zW0 h (fun it' s' h'=>zWW (And.intro rfl h')) fun _ _ x=>x)))))
   | (refine zWU (zXr ?_);show wpAny _ _ (standAt i2.pos >>= _) _ _ s;exact zWU (zXS (zWU (zW0 h (fun it' s' h'=>zWW (And.intro rfl h')) fun _ _ x=>x))))
theorem zIE (hs2:∀ x,foldedSetIterable i2 env x=pure x) (I:Nat->Shared->Prop)
  (turn:∀ n s,I n s->wpAny (model prog w) A (pyNext it) (fun r s₁=>match r with
   |none=>R (.ok .next) s₁
   |some v=>wpAny (model prog w) A (letOwnedTupleGo t1 it v) (fun _ s₁'=>wpAny (model prog w) A (assign t1 env v) (fun _ s₂=>
     wpAny (model prog w) A (forIn f1 true fun c r=>if r=true then do let ok <- isTrue c env (eval c env);pure (ForInStep.yield ok) else pure (ForInStep.yield r)) (fun ok s₃=>
      if ok=true then wpAny (model prog w) A (eval i2 env) (fun x s₄=>wpAny (model prog w) A (pyIter x) (fun it2 s₅=>
       codeAny (model prog w) A (.compStart (zBb elt t1 i1 f1 t2 i2 f2 scope pos) 1 it2 acc env) (fun r s₆=>r=.ok .next /\ ∃ m,m<n/\I m s₆) s₅) (fun _ _=>False) s₄) (fun _ _=>False) s₃
      else ∃ m,m<n/\I m s₃) (fun _ _=>False) s₂) (fun _ _=>False) s₁') (fun _ _=>False) s₁) (fun _ _=>False) s)
  (n:Nat) (h:I n s) :
  codeAny (model prog w) A (.compLoop (zBb elt t1 i1 f1 t2 i2 f2 scope pos) 0 it acc env) R s:=by
 refine codeAny_loop rfl I (fun n s hI=>?_) n h;show wpAny _ A ((compTurn (zBb elt t1 i1 f1 t2 i2 f2 scope pos) 0 it acc env).onRaise (fun x=>do noteFrame x env;theTreesLotGoes x)) _ _ s;refine wpAny_noted ?_;rw[zIP];refine zWU (zXS (zWU (zW0 (turn n s hI) (fun r s₁ h₁=>?_) fun _ _ h'=>h'.elim)));cases r with
 |none=>exact zWW h₁
 |some v=>
  refine zWU (zW0 h₁ (fun _ s₁' h₁'=>?_) fun _ _ h'=>h'.elim);refine zWU (zW0 h₁' (fun _ s₂ h₂=>zWU (zW0 h₂ (fun ok s₃ h₃=>?_) fun _ _ h'=>h'.elim)) fun _ _ h'=>h'.elim);cases ok with
  |false=>exact zWW ⟨rfl,h₃⟩
  |true=>
   refine zWU (zW0 h₃ (fun x s₄ h₄=>zWU (zXS (zWU (wpAny_of_eq (hs2 x) (zWU (zXN (zW0 h₄ (fun it2 s₅ h₅=>?_) fun _ _ h'=>h'.elim))))))) fun _ _ h'=>h'.elim);refine zWU (wpAny_runOwn (codeAny_mono h₅ fun r s₆ hr=>?_));obtain ⟨rfl,hr⟩:=hr;exact zWW ⟨rfl,hr⟩
end
def tIn (own2:List Nat) (wi2:TI) (g2:TG) (tc2:TT) (te:TE) (σ2:St) (H3:Hp) (ys:List V) (QQ:List V->Hp->Prop):Prop :=
 wi2 σ2 H3 fun J2 H4=>∃ W2:Nat->Nat->List V->Hp->Prop,(∃ m,W2 0 m ys H4) /\ ∀ j m zs H,W2 j m zs H ->
  (J2.stop j H/\QQ zs H) \/
  (J2.go j H /\ ∀ x H',J2.yld j H x H'->g2 x (clr own2 σ2) H' fun σ3 H5=>Ext (clr own2 σ2) σ3/\tc2 σ3 H5 fun b H6=>
   if b=true then te σ3 H6 fun v H7=>zs.length<sizeLine /\ ∃ m',m'<m/\W2 (j+1) m' (zs++[v]) H7 else ∃ m',m'<m/\W2 (j+1) m' zs H6)
section
variable {C:Cx} {elt t1 i1 t2 i2:Expr} {f1 f2:List Expr} {scope:Scope} {pos:Pos} {pl:List (Addr × Obj)} {σ:St} {H:Hp} {s:Shared} {D:Addr}
 {own2:List Nat} {wi2:TI} {g2:TG} {tc2:TT} {te:TE} {R:Result->Shared->Prop}
theorem zPj (hxe:C.xe=fun _ _=>False) (hcalm:C.calm=true) (hi:PI C t2 i2 wi2) (hg:PG C t2 g2) (hc:zGQ C f2 tc2) (he:PE C elt te) (hD:C.s₀.heap.objs.size<=D)
  (hcD:∀ x c,C.env.cells.lookup x=some c->c≠D) (hpl:∀ p∈C.pn++pl,p.1≠D) (I:Inv C (pl++[(D,zj its k)]) σ H s) (rv:ze ys its) (h:tIn own2 wi2 g2 tc2 te σ H ys QQ)
  (fin:∀ s' H' its' k' zs,Inv C (pl++[(D,zj its' k')]) (clr own2 σ) H' s'->ze zs its'->QQ zs H'->R (.ok .next) s') :
  wpAny (model C.prog C.w) C.A (eval i2 C.env) (fun x s₄=>wpAny (model C.prog C.w) C.A (pyIter x) (fun it2 s₅=>
   codeAny (model C.prog C.w) C.A (.compStart (zBb elt t1 i1 f1 t2 i2 f2 scope pos) 1 it2 (.ref D) C.env) R s₅) (fun _ _=>False) s₄) (fun _ _=>False) s:=by
 have hpi:=hi _ s σ H _ I h;rw[hxe]at hpi;refine thn hpi fun v s1 h1=>thn h1 fun itv s2 h2=>?_;obtain ⟨it,fp,tn,J,H2,e,I2,T,st2,f2',W,⟨m0,w0⟩,turn⟩:=h2;subst e;have hDfp:D∉fp:=fun z=>(f2' D z).2.2.2.2.2 (D,zj its k) (by simp) rfl;have loop:∀ s',(∃ H',Inv C (pl++[(D,zj its k)]) (clr own2 σ) H' s'/\tn 0 s'.heap/\(∀ b∈fp,H' b=none)/\W 0 m0 ys H')->codeAny (model C.prog C.w) C.A (.compLoop (zBb elt t1 i1 f1 t2 i2 f2 scope pos) 1 (.ref it) (.ref D) C.env) R s':=by
  rintro s' ⟨H',I',st',hn',w'⟩;have fpk:∀ {H':Hp} {its:List Value} {k:Nat},(∀ b∈fp,H' b=none) -> ∀ b∈fp,zCE C (pl++[(D,zj its k)]) H' b:=fun {H' its k} hn b hb=>by
   obtain ⟨_,a2,a3,a4,a5,a6⟩:=f2' b hb;refine ⟨hn b hb,a2,a3,a4,a5,fun p hp=>?_⟩;rcases zWu.mp hp with z|z
   ·exact a6 p (zXj _ z)
   ·rcases zWu.mp z with z|z
    ·exact a6 p (zWo _ (zXj _ z))
    ·have:p=(D,zj its k):=by simpa using z
     rw[this];intro q;have q':D=b:=q;exact hDfp (q'▸hb)
  refine zJ0 (fun n s'=>∃ i H' ys its k,Inv C (pl++[(D,zj its k)]) (clr own2 σ) H' s'/\ze ys its/\tn i s'.heap/\(∀ b∈fp,H' b=none)/\W i n ys H') ?_ m0 ⟨0,H',ys,its,k,I',rv,st',hn',w'⟩;rintro n s5 ⟨i,H5,ys,its,k,I5,r5,st5,f5,w5⟩;rcases turn i n ys H5 w5 with ⟨stop,qq⟩|⟨go,step⟩
  ·refine thn (T.done C rfl rfl rfl hcalm i _ s5 _ H5 _ I5 (fpk f5) st5 stop) fun r s6 ⟨hr,I6⟩=>?_;subst hr;exact fin s6 H5 its k ys I6 r5 qq
  ·refine thn (T.item C rfl rfl rfl hcalm i _ s5 _ H5 _ I5 (fpk f5) st5 go) fun r s6 ⟨u,hr,h6⟩=>?_;subst hr;refine thn h6 fun _ s7 ⟨x,H7,I7,r7,y7,st7,f7⟩=>?_;have I7':=I7.pinned (fpk f7) (T.obj _ _ st7);have hgg:=hg _ s7 _ H7 x u _ I7' r7 (step x H7 y7);rw[hxe]at hgg;refine thn hgg fun _ s8 ⟨σ8,H8,I8,x8,q8⟩=>?_;have hcc:=hc _ s8 σ8 H8 _ I8 q8;rw[hxe]at hcc;refine thn hcc fun ok s9 ⟨H9,I9,q9⟩=>?_;have back:∀ {s':Shared} {Hx:Hp},Inv C ((pl++[(D,zj its k)])++zC3 fp s7.heap) σ8 Hx s'->tn (i+1) s'.heap /\ ∀ b∈fp,Hx b=none:=fun {s' Hx} Ix=>
    ⟨T.keep _ _ _ st7 fun b hb o e=>(Ix.pin (b,o) (zWo _ (zWo _ (zAQ hb e)))).1,fun b hb=>by
     obtain ⟨o,e,d⟩:=T.obj _ _ st7 b hb;exact (Ix.pin (b,o) (zWo _ (zWo _ (zAQ hb e)))).2.1⟩
   cases ok with
   |false=>
    obtain ⟨m',hm,w'⟩:=q9;obtain ⟨b1,b2⟩:=back I9;exact ⟨m',hm,i+1,H9,ys,its,k,(I9.weak (by rw[x8.1]) x8.2).unpinned,r5,b1,b2,w'⟩
   |true=>
    have hee:=he _ s9 σ8 H9 _ I9 q9;rw[hxe]at hee;refine thn hee fun v s10 ⟨y,H10,I10,r10,hlt,m',hm,w'⟩=>?_;obtain ⟨b1,b2⟩:=back I10;have J10:=(I10.weak (by rw[x8.1]) x8.2).unpinned;obtain ⟨e10,n10,ne10,nf10,d10⟩:=J10.pin (D,zj its k) (by simp);have hlen:its.toArray.size<=sizeLine:=by
     have:=r5.length;rw[zWc,<-this];exact Nat.le_of_lt hlt
    refine wpAny_list_append_plain (hsz:=hlen) (show s10.heap.PlainList D its.toArray from ⟨k,e10⟩) fun h' hl' hs'=>?_;obtain ⟨k',e'⟩:=hl';have e'':h'.get? D=some (zj (its++[v]) k'):=by rw[e'];simp[zj]
    refine ⟨m',hm,i+1,H10,ys++[y],its++[v],k',?_,r5.append (.cons r10 .nil),T.keep _ _ _ b1 fun b hb o e=>hs'.extBut b o (fun z=>hDfp (z▸hb)) e,b2,w'⟩;exact Inv.repin (pl:=pl) J10 hpl hs' hD hcD e'' (by intro v z;cases z)
 have l0:=loop s2 ⟨H2,I2.weak (zBU own2 σ) (fun i v h=>(zCr own2 σ i v h).1),st2,fun b hb=>(f2' b hb).1,w0⟩;exact zIL l0 (T.self _ 0 _ _ _ st2 l0)
end
section
variable {X:Cx} {zB:List (Addr × Obj)} {σ:St} {H:Hp} {s:Shared} {scope:Scope} {cl:List (Str × Addr)} {fp:List Addr} {it:Addr} {tn:Nat->Heap->Prop} {J:It} {elt t1 i1 t2 i2:Expr} {f1 f2:List Expr} {pos:Pos}
 {own own2:List Nat} {g g2:TG} {tc tc2:TT} {te:TE} {wi wi2:TI} {E:Value->Shared->Prop}
theorem zLU:∀ (own:List Nat) (σ:St) (j:Nat),j∉own->(clr own σ)[j]?=σ[j]?
 |[],_,_,_=>rfl
 |i::r,σ,j,h=>by
  show (clr r (σ.set i none))[j]?=_;rw[zLU r _ j (fun z=>h (zWh _ z)),zWy (fun z=>h (by rw[z];exact zWi))]
theorem zKx (hsub:∀ i∈own2,i∈own) (C:CompIn X scope own) (hcalm:X.calm=true) (I:Inv X zB σ H s) (T:Turn X.prog X.w X.K t1 J fp it tn) (st:tn 0 s.heap) (hf:∀ b∈fp,zCE X zB H b)
  (c1:∀ x c,cl.lookup x=some c->X.env.cells.lookup x=some c) (c2:∀ y∈scope.names,y.2=.free->(cl.lookup y.1).isSome=true)
  (hg:PG (zL X zB scope cl s H fp) t1 g) (hi:zGQ (zL X zB scope cl s H fp) f1 tc)
  (hi2:PI (zL X zB scope cl s H fp) t2 i2 wi2) (hg2:PG (zL X zB scope cl s H fp) t2 g2) (hc2:zGQ (zL X zB scope cl s H fp) f2 tc2) (he:PE (zL X zB scope cl s H fp) elt te)
  (hs2:∀ x,foldedSetIterable i2 (zL X zB scope cl s H fp).env x=pure x)
  {RR:Value->Addr->Result->Shared->Prop} {QQ:List V->Hp->Prop} {W:Nat->Nat->List V->Hp->Prop} {m0:Nat} (w0:W 0 m0 [] H)
  (turn:∀ i m ys H,W i m ys H->(J.stop i H/\ys.length<=sizeLine/\QQ ys H) \/
   (J.go i H /\ ∀ x H',J.yld i H x H'->g x (clr own σ) H' fun σ2 H2=>Ext (clr own σ) σ2/\tc σ2 H2 fun b H3=>
    if b=true then tIn own2 wi2 g2 tc2 te σ2 H3 ys fun zs H4=>∃ m',m'<m/\W (i+1) m' zs H4 else ∃ m',m'<m/\W (i+1) m' ys H3))
  (fin:∀ σc H' s' its n ys,Inv (zL X zB scope cl s H fp) [(s.heap.objs.size,zj its n)] σc H' s'->ze ys its->ys.length<=sizeLine->QQ ys H'->RR (.ref s.heap.objs.size) (s.heap.objs.size+1) (.ok .next) s') :
  wpAny (model X.prog X.w) X.A (newList []) (fun acc s₃=>wpAny (model X.prog X.w) X.A (newFunctionEnv scope X.env.globals cl [] X.env.qual none .none (some X.env)) (fun cenv s₄=>
   codeAny (model X.prog X.w) X.A (.compStart (zBb elt t1 i1 f1 t2 i2 f2 scope pos) 0 (.ref it) acc { cenv with scope:=relabel scope X.env }) (RR acc cenv.locals) s₄) E s₃) E s:=by
 have ob:∀ b:Nat,b∈fp->b<s.heap.objs.size:=fun b hb=>let ⟨_,e,_⟩:=T.obj 0 _ st b hb;zWf e;refine zWx (zCm ?_);have sz1:(s.heap.push (zj [] 0)).objs.size=s.heap.objs.size+1:=zXA ..;have I4:=zFA (X:=X) (zB:=zB) (σ:=σ) (σc:=clr own σ) (H:=H) (s:=s) (scope:=scope) (cl:=cl) (fp:=fp) C.sc I hf ob c1 c2 (zBU own σ) (fun i x v h1 h2 h3=>by
  obtain ⟨a,b⟩:=zCr own σ i v h2;rcases C.nm i x h1 with z|z|z
  ·exact absurd z b
  ·exact absurd (zCL x z) h3
  ·exact ⟨z,a⟩) (zj [] 0) (by intro v z;cases z) rfl rfl
 have st4:tn 0 (pushCells ((s.heap.push (zj [] 0)).push { cls:=.type "dict", data:=.dict #[] }) scope.names):=T.keep 0 _ _ st fun b _ o e=>pushCells_keeps _ _ b o (zWV _ (zWV _ e));unfold newEnv;rw[sz1];have hDfp:s.heap.objs.size∉fp:=fun z=>zXC _ (ob _ z);have hcD:∀ x c,(zL X zB scope cl s H fp).env.cells.lookup x=some c->c≠s.heap.objs.size:=fun x c e z=>by
  obtain ⟨v,o,ho,hd⟩:=I4.cell x c e;obtain ⟨q,_⟩:=I4.pin (s.heap.objs.size,zj [] 0) (by simp);rw[z,q]at ho;cases ho;cases hd
 have fpk:∀ {H':Hp} {pl:List (Addr × Obj)},(∀ b∈fp,H' b=none)->(∀ p∈pl,p.1=s.heap.objs.size) -> ∀ b∈fp,zCE (zL X zB scope cl s H fp) pl H' b:=fun {H' pl} hn hp b hb=>
  ⟨hn b hb,(I4.ok.exf b hb).1,I4.ok.exfs b hb,.inl hb,(I4.ok.exf b hb).2,fun p hq=>by
   rcases zWu.mp hq with z|z
   ·exact (hf b hb).2.2.2.2.2 p z
   ·intro e;have e2:=hp p z;rw[e]at e2;exact hDfp (e2▸hb)⟩
 have loop:codeAny (model X.prog X.w) X.A (.compLoop (zBb elt t1 i1 f1 t2 i2 f2 scope pos) 0 (.ref it) (.ref s.heap.objs.size) (zL X zB scope cl s H fp).env) (RR (.ref s.heap.objs.size) (s.heap.objs.size+1))
   { s with heap:=pushCells ((s.heap.push (zj [] 0)).push { cls:=.type "dict", data:=.dict #[] }) scope.names }:=by
  refine zIE hs2 (fun n s'=>∃ i H' ys its k,Inv (zL X zB scope cl s H fp) [(s.heap.objs.size,zj its k)] (clr own σ) H' s'/\ze ys its/\tn i s'.heap/\(∀ b∈fp,H' b=none)/\W i n ys H') ?_ m0
   ⟨0,H,[],[],0,I4,.nil,st4,fun b hb=>(hf b hb).1,w0⟩
  rintro n s5 ⟨i,H5,ys,its,k,I5,r5,st5,f5,w5⟩;have pinD:∀ p∈[(s.heap.objs.size,zj its k)],p.1=s.heap.objs.size:=fun p hp=>by
   have:p=(s.heap.objs.size,zj its k):=by simpa using hp
   rw[this]
  rcases turn i n ys H5 w5 with ⟨stop,hz,qq⟩|⟨go,step⟩
  ·refine thn (T.done (zL X zB scope cl s H fp) rfl rfl rfl hcalm i _ s5 _ H5 _ I5 (fpk f5 pinD) st5 stop) fun r s6 ⟨hr,I6⟩=>?_;subst hr;exact fin _ H5 s6 its k ys I6 r5 hz qq
  ·refine thn (T.item (zL X zB scope cl s H fp) rfl rfl rfl hcalm i _ s5 _ H5 _ I5 (fpk f5 pinD) st5 go) fun r s6 ⟨u,hr,h6⟩=>?_;subst hr;refine thn h6 fun _ s7 ⟨x,H7,I7,r7,y7,st7,f7⟩=>?_;have I7':=I7.pinned (fpk f7 pinD) (T.obj _ _ st7);refine thn (hg _ s7 _ H7 x u _ I7' r7 (step x H7 y7)) fun _ s8 ⟨σ8,H8,I8,x8,q8⟩=>?_;refine thn (hi _ s8 σ8 H8 _ I8 q8) fun ok s9 ⟨H9,I9,q9⟩=>?_;have back:∀ {σx:St} {s':Shared} {Hx:Hp} {its:List Value} {k:Nat},(clr own σ).length=σx.length->(∀ (i:Nat) v,(clr own σ)[i]?=some (some v)->σx[i]?=some (some v))->Inv (zL X zB scope cl s H fp) (zC3 fp s7.heap++[(s.heap.objs.size,zj its k)]) σx Hx s'->Inv (zL X zB scope cl s H fp) [(s.heap.objs.size,zj its k)] (clr own σ) Hx s'/\tn (i+1) s'.heap /\ ∀ b∈fp,Hx b=none:=fun {σx s' Hx its k} hl hk Ix=>
    ⟨(Ix.weak hl hk).pins_of fun p hp=>Ix.pin p (zWo _ (zWo _ hp)),
     T.keep _ _ _ st7 fun b hb o e=>(Ix.pin (b,o) (zWo _ (zXj _ (zAQ hb e)))).1,fun b hb=>by
     obtain ⟨o,e,d⟩:=T.obj _ _ st7 b hb;exact (Ix.pin (b,o) (zWo _ (zXj _ (zAQ hb e)))).2.1⟩
   have I9':Inv (zL X zB scope cl s H fp) (zC3 fp s7.heap++[(s.heap.objs.size,zj its k)]) σ8 H9 s9:=I9.pins_of fun p hp=>I9.pin p (zWo _ (by
    rcases zWu.mp hp with z|z
    ·exact zWo _ z
    ·exact zXj _ z))
   cases ok with
   |false=>
    obtain ⟨m',hm,w'⟩:=q9;obtain ⟨b0,b1,b2⟩:=back (by rw[x8.1]) x8.2 I9';exact ⟨m',hm,i+1,H9,ys,its,k,b0,r5,b1,b2,w'⟩
   |true=>
    refine zPj (C:=zL X zB scope cl s H fp) rfl hcalm hi2 hg2 hc2 he (zWa _) hcD (fun p hp=>?_) I9' r5 q9 fun s' H' its' k' zs I' rv' q'=>?_
    ·rcases zWu.mp hp with z|z
     ·exact zWp (zWf (I.pin p z).1)
     ·obtain ⟨hb,_⟩:=zIm z;exact zWp (ob _ hb)
    ·obtain ⟨m',hm,w'⟩:=q';obtain ⟨b0,b1,b2⟩:=back (by rw[zBU own2,x8.1]) (fun i v hv=>by rw[zLU own2 _ i (fun z=>(zCr own σ i v hv).2 (hsub i z))];exact x8.2 i v hv) I';exact ⟨rfl,m',hm,i+1,H',zs,its',k',b0,rv',b1,b2,w'⟩
 exact codeAny_compStart_list loop (T.self _ 0 _ _ _ st4 loop)
def zQH (own own2:List Nat) (wi:TI) (g:TG) (tc:TT) (wi2:TI) (g2:TG) (tc2:TT) (te:TE):TE:=fun σ H Q=>wi σ H fun J H1=>∃ W:Nat->Nat->List V->Hp->Prop,(∃ m,W 0 m [] H1) /\ ∀ i m ys H,W i m ys H ->
 (J.stop i H/\ys.length<=sizeLine /\ ∀ D,H D=none->Q (.ref D) (upd H D (.lst ys))) \/
 (J.go i H /\ ∀ x H',J.yld i H x H'->g x (clr own σ) H' fun σ2 H2=>Ext (clr own σ) σ2/\tc σ2 H2 fun b H3=>
  if b=true then tIn own2 wi2 g2 tc2 te σ2 H3 ys fun zs H4=>∃ m',m'<m/\W (i+1) m' zs H4 else ∃ m',m'<m/\W (i+1) m' ys H3)
structure CompParts2 (X:Cx) (scope:Scope) (t1:Expr) (f1:List Expr) (t2 i2:Expr) (f2:List Expr) (elt:Expr) (g:TG) (tc:TT) (wi2:TI) (g2:TG) (tc2:TT) (te:TE):Prop where
 g:∀ zB cl s H fp,PG (zL X zB scope cl s H fp) t1 g
 c:∀ zB cl s H fp,zGQ (zL X zB scope cl s H fp) f1 tc
 w2:∀ zB cl s H fp,PI (zL X zB scope cl s H fp) t2 i2 wi2
 g2:∀ zB cl s H fp,PG (zL X zB scope cl s H fp) t2 g2
 c2:∀ zB cl s H fp,zGQ (zL X zB scope cl s H fp) f2 tc2
 e:∀ zB cl s H fp,PE (zL X zB scope cl s H fp) elt te
 s2:∀ zB cl s H fp x,foldedSetIterable i2 (zL X zB scope cl s H fp).env x=pure x
theorem zQ1 (hsub:∀ i∈own2,i∈own) (C:CompIn X scope own) (hcalm:X.calm=true) (hi:PI X t1 i1 wi) (p:CompParts2 X scope t1 f1 t2 i2 f2 elt g tc wi2 g2 tc2 te) (hs:∀ x,foldedSetIterable i1 X.env x=pure x:=by intro _;rfl) :
  PE X (zBb elt t1 i1 f1 t2 i2 f2 scope pos) (zQH own own2 wi g tc wi2 g2 tc2 te):=by
 intro zB s σ H Q I h;obtain ⟨cl,hcl,c1,c2⟩:=C.sc.closure I;rw[eval_ListComp];refine zYO (use:=none) rfl hs hcl C.sc.kind C.sc.names (thn (hi zB s σ H _ I h) fun v s1 h1=>thn h1 fun itv s2 h2=>?_);obtain ⟨it,fp,tn,J,H2,e,I2,T,st2,f2,W,⟨m0,w0⟩,turn⟩:=h2;subst e;refine zKx hsub C hcalm I2 T st2 f2 c1 c2 (p.g _ _ _ _ _) (p.c _ _ _ _ _) (p.w2 _ _ _ _ _) (p.g2 _ _ _ _ _) (p.c2 _ _ _ _ _) (p.e _ _ _ _ _) (p.s2 _ _ _ _ _) (RR:=fun acc C r s'=>compPost (model X.prog X.w) X.A X.xe none (EP X zB σ Q) acc C r s') (QQ:=fun ys H=>∀ D,H D=none->Q (.ref D) (upd H D (.lst ys))) w0 turn ?_;intro σc H' s' its n ys Ic rv hz qq;obtain ⟨m,hn,_⟩:=Ic.loc;refine ⟨m,hn,fun h' hs'=>?_⟩;obtain ⟨J',nD⟩:=zHZ I2 f2 Ic rv hz hs';exact ⟨.ref s2.heap.objs.size,_,J',rfl,qq _ nD⟩
end
end L2
namespace L3
open PySem PySem.Spec PyProof.Rows L2
abbrev Sv:=List (Option V)
set_option genInjectivity true in
inductive D where
 |non|bl (b:Bool)|int (i:Int)|str (x:Str)|tup (xs:List D)|ref (n:Nat)
set_option genInjectivity true in
inductive MO where
 |lst (xs:List D)|fro (xs:List D)|dict (kvs:List (D × D))|dicT (kvs:List (D × D))|set (xs:List D)|froT (kvs:List (D × D))|froK (kvs:List (D × D))
mutual
def Rep (L:List Addr) (H:Hp):D->V->Prop
 |.non,v=>v=.non
 |.bl b,v=>v=.bl b
 |.int i,v=>v=.int i
 |.str x,v=>v=.str x
 |.tup ds,v=>∃ a vs,v=.ref a/\H a=some (.tup vs)/\zQ L H ds vs
 |.ref n,v=>∃ a,v=.ref a/\L[n]?=some a
def zQ (L:List Addr) (H:Hp):List D->List V->Prop
 |[],vs=>vs=[]
 |d::ds,vs=>∃ v r,vs=v::r/\Rep L H d v/\zQ L H ds r
end
theorem zQ.length:∀ {ds:List D} {vs:List V},zQ L H ds vs->vs.length=ds.length
 |[],_,h=>by unfold zQ at h;subst h;rfl
 |d::ds,_,h=>by
  unfold zQ at h;obtain ⟨v,r,rfl,_,h2⟩:=h;simp[zQ.length h2]
theorem zQ.nil:zQ L H [] []:=by unfold zQ;rfl
theorem zQ.cons (h:Rep L H d v) (t:zQ L H ds vs):zQ L H (d::ds) (v::vs):=by
 unfold zQ;exact ⟨v,vs,rfl,h,t⟩
theorem zQ.get:∀ {ds:List D} {vs:List V} {i:Nat} {d:D},zQ L H ds vs->ds[i]?=some d -> ∃ v,vs[i]?=some v/\Rep L H d v
 |[],_,_,_,_,e=>by simp at e
 |d::ds,_,0,d',h,e=>by
  unfold zQ at h;obtain ⟨v,r,rfl,h1,h2⟩:=h;simp at e;subst e;exact ⟨v,rfl,h1⟩
 |d::ds,_,i+1,d',h,e=>by
  unfold zQ at h;obtain ⟨v,r,rfl,h1,h2⟩:=h;obtain ⟨u,e1,e2⟩:=zQ.get (i:=i) h2 (by simpa using e);exact ⟨u,by simpa using e1,e2⟩
theorem zQ.app:∀ {ds es:List D} {vs ws:List V},zQ L H ds vs->zQ L H es ws->zQ L H (ds++es) (vs++ws)
 |[],_,_,_,h,t=>by unfold zQ at h;subst h;exact t
 |d::ds,_,_,_,h,t=>by
  unfold zQ at h;obtain ⟨v,r,rfl,h1,h2⟩:=h;exact .cons h1 (zQ.app h2 t)
theorem zQ.set (h:Rep L H d v):∀ {ds:List D} {vs:List V} (i:Nat),zQ L H ds vs->zQ L H (ds.set i d) (vs.set i v)
 |[],_,_,t=>by unfold zQ at t;subst t;exact .nil
 |_::_,_,0,t=>by
  unfold zQ at t;obtain ⟨v',r,rfl,h1,h2⟩:=t;exact .cons h h2
 |_::_,_,i+1,t=>by
  unfold zQ at t;obtain ⟨v',r,rfl,h1,h2⟩:=t;exact .cons h1 (zQ.set h i h2)
theorem zQ.drop:∀ {ds:List D} {vs:List V} (n:Nat),zQ L H ds vs->zQ L H (ds.drop n) (vs.drop n)
 |_,_,0,t=>t
 |[],_,n+1,t=>by unfold zQ at t;subst t;exact .nil
 |_::_,_,n+1,t=>by
  unfold zQ at t;obtain ⟨v',r,rfl,h1,h2⟩:=t;exact zQ.drop n h2
theorem zQ.take:∀ {ds:List D} {vs:List V} (n:Nat),zQ L H ds vs->zQ L H (ds.take n) (vs.take n)
 |_,_,0,t=> .nil
 |[],_,n+1,t=>by unfold zQ at t;subst t;exact .nil
 |_::_,_,n+1,t=>by
  unfold zQ at t;obtain ⟨v',r,rfl,h1,h2⟩:=t;exact .cons h1 (zQ.take n h2)
theorem zQ.eraseIdx:∀ {ds:List D} {vs:List V} (n:Nat),zQ L H ds vs->zQ L H (ds.eraseIdx n) (vs.eraseIdx n)
 |[],_,n,t=>by unfold zQ at t;subst t;exact .nil
 |_::_,_,0,t=>by
  unfold zQ at t;obtain ⟨v',r,rfl,h1,h2⟩:=t;exact h2
 |_::_,_,n+1,t=>by
  unfold zQ at t;obtain ⟨v',r,rfl,h1,h2⟩:=t;exact .cons h1 (zQ.eraseIdx n h2)
structure Stp (L:List Addr) (H:Hp) (L':List Addr) (H':Hp):Prop where
 pre:∃ N,L'=L++N
 new:∀ a∈L',a∈L\/H a=none
 old:∀ a o,H a=some o->a∉L->H' a=some o
 tup:∀ a xs,H a=some (.tup xs)->H' a=some (.tup xs)
 frz:∀ a o u,H a=some (.frz o u)->H' a=some (.frz o u)
theorem Stp.refl (L:List Addr) (H:Hp):Stp L H L H:=⟨⟨[],by simp⟩,fun _ h=> .inl h,fun _ _ h _=>h,fun _ _ h=>h,fun _ _ _ h=>h⟩
theorem Stp.trans (a:Stp L H L1 H1) (b:Stp L1 H1 L2 H2):Stp L H L2 H2:=by
 obtain ⟨N,rfl⟩:=a.pre;obtain ⟨N',rfl⟩:=b.pre;have back:∀ c,c∉L->H1 c=none->H c=none:=fun c hc h1=>by
  cases q:H c with
  |none=>rfl
  |some o=>rw[a.old c o q hc]at h1;cases h1
 refine ⟨⟨N++N',by simp⟩,fun c hc=>?_,fun c o e hc=>?_,fun c xs e=>b.tup c xs (a.tup c xs e),fun c o u e=>b.frz c o u (a.frz c o u e)⟩
 ·by_cases hL:c∈L
  ·exact .inl hL
  ·rcases b.new c hc with z|z
   ·exact a.new c z
   ·exact .inr (back c hL z)
 ·refine b.old c o (a.old c o e hc) fun z=>?_;rcases a.new c z with q|q
  ·exact hc q
  ·rw[q]at e;cases e
theorem Stp.grow (h:∀ a o,H a=some o->H' a=some o):Stp L H L H':=⟨⟨[],by simp⟩,fun _ h=> .inl h,fun a o e _=>h a o e,fun a _ e=>h a _ e,fun a _ _ e=>h a _ e⟩
theorem Stp.upd (h:H p=none):Stp L H L (upd H p o):=.grow fun a u e=>by rw[zZ (zAI e h)];exact e
theorem zBh {L N:List Addr} {n:Nat} {a:Addr} (h:L[n]?=some a):(L++N)[n]?=some a:=by
 rw[zWb (zWX.mp h).1];exact h
mutual
theorem Rep.stp {L L':List Addr} {H H':Hp} (s:Stp L H L' H'):∀ {d:D} {v:V},Rep L H d v->Rep L' H' d v
 |.non,_,h=>by unfold Rep at h ⊢;exact h
 |.bl _,_,h=>by unfold Rep at h ⊢;exact h
 |.int _,_,h=>by unfold Rep at h ⊢;exact h
 |.str _,_,h=>by unfold Rep at h ⊢;exact h
 |.tup ds,_,h=>by
  unfold Rep at h ⊢;obtain ⟨a,vs,rfl,e,r⟩:=h;exact ⟨a,vs,rfl,s.tup a vs e,zQ.stp s r⟩
 |.ref n,_,h=>by
  unfold Rep at h ⊢;obtain ⟨a,rfl,e⟩:=h;obtain ⟨N,rfl⟩:=s.pre;exact ⟨a,rfl,zBh e⟩
theorem zQ.stp (s:Stp L H L' H'):∀ {ds:List D} {vs:List V},zQ L H ds vs->zQ L' H' ds vs
 |[],_,h=>by unfold zQ at h ⊢;exact h
 |d::ds,_,h=>by
  unfold zQ at h ⊢;obtain ⟨v,r,rfl,h1,h2⟩:=h;exact ⟨v,r,rfl,Rep.stp s h1,zQ.stp s h2⟩
end
def zCM:D->Option Key
 |.int i=>some (.inl i)
 |.str x=>some (.inr x)
 |_=>none
def zHs:List D->Option (List Key)
 |[]=>some []
 |d::r=>match zCM d,zHs r with
  |some k,some ks=>some (k::ks)
  |_,_=>none
def tkD:D->Option (List Key)
 |.tup ds=>zHs ds
 |_=>none
def zA0 {κ:Type} (kf:D->Option κ) (L:List Addr) (H:Hp):List (D × D)->List (κ × V)->Prop
 |[],vs=>vs=[]
 |p::r,vs=>∃ k v r',vs=(k,v)::r'/\kf p.1=some k/\Rep L H p.2 v/\zA0 kf L H r r'
theorem zA0.stp {κ:Type} {kf:D->Option κ} {L L':List Addr} {H H':Hp} (s:Stp L H L' H'):∀ {ps:List (D × D)} {vs:List (κ × V)},zA0 kf L H ps vs->zA0 kf L' H' ps vs
 |[],_,h=>h
 |p::r,_,h=>by
  obtain ⟨k,v,r',rfl,e,h1,h2⟩:=h;exact ⟨k,v,r',rfl,e,h1.stp s,zA0.stp s h2⟩
theorem zA0.length {κ:Type} {kf:D->Option κ} {L:List Addr} {H:Hp}:∀ {ps:List (D × D)} {vs:List (κ × V)},zA0 kf L H ps vs->vs.length=ps.length
 |[],_,h=>by unfold zA0 at h;subst h;rfl
 |p::r,_,h=>by
  obtain ⟨k,v,r',rfl,e,h1,h2⟩:=h;simp[zA0.length h2]
def zGr (K:PySem.W.Frag) (L:List Addr) (H:Hp) (a:Addr):MO->Prop
 |.lst xs=>∃ vs,H a=some (.lst vs)/\zQ L H xs vs
 |.fro xs=>∃ o vs,H a=some (.frz o (.lst vs))/\zQ L H xs vs
 |.dict ps=>∃ vs,H a=some (.dK vs)/\zA0 zCM L H ps vs
 |.dicT ps=>∃ vs,H a=some (.dT vs)/\zA0 tkD L H ps vs
 |.set _=>∃ o u,H a=some (.frz o u)
 |.froT ps=>∃ o vs,H a=some (.frz o (.dT vs))/\zA0 tkD L H ps vs
 |.froK ps=>∃ o vs,H a=some (.frz o (.dK vs))/\zA0 zCM L H ps vs
theorem zGr.there {K:PySem.W.Frag} {L:List Addr} {H:Hp} {a:Addr} {m:MO} (h:zGr K L H a m):∃ o,H a=some o:=by
 cases m with
 |lst xs=>obtain ⟨vs,e,_⟩:=h;exact ⟨_,e⟩
 |fro xs=>obtain ⟨o,vs,e,_⟩:=h;exact ⟨_,e⟩
 |dict ps=>obtain ⟨vs,e,_⟩:=h;exact ⟨_,e⟩
 |dicT ps=>obtain ⟨vs,e,_⟩:=h;exact ⟨_,e⟩
 |set _=>obtain ⟨o,u,e⟩:=h;exact ⟨_,e⟩
 |froT ps=>obtain ⟨o,vs,e,_⟩:=h;exact ⟨_,e⟩
 |froK ps=>obtain ⟨o,vs,e,_⟩:=h;exact ⟨_,e⟩
theorem zGr.stp {K:PySem.W.Frag} {L L':List Addr} {H H':Hp} {a:Addr} {m:MO} (s:Stp L H L' H') (hk:∀ o,H a=some o->H' a=some o) (h:zGr K L H a m):zGr K L' H' a m:=by
 cases m with
 |lst xs=>obtain ⟨vs,e,r⟩:=h;exact ⟨vs,hk _ e,r.stp s⟩
 |fro xs=>obtain ⟨o,vs,e,r⟩:=h;exact ⟨o,vs,hk _ e,r.stp s⟩
 |dict ps=>obtain ⟨vs,e,r⟩:=h;exact ⟨vs,hk _ e,r.stp s⟩
 |dicT ps=>obtain ⟨vs,e,r⟩:=h;exact ⟨vs,hk _ e,r.stp s⟩
 |set _=>obtain ⟨o,u,e⟩:=h;exact ⟨o,u,hk _ e⟩
 |froT ps=>obtain ⟨o,vs,e,r⟩:=h;exact ⟨o,vs,hk _ e,r.stp s⟩
 |froK ps=>obtain ⟨o,vs,e,r⟩:=h;exact ⟨o,vs,hk _ e,r.stp s⟩
structure Cor (K:PySem.W.Frag) (L:List Addr) (M:List MO) (H:Hp):Prop where
 len:L.length=M.length
 nd:L.Nodup
 obj:∀ (n:Nat) a m,L[n]?=some a->M[n]?=some m->zGr K L H a m
def zBe (L:List Addr) (H:Hp) (σ:List (Option D)) (τ:Sv):Prop:=τ.length=σ.length /\ ∀ (i:Nat) d,σ[i]?=some (some d) -> ∃ v,τ[i]?=some (some v)/\Rep L H d v
theorem zBe.stp (s:Stp L H L' H') (h:zBe L H σ τ):zBe L' H' σ τ :=
 ⟨h.1,fun i d e=>let ⟨v,e1,r⟩:=h.2 i d e;⟨v,e1,r.stp s⟩⟩
theorem Cor.tracked {K:PySem.W.Frag} {L:List Addr} {M:List MO} {H:Hp} (c:Cor K L M H) {a:Addr} (h:a∈L):∃ o,H a=some o:=by
 obtain ⟨n,hn⟩:=List.getElem?_of_mem h;have hl:n<M.length:=by rw[<-c.len];exact (zWX.mp hn).1
 have m:=c.obj n a M[n] hn (zWY hl);exact m.there
theorem Cor.grow {K:PySem.W.Frag} {L:List Addr} {M:List MO} {H H':Hp} (c:Cor K L M H) (h:∀ a o,H a=some o->H' a=some o):Cor K L M H':=by
 exact ⟨c.len,c.nd,fun n a m e1 e2=>(c.obj n a m e1 e2).stp (.grow h) fun o e=>h a o e⟩
theorem Cor.upd {K:PySem.W.Frag} {L:List Addr} {M:List MO} {H:Hp} {p:Addr} {o:HO} (c:Cor K L M H) (h:H p=none):Cor K L M (upd H p o):=c.grow fun a u e=>by rw[zZ (zAI e h)];exact e
theorem Cor.write {K:PySem.W.Frag} {L:List Addr} {M:List MO} {H:Hp} {n:Nat} {p:Addr} {xs xs':List D} {vs':List V} (c:Cor K L M H) (h1:L[n]?=some p) (h2:M[n]?=some (.lst xs)) (r:zQ L H xs' vs') :
  Cor K L (M.set n (.lst xs')) (L2.upd H p (.lst vs'))/\Stp L H L (L2.upd H p (.lst vs')):=by
 obtain ⟨vs,hp,_⟩:=c.obj n p _ h1 h2;have st:Stp L H L (L2.upd H p (.lst vs')):=by
  refine ⟨⟨[],by simp⟩,fun a ha=> .inl ha,fun a o e ha=>?_,fun a o e=>?_,fun a o u e=>?_⟩
  ·rw[zZ (show a≠p from fun z=>ha (by rw[z];exact zXL h1))];exact e
  ·rw[zZ (zHU e hp (by intro z;cases z))];exact e
  ·rw[zZ (zHU e hp (by intro z;cases z))];exact e
 refine ⟨⟨by simp[c.len],c.nd,fun k a m e1 e2=>?_⟩,st⟩;rw[zX3]at e2;split at e2
 ·rename_i hk;subst hk;rw[h1]at e1;cases e1;split at e2
  ·cases e2;exact ⟨vs',zw,r.stp st⟩
  ·cases e2
 ·rename_i hk;have hne:a≠p:=fun z=>hk (by
   subst z;exact (List.getElem?_inj (zWX.mp h1).1 c.nd).mp (h1.trans e1.symm))
  exact (c.obj k a m e1 e2).stp st fun o e=>by rw[zZ hne];exact e
set_option genInjectivity true in
inductive EV where
 |dat (d:D)|fl (xs:List D)
def zf (H0:Hp) (L:List Addr) (H:Hp):EV->V->Prop
 |.dat d,v=>Rep L H d v
 |.fl xs,v=>∃ p vs,v=.ref p/\H0 p=none/\H p=some (.lst vs)/\p∉L/\zQ L H xs vs
abbrev Sd:=List (Option D)
abbrev Mem:=List MO
abbrev FE:=Sd->Mem->Option (EV × Mem)
abbrev FD:=Sd->Mem->Option (D × Mem)
abbrev FT:=Sd->Mem->Option (Bool × Mem)
abbrev FA:=Sd->Mem->Option (List D × Mem)
theorem Stp.out (s:Stp L H L' H') (h:H p=some o) (hp:p∉L):p∉L':=fun z=>by
 rcases s.new p z with q|q
 ·exact hp q
 ·rw[h]at q;cases q
theorem zf.stp (s:Stp L H L' H') (h:zf H0 L H e v):zf H0 L' H' e v:=by
 cases e with
 |dat d=>exact Rep.stp s h
 |fl xs=>
  obtain ⟨p,vs,rfl,e0,e1,e2,r⟩:=h;exact ⟨p,vs,rfl,e0,s.old p _ e1 e2,s.out e1 e2,r.stp s⟩
theorem zf.back {H0 H1:Hp} {L0 L1 L:List Addr} {H:Hp} (s:Stp L0 H0 L1 H1) {M:List MO} {K:PySem.W.Frag} (c:Cor K L0 M H0) {e:EV} {v:V} (h:zf H1 L H e v) (hL:∀ a∈L1,a∈L):zf H0 L H e v:=by
 cases e with
 |dat d=>exact h
 |fl xs=>
  obtain ⟨p,vs,rfl,e0,e1,e2,r⟩:=h;refine ⟨p,vs,rfl,?_,e1,e2,r⟩;cases q:H0 p with
  |none=>rfl
  |some o=>
   by_cases hp:p∈L0
   ·obtain ⟨N,hN⟩:=s.pre;exact absurd (hL p (by rw[hN];exact zXj _ hp)) e2
   ·rw[s.old p o q hp]at e0;cases e0
section
variable (K:PySem.W.Frag)
def trE (f:FE):TE:=fun τ H Q=>∃ L σ M d M',Cor K L M H/\zBe L H σ τ/\f σ M=some (d,M') /\ ∀ L' H' v,Stp L H L' H'->Cor K L' M' H'->zf H L' H' d v->Q v H'
def trD (f:FD):TE:=fun τ H Q=>∃ L σ M d M',Cor K L M H/\zBe L H σ τ/\f σ M=some (d,M') /\ ∀ L' H' v,Stp L H L' H'->Cor K L' M' H'->Rep L' H' d v->Q v H'
def trT (f:FT):TT:=fun τ H Q=>∃ L σ M d M',Cor K L M H/\zBe L H σ τ/\f σ M=some (d,M') /\ ∀ L' H',Stp L H L' H'->Cor K L' M' H'->Q d H'
def trA (f:FA):TA:=fun τ H Q=>∃ L σ M ds M',Cor K L M H/\zBe L H σ τ/\f σ M=some (ds,M') /\ ∀ L' H' vs,Stp L H L' H'->Cor K L' M' H'->zQ L' H' ds vs->Q vs H'
end
section
variable {X:Cx} {e:Expr}
theorem PE.imp (h:PE X e t) (hi:∀ τ H Q,t' τ H Q->t τ H Q):PE X e t':=fun zB s σ H Q I q=>h zB s σ H Q I (hi _ _ _ q)
theorem PT.imp (h:PT X e t) (hi:∀ τ H Q,t' τ H Q->t τ H Q):PT X e t':=fun zB s σ H Q I q=>h zB s σ H Q I (hi _ _ _ q)
theorem PS.imp {st:Stmt} {t t':TS} (h:PS X st t) (hi:∀ D τ H,t' D τ H->t D τ H):PS X st t':=fun zB s σ H D I q=>h zB s σ H D I (hi _ _ _ q)
theorem PSs.imp {st:List Stmt} {t t':TS} (h:PSs X st t) (hi:∀ D τ H,t' D τ H->t D τ H):PSs X st t':=fun zB s σ H D I q=>h zB s σ H D I (hi _ _ _ q)
structure QE (X:Cx) (e:Expr) (f:FE):Prop where
 un:PE X e (trE X.K f)
structure QD (X:Cx) (e:Expr) (f:FD):Prop where
 un:PE X e (trD X.K f)
structure QT (X:Cx) (e:Expr) (f:FT):Prop where
 un:PT X e (trT X.K f)
structure QA (X:Cx) (es:List Expr) (f:FA):Prop where
 un:PA X es (trA X.K f)
def toD (f:FE):FD:=fun σ M=>match f σ M with
 |some (.dat d,M')=>some (d,M')
 |some (.fl xs,M')=>some (.ref M'.length,M'++[.lst xs])
 |none=>none
mutual
theorem Rep.more (N:List Addr):∀ {d:D} {v:V},Rep L H d v->Rep (L++N) H d v
 |.non,_,h=>by unfold Rep at h ⊢;exact h
 |.bl _,_,h=>by unfold Rep at h ⊢;exact h
 |.int _,_,h=>by unfold Rep at h ⊢;exact h
 |.str _,_,h=>by unfold Rep at h ⊢;exact h
 |.tup ds,_,h=>by
  unfold Rep at h ⊢;obtain ⟨a,vs,rfl,e,r⟩:=h;exact ⟨a,vs,rfl,e,zQ.more N r⟩
 |.ref n,_,h=>by
  unfold Rep at h ⊢;obtain ⟨a,rfl,e⟩:=h;exact ⟨a,rfl,zBh e⟩
theorem zQ.more (N:List Addr):∀ {ds:List D} {vs:List V},zQ L H ds vs->zQ (L++N) H ds vs
 |[],_,h=>by unfold zQ at h ⊢;exact h
 |d::ds,_,h=>by
  unfold zQ at h ⊢;obtain ⟨v,r,rfl,h1,h2⟩:=h;exact ⟨v,r,rfl,Rep.more N h1,zQ.more N h2⟩
end
theorem zA0.more {κ:Type} {kf:D->Option κ} {L:List Addr} {H:Hp} (N:List Addr):∀ {ps:List (D × D)} {vs:List (κ × V)},zA0 kf L H ps vs->zA0 kf (L++N) H ps vs
 |[],_,h=>h
 |p::r,_,h=>by
  obtain ⟨k,v,r',rfl,e,h1,h2⟩:=h;exact ⟨k,v,r',rfl,e,h1.more N,zA0.more N h2⟩
theorem zGr.more {K:PySem.W.Frag} {L:List Addr} {H:Hp} {a:Addr} {m:MO} (N:List Addr) (h:zGr K L H a m):zGr K (L++N) H a m:=by
 cases m with
 |lst xs=>obtain ⟨vs,e,r⟩:=h;exact ⟨vs,e,r.more N⟩
 |fro xs=>obtain ⟨o,vs,e,r⟩:=h;exact ⟨o,vs,e,r.more N⟩
 |dict ps=>obtain ⟨vs,e,r⟩:=h;exact ⟨vs,e,r.more N⟩
 |dicT ps=>obtain ⟨vs,e,r⟩:=h;exact ⟨vs,e,r.more N⟩
 |set _=>exact h
 |froT ps=>obtain ⟨o,vs,e,r⟩:=h;exact ⟨o,vs,e,r.more N⟩
 |froK ps=>obtain ⟨o,vs,e,r⟩:=h;exact ⟨o,vs,e,r.more N⟩
theorem zSo {K:PySem.W.Frag} {L L':List Addr} {M':List MO} {H H':Hp} {p:Addr} {xs:List D} {vs:List V} (s:Stp L H L' H') (c:Cor K L' M' H') (h0:H p=none) (h1:H' p=some (.lst vs)) (h2:p∉L') (r:zQ L' H' xs vs) :
  Cor K (L'++[p]) (M'++[.lst xs]) H'/\Stp L H (L'++[p]) H':=by
 refine ⟨⟨by simp[c.len],?_,fun n a m e1 e2=>?_⟩,?_⟩
 ·rw[zXi];exact ⟨c.nd,by simp,fun a ha b hb z=>by
   have:b=p:=by simpa using hb
   subst this;subst z;exact h2 ha⟩
 ·by_cases hn:n<L'.length
  ·rw[zWb hn]at e1;rw[zWb (by rw[<-c.len];exact hn)]at e2;exact (c.obj n a m e1 e2).more [p]
  ·have hn':n=L'.length:=by
    have:=(zWX.mp e1).1;rw[zWk]at this;simp at this;omega
   subst hn';simp at e1;rw[c.len]at e2;simp at e2;subst e1;subst e2;exact ⟨vs,h1,r.more [p]⟩
 ·obtain ⟨N,hN⟩:=s.pre;refine ⟨⟨N++[p],by rw[hN];simp⟩,fun a ha=>?_,s.old,s.tup,s.frz⟩;rcases zWu.mp ha with z|z
  ·exact s.new a z
  ·have:a=p:=by simpa using z
   subst this;exact .inr h0
theorem Rep.last {L:List Addr} {M:List MO} {H:Hp} {K:PySem.W.Frag} {p:Addr} (c:Cor K L M H):Rep (L++[p]) H (.ref M.length) (.ref p):=by
 unfold Rep;exact ⟨p,rfl,by rw[<-c.len];simp⟩
theorem zA3 {f:FE} (h:QE X e f):QD X e (toD f):=.mk <| PE.imp h.un fun τ H Q zz=>by
 obtain ⟨L,σ,M,d,M',c,rs,hf,q⟩:=zz;unfold toD at hf;split at hf
 ·rename_i d' M1 e1;cases hf;exact ⟨L,σ,M,_,_,c,rs,e1,fun L' H' v s c' r=>q L' H' v s c' r⟩
 ·rename_i xs M1 e1;cases hf;refine ⟨L,σ,M,_,_,c,rs,e1,fun L' H' v s c' r=>?_⟩;obtain ⟨p,vs,rfl,e0,e2,e3,r⟩:=r;obtain ⟨c2,s2⟩:=zSo s c' e0 e2 e3 r;exact q _ H' _ s2 c2 (Rep.last c')
 ·cases hf
def zC (i:Nat):FE:=fun σ M=>match σ[i]? with
 |some (some d)=>some (.dat d,M)
 |_=>none
theorem zB9 (h:PE X (.Name x pos) (zTB i)):QE X (.Name x pos) (zC i):=.mk <| PE.imp h fun τ H Q zz=>by
 obtain ⟨L,σ,M,d,M',c,rs,hf,q⟩:=zz;unfold zC at hf;split at hf
 ·rename_i d' e1;cases hf;obtain ⟨v,e2,r⟩:=rs.2 i d' e1;exact ⟨v,e2,q L H v (.refl L H) c r⟩
 ·cases hf
def fC (d:D):FE:=fun _ M=>some (.dat d,M)
theorem zJh (hd:∀ L H,Rep L H d v) (h:PE X e (tC v)):QE X e (fC d):=.mk <| PE.imp h fun τ H Q zz=>by
 obtain ⟨L,σ,M,d',M',c,rs,hf,q⟩:=zz;unfold fC at hf;cases hf;exact q L H v (.refl L H) c (hd L H)
theorem zVt {i j pos}:QE X (.Constant (.int i) j pos) (fC (.int i)):=zJh (fun _ _=>by unfold Rep;rfl) zTm
theorem zVl {b j pos}:QE X (.Constant (.bool b) j pos) (fC (.bl b)):=zJh (fun _ _=>by unfold Rep;rfl) zVD
theorem zU6 {x j pos}:QE X (.Constant (.str x) j pos) (fC (.str x)):=zJh (fun _ _=>by unfold Rep;rfl) zTj
def zH:FA:=fun _ M=>some ([],M)
def zD (f:FD) (g:FA):FA:=fun σ M=>match f σ M with
 |some (d,M1)=>match g σ M1 with
  |some (ds,M2)=>some (d::ds,M2)
  |none=>none
 |none=>none
theorem PA.imp (h:PA X es t) (hi:∀ τ H Q,t' τ H Q->t τ H Q):PA X es t':=fun pos zB s σ H Q I q=>h pos zB s σ H Q I (hi _ _ _ q)
theorem zL6:QA X [] zH:=.mk <| PA.imp zEq fun τ H Q zz=>by
 obtain ⟨L,σ,M,d,M',c,rs,hf,q⟩:=zz;unfold zH at hf;cases hf;exact q L H [] (.refl L H) c .nil
theorem zFZ (h1:QD X e f) (h2:QA X es g) (hs:starEach (e::es) X.env=(false,eval e X.env)::starEach es X.env:=by rfl):QA X (e::es) (zD f g) :=
 .mk <| PA.imp (zCu h1.un h2.un hs) fun τ H Q zz=>by
  obtain ⟨L,σ,M,d,M',c,rs,hf,q⟩:=zz;unfold zD at hf;split at hf
  ·rename_i d1 M1 e1;split at hf
   ·rename_i ds M2 e2;cases hf;refine ⟨L,σ,M,_,_,c,rs,e1,fun L1 H1 v s1 c1 r1=>⟨L1,σ,M1,_,_,c1,rs.stp s1,e2,fun L2 H2 vs s2 c2 r2=>?_⟩⟩;exact q L2 H2 _ (s1.trans s2) c2 (.cons (r1.stp s2) r2)
   ·cases hf
  ·cases hf
def zAV (g:FA):FE:=fun σ M=>match g σ M with
 |some (ds,M1)=>if ds.length<=sizeLine then some (.dat (.tup ds),M1) else none
 |none=>none
def zAT (g:FA):FE:=fun σ M=>match g σ M with
 |some (ds,M1)=>if ds.length<=sizeLine then some (.fl ds,M1) else none
 |none=>none
theorem Rep.newTup (h:H p=none) (r:zQ L H ds vs):Rep L (upd H p (.tup vs)) (.tup ds) (.ref p):=by
 unfold Rep;exact ⟨p,vs,rfl,zw,r.stp (.upd h)⟩
theorem zUp {x1 pos} (h:QA X es g):QE X (.Tuple es x1 pos) (zAV g):=.mk <| PE.imp (zS9 h.un) fun τ H Q zz=>by
 obtain ⟨L,σ,M,d,M',c,rs,hf,q⟩:=zz;unfold zAV at hf;split at hf
 ·rename_i ds M1 e1;split at hf
  ·rename_i hz;cases hf;refine ⟨L,σ,M,_,_,c,rs,e1,fun L1 H1 vs s1 c1 r1=>⟨by rw[r1.length];exact hz,fun p hp=>?_⟩⟩;exact q L1 _ _ (s1.trans (.upd hp)) (c1.upd hp) (Rep.newTup hp r1)
  ·cases hf
 ·cases hf
theorem zNt {L L1:List Addr} {H H1:Hp} {K:PySem.W.Frag} {M M1:List MO} (s:Stp L H L1 H1) (c:Cor K L M H) (c1:Cor K L1 M1 H1) {p:Addr} (hp:H1 p=none):H p=none/\p∉L1:=by
 have hp1:p∉L1:=fun z=>by obtain ⟨o,e⟩:=c1.tracked z;rw[hp]at e;cases e
 refine ⟨?_,hp1⟩;cases q:H p with
 |none=>rfl
 |some o=>
  have:p∉L:=fun z=>hp1 (by obtain ⟨N,hN⟩:=s.pre;rw[hN];exact zXj _ z);rw[s.old p o q this]at hp;cases hp
theorem zf.newLst {L L1:List Addr} {H H1:Hp} {K:PySem.W.Frag} {M M1:List MO} {p:Addr} {ds:List D} {vs:List V} (s:Stp L H L1 H1) (c:Cor K L M H) (c1:Cor K L1 M1 H1) (hp:H1 p=none) (r:zQ L1 H1 ds vs) :
  zf H L1 (upd H1 p (.lst vs)) (.fl ds) (.ref p):=by
 obtain ⟨a,b⟩:=zNt s c c1 hp;exact ⟨p,vs,rfl,a,zw,b,r.stp (.upd hp)⟩
theorem zUo {pos} (h:QA X es g):QE X (.List es pos) (zAT g):=.mk <| PE.imp (zUA h.un) fun τ H Q zz=>by
 obtain ⟨L,σ,M,d,M',c,rs,hf,q⟩:=zz;unfold zAT at hf;split at hf
 ·rename_i ds M1 e1;split at hf
  ·rename_i hz;cases hf;refine ⟨L,σ,M,_,_,c,rs,e1,fun L1 H1 vs s1 c1 r1=>⟨by rw[r1.length];exact hz,fun p hp=>?_⟩⟩;exact q L1 _ _ (s1.trans (.upd hp)) (c1.upd hp) (zf.newLst s1 c c1 hp r1)
  ·cases hf
 ·cases hf
end
abbrev FAE:=Sd->Mem->Option (List EV × Mem)
def zCl (H0:Hp) (L:List Addr) (H:Hp):List EV->List V->Prop
 |[],vs=>vs=[]
 |e::es,vs=>∃ v r,vs=v::r/\zf H0 L H e v/\zCl H0 L H es r
theorem Stp.sub (s:Stp L H L' H'):∀ a∈L,a∈L':=fun a h=>by
 obtain ⟨N,hN⟩:=s.pre;rw[hN];exact zXj _ h
theorem zCl.back {H0 H1:Hp} {L0 L1 L:List Addr} {H:Hp} (s:Stp L0 H0 L1 H1) {M:List MO} {K:PySem.W.Frag} (c:Cor K L0 M H0) (hL:∀ a∈L1,a∈L):∀ {es:List EV} {vs:List V},zCl H1 L H es vs->zCl H0 L H es vs
 |[],_,h=>h
 |e::es,_,h=>by
  obtain ⟨v,r,rfl,h1,h2⟩:=h;exact ⟨v,r,rfl,h1.back s c hL,zCl.back s c hL h2⟩
def zVv (K:PySem.W.Frag) (f:FAE):TA:=fun τ H Q=>∃ L σ M ds M',Cor K L M H/\zBe L H σ τ/\f σ M=some (ds,M') /\ ∀ L' H' vs,Stp L H L' H'->Cor K L' M' H'->zCl H L' H' ds vs->Q vs H'
structure QAE (X:Cx) (es:List Expr) (f:FAE):Prop where
 un:PA X es (zVv X.K f)
section
variable {X:Cx} {a b e:Expr} {es:List Expr} {pos:Pos}
def zg:FAE:=fun _ M=>some ([],M)
def zS (f:FE) (g:FAE):FAE:=fun σ M=>match f σ M with
 |some (d,M1)=>match g σ M1 with
  |some (ds,M2)=>some (d::ds,M2)
  |none=>none
 |none=>none
theorem zJi:QAE X [] zg:=.mk <| PA.imp zEq fun τ H Q zz=>by
 obtain ⟨L,σ,M,d,M',c,rs,hf,q⟩:=zz;unfold zg at hf;cases hf;exact q L H [] (.refl L H) c rfl
theorem zGm (h1:QE X e f) (h2:QAE X es g) (hs:starEach (e::es) X.env=(false,eval e X.env)::starEach es X.env:=by rfl):QAE X (e::es) (zS f g) :=
 .mk <| PA.imp (zCu h1.un h2.un hs) fun τ H Q zz=>by
  obtain ⟨L,σ,M,d,M',c,rs,hf,q⟩:=zz;unfold zS at hf;split at hf
  ·rename_i d1 M1 e1;split at hf
   ·rename_i ds M2 e2;cases hf;refine ⟨L,σ,M,_,_,c,rs,e1,fun L1 H1 v s1 c1 r1=>⟨L1,σ,M1,_,_,c1,rs.stp s1,e2,fun L2 H2 vs s2 c2 r2=>?_⟩⟩;exact q L2 H2 _ (s1.trans s2) c2 ⟨v,vs,rfl,r1.stp s2,r2.back s1 c s2.sub⟩
   ·cases hf
  ·cases hf
abbrev K2:=EV->EV->Mem->Option (EV × Mem)
def zDA (K:PySem.W.Frag) (r:R2) (k:K2):Prop:=∀ {L:List Addr} {M M':Mem} {H H0:Hp} {x y d:EV} {v w:V} {Q:VK},Cor K L M H->zf H0 L H x v->zf H0 L H y w->k x y M=some (d,M') ->
 (∀ L' H' u,Stp L H L' H'->Cor K L' M' H'->zf H L' H' d u->Q u H')->r v w H Q
def fOp (k:K2) (f g:FE):FE:=fun σ M=>match f σ M with
 |some (x,M1)=>match g σ M1 with
  |some (y,M2)=>k x y M2
  |none=>none
 |none=>none
theorem zDZ {K:PySem.W.Frag} {r:R2} {k:K2} {f g:FE} (hk:zDA K r k) {τ:Sv} {H:Hp} {Q:VK} (h:trE K (fOp k f g) τ H Q):tOp r (trE K f) (trE K g) τ H Q:=by
 obtain ⟨L,σ,M,d,M',c,rs,hf,q⟩:=h;unfold fOp at hf;split at hf
 ·rename_i x M1 e1;split at hf
  ·rename_i y M2 e2;refine ⟨L,σ,M,_,_,c,rs,e1,fun L1 H1 v s1 c1 r1=>⟨L1,σ,M1,_,_,c1,rs.stp s1,e2,fun L2 H2 w s2 c2 r2=>?_⟩⟩;refine hk (H0:=H) c2 (r1.stp s2) (r2.back s1 c s2.sub) hf fun L3 H3 u s3 c3 r3=>?_;exact q L3 H3 u ((s1.trans s2).trans s3) c3 (r3.back (s1.trans s2) c s3.sub)
  ·cases hf
 ·cases hf
theorem zK9 (hk:zDA X.K r k) (ho:OpR X (binaryOp op) r) (h1:QE X a f) (h2:QE X b g):QE X (.BinOp a op b pos) (fOp k f g):=.mk <| PE.imp (zUe ho h1.un h2.un) fun _ _ _ h=>zDZ hk h
theorem zVa (hk:zDA X.K r k) (ho:OpR X (compareOp op) r) (h1:QE X a f) (h2:QE X b g) (hm:behindInMarks op b=false):QE X (.Compare a [op] [b] pos) (fOp k f g) :=
 .mk <| PE.imp (zRH ho h1.un h2.un hm) fun _ _ _ h=>zDZ hk h
def tst (f:FE):FT:=fun σ M=>match f σ M with
 |some (.dat (.bl c),M')=>some (c,M')
 |_=>none
theorem zER {K:PySem.W.Frag} {f:FE} {τ:Sv} {H:Hp} {Q:Bool->Hp->Prop} (h:trT K (tst f) τ H Q):zNW (trE K f) τ H Q:=by
 obtain ⟨L,σ,M,d,M',c,rs,hf,q⟩:=h;unfold tst at hf;split at hf
 ·rename_i k M1 e1;cases hf;refine ⟨L,σ,M,_,_,c,rs,e1,fun L1 H1 v s1 c1 r1=>?_⟩;have:v=.bl d:=by unfold zf Rep at r1;exact r1
  exact ⟨d,this,q L1 H1 s1 c1⟩
 ·cases hf
theorem zEs (h:∀ τ H Q,t τ H Q->t' τ H Q) (q:zNW t τ H Q):zNW t' τ H Q:=h _ _ _ q
theorem zEK {op:CmpOp} {r:R2} {k:K2} {f g:FE} (hk:zDA X.K r k) (ho:OpR X (compareOp op) r) (h1:QE X a f) (h2:QE X b g) (hm:behindInMarks op b=false):QT X (.Compare a [op] [b] pos) (tst (fOp k f g)) :=
 .mk <| PT.imp (zRu ho h1.un h2.un hm) fun _ _ _ h=>zEs (fun _ _ _ z=>zDZ hk z) (zER h)
theorem zJ6 (h:QE X e f) (he:∀ whole,isTrue e X.env whole=(do let v <- whole;standAt e.pos;holding [v] (truthy v)):=by intro _;rfl):QT X e (tst f) :=
 .mk <| PT.imp (zS2 h.un he) fun _ _ _ h=>zER h
def kI (C:Int->Int->Bool) (g:Int->Int->D):K2:=fun x y M=>match x,y with
 |.dat (.int i),.dat (.int j)=>if C i j then some (.dat (g i j),M) else none
 |_,_=>none
def kI0 (g:Int->Int->D):K2:=kI (fun _ _=>true) g
theorem zK2 {K:PySem.W.Frag} {C:Int->Int->Bool} {C':Int->Int->Prop} {g:Int->Int->D} {g':Int->Int->V} (hC:∀ i j,C i j=true->C' i j) (hg:∀ L H i j,Rep L H (g i j) (g' i j)):zDA K (rI C' g') (kI C g):=by
 intro L M M' H H0 x y d v w Q c rx ry hk q;unfold kI at hk;split at hk
 ·rename_i i j;split at hk
  ·rename_i hc;cases hk;refine ⟨i,j,by unfold zf Rep at rx;exact rx,by unfold zf Rep at ry;exact ry,hC i j hc,q L H _ (.refl L H) c (hg L H i j)⟩
  ·cases hk
 ·cases hk
theorem zFw {K:PySem.W.Frag} {g:Int->Int->D} {g':Int->Int->V} (hg:∀ L H i j,Rep L H (g i j) (g' i j)):zDA K (rI0 g') (kI0 g):=by
 intro L M M' H H0 x y d v w Q c rx ry hk q;obtain ⟨i,j,h1,h2,_,h4⟩:=zK2 (C:=fun _ _=>true) (C':=fun _ _=>True) (fun _ _ _=>trivial) hg c rx ry hk q;exact ⟨i,j,h1,h2,h4⟩
theorem zAi:Rep L H (.int i) (.int i):=by unfold Rep;rfl
theorem zCF:Rep L H (.bl i) (.bl i):=by unfold Rep;rfl
def zNj (i j:Int):Bool:=(decide (-(2 ^ 64)<i)&&decide (i<2 ^ 64))||(decide (-(2 ^ 64)<j)&&decide (j<2 ^ 64))
abbrev zWO:K2:=kI0 fun i j=> .int (i+j)
abbrev zHz:K2:=kI0 fun i j=> .int (i-j)
abbrev zMi:K2:=kI zNj fun i j=> .int (i*j)
abbrev zDN:K2:=kI (fun _ j=>decide (0<j)) fun i j=> .int (i % j)
abbrev zMe:K2:=kI (fun _ j=>decide (0<j)&&decide (j<1073741824)) fun i j=> .int (i / j)
abbrev zNz:K2:=kI (fun i j=>decide (0<=j)&&decide (j<=1000000)&&decide (i.natAbs<2 ^ 64)) fun i j=> .int (i ^ j.toNat)
abbrev kLt:K2:=kI0 fun i j=> .bl (decide (i<j))
abbrev kLe:K2:=kI0 fun i j=> .bl (decide (i<=j))
abbrev kGt:K2:=kI0 fun i j=> .bl (decide (j<i))
abbrev kGe:K2:=kI0 fun i j=> .bl (decide (j<=i))
section
variable {f g:FE}
theorem zVI (h1:QE X a f) (h2:QE X b g):QE X (.BinOp a .Sub b pos) (fOp zHz f g):=zK9 (zFw fun _ _ _ _=>zAi) zTb h1 h2
theorem zVB (h1:QE X a f) (h2:QE X b g):QE X (.BinOp a .Mult b pos) (fOp zMi f g):=zK9 (zK2 (fun i j h=>by
 unfold zNj at h;simp only[Bool.or_eq_true,zW4,zXh]at h;exact h) fun _ _ _ _=>zAi) zUD h1 h2
theorem zU1 (h1:QE X a f) (h2:QE X b g):QE X (.BinOp a .Mod b pos) (fOp zDN f g):=zK9 (zK2 (fun i j h=>zXQ h) fun _ _ _ _=>zAi) zS8 h1 h2
theorem zUn (h1:QE X a f) (h2:QE X b g):QE X (.BinOp a .FloorDiv b pos) (fOp zMe f g):=zK9 (zK2 (fun i j h=>by
 simp only[zW4,zXh]at h;exact h) fun _ _ _ _=>zAi) zSh h1 h2
theorem zUf (h1:QE X a f) (h2:QE X b g):QE X (.BinOp a .Pow b pos) (fOp zNz f g):=zK9 (zK2 (fun i j h=>by
 simp only[zW4,zXh]at h;exact ⟨h.1.1,h.1.2,h.2⟩) fun _ _ _ _=>zAi) zTd h1 h2
theorem zVc (h1:QE X a f) (h2:QE X b g):QT X (.Compare a [.Lt] [b] pos) (tst (fOp kLt f g)):=zEK (zFw fun _ _ _ _=>zCF) zVH h1 h2 (zEr _)
theorem zUw (h1:QE X a f) (h2:QE X b g):QT X (.Compare a [.LtE] [b] pos) (tst (fOp kLe f g)):=zEK (zFw fun _ _ _ _=>zCF) zUk h1 h2 (zEr _)
theorem zVz (h1:QE X a f) (h2:QE X b g):QT X (.Compare a [.Gt] [b] pos) (tst (fOp kGt f g)):=zEK (zFw fun _ _ _ _=>zCF) zVE h1 h2 (zEr _)
theorem zUx (h1:QE X a f) (h2:QE X b g):QT X (.Compare a [.GtE] [b] pos) (tst (fOp kGe f g)):=zEK (zFw fun _ _ _ _=>zCF) zVk h1 h2 (zEr _)
end
end
def zBR (M:Mem):EV->Option (List D)
 |.fl xs=>some xs
 |.dat (.ref n)=>match M[n]? with
  |some (.lst xs)=>some xs
  |some (.fro xs)=>some xs
  |_=>none
 |_=>none
def zCH:EV->Option (List D)
 |.dat (.tup xs)=>some xs
 |_=>none
def zAb (M:Mem) (x:EV):Option (List D):=match zCH x with
 |some xs=>some xs
 |none=>zBR M x
theorem zBI {K:PySem.W.Frag} {L:List Addr} {M:Mem} {H H0:Hp} {x:EV} {v:V} {xs:List D} (c:Cor K L M H) (r:zf H0 L H x v) (h:zBR M x=some xs):∃ a vs,v=.ref a/\Rd H a (.lst vs)/\zQ L H xs vs:=by
 cases x with
 |fl ys=>
  cases h;obtain ⟨p,vs,rfl,_,e,_,r⟩:=r;exact ⟨p,vs,rfl,.inl e,r⟩
 |dat d=>
  cases d with
  |ref n=>
   unfold zf Rep at r;obtain ⟨a,rfl,e⟩:=r;unfold zBR at h;dsimp only at h;cases q:M[n]? with
   |none=>rw[q]at h;cases h
   |some m=>
    rw[q]at h;have z:=c.obj n a m e q;cases m with
    |lst ys=>cases h;obtain ⟨vs,e1,r1⟩:=z;exact ⟨a,vs,rfl,.inl e1,r1⟩
    |fro ys=>cases h;obtain ⟨o,vs,e1,r1⟩:=z;exact ⟨a,vs,rfl,.inr ⟨o,e1⟩,r1⟩
    |dict _=>cases h
    |dicT _=>cases h
    |set _=>cases h
    |froT _=>cases h
    |froK _=>cases h
  |_=>cases h
theorem zB2 {L:List Addr} {H H0:Hp} {x:EV} {v:V} {xs:List D} (r:zf H0 L H x v) (h:zCH x=some xs):∃ a vs,v=.ref a/\H a=some (.tup vs)/\zQ L H xs vs:=by
 cases x with
 |fl ys=>cases h
 |dat d=>
  cases d with
  |tup ys=>cases h;unfold zf Rep at r;exact r
  |_=>cases h
theorem zGg {K:PySem.W.Frag} {L:List Addr} {M:Mem} {H H0:Hp} {x:EV} {v:V} {xs:List D} (c:Cor K L M H) (r:zf H0 L H x v) (h:zAb M x=some xs):∃ a vs,v=.ref a/\(SqL K H a vs\/SqT K H a vs)/\zQ L H xs vs:=by
 unfold zAb at h;cases q:zCH x with
 |some ys=>
  rw[q]at h;cases h;obtain ⟨a,vs,e,h1,h2⟩:=zB2 r q;exact ⟨a,vs,e,.inr (.of h1),h2⟩
 |none=>
  rw[q]at h;obtain ⟨a,vs,e,h1,h2⟩:=zBI c r h;exact ⟨a,vs,e,.inl (.inl h1),h2⟩
theorem zUX {L:List Addr} {H:Hp} {xs:List D} {vs:List V} {i:Int} {d:D} (r:zQ L H xs vs) (h:atI xs i=some d):∃ v,atI vs i=some v/\Rep L H d v:=by
 unfold atI at h ⊢;rw[r.length];cases q:ixN xs.length i with
 |none=>rw[q]at h;cases h
 |some j=>rw[q]at h;exact r.get h
theorem zSb {L:List Addr} {H:Hp} {i:Str}:Rep L H (.str i) (.str i):=by unfold Rep;rfl
def kIx:K2:=fun x y M=>match y with
 |.dat (.int i)=>match zAb M x with
  |some xs=>match atI xs i with
   |some d=>some (.dat d,M)
   |none=>none
  |none=>match x with
   |.dat (.str z)=>if z.length<=sizeLine then match atI z.cps.toList i with
     |some c=>some (.dat (.str ⟨#[c]⟩),M)
     |none=>none
    else none
   |_=>none
 |_=>none
theorem zS0 {K:PySem.W.Frag}:zDA K (rIx K) kIx:=by
 intro L M M' H H0 x y d v w Q c rx ry hk q;unfold kIx at hk;split at hk
 ·rename_i i;have ew:w=.int i:=by unfold zf Rep at ry;exact ry
  split at hk
  ·rename_i xs e1;split at hk
   ·rename_i d' e2;cases hk;obtain ⟨a,vs,rfl,hs,r⟩:=zGg c rx e1;obtain ⟨u,e3,r3⟩:=zUX r e2;rcases hs with hs|hs
    ·exact .inl ⟨a,vs,i,u,rfl,ew,hs,e3,q L H u (.refl L H) c r3⟩
    ·exact .inr (.inl ⟨a,vs,i,u,rfl,ew,hs,e3,q L H u (.refl L H) c r3⟩)
   ·cases hk
  ·split at hk
   ·rename_i z _;split at hk
    ·rename_i hz;split at hk
     ·rename_i ch e2;cases hk;have ev:v=.str z:=by unfold zf Rep at rx;exact rx
      exact .inr (.inr ⟨z,i,ch,ev,ew,hz,e2,q L H _ (.refl L H) c (zSb (L:=L) (H:=H))⟩)
     ·cases hk
    ·cases hk
   ·cases hk
 ·cases hk
section
variable {prog:Program} {w:World} {A:Around} {E:Value->Shared->Prop} {s:Shared}
theorem zMU {t sl:Addr} {items:Array Value} {vl vu:Value} {lo hi:Option Int} {Q:Value->Shared->Prop} (T:IsTup s.heap t items) (S:s.heap.IsSliceOf sl vl vu .none) (pl:IsPart vl lo) (pu:IsPart vu hi)
  (h1:HT.sIx items.size 0 lo=0) (h2:HT.sIx items.size items.size hi=items.size) (h:Q (.ref t) s):wpAny (model prog w) A (getItem (.ref t) (.ref sl)) Q E s:=by
 obtain ⟨o,O,C,G⟩:=id S;have TS:s.TypeIs (.ref sl) "slice" := ⟨o,O,C⟩;unfold getItem;try with_reducible refine zXN ?_
 first|refine zWU (zWW ?_)|skip
 refine zWU (wpAny_sequenceKey T.typeIs (by decide) ?_);refine zWU (zW6 (name:=Str.ofString "__getitem__") T.typeIs zX2 (zW7 zX2 T.typeIs entry_tuple_getitem ?_ (args_tuple_getitem _ _)));refine zWU (m:=Builtin.Tuple.tupleItemsOf (.ref t)) (tupleItemsOf_ T (zWU (wpAny_typeOf TS ?_)));rw[zWj (by decide)];refine zWU (HT.zC6 S pl pu ?_);rw[h1,h2];show wpAny _ _ (if ((((0:Nat):Int)==0&&(1:Int)==1&&(items.size-0)==items.size))=true then _ else _) _ _ s;rw[zWj (by simp)];unfold Builtin.Tuple.tupleIsExact;refine zWU (zWU (wpAny_typeOf T.typeIs (zWW ?_)));rw[zWj (by decide)];exact zWU (zXr (zWW ⟨_,rfl,zWW h⟩))
end
def zWN (K:PySem.W.Frag):V->Option Int->Option Int->Hp->VK->Prop:=fun x lo hi H Q=>∃ a xs,x=.ref a/\SqT K H a xs/\(HT.sIx xs.length 0 lo=0/\HT.sIx xs.length xs.length hi=xs.length)/\Q (.ref a) H
theorem zRo {X:Cx}:SlR X (zWN X.K):=by
 intro zB s σ H x v vl vu lo hi sl Q I rx hs pl pu h;obtain ⟨a,xs,rfl,hx,hw,q⟩:=h;cases rx;obtain ⟨its,r,ht,hz⟩:=I.tuple hx;have hlen:its.toArray.size=xs.length:=by rw[zWc];exact r.length.symm
 exact ⟨"tuple", _,zX2.lookup,ht.typeIs,zMU ht hs pl pu (by rw[hlen];exact hw.1) (by rw[hlen];exact hw.2) ⟨.ref a,H,I,rfl,q⟩⟩
section
variable {X:Cx} {a b e:Expr} {es:List Expr} {pos:Pos} {f g:FE}
theorem zWD (h1:QE X a f) (h2:QE X b g) (hs:zNR b:=by intro _ _;rfl):QE X (.Subscript a b pos) (fOp kIx f g):=.mk <| PE.imp (zUs zUY h1.un h2.un hs) fun _ _ _ h=>zDZ zS0 h
abbrev FO:=Sd->Mem->Option (Option Int × Mem)
def trO (K:PySem.W.Frag) (f:FO):TO:=fun τ H Q=>∃ L σ M d M',Cor K L M H/\zBe L H σ τ/\f σ M=some (d,M') /\ ∀ L' H',Stp L H L' H'->Cor K L' M' H'->Q d H'
structure QO (X:Cx) (e:Option Expr) (f:FO):Prop where
 un:PO X e (trO X.K f)
def zBr:FO:=fun _ M=>some (none,M)
def zBS (f:FE):FO:=fun σ M=>match f σ M with
 |some (.dat (.int i),M')=>some (some i,M')
 |_=>none
theorem PO.imp {e:Option Expr} {t t':TO} (h:PO X e t) (hi:∀ τ H Q,t' τ H Q->t τ H Q):PO X e t':=fun zB s σ H Q I q=>h zB s σ H Q I (hi _ _ _ q)
theorem zRZ:QO X none zBr:=.mk <| PO.imp zRa fun τ H Q zz=>by
 obtain ⟨L,σ,M,d,M',c,rs,hf,q⟩:=zz;unfold zBr at hf;cases hf;exact q L H (.refl L H) c
theorem zRw (h:QE X e f):QO X (some e) (zBS f):=.mk <| PO.imp (zRm h.un) fun τ H Q zz=>by
 obtain ⟨L,σ,M,d,M',c,rs,hf,q⟩:=zz;unfold zBS at hf;split at hf
 ·rename_i i M1 e1;cases hf;refine ⟨L,σ,M,_,_,c,rs,e1,fun L1 H1 v s1 c1 r1=>?_⟩;exact ⟨i,by unfold zf Rep at r1;exact r1,q L1 H1 s1 c1⟩
 ·cases hf
def zDI (xs:List D) (lo hi:Option Int):List D:=(xs.drop (HT.sIx xs.length 0 lo)).take (HT.sIx xs.length xs.length hi-HT.sIx xs.length 0 lo)
theorem zM7 {L:List Addr} {H:Hp} {xs:List D} {vs:List V} {lo hi:Option Int} (r:zQ L H xs vs):zQ L H (zDI xs lo hi) (zKt vs lo hi):=by
 unfold zDI zKt;rw[r.length];exact (r.drop _).take _
def kSl (x:EV) (lo hi:Option Int) (M:Mem):Option (EV × Mem):=match zCH x with
 |some xs=>some (.dat (.tup (zDI xs lo hi)),M)
 |none=>match zBR M x with
  |some xs=>some (.fl (zDI xs lo hi),M)
  |none=>none
def fSl (f:FE) (fl fh:FO):FE:=fun σ M=>match f σ M with
 |some (x,M1)=>match fl σ M1 with
  |some (lo,M2)=>match fh σ M2 with
   |some (hi,M3)=>kSl x lo hi M3
   |none=>none
  |none=>none
 |none=>none
theorem zSZ {lo hi:Option Expr} {p2:Pos} {fl fh:FO} (h:QE X e f) (hl:QO X lo fl) (hh:QO X hi fh):QE X (.Subscript e (.Slice lo hi none p2) pos) (fSl f fl fh) :=
 .mk <| PE.imp (zP0 (SlR.or zSM (SlR.or zTc zRo)) h.un hl.un hh.un) fun τ H Q zz=>by
  obtain ⟨L,σ,M,d,M',c,rs,hf,q⟩:=zz;unfold fSl at hf;split at hf
  ·rename_i x M1 e1;split at hf
   ·rename_i l M2 e2;split at hf
    ·rename_i u M3 e3;refine ⟨L,σ,M,_,_,c,rs,e1,fun L1 H1 v s1 c1 r1=>⟨L1,σ,M1,_,_,c1,rs.stp s1,e2,fun L2 H2 s2 c2=>⟨L2,σ,M2,_,_,c2,rs.stp (s1.trans s2),e3,fun L3 H3 s3 c3=>?_⟩⟩⟩;have s:=(s1.trans s2).trans s3;have r3:zf H L3 H3 x v:=(r1.stp s2).stp s3;unfold kSl at hf;cases t:zCH x with
     |some xs=>
      rw[t]at hf;cases hf;obtain ⟨a,vs,rfl,e4,r4⟩:=zB2 r3 t;by_cases hw:HT.sIx vs.length 0 l=0/\HT.sIx vs.length vs.length u=vs.length
      ·refine .inr (.inr ⟨a,vs,rfl,.of e4,hw,?_⟩);have ec:zDI xs l u=xs:=by
        unfold zDI;rw[<-r4.length,hw.1,hw.2,r4.length];simp
       rw[ec]at q;refine q L3 H3 _ s c3 ?_;unfold zf Rep;exact ⟨a,vs,rfl,e4,r4⟩
      ·refine .inr (.inl ⟨a,vs,rfl,.of e4,hw,fun p hp=>?_⟩);exact q L3 _ _ (s.trans (.upd hp)) (c3.upd hp) (Rep.newTup hp (zM7 r4))
     |none=>
      rw[t]at hf;dsimp only at hf;split at hf
      ·rename_i xs e4;cases hf;obtain ⟨a,vs,rfl,e5,r5⟩:=zBI c3 r3 e4;refine .inl ⟨a,vs,rfl,.inl e5,fun p hp=>?_⟩;exact q L3 _ _ (s.trans (.upd hp)) (c3.upd hp) (zf.newLst s c c3 hp (zM7 r5))
      ·cases hf
    ·cases hf
   ·cases hf
  ·cases hf
abbrev KB:=List EV->Mem->Option (EV × Mem)
def zGX (K:PySem.W.Frag) (r:List V->Hp->VK->Prop) (k:KB):Prop:=∀ {L:List Addr} {M M':Mem} {H H0:Hp} {xs:List EV} {d:EV} {vs:List V} {Q:VK},Cor K L M H->zCl H0 L H xs vs->k xs M=some (d,M') ->
 (∀ L' H' u,Stp L H L' H'->Cor K L' M' H'->zf H L' H' d u->Q u H')->r vs H Q
def fB (k:KB) (f:FAE):FE:=fun σ M=>match f σ M with
 |some (xs,M1)=>k xs M1
 |none=>none
theorem zQR {K:PySem.W.Frag} {r:List V->Hp->VK->Prop} {k:KB} {f:FAE} (hk:zGX K r k) {τ:Sv} {H:Hp} {Q:VK} (h:trE K (fB k f) τ H Q):tCB r (zVv K f) τ H Q:=by
 obtain ⟨L,σ,M,d,M',c,rs,hf,q⟩:=h;unfold fB at hf;split at hf
 ·rename_i xs M1 e1;refine ⟨L,σ,M,_,_,c,rs,e1,fun L1 H1 vs s1 c1 r1=>?_⟩;refine hk c1 r1 hf fun L2 H2 u s2 c2 r2=>?_;exact q L2 H2 u (s1.trans s2) c2 (r2.back s1 c s2.sub)
 ·cases hf
theorem zCl.one {H0:Hp} {L:List Addr} {H:Hp} {x:EV} {vs:List V} (h:zCl H0 L H [x] vs):∃ v,vs=[v]/\zf H0 L H x v:=by
 obtain ⟨v,r,rfl,h1,h2⟩:=h;unfold zCl at h2;subst h2;exact ⟨v,rfl,h1⟩
def zAk:KB:=fun xs M=>match xs with
 |[x]=>match zAb M x with
  |some ys=>some (.dat (.int ys.length),M)
  |none=>none
 |_=>none
theorem zRd:zGX X.K (fun xs H Q=>∃ p ys,xs=[.ref p]/\(SqL X.K H p ys\/SqT X.K H p ys)/\Q (.int ys.length) H) zAk:=by
 intro L M M' H H0 xs d vs Q c r hk q;unfold zAk at hk;split at hk
 ·rename_i x;split at hk
  ·rename_i ys e1;cases hk;obtain ⟨v,rfl,r1⟩:=r.one;obtain ⟨a,ws,rfl,hs,r2⟩:=zGg c r1 e1;refine ⟨a,ws,rfl,hs,q L H _ (.refl L H) c ?_⟩;rw[r2.length];exact (zAi (L:=L) (H:=H))
  ·cases hk
 ·cases hk
theorem zEN {x:Str} {p:Pos} {id:String} {r:List V->Hp->VK->Prop} {k:KB} {f:FAE} (hk:zGX X.K r k) (hc:zB5 X (.builtin id) r) (hv:bootBuiltins x=some (.builtin id)) (hg:Gl X x) (hm:X.mg x=none) (ha:QAE X (e::es) f) (hn:x ≠ "__name__" := by decide) (hdb:(x==("__debug__" : Str))=false:=by decide)
  (he:starEach (e::es) X.env=(false,eval e X.env)::starEach es X.env:=by rfl) (hpl:(backTo pos (starEach es X.env)).any (·.1)=false:=by rfl):QE X (.Call (.Name x p) (e::es) [] pos) (fB k f) :=
 .mk <| PE.imp (zKQ hc hg hm hv ha.un hn hdb he hpl) fun _ _ _ h=>zQR hk h
theorem zHq {x:Str} {p:Pos} {T:String} {r:List V->Hp->VK->Prop} {k:KB} {f:FAE} (hk:zGX X.K r k) (hc:zB5 X (.type T) r) (hv:bootBuiltins x=some (.type T)) (hg:Gl X x) (hm:X.mg x=none) (ha:QAE X (e::es) f) (hn:x ≠ "__name__" := by decide) (hdb:(x==("__debug__" : Str))=false:=by decide)
  (he:starEach (e::es) X.env=(false,eval e X.env)::starEach es X.env:=by rfl) (hpl:(backTo pos (starEach es X.env)).any (·.1)=false:=by rfl):QE X (.Call (.Name x p) (e::es) [] pos) (fB k f) :=
 .mk <| PE.imp (zC7 hc hg hm hv ha.un hn hdb he hpl) fun _ _ _ h=>zQR hk h
def zAu:KB:=fun xs M=>match xs with
 |[x]=>match zAb M x with
  |some ys=>some (.dat (.tup ys),M)
  |none=>none
 |_=>none
theorem zOB:zGX X.K (fun xs H Q=>∃ p ys,xs=[.ref p]/\((SqL X.K H p ys /\ ∀ l,H l=none->Q (.ref l) (upd H l (.tup ys)))\/(SqT X.K H p ys/\Q (.ref p) H))) zAu:=by
 intro L M M' H H0 xs d vs Q c r hk q;unfold zAu at hk;split at hk
 ·rename_i x;split at hk
  ·rename_i ys e1;cases hk;obtain ⟨v,rfl,r1⟩:=r.one;unfold zAb at e1;cases t:zCH x with
   |some zs=>
    rw[t]at e1;cases e1;obtain ⟨a,ws,rfl,e2,r2⟩:=zB2 r1 t;refine ⟨a,ws,rfl,.inr ⟨.of e2,q L H _ (.refl L H) c ?_⟩⟩;unfold zf Rep;exact ⟨a,ws,rfl,e2,r2⟩
   |none=>
    rw[t]at e1;obtain ⟨a,ws,rfl,e2,r2⟩:=zBI c r1 e1;refine ⟨a,ws,rfl,.inl ⟨.inl e2,fun p hp=>?_⟩⟩;exact q L _ _ (.upd hp) (c.upd hp) (Rep.newTup hp r2)
  ·cases hk
 ·cases hk
end
set_option genInjectivity true in
inductive Out where
 |nx|ret (d:D)|brk|cnt
abbrev FS:=Sd->Mem->Option (Out × Sd × Mem)
def zVq (E:Ends) (L:List Addr) (H:Hp) (σ:Sd):Out->Prop
 |.nx=>∀ τ,zBe L H σ τ->E.nx τ H
 |.ret d=>∀ v,Rep L H d v->E.rt v H
 |.brk=>∀ τ,zBe L H σ τ->E.bk τ H
 |.cnt=>∀ τ,zBe L H σ τ->E.ct τ H
def trS (K:PySem.W.Frag) (f:FS):TS:=fun E τ H=>∃ L σ M o σ' M',Cor K L M H/\zBe L H σ τ/\f σ M=some (o,σ',M') /\ ∀ L' H',Stp L H L' H'->Cor K L' M' H'->zVq E L' H' σ' o
structure QS (X:Cx) (st:Stmt) (f:FS):Prop where
 un:PS X st (trS X.K f)
structure QSs (X:Cx) (st:List Stmt) (f:FS):Prop where
 un:PSs X st (trS X.K f)
theorem zBe.set (h:zBe L H σ τ) (r:Rep L H d v):zBe L H (σ.set i (some d)) (τ.set i (some v)):=by
 refine ⟨by simp[h.1],fun j e q=>?_⟩;rw[zX3]at q ⊢;split at q
 ·rename_i z;subst z;split at q
  ·rename_i hl;cases q;rw[zWj rfl,zWj (by rw[h.1];exact hl)];exact ⟨v,rfl,r⟩
  ·cases q
 ·rename_i z;rw[zWm z];exact h.2 j e q
theorem zKP {K:PySem.W.Frag} {f:FE} {τ:Sv} {H:Hp} {Q:VK} (h:trD K (toD f) τ H Q):trE K f τ H Q:=by
 obtain ⟨L,σ,M,d,M',c,rs,hf,q⟩:=h;unfold toD at hf;split at hf
 ·rename_i d' M1 e1;cases hf;exact ⟨L,σ,M,_,_,c,rs,e1,fun L' H' v s c' r=>q L' H' v s c' r⟩
 ·rename_i xs M1 e1;cases hf;refine ⟨L,σ,M,_,_,c,rs,e1,fun L' H' v s c' r=>?_⟩;obtain ⟨p,vs,rfl,e0,e2,e3,r⟩:=r;obtain ⟨c2,s2⟩:=zSo s c' e0 e2 e3 r;exact q _ H' _ s2 c2 (Rep.last c')
 ·cases hf
def zBB:FS:=fun σ M=>some (.nx,σ,M)
def zX (f g:FS):FS:=fun σ M=>match f σ M with
 |some (.nx,σ1,M1)=>g σ1 M1
 |r=>r
def sIf (c:FT) (f g:FS):FS:=fun σ M=>match c σ M with
 |some (true,M1)=>f σ M1
 |some (false,M1)=>g σ M1
 |none=>none
def zAW (f:FE):FS:=fun σ M=>match toD f σ M with
 |some (d,M1)=>some (.ret d,σ,M1)
 |none=>none
def zo (i:Nat) (f:FE):FS:=fun σ M=>match toD f σ M with
 |some (d,M1)=>some (.nx,σ.set i (some d),M1)
 |none=>none
def zAa (f:FE):FS:=fun σ M=>match f σ M with
 |some (_,M1)=>some (.nx,σ,M1)
 |none=>none
section
variable {X:Cx} {st:Stmt} {rest:List Stmt} {e c:Expr} {pos:Pos}
theorem zKK:QSs X [] zBB:=.mk <| PSs.imp zRT fun E τ H zz=>by
 obtain ⟨L,σ,M,o,σ',M',c,rs,hf,q⟩:=zz;unfold zBB at hf;cases hf;exact q L H (.refl L H) c τ rs
theorem zGi (h1:QS X st f) (h2:QSs X rest g):QSs X (st::rest) (zX f g):=.mk <| PSs.imp (zPH h1.un h2.un) fun E τ H zz=>by
 obtain ⟨L,σ,M,o,σ',M',c,rs,hf,q⟩:=zz;unfold zX at hf;split at hf
 ·rename_i σ1 M1 e1;refine ⟨L,σ,M,_,_,_,c,rs,e1,fun L1 H1 s1 c1 τ1 r1=>⟨L1,σ1,M1,_,_,_,c1,r1,hf,fun L2 H2 s2 c2=>q L2 H2 (s1.trans s2) c2⟩⟩
 ·rename_i hne;refine ⟨L,σ,M,_,_,_,c,rs,hf,fun L1 H1 s1 c1=>?_⟩;have z:=q L1 H1 s1 c1;cases o with
  |nx=>exact absurd hf (hne σ' M')
  |ret d=>exact z
  |brk=>exact z
  |cnt=>exact z
theorem zHo (h1:QS X st f):QSs X [st] f:=.mk <| PSs.imp (zSI h1.un) fun _ _ _ h=>h
theorem zRg (hc:QT X c fc) (ha:QSs X a f) (hb:QSs X b g):QS X (.If c a b pos) (sIf fc f g):=.mk <| PS.imp (zVZ hc.un ha.un hb.un) fun E τ H zz=>by
 obtain ⟨L,σ,M,o,σ',M',c,rs,hf,q⟩:=zz;unfold sIf at hf;split at hf
 ·rename_i M1 e1;refine ⟨L,σ,M,_,_,c,rs,e1,fun L1 H1 s1 c1=>?_⟩;exact zHt ⟨L1,σ,M1,_,_,_,c1,rs.stp s1,hf,fun L2 H2 s2 c2=>q L2 H2 (s1.trans s2) c2⟩
 ·rename_i M1 e1;refine ⟨L,σ,M,_,_,c,rs,e1,fun L1 H1 s1 c1=>?_⟩;exact zHB ⟨L1,σ,M1,_,_,_,c1,rs.stp s1,hf,fun L2 H2 s2 c2=>q L2 H2 (s1.trans s2) c2⟩
 ·cases hf
theorem zLd (h:QE X e f):QS X (.Return (some e) pos) (zAW f):=.mk <| PS.imp (zTf (zA3 h).un) fun E τ H zz=>by
 obtain ⟨L,σ,M,o,σ',M',c,rs,hf,q⟩:=zz;unfold zAW at hf;split at hf
 ·rename_i d M1 e1;cases hf;exact ⟨L,σ,M,_,_,c,rs,e1,fun L1 H1 v s1 c1 r1=>q L1 H1 s1 c1 v r1⟩
 ·cases hf
theorem zG9 {K:PySem.W.Frag} {i:Nat} {f:FE} {t:TE} (ht:∀ τ H Q,trE K f τ H Q->t τ H Q) {E:Ends} {τ:Sv} {H:Hp} (h:trS K (zo i f) E τ H):zPy t (zDi i) E τ H:=by
 obtain ⟨L,σ,M,o,σ',M',c,rs,hf,q⟩:=h;unfold zo at hf;split at hf
 ·rename_i d M1 e1;cases hf;exact ht _ _ _ (zKP ⟨L,σ,M,_,_,c,rs,e1,fun L1 H1 v s1 c1 r1=>q L1 H1 s1 c1 _ ((rs.stp s1).set r1)⟩)
 ·cases hf
theorem zVN {i:Nat} {x:Str} {f:FE} {pos':Pos} (hN:X.N.Nodup) (hi:X.N[i]?=some x) (hx:Loc X.env.scope x) (h:QE X e f) (hs:swapsWith e (some (.Name x pos')) pos.line X.env=pure false:=by rfl)
  (hf:X.fn x=true\/X.env.scope.names.lookup x=some .local:=by first|exact .inl rfl|exact .inr rfl|assumption):QS X (.Assign [.Name x pos'] e pos) (zo i f) :=
 .mk <| PS.imp (zTp hN hi hx h.un hs hf) fun _ _ _ z=>zG9 (fun _ _ _ z=>z) z
theorem zT9 (h:QE X e f) (hs:swapsWith e none pos.line X.env=pure false:=by rfl):QS X (.Expr e pos) (zAa f):=.mk <| PS.imp (zSO h.un hs) fun E τ H zz=>by
 obtain ⟨L,σ,M,o,σ',M',c,rs,hf,q⟩:=zz;unfold zAa at hf;split at hf
 ·rename_i d M1 e1;cases hf;exact ⟨L,σ,M,_,_,c,rs,e1,fun L1 H1 v s1 c1 r1=>q L1 H1 s1 c1 τ (rs.stp s1)⟩
 ·cases hf
abbrev FG:=D->Sd->Option Sd
def GOk (g:TG) (fg:FG):Prop:=∀ {L:List Addr} {H:Hp} {σ σ':Sd} {τ:Sv} {d:D} {v:V} {Q:Sv->Hp->Prop},zBe L H σ τ->Rep L H d v->fg d σ=some σ'->(∀ τ',zBe L H σ' τ'->Q τ' H)->g v τ H Q
def gN (i:Nat):FG:=fun d σ=>some (σ.set i (some d))
theorem zQn:GOk (zDi i) (gN i):=by
 intro L H σ σ' τ d v Q rs r hf q;unfold gN at hf;cases hf;exact q _ (rs.set r)
abbrev FI:=Sd->Mem->Option (List D × Option (Mem->Prop) × Mem)
def zA1 (g:Option (Mem->Prop)) (xs:List D) (M:Mem):Prop:=match g with
 |none=>True
 |some p=>p M
def zUu (K:PySem.W.Frag) (J:It) (L:List Addr) (H:Hp) (xs:List D) (g:Option (Mem->Prop)):Prop:=∀ L' H' M',Stp L H L' H'->Cor K L' M' H'->zA1 g xs M' ->
 (∀ (i:Nat) d,xs[i]?=some d->J.go i H' /\ ∀ v H'',J.yld i H' v H''->(∀ a o,H' a=some o->H'' a=some o)/\Rep L' H'' d v)/\J.stop xs.length H'
def trI (K:PySem.W.Frag) (f:FI):TI:=fun τ H R=>∃ L σ M xs g M',Cor K L M H/\zBe L H σ τ/\f σ M=some (xs,g,M') /\ ∀ L' H' J,Stp L H L' H'->Cor K L' M' H'->zUu K J L' H' xs g->R J H'
structure QI (X:Cx) (tg e:Expr) (f:FI):Prop where
 un:PI X tg e (trI X.K f)
theorem PI.imp (h:PI X tg e t) (hi:∀ τ H R,t' τ H R->t τ H R):PI X tg e t':=fun zB s σ H R I q=>h zB s σ H R I (hi _ _ _ q)
noncomputable def zCf (g:FG) (b:FS) (all:List D) (gd:Option (Mem->Prop)):List D->Sd->Mem->Option (Out × Sd × Mem)
 |[],σ,M=>open Classical in if zA1 gd all M then some (.nx,σ,M) else none
 |x::r,σ,M=>open Classical in if zA1 gd all M then match g x σ with
   |some σ1=>match b σ1 M with
    |some (.nx,σ2,M2)=>zCf g b all gd r σ2 M2
    |some (.cnt,σ2,M2)=>zCf g b all gd r σ2 M2
    |some (.brk,σ2,M2)=>some (.nx,σ2,M2)
    |some (.ret d,σ2,M2)=>some (.ret d,σ2,M2)
    |none=>none
   |none=>none
  else none
noncomputable def zBo (fi:FI) (g:FG) (b:FS):FS:=fun σ M=>match fi σ M with
 |some (xs,gd,M1)=>zCf g b xs gd xs σ M1
 |none=>none
theorem zCN {α:Type} {xs:List α} (h:i<xs.length):xs.drop i=xs[i]::xs.drop (i+1):=List.drop_eq_getElem_cons h
theorem Stp.yld (s:Stp L H L' H') (h:∀ a o,H' a=some o->H'' a=some o):Stp L H L' H'':=s.trans (.grow h)
theorem zQA {K:PySem.W.Frag} {fi:FI} {g:TG} {fg:FG} {b:FS} (hg:GOk g fg) {E:Ends} {τ:Sv} {H:Hp} (h:trS K (zBo fi fg b) E τ H):zVV (trI K fi) g (trS K b) E τ H:=by
 obtain ⟨L,σ,M,o,σf,Mf,c,rs,hf,q⟩:=h;unfold zBo at hf;split at hf
 ·rename_i xs gd M1 e1;refine ⟨L,σ,M,_,_,_,c,rs,e1,fun L1 H1 J s1 c1 it=>?_⟩
  refine ⟨fun i m τ' H'=>m=xs.length-i/\i<=xs.length /\ ∃ L' σ' M',Stp L1 H1 L' H'/\Cor K L' M' H'/\zBe L' H' σ' τ'/\zCf fg b xs gd (xs.drop i) σ' M'=some (o,σf,Mf),
   ⟨xs.length,by simp,zXG _,L1,σ,M1,.refl _ _,c1,rs.stp s1,by simpa using hf⟩,?_⟩
  rintro i m τ' H' ⟨rfl,hi,L',σ',M',s',c',rs',e'⟩;by_cases hlt:i<xs.length
  ·rw[zCN hlt]at e';unfold zCf at e';split at e'
   ·rename_i hgd;obtain ⟨step,_⟩:=it L' H' M' s' c' hgd;obtain ⟨go,yl⟩:=step i xs[i] (zWY hlt);cases eg:fg xs[i] σ' with
    |none=>rw[eg]at e';cases e'
    |some σ1=>
     rw[eg]at e';dsimp only at e';refine .inr ⟨go,fun τ2 H2=>∃ L2 σ2 M2,Stp L1 H1 L2 H2/\Cor K L2 M2 H2/\zBe L2 H2 σ2 τ2/\zCf fg b xs gd (xs.drop (i+1)) σ2 M2=some (o,σf,Mf),fun τ2 H2 ⟨L2,σ2,M2,a1,a2,a3,a4⟩=>⟨xs.length-(i+1),by omega,rfl,hlt,L2,σ2,M2,a1,a2,a3,a4⟩,fun v H2 hy=>?_⟩;obtain ⟨gr,rv⟩:=yl v H2 hy;refine hg (zBe.stp (.grow gr) rs') rv eg fun τ2 r2=>?_;cases eb:b σ1 M' with
     |none=>rw[eb]at e';cases e'
     |some r=>
      obtain ⟨o2,σ2,M2⟩:=r;rw[eb]at e';refine ⟨L',σ1,M',_,_,_,c'.grow gr,r2,eb,fun L3 H3 s3 c3=>?_⟩;have s13:Stp L1 H1 L3 H3:=(s'.yld gr).trans s3;cases o2 with
      |nx=>exact fun τ3 r3=>⟨L3,σ2,M2,s13,c3,r3,e'⟩
      |cnt=>exact fun τ3 r3=>⟨L3,σ2,M2,s13,c3,r3,e'⟩
      |brk=>cases e';exact q L3 H3 (s1.trans s13) c3
      |ret d=>cases e';exact q L3 H3 (s1.trans s13) c3
   ·cases e'
  ·have hi':i=xs.length:=by omega
   subst hi';rw[List.drop_length]at e';unfold zCf at e';split at e'
   ·rename_i hgd;cases e';obtain ⟨_,stop⟩:=it L' H' _ s' c' hgd;exact .inl ⟨stop,q L' H' (s1.trans s') c' τ' rs'⟩
   ·cases e'
 ·cases hf
theorem zSs (hg:GOk g fg) (hp:PassesOwn (model X.prog X.w) X.A X.env X.xe) (hc:X.calm=true) (hi:QI X tg iter fi) (ht:PG X tg g) (hb:QSs X body b)
  (hs:∀ x,foldedSetIterable iter X.env x=pure x:=by intro _;rfl):QS X (.For tg iter body [] pos) (zBo fi fg b):=.mk <| PS.imp (zTN hp hc hi.un ht hb.un hs) fun _ _ _ h=>zQA hg h
end
section
variable {X:Cx} {e c iter tg elt:Expr} {pos:Pos} {scope:Scope} {ifs:List Expr}
def zBV (c:FT) (b:FS):Nat->Sd->Mem->Option (Out × Sd × Mem)
 |0,_,_=>none
 |n+1,σ,M=>match c σ M with
  |some (true,M1)=>match b σ M1 with
   |some (.nx,σ2,M2)=>zBV c b n σ2 M2
   |some (.cnt,σ2,M2)=>zBV c b n σ2 M2
   |some (.brk,σ2,M2)=>some (.nx,σ2,M2)
   |some (.ret d,σ2,M2)=>some (.ret d,σ2,M2)
   |none=>none
  |some (false,M1)=>some (.nx,σ,M1)
  |none=>none
theorem zL1 {K:PySem.W.Frag} {fc:FT} {b:FS} {n:Nat} {E:Ends} {τ:Sv} {H:Hp} (h:trS K (zBV fc b n) E τ H):zPF (trT K fc) (trS K b) E τ H:=by
 obtain ⟨L,σ,M,o,σf,Mf,c,rs,hf,q⟩:=h;refine ⟨fun m τ' H'=>∃ L' σ' M',Stp L H L' H'/\Cor K L' M' H'/\zBe L' H' σ' τ'/\zBV fc b m σ' M'=some (o,σf,Mf),⟨n,L,σ,M,.refl _ _,c,rs,hf⟩,?_⟩;rintro m τ' H' ⟨L',σ',M',s',c',rs',e'⟩;cases m with
 |zero=>unfold zBV at e';cases e'
 |succ m=>
  unfold zBV at e';split at e'
  ·rename_i M1 e1;refine ⟨L',σ',M',_,_,c',rs',e1,fun L1 H1 s1 c1=>zHt ?_⟩;refine ⟨fun τ2 H2=>∃ L2 σ2 M2,Stp L H L2 H2/\Cor K L2 M2 H2/\zBe L2 H2 σ2 τ2/\zBV fc b m σ2 M2=some (o,σf,Mf),fun τ2 H2 h2=>⟨m,zXR m,h2⟩,?_⟩;cases eb:b σ' M1 with
   |none=>rw[eb]at e';cases e'
   |some r=>
    obtain ⟨o2,σ2,M2⟩:=r;rw[eb]at e';refine ⟨L1,σ',M1,_,_,_,c1,rs'.stp s1,eb,fun L3 H3 s3 c3=>?_⟩;have s13:Stp L H L3 H3:=(s'.trans s1).trans s3;cases o2 with
    |nx=>exact fun τ3 r3=>⟨L3,σ2,M2,s13,c3,r3,e'⟩
    |cnt=>exact fun τ3 r3=>⟨L3,σ2,M2,s13,c3,r3,e'⟩
    |brk=>cases e';exact q L3 H3 s13 c3
    |ret d=>cases e';exact q L3 H3 s13 c3
  ·rename_i M1 e1;cases e';exact ⟨L',_,M',_,_,c',rs',e1,fun L1 H1 s1 c1=>zHB (q L1 H1 (s'.trans s1) c1 τ' (rs'.stp s1))⟩
  ·cases e'
theorem zR3 (n:Nat) (hp:PassesOwn (model X.prog X.w) X.A X.env X.xe) (hc:QT X c fc) (hb:QSs X body b):QS X (.While c body [] pos) (zBV fc b n) :=
 .mk <| PS.imp (zQB hp hc.un hb.un) fun _ _ _ h=>zL1 h
def zBD (own:List Nat) (σ:Sd):Sd:=own.foldl (fun σ i=>σ.set i none) σ
theorem zEM:∀ (own:List Nat) {σ:Sd} {τ:Sv},zBe L H σ τ->zBe L H (zBD own σ) (clr own τ)
 |[],_,_,h=>h
 |i::r,σ,τ,h=>by
  refine zEM r (σ:=σ.set i none) (τ:=τ.set i none) ⟨by simp[h.1],fun j d q=>?_⟩;rw[zX3]at q ⊢;split at q
  ·split at q <;> cases q
  ·rename_i z;rw[zWm z];exact h.2 j d q
noncomputable def zA2 (g:FG) (tc:FT) (te:FE) (σ:Sd) (all:List D) (gd:Option (Mem->Prop)):List D->Mem->Option (List D × Mem)
 |[],M=>open Classical in if zA1 gd all M then some ([],M) else none
 |x::r,M=>open Classical in if zA1 gd all M then match g x σ with
   |some σ1=>match tc σ1 M with
    |some (true,M1)=>match toD te σ1 M1 with
     |some (d,M2)=>match zA2 g tc te σ all gd r M2 with
      |some (ds,M3)=>some (d::ds,M3)
      |none=>none
     |none=>none
    |some (false,M1)=>zA2 g tc te σ all gd r M1
    |none=>none
   |none=>none
  else none
noncomputable def zm (own:List Nat) (fi:FI) (g:FG) (tc:FT) (te:FE):FE:=fun σ M=>match fi σ M with
 |some (xs,gd,M1)=>if xs.length<=sizeLine then match zA2 g tc te (zBD own σ) xs gd xs M1 with
   |some (ys,M2)=>some (.fl ys,M2)
   |none=>none
  else none
 |none=>none
def zFP (own:List Nat) (g:TG) (fg:FG):Prop:=∀ {L:List Addr} {H:Hp} {σ σ':Sd} {τ τ0:Sv} {d:D} {v:V} {Q:Sv->Hp->Prop},zBe L H σ τ->Ext (clr own τ0) τ->Rep L H d v->fg d σ=some σ'->(∀ τ',zBe L H σ' τ'->Ext (clr own τ0) τ'->Q τ' H)->g v τ H Q
theorem zBc (hi:i∈own):zFP own (zDi i) (gN i):=by
 intro L H σ σ' τ τ0 d v Q rs ex r hf q;unfold gN at hf;cases hf;exact q _ (rs.set r) (ex.set hi)
theorem zIo {K:PySem.W.Frag} {own:List Nat} {fi:FI} {g:TG} {fg:FG} {tc:FT} {te:FE} (hg:zFP own g fg) {τ:Sv} {H:Hp} {Q:VK} (h:trE K (zm own fi fg tc te) τ H Q):zPf own (trI K fi) g (trT K tc) (trD K (toD te)) τ H Q:=by
 obtain ⟨L,σ,M,d,Mf,c,rs,hf,q⟩:=h;unfold zm at hf;split at hf
 ·rename_i xs gd M1 e1;split at hf
  ·rename_i hz;split at hf
   ·rename_i zs M2 e2;cases hf;refine ⟨L,σ,M,_,_,_,c,rs,e1,fun L1 H1 J s1 c1 it=>?_⟩
    refine ⟨fun i m ys H'=>m=xs.length-i/\i<=xs.length /\ ∃ L' M' as bs,Stp L1 H1 L' H'/\Cor K L' M' H'/\zQ L' H' as ys/\as.length<=i/\zA2 fg tc te (zBD own σ) xs gd (xs.drop i) M'=some (bs,Mf)/\as++bs=zs,
     ⟨xs.length,by simp,zXG _,L1,M1,[],zs,.refl _ _,c1,.nil,zWa _,by simpa using e2,rfl⟩,?_⟩
    rintro i m ys H' ⟨rfl,hi,L',M',as,bs,s',c',r',hl,e',hab⟩;have hys:ys.length<=i:=by rw[r'.length];exact hl
    by_cases hlt:i<xs.length
    ·rw[zCN hlt]at e';unfold zA2 at e';split at e'
     ·rename_i hgd;obtain ⟨step,_⟩:=it L' H' M' s' c' hgd;obtain ⟨go,yl⟩:=step i xs[i] (zWY hlt);split at e'
      ·rename_i σ1 eg;refine .inr ⟨go,fun v H2 hy=>?_⟩;obtain ⟨gr,rv⟩:=yl v H2 hy;have s2:Stp L1 H1 L' H2:=s'.yld gr;refine hg (zEM own ((rs.stp s1).stp s2)) (.refl _) rv eg fun τ2 r2 x2=>⟨x2,?_⟩;split at e'
       ·rename_i M3 e3;split at e'
        ·rename_i d M4 e4;split at e'
         ·rename_i ds M5 e5;cases e';refine ⟨L',σ1,M',_,_,c'.grow gr,r2,e3,fun L3 H3 s3 c3=>zHt ?_⟩;refine ⟨L3,σ1,M3,_,_,c3,r2.stp s3,e4,fun L4 H4 w s4 c4 r4=>?_⟩;have st:Stp L' H' L4 H4:=((Stp.grow gr).trans s3).trans s4;refine ⟨Nat.lt_of_le_of_lt hys (zWt hlt hz),xs.length-(i+1),by omega,rfl,hlt,L4,M4,as++[d],ds,s'.trans st,c4,(r'.stp st).app (.cons r4 .nil),by simp;omega,e5,by rw[<-hab];simp⟩
         ·cases e'
        ·cases e'
       ·rename_i M3 e3;refine ⟨L',σ1,M',_,_,c'.grow gr,r2,e3,fun L3 H3 s3 c3=>zHB ?_⟩;have st:Stp L' H' L3 H3:=(Stp.grow gr).trans s3;exact ⟨xs.length-(i+1),by omega,rfl,hlt,L3,M3,as,bs,s'.trans st,c3,r'.stp st,by omega,e',hab⟩
       ·cases e'
      ·cases e'
     ·cases e'
    ·have hi':i=xs.length:=by omega
     subst hi';rw[List.drop_length]at e';unfold zA2 at e';split at e'
     ·rename_i hgd;cases e';obtain ⟨_,stop⟩:=it L' H' _ s' c' hgd;refine .inl ⟨stop,zWv hys hz,fun p hp=>?_⟩;rw[zXE]at hab;subst hab;exact q L' _ _ ((s1.trans s').trans (.upd hp)) (c'.upd hp) (zf.newLst (s1.trans s') c c' hp r')
     ·cases e'
   ·cases hf
  ·cases hf
 ·cases hf
structure QIfs (X:Cx) (ifs:List Expr) (f:FT):Prop where
 un:zGQ X ifs (trT X.K f)
def zr:FT:=fun _ M=>some (true,M)
theorem zQk:QIfs X [] zr:=.mk fun zB s σ H Q I h=>by
 obtain ⟨L,σ',M,d,M',c,rs,hf,q⟩:=h;unfold zr at hf;cases hf;exact zQc zB s σ H Q I (q L H (.refl L H) c)
theorem zTx (h:QT X c f):QIfs X [c] f:=.mk (zPh h.un)
structure QParts (X:Cx) (scope:Scope) (tg:Expr) (ifs:List Expr) (elt:Expr) (g:TG) (tc:FT) (te:FE):Prop where
 g:∀ zB cl s H fp,PG (zL X zB scope cl s H fp) tg g
 c:∀ zB cl s H fp,QIfs (zL X zB scope cl s H fp) ifs tc
 e:∀ zB cl s H fp,QE (zL X zB scope cl s H fp) elt te
theorem QParts.parts {g:TG} {tc:FT} {te:FE} (p:QParts X scope tg ifs elt g tc te):CompParts X scope tg ifs elt g (trT X.K tc) (trD X.K (toD te)) :=
 ⟨p.g,fun zB cl s H fp=>(p.c zB cl s H fp).un,fun zB cl s H fp=>(zA3 (p.e zB cl s H fp)).un⟩
theorem zKL (hg:zFP own g fg) (C:CompIn X scope own) (hcalm:X.calm=true) (hi:QI X tg iter fi) (p:QParts X scope tg ifs elt g tc te) (hs:∀ x,foldedSetIterable iter X.env x=pure x:=by intro _;rfl) :
  QE X (.ListComp elt [⟨tg,iter,ifs,0⟩] scope pos) (zm own fi fg tc te):=.mk <| PE.imp (zSY C hcalm hi.un p.parts hs) fun _ _ _ h=>zIo hg h
theorem zOi (hN:X.N.Nodup) (hi':X.N[i]?=some x) (hx:Loc X.env.scope x) (hfn:X.fn x=true\/X.env.scope.names.lookup x=some .local)
  (hsw:swapsWith (.ListComp elt [⟨tg,iter,ifs,0⟩] scope pos) (some (.Name x pos')) pos''.line X.env=pure true)
  (hg:zFP own g fg) (C:CompIn X scope own) (hcalm:X.calm=true) (hi:QI X tg iter fi) (p:QParts X scope tg ifs elt g tc te) (hs:∀ x,foldedSetIterable iter X.env x=pure x:=by intro _;rfl) :
  QS X (.Assign [.Name x pos'] (.ListComp elt [⟨tg,iter,ifs,0⟩] scope pos) pos'') (zo i (zm own fi fg tc te)) :=
 .mk <| PS.imp (zMr hN hi' hx hfn C hcalm hi.un p.parts hsw hs) fun _ _ _ z=>zG9 (fun _ _ _ z=>zIo hg z) z
end
abbrev FF:=List D->Mem->Option (D × Mem)
def spF (K:PySem.W.Frag) (n:Nat) (g:FF):Sp:=fun vs H Q _=>∃ L ds M d M',Cor K L M H/\zQ L H ds vs/\ds.length=n/\g ds M=some (d,M') /\ ∀ L' H' v,Stp L H L' H'->Cor K L' M' H'->Rep L' H' d v->Q v H'
def zP (g:FF) (fa:FA):FE:=fun σ M=>match fa σ M with
 |some (ds,M1)=>match g ds M1 with
  |some (d,M2)=>some (.dat d,M2)
  |none=>none
 |none=>none
section
variable {X:Cx} {e:Expr} {es:List Expr} {pos p:Pos} {x:Str} {k:Nat} {f:Addr} {fd:FuncData} {ps:List Str}
theorem zTi (F:FnOk X.prog X.w X.K X.mg X.base CX0 k f fd ps (spF X.K (e::es).length g)) (hr:Room k X.A) (hg:Gl X x) (hm:X.mg x=some (.ref f)) (hk:PySem.W.keepIn X.K (.ref f)=true) (hb:zHC X.K fd ps [])
  (ha:QA X (e::es) fa) (hl:∀ σ M ds M1,fa σ M=some (ds,M1)->ds.length=(e::es).length) (hdb:(x==("__debug__" : Str))=false:=by decide) (he:starEach (e::es) X.env=(false,eval e X.env)::starEach es X.env:=by rfl) (hpl:(backTo pos (starEach es X.env)).any (·.1)=false:=by rfl) :
  QE X (.Call (.Name x p) (e::es) [] pos) (zP g fa) :=
 .mk <| PE.imp (zRi F hr hg hm hk hb .nil zVG ha.un hdb he hpl) fun τ H Q zz=>by
  obtain ⟨L,σ,M,d,M',c,rs,hf,q⟩:=zz;unfold zP at hf;split at hf
  ·rename_i ds M1 e1;split at hf
   ·rename_i d' M2 e2;cases hf;refine ⟨L,σ,M,_,_,c,rs,e1,fun L1 H1 vs s1 c1 r1=>?_⟩;dsimp only;rw[zXE];exact ⟨L1,ds,M1,d',_,c1,r1,hl _ _ _ _ e1,e2,fun L2 H2 v s2 c2 r2=>q L2 H2 v (s1.trans s2) c2 r2⟩
   ·cases hf
  ·cases hf
def zPU (fa:FA) (n:Nat):Prop:=∀ σ M ds M1,fa σ M=some (ds,M1)->ds.length=n
theorem zLR:zPU zH 0:=fun σ M ds M1 h=>by unfold zH at h;cases h;rfl
theorem zFl {f:FD} {g:FA} {n:Nat} (h:zPU g n):zPU (zD f g) (n+1):=fun σ M ds M1 q=>by
 unfold zD at q;split at q
 ·split at q
  ·rename_i e2;cases q;simp[h _ _ _ _ e2]
  ·cases q
 ·cases q
def zBN (n:Nat) (b:FS):FF:=fun ds M=>match b (ds.map some++List.replicate (n-ds.length) none) M with
 |some (.ret d,_,M')=>some (d,M')
 |some (.nx,_,M')=>some (.non,M')
 |_=>none
theorem zIw:∀ {ds:List D} {vs:List V},zQ L H ds vs->zBe L H (ds.map some++List.replicate (N.length-ds.length) none) (L2.zEh N vs):=fun {ds vs} r=>by
 unfold L2.zEh;have hl:=r.length;refine ⟨by simp[hl],fun i d q=>?_⟩;by_cases hi:i<ds.length
 ·rw[zWb (by simpa using hi),zWr]at q;rw[zWb (by simpa [hl] using hi),zWr];cases e1:ds[i]? with
  |none=>rw[e1]at q;cases q
  |some d'=>
   rw[e1]at q;cases q;obtain ⟨v,e2,r2⟩:=r.get e1;exact ⟨v,by rw[e2];rfl,r2⟩
 ·rw[zXe (by simpa using hi),List.getElem?_replicate]at q;split at q <;> cases q
theorem zAC {P:Program} {w:World} {K:PySem.W.Frag} {mg:Str->Option Value} {base:Heap} {qual:Str} {st:Stmt} {N:List Str} {b:FS} {n:Nat} (F:Fun K x qual st f fd) (S:FnScope N ps (zU st)) (hn:ps.length=n)
  (hb:∀ (cdv:Value) (A:Around) (outer:List Env) (s:Shared) (H:Hp) (E:XK),Room k (A.deeper (envOfC qual (zU st) s.heap.objs.size f cdv))->QSs (zMq CX0 P w K mg base N qual (zU st) f cdv A outer s H E).nox (zCq st) b) :
  FnOk P w K mg base CX0 (k+1) f fd ps (spF K n (zBN N.length b)):=by
 refine F.ok S (fun vs H Q E h=>?_) (fun cdv A outer s H vs Q E hr h=>⟨_,(hb cdv A outer s H E hr).un,?_⟩)
 ·obtain ⟨L,ds,M,d,M',c,r,hl,_⟩:=h;rw[r.length,hl,hn]
 ·obtain ⟨L,ds,M,d,M',c,r,hl,hf,q⟩:=h;unfold zBN at hf;split at hf
  ·rename_i d' σ' M1 e1;cases hf;exact ⟨L,_,M,_,_,_,c,zIw r,e1,fun L1 H1 s1 c1 v r1=>q L1 H1 v s1 c1 r1⟩
  ·rename_i σ' M1 e1;cases hf;exact ⟨L,_,M,_,_,_,c,zIw r,e1,fun L1 H1 s1 c1 τ' r1=>q L1 H1 .non s1 c1 (by unfold Rep;rfl)⟩
  ·cases hf
mutual
def D.und (n:Nat):D->Bool
 |.tup ds=>D.unds n ds
 |.ref k=>decide (k<n)
 |_=>true
def D.unds (n:Nat):List D->Bool
 |[]=>true
 |d::ds=>D.und n d&&D.unds n ds
end
mutual
theorem Rep.less:∀ {d:D} {v:V},D.und L.length d=true->Rep (L++N) H d v->Rep L H d v
 |.non,_,_,h=>by unfold Rep at h ⊢;exact h
 |.bl _,_,_,h=>by unfold Rep at h ⊢;exact h
 |.int _,_,_,h=>by unfold Rep at h ⊢;exact h
 |.str _,_,_,h=>by unfold Rep at h ⊢;exact h
 |.tup ds,_,hb,h=>by
  unfold D.und at hb;unfold Rep at h ⊢;obtain ⟨a,vs,rfl,e,r⟩:=h;exact ⟨a,vs,rfl,e,zQ.less hb r⟩
 |.ref n,_,hb,h=>by
  unfold D.und at hb;unfold Rep at h ⊢;obtain ⟨a,rfl,e⟩:=h;exact ⟨a,rfl,by rwa [zWb (zXQ hb)]at e⟩
theorem zQ.less:∀ {ds:List D} {vs:List V},D.unds L.length ds=true->zQ (L++N) H ds vs->zQ L H ds vs
 |[],_,_,h=>by unfold zQ at h ⊢;exact h
 |d::ds,_,hb,h=>by
  unfold D.unds at hb;rw[zW4]at hb;unfold zQ at h ⊢;obtain ⟨v,r,rfl,h1,h2⟩:=h;exact ⟨v,r,rfl,Rep.less hb.1 h1,zQ.less hb.2 h2⟩
end
theorem zA0.less {κ:Type} {kf:D->Option κ} {L N:List Addr} {H:Hp}:∀ {ps:List (D × D)} {vs:List (κ × V)},(ps.all fun p=>D.und L.length p.1&&D.und L.length p.2)=true->zA0 kf (L++N) H ps vs->zA0 kf L H ps vs
 |[],_,_,h=>h
 |p::r,_,hb,h=>by
  rw[List.all_cons,zW4,zW4]at hb;obtain ⟨k,v,r',rfl,e,h1,h2⟩:=h;exact ⟨k,v,r',rfl,e,Rep.less hb.1.2 h1,zA0.less hb.2 h2⟩
def MO.und (n:Nat):MO->Bool
 |.lst xs=>D.unds n xs
 |.fro xs=>D.unds n xs
 |.dict kvs=>kvs.all fun p=>D.und n p.1&&D.und n p.2
 |.dicT kvs=>kvs.all fun p=>D.und n p.1&&D.und n p.2
 |.set xs=>D.unds n xs
 |.froT kvs=>kvs.all fun p=>D.und n p.1&&D.und n p.2
 |.froK kvs=>kvs.all fun p=>D.und n p.1&&D.und n p.2
def zGH (g:FF):FF:=fun ds M=>match g ds M with
 |some (d,M')=>if D.und M.length d&&(M'.take M.length).all (MO.und M.length)&&decide (M.length<=M'.length) then some (d,M'.take M.length) else none
 |none=>none
theorem zGh {P:Program} {w:World} {K:PySem.W.Frag} {mg:Str->Option Value} {base:Heap} {n:Nat} {g:FF} (h:FnOk P w K mg base CX0 k f fd ps (spF K n g)):FnOk P w K mg base CX0 k f fd ps (spF K n (zGH g)) :=
 h.imp fun vs H Q E ⟨L,ds,M,d,M',c,r,hl,hf,q⟩=>by
  unfold zGH at hf;split at hf
  ·rename_i d' M1 e1;split at hf
   ·rename_i hb;cases hf;simp only[zW4,zXh,zW5]at hb;obtain ⟨⟨hb1,hb2⟩,hb3⟩:=hb;refine ⟨L,ds,M,_,_,c,r,hl,e1,fun L1 H1 v s1 c1 r1=>?_⟩;obtain ⟨N,rfl⟩:=s1.pre;rw[<-c.len]at hb1 hb2 hb3;refine q L H1 v ⟨⟨[],by simp⟩,fun a ha=> .inl ha,s1.old,s1.tup,s1.frz⟩ ⟨?_,?_,fun i a m e2 e3=>?_⟩ (Rep.less hb1 r1)
    ·rw[zXs,<-c.len];omega
    ·exact (zXi.mp c1.nd).1
    ·rw[<-c.len]at e3;have hi:i<L.length:=(zWX.mp e2).1;have hm:m∈M1.take L.length:=zXL e3;rw[List.getElem?_take_of_lt hi]at e3;have z:=c1.obj i a m (zBh e2) e3;have bl:=hb2 m hm;cases m with
     |lst xs=>obtain ⟨ws,e4,r4⟩:=z;exact ⟨ws,e4,zQ.less bl r4⟩
     |fro xs=>obtain ⟨o,ws,e4,r4⟩:=z;exact ⟨o,ws,e4,zQ.less bl r4⟩
     |dict ps=>obtain ⟨vs,e,r⟩:=z;exact ⟨vs,e,zA0.less bl r⟩
     |dicT ps=>obtain ⟨vs,e,r⟩:=z;exact ⟨vs,e,zA0.less bl r⟩
     |set _=>exact z
     |froT ps=>obtain ⟨o,vs,e,r⟩:=z;exact ⟨o,vs,e,zA0.less bl r⟩
     |froK ps=>obtain ⟨o,vs,e,r⟩:=z;exact ⟨o,vs,e,zA0.less bl r⟩
   ·cases hf
  ·cases hf
def zGD (g:FF):FF:=fun ds M=>if D.unds 0 ds then match g ds [] with
  |some (d,_)=>if D.und 0 d then some (d,M) else none
  |none=>none
 else none
theorem zGe {P:Program} {w:World} {K:PySem.W.Frag} {mg:Str->Option Value} {base:Heap} {n:Nat} {g:FF} (h:FnOk P w K mg base CX0 k f fd ps (spF K n g)):FnOk P w K mg base CX0 k f fd ps (spF K n (zGD g)) :=
 h.imp fun vs H Q E ⟨L,ds,M,d,M',c,r,hl,hf,q⟩=>by
  unfold zGD at hf;split at hf
  ·rename_i hb0;split at hf
   ·rename_i d' M1 e1;split at hf
    ·rename_i hb;cases hf;refine ⟨[],ds,[],_,_,⟨rfl,.nil,fun i a m e=>by simp at e⟩,zQ.less (L:=[]) (N:=L) hb0 (by simpa using r),hl,e1,fun L1 H1 v s1 c1 r1=>?_⟩;have gr:∀ a o,H a=some o->H1 a=some o:=fun a o e=>s1.old a o e (by simp);exact q L H1 v (.grow gr) (c.grow gr) ((Rep.less (L:=[]) (N:=L1) hb (by simpa using r1)).more L |> fun z=>by simpa using z)
    ·cases hf
   ·cases hf
  ·cases hf
theorem zTG (hl:PE X l tl):PI X tg l (fun σ H R=>tl σ H fun x H1=>∃ a,x=.ref a/\((∃ xs,SqL X.K H1 a xs)/\R (Itl X.K a) H1\/(∃ xs,SqT X.K H1 a xs)/\R (Itt X.K a) H1)):=by
 intro zB s σ H R I h;refine thn (hl zB s σ H _ I h) fun v s1 ⟨y,H1,I1,r1,a,hy,h1⟩=>?_;subst hy;cases r1;have fpk:∀ b∈[s1.heap.objs.size],zCE X zB H1 b:=fun b hb=>by
  have e:b=s1.heap.objs.size:=by simpa using hb
  subst e;exact I1.fpOk (zWa _) (I1.hok.fresh (zWa _))
 rcases h1 with ⟨⟨xs,hq⟩,q⟩|⟨⟨xs,hq⟩,q⟩
 ·obtain ⟨its,rv,pl,hz⟩:=I1.list hq;exact wpAny_pyIter_list pl.isList ⟨s1.heap.objs.size,[s1.heap.objs.size],_,_,H1,rfl,I1.kept (t':=s1.toks) fun b o e=>zWV _ e,zNg a _,⟨_,zWe _ rfl,rfl,rfl⟩,fpk,q⟩
 ·obtain ⟨its,rv,pl,hz⟩:=I1.tuple hq;exact wpAny_pyIter_tuple (show s1.heap.IsTuple a its.toArray from pl) ⟨s1.heap.objs.size,[s1.heap.objs.size],_,_,H1,rfl,I1.kept (t':=s1.toks) fun b o e=>zWV _ e,zMH a _,⟨_,zWe _ rfl,rfl,rfl⟩,fpk,q⟩
def zCz (x:EV) (xs:List D):Option (Mem->Prop):=match x with
 |.dat (.ref n)=>some fun M=>M[n]?=some (.lst xs)\/M[n]?=some (.fro xs)
 |_=>none
def zn (f:FE):FI:=fun σ M=>match f σ M with
 |some (x,M1)=>match zAb M1 x with
  |some xs=>some (xs,zCz x xs,M1)
  |none=>none
 |none=>none
def zv (f:FA):FI:=fun σ M=>match f σ M with
 |some ([.int j],M1)=>if -(2 ^ 62)<=j/\j<2 ^ 62 then some ((List.range j.toNat).map fun (k:Nat)=>D.int k,none,M1) else none
 |some ([.int i,.int j],M1)=>if -(2 ^ 62)<=i/\i<2 ^ 62 /\ -(2 ^ 62)<=j/\j<2 ^ 62 then some ((List.range (j-i).toNat).map fun (k:Nat)=>D.int (i+k),none,M1) else none
 |_=>none
theorem zTJ (h:QE X e g):QI X tg e (zn g):=.mk <| PI.imp (zTG h.un) fun τ H R zz=>by
 obtain ⟨L,σ,M,xs,gd,M',c,rs,hf,q⟩:=zz;unfold zn at hf;split at hf
 ·rename_i y M1 e1;split at hf
  ·rename_i zs e2;cases hf;refine ⟨L,σ,M,_,_,c,rs,e1,fun L1 H1 v s1 c1 r1=>?_⟩;unfold zAb at e2;cases t:zCH y with
   |some ws=>
    rw[t]at e2;cases e2;obtain ⟨a,vs,rfl,e3,r3⟩:=zB2 r1 t;refine ⟨a,rfl,.inr ⟨⟨vs,.of e3⟩,q L1 H1 _ s1 c1 fun L2 H2 M2 s2 c2 _=>?_⟩⟩;have e4:=s2.tup a vs e3;have r4:=r3.stp s2;refine ⟨fun i d hd=>?_,⟨vs,.of e4,by rw[r4.length];exact zWa _⟩⟩;obtain ⟨u,hu,ru⟩:=r4.get hd;refine ⟨⟨vs,u,.of e4,hu⟩,fun v H3 ⟨hH,hv⟩=>?_⟩;subst hH;have:=hv vs (.of e4);rw[hu]at this;cases this;exact ⟨fun _ _ z=>z,ru⟩
   |none=>
    rw[t]at e2;obtain ⟨a,vs,rfl,e3,r3⟩:=zBI c1 r1 e2;refine ⟨a,rfl,.inl ⟨⟨vs,.inl e3⟩,q L1 H1 _ s1 c1 fun L2 H2 M2 s2 c2 hgd=>?_⟩⟩;have key:∃ vs',SqL X.K H2 a vs'/\zQ L2 H2 xs vs':=by
     cases y with
     |fl ys=>
      cases e2;obtain ⟨p',vs',hp',_,e5,e6,r6⟩:=r1;cases hp';exact ⟨vs',.of (s2.old _ _ e5 e6),r6.stp s2⟩
     |dat d=>
      cases d with
      |ref n=>
       unfold zf Rep at r1;obtain ⟨a',ha',e5⟩:=r1;cases ha';have e6:L2[n]?=some a:=by obtain ⟨N,hN⟩:=s2.pre;rw[hN];exact zBh e5
       rcases hgd with z|z
       ·obtain ⟨vs',e7,r7⟩:=c2.obj n a _ e6 z;exact ⟨vs',.of e7,r7⟩
       ·obtain ⟨o,vs',e7,r7⟩:=c2.obj n a _ e6 z;exact ⟨vs',.inl (.inr ⟨o,e7⟩),r7⟩
      |_=>cases e2
    obtain ⟨vs',hq,r7⟩:=key;refine ⟨fun i d hd=>?_,⟨vs',hq,by rw[r7.length];exact zWa _⟩⟩;obtain ⟨u,hu,ru⟩:=r7.get hd;refine ⟨⟨vs',u,hq,hu⟩,fun v H3 ⟨hH,hv⟩=>?_⟩;subst hH;have:=hv vs' hq;rw[hu]at this;cases this;exact ⟨fun _ _ z=>z,ru⟩
  ·cases hf
 ·cases hf
theorem zET (h:zQ L H [.int j] vs):vs=[.int j]:=by
 unfold zQ at h;obtain ⟨v,r,rfl,h1,h2⟩:=h;unfold zQ at h2;unfold Rep at h1;subst h1 h2;rfl
theorem zNk (h:zQ L H [.int i,.int j] vs):vs=[.int i,.int j]:=by
 unfold zQ at h;obtain ⟨v,r,rfl,h1,h2⟩:=h;unfold Rep at h1;rw[zET h2,h1]
theorem zKv {K:PySem.W.Frag} {L:List Addr} {H:Hp} {lo:Int} {n:Nat}:zUu K (Itr lo n) L H ((List.range n).map fun (k:Nat)=>D.int (lo+k)) none:=by
 intro L' H' M' s c _;refine ⟨fun i d hd=>?_,by simp[Itr]⟩;rw[zWr]at hd;cases q:(List.range n)[i]? with
 |none=>rw[q]at hd;cases hd
 |some k=>
  rw[q]at hd;cases hd;have hi:i<n:=by have:=(zWX.mp q).1;simpa using this
  rw[zYY hi]at q;cases q;refine ⟨hi,fun v H'' ⟨hH,hv⟩=>?_⟩;subst hH hv;exact ⟨fun _ _ z=>z,zAi⟩
theorem zNe {tg a:Expr} {g:FA} (hg:Gl X "range") (hm:X.mg "range" = none) (ha:QA X [a] g) (hl:zPU g 1) (hs:starEach [a] X.env=[(false,eval a X.env)]:=by rfl):QI X tg (.Call (.Name "range" p) [a] [] pos) (zv g) :=
 .mk <| PI.imp (zOm hg hm ha.un hs) fun τ H R zz=>by
  obtain ⟨L,σ,M,xs,gd,M',c,rs,hf,q⟩:=zz;unfold zv at hf;split at hf
  ·rename_i j M1 e1;split at hf
   ·rename_i hb;cases hf;refine ⟨L,σ,M,_,_,c,rs,e1,fun L1 H1 vs s1 c1 r1=>⟨j,zET r1,hb.1,hb.2,q L1 H1 _ s1 c1 ?_⟩⟩;have z:=zKv (K:=X.K) (L:=L1) (H:=H1) (lo:=0) (n:=j.toNat);simpa using z
   ·cases hf
  ·rename_i e1;have:=hl _ _ _ _ e1;simp at this
  ·cases hf
theorem zNo (hg:Gl X "range") (hm:X.mg "range" = none) (ha:QA X [a,b] g) (hl:zPU g 2) (hs:starEach [a,b] X.env=[(false,eval a X.env),(false,eval b X.env)]:=by rfl) (hs2:starEach [b] X.env=[(false,eval b X.env)]:=by rfl):QI X tg (.Call (.Name "range" p) [a,b] [] pos) (zv g) :=
 .mk <| PI.imp (zOR hg hm ha.un hs hs2) fun τ H R zz=>by
  obtain ⟨L,σ,M,xs,gd,M',c,rs,hf,q⟩:=zz;unfold zv at hf;split at hf
  ·rename_i e1;have:=hl _ _ _ _ e1;simp at this
  ·rename_i i j M1 e1;split at hf
   ·rename_i hb;cases hf;exact ⟨L,σ,M,_,_,c,rs,e1,fun L1 H1 vs s1 c1 r1=>⟨i,j,zNk r1,hb,q L1 H1 _ s1 c1 zKv⟩⟩
   ·cases hf
  ·cases hf
end
section
variable {X:Cx} {a b c e:Expr} {es rest:List Expr} {pos p apos cpos:Pos}
def zDk (f g:FT):FT:=fun σ M=>match f σ M with
 |some (true,M1)=>g σ M1
 |r=>r
def zFp (f g:FT):FT:=fun σ M=>match f σ M with
 |some (false,M1)=>g σ M1
 |r=>r
def zFQ (f:FT):FT:=fun σ M=>match f σ M with
 |some (k,M1)=>some (!k,M1)
 |none=>none
structure QW (X:Cx) (e:Expr) (f:FT):Prop where
 un:PW X e (trT X.K f)
theorem PW.imp (h:PW X e t) (hi:∀ τ H Q,t' τ H Q->t τ H Q):PW X e t':=fun wh zB s σ H Q I q=>h wh zB s σ H Q I (hi _ _ _ q)
theorem zRh (h:QT X a f):QW X (.BoolOp .And [a] pos) f:=.mk (zSC h.un)
theorem zPw (h:QT X a f):QW X (.BoolOp .Or [a] pos) f:=.mk (zUL h.un)
theorem zTM (h1:QT X a f) (h2:QW X (.BoolOp .And (b::rest) pos) g):QW X (.BoolOp .And (a::b::rest) pos) (zDk f g):=.mk <| PW.imp (zTF h1.un h2.un) fun τ H Q zz=>by
 obtain ⟨L,σ,M,d,M',c,rs,hf,q⟩:=zz;unfold zDk at hf;split at hf
 ·rename_i M1 e1;exact ⟨L,σ,M,_,_,c,rs,e1,fun L1 H1 s1 c1=>zHt ⟨L1,σ,M1,_,_,c1,rs.stp s1,hf,fun L2 H2 s2 c2=>q L2 H2 (s1.trans s2) c2⟩⟩
 ·rename_i hne;cases d with
  |true=>exact absurd hf (hne M')
  |false=>exact ⟨L,σ,M,_,_,c,rs,hf,fun L1 H1 s1 c1=>zHB (q L1 H1 s1 c1)⟩
theorem zSt (h1:QT X a f) (h2:QW X (.BoolOp .Or (b::rest) pos) g):QW X (.BoolOp .Or (a::b::rest) pos) (zFp f g):=.mk <| PW.imp (zVe h1.un h2.un) fun τ H Q zz=>by
 obtain ⟨L,σ,M,d,M',c,rs,hf,q⟩:=zz;unfold zFp at hf;split at hf
 ·rename_i M1 e1;exact ⟨L,σ,M,_,_,c,rs,e1,fun L1 H1 s1 c1=>zHB ⟨L1,σ,M1,_,_,c1,rs.stp s1,hf,fun L2 H2 s2 c2=>q L2 H2 (s1.trans s2) c2⟩⟩
 ·rename_i hne;cases d with
  |false=>exact absurd hf (hne M')
  |true=>exact ⟨L,σ,M,_,_,c,rs,hf,fun L1 H1 s1 c1=>zHt (q L1 H1 s1 c1)⟩
theorem zUc (h:QW X e f):QT X e f:=.mk (PW.pt h.un)
theorem zPN (h:QT X a f):QT X (.UnaryOp .Not a pos) (zFQ f):=.mk <| PT.imp (zTC h.un) fun τ H Q zz=>by
 obtain ⟨L,σ,M,d,M',c,rs,hf,q⟩:=zz;unfold zFQ at hf;split at hf
 ·rename_i k M1 e1;cases hf;exact ⟨L,σ,M,_,_,c,rs,e1,fun L1 H1 s1 c1=>q L1 H1 s1 c1⟩
 ·cases hf
def zL9 (f g:FE):FE:=fun σ M=>match f σ M with
 |some (.dat (.bl true),M1)=>g σ M1
 |some (.dat (.bl false),M1)=>some (.dat (.bl false),M1)
 |_=>none
def zQG (f:FE):FE:=fun σ M=>match f σ M with
 |some (.dat (.bl k),M1)=>some (.dat (.bl (!k)),M1)
 |_=>none
theorem zEQ (h:zf H0 L H (.dat (.bl k)) v):v=.bl k:=by unfold zf Rep at h;exact h
theorem zPr {op} (h:QE X a f):QE X (.BoolOp op [a] pos) f:=.mk (zTI h.un)
theorem zMR (h1:QE X a f) (h2:QE X (.BoolOp .And (b::rest) pos) g):QE X (.BoolOp .And (a::b::rest) pos) (zL9 f g):=.mk <| PE.imp (zUN h1.un h2.un) fun τ H Q zz=>by
 obtain ⟨L,σ,M,d,M',c,rs,hf,q⟩:=zz;unfold zL9 at hf;split at hf
 ·rename_i M1 e1;exact ⟨L,σ,M,_,_,c,rs,e1,fun L1 H1 v s1 c1 r1=>⟨true,zEQ r1,zHt ⟨L1,σ,M1,_,_,c1,rs.stp s1,hf,fun L2 H2 w s2 c2 r2=>q L2 H2 w (s1.trans s2) c2 (r2.back s1 c s2.sub)⟩⟩⟩
 ·rename_i M1 e1;cases hf;exact ⟨L,σ,M,_,_,c,rs,e1,fun L1 H1 v s1 c1 r1=>⟨false,zEQ r1,zHB (q L1 H1 _ s1 c1 (by have:=zEQ r1;subst this;exact r1))⟩⟩
 ·cases hf
theorem zUa (h:QE X a f):QE X (.UnaryOp .Not a pos) (zQG f):=.mk <| PE.imp (zUK h.un) fun τ H Q zz=>by
 obtain ⟨L,σ,M,d,M',c,rs,hf,q⟩:=zz;unfold zQG at hf;split at hf
 ·rename_i k M1 e1;cases hf;exact ⟨L,σ,M,_,_,c,rs,e1,fun L1 H1 v s1 c1 r1=>⟨k,zEQ r1,q L1 H1 _ s1 c1 (by unfold zf Rep;rfl)⟩⟩
 ·cases hf
def vIf (t:FT) (f g:FE):FE:=fun σ M=>match t σ M with
 |some (true,M1)=>f σ M1
 |some (false,M1)=>g σ M1
 |none=>none
theorem zSR (hc:QT X c t) (h1:QE X a f) (h2:QE X b g):QE X (.IfExp c a b pos) (vIf t f g):=.mk <| PE.imp (zPS hc.un h1.un h2.un) fun τ H Q zz=>by
 obtain ⟨L,σ,M,d,M',c,rs,hf,q⟩:=zz;unfold vIf at hf;split at hf
 ·rename_i M1 e1;exact ⟨L,σ,M,_,_,c,rs,e1,fun L1 H1 s1 c1=>zHt ⟨L1,σ,M1,_,_,c1,rs.stp s1,hf,fun L2 H2 w s2 c2 r2=>q L2 H2 w (s1.trans s2) c2 (r2.back s1 c s2.sub)⟩⟩
 ·rename_i M1 e1;exact ⟨L,σ,M,_,_,c,rs,e1,fun L1 H1 s1 c1=>zHB ⟨L1,σ,M1,_,_,c1,rs.stp s1,hf,fun L2 H2 w s2 c2 r2=>q L2 H2 w (s1.trans s2) c2 (r2.back s1 c s2.sub)⟩⟩
 ·cases hf
abbrev KM:=EV->List D->Mem->Option (D × Mem)
def fM (k:KM) (f:FE) (g:FA):FE:=fun σ M=>match f σ M with
 |some (x,M1)=>match zBR M1 x with
  |some _=>match g σ M1 with
   |some (ds,M2)=>match k x ds M2 with
    |some (d,M3)=>some (.dat d,M3)
    |none=>none
   |none=>none
  |none=>none
 |none=>none
def zQv (K:PySem.W.Frag) (r:V->List V->Hp->VK->Prop) (k:KM):Prop:=∀ {L:List Addr} {M M':Mem} {H H0:Hp} {x:EV} {ds:List D} {d:D} {v:V} {vs:List V} {Q:VK},Cor K L M H->zf H0 L H x v->zQ L H ds vs->k x ds M=some (d,M') ->
 (∀ L' H' u,Stp L H L' H'->Cor K L' M' H'->Rep L' H' d u->Q u H')->r v vs H Q
theorem zJO {K:PySem.W.Frag} {r:V->List V->Hp->VK->Prop} {k:KM} {f:FE} {g:FA} (hk:zQv K r k) {τ:Sv} {H:Hp} {Q:VK} (h:trE K (fM k f g) τ H Q):tBM K "list" r (trE K f) (trA K g) τ H Q:=by
 obtain ⟨L,σ,M,d,M',c,rs,hf,q⟩:=h;unfold fM at hf;split at hf
 ·rename_i x M1 e1;split at hf
  ·rename_i xs e2;split at hf
   ·rename_i ds M2 e3;split at hf
    ·rename_i d' M3 e4;cases hf;refine ⟨L,σ,M,_,_,c,rs,e1,fun L1 H1 v s1 c1 r1=>?_⟩;obtain ⟨a,vs,rfl,e5,r5⟩:=zBI c1 r1 e2;refine ⟨.inl ⟨rfl,vs,.inl e5⟩,L1,σ,M1,_,_,c1,rs.stp s1,e3,fun L2 H2 ws s2 c2 r2=>?_⟩;exact hk c2 (r1.stp s2) r2 e4 fun L3 H3 u s3 c3 r3=>q L3 H3 u ((s1.trans s2).trans s3) c3 r3
    ·cases hf
   ·cases hf
  ·cases hf
 ·cases hf
def zk:KM:=fun x ds M=>match x,ds with
 |.dat (.ref n),[d]=>match M[n]? with
  |some (.lst xs)=>if xs.length<sizeLine then some (.non,M.set n (.lst (xs++[d]))) else none
  |_=>none
 |_,_=>none
theorem zQ.one (h:zQ L H [d] vs):∃ v,vs=[v]/\Rep L H d v:=by
 unfold zQ at h;obtain ⟨v,r,rfl,h1,h2⟩:=h;unfold zQ at h2;subst h2;exact ⟨v,rfl,h1⟩
theorem zLt {K:PySem.W.Frag}:zQv K zNL zk:=by
 intro L M M' H H0 x ds d v vs Q c rx rd hk q;unfold zk at hk;split at hk
 ·rename_i n d';split at hk
  ·rename_i xs e1;split at hk
   ·rename_i hz;cases hk;unfold zf Rep at rx;obtain ⟨a,rfl,e2⟩:=rx;obtain ⟨ws,e3,r3⟩:=c.obj n a _ e2 e1;obtain ⟨w,rfl,r4⟩:=rd.one;obtain ⟨c5,s5⟩:=c.write e2 e1 (r3.app (.cons r4 .nil));exact ⟨a,ws,w,rfl,rfl,e3,by rw[r3.length];exact hz,q L _ _ s5 c5 (by unfold Rep;rfl)⟩
   ·cases hk
  ·cases hk
 ·cases hk
theorem zQx (h:QE X a f) (hg:QA X [e] g) (hbase:attributeBase a "append" X.env (eval a X.env)=eval a X.env:=by rfl)
  (hfew:((backTo cpos (starEach [e] X.env)).all (fun x=> !x.1)&&(backToKw cpos (keywordEach [] X.env)).all (fun x=>x.1.isSome)&&decide ([e].length+([]:List Keyword).length+(if ([]:List Keyword).isEmpty then 0 else 1)<30))=true:=by rfl)
  (hline:(apos.endLine==cpos.line)=true:=by rfl) (hs:starEach [e] X.env=(false,eval e X.env)::starEach [] X.env:=by rfl) (hplain:(backTo cpos (starEach [] X.env)).any (·.1)=false:=by rfl) :
  QE X (.Call (.Attribute a "append" apos) [e] [] cpos) (fM zk f g) :=
 .mk <| PE.imp (zNY PySem.F.plainAttrs_list PySem.F.slot_list_append PySem.F.type_list_append zNv h.un hg.un hbase hfew hline hs hplain) fun _ _ _ z=>zJO zLt z
def zIN:KM:=fun x ds M=>match x,ds with
 |.dat (.ref n),[.int i]=>match M[n]? with
  |some (.lst xs)=>match ixN xs.length i with
   |some k=>match xs[k]? with
    |some d=>if -(2 ^ 63)<=i/\i<2 ^ 63 then some (d,M.set n (.lst (xs.eraseIdx k))) else none
    |none=>none
   |none=>none
  |_=>none
 |_,_=>none
theorem zSX {K:PySem.W.Frag}:zQv K zQZ zIN:=by
 intro L M M' H H0 x ds d v vs Q c rx rd hk q;unfold zIN at hk;split at hk
 ·rename_i n i;split at hk
  ·rename_i xs e1;split at hk
   ·rename_i k e2;split at hk
    ·rename_i d' e3;split at hk
     ·rename_i hb;cases hk;unfold zf Rep at rx;obtain ⟨a,rfl,e4⟩:=rx;obtain ⟨ws,e5,r5⟩:=c.obj n a _ e4 e1;obtain ⟨u,e6,r6⟩:=r5.get e3;obtain ⟨c5,s5⟩:=c.write e4 e1 (r5.eraseIdx k);exact ⟨a,ws,i,k,u,rfl,zET rd,e5,hb.1,hb.2,by rw[r5.length];exact (zKC e2).1,e6,q L _ _ s5 c5 (r6.stp s5)⟩
     ·cases hk
    ·cases hk
   ·cases hk
  ·cases hk
 ·cases hk
theorem zVT (h:QE X a f) (hg:QA X [e] g) (hbase:attributeBase a "pop" X.env (eval a X.env)=eval a X.env:=by rfl)
  (hfew:((backTo cpos (starEach [e] X.env)).all (fun x=> !x.1)&&(backToKw cpos (keywordEach [] X.env)).all (fun x=>x.1.isSome)&&decide ([e].length+([]:List Keyword).length+(if ([]:List Keyword).isEmpty then 0 else 1)<30))=true:=by rfl)
  (hline:(apos.endLine==cpos.line)=true:=by rfl) (hs:starEach [e] X.env=(false,eval e X.env)::starEach [] X.env:=by rfl) (hplain:(backTo cpos (starEach [] X.env)).any (·.1)=false:=by rfl) :
  QE X (.Call (.Attribute a "pop" apos) [e] [] cpos) (fM zIN f g) :=
 .mk <| PE.imp (zNY PySem.F.plainAttrs_list PySem.F.slot_list_pop PySem.F.type_list_pop zPn h.un hg.un hbase hfew hline hs hplain) fun _ _ _ z=>zJO zSX z
def zKj (x:EV) (i:D) (d:D) (M:Mem):Option Mem:=match x,i with
 |.dat (.ref n),.int i=>match M[n]? with
  |some (.lst xs)=>match ixN xs.length i with
   |some j=>some (M.set n (.lst (xs.set j d)))
   |none=>none
  |_=>none
 |_,_=>none
def zMp (fv fo fi:FE):FS:=fun σ M=>match toD fv σ M with
 |some (d,M1)=>match fo σ M1 with
  |some (x,M2)=>match toD fi σ M2 with
   |some (i,M3)=>match zKj x i d M3 with
    |some M4=>some (.nx,σ,M4)
    |none=>none
   |none=>none
  |none=>none
 |none=>none
theorem zQX (hv:QE X v fv) (ho:QE X o fo) (hi:QE X i fi)
  (ha:∀ v,assign (.Subscript o i p) X.env v=(do
   let ov <- holding [v] (eval o X.env);let iv <- holding [v,ov] (eval i X.env);standAt p;holding [v,ov,iv] (setItem ov iv v);release [v,ov,iv] []):=by intro _;rfl)
  (hs:swapsWithSole [.Subscript o i p] v pos.line X.env=pure false:=by rfl) (hw:swappedStores [.Subscript o i p] v X.env=pure none:=by rfl) (h1:(assignEach [.Subscript o i p] X.env).map (·.2)=[assign (.Subscript o i p) X.env]:=by rfl) :
  QS X (.Assign [.Subscript o i p] v pos) (zMp fv fo fi):=.mk <| PS.imp (zPv (zA3 hv).un (zS1 ho.un (zA3 hi).un zPY ha) hs hw h1) fun E τ H zz=>by
 obtain ⟨L,σ,M,out,σ',M',c,rs,hf,q⟩:=zz;unfold zMp at hf;split at hf
 ·rename_i d M1 e1;split at hf
  ·rename_i x M2 e2;split at hf
   ·rename_i j M3 e3;split at hf
    ·rename_i M4 e4;cases hf;refine ⟨L,σ,M,_,_,c,rs,e1,fun L1 H1 u s1 c1 r1=>⟨L1,σ,M1,_,_,c1,rs.stp s1,e2,fun L2 H2 w s2 c2 r2=>⟨L2,σ,M2,_,_,c2,rs.stp (s1.trans s2),e3,fun L3 H3 z s3 c3 r3=>?_⟩⟩⟩;have st:=(s1.trans s2).trans s3;unfold zKj at e4;split at e4
     ·rename_i n k;split at e4
      ·rename_i xs e5;split at e4
       ·rename_i m e6;cases e4;have r2':=r2.stp s3;unfold zf Rep at r2';obtain ⟨a,rfl,e7⟩:=r2';obtain ⟨ws,e8,r8⟩:=c3.obj n a _ e7 e5;obtain ⟨c9,s9⟩:=c3.write e7 e5 (zQ.set ((r1.stp s2).stp s3) m r8);exact ⟨a,ws,k,m,rfl,by unfold Rep at r3;exact r3,e8,by rw[r8.length];exact e6,q L3 _ (st.trans s9) c9 τ ((rs.stp st).stp s9)⟩
       ·cases e4
      ·cases e4
     ·cases e4
    ·cases hf
   ·cases hf
  ·cases hf
 ·cases hf
def zF6:D->Option V
 |.non=>some .non
 |.bl k=>some (.bl k)
 |.int i=>some (.int i)
 |.str x=>some (.str x)
 |_=>none
theorem zFU (h:Rep L H d v) (e:zF6 d=some u):v=u:=by
 cases d with
 |non=>cases e;unfold Rep at h;exact h
 |bl _=>cases e;unfold Rep at h;exact h
 |int _=>cases e;unfold Rep at h;exact h
 |str _=>cases e;unfold Rep at h;exact h
 |tup _=>cases e
 |ref _=>cases e
def zMP (neg:Bool):K2:=fun x y M=>match x,y with
 |.dat d,.dat d'=>match zF6 d,zF6 d' with
  |some u,some w=>if zRM u w then some (.dat (.bl (if neg then !decide (u=w) else decide (u=w))),M) else none
  |_,_=>none
 |_,_=>none
theorem zIv (h:zMP neg x y M=some (r,M')):∃ d d' u w,x=.dat d/\y=.dat d'/\zF6 d=some u/\zF6 d'=some w/\zRM u w=true/\r=.dat (.bl (if neg then !decide (u=w) else decide (u=w)))/\M'=M:=by
 unfold zMP at h;split at h
 ·rename_i d d';split at h
  ·rename_i u w e1 e2;split at h
   ·rename_i hs;cases h;exact ⟨d,d',u,w,rfl,rfl,e1,e2,hs,rfl,rfl⟩
   ·cases h
  ·cases h
 ·cases h
theorem zMx {K:PySem.W.Frag}:zDA K rEq (zMP false):=by
 intro L M M' H H0 x y d v w Q c rx ry hk q;obtain ⟨d1,d2,u,z,rfl,rfl,e1,e2,hs,rfl,rfl⟩:=zIv hk;have a1:=zFU rx e1;have a2:=zFU ry e2;subst a1 a2;exact ⟨hs,q L H _ (.refl L H) c (zCF (L:=L) (H:=H))⟩
theorem zRG {K:PySem.W.Frag}:zDA K rNe (zMP true):=by
 intro L M M' H H0 x y d v w Q c rx ry hk q;obtain ⟨d1,d2,u,z,rfl,rfl,e1,e2,hs,rfl,rfl⟩:=zIv hk;have a1:=zFU rx e1;have a2:=zFU ry e2;subst a1 a2;exact ⟨hs,q L H _ (.refl L H) c (zCF (L:=L) (H:=H))⟩
def zTD (neg:Bool) (K:PySem.W.Frag):R2:=fun x y H Q=>∃ p q xs,x=.ref p/\y=.ref q/\SqL K H p xs/\SqL K H q []/\Q (.bl (if neg then !xs.isEmpty else xs.isEmpty)) H
theorem zJd (r:ze [] its):its=[]:=by cases r;rfl
theorem zKd (hu:X.A.units<cLine):OpR X (compareOp .Eq) (zTD false X.K):=by
 intro zB s σ H x y v u Q I rx ry h;obtain ⟨p,q,xs,rfl,rfl,h1,h2,hq⟩:=h;cases rx;cases ry;obtain ⟨its,rv,pl,_⟩:=I.list h1;obtain ⟨its2,rv2,pl2,_⟩:=I.list h2;cases zJd rv2;cases rv with
 |nil=>exact SeqAt.eq_listAt (e:=fun _=>true) pl.isList pl2.isList rfl hu (fun j h1=>by simp at h1) ⟨.bl true,H,I,rfl,hq⟩
 |cons _ _=>exact SeqAt.eq_list_lengthsAt pl.isList pl2.isList (by simp) hu ⟨.bl false,H,I,rfl,hq⟩
theorem zQC (hu:X.A.units<cLine):OpR X (compareOp .NotEq) (zTD true X.K):=by
 intro zB s σ H x y v u Q I rx ry h;obtain ⟨p,q,xs,rfl,rfl,h1,h2,hq⟩:=h;cases rx;cases ry;obtain ⟨its,rv,pl,_⟩:=I.list h1;obtain ⟨its2,rv2,pl2,_⟩:=I.list h2;cases zJd rv2;cases rv with
 |nil=>exact SeqAt.RcNeAt.lists (e:=fun _=>true) pl.isList pl2.isList rfl hu (fun j h1=>by simp at h1) _ _ _ _ ⟨.bl false,H,I,rfl,hq⟩
 |cons _ _=>exact SeqAt.RcNeAt.lists_lengths pl.isList pl2.isList (by simp) hu _ _ _ _ ⟨.bl true,H,I,rfl,hq⟩
def zQt (neg:Bool):K2:=fun x y M=>match zBR M x,zBR M y with
 |some xs,some []=>some (.dat (.bl (if neg then !xs.isEmpty else xs.isEmpty)),M)
 |_,_=>none
theorem zJo {K:PySem.W.Frag} {neg:Bool}:zDA K (zTD neg K) (zQt neg):=by
 intro L M M' H H0 x y d v w Q c rx ry hk q;unfold zQt at hk;split at hk
 ·rename_i xs e1 e2;cases hk;obtain ⟨p1,vs,rfl,h1,r1⟩:=zBI c rx e1;obtain ⟨p2,ws,rfl,h2,r2⟩:=zBI c ry e2;unfold zQ at r2;subst r2;refine ⟨p1,p2,vs,rfl,rfl,.inl h1,.inl h2,q L H _ (.refl L H) c ?_⟩;have:vs.isEmpty=xs.isEmpty:=by
   have:=r1.length;cases vs <;> cases xs <;> simp_all
  rw[this];exact (zCF (L:=L) (H:=H))
 ·cases hk
def kOr (k1 k2:K2):K2:=fun x y M=>match k1 x y M with
 |some r=>some r
 |none=>k2 x y M
theorem zJ3 {K:PySem.W.Frag} {r1 r2:R2} {k1 k2:K2} (h1:zDA K r1 k1) (h2:zDA K r2 k2):zDA K (fun x y H Q=>r1 x y H Q\/r2 x y H Q) (kOr k1 k2):=by
 intro L M M' H H0 x y d v w Q c rx ry hk q;unfold kOr at hk;split at hk
 ·rename_i r e1;cases hk;exact .inl (h1 c rx ry e1 q)
 ·exact .inr (h2 c rx ry hk q)
abbrev kEq:K2:=kOr (zMP false) (zQt false)
abbrev kNe:K2:=kOr (zMP true) (zQt true)
variable {f g:FE}
theorem zUl (hu:X.A.units<cLine) (h1:QE X a f) (h2:QE X b g):QE X (.Compare a [.Eq] [b] pos) (fOp kEq f g):=zVa (zJ3 zMx zJo) (zSm.or (zKd hu)) h1 h2 (zEr _)
theorem zVu (hu:X.A.units<cLine) (h1:QE X a f) (h2:QE X b g):QT X (.Compare a [.Eq] [b] pos) (tst (fOp kEq f g)):=zEK (zJ3 zMx zJo) (zSm.or (zKd hu)) h1 h2 (zEr _)
theorem zSr (hu:X.A.units<cLine) (h1:QE X a f) (h2:QE X b g):QT X (.Compare a [.NotEq] [b] pos) (tst (fOp kNe f g)):=zEK (zJ3 zRG zJo) (zVh.or (zQC hu)) h1 h2 (zEr _)
end
section
variable {X:Cx} {a b c e:Expr} {es rest:List Expr} {pos p apos cpos:Pos}
theorem zQi {prog:Program} {w:World} {A:Around} {E:Value->Shared->Prop} {s:Shared} {t b:Addr} {ws:List Value} {Q:Value->Shared->Prop} (ht:IsTup s.heap t #[]) (hb:IsTup s.heap b ws.toArray) (h1:Q (.ref b) s) :
  wpAny (model prog w) A (binaryOp .Add (.ref t) (.ref b)) Q E s:=by
 obtain ⟨⟨cls,dd,data,sl⟩,ho,hc,n,hd⟩:=id ht;obtain ⟨⟨cls2,dd2,data2,sl2⟩,ho2,hc2,n2,hd2⟩:=id hb;simp only at hc hd hc2 hd2;subst hc hd hc2 hd2
 exact concat_meets ⟨_,ho,rfl⟩ ⟨_,ho2,rfl⟩ noFill_tuple_add seq_tuple_add PySem.F.slot_tuple_add PySem.F.entry_tuple_add (PySem.F.args_tuple_add_2 _ _)
   (tuple_addW0 t b #[] ws.toArray n n2 dd dd2 sl sl2 (by simp)) ⟨ho,ho2,h1⟩
def zQ2 (K:PySem.W.Frag):R2:=fun x y H Q=>∃ a b ys,x=.ref a/\y=.ref b/\SqT K H a []/\SqT K H b ys/\Q (.ref b) H
theorem zO8:OpR X (binaryOp .Add) (zQ2 X.K):=by
 intro zB s σ H x y v u Q I rx ry h;obtain ⟨a,b,ys,rfl,rfl,ha,hb,q⟩:=h;cases rx;cases ry;obtain ⟨its,r1,p1,_⟩:=I.tuple ha;obtain ⟨its2,r2,p2,_⟩:=I.tuple hb;cases zJd r1;exact zQi p1 p2 ⟨.ref b,H,I,rfl,q⟩
def zRB:K2:=fun x y M=>match zCH x,zCH y with
 |some xs,some ys=>if xs.length+ys.length<=sizeLine then some (.dat (.tup (xs++ys)),M) else none
 |_,_=>none
theorem zPg {K:PySem.W.Frag}:zDA K (fun x y H Q=>zSk K x y H Q\/zQ2 K x y H Q) zRB:=by
 intro L M M' H H0 x y d v w Q c rx ry hk q;unfold zRB at hk;split at hk
 ·rename_i xs ys e1 e2;split at hk
  ·rename_i hz;cases hk;obtain ⟨p1,vs,rfl,h1,r1⟩:=zB2 rx e1;obtain ⟨p2,ws,rfl,h2,r2⟩:=zB2 ry e2;cases xs with
   |nil=>
    refine .inr ⟨p1,p2,ws,rfl,rfl,.of (by unfold zQ at r1;subst r1;exact h1),.of h2,q L H _ (.refl L H) c ?_⟩;unfold zf Rep;exact ⟨p2,ws,rfl,h2,r2⟩
   |cons x0 xr=>
    have hv:vs≠[]:=fun z=>by have:=r1.length;rw[z]at this;simp at this
    refine .inl ⟨p1,p2,vs,ws,rfl,rfl,.of h1,.of h2,hv,by rw[r1.length,r2.length];exact hz,fun z=>?_,fun z pp hp=>?_⟩
    ·have:ys=[]:=by
      have:=r2.length;rw[z]at this;cases ys with
      |nil=>rfl
      |cons _ _=>simp at this
     subst this;refine q L H _ (.refl L H) c ?_;unfold zf Rep;rw[zXE];exact ⟨p1,vs,rfl,h1,r1⟩
    ·exact q L _ _ (.upd hp) (c.upd hp) (Rep.newTup hp (r1.app r2))
  ·cases hk
 ·cases hk
abbrev zAE:K2:=kOr zWO zRB
variable {f g:FE}
theorem zUF (h1:QE X a f) (h2:QE X b g):QE X (.BinOp a .Add b pos) (fOp zAE f g):=zK9 (zJ3 (zFw fun _ _ _ _=>zAi) zPg) (zUQ.or (zSU.or zO8)) h1 h2
structure Kinds (K:PySem.W.Frag):Prop where
 k:∀ t T,t∈["NoneType", "bool", "int", "str", "list", "tuple", "dict"]->T∈["int", "bool", "str", "tuple"]->PySem.W.kitOne K (.type t) (.type T)=some (decide (t=T)||(decide (t = "bool")&&decide (T = "int")))
def zLp (M:Mem):EV->Option String
 |.dat .non=>some "NoneType"
 |.dat (.bl _)=>some "bool"
 |.dat (.int _)=>some "int"
 |.dat (.str _)=>some "str"
 |.dat (.tup _)=>some "tuple"
 |.fl _=>some "list"
 |.dat (.ref n)=>match M[n]? with
  |some (.lst _)=>some "list"
  |some (.fro _)=>some "list"
  |some (.dict _)=>some "dict"
  |some (.dicT _)=>some "dict"
  |_=>none
theorem zUP {K:PySem.W.Frag} {L:List Addr} {M:Mem} {H H0:Hp} {x:EV} {v:V} {t:String} (c:Cor K L M H) (r:zf H0 L H x v) (h:zLp M x=some t):TyOf K H v (.type t)/\t∈["NoneType", "bool", "int", "str", "list", "tuple", "dict"]:=by
 unfold zLp at h;split at h
 ·cases h;unfold zf Rep at r;subst r;exact ⟨.non,by simp⟩
 ·cases h;unfold zf Rep at r;subst r;exact ⟨.bl _,by simp⟩
 ·cases h;unfold zf Rep at r;subst r;exact ⟨.int _,by simp⟩
 ·cases h;unfold zf Rep at r;subst r;exact ⟨.str _,by simp⟩
 ·cases h;unfold zf Rep at r;obtain ⟨a,vs,rfl,e,_⟩:=r;exact ⟨.tup e,by simp⟩
 ·cases h;obtain ⟨p,vs,rfl,_,e,_⟩:=r;exact ⟨.lst e,by simp⟩
 ·unfold zf Rep at r;obtain ⟨a,rfl,e⟩:=r;split at h
  ·rename_i e1;cases h;obtain ⟨vs,q,_⟩:=c.obj _ a _ e e1;exact ⟨.lst q,by simp⟩
  ·rename_i e1;cases h;obtain ⟨o,vs,q,_⟩:=c.obj _ a _ e e1;exact ⟨.frz q,by simp⟩
  ·rename_i e1;cases h;obtain ⟨vs,q,_⟩:=c.obj _ a _ e e1;exact ⟨.dK q,by simp⟩
  ·rename_i e1;cases h;obtain ⟨vs,q,_⟩:=c.obj _ a _ e e1;exact ⟨.dT q,by simp⟩
  ·cases h
def isT (t T:String):Bool:=decide (t=T)||(decide (t = "bool")&&decide (T = "int"))
def zFs (T:String) (f:FE):FE:=fun σ M=>match f σ M with
 |some (x,M1)=>match zLp M1 x with
  |some t=>some (.dat (.bl (isT t T)),M1)
  |none=>none
 |none=>none
def zVy (K:PySem.W.Frag) (T:String):List V->Hp->VK->Prop:=fun xs H Q=>∃ x t b,xs=[x,.ty T]/\TyOf K H x t/\PySem.W.kitOne K t (.type T)=some b/\Q (.bl b) H
theorem zQf:zB5 X (.builtin "isinstance") (zVy X.K T):=by
 intro zB s σ H xs us Q I r h;obtain ⟨x,t,b,rfl,ty,e,q⟩:=h;cases r with
 |cons r1 r2=>
  cases r2 with
  |cons r3 r4=>
   cases r4;cases r3;exact zO4 I r1 ty e fun tk=>⟨.bl b,H,I.tok _,rfl,q⟩
theorem zI4 (hK:Kinds X.K) (hT:T∈["int", "bool", "str", "tuple"]) (hg:Gl X "isinstance") (hm:X.mg "isinstance" = none) (hg2:Gl X y) (hm2:X.mg y=none) (hv2:bootBuiltins y=some (.type T)) (hn2:y ≠ "__name__") (hd2:(y==("__debug__" : Str))=false) (h:QE X e f)
  (he:starEach (e::[.Name y p2]) X.env=(false,eval e X.env)::starEach [.Name y p2] X.env:=by rfl) (he2:starEach [.Name y p2] X.env=(false,eval (.Name y p2) X.env)::starEach [] X.env:=by rfl) (hpl:(backTo pos (starEach [.Name y p2] X.env)).any (·.1)=false:=by rfl) :
  QE X (.Call (.Name "isinstance" p1) [e,.Name y p2] [] pos) (zFs T f) :=
 .mk <| PE.imp (zKQ (r:=zVy X.K T) zQf hg hm (by rfl) (zCu h.un (zCu (zRV (v:=.ty T) hg2 hm2 hv2 rfl hn2 hd2) zEq he2) he) (by decide) (by decide) he hpl) fun τ H Q zz=>by
  obtain ⟨L,σ,M,d,M',c,rs,hf,q⟩:=zz;unfold zFs at hf;split at hf
  ·rename_i x M1 e1;split at hf
   ·rename_i t e2;cases hf;refine ⟨L,σ,M,_,_,c,rs,e1,fun L1 H1 v s1 c1 r1=>?_⟩;obtain ⟨ty,ht⟩:=zUP c1 r1 e2;exact ⟨v,_,_,rfl,ty,hK.k t T ht hT,q L1 H1 _ s1 c1 (zCF (L:=L1) (H:=H1))⟩
   ·cases hf
  ·cases hf
theorem zQ.two (h:zQ L H [d,d'] vs):∃ v v',vs=[v,v']/\Rep L H d v/\Rep L H d' v':=by
 unfold zQ at h;obtain ⟨v,r,rfl,h1,h2⟩:=h;obtain ⟨v',rfl,h3⟩:=h2.one;exact ⟨v,v',rfl,h1,h3⟩
section
variable {fa:FAE}
theorem zP7 (hg:Gl X "len") (hm:X.mg "len" = none) (ha:QAE X [e] fa) (he:starEach [e] X.env=(false,eval e X.env)::starEach [] X.env:=by rfl) (hpl:(backTo pos (starEach [] X.env)).any (·.1)=false:=by rfl):QE X (.Call (.Name "len" p) [e] [] pos) (fB zAk fa) :=
 zEN zRd zKE PySem.boot_len hg hm ha (by decide) (by decide) he hpl
theorem zSB (hg:Gl X "tuple") (hm:X.mg "tuple" = none) (ha:QAE X [e] fa) (he:starEach [e] X.env=(false,eval e X.env)::starEach [] X.env:=by rfl) (hpl:(backTo pos (starEach [] X.env)).any (·.1)=false:=by rfl):QE X (.Call (.Name "tuple" p) [e] [] pos) (fB zAu fa) :=
 zHq zOB zH1 (by rfl) hg hm ha (by decide) (by decide) he hpl
end
end
def zFW (sc scope:Scope):Bool:=scope.names.all fun y=>
 (y.2 != .local||scope.names.lookup y.1==some .local)&&(y.2 != .cell||scope.names.lookup y.1==some .cell)&&(y.2 != .free||(sc.names.lookup y.1==some .cell||sc.names.lookup y.1==some .free))
def zGl (N:List Str) (scope:Scope) (own:List Nat):Bool:=(List.range N.length).all fun i=>match N[i]? with
 |some x=>decide (i∈own)||(scope.names.lookup x==none)||(scope.names.lookup x==some .free)
 |none=>true
theorem zFg (hk:scope.kind=.function) (hs:X.env.scope=sc) (hN:X.N=N) (h1:zFW sc scope=true) (h2:zGl N scope own=true):CompIn X scope own:=by
 unfold zFW at h1;rw[zW5]at h1;refine ⟨⟨hk,fun y hy e=>?_,fun y hy e=>?_,fun y hy e=>?_⟩,fun i x e=>?_⟩
 ·have:=h1 y hy;simp[e]at this;exact this
 ·have:=h1 y hy;simp[e]at this;exact this
 ·have:=h1 y hy;simp[e]at this;show X.env.scope.names.lookup y.1=_\/X.env.scope.names.lookup y.1=_;rw[hs];exact this
 ·unfold zGl at h2;rw[zW5]at h2;rw[hN]at e;have hi:i<N.length:=(zWX.mp e).1;have:=h2 i (by simpa using hi);rw[e]at this;simp only[Bool.or_eq_true,zXh,beq_iff_eq,or_assoc]at this;exact this
def zJA (K:PySem.W.Frag):Bool:=K.all fun p=>match p.2.cls with
 |.type n=>n != "list"
 |_=>true
theorem zLP:∀ {K:PySem.W.Frag},K.lookup a=some o->(a,o)∈K
 |[],h=>by cases h
 | (b,u)::r,h=>by
  have h':List.lookup a ((b,u)::r)=some o:=h;rw[zYZ]at h';cases q:a==b with
  |true=>rw[q]at h';cases h';rw[beq_iff_eq.mp q];exact zWi
  |false=>rw[q]at h';exact zWh _ (zLP h')
theorem zOH {K:PySem.W.Frag} (h:zJA K=true) {o:Obj} (e:K.lookup a=some o) (hc:o.cls=.type "list"):False:=by
 unfold zJA at h;rw[zW5]at h;have:=h (a,o) (zLP e);simp[hc]at this
theorem zIq:∀ (ns:List Int),zQ L H (ns.map D.int) (ns.map V.int)
 |[]=> .nil
 |n::r=> .cons (by unfold Rep;rfl) (zIq r)
theorem zOx {K:PySem.W.Frag} {m:FF} {H:Hp} {a:Addr} {ns:List Int} {E:XK} (hL:zJA K=true) (hO:zR2 H) (hS:SqL K H a (ns.map V.int)) (h:∃ M',m [.ref 0] [.fro (ns.map D.int)]=some (.bl true,M')) :
  spF K 1 m [.ref a] H (fun v _=>v=.bl true) E:=by
 obtain ⟨M',e⟩:=h;have hf:∃ o,H a=some (.frz o (.lst (ns.map V.int))):=by
  rcases hS with (h1|h1)|⟨o,its,n,h1,h2,_⟩
  ·rcases hO a with z|⟨o,xs,z⟩
   ·rw[h1]at z;cases z
   ·rw[h1]at z;cases z
  ·exact h1
  ·exact (zOH hL h1 h2).elim
 obtain ⟨o,hf⟩:=hf;refine ⟨[a],[.ref 0],[.fro (ns.map D.int)],_,_,⟨rfl,by simp,fun n b m e1 e2=>?_⟩,.cons ?_ .nil,rfl,e,fun L' H' v s c r=>?_⟩
 ·cases n with
  |zero=>simp at e1 e2;subst e1;subst e2;exact ⟨o,_,hf,zIq ns⟩
  |succ n=>simp at e1
 ·unfold Rep;exact ⟨a,rfl,rfl⟩
 ·unfold Rep at r;exact r
def Ok {α:Type} (x:Option (α × Mem)) (P:α->Mem->Prop):Prop:=∃ a M,x=some (a,M)/\P a M
def OkS (x:Option (Out × Sd × Mem)) (P:Out->Sd->Mem->Prop):Prop:=∃ o σ M,x=some (o,σ,M)/\P o σ M
theorem Ok.mono {α:Type} {x:Option (α × Mem)} {P Q:α->Mem->Prop} (h:Ok x P) (hq:∀ a M,P a M->Q a M):Ok x Q:=let ⟨a,M,e,p⟩:=h;⟨a,M,e,hq a M p⟩
theorem OkS.mono {x:Option (Out × Sd × Mem)} {P Q:Out->Sd->Mem->Prop} (h:OkS x P) (hq:∀ o σ M,P o σ M->Q o σ M):OkS x Q:=let ⟨a,σ,M,e,p⟩:=h;⟨a,σ,M,e,hq a σ M p⟩
theorem zAA {α:Type} {a:α} {M:Mem} {P:α->Mem->Prop}:Ok (some (a,M)) P ↔ P a M:=⟨fun ⟨_,_,e,p⟩=>by cases e;exact p,fun p=>⟨a,M,rfl,p⟩⟩
theorem zGf {α:Type} {P:α->Mem->Prop}:Ok (none:Option (α × Mem)) P ↔ False:=⟨(fun ⟨_,_,e,_⟩=>(nomatch e)),fun h=>h.elim⟩
theorem zRC {o:Out} {σ:Sd} {M:Mem} {P:Out->Sd->Mem->Prop}:OkS (some (o,σ,M)) P ↔ P o σ M:=⟨fun ⟨_,_,_,e,p⟩=>by cases e;exact p,fun p=>⟨o,σ,M,rfl,p⟩⟩
section
variable {σ:Sd} {M:Mem} {f g:FE} {P:EV->Mem->Prop}
theorem zAU {i:Nat}:Ok (zC i σ M) P ↔ ∃ d,σ[i]?=some (some d)/\P (.dat d) M:=by
 unfold zC;constructor
 ·rintro ⟨a,M1,e,p⟩;split at e
  ·rename_i d e1;cases e;exact ⟨d,e1,p⟩
  ·cases e
 ·rintro ⟨d,e1,p⟩;rw[e1];exact ⟨_,_,rfl,p⟩
theorem zFO {d:D}:Ok (fC d σ M) P ↔ P (.dat d) M:=zAA
theorem zBP {k:K2}:Ok (fOp k f g σ M) P ↔ Ok (f σ M) fun x M1=>Ok (g σ M1) fun y M2=>Ok (k x y M2) P:=by
 unfold fOp;constructor
 ·rintro ⟨a,M1,e,p⟩;split at e
  ·rename_i x M2 e1;split at e
   ·rename_i y M3 e2;exact ⟨x,M2,e1,y,M3,e2,a,M1,e,p⟩
   ·cases e
  ·cases e
 ·rintro ⟨x,M2,e1,y,M3,e2,a,M1,e,p⟩;rw[e1];dsimp only;rw[e2];exact ⟨a,M1,e,p⟩
def zGa (P:D->Mem->Prop):EV->Mem->Prop
 |.dat d,M=>P d M
 |.fl xs,M=>P (.ref M.length) (M++[.lst xs])
theorem zAJ {P:D->Mem->Prop}:Ok (toD f σ M) P ↔ Ok (f σ M) (zGa P):=by
 unfold toD;constructor
 ·rintro ⟨a,M1,e,p⟩;split at e
  ·rename_i d M2 e1;cases e;exact ⟨_,_,e1,p⟩
  ·rename_i xs M2 e1;cases e;exact ⟨_,_,e1,p⟩
  ·cases e
 ·rintro ⟨x,M2,e1,p⟩;rw[e1];cases x with
  |dat d=>exact ⟨d,M2,rfl,p⟩
  |fl xs=>exact ⟨_,_,rfl,p⟩
theorem zJ {P:D->Mem->Prop} {d:D} {M:Mem}:zGa P (.dat d) M ↔ P d M:=Iff.rfl
theorem zJc {P:D->Mem->Prop} {xs:List D} {M:Mem}:zGa P (.fl xs) M ↔ P (.ref M.length) (M++[.lst xs]):=Iff.rfl
section
variable {P:List D->Mem->Prop}
theorem zAM:Ok (zH σ M) P ↔ P [] M:=zAA
theorem zh {f:FD} {g:FA}:Ok (zD f g σ M) P ↔ Ok (f σ M) fun d M1=>Ok (g σ M1) fun ds M2=>P (d::ds) M2:=by
 unfold zD;constructor
 ·rintro ⟨a,M1,e,p⟩;split at e
  ·rename_i x M2 e1;split at e
   ·rename_i y M3 e2;cases e;exact ⟨x,M2,e1,y,_,e2,p⟩
   ·cases e
  ·cases e
 ·rintro ⟨x,M2,e1,y,M3,e2,p⟩;rw[e1];dsimp only;rw[e2];exact ⟨_,_,rfl,p⟩
end
section
variable {P:List EV->Mem->Prop}
theorem zFS:Ok (zg σ M) P ↔ P [] M:=zAA
theorem zDy {f:FE} {g:FAE}:Ok (zS f g σ M) P ↔ Ok (f σ M) fun d M1=>Ok (g σ M1) fun ds M2=>P (d::ds) M2:=by
 unfold zS;constructor
 ·rintro ⟨a,M1,e,p⟩;split at e
  ·rename_i x M2 e1;split at e
   ·rename_i y M3 e2;cases e;exact ⟨x,M2,e1,y,_,e2,p⟩
   ·cases e
  ·cases e
 ·rintro ⟨x,M2,e1,y,M3,e2,p⟩;rw[e1];dsimp only;rw[e2];exact ⟨_,_,rfl,p⟩
end
theorem zQK {a:FA}:Ok (zAV a σ M) P ↔ Ok (a σ M) fun ds M1=>ds.length<=sizeLine/\P (.dat (.tup ds)) M1:=by
 unfold zAV;constructor
 ·rintro ⟨x,M1,e,p⟩;split at e
  ·rename_i ds M2 e1;split at e
   ·rename_i hz;cases e;exact ⟨ds,_,e1,hz,p⟩
   ·cases e
  ·cases e
 ·rintro ⟨ds,M1,e1,hz,p⟩;rw[e1];dsimp only;rw[zWj hz];exact ⟨_,_,rfl,p⟩
theorem zD7 {a:FA}:Ok (zAT a σ M) P ↔ Ok (a σ M) fun ds M1=>ds.length<=sizeLine/\P (.fl ds) M1:=by
 unfold zAT;constructor
 ·rintro ⟨x,M1,e,p⟩;split at e
  ·rename_i ds M2 e1;split at e
   ·rename_i hz;cases e;exact ⟨ds,_,e1,hz,p⟩
   ·cases e
  ·cases e
 ·rintro ⟨ds,M1,e1,hz,p⟩;rw[e1];dsimp only;rw[zWj hz];exact ⟨_,_,rfl,p⟩
theorem zPC {k:KB} {a:FAE}:Ok (fB k a σ M) P ↔ Ok (a σ M) fun xs M1=>Ok (k xs M1) P:=by
 unfold fB;constructor
 ·rintro ⟨x,M1,e,p⟩;split at e
  ·rename_i ds M2 e1;exact ⟨ds,_,e1,x,M1,e,p⟩
  ·cases e
 ·rintro ⟨ds,M1,e1,p⟩;rw[e1];exact p
theorem zAS {m:FF} {a:FA}:Ok (zP m a σ M) P ↔ Ok (a σ M) fun ds M1=>Ok (m ds M1) fun d M2=>P (.dat d) M2:=by
 unfold zP;constructor
 ·rintro ⟨x,M1,e,p⟩;split at e
  ·rename_i ds M2 e1;split at e
   ·rename_i d M3 e2;cases e;exact ⟨ds,_,e1,d,_,e2,p⟩
   ·cases e
  ·cases e
 ·rintro ⟨ds,M1,e1,d,M2,e2,p⟩;rw[e1];dsimp only;rw[e2];exact ⟨_,_,rfl,p⟩
theorem zE1 {k:KM} {a:FA}:Ok (fM k f a σ M) P ↔ Ok (f σ M) fun x M1=>(∃ xs,zBR M1 x=some xs)/\Ok (a σ M1) fun ds M2=>Ok (k x ds M2) fun d M3=>P (.dat d) M3:=by
 unfold fM;constructor
 ·rintro ⟨x,M1,e,p⟩;split at e
  ·rename_i y M2 e1;split at e
   ·rename_i xs e2;split at e
    ·rename_i ds M3 e3;split at e
     ·rename_i d M4 e4;cases e;exact ⟨y,_,e1,⟨xs,e2⟩,ds,_,e3,d,_,e4,p⟩
     ·cases e
    ·cases e
   ·cases e
  ·cases e
 ·rintro ⟨y,M1,e1,⟨xs,e2⟩,ds,M2,e3,d,M3,e4,p⟩;rw[e1];dsimp only;rw[e2];dsimp only;rw[e3];dsimp only;rw[e4];exact ⟨_,_,rfl,p⟩
section
variable {P:Option Int->Mem->Prop}
theorem zPt:Ok (zBr σ M) P ↔ P none M:=zAA
def zUd (P:Option Int->Mem->Prop):EV->Mem->Prop
 |.dat (.int i),M=>P (some i) M
 |_,_=>False
theorem zPD {i:Int} {M:Mem}:zUd P (.dat (.int i)) M ↔ P (some i) M:=Iff.rfl
theorem zP2:Ok (zBS f σ M) P ↔ Ok (f σ M) (zUd P):=by
 unfold zBS;constructor
 ·rintro ⟨x,M1,e,p⟩;split at e
  ·rename_i i M2 e1;cases e;exact ⟨_,_,e1,p⟩
  ·cases e
 ·rintro ⟨x,M1,e1,p⟩;rw[e1];cases x with
  |fl xs=>exact p.elim
  |dat d=>
   cases d with
   |int i=>exact ⟨_,_,rfl,p⟩
   |_=>exact p.elim
end
theorem zVW {l h:FO}:Ok (fSl f l h σ M) P ↔ Ok (f σ M) fun x M1=>Ok (l σ M1) fun lo M2=>Ok (h σ M2) fun hi M3=>Ok (kSl x lo hi M3) P:=by
 unfold fSl;constructor
 ·rintro ⟨x,M1,e,p⟩;split at e
  ·rename_i y M2 e1;split at e
   ·rename_i lo M3 e2;split at e
    ·rename_i hi M4 e3;exact ⟨y,_,e1,lo,_,e2,hi,_,e3,x,M1,e,p⟩
    ·cases e
   ·cases e
  ·cases e
 ·rintro ⟨y,M1,e1,lo,M2,e2,hi,M3,e3,p⟩;rw[e1];dsimp only;rw[e2];dsimp only;rw[e3];exact p
def blP (P:Bool->Mem->Prop):EV->Mem->Prop
 |.dat (.bl k),M=>P k M
 |_,_=>False
theorem zJD {P:Bool->Mem->Prop} {k:Bool} {M:Mem}:blP P (.dat (.bl k)) M ↔ P k M:=Iff.rfl
theorem zI6 {P:Bool->Mem->Prop}:Ok (tst f σ M) P ↔ Ok (f σ M) (blP P):=by
 unfold tst;constructor
 ·rintro ⟨x,M1,e,p⟩;split at e
  ·rename_i i M2 e1;cases e;exact ⟨_,_,e1,p⟩
  ·cases e
 ·rintro ⟨x,M1,e1,p⟩;rw[e1];cases x with
  |fl xs=>exact p.elim
  |dat d=>
   cases d with
   |bl i=>exact ⟨_,_,rfl,p⟩
   |_=>exact p.elim
section
variable {P:Bool->Mem->Prop} {s t:FT}
theorem zFN:Ok (zr σ M) P ↔ P true M:=zAA
theorem zTQ:Ok (zFp s t σ M) P ↔ Ok (s σ M) fun k M1=>if k then P true M1 else Ok (t σ M1) P:=by
 unfold zFp;constructor
 ·rintro ⟨x,M1,e,p⟩;split at e
  ·rename_i M2 e1;exact ⟨false,M2,e1,by simpa using ⟨x,M1,e,p⟩⟩
  ·rename_i hn;cases x with
   |false=>exact absurd e (hn M1)
   |true=>exact ⟨true,M1,e,by simpa using p⟩
 ·rintro ⟨x,M1,e1,p⟩;rw[e1];cases x with
  |false=>simpa using p
  |true=>exact ⟨true,M1,rfl,by simpa using p⟩
theorem zNK:Ok (zFQ s σ M) P ↔ Ok (s σ M) fun k M1=>P (!k) M1:=by
 unfold zFQ;constructor
 ·rintro ⟨x,M1,e,p⟩;split at e
  ·rename_i k M2 e1;cases e;exact ⟨k,_,e1,p⟩
  ·cases e
 ·rintro ⟨k,M1,e1,p⟩;rw[e1];exact ⟨_,_,rfl,p⟩
end
end
section
variable {σ:Sd} {M:Mem} {f g:FS} {P:Out->Sd->Mem->Prop}
def nxP (k:Sd->Mem->Prop) (P:Out->Sd->Mem->Prop):Out->Sd->Mem->Prop
 |.nx,σ,M=>k σ M
 |o,σ,M=>P o σ M
theorem zM {k:Sd->Mem->Prop}:nxP k P .nx σ M ↔ k σ M:=Iff.rfl
theorem zJa {k:Sd->Mem->Prop} {d:D}:nxP k P (.ret d) σ M ↔ P (.ret d) σ M:=Iff.rfl
theorem zAc:OkS (zBB σ M) P ↔ P .nx σ M:=zRC
theorem zI:OkS (zX f g σ M) P ↔ OkS (f σ M) (nxP (fun σ1 M1=>OkS (g σ1 M1) P) P):=by
 unfold zX;constructor
 ·rintro ⟨o,σ1,M1,e,p⟩;split at e
  ·rename_i σ2 M2 e1;exact ⟨_,_,_,e1,o,σ1,M1,e,p⟩
  ·rename_i hn;refine ⟨o,σ1,M1,e,?_⟩;cases o with
   |nx=>exact absurd e (hn σ1 M1)
   |_=>exact p
 ·rintro ⟨o,σ1,M1,e1,p⟩;rw[e1];cases o with
  |nx=>exact p
  |_=>exact ⟨_,_,_,rfl,p⟩
theorem zAp {c:FT}:OkS (sIf c f g σ M) P ↔ Ok (c σ M) fun k M1=>if k then OkS (f σ M1) P else OkS (g σ M1) P:=by
 unfold sIf;constructor
 ·rintro ⟨o,σ1,M1,e,p⟩;split at e
  ·rename_i M2 e1;exact ⟨_,_,e1,by dsimp only;rw[zWj rfl];exact ⟨o,σ1,M1,e,p⟩⟩
  ·rename_i M2 e1;exact ⟨_,_,e1,by simpa using ⟨o,σ1,M1,e,p⟩⟩
  ·cases e
 ·rintro ⟨x,M1,e1,p⟩;rw[e1];cases x with
  |true=>simpa using p
  |false=>simpa using p
theorem zA8 {h:FE}:OkS (zAW h σ M) P ↔ Ok (h σ M) (zGa fun d M1=>P (.ret d) σ M1):=by
 rw[<-zAJ];unfold zAW;constructor
 ·rintro ⟨o,σ1,M1,e,p⟩;split at e
  ·rename_i d M2 e1;cases e;exact ⟨_,_,e1,p⟩
  ·cases e
 ·rintro ⟨x,M1,e1,p⟩;rw[e1];exact ⟨_,_,_,rfl,p⟩
theorem zT {i:Nat} {h:FE}:OkS (zo i h σ M) P ↔ Ok (h σ M) (zGa fun d M1=>P .nx (σ.set i (some d)) M1):=by
 rw[<-zAJ];unfold zo;constructor
 ·rintro ⟨o,σ1,M1,e,p⟩;split at e
  ·rename_i d M2 e1;cases e;exact ⟨_,_,e1,p⟩
  ·cases e
 ·rintro ⟨x,M1,e1,p⟩;rw[e1];exact ⟨_,_,_,rfl,p⟩
theorem zAt {h:FE}:OkS (zAa h σ M) P ↔ Ok (h σ M) fun _ M1=>P .nx σ M1:=by
 unfold zAa;constructor
 ·rintro ⟨o,σ1,M1,e,p⟩;split at e
  ·rename_i d M2 e1;cases e;exact ⟨_,_,e1,p⟩
  ·cases e
 ·rintro ⟨x,M1,e1,p⟩;rw[e1];exact ⟨_,_,_,rfl,p⟩
theorem zM6 {v o i:FE}:OkS (zMp v o i σ M) P ↔ Ok (v σ M) (zGa fun d M1=>Ok (o σ M1) fun x M2=>Ok (i σ M2) (zGa fun j M3=>∃ M4,zKj x j d M3=some M4/\P .nx σ M4)):=by
 rw[<-zAJ];unfold zMp;constructor
 ·rintro ⟨o,σ1,M1,e,p⟩;split at e
  ·rename_i d M2 e1;split at e
   ·rename_i x M3 e2;split at e
    ·rename_i j M4 e3;split at e
     ·rename_i M5 e4;cases e;refine ⟨_,_,e1,_,_,e2,?_⟩;dsimp only;rw[<-zAJ];exact ⟨_,_,e3,_,e4,p⟩
     ·cases e
    ·cases e
   ·cases e
  ·cases e
 ·rintro ⟨d,M1,e1,x,M2,e2,p⟩;rw[<-zAJ]at p;obtain ⟨j,M3,e3,M4,e4,p⟩:=p;rw[e1];dsimp only;rw[e2];dsimp only;rw[e3];dsimp only;rw[e4];exact ⟨_,_,_,rfl,p⟩
theorem zy {n:Nat} {ds:List D} {Q:D->Mem->Prop}:Ok (zBN n f ds M) Q ↔ OkS (f (ds.map some++List.replicate (n-ds.length) none) M) fun o _ M1=>match o with|.ret d=>Q d M1|.nx=>Q .non M1|_=>False:=by
 unfold zBN;constructor
 ·rintro ⟨o,M1,e,p⟩;split at e
  ·rename_i d σ1 M2 e1;cases e;exact ⟨_,_,_,e1,p⟩
  ·rename_i σ1 M2 e1;cases e;exact ⟨_,_,_,e1,p⟩
  ·cases e
 ·rintro ⟨o,σ1,M1,e1,p⟩;rw[e1];cases o with
  |ret d=>exact ⟨_,_,rfl,p⟩
  |nx=>exact ⟨_,_,rfl,p⟩
  |brk=>exact p.elim
  |cnt=>exact p.elim
theorem zCQ {c:FT} {b:FS} (I:Nat->Sd->Mem->Prop) (hs:∀ m σ M,I m σ M->Ok (c σ M) fun k M1=>if k then OkS (b σ M1) fun o σ2 M2=>match o with|.nx=>∃ m',m'<m/\I m' σ2 M2|.cnt=>∃ m',m'<m/\I m' σ2 M2|.brk=>P .nx σ2 M2|.ret d=>P (.ret d) σ2 M2 else P .nx σ M1) :
  ∀ (n m:Nat) (σ:Sd) (M:Mem),m<n->I m σ M->OkS (zBV c b n σ M) P
 |0,m,σ,M,h,_=>absurd h (Nat.not_lt_zero _)
 |n+1,m,σ,M,h,hi=>by
  obtain ⟨k,M1,e,q⟩:=hs m σ M hi;unfold zBV;rw[e];cases k with
  |false=>exact ⟨_,_,_,rfl,by simpa using q⟩
  |true=>
   rw[zWj rfl]at q;obtain ⟨o,σ2,M2,e2,q⟩:=q;dsimp only;rw[e2];cases o with
   |nx=>obtain ⟨m',hm,q⟩:=q;exact zCQ I hs n m' σ2 M2 (by omega) q
   |cnt=>obtain ⟨m',hm,q⟩:=q;exact zCQ I hs n m' σ2 M2 (by omega) q
   |brk=>exact ⟨_,_,_,rfl,q⟩
   |ret d=>exact ⟨_,_,_,rfl,q⟩
theorem zAZ {g:FG} {b:FS} {all:List D} {gd:Option (Mem->Prop)} (I:List D->Sd->Mem->Prop)
  (hs:∀ x r σ M,I (x::r) σ M->zA1 gd all M /\ ∃ σ1,g x σ=some σ1/\OkS (b σ1 M) fun o σ2 M2=>match o with|.nx=>I r σ2 M2|.cnt=>I r σ2 M2|.brk=>P .nx σ2 M2|.ret d=>P (.ret d) σ2 M2)
  (he:∀ σ M,I [] σ M->zA1 gd all M/\P .nx σ M):∀ (xs:List D) (σ:Sd) (M:Mem),I xs σ M->OkS (zCf g b all gd xs σ M) P
 |[],σ,M,hi=>by
  unfold zCf;obtain ⟨h1,h2⟩:=he σ M hi;rw[zWj h1];exact ⟨_,_,_,rfl,h2⟩
 |x::r,σ,M,hi=>by
  unfold zCf;obtain ⟨h1,σ1,e1,o,σ2,M2,e2,q⟩:=hs x r σ M hi;rw[zWj h1,e1];dsimp only;rw[e2];cases o with
  |nx=>exact zAZ I hs he r σ2 M2 q
  |cnt=>exact zAZ I hs he r σ2 M2 q
  |brk=>exact ⟨_,_,_,rfl,q⟩
  |ret d=>exact ⟨_,_,_,rfl,q⟩
theorem zAe {i:FI} {g:FG} {b:FS}:OkS (zBo i g b σ M) P ↔ ∃ xs gd M1,i σ M=some (xs,gd,M1)/\OkS (zCf g b xs gd xs σ M1) P:=by
 unfold zBo;constructor
 ·rintro ⟨o,σ1,M1,e,p⟩;split at e
  ·rename_i xs gd M2 e1;exact ⟨_,_,_,e1,_,_,_,e,p⟩
  ·cases e
 ·rintro ⟨xs,gd,M1,e1,p⟩;rw[e1];exact p
theorem zBk {g:FG} {tc:FT} {te:FE} {all:List D} {gd:Option (Mem->Prop)} (I:List D->List D->Mem->Prop)
  (hs:∀ x r acc M,I (x::r) acc M->zA1 gd all M /\ ∃ σ1,g x σ=some σ1/\Ok (tc σ1 M) fun k M1=>if k then Ok (te σ1 M1) (zGa fun d M2=>I r (acc++[d]) M2) else I r acc M1)
  {Q:List D->Mem->Prop} (he:∀ acc M,I [] acc M->zA1 gd all M/\Q acc M):∀ (xs acc:List D) (M:Mem),I xs acc M->Ok (zA2 g tc te σ all gd xs M) fun ys M1=>Q (acc++ys) M1
 |[],acc,M,hi=>by
  unfold zA2;obtain ⟨h1,h2⟩:=he acc M hi;rw[zWj h1];exact ⟨_,_,rfl,by simpa using h2⟩
 |x::r,acc,M,hi=>by
  unfold zA2;obtain ⟨h1,σ1,e1,k,M1,e2,q⟩:=hs x r acc M hi;rw[zWj h1,e1];dsimp only;rw[e2];cases k with
  |false=>exact zBk I hs he r acc M1 (by simpa using q)
  |true=>
   rw[zWj rfl,<-zAJ]at q;obtain ⟨d,M2,e3,q⟩:=q;dsimp only;rw[e3];obtain ⟨ys,M3,e4,p⟩:=zBk I hs he r (acc++[d]) M2 q;dsimp only;rw[e4];exact ⟨_,_,rfl,by simpa using p⟩
theorem zCo {own:List Nat} {i:FI} {g:FG} {tc:FT} {te:FE} {Q:EV->Mem->Prop}:Ok (zm own i g tc te σ M) Q ↔ ∃ xs gd M1,i σ M=some (xs,gd,M1)/\xs.length<=sizeLine/\Ok (zA2 g tc te (zBD own σ) xs gd xs M1) fun ys M2=>Q (.fl ys) M2:=by
 unfold zm;constructor
 ·rintro ⟨o,M1,e,p⟩;split at e
  ·rename_i xs gd M2 e1;split at e
   ·rename_i hz;split at e
    ·rename_i ys M3 e2;cases e;exact ⟨_,_,_,e1,hz,_,_,e2,p⟩
    ·cases e
   ·cases e
  ·cases e
 ·rintro ⟨xs,gd,M1,e1,hz,ys,M2,e2,p⟩;rw[e1];dsimp only;rw[zWj hz,e2];exact ⟨_,_,rfl,p⟩
theorem zCp {h:FE} {x:EV} {M1:Mem} {xs:List D} (e:h σ M=some (x,M1)) (e2:zAb M1 x=some xs):zn h σ M=some (xs,zCz x xs,M1):=by
 unfold zn;rw[e];dsimp only;rw[e2]
theorem zMX {a:FA} {M1:Mem} {j:Int} (e:a σ M=some ([.int j],M1)) (h1:0<=j) (h2:j<2 ^ 62):zv a σ M=some ((List.range j.toNat).map fun (k:Nat)=>D.int k,none,M1):=by
 unfold zv;rw[e];dsimp only;rw[zWj ⟨by omega,h2⟩]
end
section
variable {M:Mem} {P:EV->Mem->Prop} {i j:Int}
theorem zFf:Ok (zAE (.dat (.int i)) (.dat (.int j)) M) P ↔ P (.dat (.int (i+j))) M:=zAA
theorem zQh:Ok (zMi (.dat (.int i)) (.dat (.int j)) M) P ↔ zNj i j=true/\P (.dat (.int (i*j))) M:=by
 unfold zMi kI;dsimp only;split
 ·rename_i h;rw[zAA];simp[h]
 ·rename_i h;rw[zGf];simp[h]
theorem zSp:Ok (zDN (.dat (.int i)) (.dat (.int j)) M) P ↔ 0<j/\P (.dat (.int (i % j))) M:=by
 unfold zDN kI;dsimp only;split
 ·rename_i h;rw[zAA];simp at h;simp[h]
 ·rename_i h;rw[zGf];simp at h;simp;intro h';omega
theorem zSj:Ok (zMe (.dat (.int i)) (.dat (.int j)) M) P ↔ (0<j/\j<1073741824)/\P (.dat (.int (i / j))) M:=by
 unfold zMe kI;dsimp only;split
 ·rename_i h;rw[zAA];simp at h;simp[h]
 ·rename_i h;rw[zGf];simp at h;simp;intro h' h2;have:=h h';omega
theorem zU8:Ok (zNz (.dat (.int i)) (.dat (.int j)) M) P ↔ (0<=j/\j<=1000000/\i.natAbs<2 ^ 64)/\P (.dat (.int (i ^ j.toNat))) M:=by
 unfold zNz kI;dsimp only;split
 ·rename_i h;rw[zAA];simp only[zW4,zXh]at h;simp[h]
 ·rename_i h;rw[zGf];simp only[zW4,zXh,not_and]at h;simp only[false_iff,not_and];intro ⟨a,b,c⟩;exact absurd c (h ⟨a,b⟩)
theorem zTl:Ok (kLt (.dat (.int i)) (.dat (.int j)) M) P ↔ P (.dat (.bl (decide (i<j)))) M:=zAA
theorem zWK:Ok (kLe (.dat (.int i)) (.dat (.int j)) M) P ↔ P (.dat (.bl (decide (i<=j)))) M:=zAA
theorem zWF:Ok (kGe (.dat (.int i)) (.dat (.int j)) M) P ↔ P (.dat (.bl (decide (j<=i)))) M:=zAA
theorem zKo:Ok (kEq (.dat (.int i)) (.dat (.int j)) M) P ↔ P (.dat (.bl (decide (i=j)))) M:=by
 have:kEq (.dat (.int i)) (.dat (.int j)) M=some (.dat (.bl (decide (V.int i=V.int j))),M):=rfl;rw[this,zAA];simp
theorem zU2:Ok (kNe (.dat (.int i)) (.dat (.int j)) M) P ↔ P (.dat (.bl (decide (i≠j)))) M:=by
 have:kNe (.dat (.int i)) (.dat (.int j)) M=some (.dat (.bl (!decide (V.int i=V.int j))),M):=rfl;rw[this,zAA];simp
theorem zSW {x:EV} {xs:List D} (h:zBR M x=some xs) (hx:∀ d,x=.dat d->zF6 d=none):Ok (kNe x (.fl []) M) P ↔ P (.dat (.bl (!xs.isEmpty))) M:=by
 have e1:zMP true x (.fl []) M=none:=by cases x <;> rfl
 have e2:kNe x (.fl []) M=some (.dat (.bl (!xs.isEmpty)),M):=by
  unfold kNe kOr;rw[e1];unfold zQt;rw[h];rfl
 rw[e2,zAA]
theorem zR9 {x:EV} {xs:List D} {d:D} (h:zAb M x=some xs) (hd:atI xs i=some d) (p:P (.dat d) M):Ok (kIx x (.dat (.int i)) M) P:=by
 have:kIx x (.dat (.int i)) M=some (.dat d,M):=by unfold kIx;dsimp only;rw[h];dsimp only;rw[hd]
 rw[this,zAA];exact p
theorem zJM {xs:List D} {k:Nat} {d:D} (h:xs[k]?=some d):atI xs (k:Int)=some d:=zNJ h
theorem zMZ {xs:List D} {i:Int} {d:D} (h0:0<=i) (h:xs[i.toNat]?=some d):atI xs i=some d:=by
 have:i=((i.toNat:Nat):Int):=by omega
 rw[this];exact zNJ h
theorem zVg {x:EV} {xs:List D} (h:zAb M x=some xs):Ok (zAk [x] M) P ↔ P (.dat (.int xs.length)) M:=by
 have:zAk [x] M=some (.dat (.int xs.length),M):=by unfold zAk;dsimp only;rw[h]
 rw[this,zAA]
theorem zJe {x:EV} {xs:List D} (h:zAb M x=some xs):Ok (zAu [x] M) P ↔ P (.dat (.tup xs)) M:=by
 have:zAu [x] M=some (.dat (.tup xs),M):=by unfold zAu;dsimp only;rw[h]
 rw[this,zAA]
theorem zTV {x:EV} {xs:List D} {lo hi:Option Int} (h:zBR M x=some xs) (ht:zCH x=none):Ok (kSl x lo hi M) P ↔ P (.fl (zDI xs lo hi)) M:=by
 have:kSl x lo hi M=some (.fl (zDI xs lo hi),M):=by unfold kSl;rw[ht];dsimp only;rw[h]
 rw[this,zAA]
theorem zAF {xs:List D}:zAb M (.dat (.tup xs))=some xs:=rfl
theorem zCw {xs:List D}:zAb M (.fl xs)=some xs:=rfl
theorem zUZ {xs:List D}:zBR M (.fl xs)=some xs:=rfl
theorem zAG {n:Nat} {xs:List D} (h:M[n]?=some (.lst xs)):zBR M (.dat (.ref n))=some xs:=by unfold zBR;dsimp only;rw[h]
theorem zNE {n:Nat} {xs:List D} (h:M[n]?=some (.fro xs)):zBR M (.dat (.ref n))=some xs:=by unfold zBR;dsimp only;rw[h]
theorem zb {n:Nat} {xs:List D} (h:M[n]?=some (.lst xs)):zAb M (.dat (.ref n))=some xs:=zAG h
theorem zSc {n:Nat} {xs:List D} (h:M[n]?=some (.fro xs)):zAb M (.dat (.ref n))=some xs:=zNE h
theorem zBG {n:Nat} {xs:List D} {d:D} {Q:D->Mem->Prop} (h:M[n]?=some (.lst xs)) (hz:xs.length<sizeLine):Ok (zk (.dat (.ref n)) [d] M) Q ↔ Q .non (M.set n (.lst (xs++[d]))):=by
 have:zk (.dat (.ref n)) [d] M=some (.non,M.set n (.lst (xs++[d]))):=by unfold zk;dsimp only;rw[h];dsimp only;rw[zWj hz]
 rw[this,zAA]
theorem zS3 {n:Nat} {x:D} {xs:List D} {Q:D->Mem->Prop} (h:M[n]?=some (.lst (x::xs))):Ok (zIN (.dat (.ref n)) [.int 0] M) Q ↔ Q x (M.set n (.lst xs)):=by
 have:zIN (.dat (.ref n)) [.int 0] M=some (x,M.set n (.lst xs)):=by
  unfold zIN;dsimp only;rw[h];dsimp only;have e:ixN (x::xs).length 0=some 0:=by unfold ixN;rw[zWj (by omega),zWj (by simp)];rfl
  rw[e];dsimp only[List.getElem?_cons_zero];rw[zWj (by decide)];rfl
 rw[this,zAA]
theorem zLN {n k:Nat} {xs:List D} {d:D} (h:M[n]?=some (.lst xs)) (hk:k<xs.length):zKj (.dat (.ref n)) (.int k) d M=some (M.set n (.lst (xs.set k d))):=by
 unfold zKj;dsimp only;rw[h];dsimp only;have e:ixN xs.length (k:Int)=some k:=by unfold ixN;rw[zWj (by omega),zWj (by omega)];simp
 rw[e]
end
theorem zGc {m:FF} {ds:List D} {M:Mem} {Q:D->Mem->Prop} (h:Ok (m ds M) fun d M1=>(D.und M.length d=true/\M.length<=M1.length /\ ∀ (j:Nat) u,j<M.length->M1[j]?=some u->MO.und M.length u=true)/\Q d (M1.take M.length)):Ok (zGH m ds M) Q:=by
 obtain ⟨d,M1,e,⟨h1,h2,h3⟩,q⟩:=h;unfold zGH;rw[e];dsimp only;rw[zWj]
 ·exact ⟨_,_,rfl,q⟩
 ·simp only[zW4,zXh,zW5];refine ⟨⟨h1,fun u hu=>?_⟩,h2⟩;obtain ⟨j,hj⟩:=List.getElem?_of_mem hu;have hlt:j<M.length:=by
   have:=(zWX.mp hj).1;rw[zXs]at this;omega
  rw[List.getElem?_take_of_lt hlt]at hj;exact h3 j u hlt hj
theorem zGj {m:FF} {ds:List D} {M:Mem} {Q:D->Mem->Prop} (h0:D.unds 0 ds=true) (h:Ok (m ds []) fun d _=>D.und 0 d=true/\Q d M):Ok (zGD m ds M) Q:=by
 obtain ⟨d,M1,e,h1,q⟩:=h;unfold zGD;rw[zWj h0,e];dsimp only;rw[zWj h1];exact ⟨_,_,rfl,q⟩
section
variable {prog:Program} {w:World} {A:Around} {E:Value->Shared->Prop} {s:Shared}
theorem TIt.but (x:h.IsTupleIter a t i) (hs:Heap.ExtBut b h h') (n:a≠b):h'.IsTupleIter a t i:=x.extBut hs n
theorem Tup.but (x:h.IsTuple a its) (hs:Heap.ExtBut b h h') (n:a≠b):h'.IsTuple a its:=x.extBut hs n
theorem zDS (I:s.heap.IsTupleIter it t i) (T:s.heap.IsTuple t its) (hx:its[i]?=some x)
  (q:∀ h',h'.IsTupleIter it t (i+1)->Heap.SameBut it s.heap h'->Q x { s with heap:=h' }):wpAny (model prog w) A (Builtin.SmallTypes.nextOf (.ref it)) Q E s:=by
 obtain ⟨o,O,C,FD⟩:=id I;obtain ⟨u,U,_,m,G⟩:=T;unfold Builtin.SmallTypes.nextOf;refine zWU (zW6 (name:=Str.ofString "__next__") I.typeIs PySem.F.slot_tuple_iterator_next (zW7 PySem.F.slot_tuple_iterator_next I.typeIs PySem.F.entry_tuple_iterator_next ?_ (PySem.F.args_tuple_iterator_next_1 _)));refine zWU (m:=field (.ref it) 0) (zW9 O FD (x:=.ref t) rfl ?_);rw[zWm (show ¬ ((Value.ref t==Value.none)=true) by exact zWq)];refine zWU (m:=field (.ref it) 1) (zW9 O FD (x:=.int i 0) rfl ?_);refine zWU (m:=seqItems? (.ref t)) (zXK U G ?_);simp only[hx,Int.toNat_natCast];refine zWU (wpAny_setField O FD (by simp) (zWW ⟨x,rfl,zWW (q _ ⟨_,zXH _ O (Obj.isFreed_of_fields (zXl FD _)),(Obj.cls_mapFields ..).trans C,?_⟩ (zXX ..))⟩));rw[zXl FD];simp[rawInt]
theorem zEY (hh:A.handled=none) (I:s.heap.IsTupleIter it t i) (T:s.heap.IsTuple t its) (hx:its[i]?=none)
  (q:∀ h' e,Heap.ExtBut it s.heap h'->(∃ o,h'.get? e=some o/\o.cls=.type "StopIteration")->E (.ref e) { s with heap:=h' }):wpAny (model prog w) A (Builtin.SmallTypes.nextOf (.ref it)) Q E s:=by
 obtain ⟨o,O,C,FD⟩:=id I;obtain ⟨u,U,_,m,G⟩:=T;unfold Builtin.SmallTypes.nextOf;refine zWU (zW6 (name:=Str.ofString "__next__") I.typeIs PySem.F.slot_tuple_iterator_next (zW7 PySem.F.slot_tuple_iterator_next I.typeIs PySem.F.entry_tuple_iterator_next ?_ (PySem.F.args_tuple_iterator_next_1 _)));refine zWU (m:=field (.ref it) 0) (zW9 O FD (x:=.ref t) rfl ?_);rw[zWm (show ¬ ((Value.ref t==Value.none)=true) by exact zWq)];refine zWU (m:=field (.ref it) 1) (zW9 O FD (x:=.int i 0) rfl ?_);refine zWU (m:=seqItems? (.ref t)) (zXK U G ?_);simp only[hx,Int.toNat_natCast];refine zWU (zXr (zWU (wpAny_setField O FD (by simp) ?_)));refine zWU (m:=newExc (.type "StopIteration") []) ?_;simp only[newTuple,newExc];refine zWU (zWx (zWU (m:=firstArgMember _ _) (wpAny_of_eq (a:=Value.none) (by first|rfl|(simp only[firstArgMember];rfl)) (zWx ?_ (by size_fits)))) (by size_fits));simp only[raiseNew];refine zWU (wpAny_handled ?_);first|rw[hh]|rw[show A.in1.handled=none from hh]
 exact zWU (zWW (wpAny_throw (q _ _ (((zXX ..).extBut.push _).push _) ⟨_,zWe _ rfl,rfl⟩)))
structure ZipT (h:Heap) (z TI TO i1 i2 t1 t2:Addr) (f:Value) (k1 k2:Nat):Prop where
 z:IsZip h z TI TO f
 ti:IsPair h TI (.ref i1) (.ref i2)
 to:∃ a b,IsPair h TO a b
 a:h.IsTupleIter i1 t1 k1
 b:h.IsTupleIter i2 t2 k2
theorem zOA {z TI TO i1 i2 t1 t2:Addr} {k:Nat} {xs ys:Array Value} {x y:Value} {Q:Option Value->Shared->Prop} (D:ZipApart z TI TO i1 i2 t1 t2) (Z:ZipT s.heap z TI TO i1 i2 t1 t2 .none k k)
  (T1:s.heap.IsTuple t1 xs) (T2:s.heap.IsTuple t2 ys) (hx:xs[k]?=some x) (hy:ys[k]?=some y)
  (q:∀ h',ZipT h' z TI TO i1 i2 t1 t2 (rawInt s.heap.objs.size) (k+1) (k+1)->IsPair h' s.heap.objs.size x y ->
   (∀ c o,c∉[z,TO,i1,i2]->s.heap.get? c=some o->h'.get? c=some o)->Q (some (.ref s.heap.objs.size)) { s with heap:=h' }):wpAny (model prog w) A (pyNext (.ref z)) Q E s:=by
 obtain ⟨Z0,P0,⟨a,b,O0⟩,I1,I2⟩:=Z;have ty:s.TypeIs (.ref z) "zip" := ⟨_,Z0,rfl⟩;unfold pyNext;refine zWU (wpAny_attempt (zW6 (name:=Str.ofString "__next__") ty PySem.F.slot_zip_next (zW7 PySem.F.slot_zip_next ty PySem.F.entry_zip_next ?_ (PySem.F.args_zip_next_1 _))));refine zWU (m:=field (.ref z) 2) (zW9 Z0 rfl (x:=.bool false) rfl ?_);refine zWU (m:=field (.ref z) 3) (zW9 Z0 rfl (x:=.ref TI) rfl ?_);refine zWU (zXK P0 rfl ?_);refine zWU (m:=Builtin.SmallTypes.ownedTupleIsFree (.ref z)) ?_;unfold Builtin.SmallTypes.ownedTupleIsFree;refine zWU (zW9 Z0 rfl (x:=.none) rfl (zWW ?_));simp only[if_true];refine zWU (zXr (zWU (zW9 Z0 rfl (x:=.ref TO) rfl (zWU (wpAny_setField_rec Z0 (by simp) fun h1 Z1 e1=>?_)))));replace Z1:IsZip h1 z TI TO .ellipsis:=Z1;refine zWU ?_;simp only[List.forIn_cons,List.forIn_nil,List.zipIdx_cons,List.zipIdx_nil];refine zWU (zWU (wpAny_onRaise (zWU (m:=Builtin.SmallTypes.nextOf (.ref i1)) (zDS (TIt.but I1 e1.extBut D.i1z) (Tup.but T1 e1.extBut D.l1z) hx fun h2 J1 e2=>zWW ?_))));have O2:IsPair h2 TO a b:=e2.extBut _ _ D.TOi1 (e1.extBut _ _ D.TOz O0);refine zWU (zXK O2 rfl (zWU (wpAny_updateSeq_pair O2 fun h3 O3 e3=>zWU (wpAny_letGo (zWW ?_)))));replace O3:IsPair h3 TO x b:=O3
 refine zWU (zWU (wpAny_onRaise (zWU (m:=Builtin.SmallTypes.nextOf (.ref i2)) (zDS (TIt.but (TIt.but (TIt.but I2 e1.extBut D.i2z) e2.extBut D.i12.symm) e3.extBut D.TOi2.symm)
  (Tup.but (Tup.but (Tup.but T2 e1.extBut D.l2z) e2.extBut D.l2i1) e3.extBut D.l2TO) hy fun h4 J2 e4=>zWW ?_))))
 have O4:IsPair h4 TO x b:=e4.extBut _ _ D.TOi2 O3;refine zWU (zXK O4 rfl (zWU (wpAny_updateSeq_pair O4 fun h5 O5 e5=>zWU (wpAny_letGo (zWW (zWW ?_))))));replace O5:IsPair h5 TO x y:=O5;refine zWU (zXK O5 rfl (zWU (wpAny_newTuple ?_)));have sz:h5.objs.size=s.heap.objs.size:=by rw[e5.1,e4.1,e3.1,e2.1,e1.1]
 have Z5:IsZip h5 z TI TO .ellipsis:=e5.extBut _ _ D.TOz.symm (e4.extBut _ _ D.i2z.symm (e3.extBut _ _ D.TOz.symm (e2.extBut _ _ D.i1z.symm Z1)));have kp:∀ c o,c∉[z,TO,i1,i2]->s.heap.get? c=some o->h5.get? c=some o:=fun c o n e=>by
  simp only[zWg,zWz,zXp,not_or]at n;obtain ⟨n1,n2,n3,n4⟩:=n;exact e5.extBut _ _ n2 (e4.extBut _ _ n4 (e3.extBut _ _ n2 (e2.extBut _ _ n3 (e1.extBut _ _ n1 e))))
 have A5:h5.IsTupleIter i1 t1 (k+1):=TIt.but (TIt.but (TIt.but J1 e3.extBut D.TOi1.symm) e4.extBut D.i12) e5.extBut D.TOi1.symm;have B5:h5.IsTupleIter i2 t2 (k+1):=TIt.but J2 e5.extBut D.TOi2.symm;have zl:z<h5.objs.size:=zWf Z5;refine zWU (m:=Builtin.SmallTypes.ownedTupleHandOut (.ref z) (.ref h5.objs.size)) ?_;unfold Builtin.SmallTypes.ownedTupleHandOut;have Z6:IsZip (h5.push { cls:=.type "tuple", data:=.seq #[x,y] }) z TI TO .ellipsis:=zWV _ Z5;refine zWU (wpAny_setField_rec Z6 (by simp) fun h7 Z7 e7=>?_);replace Z7:IsZip h7 z TI TO (rawInt h5.objs.size):=Z7;refine wpAny_setField_rec Z7 (by simp) fun h8 Z8 e8=>?_;replace Z8:IsZip h8 z TI TO (rawInt h5.objs.size):=Z8;have up:∀ c o,c≠z->h5.get? c=some o->h8.get? c=some o:=fun c o n e=>e8.extBut _ _ n (e7.extBut _ _ n (zWV _ e));have N8:IsPair h8 h5.objs.size x y:=e8.extBut _ _ (zXz zl) (e7.extBut _ _ (zXz zl) (zWe _ rfl));rw[sz]at Z8 N8;refine zWW ⟨_,rfl,?_⟩;rw[sz];refine zWW (q h8 ⟨Z8,up _ _ D.TIz (kp _ _ (by simp[D.TIz,D.TITO,D.TIi1,D.TIi2]) P0),⟨_,_,up _ _ D.TOz O5⟩,?_,?_⟩ N8 fun c o n e=>up c o (fun m=>n (by simp[m])) (kp c o n e))
 ·obtain ⟨o,e,r⟩:=A5;exact ⟨o,up _ _ D.i1z e,r⟩
 ·obtain ⟨o,e,r⟩:=B5;exact ⟨o,up _ _ D.i2z e,r⟩
theorem zQy {z TI TO i1 i2 t1 t2:Addr} {k:Nat} {xs ys:Array Value} {Q:Option Value->Shared->Prop} (hh:A.handled=none) (D:ZipApart z TI TO i1 i2 t1 t2) (Z:ZipT s.heap z TI TO i1 i2 t1 t2 .none k k)
  (T1:s.heap.IsTuple t1 xs) (T2:s.heap.IsTuple t2 ys) (he:xs[k]?=none\/ys[k]?=none)
  (q:∀ h',(∀ c o,c∉[z,TO,i1,i2]->s.heap.get? c=some o->h'.get? c=some o)->Q none { s with heap:=h' }):wpAny (model prog w) A (pyNext (.ref z)) Q E s:=by
 obtain ⟨Z0,P0,⟨a,b,O0⟩,I1,I2⟩:=Z;have ty:s.TypeIs (.ref z) "zip" := ⟨_,Z0,rfl⟩
 have stop:∀ (e:Addr) (h':Heap),(∀ c o,c∉[z,TO,i1,i2]->s.heap.get? c=some o->h'.get? c=some o)->(∃ o,h'.get? e=some o/\o.cls=.type "StopIteration") ->
   wpAny (model prog w) A (do if (<- isInstance (.ref e) (.type "StopIteration")) then pure none else throw (.ref e):Sem (Option Value)) Q E { s with heap:=h' }:=fun e h' k1 ⟨o,e1,e2⟩=>
  zWU (wpAny_isInstance (T := "StopIteration") (b:=true) ⟨o,e1,e2⟩ isSubtype_stop (zWW (q h' k1)))
 unfold pyNext;refine zWU (wpAny_attempt (zW6 (name:=Str.ofString "__next__") ty PySem.F.slot_zip_next (zW7 PySem.F.slot_zip_next ty PySem.F.entry_zip_next ?_ (PySem.F.args_zip_next_1 _))));refine zWU (m:=field (.ref z) 2) (zW9 Z0 rfl (x:=.bool false) rfl ?_);refine zWU (m:=field (.ref z) 3) (zW9 Z0 rfl (x:=.ref TI) rfl ?_);refine zWU (zXK P0 rfl ?_);refine zWU (m:=Builtin.SmallTypes.ownedTupleIsFree (.ref z)) ?_;unfold Builtin.SmallTypes.ownedTupleIsFree;refine zWU (zW9 Z0 rfl (x:=.none) rfl (zWW ?_));simp only[if_true];refine zWU (zXr (zWU (zW9 Z0 rfl (x:=.ref TO) rfl (zWU (wpAny_setField_rec Z0 (by simp) fun h1 Z1 e1=>?_)))));replace Z1:IsZip h1 z TI TO .ellipsis:=Z1;refine zWU ?_;simp only[List.forIn_cons,List.forIn_nil,List.zipIdx_cons,List.zipIdx_nil];cases hx:xs[k]? with
 |none=>
  refine zWU (zWU (wpAny_onRaise (zWU (m:=Builtin.SmallTypes.nextOf (.ref i1)) (zEY hh (TIt.but I1 e1.extBut D.i1z) (Tup.but T1 e1.extBut D.l1z) hx fun h2 e e2 he=>?_))));obtain ⟨oe,o1,o2⟩:=he;have Z2:IsZip h2 z TI TO .ellipsis:=e2 _ _ D.i1z.symm Z1;have ne:e≠z:=fun m=>by subst m;rw[Z2]at o1;cases o1;simp at o2
  refine wpAny_setField_rec Z2 (by simp) fun h3 _ e3=>stop e h3 (fun c o n x=>?_) ⟨oe,e3.extBut _ _ ne o1,o2⟩;simp only[zWg,zWz,zXp,not_or]at n;exact e3.extBut _ _ n.1 (e2 _ _ n.2.2.1 (e1.extBut _ _ n.1 x))
 |some x=>
  have hy:ys[k]?=none:=by
   rcases he with m|m
   ·rw[hx]at m;cases m
   ·exact m
  refine zWU (zWU (wpAny_onRaise (zWU (m:=Builtin.SmallTypes.nextOf (.ref i1)) (zDS (TIt.but I1 e1.extBut D.i1z) (Tup.but T1 e1.extBut D.l1z) hx fun h2 J1 e2=>zWW ?_))));have O2:IsPair h2 TO a b:=e2.extBut _ _ D.TOi1 (e1.extBut _ _ D.TOz O0);refine zWU (zXK O2 rfl (zWU (wpAny_updateSeq_pair O2 fun h3 O3 e3=>zWU (wpAny_letGo (zWW ?_)))))
  refine zWU (zWU (wpAny_onRaise (zWU (m:=Builtin.SmallTypes.nextOf (.ref i2)) (zEY hh (TIt.but (TIt.but (TIt.but I2 e1.extBut D.i2z) e2.extBut D.i12.symm) e3.extBut D.TOi2.symm)
   (Tup.but (Tup.but (Tup.but T2 e1.extBut D.l2z) e2.extBut D.l2i1) e3.extBut D.l2TO) hy fun h4 e e4 he=>?_))))
  obtain ⟨oe,o1,o2⟩:=he;have Z4:IsZip h4 z TI TO .ellipsis:=e4 _ _ D.i2z.symm (e3.extBut _ _ D.TOz.symm (e2.extBut _ _ D.i1z.symm Z1));have ne:e≠z:=fun m=>by subst m;rw[Z4]at o1;cases o1;simp at o2
  refine wpAny_setField_rec Z4 (by simp) fun h5 _ e5=>stop e h5 (fun c o n x=>?_) ⟨oe,e5.extBut _ _ ne o1,o2⟩;simp only[zWg,zWz,zXp,not_or]at n;exact e5.extBut _ _ n.1 (e4 _ _ n.2.2.2 (e3.extBut _ _ n.2.1 (e2.extBut _ _ n.2.2.1 (e1.extBut _ _ n.1 x))))
abbrev zT1 (h:Heap) (a:Addr):Heap:=h.push { cls:=.type "tuple_iterator", data:=.fields #[.ref a,.int 0 0] }
abbrev zT2 (h:Heap) (a b:Addr):Heap:=zT1 (zT1 h a) b
abbrev zT3 (h:Heap) (a b:Addr):Heap:=(zT2 h a b).push { cls:=.type "tuple", data:=.seq #[.ref h.objs.size,.ref (zT1 h a).objs.size] }
abbrev zT4 (h:Heap) (a b:Addr):Heap:=(zT3 h a b).push { cls:=.type "tuple", data:=.seq #[.none,.none] }
abbrev zT5 (h:Heap) (a b:Addr):Heap:=(zT4 h a b).push { cls:=.type "zip", data:=.fields #[.none,.bool false,.bool false,.ref (zT2 h a b).objs.size,.ref (zT3 h a b).objs.size] }
theorem zLm (a b:Addr) (xs ys:Array Value):Meets (Builtin.«zip.__new__» ⟨[.type "zip", .ref a,.ref b],[]⟩) (fun _ R s=>s.heap.IsTuple a xs/\s.heap.IsTuple b ys/\R (.ok (.ret (.ref (zT4 s.heap a b).objs.size))) { s with heap:=zT5 s.heap a b }) :=
 .of_wp fun prog w A R s h=>by
  obtain ⟨hp,g,d,tk,os⟩:=s;obtain ⟨Ta,Tb,h⟩:=h;have sz:=sub_zip;have U1:Heap.IsTuple (Shared.heap ⟨hp,g,d,tk,os⟩) a xs:=Ta;have U2:Heap.IsTuple (Shared.heap ⟨hp.push { cls:=.type "tuple_iterator", data:=.fields #[.ref a,.int 0 0] },g,d,tk,os⟩) b ys:=Heap.IsTuple.push Tb _;wp_walk using wpAny_pyIter_tuple U1,wpAny_pyIter_tuple U2;exact ⟨_,rfl,h⟩
theorem zQN (Ta:s.heap.IsTuple a xs) (Tb:s.heap.IsTuple b ys)
  (h:∀ h',ZipT h' (s.heap.objs.size+4) (s.heap.objs.size+2) (s.heap.objs.size+3) s.heap.objs.size (s.heap.objs.size+1) a b .none 0 0->(∀ c o,s.heap.get? c=some o->h'.get? c=some o)->Q (.ref (s.heap.objs.size+4)) { s with heap:=h' }) :
  wpAny (model prog w) A (call (.type "zip") [.ref a,.ref b]) Q E s:=by
 refine callType_new PySem.F.called_zip (by decide) (PySem.F.typeCall_zip_2 _ _) (PySem.F.newCall_zip_2 _ _) (fun obj=>PySem.F.args_object_init_3 obj _ _) PySem.F.entry_zip_new (zLm a b xs ys) ⟨Ta,Tb,?_⟩;have q1:(zT1 s.heap a).objs.size=s.heap.objs.size+1:=zXA ..;have q2:(zT2 s.heap a b).objs.size=s.heap.objs.size+2:=by rw[zXA,q1]
 have q3:(zT3 s.heap a b).objs.size=s.heap.objs.size+3:=by rw[zXA,q2]
 have q4:(zT4 s.heap a b).objs.size=s.heap.objs.size+4:=by rw[zXA,q3]
 have u:∀ {h:Heap} {c:Addr} {o p:Obj},h.get? c=some o->(h.push p).get? c=some o:=fun e=>zWV _ e;have p5:(zT5 s.heap a b).get? (zT4 s.heap a b).objs.size=some _:=zWe _ rfl;have p4:(zT5 s.heap a b).get? (zT3 s.heap a b).objs.size=some _:=u (zWe _ rfl);have p3:(zT5 s.heap a b).get? (zT2 s.heap a b).objs.size=some _:=u (u (zWe _ rfl));have p2:(zT5 s.heap a b).get? (zT1 s.heap a).objs.size=some _:=u (u (u (zWe _ rfl)));have p1:(zT5 s.heap a b).get? s.heap.objs.size=some _:=u (u (u (u (zWe _ rfl))));rw[q2,q3,q4]at p5;rw[q1,q2]at p3;rw[q3]at p4;rw[q1]at p2;rw[q4];exact ⟨⟨_,p5,rfl⟩,h _ ⟨p5,p3,⟨_,_,p4⟩,⟨_,p1,rfl,rfl⟩,⟨_,p2,rfl,rfl⟩⟩ fun c o x=>u (u (u (u (u x))))⟩
end
theorem zGE {X:Cx} {zB:List (Addr × Obj)} {σ:L2.St} {H:Hp} {s:Shared} {h':Heap} {t':Nat} {ch:List Addr} {T:Addr} {o:HO} (I:Inv X zB σ H s) (hf:∀ b∈ch,zCE X zB H b)
  (k:∀ b u,b∉ch->s.heap.get? b=some u->h'.get? b=some u) (hT:s.heap.objs.size<=T) (new:zAR X.prog X.w (upd H T o) h' T o):Inv X zB σ (upd H T o) { s with heap:=h',toks:=t' }:=by
 have hn:H T=none:=I.hok.fresh hT;have nch:∀ b u,H b=some u->b∉ch:=fun b u e z=>by rw[(hf b z).1]at e;cases e
 have un:∀ b u,H b=some u->upd H T o b=some u:=fun b u e=>by rw[zZ (zAI e hn)];exact e
 refine I.step (g':=s.gens) (d':=s.drawn) (ch:=ch) (fun b hb=>⟨(hf b hb).2.2.2.1,(hf b hb).2.1,(hf b hb).2.2.2.2.1,(hf b hb).2.2.2.2.2⟩) (fun b u _ _ hc e _=>k b u hc e) (fun b u _ _ hc e _=>⟨u.slots,k b u hc e⟩)
  (fun b u _ e n=>by rw[zZ (fun z=>by rw[z]at e;exact absurd (zWf e) (Nat.not_lt.mpr hT))];exact n) (fun b u hc e=>⟨u,k b u hc e⟩) (fun b xs e=>un b _ e) (fun b p u e=>un b _ e) (fun b ps e=>⟨#[],by rw[un b _ e];simp⟩) (fun m hm=>?_) (fun b u e=>?_) I.bare
 ·obtain ⟨p,es,ep,ho,r⟩:=hm;exact ⟨p,es,ep,k _ p (fun z=>(hf _ z).2.1 rfl) ho,r⟩
 ·by_cases hb:b=T
  ·subst hb;rw[zw]at e;cases e;exact new
  ·rw[zZ hb]at e;refine (I.hok b u e).stay (fun c v hc q=>k c v ?_ q) (fun c q=>un c _ q) fun c xs q=>un c _ q;rcases hc with z|z
   ·rw[z];exact nch b u e
   ·exact nch c _ z
theorem zEZ {X:Cx} {zB:List (Addr × Obj)} {σ:L2.St} {H:Hp} {s:Shared} {h':Heap} {t':Nat} {ch:List Addr} (I:Inv X zB σ H s) (hf:∀ b∈ch,zCE X zB H b)
  (k:∀ b u,b∉ch->s.heap.get? b=some u->h'.get? b=some u):Inv X zB σ H { s with heap:=h',toks:=t' }:=by
 have nch:∀ b u,H b=some u->b∉ch:=fun b u e z=>by rw[(hf b z).1]at e;cases e
 refine I.step (g':=s.gens) (d':=s.drawn) (ch:=ch) (fun b hb=>⟨(hf b hb).2.2.2.1,(hf b hb).2.1,(hf b hb).2.2.2.2.1,(hf b hb).2.2.2.2.2⟩) (fun b u _ _ hc e _=>k b u hc e) (fun b u _ _ hc e _=>⟨u.slots,k b u hc e⟩)
  (fun b u _ e n=>n) (fun b u hc e=>⟨u,k b u hc e⟩) (fun b xs e=>e) (fun b p u e=>e) (fun b ps e=>⟨#[],by rw[e];simp⟩) (fun m hm=>?_) (fun b u e=>?_) I.bare
 ·obtain ⟨p,es,ep,ho,r⟩:=hm;exact ⟨p,es,ep,k _ p (fun z=>(hf _ z).2.1 rfl) ho,r⟩
 ·refine (I.hok b u e).stay (fun c v hc q=>k c v ?_ q) (fun c q=>q) fun c xs q=>q;rcases hc with z|z
  ·rw[z];exact nch b u e
  ·exact nch c _ z
def Itz (K:PySem.W.Frag) (a b:Addr):It :=
 ⟨fun i H=>∃ xs ys x y,SqT K H a xs/\SqT K H b ys/\xs[i]?=some x/\ys[i]?=some y,
  fun i H v H'=>∃ T x y,v=.ref T/\H T=none/\H'=upd H T (.tup [x,y])/\(∀ xs,SqT K H a xs->xs[i]?=some x) /\ ∀ ys,SqT K H b ys->ys[i]?=some y,
  fun i H=>∃ xs ys,SqT K H a xs/\SqT K H b ys/\(xs.length<=i\/ys.length<=i)⟩
theorem zOX {P:Program} {w:World} {K:PySem.W.Frag} {es:List Expr} {ek:Nat} {ep:Pos} {z TI TO i1 i2 a b:Addr} (D:ZipApart z TI TO i1 i2 a b) :
  Turn P w K (.Tuple es ek ep) (Itz K a b) [z,TI,TO,i1,i2] z (fun i h=>ZipT h z TI TO i1 i2 a b .none i i) where
 mem:=by simp
 obj:=fun i h Z c hc=>by
  obtain ⟨Z0,P0,⟨x,y,O0⟩,⟨o1,e1,_,d1⟩,⟨o2,e2,_,d2⟩⟩:=Z;simp only[zWg,zWz,zXp]at hc;rcases hc with rfl|rfl|rfl|rfl|rfl
  ·exact ⟨_,Z0,fun v m=>by cases m⟩
  ·exact ⟨_,P0,fun v m=>by cases m⟩
  ·exact ⟨_,O0,fun v m=>by cases m⟩
  ·exact ⟨_,e1,fun v m=>by rw[d1]at m;cases m⟩
  ·exact ⟨_,e2,fun v m=>by rw[d2]at m;cases m⟩
 keep:=fun i h h' Z k=>by
  obtain ⟨Z0,P0,⟨x,y,O0⟩,⟨o1,e1,r1⟩,⟨o2,e2,r2⟩⟩:=Z;exact ⟨k z (by simp) _ Z0,k TI (by simp) _ P0,⟨x,y,k TO (by simp) _ O0⟩,⟨o1,k i1 (by simp) _ e1,r1⟩,⟨o2,k i2 (by simp) _ e2,r2⟩⟩
 item:=by
  intro X hP hw hK hc i zB s σ H E I hf Z hg;subst hP hw hK;obtain ⟨xs,ys,x,y,sa,sb,hx,hy⟩:=hg;obtain ⟨its,rv,p1,z1⟩:=I.tuple sa;obtain ⟨its2,rv2,p2,z2⟩:=I.tuple sb;obtain ⟨u,hu,ru⟩:=rv.get hx;obtain ⟨u2,hu2,ru2⟩:=rv2.get hy;refine zOA D Z (show s.heap.IsTuple a its.toArray from p1) (show s.heap.IsTuple b its2.toArray from p2) (x:=u) (y:=u2) (by simpa using hu) (by simpa using hu2) fun h' Z' N' kp=>⟨_,rfl,?_⟩;refine wpAny_letOwnedTupleGo_zip Z'.z fun h2 Z2 e2=>?_;have hch:∀ c∈[z,TO,i1,i2],zCE X zB H c:=fun c hm=>hf c (by
   simp only[zWg,zWz,zXp]at hm ⊢;rcases hm with q|q|q|q <;> simp[q])
  have kk:∀ c o,c∉[z,TO,i1,i2]->s.heap.get? c=some o->h2.get? c=some o:=fun c o n e=>e2.extBut _ _ (fun m=>n (by simp[m])) (kp c o n e);have zlt:z<s.heap.objs.size:=zWf Z.z;have NT:IsPair h2 s.heap.objs.size u u2:=e2.extBut _ _ (zXz zlt) N';have hfr:H s.heap.objs.size=none:=I.hok.fresh (zWa _);refine ⟨.ref s.heap.objs.size,upd H s.heap.objs.size (.tup [x,y]),zGE (s:=s) (h':=h2) (t':=s.toks) I hch kk (zWa _) ?_,rfl,⟨_,x,y,rfl,hfr,rfl,fun ws hw=>?_,fun ws hw=>?_⟩,?_,fun c hm=>?_⟩
  ·exact ⟨by show 2<=sizeLine;decide,[u,u2],.cons ru (.cons ru2 .nil),⟨_,NT,rfl,⟨_,rfl⟩,rfl⟩⟩
  ·rw[I.tuple_inj hw sa];exact hx
  ·rw[I.tuple_inj hw sb];exact hy
  ·obtain ⟨_,P1,⟨q1,q2,O1⟩,⟨o1,f1,r1⟩,⟨o2,f2,r2⟩⟩:=Z';exact ⟨Z2,e2.extBut _ _ D.TIz P1,⟨q1,q2,e2.extBut _ _ D.TOz O1⟩,⟨o1,e2.extBut _ _ D.i1z f1,r1⟩,⟨o2,e2.extBut _ _ D.i2z f2,r2⟩⟩
  ·have lt:c<s.heap.objs.size:=by
    obtain ⟨Z0,P0,⟨q1,q2,O0⟩,⟨o1,f1,_⟩,⟨o2,f2,_⟩⟩:=Z;simp only[zWg,zWz,zXp]at hm;rcases hm with rfl|rfl|rfl|rfl|rfl
    ·exact zWf Z0
    ·exact zWf P0
    ·exact zWf O0
    ·exact zWf f1
    ·exact zWf f2
   rw[zZ (zWp lt)];exact (hf c hm).1
 done:=by
  intro X hP hw hK hc i zB s σ H E I hf Z hg;subst hP hw hK;obtain ⟨xs,ys,sa,sb,hz⟩:=hg;obtain ⟨its,rv,p1,z1⟩:=I.tuple sa;obtain ⟨its2,rv2,p2,z2⟩:=I.tuple sb;have l1:=rv.length;have l2:=rv2.length;refine zQy (I.ok.hd hc) D Z (show s.heap.IsTuple a its.toArray from p1) (show s.heap.IsTuple b its2.toArray from p2) ?_ fun h' kp=>⟨rfl,zEZ (s:=s) (h':=h') (t':=s.toks) I (fun c hm=>hf c (by
   simp only[zWg,zWz,zXp]at hm ⊢;rcases hm with q|q|q|q <;> simp[q])) kp⟩
  rcases hz with q|q
  ·exact .inl (by simp;omega)
  ·exact .inr (by simp;omega)
 self:=fun _ _ _ _ _ Z h=>wpAny_pyIter_zip Z.z h
section
variable {X:Cx} {a b:Expr} {es:List Expr} {ek:Nat} {ep p pos:Pos}
theorem zTU {ta:TA} (hg:Gl X "zip") (hm:X.mg "zip" = none) (ha:PA X [a,b] ta) (hs:starEach [a,b] X.env=[(false,eval a X.env),(false,eval b X.env)]:=by rfl) (hs2:starEach [b] X.env=[(false,eval b X.env)]:=by rfl) :
  PI X (.Tuple es ek ep) (.Call (.Name "zip" p) [a,b] [] pos) (fun σ H R=>ta σ H fun vs H1=>∃ l1 l2 xs ys,vs=[.ref l1,.ref l2]/\SqT X.K H1 l1 xs/\SqT X.K H1 l2 ys/\R (Itz X.K l1 l2) H1):=by
 intro zB s σ H R I h;refine Call_ (zEH I hg hm (by rfl) (PyProof.Rows.callWith_type1 (thn (ha pos zB s σ H _ I h) fun us s1 ⟨vs,H1,I1,r1,q1⟩=>?_) (by rw[hs,hs2]) (by rw[hs2];rfl)));obtain ⟨l1,l2,xs,ys,rfl,s1',s2',q⟩:=q1;cases r1 with
 |cons r rr=>
  cases rr with
  |cons r' rr=>
   cases rr;cases r;cases r';obtain ⟨its,rv,p1,_⟩:=I1.tuple s1';obtain ⟨its2,rv2,p2,_⟩:=I1.tuple s2';have d1:l1<s1.heap.objs.size:=by obtain ⟨_,e,_⟩:=p1;exact zWf e
   have d2:l2<s1.heap.objs.size:=by obtain ⟨_,e,_⟩:=p2;exact zWf e
   refine zQN (show s1.heap.IsTuple l1 its.toArray from p1) (show s1.heap.IsTuple l2 its2.toArray from p2) fun h' Z kp=>wpAny_pyIter_zip Z.z ?_;refine ⟨s1.heap.objs.size+4,[s1.heap.objs.size+4,s1.heap.objs.size+2,s1.heap.objs.size+3,s1.heap.objs.size,s1.heap.objs.size+1],_,_,H1,rfl,I1.kept (t':=s1.toks) kp,zOX (zipApart_new d1 d2),Z,fun c hc=>?_,q⟩;have ge:s1.heap.objs.size<=c:=by
    simp only[zWg,zWz,zXp]at hc;rcases hc with rfl|rfl|rfl|rfl|rfl
    ·exact Nat.le_add_right _ 4
    ·exact Nat.le_add_right _ 2
    ·exact Nat.le_add_right _ 3
    ·exact zWa _
    ·exact Nat.le_add_right _ 1
   exact I1.fpOk ge (I1.hok.fresh ge)
def zJG (g:FA):FI:=fun σ M=>match g σ M with
 |some ([.tup xs,.tup ys],M1)=>some ((xs.zip ys).map fun q=>D.tup [q.1,q.2],none,M1)
 |_=>none
theorem zPG (hg:Gl X "zip") (hm:X.mg "zip" = none) (ha:QA X [a,b] g) (hs:starEach [a,b] X.env=[(false,eval a X.env),(false,eval b X.env)]:=by rfl) (hs2:starEach [b] X.env=[(false,eval b X.env)]:=by rfl) :
  QI X (.Tuple es ek ep) (.Call (.Name "zip" p) [a,b] [] pos) (zJG g):=.mk <| PI.imp (zTU hg hm ha.un hs hs2) fun τ H R zz=>by
 obtain ⟨L,σ,M,xs,gd,M',c,rs,hf,q⟩:=zz;unfold zJG at hf;split at hf
 ·rename_i ds es' M1 e1;cases hf;refine ⟨L,σ,M,_,_,c,rs,e1,fun L1 H1 vs s1 c1 r1=>?_⟩;obtain ⟨v,v',rfl,r2,r3⟩:=r1.two;unfold Rep at r2 r3;obtain ⟨l1,ws1,rfl,h1,q1⟩:=r2;obtain ⟨l2,ws2,rfl,h2,q2⟩:=r3;refine ⟨l1,l2,ws1,ws2,rfl,.of h1,.of h2,q L1 H1 _ s1 c1 fun L2 H2 M2 s2 c2 _=>?_⟩;have k1:=s2.tup l1 ws1 h1;have k2:=s2.tup l2 ws2 h2;have p1:=q1.stp s2;have p2:=q2.stp s2;refine ⟨fun i d hd=>?_,⟨ws1,ws2,.of k1,.of k2,?_⟩⟩
  ·rw[zWr]at hd;cases e2:(ds.zip es')[i]? with
   |none=>rw[e2]at hd;cases hd
   |some pr=>
    rw[e2]at hd;cases hd;obtain ⟨f1,f2⟩:=List.getElem?_zip_eq_some.mp e2;obtain ⟨u,hu,ru⟩:=p1.get f1;obtain ⟨u2,hu2,ru2⟩:=p2.get f2;refine ⟨⟨ws1,ws2,u,u2,.of k1,.of k2,hu,hu2⟩,fun v H3 hy=>?_⟩;obtain ⟨T,x,y,rfl,hT,rfl,hxx,hyy⟩:=hy;have ex:=hxx ws1 (.of k1);have ey:=hyy ws2 (.of k2);rw[hu]at ex;cases ex;rw[hu2]at ey;cases ey;exact ⟨fun a o e=>by rw[zZ (zAI e hT)];exact e,Rep.newTup hT (.cons ru (.cons ru2 .nil))⟩
  ·rw[zWd,List.length_zip,p1.length,p2.length];omega
 ·cases hf
def zBp (i j:Nat):FG:=fun d σ=>match d with
 |.tup [x,y]=>some ((σ.set i (some x)).set j (some y))
 |_=>none
abbrev gP2 (K:PySem.W.Frag) (i j:Nat):TG:=zUj K 2 (zPB (zDi i) (zPB (zDi j) zVL))
theorem zKV {K:PySem.W.Frag} {i j:Nat}:GOk (gP2 K i j) (zBp i j):=by
 intro L H σ σ' τ d v Q rs r hf q;unfold zBp at hf;split at hf
 ·rename_i x y;cases hf;unfold Rep at r;obtain ⟨a,vs,rfl,e,r⟩:=r;obtain ⟨v1,v2,rfl,r1,r2⟩:=r.two;exact ⟨a,_,rfl,.of e,rfl,v1,[v2],rfl,v2,[],rfl,rfl,q _ ((rs.set r1).set r2)⟩
 ·cases hf
theorem zIe {K:PySem.W.Frag} {own:List Nat} {i j:Nat} (hi:i∈own) (hj:j∈own):zFP own (gP2 K i j) (zBp i j):=by
 intro L H σ σ' τ τ0 d v Q rs ex r hf q;unfold zBp at hf;split at hf
 ·rename_i x y;cases hf;unfold Rep at r;obtain ⟨a,vs,rfl,e,r⟩:=r;obtain ⟨v1,v2,rfl,r1,r2⟩:=r.two;exact ⟨a,_,rfl,.of e,rfl,v1,[v2],rfl,v2,[],rfl,rfl,q _ ((rs.set r1).set r2) ((ex.set hi).set hj)⟩
 ·cases hf
end
section
variable {X:Cx} {a b c e:Expr} {es:List Expr} {pos p p2 pos2:Pos} {f g h:FE}
theorem zNS:∀ {bs:List Bool} {its:List Value},ze (bs.map V.bl) its -> ∀ (i:Nat) v,its[i]?=some v -> ∃ k,bs[i]?=some k/\v=.bool k
 |[],_,.nil,_,_,h=>by simp at h
 |k::bs,_,.cons r t,0,v,h=>by
  simp at h;subst h;exact ⟨k,rfl,r⟩
 |k::bs,_,.cons r t,i+1,v,h=>by
  obtain ⟨k',e1,e2⟩:=zNS t i v (by simpa using h);exact ⟨k',by simpa using e1,e2⟩
theorem zMK (bs:List Bool):((List.range bs.length).all fun i=>(bs[i]?).getD true)=bs.all id:=by
 rw[Bool.eq_iff_iff,zW5,zW5];constructor
 ·intro q k hk;obtain ⟨i,hi,rfl⟩:=List.getElem_of_mem hk;have:=q i (zW8.mpr hi);rw[zWY hi]at this;exact this
 ·intro q i hi;rw[zWY (zW8.mp hi)];exact q _ (zW2 _)
def zUr (K:PySem.W.Frag) (F:List Bool->Bool):List V->Hp->VK->Prop:=fun xs H Q=>∃ q bs,xs=[.ref q]/\SqL K H q (bs.map V.bl)/\Q (.bl (F bs)) H
theorem zOI (hc:X.calm=true):zB5 X (.builtin "all") (zUr X.K fun bs=>bs.all id):=by
 intro zB s σ H xs us Q I r h;obtain ⟨l,bs,rfl,hq,q⟩:=h;obtain ⟨u,rfl,rx⟩:=zEc r;cases rx;obtain ⟨its,rv,pl,_⟩:=I.list hq;have hlt:l<s.heap.objs.size:=by obtain ⟨_,z,_⟩:=pl.isList;exact zWf z
 refine call_all_walk (wpAny_pyIter_list pl.isList ⟨s.heap.objs.size,[s.heap.objs.size,l],[s.heap.objs.size],its.toArray.size,_,_,fun i=>(bs[i]?).getD true,rfl,Walks.list (A:=X.A.in1) (I.ok.hd hc) _ l (zWp hlt) its.toArray,
  ⟨⟨_,zWe _ rfl,rfl,rfl⟩,pl.isList.push _⟩,fun i v s' Q' E' hP hQ=>?_,fun h' tk hk=>?_⟩)
 ·obtain ⟨k,z,rfl⟩:=zNS rv i v (by simpa using hP);dsimp only at hQ;rw[z]at hQ;exact wpAny_truthy_bool hQ
 ·have hl:=rv.length;rw[zWd]at hl;rw[zWc,<-hl,zMK];exact ⟨.bl _,H,I.kept (t':=tk) fun b o z=>hk b o (fun m=>by rw[zWw.mp m]at z;exact zXC _ (zWf z)) (zWV _ z),rfl,q⟩
def zGC:List D->Option (List Bool)
 |[]=>some []
 |.bl k::r=>match zGC r with
  |some bs=>some (k::bs)
  |none=>none
 |_=>none
theorem zNG:∀ {ds:List D} {bs:List Bool} {vs:List V},zGC ds=some bs->zQ L H ds vs->vs=bs.map V.bl
 |[],bs,vs,e,r=>by cases e;unfold zQ at r;exact r
 |d::ds,bs,vs,e,r=>by
  unfold zQ at r;obtain ⟨v,r',rfl,r1,r2⟩:=r;cases d with
  |bl k=>
   unfold zGC at e;cases q:zGC ds with
   |none=>rw[q]at e;cases e
   |some bs'=>
    rw[q]at e;cases e;unfold Rep at r1;rw[r1,zNG q r2];rfl
  |_=>cases e
def zOc (F:List Bool->Bool):KB:=fun xs M=>match xs with
 |[x]=>match zBR M x with
  |some ds=>match zGC ds with
   |some bs=>some (.dat (.bl (F bs)),M)
   |none=>none
  |none=>none
 |_=>none
theorem zRO {K:PySem.W.Frag} {F:List Bool->Bool}:zGX K (zUr K F) (zOc F):=by
 intro L M M' H H0 xs d vs Q c r hk q;unfold zOc at hk;split at hk
 ·rename_i x;split at hk
  ·rename_i ds e1;split at hk
   ·rename_i bs e2;cases hk;obtain ⟨v,rfl,r1⟩:=r.one;obtain ⟨l,ws,rfl,h1,r2⟩:=zBI c r1 e1;have:=zNG e2 r2;subst this;exact ⟨l,bs,rfl,.inl h1,q L H _ (.refl L H) c (zCF (L:=L) (H:=H))⟩
   ·cases hk
  ·cases hk
 ·cases hk
abbrev zVU:KB:=zOc fun bs=>bs.all id
section
variable {fa:FAE}
theorem zVn (hc:X.calm=true) (hg:Gl X "all") (hm:X.mg "all" = none) (ha:QAE X [e] fa) (he:starEach [e] X.env=(false,eval e X.env)::starEach [] X.env:=by rfl) (hpl:(backTo pos (starEach [] X.env)).any (·.1)=false:=by rfl):QE X (.Call (.Name "all" p) [e] [] pos) (fB zVU fa) :=
 zEN zRO (zOI hc) (by rfl) hg hm ha (by decide) (by decide) he hpl
end
theorem zVY (h:zBR M x=some ds) (hb:zGC ds=some bs):Ok (zOc F [x] M) P ↔ P (.dat (.bl (F bs))) M:=by
 have:zOc F [x] M=some (.dat (.bl (F bs)),M):=by unfold zOc;dsimp only;rw[h];dsimp only;rw[hb]
 rw[this,zAA]
theorem zIa:∀ bs:List Bool,zGC (bs.map D.bl)=some bs
 |[]=>rfl
 |k::bs=>by rw[zWn];unfold zGC;rw[zIa bs]
def zPm (f:FE):FE:=fun σ M=>match f σ M with
 |some (.dat (.int i),M1)=>some (.dat (.int (-i)),M1)
 |_=>none
theorem zVP (h1:QE X a f):QE X (.UnaryOp .USub a pos) (zPm f):=.mk <| PE.imp (zVi zSz h1.un) fun τ H Q zz=>by
 obtain ⟨L,σ,M,d,M',cc,rs,hf,q⟩:=zz;unfold zPm at hf;split at hf
 ·rename_i i M1 e1;cases hf;refine ⟨L,σ,M,_,_,cc,rs,e1,fun L1 H1 v s1 c1 r1=>?_⟩;exact ⟨i,by unfold zf Rep at r1;exact r1,q L1 H1 _ s1 c1 (zAi (L:=L1) (H:=H1))⟩
 ·cases hf
def zF4:KB:=fun xs M=>match xs with
 |[x]=>match zAb M x with
  |some ys=>some (.fl ys,M)
  |none=>none
 |_=>none
theorem zQr:zGX X.K (fun xs H Q=>∃ q ys,xs=[.ref q]/\(SqL X.K H q ys\/SqT X.K H q ys) /\ ∀ l,H l=none->Q (.ref l) (upd H l (.lst ys))) zF4:=by
 intro L M M' H H0 xs d vs Q cc r hk q;unfold zF4 at hk;split at hk
 ·rename_i x;split at hk
  ·rename_i ys e1;cases hk;obtain ⟨v,rfl,r1⟩:=r.one;obtain ⟨l,ws,rfl,hs,r2⟩:=zGg cc r1 e1;refine ⟨l,ws,rfl,hs,fun k hk=>?_⟩;exact q L _ _ (.upd hk) (cc.upd hk) (zf.newLst (.refl L H) cc cc hk r2)
  ·cases hk
 ·cases hk
theorem zTZ (hg:Gl X "list") (hm:X.mg "list" = none) (ha:QAE X [e] fa) (he:starEach [e] X.env=(false,eval e X.env)::starEach [] X.env:=by rfl) (hpl:(backTo pos (starEach [] X.env)).any (·.1)=false:=by rfl):QE X (.Call (.Name "list" p) [e] [] pos) (fB zF4 fa) :=
 zHq zQr zJP (by rfl) hg hm ha (by decide) (by decide) he hpl
theorem zPo (hh:zAb M x=some xs):Ok (zF4 [x] M) P ↔ P (.fl xs) M:=by
 have:zF4 [x] M=some (.fl xs,M):=by unfold zF4;dsimp only;rw[hh]
 rw[this,zAA]
end
open AutoSeq1 (wpAny_loadPart')
section
variable {prog:Program} {w:World} {A:Around} {E:Value->Shared->Prop} {s:Shared}
theorem zQq {r:Addr} {lo hi:Int} {t u v:Tok} {n:Nat} {Q:List Value->Shared->Prop} (hh:A.handled=none) (R:IsRange s.heap r lo hi 1 t u v) (sm:Builtin.Range.small lo hi 1=true) (hn:Builtin.Range.rangeSize lo hi 1=n) (hz:n<=2 ^ 24)
  (q:∀ h' tk (acc:Array Value),(∀ b o,s.heap.get? b=some o->h'.get? b=some o)->ItemsOf (fun i v=>∃ t,v=.int (lo+i*1) t) acc n->Q acc.toList { s with heap:=h',toks:=tk }):wpAny (model prog w) A (collect (.ref r)) Q E s:=by
 unfold collect;refine zWU (wpAny_runValue (codeAny_builtin PySem.F.entry_proto_collect ?_));rw[Around.under_plainId PySem.F.plain_proto_collect _];refine zWU (m:=newList []) (zWx (zWW ⟨plainId_quiet PySem.F.plain_list_iadd _,codeAny_builtin PySem.F.entry_list_iadd ?_⟩));rw[Around.under_plainId PySem.F.plain_list_iadd _];have S0:(s.heap.push { cls:=.type "list", data:=.seq ([]:List Value).toArray }).get? s.heap.objs.size=some { cls:=.type "list", data:=.seq #[] 0 }:=zWe _ rfl
 have fin:∀ (h':Heap) (tk:Nat) (acc:Array Value) (k:Nat),(∀ b o,b≠s.heap.objs.size->(s.heap.push { cls:=.type "list", data:=.seq ([]:List Value).toArray }).get? b=some o->h'.get? b=some o) ->
   h'.get? s.heap.objs.size=some { cls:=.type "list", dict:=none,data:=.seq acc k,slots:=#[] }->ItemsOf (fun i v=>∃ t,v=.int (lo+i*1) t) acc n ->
   wpAny (model prog w) A (match Value.ref s.heap.objs.size with
    |Value.ref a=>do
     match (<- load a).data with
      |Data.seq xs _=>pure xs.toList
      |_=>unsupported "internal:collect"
    |_=>unsupported "internal:collect") Q E { s with heap:=h',toks:=tk }:=fun h' tk acc k kp e it=>by
  refine zWU (m:=load s.heap.objs.size) (wpAny_load e (zWW (q h' tk acc (fun b o m=>kp b o (zWp (zWf m)) (zWV _ m)) it)))
 refine zW0 (wpAny_extend_range (A:=A) (s:={ s with heap:=s.heap.push { cls:=.type "list", data:=.seq ([]:List Value).toArray } })
  (R:=fun r s'=>r=.ok (.ret (.ref s.heap.objs.size)) /\ ∃ h' tk acc k,s'={ s with heap:=h',toks:=tk }/\(∀ b o,b≠s.heap.objs.size->(s.heap.push { cls:=.type "list", data:=.seq ([]:List Value).toArray }).get? b=some o->h'.get? b=some o) /\
   h'.get? s.heap.objs.size=some { cls:=.type "list", dict:=none,data:=.seq acc k,slots:=#[] }/\ItemsOf (fun i v=>∃ t,v=.int (lo+i*1) t) acc n)
  hh (zWV _ R) sm hn hz s.heap.objs.size (.ref s.heap.objs.size) 0 S0 fun h' tk acc k kp e it=>⟨rfl,h',tk,acc,k,rfl,kp,e,it⟩) (fun f s' z=>?_) (fun e s' z=>?_)
 ·cases f with
  |done f=>
   obtain ⟨e,h',tk,acc,k,rfl,z1,z2,z3⟩:=z;cases e;exact fin h' tk acc k z1 z2 z3
  |again c'=>exact ⟨z.1,codeAny_mono z.2 fun r s'' z=>by obtain ⟨rfl,h',tk,acc,k,rfl,z1,z2,z3⟩:=z;exact fin h' tk acc k z1 z2 z3⟩
 ·exact absurd z.1 (by simp)
end
theorem zJl (r:Addr) (lo hi:Int) (t u v:Tok) (n:Nat) (sm:Builtin.Range.small lo hi 1=true) (hn:Builtin.Range.rangeSize lo hi 1=n) (hz:n<=2 ^ 24) :
  Meets (Builtin.«tuple.__new__» ⟨[.type "tuple", .ref r],[]⟩) (fun A R s=>A.handled=none/\IsRange s.heap r lo hi 1 t u v /\
   ∀ (h':Heap) (tk:Nat) (acc:Array Value),(∀ b o,s.heap.get? b=some o->h'.get? b=some o)->ItemsOf (fun i v=>∃ t,v=.int (lo+i*1) t) acc n->R (.ok (.ret (.ref h'.objs.size))) { s with heap:=h'.push { cls:=.type "tuple", data:=.seq acc },toks:=tk }) :=
 .of_wp fun prog w A R s h=>by
  obtain ⟨hp,g,d,tk,os⟩:=s;obtain ⟨hh,Ra,h⟩:=h;have h1:=sub_tuple_self;have h2:=init_tuple_lookup;have h3:=madeHere_tuple;have T:Shared.TypeIs ⟨hp,g,d,tk,os⟩ (.ref r) "range" := ⟨_,Ra,rfl⟩;wp_walk using wpAny_loadPart' Ra,wpAny_typeOf T,zQq (show A.in1.handled=none from hh) Ra sm hn hz;intro h' tk' acc kp it;refine zWU (m:=Builtin.Tuple.tupleExact acc.toList.toArray) ?_;unfold Builtin.Tuple.tupleExact;have sz:acc.toList.toArray.size<=sizeLine:=by rw[zWc,zXD,it.1,sizeLine_eq];omega
  refine zWx (zWW ⟨_,rfl,?_⟩) sz;have e:acc.toList.toArray=acc:=by simp
  rw[e];exact h h' tk' acc kp it
section
variable {X:Cx} {a e:Expr} {es:List Expr} {pos p p2 pos2:Pos} {f:FE}
theorem zLI:zB5 X (.type "range") (fun xs H Q=>∃ j,xs=[.int j] /\ ∀ l,H l=none->Q (.ref l) (upd H l (.rng 0 j))):=by
 intro zB s σ H xs us Q I r h;obtain ⟨j,rfl,q⟩:=h;obtain ⟨u,rfl,rx⟩:=zEc r;obtain ⟨t,rfl⟩:=rx;refine call_range_1 ⟨.ref s.heap.objs.size,_,I.laid (fun b o z=>zWV _ z) (zWa _) ?_,rfl,q _ (I.hok.fresh (zWa _))⟩;exact ⟨_,_,_,zWe _ rfl⟩
def upV (n:Nat):List V:=(List.range n).map fun (k:Nat)=>V.int k
theorem zLM (h:ItemsOf (fun i v=>∃ t,v=.int ((0:Int)+i*1) t) acc n):ze (upV n) acc.toList:=by
 obtain ⟨hz,hi⟩:=h;have:∀ (xs:List Value) (k:Nat),(∀ j v,xs[j]?=some v -> ∃ t,v=Value.int ((k+j:Nat):Int) t)->ze ((List.range' k xs.length).map fun (k:Nat)=>V.int k) xs:=by
  intro xs;induction xs with
  |nil=>intro k _;exact .nil
  |cons x xs ih=>
   intro k hk;rw[zW1,List.range'_succ,zWn];refine .cons ?_ (ih (k+1) fun j v e=>?_)
   ·obtain ⟨t,e⟩:=hk 0 x rfl;exact ⟨t,by simpa using e⟩
   ·obtain ⟨t,e'⟩:=hk (j+1) v (by simpa using e);exact ⟨t,by rw[e'];congr 2;omega⟩
 have q:=this acc.toList 0 (fun j v e=>by
  obtain ⟨t,e'⟩:=hi j v (by simpa using e);exact ⟨t,by rw[e'];congr 1;omega⟩)
 unfold upV;rw[List.range_eq_range'];rw[zXD,hz]at q;exact q
theorem zId (h0:0<=j) (h1:j<=16777216):Builtin.Range.small 0 j 1=true/\Builtin.Range.rangeSize 0 j 1=(j.toNat:Int):=by
 refine ⟨small_one (by omega) (by omega) (by omega) (by omega),?_⟩;rw[rangeSize_one];split <;> omega
def zVJ (mk:List V->HO):List V->Hp->VK->Prop:=fun xs H Q=>∃ r j,xs=[.ref r]/\H r=some (.rng 0 j)/\0<=j/\j<=16777216 /\ ∀ l,H l=none->Q (.ref l) (upd H l (mk (upV j.toNat)))
theorem zHO (n:Nat):(upV n).length=n:=by unfold upV;simp
theorem zOW (hc:X.calm=true):zB5 X (.type "tuple") (zVJ HO.tup):=by
 intro zB s σ H xs us Q I r h;obtain ⟨l,j,rfl,hr,h0,h1,q⟩:=h;obtain ⟨u,rfl,rx⟩:=zEc r;cases rx;obtain ⟨t,u,v,er⟩:=(show zAR X.prog X.w H s.heap l (.rng 0 j)from I.hok l _ hr);obtain ⟨sm,sz⟩:=zId h0 h1
 refine callType_new PySem.F.called_tuple (by decide) (PySem.F.typeCall_tuple_1 _) (PySem.F.newCall_tuple_1 _) (fun obj=>PySem.F.args_object_init_2 obj _) PySem.F.entry_tuple_new (zJl l 0 j t u v j.toNat sm sz (by omega))
  ⟨I.ok.hd hc,er,fun h' tk acc kp it=>⟨⟨_,zWe _ rfl,rfl⟩,?_⟩⟩
 have I1:Inv X zB σ H { s with heap:=h',toks:=tk }:=I.kept kp;refine ⟨.ref h'.objs.size,_,I1.laid (t':=tk) (fun b o z=>zWV _ z) (zWa _) ?_,rfl,q _ (I1.hok.fresh (zWa _))⟩;exact ⟨by rw[zHO,sizeLine_eq];omega,acc.toList,zLM it,by simpa using zCD.new h' acc⟩
theorem zOt (hc:X.calm=true):zB5 X (.type "list") (zVJ HO.lst):=by
 intro zB s σ H xs us Q I r h;obtain ⟨l,j,rfl,hr,h0,h1,q⟩:=h;obtain ⟨u,rfl,rx⟩:=zEc r;cases rx;obtain ⟨t,u,v,er⟩:=(show zAR X.prog X.w H s.heap l (.rng 0 j)from I.hok l _ hr);obtain ⟨sm,sz⟩:=zId h0 h1;refine call_list_range (I.ok.hd hc) er sm sz (by omega) fun h' tk acc k kp z it=>?_;refine ⟨.ref s.heap.objs.size,_,I.laid (t':=tk) kp (zWa _) (show zAR X.prog X.w _ h' _ (.lst (upV j.toNat))from ⟨by rw[zHO,sizeLine_eq];omega,acc.toList,k,zLM it,by simpa using z⟩),rfl,q _ (I.hok.fresh (zWa _))⟩
def upD (n:Nat):List D:=(List.range n).map fun (k:Nat)=>D.int k
theorem zNN (n:Nat):zQ L H (upD n) (upV n):=by
 have:∀ xs:List Nat,zQ L H (xs.map fun (k:Nat)=>D.int k) (xs.map fun (k:Nat)=>V.int k):=by
  intro xs;induction xs with
  |nil=>exact .nil
  |cons x xs ih=>exact .cons zAi ih
 exact this _
def zM5 (f:FE):FE:=fun σ M=>match f σ M with
 |some (.dat (.int j),M1)=>if 0<=j/\j<=16777216 then some (.dat (.tup (upD j.toNat)),M1) else none
 |_=>none
def zFd (f:FE):FE:=fun σ M=>match f σ M with
 |some (.dat (.int j),M1)=>if 0<=j/\j<=16777216 then some (.fl (upD j.toNat),M1) else none
 |_=>none
theorem zUC (hc:X.calm=true) (hg:Gl X "tuple") (hm:X.mg "tuple" = none) (hg2:Gl X "range") (hm2:X.mg "range" = none) (ha:QE X a f)
  (he:starEach [Expr.Call (.Name "range" p2) [a] [] pos2] X.env=(false,eval (Expr.Call (.Name "range" p2) [a] [] pos2) X.env)::starEach [] X.env:=by rfl) (hpl:(backTo pos (starEach [] X.env)).any (·.1)=false:=by rfl)
  (he2:starEach [a] X.env=(false,eval a X.env)::starEach [] X.env:=by rfl) (hpl2:(backTo pos2 (starEach [] X.env)).any (·.1)=false:=by rfl) :
  QE X (.Call (.Name "tuple" p) [.Call (.Name "range" p2) [a] [] pos2] [] pos) (zM5 f) :=
 .mk <| PE.imp (zC7 (zOW hc) hg hm (by rfl) (zCu (zC7 zLI hg2 hm2 boot_range (zCu ha.un zEq he2) (by decide) (by decide) he2 hpl2) zEq he) (by decide) (by decide) he hpl) fun τ H Q zz=>by
  obtain ⟨L,σ,M,d,M',c,rs,hf,q⟩:=zz;unfold zM5 at hf;split at hf
  ·rename_i j M1 e1;split at hf
   ·rename_i hb;cases hf;refine ⟨L,σ,M,_,_,c,rs,e1,fun L1 H1 v s1 c1 r1=>⟨j,by unfold zf Rep at r1;rw[r1],fun l hl=>⟨l,j,rfl,zw,hb.1,hb.2,fun k hk=>?_⟩⟩⟩;exact q L1 _ _ ((s1.trans (.upd hl)).trans (.upd hk)) ((c1.upd hl).upd hk) (Rep.newTup hk (zNN _))
   ·cases hf
  ·cases hf
theorem zTX (hc:X.calm=true) (hg:Gl X "list") (hm:X.mg "list" = none) (hg2:Gl X "range") (hm2:X.mg "range" = none) (ha:QE X a f)
  (he:starEach [Expr.Call (.Name "range" p2) [a] [] pos2] X.env=(false,eval (Expr.Call (.Name "range" p2) [a] [] pos2) X.env)::starEach [] X.env:=by rfl) (hpl:(backTo pos (starEach [] X.env)).any (·.1)=false:=by rfl)
  (he2:starEach [a] X.env=(false,eval a X.env)::starEach [] X.env:=by rfl) (hpl2:(backTo pos2 (starEach [] X.env)).any (·.1)=false:=by rfl) :
  QE X (.Call (.Name "list" p) [.Call (.Name "range" p2) [a] [] pos2] [] pos) (zFd f) :=
 .mk <| PE.imp (zC7 (zOt hc) hg hm (by rfl) (zCu (zC7 zLI hg2 hm2 boot_range (zCu ha.un zEq he2) (by decide) (by decide) he2 hpl2) zEq he) (by decide) (by decide) he hpl) fun τ H Q zz=>by
  obtain ⟨L,σ,M,d,M',c,rs,hf,q⟩:=zz;unfold zFd at hf;split at hf
  ·rename_i j M1 e1;split at hf
   ·rename_i hb;cases hf;refine ⟨L,σ,M,_,_,c,rs,e1,fun L1 H1 v s1 c1 r1=>⟨j,by unfold zf Rep at r1;rw[r1],fun l hl=>⟨l,j,rfl,zw,hb.1,hb.2,fun k hk=>?_⟩⟩⟩;have s2:Stp L H L1 (upd H1 l (.rng 0 j)):=s1.trans (.upd hl);exact q L1 _ _ (s2.trans (.upd hk)) ((c1.upd hl).upd hk) (zf.newLst s2 c (c1.upd hl) hk (zNN _))
   ·cases hf
  ·cases hf
end
theorem zRL {P:Program} {w:World} {K:PySem.W.Frag} {mg:Str->Option Value} {base:Heap} {k:Nat} {f:Addr} {fd:FuncData} {ps:List Str} {n:Nat}:FnOk P w K mg base CX0 k f fd ps (spF K n fun _ _=>none):=by
 have no:∀ vs H Q E,¬ spF K n (fun _ _=>none) vs H Q E:=fun vs H Q E ⟨_,_,_,_,_,_,_,_,h,_⟩=>by cases h
 exact ⟨fun vs H Q E h=>absurd h (no vs H Q E),fun A outer s H args us vs Q E _ _ _ _ h=>absurd h (no vs H Q E)⟩
def zFT:Expr->Bool
 |.Starred .. =>false
 |_=>true
theorem zN (h:zFT e=true):starEach (e::es) env=(false,eval e env)::starEach es env:=by
 cases e <;> first|rfl|cases h
theorem zDv (h:zFT e=true):starEach [e] env=[(false,eval e env)]:=zN h
theorem zG5 (h:zFT e=true) (h':zFT e'=true):starEach [e,e'] env=[(false,eval e env),(false,eval e' env)]:=by rw[zN h,zDv h']
theorem zBH:∀ {es:List Expr},es.all zFT=true->(backTo pos (starEach es env)).any (·.1)=false
 |[],_=>rfl
 |e::es,h=>by
  rw[List.all_cons,zW4]at h;rw[zN h.1];have:=zBH (pos:=pos) (env:=env) h.2;simpa [backTo] using this
theorem Cor.pushO {K:PySem.W.Frag} {L:List Addr} {M:List MO} {H:Hp} {p:Addr} {o:HO} {m:MO} (c:Cor K L M H) (h:H p=none) (new:zGr K (L++[p]) (L2.upd H p o) p m) :
  Cor K (L++[p]) (M++[m]) (L2.upd H p o)/\Stp L H (L++[p]) (L2.upd H p o):=by
 have hp:p∉L:=fun z=>by obtain ⟨o,e⟩:=c.tracked z;rw[h]at e;cases e
 have st:Stp L H (L++[p]) (L2.upd H p o):=by
  refine ⟨⟨[p],rfl⟩,fun a ha=>?_,fun a o e _=>?_,fun a o e=>?_,fun a o u e=>?_⟩
  ·rcases zWu.mp ha with z|z
   ·exact .inl z
   ·have:a=p:=by simpa using z
    subst this;exact .inr h
  all_goals (rw[zZ (zAI e h)];exact e)
 refine ⟨⟨by simp[c.len],?_,fun n a m e1 e2=>?_⟩,st⟩
 ·rw[zXi];exact ⟨c.nd,by simp,fun a ha b hb z=>by
   have:b=p:=by simpa using hb
   subst this;subst z;exact hp ha⟩
 ·by_cases hn:n<L.length
  ·rw[zWb hn]at e1;rw[zWb (by rw[<-c.len];exact hn)]at e2;exact (c.obj n a m e1 e2).stp st fun o e=>by rw[zZ (zAI e h)];exact e
  ·have hn':n=L.length:=by
    have:=(zWX.mp e1).1;rw[zWk]at this;simp at this;omega
   subst hn';simp at e1;rw[c.len]at e2;simp at e2;subst e1;subst e2;exact new
theorem Cor.put {K:PySem.W.Frag} {L:List Addr} {M:List MO} {H:Hp} {n:Nat} {p:Addr} {o o':HO} {m:MO} (c:Cor K L M H) (h1:L[n]?=some p) (ho:H p=some o) (ht:∀ xs,o≠.tup xs) (hf:∀ a u,o≠.frz a u)
  (new:Stp L H L (L2.upd H p o')->zGr K L (L2.upd H p o') p m):Cor K L (M.set n m) (L2.upd H p o')/\Stp L H L (L2.upd H p o'):=by
 have st:Stp L H L (L2.upd H p o'):=by
  refine ⟨⟨[],by simp⟩,fun a ha=> .inl ha,fun a o e ha=>?_,fun a xs e=>?_,fun a b u e=>?_⟩
  ·rw[zZ (show a≠p from fun z=>ha (by rw[z];exact zXL h1))];exact e
  ·rw[zZ (zHU e ho (fun z=>ht xs z.symm))];exact e
  ·rw[zZ (zHU e ho (fun z=>hf b u z.symm))];exact e
 refine ⟨⟨by simp[c.len],c.nd,fun k a m' e1 e2=>?_⟩,st⟩;rw[zX3]at e2;split at e2
 ·rename_i hk;subst hk;rw[h1]at e1;cases e1;split at e2
  ·cases e2;exact new st
  ·cases e2
 ·rename_i hk;have hne:a≠p:=fun z=>hk (by
   subst z;exact (List.getElem?_inj (zWX.mp h1).1 c.nd).mp (h1.trans e1.symm))
  exact (c.obj k a m' e1 e2).stp st fun o e=>by rw[zZ hne];exact e
section
variable {X:Cx} {a b e:Expr} {pos:Pos} {f g:FE}
def zMh:FE:=fun _ M=>some (.dat (.ref M.length),M++[.dict []])
def zJy:FE:=fun _ M=>some (.dat (.ref M.length),M++[.dicT []])
theorem zST:QE X (.Dict [] [] pos) zMh:=.mk <| PE.imp zP9 fun τ H Q ⟨L,σ,M,d,M',c,rs,hf,q⟩ p hp=>by
 unfold zMh at hf;cases hf;obtain ⟨c2,s2⟩:=c.pushO (m:=.dict []) hp ⟨[],zw,rfl⟩;refine q _ _ _ s2 c2 ?_;unfold zf Rep;exact ⟨p,rfl,by rw[<-c.len];simp⟩
theorem zSd:QE X (.Dict [] [] pos) zJy:=.mk <| PE.imp zQO fun τ H Q ⟨L,σ,M,d,M',c,rs,hf,q⟩ p hp=>by
 unfold zJy at hf;cases hf;obtain ⟨c2,s2⟩:=c.pushO (m:=.dicT []) hp ⟨[],zw,rfl⟩;refine q _ _ _ s2 c2 ?_;unfold zf Rep;exact ⟨p,rfl,by rw[<-c.len];simp⟩
theorem zGb (h:Rep L H d v) (e:zCM d=some k):v=kV k:=by
 cases d with
 |int i=>cases e;unfold Rep at h;exact h
 |str x=>cases e;unfold Rep at h;exact h
 |_=>cases e
def zJn (M:Mem):EV->Option (List D)
 |.fl xs=>some xs
 |.dat (.ref n)=>match M[n]? with
  |some (.lst xs)=>some xs
  |_=>none
 |_=>none
theorem zLw {K:PySem.W.Frag} {L:List Addr} {M:Mem} {H H0:Hp} {x:EV} {v:V} {xs:List D} (c:Cor K L M H) (r:zf H0 L H x v) (h:zJn M x=some xs):∃ a vs,v=.ref a/\H a=some (.lst vs)/\zQ L H xs vs:=by
 cases x with
 |fl ys=>
  cases h;obtain ⟨p,vs,rfl,_,e,_,r⟩:=r;exact ⟨p,vs,rfl,e,r⟩
 |dat d=>
  cases d with
  |ref n=>
   unfold zf Rep at r;obtain ⟨a,rfl,e⟩:=r;unfold zJn at h;dsimp only at h;split at h
   ·rename_i ys q;cases h;obtain ⟨vs,e1,r1⟩:=c.obj n a _ e q;exact ⟨a,vs,rfl,e1,r1⟩
   ·cases h
  |_=>cases h
def zGB:K2:=fun x y M=>match zJn M x,zJn M y with
 |some xs,some ys=>if xs.length+ys.length<=sizeLine then some (.fl (xs++ys),M) else none
 |_,_=>none
theorem zO9 {K:PySem.W.Frag}:zDA K zVo zGB:=by
 intro L M M' H H0 x y d v w Q c rx ry hk q;unfold zGB at hk;split at hk
 ·rename_i xs ys e1 e2;split at hk
  ·rename_i hz;cases hk;obtain ⟨l,vs,rfl,h1,r1⟩:=zLw c rx e1;obtain ⟨l2,ws,rfl,h2,r2⟩:=zLw c ry e2;refine ⟨l,l2,vs,ws,rfl,rfl,h1,h2,by rw[r1.length,r2.length];exact hz,fun p hp=>?_⟩;exact q L _ _ (.upd hp) (c.upd hp) (zf.newLst (.refl L H) c c hp (r1.app r2))
  ·cases hk
 ·cases hk
theorem zS4 (h1:QE X a f) (h2:QE X b g):QE X (.BinOp a .Add b pos) (fOp zGB f g):=zK9 zO9 zTa h1 h2
theorem zLv (h1:zJn M x=some xs) (h2:zJn M y=some ys) (hz:xs.length+ys.length<=100000) (q:P (.fl (xs++ys)) M):Ok (zGB x y M) P:=by
 refine ⟨_,_,?_,q⟩;unfold zGB;rw[h1,h2];dsimp only;rw[zWj (zWv hz (by decide))]
end
end L3
namespace LR
open PySem PySem.Spec PyProof.Rows
open Sem (wp)
open Sem (wp)
open AutoSeq1 (wpAny_loadPart')
open Sem (wp)
open AutoSeq1 (wpAny_loadPart')
end LR
namespace L3
open PySem PySem.Spec PyProof.Rows L2
section
variable {X:Cx} {a b e o:Expr} {pos p apos cpos:Pos} {f g:FE}
def zAj:List D->Option (List Int)
 |[]=>some []
 |.int i::r=>match zAj r with
  |some bs=>some (i::bs)
  |none=>none
 |_=>none
theorem zCb:∀ {ds:List D} {bs:List Int} {vs:List V},zAj ds=some bs->zQ L H ds vs->vs=bs.map V.int
 |[],bs,vs,e,r=>by cases e;unfold zQ at r;exact r
 |d::ds,bs,vs,e,r=>by
  unfold zQ at r;obtain ⟨v,r',rfl,r1,r2⟩:=r;cases d with
  |int k=>
   unfold zAj at e;cases q:zAj ds with
   |none=>rw[q]at e;cases e
   |some bs'=>
    rw[q]at e;cases e;unfold Rep at r1;rw[r1,zCb q r2];rfl
  |_=>cases e
theorem zCW:∀ xs:List Int,zAj (xs.map D.int)=some xs
 |[]=>rfl
 |x::r=>by rw[zWn];unfold zAj;rw[zCW r]
theorem zOC (xs:List Int):(xs.map V.int).all zFH=true:=by
 rw[zW5];intro x hx;obtain ⟨i,_,rfl⟩:=zWl.mp hx;rfl
theorem zRS (i:Int) (xs:List Int):inV (.int i) (xs.map V.int)=xs.any fun y=>decide (y=i):=by
 unfold inV;rw[List.any_map];congr 1
def kIn (neg:Bool):K2:=fun x y M=>match x with
 |.dat (.int i)=>match zAb M y with
  |some ds=>match zAj ds with
   |some xs=>some (.dat (.bl (if neg then !(xs.any fun y=>decide (y=i)) else xs.any fun y=>decide (y=i))),M)
   |none=>none
  |none=>none
 |_=>none
theorem zPI {K:PySem.W.Frag} {neg:Bool}:zDA K (rIn K neg) (kIn neg):=by
 intro L M M' H H0 x y d v w Q cc rx ry hk q;unfold kIn at hk;split at hk
 ·rename_i i;split at hk
  ·rename_i ds e1;split at hk
   ·rename_i xs e2;cases hk;have ev:v=.int i:=by unfold zf Rep at rx;exact rx
    obtain ⟨p,vs,rfl,hs,r⟩:=zGg cc ry e1;have:=zCb e2 r;subst this;refine ⟨p,_,rfl,hs,by rw[ev];rfl,zOC xs,?_⟩;rw[ev,zRS];exact q L H _ (.refl L H) cc (zCF (L:=L) (H:=H))
   ·cases hk
  ·cases hk
 ·cases hk
theorem zUz (h1:QE X a f) (h2:QE X b g) (hm:behindInMarks .In b=false:=by rfl):QT X (.Compare a [.In] [b] pos) (tst (fOp (kIn false) f g)):=zEK zPI zOh h1 h2 hm
theorem zQM (h1:QE X a f) (h2:QE X b g) (hm:behindInMarks .NotIn b=false:=by rfl):QT X (.Compare a [.NotIn] [b] pos) (tst (fOp (kIn true) f g)):=zEK zPI zJK h1 h2 hm
end
end L3
namespace L2
open PySem PySem.Spec PyProof.Rows
section
variable {prog:Program} {w:World} {A:Around} {E:Value->Shared->Prop} {R:Result->Shared->Prop} {s:Shared}
theorem zH0 (I:Nat->Shared->Prop)
  (turn:∀ n s,I n s->wpAny (model prog w) A (pyNext it) (fun r s₁=>match r with
   |none=>R (.ok .next) s₁
   |some v=>wpAny (model prog w) A (letOwnedTupleGo target it v) (fun _ s₁'=>wpAny (model prog w) A (assign target env v) (fun _ s₂=>
     wpAny (model prog w) A (forIn ifs true fun c r=>if r=true then do let ok <- isTrue c env (eval c env);pure (ForInStep.yield ok) else pure (ForInStep.yield r)) (fun ok s₃=>
      if ok=true then wpAny (model prog w) A (eval kx env) (fun kv s₄=>wpAny (model prog w) A (eval vx env) (fun vv s₅=>
       wpAny (model prog w) A (dictSet D kv vv) (fun _ s₆=>∃ m,m<n/\I m s₆) (fun _ _=>False) s₅) (fun _ _=>False) s₄) (fun _ _=>False) s₃
      else ∃ m,m<n/\I m s₃) (fun _ _=>False) s₂) (fun _ _=>False) s₁') (fun _ _=>False) s₁) (fun _ _=>False) s)
  (n:Nat) (h:I n s) :
  codeAny (model prog w) A (.compLoop (.DictComp kx vx [⟨target,iter,ifs,0⟩] scope pos) 0 it (.ref D) env) R s:=by
 refine codeAny_loop rfl I (fun n s hI=>?_) n h;show wpAny _ A ((compTurn (.DictComp kx vx [⟨target,iter,ifs,0⟩] scope pos) 0 it (.ref D) env).onRaise (fun x=>do noteFrame x env;theTreesLotGoes x)) _ _ s;refine wpAny_noted ?_;rw[compTurn_dict];refine zWU (zXS (zWU (zW0 (turn n s hI) (fun r s₁ h₁=>?_) fun _ _ h'=>h'.elim)));cases r with
 |none=>exact zWW h₁
 |some v=>
  refine zWU (zW0 h₁ (fun _ s₁' h₁'=>?_) fun _ _ h'=>h'.elim);refine zWU (zW0 h₁' (fun _ s₂ h₂=>zWU (zW0 h₂ (fun ok s₃ h₃=>?_) fun _ _ h'=>h'.elim)) fun _ _ h'=>h'.elim);cases ok with
  |false=>exact zWW ⟨rfl,h₃⟩
  |true=>
   exact zWU (zWU (zW0 h₃ (fun kv s₄ h₄=>zWU (zXN (zW0 h₄ (fun vv s₅ h₅=>zWU (zXS (zXN (zW0 h₅ (fun _ s₆ h₆=>zWW ⟨rfl,h₆⟩) fun _ _ h'=>h'.elim)))) fun _ _ h'=>h'.elim))) fun _ _ h'=>h'.elim))
theorem zKF (elt target iter:Expr) (ifs:List Expr) (scope:Scope) (pos:Pos) (it acc:Value) (env:Env) :
  compTurn (.SetComp elt [⟨target,iter,ifs,0⟩] scope pos) 0 it acc env=(do
   standAt iter.pos;match <- pyNext it with
   |none=>pure (.done .next)
   |some v=>
    letOwnedTupleGo target it v;assign target env v;let mut ok:=true
    for c in ifs do
     if ok then ok <- isTrue c env (eval c env)
    if ok then (do let v <- eval elt env;standAt elt.pos;let _ <- call (.builtin "set.add") [acc,v])
    again (.compLoop (.SetComp elt [⟨target,iter,ifs,0⟩] scope pos) 0 it acc env)):=by rfl
theorem zJs (I:Nat->Shared->Prop)
  (turn:∀ n s,I n s->wpAny (model prog w) A (pyNext it) (fun r s₁=>match r with
   |none=>R (.ok .next) s₁
   |some v=>wpAny (model prog w) A (letOwnedTupleGo target it v) (fun _ s₁'=>wpAny (model prog w) A (assign target env v) (fun _ s₂=>
     wpAny (model prog w) A (forIn ifs true fun c r=>if r=true then do let ok <- isTrue c env (eval c env);pure (ForInStep.yield ok) else pure (ForInStep.yield r)) (fun ok s₃=>
      if ok=true then wpAny (model prog w) A (eval elt env) (fun x s₄=>
       wpAny (model prog w) A (call (.builtin "set.add") [acc,x]) (fun _ s₅=>∃ m,m<n/\I m s₅) (fun _ _=>False) s₄) (fun _ _=>False) s₃
      else ∃ m,m<n/\I m s₃) (fun _ _=>False) s₂) (fun _ _=>False) s₁') (fun _ _=>False) s₁) (fun _ _=>False) s)
  (n:Nat) (h:I n s) :
  codeAny (model prog w) A (.compLoop (.SetComp elt [⟨target,iter,ifs,0⟩] scope pos) 0 it acc env) R s:=by
 refine codeAny_loop rfl I (fun n s hI=>?_) n h;show wpAny _ A ((compTurn (.SetComp elt [⟨target,iter,ifs,0⟩] scope pos) 0 it acc env).onRaise (fun x=>do noteFrame x env;theTreesLotGoes x)) _ _ s;refine wpAny_noted ?_;rw[zKF];refine zWU (zXS (zWU (zW0 (turn n s hI) (fun r s₁ h₁=>?_) fun _ _ h'=>h'.elim)));cases r with
 |none=>exact zWW h₁
 |some v=>
  refine zWU (zW0 h₁ (fun _ s₁' h₁'=>?_) fun _ _ h'=>h'.elim);refine zWU (zW0 h₁' (fun _ s₂ h₂=>zWU (zW0 h₂ (fun ok s₃ h₃=>?_) fun _ _ h'=>h'.elim)) fun _ _ h'=>h'.elim);cases ok with
  |false=>exact zWW ⟨rfl,h₃⟩
  |true=>
   exact zWU (zWU (zW0 h₃ (fun x s₄ h₄=>zWU (zXS (zWU (zW0 h₄ (fun _ s₅ h₅=>zWW (zWW ⟨rfl,h₅⟩)) fun _ _ h'=>h'.elim)))) fun _ _ h'=>h'.elim))
end
end L2
namespace LR
open PySem PySem.Spec PyProof.Rows
open Sem (wp)
end LR
namespace L3
open PySem PySem.Spec PyProof.Rows L2
end L3
namespace ST
open PySem
abbrev Up (xs:Array Nat):Prop:=xs.toList.Pairwise (· < ·)
theorem Up.get (h:Up xs) (hik:i<k) (hk:k<xs.size):xs[i]'(by omega)<xs[k]:=by
 have:=List.pairwise_iff_getElem.mp h i k (by simpa using (show i<xs.size by omega)) (by simpa using hk) hik;simpa using this
theorem zJZ (h:Up xs) (j:Nat):∀ (fuel lo hi:Nat),lo<=hi->hi<=xs.size->hi-lo<=fuel->(∀ i (hi':i<xs.size),i<lo->xs[i]<j)->(∀ i (hi':i<xs.size),hi<=i->j<=xs[i]) ->
  (SetTable.below.go xs j fuel lo hi<=xs.size)/\(∀ i (hi':i<xs.size),i<SetTable.below.go xs j fuel lo hi->xs[i]<j)/\(∀ i (hi':i<xs.size),SetTable.below.go xs j fuel lo hi<=i->j<=xs[i])
 |0,lo,hi,h1,h2,h3,a,b=>by
  have:lo=hi:=by omega
  subst this;unfold SetTable.below.go;exact ⟨h2,a,b⟩
 |fuel+1,lo,hi,h1,h2,h3,a,b=>by
  unfold SetTable.below.go;by_cases hl:lo<hi
  ·rw[zWj hl];dsimp only;have hm:(lo+hi) / 2<xs.size:=by omega
   have eg:xs.getD ((lo+hi) / 2) j=xs[(lo+hi) / 2]:=by simp[Array.getD,hm]
   rw[eg];by_cases hc:xs[(lo+hi) / 2]<j
   ·rw[zWj hc];refine zJZ h j fuel _ _ (by omega) h2 (by omega) (fun i hi' hlt=>?_) b;rcases zXq i ((lo+hi) / 2)with z|z
    ·exact Nat.lt_trans (h.get z hm) hc
    ·have:i=(lo+hi) / 2:=by omega
     subst this;exact hc
   ·rw[zWm hc];refine zJZ h j fuel _ _ (by omega) (by omega) (by omega) a (fun i hi' hge=>?_);rcases zXq ((lo+hi) / 2) i with z|z
    ·have:=h.get z hi';omega
    ·have:i=(lo+hi) / 2:=by omega
     subst this;omega
  ·rw[zWm hl];have:lo=hi:=by omega
   subst this;exact ⟨h2,a,b⟩
theorem zDU (h:Up xs) (j:Nat):SetTable.below xs j<=xs.size/\(∀ i (hi':i<xs.size),i<SetTable.below xs j->xs[i]<j)/\(∀ i (hi':i<xs.size),SetTable.below xs j<=i->j<=xs[i]):=by
 unfold SetTable.below;exact zJZ h j xs.size 0 xs.size (zXG _) (zWa _) (by omega) (fun i _ z=>by omega) (fun i hi' z=>by omega)
theorem zL2 (h:Up xs):SetTable.below xs 0=0:=by
 obtain ⟨a,b,c⟩:=zDU h 0;rcases Nat.eq_zero_or_pos (SetTable.below xs 0)with z|z
 ·exact z
 ·have:=b 0 (by omega) z;omega
theorem zLx (h:Up xs) (hk:k<xs.size):SetTable.below xs (xs[k]+1)=k+1:=by
 obtain ⟨a,b,c⟩:=zDU h (xs[k]+1);rcases Nat.lt_trichotomy (SetTable.below xs (xs[k]+1)) (k+1)with z|z|z
 ·have:=c k hk (by omega);omega
 ·exact z
 ·have h1:k+1<xs.size:=by omega
  have:=b (k+1) h1 z;have:=h.get (show k<k+1 by omega) h1;omega
theorem zGZ {α:Type} (xs:Array α) (p:Nat) (x:α):(SetTable.insertAt xs p x).toList=xs.toList.take p++x::xs.toList.drop p:=by
  unfold SetTable.insertAt;simp;have:xs.toList.length<=xs.size:=by simp
  rw[List.take_of_length_le (by simp)]
theorem zON (h : Up xs) (hj : j ∉ xs.toList) : Up (SetTable.insertAt xs (SetTable.below xs j) j) := by
  obtain ⟨a, b, c⟩ := zDU h j;unfold Up;rw [zGZ];rw [List.pairwise_append];have hT : ∀ x ∈ xs.toList.take (SetTable.below xs j), x < j := fun x hx => by
    obtain ⟨i,hi,e⟩:=List.getElem_of_mem hx;rw[List.getElem_take]at e;rw[zXs]at hi
    have h1 : i < xs.size := by have : xs.toList.length = xs.size := by simp
                                omega
    have:=b i h1 (by omega);rw[<-e];simpa using this
  have hD : ∀ x ∈ xs.toList.drop (SetTable.below xs j), j < x := fun x hx => by
    obtain ⟨i,hi,e⟩:=List.getElem_of_mem hx;rw[List.getElem_drop]at e;rw[List.length_drop]at hi
    have h1 : SetTable.below xs j + i < xs.size := by have : xs.toList.length = xs.size := by simp
                                                      omega
    have h2:=c _ h1 (by omega);have h3:x≠j:=fun z=>hj (z▸List.mem_of_mem_drop hx);have e':xs[SetTable.below xs j+i]=x:=by simpa using e
    omega
  refine ⟨h.sublist (List.take_sublist _ _),zYe.mpr ⟨hD,h.sublist (List.drop_sublist _ _)⟩,fun x hx y hy=>?_⟩;rcases zWg.mp hy with z|z
  ·rw[z];exact hT x hx
  ·exact Nat.lt_trans (hT x hx) (hD y z)
theorem zIS (j:Nat):SetTable.has #[] j=false:=by
 unfold SetTable.has;simp
theorem zMs {t:SetTable} (h:Up t.place) (he:t.slot j=.empty):j∉t.place.toList:=fun hm=>by
 obtain ⟨a,b,c⟩:=zDU h j;obtain ⟨k,hk,e⟩:=List.getElem_of_mem hm;have hk':k<t.place.size:=by simpa using hk
 have e':t.place[k]=j:=by simpa using e
 have eb:SetTable.below t.place j=k:=by
  rcases Nat.lt_trichotomy (SetTable.below t.place j) k with z|z|z
  ·have h1:SetTable.below t.place j<t.place.size:=by omega
   have:=c _ h1 (zWa _);have:=h.get z hk';omega
  ·exact z
  ·have:=b k hk' z;omega
 unfold SetTable.slot at he;rw[eb,zWj (by simp[hk',e'])]at he;cases he
theorem zKs (hd:t.dummies = #[]):∀ (fuel:Nat) (p:SetTable.Probe) {j:Nat} {d:Option Nat},p.dummy=none->SetTable.probe.go t hashAt h fuel p=some (.empty j d)->d=none/\t.slot j=.empty
 |0,_,_,_,_,e=>by unfold SetTable.probe.go at e;cases e
 |fuel+1,p,j,d,hp,e=>by
  unfold SetTable.probe.go at e;split at e
  ·rename_i hs;cases e;exact ⟨hp,hs⟩
  ·rename_i hs;unfold SetTable.slot at hs;dsimp only at hs;rw[hd,zIS]at hs;split at hs <;> first|cases hs|simp at hs
  ·split at e
   ·cases e
   ·refine zKs hd fuel _ ?_ e;unfold SetTable.advance;split <;> simp[hp]
theorem zOd {t:SetTable} (hu:Up t.place) (hd:t.dummies = #[]) (e:t.freeSlot h=some (j,b)):b=false/\j∉t.place.toList:=by
 unfold SetTable.freeSlot at e;split at e
 ·rename_i j' d hp;unfold SetTable.probe at hp;obtain ⟨h1,h2⟩:=zKs hd _ _ (by rfl) hp;subst h1;simp at e;obtain ⟨rfl,rfl⟩:=e;exact ⟨rfl,zMs hu h2⟩
 ·cases e
structure TabOk (w:World) (t:SetTable):Prop where
 led:t.led = !w.params.followText "set-order"
 up:Up t.place
 nod:t.dummies = #[]
theorem zPz (n:Nat):Up (Array.range n):=by
 unfold Up;rw[Array.toList_range];exact List.pairwise_lt_range
theorem TabOk.standIn (h:TabOk w t) (n:Nat):TabOk w (t.standIn n):=⟨h.led,zPz n,rfl⟩
theorem TabOk.orStandIn (h:TabOk w t) (n:Nat):TabOk w (t.orStandIn n):=by
 unfold SetTable.orStandIn;split
 ·exact h
 ·exact h.standIn n
theorem TabOk.put (h:TabOk w t) (hj:j∉t.place.toList):TabOk w (t.put j).1:=by
 unfold SetTable.put;refine ⟨h.led,zON h.up hj,?_⟩;rw[h.nod,zIS];rfl
theorem TabOk.layNew (h:TabOk w t) (es:Array (Int × Value)) (hh:Int) (x:Value):TabOk w (layNew t es hh x).2.1:=by
 unfold PySem.layNew;split
 ·rename_i j b e;exact (h.put (zOd h.up h.nod e).2).orStandIn _
 ·exact h.standIn _
theorem TabOk.relaid (h:TabOk w t) (e:t.relaid hs wanted=some (t',order)):TabOk w t':=by
 unfold SetTable.relaid SetTable.laid at e;cases q:SetTable.layClean (SetTable.sizeAbove wanted-1) hs with
 |none=>rw[q]at e;cases e
 |some owner=>
  rw[q]at e;simp only[Option.bind_eq_bind,Option.bind_some,Option.pure_def,Option.some.injEq,Prod.mk.injEq]at e;obtain ⟨rfl,_⟩:=e;refine ⟨h.led,?_,rfl⟩;unfold Up;rw[List.pairwise_map,List.pairwise_filterMap];refine List.pairwise_lt_range.imp fun {a b} hab x hx y hy=>?_;cases o1:owner.getD a none with
  |none=>rw[o1]at hx;cases hx
  |some u=>
   cases o2:owner.getD b none with
   |none=>rw[o2]at hy;cases hy
   |some v=>
    rw[o1]at hx;rw[o2]at hy;cases hx;cases hy;exact hab
theorem TabOk.relayAll (h:TabOk w t) (es:Array (Int × Value)) (wanted:Nat):TabOk w (relayAll t es wanted).2.1:=by
 unfold PySem.relayAll;split
 ·rename_i t' order e;dsimp only;split
  ·exact h.relaid e
  ·exact h.standIn _
 ·exact h.standIn _
theorem TabOk.plain (h:TabOk w t) (b:Bool):TabOk w { t with plain:=b }:=⟨h.led,h.up,h.nod⟩
theorem TabOk.fresh:TabOk w (SetTable.fresh 0 0 (!w.params.followText "set-order")):=⟨rfl,List.Pairwise.nil,rfl⟩
open Sem (wp)
set_option genInjectivity true in
inductive F2 {α β:Type} (R:α->β->Prop):List α->List β->Prop
 |nil:F2 R [] []
 |cons {x y xs ys}:R x y->F2 R xs ys->F2 R (x::xs) (y::ys)
section
variable {prog:Program} {w:World} {K:Type} [DecidableEq K]
def zUH (knd:KeyKind prog w K) (e:Int × Value) (k:K):Prop:=(knd.is k e.2=true/\e.1=knd.hash k)/\e.2.scannable=true
structure SetK (knd:KeyKind prog w K) (o:Obj) (es:Array (Int × Value)) (ep:Nat) (t:SetTable) (ks:List K):Prop where
 ex:o.ExactSet
 data:o.data=.set es ep t
 tab:TabOk w t
 fits:t.fits es.size=true
 bound:es.size<scanBound
 ent:∃ ks',ks'.Perm ks/\F2 (zUH knd) es.toList ks'
def ins (ks:List K) (k:K):List K:=if k∈ks then ks else ks++[k]
variable {knd:KeyKind prog w K} {o:Obj} {es:Array (Int × Value)} {ep:Nat} {t:SetTable} {ks:List K}
theorem zDr {α β:Type} {R:α->β->Prop}:∀ {xs:List α} {ys:List β},F2 R xs ys->xs.length=ys.length
 |_,_,.nil=>rfl
 |_,_,.cons _ h=>by simp[zDr h]
theorem zDq {α β:Type} {R:α->β->Prop}:∀ {xs:List α} {ys:List β},F2 R xs ys -> ∀ x∈xs,∃ y∈ys,R x y
 |_,_,.nil,x,hx=>by cases hx
 |_,_,.cons h r,x,hx=>by
  rcases zWg.mp hx with z|z
  ·subst z;exact ⟨_,zWi,h⟩
  ·obtain ⟨y,hy,q⟩:=zDq r x z;exact ⟨y,zWh _ hy,q⟩
theorem zFD {α β:Type} {R:α->β->Prop}:∀ {xs:List α} {ys:List β},F2 R xs ys -> ∀ y∈ys,∃ x∈xs,R x y
 |_,_,.nil,x,hx=>by cases hx
 |_,_,.cons h r,x,hx=>by
  rcases zWg.mp hx with z|z
  ·subst z;exact ⟨_,zWi,h⟩
  ·obtain ⟨y,hy,q⟩:=zFD r x z;exact ⟨y,zWh _ hy,q⟩
theorem zEC {α β:Type} {R:α->β->Prop}:∀ {xs:List α} {ys:List β} {us:List α} {vs:List β},F2 R xs ys->F2 R us vs->F2 R (xs++us) (ys++vs)
 |_,_,_,_,.nil,h=>h
 |_,_,_,_,.cons h r,q=> .cons h (zEC r q)
theorem zFJ {α β:Type} {R:α->β->Prop} {xs xs':List α} (p:xs'.Perm xs):∀ {ys:List β},F2 R xs ys -> ∃ ys',ys'.Perm ys/\F2 R xs' ys':=by
 have p':=p.symm;clear p;induction p' with
 |nil=>intro ys h;exact ⟨ys,.refl _,h⟩
 |cons x _ ih=>
  intro ys h;cases h with
  |cons h r=>
   obtain ⟨ys',q1,q2⟩:=ih r;exact ⟨_,q1.cons _,.cons h q2⟩
 |swap x y l=>
  intro ys h;cases h with
  |cons h r=>
   cases r with
   |cons h2 r=>
    exact ⟨_,List.Perm.swap _ _ _,.cons h2 (.cons h r)⟩
 |trans _ _ ih1 ih2=>
  intro ys h;obtain ⟨ys',q1,q2⟩:=ih1 h;obtain ⟨ys'',r1,r2⟩:=ih2 q2;exact ⟨ys'',r1.trans q1,r2⟩
theorem SetK.size (h:SetK knd o es ep t ks):es.size=ks.length:=by
 obtain ⟨ks',p,f⟩:=h.ent;rw[<-p.length_eq,<-zDr f,zXD]
theorem SetK.elems (h:SetK knd o es ep t ks):ElemsOf knd es.toList:=fun e he=>by
 obtain ⟨ks',p,f⟩:=h.ent;obtain ⟨k,_,q⟩:=zDq f e he;exact ⟨⟨k,q.1⟩,q.2⟩
theorem SetK.mem (h:SetK knd o es ep t ks) (k:K):k∈ks ↔ ∃ e∈es.toList,knd.is k e.2=true:=by
 obtain ⟨ks',p,f⟩:=h.ent;rw[<-p.mem_iff];constructor
 ·intro hk;obtain ⟨e,he,q⟩:=zFD f k hk;exact ⟨e,he,q.1.1⟩
 ·rintro ⟨e,he,q⟩;obtain ⟨k',hk',q'⟩:=zDq f e he;rw[knd.inj e.2 k k' q q'.1.1];exact hk'
variable {A:Around} {E:Value->Shared->Prop} {s:Shared} {a:Addr} {k:K} {x:Value}
theorem SetK.typeIs (h:SetK knd o es ep t ks) (ho:s.heap.get? a=some o):s.TypeIs (.ref a) "set" := ⟨o,ho,h.ex.1⟩
theorem zI0 {h:Heap} (ho:h.get? a=some o) (hd:o.data=.set es ep t) :
  (h.update a (Obj.putSet es' t')).get? a=some { o with data:=.set es' (ep+1) t' }:=by
 have:=zXH (Obj.putSet es' t') ho (by rw[putSet_of es' t' hd];rfl);rw[putSet_of es' t' hd]at this;exact this
theorem zGI {Q:Bool->Shared->Prop} (hkey:knd.is k x=true) (hsc:x.scannable=true) (ho:s.heap.get? a=some o) (hS:SetK knd o es ep t ks) (hroom:ks.length+1<scanBound)
  (h:∀ h' o' es' ep' t' b,Heap.SameBut a s.heap h'->h'.get? a=some o'->SetK knd o' es' ep' t' (ins ks k)->Q b { s with heap:=h' }) :
  wpAny (model prog w) A (setAddHashed a x (knd.hash k)) Q E s:=by
 have hd:=hS.data;have hf:=hS.fits;have hel:=hS.elems;have hb:=hS.bound;have hb1:es.size+1<scanBound:=by rw[hS.size];exact hroom
 unfold setAddHashed setAddHashedIn;refine zXN (zWU (wpAny_setState_of ho hd hf ?_));dsimp only;rw[byScan_of hsc hb hel];simp only[↓reduceIte];unfold setAddByScan;refine zWU ?_;refine zWU (zXr ?_);refine zWU (wpAny_setScan_of hkey ho hd hf hel ?_);cases hr:List.findIdx? (fun e=>knd.is k e.2) es.toList with
 |some j=>
  obtain ⟨hj,hpj,_⟩:=List.findIdx?_eq_some_iff_getElem.mp hr;have hSk:k∈ks:=(hS.mem k).mpr ⟨es.toList[j],zW2 hj,hpj⟩;refine zWW (zWW ?_);have e:s={ s with heap:=s.heap }:=by cases s;rfl
  rw[e];refine h s.heap o es ep t _ (Heap.SameBut.refl a s.heap) ho ?_;unfold ins;rw[zWj hSk];exact hS
 |none=>
  have hSk:k∉ks:=fun hk=>by
   obtain ⟨e,he,hp⟩:=(hS.mem k).mp hk;have:=List.findIdx?_eq_none_iff.mp hr e he;rw[hp]at this;exact Bool.noConfusion this
  have hgw:∀ (b:Bool) {s₁:Shared} {Q':Unit->Shared->Prop},Q' () s₁->wpAny (model prog w) A (match b with|true=>rule "set.scan.the-table-gave-way" |false=>pure ()) Q' E s₁ :=
   fun b s₁ Q' hq=>by cases b <;> first|exact zWW hq|exact zXr hq
  have hperm:=layNew_perm t es (knd.hash k) x;have hfits:=layNew_fits t es (knd.hash k) x;have htab:=hS.tab.layNew es (knd.hash k) x;generalize hL:layNew t es (knd.hash k) x=L at hperm hfits htab ⊢;obtain ⟨es1,t1,wasDummy,gave⟩:=L;rw[Array.toList_push]at hperm;have hb1':es1.size<scanBound:=by rw[<-zXD,hperm.length_eq,zWk,zXD];simpa using hb1
  obtain ⟨ks',p,f⟩:=hS.ent;have f1:F2 (zUH knd) (es.toList++[(knd.hash k,x)]) (ks'++[k]):=zEC f (.cons ⟨⟨hkey,rfl⟩,hsc⟩ .nil);obtain ⟨ks1,p1,f2⟩:=zFJ hperm f1;have pI:ks1.Perm (ins ks k):=by
   unfold ins;rw[zWm hSk];exact p1.trans (p.append_right _)
  refine zWU (hgw _ ?_)
  have tail:∀ t2:SetTable,TabOk w t2->t2.fits es1.size=true->wpAny (model prog w) A (do
    storeSet a es1 t2
    if (!wasDummy&&t2.tooFull)=true then do
      (match (relayAll t2 es1 (SetTable.grown es1.size)).2.2 with|true=>rule "set.scan.the-table-gave-way" |false=>pure ())
      storeSet a (relayAll t2 es1 (SetTable.grown es1.size)).1 (relayAll t2 es1 (SetTable.grown es1.size)).2.1;pure (some true)
     else pure (some true)) (fun r s'=>wpAny (model prog w) A (match r with|some added=>pure added|none=>setAddHashedIn a x (knd.hash k) 99999) Q E s') E s:=by
   intro t2 T2 F2;refine zWU (wpAny_storeSet_of ho hd ?_ (fits_of_scanBound hb1'));have g1:=zI0 (es':=es1) (t':=t2) ho hd;have sb1:=zXX s.heap a (Obj.putSet es1 t2);have S1:SetK knd { o with data:=.set es1 (ep+1) t2 } es1 (ep+1) t2 (ins ks k):=⟨hS.ex,rfl,T2,F2,hb1',ks1,pI,f2⟩;split
   ·have hp:=relayAll_perm t2 es1 (SetTable.grown es1.size);have hfr:=relayAll_fits t2 es1 (SetTable.grown es1.size);have htr:=T2.relayAll es1 (SetTable.grown es1.size);generalize hRl:relayAll t2 es1 (SetTable.grown es1.size)=Rl at hp hfr htr ⊢;obtain ⟨es2,t3,gave2⟩:=Rl;have hsz:es2.size=es1.size:=by rw[<-zXD,hp.length_eq,zXD]
    have hb2:es2.size<scanBound:=by rw[hsz];exact hb1'
    obtain ⟨ks2,p2,f3⟩:=zFJ hp f2;refine zWU (hgw _ ?_);refine zWU (wpAny_storeSet_of g1 rfl ?_ (fits_of_scanBound hb2));have g2:=zI0 (es':=es2) (t':=t3) g1 rfl;exact zWW (zWW (h _ _ _ _ _ _ (sb1.trans (zXX _ a _)) g2 ⟨hS.ex,rfl,htr,hfr,hb2,ks2,p2.trans pI,f3⟩))
   ·exact zWW (zWW (h _ _ _ _ _ _ sb1 g1 S1))
  split
  ·refine zWU ?_;rw[hashByValue_scannable 8 hsc];refine zWW ?_;refine tail _ ?_ ?_
   ·split
    ·exact htab
    ·exact htab.plain _
   ·split
    ·exact hfits
    ·exact SetTable.fits_plain_off hfits
  ·refine zWU (zWW ?_);simp only[↓reduceIte];exact tail _ htab hfits
theorem zQP (hkey:knd.is k x=true) (hsc:x.scannable=true) (ho:s.heap.get? a=some o) (hS:SetK knd o es ep t ks) (hroom:ks.length+1<scanBound)
  (h:∀ h' o' es' ep' t',Heap.SameBut a s.heap h'->h'.get? a=some o'->SetK knd o' es' ep' t' (ins ks k)->Q .none { s with heap:=h',toks:=s.toks+1 }) :
  wpAny (model prog w) A (call (.builtin "set.add") [.ref a,x]) Q E s:=by
 refine zW7 F.slot_set_add (hS.typeIs ho) F.entry_set_add ?_ (F.args_set_add_2 _ _);unfold Builtin.«set.add» Builtin.Frozenset.oneOther;simp only[List.isEmpty_nil,bind_assoc];unfold Builtin.Frozenset.addrOf setAdd;refine zWU (zWW ?_);try dsimp only
 refine zWU (zWW ?_);try dsimp only
 refine zWU ?_;refine zXN ?_;refine zWU (knd.pyHash hkey ?_);refine zGI (s:={ s with toks:=s.toks+1 }) hkey hsc ho hS hroom fun h' o' es' ep' t' b hsb ho' hS'=>?_;exact zWW ⟨_,rfl,h h' o' es' ep' t' hsb ho' hS'⟩
def zCC (w:World):Obj:={ cls:=.type "set", dict:=none,data:=.set #[] 0 (.fresh 0 0 (!w.params.followText "set-order")) }
theorem SetK.fresh:SetK knd (zCC w) #[] 0 (.fresh 0 0 (!w.params.followText "set-order")) []:=⟨⟨rfl,rfl,rfl⟩,rfl,.fresh,by rfl,by decide,[],.refl _,.nil⟩
theorem zN3 (h:Q (.ref s.heap.objs.size) { s with heap:=s.heap.push (zCC w) }) :
  wpAny (model prog w) A (newSet (.type "set")) Q E s:=by
 unfold newSet setsByText;refine zWU (zWU (wpAny_askSetting (zWW ?_)));simp only[newObj];exact zWU (wpAny_alloc (zWW h))
end
open PySem.Spec PyProof.Rows
open Sem (wp)
theorem zKU:Manifest.owners.lookup (String.ofList ['r','o','t','a','r','e','t','i','_','t','e','s'].reverse)=some Manifest.sig_set_iterator:=by kernel_rfl
theorem zAL:Slot "set_iterator" "__next__" "set_iterator.__next__" := .of (owner := "set_iterator") (n := "__next__") (by rw[typeLookup_type,builtinLookup_eq_fast];kernel_rfl) (by decide +kernel) (by decide +kernel) (by decide +kernel) (by first|exact .inl (by decide +kernel)|exact .inr (by decide +kernel)) (by rw[isSubtype_type];kernel_rfl)
theorem zFV:Slot "set_iterator" "__iter__" "set_iterator.__iter__" := .of (owner := "set_iterator") (n := "__iter__") (by rw[typeLookup_type,builtinLookup_eq_fast];kernel_rfl) (by decide +kernel) (by decide +kernel) (by decide +kernel) (by first|exact .inl (by decide +kernel)|exact .inr (by decide +kernel)) (by rw[isSubtype_type];kernel_rfl)
theorem zCJ (a:Value):argsOk "set_iterator.__next__" ⟨[a],[]⟩:=by
 unfold argsOk;rw[signature?_of (id := "set_iterator.__next__") (n:=['_','_','t','x','e','n','_','_']) (o:=['r','o','t','a','r','e','t','i','_','t','e','s']) (by kernel_rfl) zKU];kernel_rfl
theorem zI8 (a:Value):argsOk "set_iterator.__iter__" ⟨[a],[]⟩:=by
 unfold argsOk;rw[signature?_of (id := "set_iterator.__iter__") (n:=['_','_','r','e','t','i','_','_']) (o:=['r','o','t','a','r','e','t','i','_','t','e','s']) (by kernel_rfl) zKU];kernel_rfl
theorem zB1:entryFor table "set_iterator.__next__" = some Builtin.«set_iterator.__next__»:=entryFor_of_tree (by kernel_rfl)
theorem zHx:entryFor table "set_iterator.__iter__" = some Builtin.«dict_keyiterator.__iter__» :=
 entryFor_alias (id' := "dict_keyiterator.__iter__") (by kernel_rfl) (by first|rfl|decide +kernel|(unfold String.splitOn;simp +decide [String.splitOnAux])) (by decide +kernel) (by kernel_rfl)
theorem zHT:entryFor table "set.__iter__" = some Builtin.«frozenset.__iter__» :=
 entryFor_alias (id' := "frozenset.__iter__") (by kernel_rfl) rfl (by decide +kernel) (by kernel_rfl)
def zBQ (f:Value) (i:Nat) (a:Addr) (n ep:Nat):Obj:={ cls:=.type "set_iterator", data:=.fields #[f,rawInt i,.ref a,rawInt n,rawInt ep] }
theorem zEv {α:Type}:∀ {l:List α} {i:Nat} (h:i<l.length),(l[i]::l.eraseIdx i).Perm l
 |[],i,h=>by simp at h
 |x::l,0,h=>by simp
 |x::l,i+1,h=>by
  have:=zEv (l:=l) (i:=i) (by simpa using h);rw[List.getElem_cons_succ,List.eraseIdx_cons_succ];exact (List.Perm.swap _ _ _).trans (this.cons x)
theorem zIz {α:Type} {l:List α} (h:i<l.length) (e:n+1=l.length):n=(l.eraseIdx i).length:=by
 rw[List.length_eraseIdx,zWj h];omega
theorem zI2 {α:Type} (next:Nat->Nat):∀ (fuel k:Nat) (left:List α) (out:Array α),fuel=left.length->(pickOrder.go next fuel k left out).toList.Perm (out.toList++left)
 |0,k,left,out,h=>by
  have:left=[]:=List.length_eq_zero_iff.mp h.symm;subst this;unfold pickOrder.go;simp
 |fuel+1,k,left,out,h=>by
  unfold pickOrder.go;have hl:0<left.length:=by omega
  have hm:next k % left.length<left.length:=Nat.mod_lt _ hl
  rw[zWY hm];refine (zI2 next fuel (k+1) _ _ (zIz hm h)).trans ?_;rw[Array.toList_push,zXa];exact (zEv hm).append_left _
theorem zDx {α:Type} (next:Nat->Nat) (xs:Array α):(pickOrder next xs).toList.Perm xs.toList:=by
 unfold pickOrder;simpa using zI2 next xs.size 0 xs.toList #[] (by simp)
section
variable {prog:Program} {w:World} {A:Around} {E:Value->Shared->Prop} {s:Shared}
theorem zJj (h0:n≠0) (h:∀ r d,r<n->Q r { s with drawn:=d }):wpAny (model prog w) A (choose src n) Q E s :=
 fun Γ p hΓ=>⟨h0,h _ _ (Nat.mod_lt _ (by omega))⟩
theorem zDl {α:Type}:∀ (n:Nat) (xs:List α) {s:Shared} {Q:List α->Shared->Prop},n=xs.length->(∀ ys d,ys.Perm xs->Q ys { s with drawn:=d })->wpAny (model prog w) A (drawOrder n xs) Q E s
 |0,xs,s,Q,h,q=>by
  have:xs=[]:=List.length_eq_zero_iff.mp h.symm;subst this;have e:s={ s with drawn:=s.drawn }:=by cases s;rfl
  rw[e];exact zWW (q [] s.drawn (.refl _))
 |n+1,[],s,Q,h,q=>by cases h
 |n+1,x::xs,s,Q,h,q=>by
  unfold drawOrder;refine zWU (zJj (by simp) fun r d hr=>?_);rw[zWY hr];refine zWU (zDl n _ (zIz hr h) fun ys d' hp=>zWW ?_);exact q _ d' ((hp.cons _).trans (zEv hr))
variable {K:Type} [DecidableEq K] {knd:KeyKind prog w K} {o:Obj} {es:Array (Int × Value)} {ep:Nat} {t:SetTable} {ks:List K} {a I:Addr}
theorem zHk (h:s.heap.get? I=some (zBQ f i a n ep)):s.TypeIs (.ref I) "set_iterator" := ⟨_,h,rfl⟩
theorem zNF (hI:s.heap.get? I=some (zBQ f i a n ep)) (h:Q (.ref I) s):wpAny (model prog w) A (pyIter (.ref I)) Q E s:=by
 refine wpAny_pyIter_slot (zHk hI) zFV (zW7 zFV (zHk hI) zHx ?_ (zI8 _));exact zWW ⟨_,rfl, "set_iterator", _,zHk hI,zAL.lookup,h⟩
structure Nexts (prog:Program) (w:World) (o:Obj) (a:Addr) (ep:Nat) (n:Nat) (at_:Nat->Nat) (ord:List Value):Prop where
 len:ord.length=n
 nx:∀ (A:Around) (E:Value->Shared->Prop) (i:Nat) (s:Shared) (Q:Option (Value × Nat)->Shared->Prop),i<=n->s.heap.get? a=some o->Q ((ord[i]?).map fun x=>(x,at_ (i+1))) s->wpAny (model prog w) A (setNext a (at_ i) i ep) Q E s
theorem zOQ (N:Nexts prog w o a ep ks.length at_ ord) (hS:SetK knd o es ep t ks) (hI:s.heap.get? I=some (zBQ (rawInt (at_ i)) i a ks.length ep)) (ho:s.heap.get? a=some o)
  (hx:ord[i]?=some x) (hQ:∀ h',h'.get? I=some (zBQ (rawInt (at_ (i+1))) (i+1) a ks.length ep)->Heap.SameBut I s.heap h'->Q (some x) { s with heap:=h' }):wpAny (model prog w) A (pyNext (.ref I)) Q E s:=by
 have hT:=zHk hI;have hi:i<ks.length:=by have:=(zWX.mp hx).1;rw[N.len]at this;exact this
 unfold pyNext;refine zWU (wpAny_attempt (zW6 (name:=Str.ofString "__next__") hT zAL (zW7 zAL hT zB1 ?_ (zCJ _))));unfold Builtin.«set_iterator.__next__» slotArgs;simp only[List.isEmpty_nil,Bool.not_true,zXV,↓reduceIte,List.length_nil,bne_self_eq_false,pure_bind,bind_assoc];refine zWU (wpAny_fieldsOf hI rfl ?_);dsimp only[rawInt];refine zWU (wpAny_setEntries_of ho hS.data hS.fits ?_);rw[zWm (by rw[hS.size];simp)];refine zWU (N.nx _ _ i s _ (by omega) ho ?_);rw[hx];dsimp only[Option.map];refine zWU (wpAny_setField hI rfl (by simp) ?_);have e1:=zXH (Obj.mapFields fun vs=>vs.set! 0 (rawInt (at_ (i+1)))) hI (Obj.isFreed_of_fields (zXl rfl _));refine zWU (wpAny_setField e1 (zXl rfl _) (by simp) ?_);have e2:=zXH (Obj.mapFields fun vs=>vs.set! 1 (rawInt ((i:Int)+1))) e1 (Obj.isFreed_of_fields (zXl (zXl rfl _) _));refine zWW ⟨x,rfl,zWW (hQ _ ?_ ((zXX ..).trans (zXX ..)))⟩;refine e2.trans ?_;simp[Obj.mapFields,zBQ,rawInt]
end
open Sem (wp)
section
variable {prog:Program} {w:World} {A:Around} {E:Value->Shared->Prop} {s:Shared}
variable {K:Type} [DecidableEq K] {knd:KeyKind prog w K} {o:Obj} {es:Array (Int × Value)} {ep:Nat} {t:SetTable} {ks:List K} {a I:Addr}
theorem zPA (hh:A.handled=none) (N:Nexts prog w o a ep ks.length at_ ord) (hS:SetK knd o es ep t ks) (hI:s.heap.get? I=some (zBQ (rawInt (at_ ks.length)) ks.length a ks.length ep)) (ho:s.heap.get? a=some o)
  (hQ:∀ h',Heap.ExtBut I s.heap h'->Q none { s with heap:=h' }):wpAny (model prog w) A (pyNext (.ref I)) Q E s:=by
 have hT:=zHk hI;unfold pyNext;refine zWU (wpAny_attempt (zW6 (name:=Str.ofString "__next__") hT zAL (zW7 zAL hT zB1 ?_ (zCJ _))));unfold Builtin.«set_iterator.__next__» slotArgs;simp only[List.isEmpty_nil,Bool.not_true,zXV,↓reduceIte,List.length_nil,bne_self_eq_false,pure_bind,bind_assoc];refine zWU (wpAny_fieldsOf hI rfl ?_);dsimp only[rawInt];refine zWU (wpAny_setEntries_of ho hS.data hS.fits ?_);rw[zWm (by rw[hS.size];simp)];refine zWU (N.nx _ _ ks.length s _ (zWa _) ho ?_);rw[zXd (by rw[N.len];exact zWa _)];dsimp only[Option.map];refine zWU (wpAny_setField hI rfl (by simp) ?_);simp only[newExc,newTuple,bind_assoc,pure_bind];refine zWU (zWx (zWU (m:=firstArgMember _ _) (wpAny_of_eq (a:=Value.none) (by first|rfl|(simp only[firstArgMember];rfl)) (zWU (zWx ?_ (by size_fits))))) (by size_fits));simp only[raiseNew];refine zWU (wpAny_handled ?_);rw[show A.in1.handled=none from hh];refine zWU (zWW (wpAny_throw ?_));refine zWU (wpAny_isInstance (T := "StopIteration") (b:=true) ⟨_,zWe _ rfl,rfl⟩ isSubtype_stop (zWW ?_));exact hQ _ (((zXX ..).extBut.push _).push _)
theorem zLX (hh:A.handled=none) (hne:a≠I) (N:Nexts prog w o a ep ks.length at_ ord) (hS:SetK knd o es ep t ks) :
  Walks prog w A I [I,a] [I] ks.length (fun i v=>ord[i]?=some v) (fun i h=>h.get? I=some (zBQ (rawInt (at_ i)) i a ks.length ep)/\h.get? a=some o) where
 sub:=fun b hb=>by simp at hb;simp[hb]
 frame:=fun _ _ _ st hk=>⟨hk I (by simp) _ st.1,hk a (by simp) _ st.2⟩;item:=fun i s Q E hi st hQ=>by
  have hx:ord[i]?=some (ord[i]'(by rw[N.len];exact hi)):=zWY _;refine zOQ N hS st.1 st.2 hx fun h' hI' hs'=>?_;exact hQ _ h' s.toks hx ⟨hI',hs'.extBut a o hne st.2⟩ fun b u hb ee=>hs'.extBut b u (fun h=>hb (by simp[h])) ee
 done:=fun s Q E st hQ=>zPA hh N hS st.1 st.2 fun h' he'=>hQ h' s.toks fun b u hb ee=>he' b u (fun h=>hb (by simp[h])) ee;self:=fun _ _ _ _ st hQ=>zNF st.1 hQ
theorem zMB {pl:List Nat} (hS:SetK knd o es ep t ks) (hl:pl.length=ks.length) (hI:s.heap.get? I=some (zBQ (.ref T) i a ks.length ep)) (ho:s.heap.get? a=some o)
  (hT:IsTup s.heap T (pl.map fun (k:Nat)=>rawInt k).toArray)
  (hx:(pl[i]?).bind (fun k=>(es[k]?).map (·.2))=some x) (hQ:∀ h',h'.get? I=some (zBQ (.ref T) (i+1) a ks.length ep)->Heap.SameBut I s.heap h'->Q (some x) { s with heap:=h' }):wpAny (model prog w) A (pyNext (.ref I)) Q E s:=by
 have hTy:=zHk hI;obtain ⟨oT,hoT,hcT,nT,hdT⟩:=id hT;cases hp:pl[i]? with
 |none=>rw[hp]at hx;cases hx
 |some k=>
  rw[hp]at hx;cases he:es[k]? with
  |none=>simp only[Option.bind_some]at hx;rw[he]at hx;cases hx
  |some e=>
   simp only[Option.bind_some]at hx;rw[he]at hx;cases hx;unfold pyNext;refine zWU (wpAny_attempt (zW6 (name:=Str.ofString "__next__") hTy zAL (zW7 zAL hTy zB1 ?_ (zCJ _))));unfold Builtin.«set_iterator.__next__» slotArgs;simp only[List.isEmpty_nil,Bool.not_true,zXV,↓reduceIte,List.length_nil,bne_self_eq_false,pure_bind,bind_assoc];refine zWU (wpAny_fieldsOf hI rfl ?_);dsimp only[rawInt];refine zWU (wpAny_setEntries_of ho hS.data hS.fits ?_);rw[zWm (by rw[hS.size];simp)];refine zWU (zXK hoT hdT ?_);dsimp only;have e5:(List.map (fun (k:Nat)=>rawInt k) pl).toArray[(i:Int).toNat]?=some (rawInt k):=by simp[hp]
   rw[e5];dsimp only[rawInt];unfold setNextDrawn;simp only[bind_assoc];refine zWU (wpAny_setState_of ho hS.data hS.fits ?_);rw[zWm (by simp)];have e6:es[(k:Int).toNat]?=some e:=by simpa using he
   rw[e6];obtain ⟨e1,e2⟩:=e;simp only[pure_bind];refine zWU (wpAny_setField hI rfl (by simp) ?_);refine zWW ⟨e2,rfl,zWW (hQ _ ?_ (zXX ..))⟩;refine (zXH _ hI (Obj.isFreed_of_fields (zXl rfl _))).trans ?_;simp[Obj.mapFields,zBQ,rawInt]
theorem zO2 {pl:List Nat} (hh:A.handled=none) (hS:SetK knd o es ep t ks) (hl:pl.length=ks.length) (hI:s.heap.get? I=some (zBQ (.ref T) ks.length a ks.length ep)) (ho:s.heap.get? a=some o)
  (hT:IsTup s.heap T (pl.map fun (k:Nat)=>rawInt k).toArray) (hQ:∀ h',Heap.ExtBut I s.heap h'->Q none { s with heap:=h' }):wpAny (model prog w) A (pyNext (.ref I)) Q E s:=by
 have hTy:=zHk hI;obtain ⟨oT,hoT,hcT,nT,hdT⟩:=id hT;unfold pyNext;refine zWU (wpAny_attempt (zW6 (name:=Str.ofString "__next__") hTy zAL (zW7 zAL hTy zB1 ?_ (zCJ _))));unfold Builtin.«set_iterator.__next__» slotArgs;simp only[List.isEmpty_nil,Bool.not_true,zXV,↓reduceIte,List.length_nil,bne_self_eq_false,pure_bind,bind_assoc];refine zWU (wpAny_fieldsOf hI rfl ?_);dsimp only[rawInt];refine zWU (wpAny_setEntries_of ho hS.data hS.fits ?_);rw[zWm (by rw[hS.size];simp)];refine zWU (zXK hoT hdT ?_);dsimp only;have e5:(List.map (fun (k:Nat)=>rawInt k) pl).toArray[(ks.length:Int).toNat]?=none:=by simp[hl]
 rw[e5];dsimp only[rawInt];refine zWU (wpAny_setField hI rfl (by simp) ?_);have e1:=zXH (Obj.mapFields fun vs=>vs.set! 0 (rawInt 0)) hI (Obj.isFreed_of_fields (zXl rfl _));refine zWU (wpAny_setField e1 (zXl rfl _) (by simp) ?_);simp only[newExc,newTuple,bind_assoc,pure_bind];refine zWU (zWx (zWU (m:=firstArgMember _ _) (wpAny_of_eq (a:=Value.none) (by first|rfl|(simp only[firstArgMember];rfl)) (zWU (zWx ?_ (by size_fits))))) (by size_fits));simp only[raiseNew];refine zWU (wpAny_handled ?_);rw[show A.in1.handled=none from hh];refine zWU (zWW (wpAny_throw ?_));refine zWU (wpAny_isInstance (T := "StopIteration") (b:=true) ⟨_,zWe _ rfl,rfl⟩ isSubtype_stop (zWW ?_));exact hQ _ ((((zXX ..).trans (zXX ..)).extBut.push _).push _)
theorem zK6 {pl:List Nat} (hh:A.handled=none) (hne:a≠I) (hneT:T≠I) (hS:SetK knd o es ep t ks) (hl:pl.length=ks.length) (hb:∀ k∈pl,k<es.size) :
  Walks prog w A I [I,a,T] [I] ks.length (fun i v=>(pl[i]?).bind (fun k=>(es[k]?).map (·.2))=some v) (fun i h=>h.get? I=some (zBQ (.ref T) i a ks.length ep)/\h.get? a=some o/\IsTup h T (pl.map fun (k:Nat)=>rawInt k).toArray) where
 sub:=fun b hb=>by simp at hb;simp[hb]
 frame:=fun _ _ _ st hk=>⟨hk I (by simp) _ st.1,hk a (by simp) _ st.2.1,let ⟨oT,ho,r⟩:=st.2.2;⟨oT,hk T (by simp) oT ho,r⟩⟩;item:=fun i s Q E hi st hQ=>by
  have hi':i<pl.length:=by rw[hl];exact hi
  have hk:pl[i]<es.size:=hb _ (zW2 hi');have hx:(pl[i]?).bind (fun k=>(es[k]?).map (·.2))=some (es[pl[i]].2):=by
   rw[zWY hi'];simp[hk]
  refine zMB hS hl st.1 st.2.1 st.2.2 hx fun h' hI' hs'=>?_;exact hQ _ h' s.toks hx ⟨hI',hs'.extBut a o hne st.2.1,st.2.2.extBut hs'.extBut hneT⟩ fun b u hb ee=>hs'.extBut b u (fun h=>hb (by simp[h])) ee
 done:=fun s Q E st hQ=>zO2 hh hS hl st.1 st.2.1 st.2.2 fun h' he'=>hQ h' s.toks fun b u hb ee=>he' b u (fun h=>hb (by simp[h])) ee;self:=fun _ _ _ _ st hQ=>zNF st.1 hQ
end
open Sem (wp)
theorem zNf {prog:Program} {w:World} {A:Around} {I:Addr} {fp wr:List Addr} {n:Nat} {P P':Nat->Value->Prop} {St:Nat->Heap->Prop} (W:Walks prog w A I fp wr n P St) (h:∀ i v,P i v->P' i v):Walks prog w A I fp wr n P' St where
 sub:=W.sub;frame:=W.frame;item:=fun i s Q E hi st hQ=>W.item i s Q E hi st fun v h' tk hP=>hQ v h' tk (h i v hP);done:=W.done;self:=W.self
section
variable {prog:Program} {w:World} {A:Around} {E:Value->Shared->Prop} {s:Shared}
variable {K:Type} [DecidableEq K] {knd:KeyKind prog w K} {o:Obj} {es:Array (Int × Value)} {ep:Nat} {t:SetTable} {ks:List K} {a I:Addr}
theorem zCj (h:Q (w.params.followText "set-order") s):wpAny (model prog w) A setsByText Q E s:=by
 unfold setsByText;exact zWU (wpAny_askSetting (zWW h))
theorem zLr (hS:SetK knd o es ep t ks) (hT:w.params.followText "set-order" = true):Nexts prog w o a ep ks.length (fun _=>0) ((pickOrder (w.params.setOrder a ep) es).toList.map (·.2)) where
 len:=by rw[zWd,(zDx _ es).length_eq,zXD,hS.size]
 nx:=fun A E i s Q hi ho hQ=>by
  unfold setNext;refine zWU (wpAny_setState_of ho hS.data hS.fits ?_);refine zWU (zCj ?_);rw[hT,zWj rfl,zWm (by simp)];refine zWU ?_;unfold setWalk;refine zWU (wpAny_setState_of ho hS.data hS.fits ?_);refine zWU (zCj ?_);rw[hT,zWj rfl];refine zWU (wpAny_askSetting (zWW ?_));refine zWW ?_;have e:(Option.map (fun (e:Int × Value)=>(e.2,0)) (pickOrder (w.params.setOrder a ep) es)[i]?)=Option.map (fun x=>(x,0)) ((pickOrder (w.params.setOrder a ep) es).toList.map (·.2))[i]?:=by
   rw[zWr,Array.getElem?_toList];cases (pickOrder (w.params.setOrder a ep) es)[i]? <;> rfl
  show Q (Option.map (fun (e:Int × Value)=>(e.2,0)) (pickOrder (w.params.setOrder a ep) es)[i]?) s;rw[e];exact hQ
def zMQ (t:SetTable):Nat->Nat
 |0=>0
 |i+1=>t.place.getD i 0+1
theorem zRA (h:Up t.place) (hi:i<=t.place.size):SetTable.below t.place (zMQ t i)=i:=by
 cases i with
 |zero=>exact zL2 h
 |succ i=>
  show SetTable.below t.place (t.place.getD i 0+1)=i+1;have hl:i<t.place.size:=by omega
  have e:t.place.getD i 0=t.place[i]:=by simp[Array.getD,hl]
  rw[e];exact zLx h hl
theorem zOa (hS:SetK knd o es ep t ks):t.place.size=es.size:=by
 have:=hS.fits;simp only[SetTable.fits,zW4,beq_iff_eq]at this;exact this.1
theorem zLh (hS:SetK knd o es ep t ks) (hT:w.params.followText "set-order" = false) (hd:(!t.plain&&decide (es.size>1))=false):Nexts prog w o a ep ks.length (zMQ t) (es.toList.map (·.2)) where
 len:=by rw[zWd,zXD,hS.size]
 nx:=fun A E i s Q hi ho hQ=>by
  have hz:=zOa hS;unfold setNext;refine zWU (wpAny_setState_of ho hS.data hS.fits ?_);refine zWU (zCj ?_);rw[hT,zWm (by decide)];show wpAny _ _ (if (!t.plain&&decide (es.size>1))=true then _ else _) _ _ _;rw[zWm (by rw[hd];decide)];have hl:t.led=true:=by rw[hS.tab.led,hT];rfl
  refine zWU ?_;show wpAny _ _ (if (!t.led && !es.isEmpty)=true then unsupported "set:maker-not-led" else pure ()) _ _ _;rw[zWm (by rw[hl];simp)];refine zWW ?_;rw[zRA hS.tab.up (by rw[hz,hS.size];exact hi)];refine zWW ?_;rw[zWr,Array.getElem?_toList]at hQ;by_cases q:i<es.size
  ·have q2:i<t.place.size:=by rw[hz];exact q
   rw[zXF q,zXF q2];rw[zXF q]at hQ;have e:zMQ t (i+1)=t.place[i]+1:=by
    show t.place.getD i 0+1=_;simp[Array.getD,q2]
   simp only[Option.map]at hQ;rw[e]at hQ;exact hQ
  ·have:i=es.size:=by rw[hS.size]at q ⊢;omega
   rw[Array.getElem?_eq_none (by omega)]at hQ ⊢;exact hQ
theorem zPZ (ho:s.heap.get? a=some o) (hS:SetK knd o es ep t ks)
  (h:∀ (h':Heap) (d:Drawn) (I:Addr) (fp:List Addr) (ord:List Value) (St:Nat->Heap->Prop),(∀ b u,s.heap.get? b=some u->h'.get? b=some u)->s.heap.objs.size<=I->(∀ b∈fp,b<h'.objs.size/\(b=a\/s.heap.objs.size<=b)) ->
   (∀ A:Around,A.handled=none->Walks prog w A I fp [I] ks.length (fun i v=>ord[i]?=some v) St)->St 0 h'->ord.Perm (es.toList.map (·.2))->Q (.ref I) { s with heap:=h',drawn:=d }) :
  wpAny (model prog w) A (pyIter (.ref a)) Q E s:=by
 have hT:=hS.typeIs ho;have hal:a<s.heap.objs.size:=zWf ho;refine wpAny_pyIter_slot hT F.slot_set_iter (zW7 F.slot_set_iter hT zHT ?_ (F.args_set_iter_1 _));unfold Builtin.«frozenset.__iter__» Builtin.Frozenset.slot0 slotArgs Builtin.Frozenset.addrOf Builtin.Frozenset.sizeOf;simp only[List.isEmpty_nil,Bool.not_true,zXV,↓reduceIte,List.length_nil,bne_self_eq_false,pure_bind,bind_assoc];refine zWU (wpAny_setEntries_of ho hS.data hS.fits ?_);unfold setDrawn;simp only[bind_assoc];refine zWU (wpAny_setState_of ho hS.data hS.fits ?_);refine zWU (zCj ?_);simp only[pure_bind];have hsz:=hS.size;have plain:∀ (at_:Nat->Nat) (ord:List Value),at_ 0=0->Nexts prog w o a ep ks.length at_ ord->ord.Perm (es.toList.map (·.2))->Q (.ref s.heap.objs.size) { s with heap:=s.heap.push (zBQ (rawInt 0) 0 a ks.length ep) }:=by
  intro at_ ord h0 N hp;have e:s.heap.push (zBQ (rawInt 0) 0 a ks.length ep)=s.heap.push (zBQ (rawInt 0) 0 a ks.length ep):=rfl
  have:=h (s.heap.push (zBQ (rawInt 0) 0 a ks.length ep)) s.drawn s.heap.objs.size [s.heap.objs.size,a] ord (fun i h=>h.get? s.heap.objs.size=some (zBQ (rawInt (at_ i)) i a ks.length ep)/\h.get? a=some o)
   (fun b u e=>zWV _ e) (zWa _) (fun b hb=>by
    rw[zXA];rcases zWg.mp hb with z|z
    ·rw[z];exact ⟨zXR _,.inr (zWa _)⟩
    ·rw[zWw.mp z];exact ⟨zXJ hal,.inl rfl⟩)
   (fun A hh=>zLX hh (zWp hal) N hS) ⟨by rw[h0];exact zWe _ rfl,zWV _ ho⟩ hp
  exact this
 have mk:∀ (s1:Shared) (f:Value) (hv:s1.heap.get? a=some o) {Q':Fin->Shared->Prop},Q' (.done (.ret (.ref s1.heap.objs.size))) { s1 with heap:=s1.heap.push (zBQ f 0 a ks.length ep) }->wpAny (model prog w) A.in1 (do
   let e <- setEpoch a;let r <- newFields "set_iterator" [f,rawInt 0,Value.ref a,rawInt es.size,rawInt e];ret r) Q' E s1:=by
  intro s1 f hv Q' hq;refine zWU (wpAny_setEpoch_of hv hS.data hS.fits ?_);unfold newFields;refine zWU (zWx (zWW ?_));rw[hsz];exact hq
 have ty:∀ (s1:Shared) (f:Value),(∃ T' r,Shared.TypeIs { s1 with heap:=s1.heap.push (zBQ f 0 a ks.length ep) } (.ref s1.heap.objs.size) T'/\typeLookup (Value.type T') (Str.ofString "__next__")=pure (some r)/\True):=fun s1 f=>⟨"set_iterator", _,⟨_,zWe _ rfl,rfl⟩,zAL.lookup,trivial⟩;show wpAny _ _ (if (!w.params.followText "set-order" && (!t.plain&&decide (es.size>1)))=true then _ else _) _ _ _;by_cases hc:(!w.params.followText "set-order" && (!t.plain&&decide (es.size>1)))=true
 ·rw[zWj hc];refine zWU (zDl _ _ (by simp) fun pl d hp=>?_);refine zWU ?_;unfold newTuple;have hpl:pl.length=ks.length:=by rw[hp.length_eq,zYR,hsz]
  refine zWx ?_ (by
   show (List.map (fun (i:Nat)=>rawInt i) pl).toArray.size<=sizeLine;rw[zWc,zWd,hpl,<-hsz];exact fits_of_scanBound hS.bound)
  generalize hH:s.heap.push { cls:=.type "tuple", data:=.seq (List.map (fun (i:Nat)=>rawInt i) pl).toArray }=H;have kH:∀ b u,s.heap.get? b=some u->H.get? b=some u:=fun b u e=>by rw[<-hH];exact zWV _ e
  have hT1:IsTup H s.heap.objs.size (pl.map fun (k:Nat)=>rawInt k).toArray:=⟨_,by rw[<-hH];exact zWe _ rfl,rfl,0,rfl⟩;have szH:H.objs.size=s.heap.objs.size+1:=by rw[<-hH];exact zXA ..
  have szlt:s.heap.objs.size<H.objs.size:=by rw[szH];exact zXR _
  have alt:a<H.objs.size:=Nat.lt_trans hal szlt;refine mk { s with heap:=H,drawn:=d } (.ref s.heap.objs.size) (kH _ _ ho) ?_;obtain ⟨T',r,e1,e2,_⟩:=ty { s with heap:=H,drawn:=d } (.ref s.heap.objs.size);refine ⟨_,rfl,T',r,e1,e2,?_⟩;have kH2:∀ b u,s.heap.get? b=some u->(H.push (zBQ (.ref s.heap.objs.size) 0 a ks.length ep)).get? b=some u:=fun b u e=>zWV _ (kH b u e);refine h _ d H.objs.size [H.objs.size,a,s.heap.objs.size] (pl.map fun k=>((es[k]?).map (·.2)).getD .none) (fun i h=>h.get? H.objs.size=some (zBQ (.ref s.heap.objs.size) i a ks.length ep)/\h.get? a=some o/\IsTup h s.heap.objs.size (pl.map fun (k:Nat)=>rawInt k).toArray) kH2 (by rw[szH];exact Nat.le_succ _) (fun b hb=>?_) (fun A hh=>?_) ⟨zWe _ rfl,kH2 a o ho,?_⟩ ?_
  ·rw[zXA];simp only[zWg,zWz,zXp]at hb;rcases hb with z|z|z
   ·rw[z];exact ⟨zXR _,.inr (Nat.le_of_lt szlt)⟩
   ·rw[z];exact ⟨zXJ alt,.inl rfl⟩
   ·rw[z];exact ⟨zXJ szlt,.inr (zWa _)⟩
  ·have hb:∀ k∈pl,k<es.size:=fun k hk=>by have:=hp.mem_iff.mp hk;simpa using this
   refine zNf (zK6 hh (a:=a) (I:=H.objs.size) (T:=s.heap.objs.size) (zWp alt) (zWp szlt) hS hpl hb) fun i v hv=>?_;rw[zWr];cases q:pl[i]? with
   |none=>rw[q]at hv;cases hv
   |some k=>
    rw[q]at hv;simp only[Option.bind_some]at hv;rw[Option.map_some,hv];rfl
  ·exact hT1.push _
  ·have e:es.toList.map (·.2)=(List.range es.size).map fun k=>((es[k]?).map (·.2)).getD .none:=by
    apply List.ext_getElem?;intro i;rw[zWr,zWr,Array.getElem?_toList];by_cases q:i<es.size
    ·rw[zYY q,zXF q];simp[q]
    ·rw[Array.getElem?_eq_none (by omega),zXd (by simp;omega)];rfl
   rw[e];exact hp.map _
 ·rw[zWm hc];refine mk s (rawInt 0) ho ?_;obtain ⟨T',r,e1,e2,_⟩:=ty s (rawInt 0);refine ⟨_,rfl,T',r,e1,e2,?_⟩;cases hX:w.params.followText "set-order" with
  |true=>exact plain _ _ rfl (zLr hS hX) ((zDx _ es).map _)
  |false=>
   rw[hX]at hc;exact plain _ _ rfl (zLh hS hX (by simpa using hc)) (.refl _)
end
open Sem (wp)
section
variable {prog:Program} {w:World} {A:Around} {E:Value->Shared->Prop} {s:Shared}
variable {K:Type} [DecidableEq K] {knd:KeyKind prog w K} {o:Obj} {es:Array (Int × Value)} {ep:Nat} {t:SetTable} {ks:List K} {a I:Addr}
theorem zQL:isSubtype (.type "set") (.type "set")=pure true:=sub_set_self
theorem zOM (hT:s.TypeIs (.ref a) "set") (h:Q false s):wpAny (model prog w) A (Builtin.List.listLengthHint (.ref a)) Q E s:=by
 unfold Builtin.List.listLengthHint;refine zWU (wpAny_specialOf hT F.slot_set_len.lookup ?_);have hsp:splitId "set.__len__" = some ("set", "__len__"):=by decide +kernel
 dsimp only;rw[hsp];refine zWU (wpAny_isInstance hT zQL ?_);rw[zWm (by decide),zWj (by decide +kernel)];refine zWU (wpAny_typeOf hT ?_);exact zWW h
theorem zLG (hh:A.handled=none) (ho:s.heap.get? a=some o) (hS:SetK knd o es ep t ks)
  (hQ:∀ (s':Shared) (acc:List Value),(∀ b u,s.heap.get? b=some u->s'.heap.get? b=some u)->s'.os=s.os->s'.gens=s.gens->acc.Perm (es.toList.map (·.2))->Q acc s'):wpAny (model prog w) A (collect (.ref a)) Q E s:=by
 have hal:a<s.heap.objs.size:=zWf ho;have hn:ks.length<=sizeLine:=by rw[<-hS.size];exact fits_of_scanBound hS.bound
 unfold collect;refine zWU (wpAny_runValue (codeAny_builtin F.entry_proto_collect ?_));rw[Around.under_plainId F.plain_proto_collect _];refine zWU (zWx (zWW ⟨plainId_quiet F.plain_list_iadd _,codeAny_builtin F.entry_list_iadd ?_⟩));rw[Around.under_plainId F.plain_list_iadd _];generalize hH:s.heap.push { cls:=.type "list", data:=.seq ([]:List Value).toArray }=H;have kH:∀ b u,s.heap.get? b=some u->H.get? b=some u:=fun b u e=>by rw[<-hH];exact zWV _ e
 have szH:H.objs.size=s.heap.objs.size+1:=by rw[<-hH];exact zXA ..
 have hL1:H.get? s.heap.objs.size=some { cls:=.type "list", data:=.seq ([]:List Value).toArray }:=by rw[<-hH];exact zWe _ rfl
 have ho1:=kH a o ho;show wpAny _ A.in1 (Builtin.List.listExtendWith (.ref s.heap.objs.size) (.ref a) (.ref s.heap.objs.size)) _ _ { s with heap:=H };unfold Builtin.List.listExtendWith;have hT1:Shared.TypeIs { s with heap:=H } (.ref a) "set" := ⟨o,ho1,hS.ex.1⟩;refine zWU (wpAny_typeOf hT1 ?_);have hneL:s.heap.objs.size≠a:=zXz hal;have h1:Builtin.List.listSameRef (.ref s.heap.objs.size) (.ref a)=false:=by simp[Builtin.List.listSameRef,hneL]
 have h2:(Value.type "set" == Value.type "list")=false:=by decide
 have h3:(Value.type "set" == Value.type "tuple")=false:=by decide
 simp only[h1,h2,h3,Bool.or_false,zXV,if_false];refine zWU (zPZ (s:={ s with heap:=H }) ho1 hS fun h2 d I fp ord St k2 hI2 hfp W st0 hp=>?_);have ho2:=k2 a o ho1;refine zWU (zXN (zOM (s:={ s with heap:=h2,drawn:=d }) ⟨o,ho2,hS.ex.1⟩ ?_));rw[zWj (by decide +kernel)];refine zWU (zXr (zWU ?_));have hL2:=k2 _ _ hL1;refine zWU (wpAny_updateSeq (s:={ s with heap:=h2,drawn:=d }) hL2 rfl ?_);have hS2:=zXH (Obj.mapSeq (·.push Value.none)) hL2 rfl;refine wpAny_updateSeq hS2 rfl ?_;have hS3:=zXH (Obj.mapSeq (·.pop)) hS2 rfl;generalize hH3:(h2.update s.heap.objs.size (Obj.mapSeq (·.push Value.none))).update s.heap.objs.size (Obj.mapSeq (·.pop))=H3 at hS3;have oth:∀ b u,b≠s.heap.objs.size->h2.get? b=some u->H3.get? b=some u:=fun b u hb e=>by
  rw[<-hH3];exact (zXB _ _ (Ne.symm hb)).trans ((zXB _ _ (Ne.symm hb)).trans e)
 have hSf:s.heap.objs.size∉fp:=fun hm=>by
  rcases (hfp _ hm).2 with z|z
  ·exact hneL z
  ·have z':H.objs.size<=s.heap.objs.size:=z;rw[szH]at z';exact absurd z' (Nat.not_succ_le_self _)
 have WS:=(W A.in1.in1 hh).toS;have st3:St 0 H3:=(W A.in1.in1 hh).frame 0 _ _ st0 fun b hb u e=>oth b u (fun z=>hSf (z▸hb)) e;have hI3:I≠s.heap.objs.size:=fun z=>by
  have z':H.objs.size<=I:=hI2;rw[szH,z]at z';exact absurd z' (Nat.not_succ_le_self _)
 refine zWW ⟨plainId_quiet F.plain_extend_loop _,codeAny_extend_loopS (A:=A) (WalksS.of_in1 WS) hn _ hSf _ ks.length 0 { s with heap:=H3,drawn:=d } _ _ rfl (zXG _) st3 hS3 (ItemsOf.nil _) fun s' acc' c' hm hS' hacc=>?_⟩;refine zWU (wpAny_load hS' (zWW (hQ s' _ (fun b u e=>hm.heap b u (fun q=>?_) (oth b u (fun z=>zXC _ (z▸zWf e)) (k2 b u (kH b u e)))) hm.os hm.gens ?_)))
 ·rcases zWg.mp q with z|z
  ·exact zXC _ (z▸zWf e)
  ·have z':H.objs.size<=I:=hI2;rw[<-zWw.mp z,szH]at z';exact zXC _ (Nat.lt_trans (zWt (zXR _) z') (zWf e))
 ·have e:acc'.toList=ord:=by
   have hl:ord.length=ks.length:=by rw[hp.length_eq,zWd,zXD,hS.size]
   apply List.ext_getElem?;intro i;rw[Array.getElem?_toList];by_cases q:i<ks.length
   ·have q':i<acc'.size:=by rw[hacc.1];exact q
    rw[zXF q'];exact (hacc.2 i _ (zXF q')).symm
   ·rw[Array.getElem?_eq_none (by rw[hacc.1];omega),zXd (by omega)]
  rw[e];exact hp
end
end ST
namespace L2
open PySem PySem.Spec PyProof.Rows ST
section
variable {prog:Program} {w:World} {A:Around} {R:Result->Shared->Prop} {s:Shared}
theorem zDo {elt target iter ifs rest scope pos it acc env}
  (h0:codeAny (model prog w) A (.compLoop (.SetComp elt (⟨target,iter,ifs,0⟩::rest) scope pos) 0 it acc env) R s)
  (h:wpAny (model prog w) A (pyIter it) (fun it' s'=>codeAny (model prog w) A (.compLoop (.SetComp elt (⟨target,iter,ifs,0⟩::rest) scope pos) 0 it' acc env) R s')
   (notedBy (model prog w) A env fun x s'=>R (.error x) s') s) :
  codeAny (model prog w) A (.compStart (.SetComp elt (⟨target,iter,ifs,0⟩::rest) scope pos) 0 it acc env) R s:=by
 refine codeAny_of_tree ?_;show wpAny _ _ ((compStart (.SetComp elt (⟨target,iter,ifs,0⟩::rest) scope pos) 0 it acc env).onRaise (fun x=>do noteFrame x env;standAt theWindowsPlace)) _ _ s;refine wpAny_notedAt ?_;unfold compStart;refine zWU (wpAny_askSetting (wpAny_ite ?_));split
 ·first
   |exact zWU (zWW (zWW (And.intro rfl h0)))
   |exact zWW (And.intro rfl h0)
 ·first
   |exact zWU (zXr (zWU (zXS (zWU (zW0 h (fun it' s' h'=>zWW (And.intro rfl h')) fun _ _ x=>x)))))
   | (refine zWU (zXr ?_);show wpAny _ _ (standAt iter.pos >>= _) _ _ s;exact zWU (zXS (zWU (zW0 h (fun it' s' h'=>zWW (And.intro rfl h')) fun _ _ x=>x))))
end
section
variable {X:Cx} {zB:List (Addr × Obj)} {σ:St} {H:Hp} {s:Shared} {scope:Scope} {cl:List (Str × Addr)} {fp:List Addr} {it:Addr} {tn:Nat->Heap->Prop} {J:It} {tg elt iter:Expr} {ifs:List Expr} {pos:Pos}
 {own:List Nat} {g:TG} {tc:TT} {te:TE} {E:Value->Shared->Prop}
theorem zLo (h:SetK (intKind prog w) o es ep t ks):∀ v,o.data≠.cell v:=fun v z=>by rw[h.data]at z;cases z
theorem zHL (C:CompIn X scope own) (hcalm:X.calm=true) (I:Inv X zB σ H s) (T:Turn X.prog X.w X.K tg J fp it tn) (st:tn 0 s.heap) (hf:∀ b∈fp,zCE X zB H b)
  (c1:∀ x c,cl.lookup x=some c->X.env.cells.lookup x=some c) (c2:∀ y∈scope.names,y.2=.free->(cl.lookup y.1).isSome=true)
  (hg:PG (zL X zB scope cl s H fp) tg g) (hi:zGQ (zL X zB scope cl s H fp) ifs tc) (he:PE (zL X zB scope cl s H fp) elt te)
  {RR:Value->Addr->Result->Shared->Prop} {QQ:List Int->Hp->Prop} {W:Nat->Nat->List Int->Hp->Prop} {m0:Nat} (w0:W 0 m0 [] H)
  (turn:∀ i m ys H,W i m ys H->(J.stop i H/\QQ ys H) \/
   (J.go i H /\ ∀ x H',J.yld i H x H'->g x (clr own σ) H' fun σ2 H2=>Ext (clr own σ) σ2/\tc σ2 H2 fun b H3=>
    if b=true then te σ2 H3 fun v H4=>∃ k,v=.int k/\ys.length+1<scanBound /\ ∃ m',m'<m/\W (i+1) m' (ins ys k) H4 else ∃ m',m'<m/\W (i+1) m' ys H3))
  (fin:∀ σc H' s' o es ep t ys,Inv (zL X zB scope cl s H fp) [(s.heap.objs.size,o)] σc H' s'->SetK (intKind X.prog X.w) o es ep t ys->QQ ys H'->RR (.ref s.heap.objs.size) (s.heap.objs.size+1) (.ok .next) s') :
  wpAny (model X.prog X.w) X.A (newSet (.type "set")) (fun acc s₃=>wpAny (model X.prog X.w) X.A (newFunctionEnv scope X.env.globals cl [] X.env.qual none .none (some X.env)) (fun cenv s₄=>
   codeAny (model X.prog X.w) X.A (.compStart (.SetComp elt [⟨tg,iter,ifs,0⟩] scope pos) 0 (.ref it) acc { cenv with scope:=relabel scope X.env }) (RR acc cenv.locals) s₄) E s₃) E s:=by
 have ob:∀ b:Nat,b∈fp->b<s.heap.objs.size:=fun b hb=>let ⟨_,e,_⟩:=T.obj 0 _ st b hb;zWf e;refine zN3 (zCm ?_);have sz1:(s.heap.push (zCC X.w)).objs.size=s.heap.objs.size+1:=zXA ..;have I4:=zFA (X:=X) (zB:=zB) (σ:=σ) (σc:=clr own σ) (H:=H) (s:=s) (scope:=scope) (cl:=cl) (fp:=fp) C.sc I hf ob c1 c2 (zBU own σ) (fun i x v h1 h2 h3=>by
  obtain ⟨a,b⟩:=zCr own σ i v h2;rcases C.nm i x h1 with z|z|z
  ·exact absurd z b
  ·exact absurd (zCL x z) h3
  ·exact ⟨z,a⟩) (zCC X.w) (by intro v z;cases z) rfl rfl
 have st4:tn 0 (pushCells ((s.heap.push (zCC X.w)).push { cls:=.type "dict", data:=.dict #[] }) scope.names):=T.keep 0 _ _ st fun b _ o e=>pushCells_keeps _ _ b o (zWV _ (zWV _ e));unfold newEnv;rw[sz1];have hDfp:s.heap.objs.size∉fp:=fun z=>zXC _ (ob _ z);have hcD:∀ x c,(zL X zB scope cl s H fp).env.cells.lookup x=some c->c≠s.heap.objs.size:=fun x c e z=>by
  obtain ⟨v,o,ho,hd⟩:=I4.cell x c e;obtain ⟨q,_⟩:=I4.pin (s.heap.objs.size,zCC X.w) (by simp);rw[z,q]at ho;cases ho;cases hd
 have fpk:∀ {H':Hp} {pl:List (Addr × Obj)},(∀ b∈fp,H' b=none)->(∀ p∈pl,p.1=s.heap.objs.size) -> ∀ b∈fp,zCE (zL X zB scope cl s H fp) pl H' b:=fun {H' pl} hn hp b hb=>
  ⟨hn b hb,(I4.ok.exf b hb).1,I4.ok.exfs b hb,.inl hb,(I4.ok.exf b hb).2,fun p hq=>by
   rcases zWu.mp hq with z|z
   ·exact (hf b hb).2.2.2.2.2 p z
   ·intro e;have e2:=hp p z;rw[e]at e2;exact hDfp (e2▸hb)⟩
 have loop:codeAny (model X.prog X.w) X.A (.compLoop (.SetComp elt [⟨tg,iter,ifs,0⟩] scope pos) 0 (.ref it) (.ref s.heap.objs.size) (zL X zB scope cl s H fp).env) (RR (.ref s.heap.objs.size) (s.heap.objs.size+1))
   { s with heap:=pushCells ((s.heap.push (zCC X.w)).push { cls:=.type "dict", data:=.dict #[] }) scope.names }:=by
  refine zJs (fun n s'=>∃ i H' ys o es ep t,Inv (zL X zB scope cl s H fp) [(s.heap.objs.size,o)] (clr own σ) H' s'/\SetK (intKind X.prog X.w) o es ep t ys/\tn i s'.heap/\(∀ b∈fp,H' b=none)/\W i n ys H') ?_ m0
   ⟨0,H,[],zCC X.w,_,_,_,I4,.fresh,st4,fun b hb=>(hf b hb).1,w0⟩
  rintro n s5 ⟨i,H5,ys,o,es,ep,t,I5,r5,st5,f5,w5⟩;have pinD:∀ p∈[(s.heap.objs.size,o)],p.1=s.heap.objs.size:=fun p hp=>by
   have:p=(s.heap.objs.size,o):=by simpa using hp
   rw[this]
  rcases turn i n ys H5 w5 with ⟨stop,qq⟩|⟨go,step⟩
  ·refine thn (T.done (zL X zB scope cl s H fp) rfl rfl rfl hcalm i _ s5 _ H5 _ I5 (fpk f5 pinD) st5 stop) fun r s6 ⟨hr,I6⟩=>?_;subst hr;exact fin _ H5 s6 o es ep t ys I6 r5 qq
  ·refine thn (T.item (zL X zB scope cl s H fp) rfl rfl rfl hcalm i _ s5 _ H5 _ I5 (fpk f5 pinD) st5 go) fun r s6 ⟨u,hr,h6⟩=>?_;subst hr;refine thn h6 fun _ s7 ⟨x,H7,I7,r7,y7,st7,f7⟩=>?_;have I7':=I7.pinned (fpk f7 pinD) (T.obj _ _ st7);refine thn (hg _ s7 _ H7 x u _ I7' r7 (step x H7 y7)) fun _ s8 ⟨σ8,H8,I8,x8,q8⟩=>?_;refine thn (hi _ s8 σ8 H8 _ I8 q8) fun ok s9 ⟨H9,I9,q9⟩=>?_;have back:∀ {s':Shared} {Hx:Hp},Inv (zL X zB scope cl s H fp) ([(s.heap.objs.size,o)]++zC3 fp s7.heap) σ8 Hx s'->tn (i+1) s'.heap /\ ∀ b∈fp,Hx b=none:=fun {s' Hx} Ix=>
    ⟨T.keep _ _ _ st7 fun b hb o e=>(Ix.pin (b,o) (zWo _ (zWo _ (zAQ hb e)))).1,fun b hb=>by
     obtain ⟨o,e,d⟩:=T.obj _ _ st7 b hb;exact (Ix.pin (b,o) (zWo _ (zWo _ (zAQ hb e)))).2.1⟩
   cases ok with
   |false=>
    obtain ⟨m',hm,w'⟩:=q9;obtain ⟨b1,b2⟩:=back I9;exact ⟨m',hm,i+1,H9,ys,o,es,ep,t,(I9.weak (by rw[x8.1]) x8.2).unpinned,r5,b1,b2,w'⟩
   |true=>
    refine thn (he _ s9 σ8 H9 _ I9 q9) fun v s10 ⟨y,H10,I10,r10,k,hk,hlt,m',hm,w'⟩=>?_;subst hk;obtain ⟨b1,b2⟩:=back I10;have J10:=(I10.weak (by rw[x8.1]) x8.2).unpinned;obtain ⟨e10,n10,ne10,nf10,d10⟩:=J10.pin (s.heap.objs.size,o) (by simp);obtain ⟨tk,hv⟩:∃ tk,v=.int k tk:=r10;subst hv;refine zQP (knd:=intKind X.prog X.w) (intKind_is _ _ _ _) rfl e10 r5 hlt fun h' o' es' ep' t' hs' e' S'=>?_;refine ⟨m',hm,i+1,H10,ins ys k,o',es',ep',t',?_,S',T.keep _ _ _ b1 fun b hb o e=>hs'.extBut b o (fun z=>hDfp (z▸hb)) e,b2,w'⟩;refine (Inv.repin (pl:=[]) J10 (fun p hp=>?_) hs' (zWa _) hcD e' (zLo S')).tok _;rw[zXE]at hp;have hp':p∈X.pn++zB:=hp;exact zWp (zWf (I.pin p hp').1)
 exact zDo loop (T.self _ 0 _ _ _ st4 loop)
theorem zJv (I:Inv X zB σ H s) (hf:∀ b∈fp,zCE X zB H b)
  (Ic:Inv (zL X zB scope cl s H fp) [(s.heap.objs.size,oD)] σc H' s') (hs:Heap.SameBut (s.heap.objs.size+1) s'.heap h') :
  Inv X zB σ H' { s' with heap:=h' }/\h'.get? s.heap.objs.size=some oD:=by
 obtain ⟨eD,nD,_⟩:=Ic.pin (s.heap.objs.size,oD) (by simp);have nC:H' (s.heap.objs.size+1)=none:=Ic.free;have eD':h'.get? s.heap.objs.size=some oD:=hs.extBut _ _ (zWp (zXR _)) eD;have lt1:∀ {b:Addr} {o:Obj},s.heap.get? b=some o->b≠s.heap.objs.size+1:=fun e=>zWp (zXJ (zWf e));have tr:∀ b u,H' b=some u->b≠s.heap.objs.size+1:=fun b u e z=>by rw[z,nC]at e;cases e
 refine ⟨?_,eD'⟩;have B:=Ic.base;have un:Un (frs X.stack) fp H H' s.heap h':=by
  refine ⟨fun b o e q hb hx=>hs.extBut b o (lt1 e) (B.keep b o e q hb hx),fun b o e q hb hx=>?_,fun b o e q hx=>B.free b o e q hx,fun b o e hx=>?_,fun b xs e=>B.tups b xs e,fun b o xs e=>B.frzs b o xs e,fun b ps e=>B.tbls b ps e⟩
  ·obtain ⟨sl,e1⟩:=B.slot b o e q hb hx;exact ⟨sl,hs.extBut b _ (lt1 e) e1⟩
  ·obtain ⟨o',e1⟩:=B.there b o e hx;exact ⟨o',hs.extBut b _ (lt1 e) e1⟩
 have hok:HOk X.prog X.w H' h':=fun b u e=>by
  refine (Ic.hok b u e).stay (fun c v hc q=>hs.extBut c v ?_ q) (fun c q=>q) fun c xs q=>q;rcases hc with z|z
  ·rw[z];exact tr b u e
  ·exact tr c _ z
 exact I.call' (s':={ s' with heap:=h' }) (ch:=fp) Ic.os un hok Ic.bare fun b hb=>⟨(hf b hb).2.2.2.1,(hf b hb).2.1,(hf b hb).2.2.2.2.1,(hf b hb).2.2.2.2.2⟩
end
abbrev TZ:=St->Hp->(List Int->Hp->Prop)->Prop
def PZ (X:Cx) (e:Expr) (t:TZ):Prop:=∀ (zB:List (Addr × Obj)) (s:Shared) (σ:St) (H:Hp) (Q:List Int->Hp->Prop),Inv X zB σ H s->t σ H Q ->
 wpAny (model X.prog X.w) X.A (eval e X.env) (fun v s'=>∃ a o es ep tb ks H',v=.ref a/\s'.heap.get? a=some o/\SetK (intKind X.prog X.w) o es ep tb ks/\Inv X zB σ H' s'/\Q ks H') X.xe s
def zLL (own:List Nat) (wi:TI) (g:TG) (tc:TT) (te:TE):TZ:=fun σ H Q=>wi σ H fun J H1=>∃ W:Nat->Nat->List Int->Hp->Prop,(∃ m,W 0 m [] H1) /\ ∀ i m ys H,W i m ys H ->
 (J.stop i H/\Q ys H) \/
 (J.go i H /\ ∀ x H',J.yld i H x H'->g x (clr own σ) H' fun σ2 H2=>Ext (clr own σ) σ2/\tc σ2 H2 fun b H3=>
  if b=true then te σ2 H3 fun v H4=>∃ k,v=.int k/\ys.length+1<scanBound /\ ∃ m',m'<m/\W (i+1) m' (ins ys k) H4 else ∃ m',m'<m/\W (i+1) m' ys H3)
section
variable {X:Cx} {scope:Scope} {tg elt iter:Expr} {ifs:List Expr} {pos:Pos} {own:List Nat} {wi:TI} {g:TG} {tc:TT} {te:TE}
theorem zRx (C:CompIn X scope own) (hcalm:X.calm=true) (hi:PI X tg iter wi) (p:CompParts X scope tg ifs elt g tc te) (hs:∀ x,foldedSetIterable iter X.env x=pure x:=by intro _;rfl) :
  PZ X (.SetComp elt [⟨tg,iter,ifs,0⟩] scope pos) (zLL own wi g tc te):=by
 intro zB s σ H Q I h;obtain ⟨cl,hcl,c1,c2⟩:=C.sc.closure I;rw[arm_eval_SetComp];refine zYO (use:=none) rfl hs hcl C.sc.kind C.sc.names (thn (hi zB s σ H _ I h) fun v s1 h1=>thn h1 fun itv s2 h2=>?_);obtain ⟨it,fp,tn,J,H2,e,I2,T,st2,f2,W,⟨m0,w0⟩,turn⟩:=h2;subst e;refine zHL C hcalm I2 T st2 f2 c1 c2 (p.g _ _ _ _ _) (p.c _ _ _ _ _) (p.e _ _ _ _ _) (RR:=fun acc C r s'=>compPost (model X.prog X.w) X.A X.xe none (fun v s'=>∃ a o es ep tb ks H',v=.ref a/\s'.heap.get? a=some o/\SetK (intKind X.prog X.w) o es ep tb ks/\Inv X zB σ H' s'/\Q ks H') acc C r s') (QQ:=Q) w0 turn ?_;intro σc H' s' o es ep t ys Ic rv qq;obtain ⟨m,hn,_⟩:=Ic.loc;refine ⟨m,hn,fun h' hs'=>?_⟩;obtain ⟨J',eD⟩:=zJv I2 f2 Ic hs';exact ⟨_,o,es,ep,t,ys,H',rfl,eD,rv,J',qq⟩
end
end L2
namespace ST
open PySem PySem.Spec PyProof.Rows
open Sem (wp)
section
variable {prog:Program} {w:World} {A:Around} {E:Value->Shared->Prop} {s:Shared}
variable {K:Type} [DecidableEq K] {knd:KeyKind prog w K}
def zV (ks:List K):List K:=ks.foldl ins []
theorem zEB (ks:List K) (k:K):zV (ks++[k])=ins (zV ks) k:=by unfold zV;rw[List.foldl_append];rfl
theorem zSH (ks:List K) (k:K):(ins ks k).length<=ks.length+1:=by unfold ins;split <;> simp
theorem zBt (ks:List K):(zV ks).length<=ks.length:=by
 have:∀ (l acc:List K),(l.foldl ins acc).length<=acc.length+l.length:=by
  intro l;induction l with
  |nil=>intro acc;simp
  |cons x r ih=>intro acc;have:=ih (ins acc x);have:=zSH acc x;simp only[List.foldl_cons,zW1];omega
 simpa [zV] using this ks []
theorem zRr (ks:List K) (k x:K):x∈ins ks k ↔ x∈ks\/x=k:=by
 unfold ins;split
 ·rename_i h;constructor
  ·exact .inl
  ·rintro (z|z)
   ·exact z
   ·rw[z];exact h
 ·simp
theorem zEj (ks:List K) (x:K):x∈zV ks ↔ x∈ks:=by
  have:∀ (l acc:List K),x∈l.foldl ins acc ↔ x∈acc\/x∈l:=by
    intro l;induction l with
    |nil=>intro acc;simp
    |cons y r ih=>intro acc;rw[List.foldl_cons,ih,zRr,zWg];simp[or_assoc]
  simpa [zV] using this ks []
theorem zOw (h : ks.Nodup) (k : K) : (ins ks k).Nodup := by
  unfold ins;split
  ·exact h
  · rename_i q
    rw[zXi]
    exact ⟨h, by simp, fun a ha b hb z => by have : b = k := by simpa using hb
                                             subst this;subst z;exact q ha⟩
theorem zJE (ks:List K):(zV ks).Nodup:=by
 have:∀ (l acc:List K),acc.Nodup->(l.foldl ins acc).Nodup:=by
  intro l;induction l with
  |nil=>intro acc h;exact h
  |cons y r ih=>intro acc h;exact ih _ (zOw h y)
 exact this ks [] (by simp)
variable {R:Result->Shared->Prop} {I:Addr} {fp wr:List Addr} {G:Array GenState->Array GenState->Prop} {n:Nat} {P:Nat->Value->Prop} {St:Nat->Shared->Prop}
end
def zDn (ks:List Int):List Int:=ks.mergeSort fun a b=>decide (a<=b)
theorem zBy (ks:List Int):(zDn ks).Perm ks:=List.mergeSort_perm _ _
theorem zHj (ks:List Int):(zDn ks).Pairwise (· <= ·):=by
 have:=List.pairwise_mergeSort (le:=fun (a b:Int)=>decide (a<=b)) (fun a b c h1 h2=>by simp at h1 h2 ⊢;omega) (fun a b=>by simp;omega) ks;exact this.imp fun h=>by simpa using h
theorem zIY:∀ {xs ys:List Int},xs.Perm ys->xs.Pairwise (· <= ·)->ys.Pairwise (· <= ·)->xs=ys
 |[],ys,p,_,_=>by have:=p.length_eq;simp at this;rw[List.length_eq_zero_iff.mp this.symm]
 |x::xs,[],p,_,_=>by have:=p.length_eq;simp at this
 |x::xs,y::ys,p,h1,h2=>by
  have hx:=zYe.mp h1;have hy:=zYe.mp h2;have e:x=y:=by
   have a:x∈y::ys:=p.mem_iff.mp zWi;have b:y∈x::xs:=p.mem_iff.mpr zWi;rcases zWg.mp a with z|z
   ·exact z
   ·rcases zWg.mp b with q|q
    ·exact q.symm
    ·exact Int.le_antisymm (hx.1 y q) (hy.1 x z)
  subst e;rw[zIY (p.cons_inv) hx.2 hy.2]
theorem zKc (p:xs.Perm ys) (h:xs.Pairwise (· <= ·)):xs=zDn ys:=zIY (p.trans (zBy ys).symm) h (zHj ys)
section
variable {prog:Program} {w:World} {A:Around} {E:Value->Shared->Prop} {s:Shared}
theorem zMA
  (hc:wpAny (model prog w) A.in1 (collect v) (fun vs s1=>∃ ns,IntsAre vs ns/\vs.length<64 /\ ∀ (h':Heap) (out:List Value) (n:Nat),(∀ b u,s1.heap.get? b=some u->h'.get? b=some u)->h'.get? s1.heap.objs.size=some (seqObj "list" out.toArray n)->IntsAre out (zDn ns)->Q (.ref s1.heap.objs.size) { s1 with heap:=h' }) E s) :
  wpAny (model prog w) A (call (.builtin "sorted") [v]) Q E s:=by
 refine Calls.call_function_entry kind_sorted plain_sorted entry_sorted (args_sorted1 _) ?_;unfold Builtin.«sorted»;refine zWU (m:=checkCount "sorted" 1 1 _) (zWW ?_);refine zWU (zW0 hc (fun vs s1 h1=>?_) fun _ _ h'=>h');obtain ⟨ns,hI,h64,h⟩:=h1;refine zWU (wpAny_newList ?_ (by rw[sizeLine_eq];omega));have hoL:(s1.heap.push (seqObj "list" vs.toArray 0)).get? s1.heap.objs.size=some (seqObj "list" vs.toArray 0):=zWe _ rfl;refine zWU (zXN (zW7 slot_list_sort ⟨_,hoL,rfl⟩ entry_list_sort (list_sort_tree (s:={ s1 with heap:=s1.heap.push (seqObj "list" vs.toArray 0) }) hoL hI h64 fun out ns' a1 a2 a3=>⟨_,rfl,?_⟩) (args_list_sort _)));refine zWW ⟨_,rfl,?_⟩;have g1:=get?_update_seq hoL (fun _=> #[]);have g2:(((s1.heap.push (seqObj "list" vs.toArray 0)).update s1.heap.objs.size (Obj.mapSeq fun _=> #[])).push (seqObj "tuple" vs.toArray 0)).get? s1.heap.objs.size=_:=zWV _ g1;have g3:=zWV (seqObj "list" #[] 0) g2;have g4:=get?_update_seq g3 (fun _=>out);have eS:=zKc a2 a3;subst eS;refine h _ out.toList _ (fun b u e=>?_) (by rw[Array.toArray_toList];exact g4) a1;have hb:s1.heap.objs.size≠b:=fun z=>zXC _ (z▸zWf e);exact (zXB _ _ hb).trans (zWV _ (zWV _ ((zXB _ _ hb).trans (zWV _ e))))
theorem zNx (h:F2 (zUH (intKind prog w)) es ks):IntsAre (es.map (·.2)) ks:=by
 induction h with
 |nil=>exact .nil
 |cons h _ ih=>
  obtain ⟨⟨h1,_⟩,_⟩:=h;obtain ⟨t,e⟩:=Value.isInt_shape h1;rw[zWn,e];exact .cons _ _ ih
theorem zNd (p:us.Perm vs):∀ {ks:List Int},IntsAre vs ks -> ∃ ks',ks'.Perm ks/\IntsAre us ks':=by
 have p':=p.symm;clear p;induction p' with
 |nil=>intro ks h;exact ⟨ks,.refl _,h⟩
 |cons x _ ih=>
  intro ks h;cases h with
  |cons n t r=>
   obtain ⟨ys',q1,q2⟩:=ih r;exact ⟨_,q1.cons _,.cons _ _ q2⟩
 |swap x y l=>
  intro ks h;cases h with
  |cons n t r=>
   cases r with
   |cons n2 t2 r=>exact ⟨_,List.Perm.swap _ _ _,.cons _ _ (.cons _ _ r)⟩
 |trans _ _ ih1 ih2=>
  intro ks h;obtain ⟨ys',q1,q2⟩:=ih1 h;obtain ⟨ys'',r1,r2⟩:=ih2 q2;exact ⟨ys'',r1.trans q1,r2⟩
theorem zLc (p:xs.Perm ys):zDn xs=zDn ys:=zKc ((zBy xs).trans p) (zHj xs)
theorem zL7 (hh:A.handled=none) (ho:s.heap.get? a=some o) (hS:SetK (intKind prog w) o es ep t ks) (h64:ks.length<64)
  (h:∀ (s1:Shared) (h':Heap) (out:List Value) (n:Nat),(∀ b u,s.heap.get? b=some u->s1.heap.get? b=some u)->s1.os=s.os->s1.gens=s.gens->(∀ b u,s1.heap.get? b=some u->h'.get? b=some u)->h'.get? s1.heap.objs.size=some (seqObj "list" out.toArray n)->IntsAre out (zDn ks)->Q (.ref s1.heap.objs.size) { s1 with heap:=h' }) :
  wpAny (model prog w) A (call (.builtin "sorted") [.ref a]) Q E s:=by
 refine zMA (zLG (A:=A.in1) hh ho hS fun s' acc k1 k2 k3 hp=>?_);obtain ⟨ks',p,f⟩:=hS.ent;obtain ⟨ks2,p2,f2⟩:=zNd hp (zNx f);refine ⟨ks2,f2,?_,fun h' out n e1 e2 e3=>?_⟩
 ·rw[hp.length_eq,zWd,zXD,hS.size];exact h64
 ·rw[zLc (p2.trans p)]at e3;exact h s' h' out n k1 k2 k3 e1 e2 e3
end
end ST
namespace L2
open PySem PySem.Spec PyProof.Rows ST
section
variable {X:Cx} {e:Expr} {p pos:Pos} {zB:List (Addr × Obj)} {σ:St} {H:Hp} {s:Shared}
theorem Inv.kept' (I:Inv X zB σ H s) (k:∀ b u,s.heap.get? b=some u->s1.heap.get? b=some u) (ho:s1.os=s.os) (hg:s1.gens=s.gens):Inv X zB σ H s1 :=
 I.call' (ch:=[]) ho (Un.kept k) (I.hok.kept k) (by rw[hg];exact I.bare) fun b hb=>nomatch hb
theorem zHS:∀ {ns:List Int} {us:List Value},IntsAre us ns->ze (ns.map V.int) us
 |_,_,.nil=> .nil
 |_,_,.cons n t h=> .cons ⟨t,rfl⟩ (zHS h)
theorem zP8 (ks:List Int):(zDn ks).length=ks.length:=(zBy ks).length_eq
theorem zPX (hc:X.calm=true) (hg:Gl X "sorted") (hm:X.mg "sorted" = none) (ha:PZ X e t) (hs:starEach [e] X.env=(false,eval e X.env)::starEach [] X.env:=by rfl) (hpl:(backTo pos (starEach [] X.env)).any (·.1)=false:=by rfl) :
  PE X (.Call (.Name "sorted" p) [e] [] pos) (fun σ H Q=>t σ H fun ks H1=>ks.length<64 /\ ∀ q,H1 q=none->Q (.ref q) (upd H1 q (.lst ((zDn ks).map V.int)))):=by
 intro zB s σ H Q I h;refine wpAny_Call_Name_kw (zEH I hg hm (by rfl) ?_ (by decide) (by decide));refine callWith_builtin1 ?_ hs hpl;rw[hs];refine Calls.spliced_cons (thn (ha zB s σ H _ I h) fun u s1 ⟨a,o,es,ep,tb,ks,H1,hv,ho,hS,I1,h64,q⟩=>Calls.spliced_nil ?_);subst hv;refine zL7 (I1.ok.hd hc) ho hS h64 fun s2 h' out n k1 k2 k3 k4 e4 i4=>?_;have I2:Inv X zB σ H1 s2:=I1.kept' k1 k2 k3;have hf:H1 s2.heap.objs.size=none:=I2.hok.fresh (zWa _);refine ⟨.ref s2.heap.objs.size,upd H1 s2.heap.objs.size (.lst ((zDn ks).map V.int)),I2.laid (t':=s2.toks) k4 (zWa _) ⟨by rw[zWd,zP8,sizeLine_eq];omega,out,n,zHS i4,e4⟩,rfl,q _ hf⟩
end
end L2
namespace L3
open PySem PySem.Spec PyProof.Rows L2 ST
abbrev FZ:=Sd->Mem->Option (List Int × Mem)
def trZ (K:PySem.W.Frag) (f:FZ):TZ:=fun τ H Q=>∃ L σ M ks M',Cor K L M H/\zBe L H σ τ/\f σ M=some (ks,M') /\ ∀ L' H',Stp L H L' H'->Cor K L' M' H'->Q ks H'
structure QZ (X:Cx) (e:Expr) (f:FZ):Prop where
 un:PZ X e (trZ X.K f)
theorem PZ.imp (h:PZ X e t) (hi:∀ τ H Q,t' τ H Q->t τ H Q):PZ X e t':=fun zB s σ H Q I q=>h zB s σ H Q I (hi _ _ _ q)
noncomputable def zIk (own:List Nat) (fi:FI) (g:FG) (tc:FT) (te:FE):FZ:=fun σ M=>match zm own fi g tc te σ M with
 |some (.fl ys,M2)=>match zAj ys with
  |some ks=>if ks.length+1<scanBound then some (zV ks,M2) else none
  |none=>none
 |_=>none
theorem zG0:∀ {as bs:List D} {zs:List Int},zAj (as++bs)=some zs -> ∃ xs ys,zAj as=some xs/\zAj bs=some ys/\zs=xs++ys
 |[],bs,zs,h=>⟨[],zs,rfl,h,rfl⟩
 |a::as,bs,zs,h=>by
  cases a with
  |int i=>
   rw[List.cons_append]at h;unfold zAj at h;split at h
   ·rename_i us e;cases h;obtain ⟨xs,ys,e1,e2,e3⟩:=zG0 e;refine ⟨i::xs,ys,?_,e2,by rw[e3];rfl⟩;unfold zAj;rw[e1]
   ·cases h
  |_=>cases h
theorem zK0 (h:zAj as=some xs):zAj (as++[.int i])=some (xs++[i]):=by
 induction as generalizing xs with
 |nil=>cases h;rfl
 |cons a as ih=>
  cases a with
  |int j=>
   unfold zAj at h;split at h
   ·rename_i us e;cases h;rw[List.cons_append];unfold zAj;rw[ih e];rfl
   ·cases h
  |_=>cases h
theorem zOl {K:PySem.W.Frag} {own:List Nat} {fi:FI} {g:TG} {fg:FG} {tc:FT} {te:FE} (hg:zFP own g fg) {τ:Sv} {H:Hp} {Q:List Int->Hp->Prop} (h:trZ K (zIk own fi fg tc te) τ H Q):zLL own (trI K fi) g (trT K tc) (trD K (toD te)) τ H Q:=by
 obtain ⟨L,σ,M,d,Mf,c,rs,hf,q⟩:=h;unfold zIk zm at hf;cases e1:fi σ M with
 |none=>rw[e1]at hf;cases hf
 |some r=>
  obtain ⟨xs,gd,M1⟩:=r;rw[e1]at hf;dsimp only at hf;by_cases hz:xs.length<=sizeLine
  ·rw[zWj hz]at hf;cases e2:zA2 fg tc te (zBD own σ) xs gd xs M1 with
   |none=>rw[e2]at hf;cases hf
   |some r=>
    obtain ⟨zs,M2⟩:=r;rw[e2]at hf;dsimp only at hf;split at hf
    ·rename_i kz ez;split at hf
     ·rename_i hb;cases hf;refine ⟨L,σ,M,_,_,_,c,rs,e1,fun L1 H1 J s1 c1 it=>?_⟩
      refine ⟨fun i m ys H'=>m=xs.length-i/\i<=xs.length /\ ∃ L' M' as bs ka,Stp L1 H1 L' H'/\Cor K L' M' H'/\zAj as=some ka/\ys=zV ka/\zA2 fg tc te (zBD own σ) xs gd (xs.drop i) M'=some (bs,Mf)/\as++bs=zs,
       ⟨xs.length,by simp,zXG _,L1,M1,[],zs,[],.refl _ _,c1,rfl,rfl,by simpa using e2,rfl⟩,?_⟩
      rintro i m ys H' ⟨rfl,hi,L',M',as,bs,ka,s',c',r',hl,e',hab⟩;by_cases hlt:i<xs.length
      ·rw[zCN hlt]at e';unfold zA2 at e';split at e'
       ·rename_i hgd;obtain ⟨step,_⟩:=it L' H' M' s' c' hgd;obtain ⟨go,yl⟩:=step i xs[i] (zWY hlt);split at e'
        ·rename_i σ1 eg;refine .inr ⟨go,fun v H2 hy=>?_⟩;obtain ⟨gr,rv⟩:=yl v H2 hy;have s2:Stp L1 H1 L' H2:=s'.yld gr;refine hg (zEM own ((rs.stp s1).stp s2)) (.refl _) rv eg fun τ2 r2 x2=>⟨x2,?_⟩;split at e'
         ·rename_i M3 e3;split at e'
          ·rename_i d M4 e4;split at e'
           ·rename_i ds M5 e5;cases e';refine ⟨L',σ1,M',_,_,c'.grow gr,r2,e3,fun L3 H3 s3 c3=>zHt ?_⟩;refine ⟨L3,σ1,M3,_,_,c3,r2.stp s3,e4,fun L4 H4 w s4 c4 r4=>?_⟩;have st:Stp L' H' L4 H4:=((Stp.grow gr).trans s3).trans s4;have ez':=ez;rw[<-hab]at ez';obtain ⟨x1,y1,g1,g2,g3⟩:=zG0 ez';obtain ⟨k,hk⟩:∃ k,d=.int k:=by
             cases d with
             |int k=>exact ⟨k,rfl⟩
             |_=>cases g2
            subst hk;have ew:w=.int k:=by unfold Rep at r4;exact r4
            have hka:ka.length<=kz.length:=by
             rw[r']at g1;cases g1;rw[g3,zWk];omega
            refine ⟨k,ew,?_,xs.length-(i+1),by omega,rfl,hlt,L4,M4,as++[.int k],ds,ka++[k],s'.trans st,c4,zK0 r',by rw[hl,zEB],e5,by rw[<-hab];simp⟩;rw[hl];have:=zBt ka;omega
           ·cases e'
          ·cases e'
         ·rename_i M3 e3;refine ⟨L',σ1,M',_,_,c'.grow gr,r2,e3,fun L3 H3 s3 c3=>zHB ?_⟩;have st:Stp L' H' L3 H3:=(Stp.grow gr).trans s3;exact ⟨xs.length-(i+1),by omega,rfl,hlt,L3,M3,as,bs,ka,s'.trans st,c3,r',hl,e',hab⟩
         ·cases e'
        ·cases e'
       ·cases e'
      ·have hi':i=xs.length:=by omega
       subst hi';rw[List.drop_length]at e';unfold zA2 at e';split at e'
       ·rename_i hgd;cases e';obtain ⟨_,stop⟩:=it L' H' _ s' c' hgd;rw[zXE]at hab;subst hab;rw[r']at ez;cases ez;refine .inl ⟨stop,?_⟩;rw[hl];exact q L' H' (s1.trans s') c'
       ·cases e'
     ·cases hf
    ·cases hf
  ·rw[zWm hz]at hf;cases hf
section
variable {X:Cx} {scope:Scope} {tg elt iter:Expr} {ifs:List Expr} {pos p:Pos} {own:List Nat} {e:Expr} {f:FE}
theorem zTk (hg:zFP own g fg) (C:CompIn X scope own) (hcalm:X.calm=true) (hi:QI X tg iter fi) (p:QParts X scope tg ifs elt g tc te) (hs:∀ x,foldedSetIterable iter X.env x=pure x:=by intro _;rfl) :
  QZ X (.SetComp elt [⟨tg,iter,ifs,0⟩] scope pos) (zIk own fi fg tc te) :=
 .mk <| PZ.imp (zRx C hcalm hi.un p.parts hs) fun _ _ _ h=>zOl hg h
def zGp (f:FZ):FE:=fun σ M=>match f σ M with
 |some (ks,M1)=>if ks.length<64 then some (.fl ((zDn ks).map D.int),M1) else none
 |none=>none
theorem zIg:∀ (ns:List Int),zQ L H (ns.map D.int) (ns.map V.int)
 |[]=> .nil
 |n::ns=> .cons zAi (zIg ns)
theorem zR7 (hc:X.calm=true) (hg:Gl X "sorted") (hm:X.mg "sorted" = none) (h:QZ X e fz) (hs:starEach [e] X.env=(false,eval e X.env)::starEach [] X.env:=by rfl) (hpl:(backTo pos (starEach [] X.env)).any (·.1)=false:=by rfl) :
  QE X (.Call (.Name "sorted" p) [e] [] pos) (zGp fz):=.mk <| PE.imp (zPX hc hg hm h.un hs hpl) fun τ H Q zz=>by
 obtain ⟨L,σ,M,d,M',c,rs,hf,q⟩:=zz;unfold zGp at hf;split at hf
 ·rename_i ks M1 e1;split at hf
  ·rename_i hb;cases hf;refine ⟨L,σ,M,_,_,c,rs,e1,fun L1 H1 s1 c1=>⟨hb,fun p hp=>?_⟩⟩;exact q L1 _ _ (s1.trans (.upd hp)) (c1.upd hp) (zf.newLst s1 c c1 hp (zIg _))
  ·cases hf
 ·cases hf
end
open AutoSeq1 (wpAny_loadPart')
theorem zT6 (hh:A.handled=none) (it l:Addr) (hne:l≠it) (items:Array Value) :
  Draws prog w A it [it,l] items.size (fun i v=>items[i]?=some v) (fun i h=>h.IsTupleIter it l i/\h.IsTuple l items) where
 live:=fun _ _ st=>let ⟨o,ho,_⟩:=st.1;⟨o,ho⟩;frame:=fun _ _ _ st hk=>⟨let ⟨o,ho,r⟩:=st.1;⟨o,hk it (by simp) o ho,r⟩,let ⟨o,ho,r⟩:=st.2;⟨o,hk l (by simp) o ho,r⟩⟩;item:=fun i s Q E hi st hQ=>by
  refine zDS st.1 st.2 (x:=items[i]) (by simp[hi]) fun h' hit' hs'=>?_;exact hQ _ h' s.toks (by simp[hi]) ⟨hit',Tup.but st.2 hs'.extBut hne⟩ hs'
 done:=fun s Q E st hE=>zEY hh st.1 st.2 (by simp) hE
theorem zK7 (l:Addr) (items:Array Value) (n:Nat) (dct:Option Addr) (sl:Array (Option Value)) :
  Meets (Builtin.«enumerate.__new__» ⟨[.type "enumerate", .ref l],[]⟩) (fun _ R s=>s.heap.get? l=some { cls:=.type "tuple", dict:=dct,data:=.seq items n,slots:=sl } /\
   R (.ok (.ret (.ref (s.heap.push { cls:=.type "tuple_iterator", data:=.fields #[.ref l,.int 0 0] }).objs.size)))
    { s with heap:=(s.heap.push { cls:=.type "tuple_iterator", data:=.fields #[.ref l,.int 0 0] }).push { cls:=.type "enumerate", data:=.fields #[.none,.bool false,.ref s.heap.objs.size,rawInt 0,.none,.none] } }) :=
 .of_wp fun prog w A R s h=>by
  obtain ⟨hp,g,d,tk,os⟩:=s;obtain ⟨hl,h⟩:=h;have hsub:=sub_enumerate;have hL:Heap.IsTuple (Shared.heap ⟨hp,g,d,tk,os⟩) l items:=⟨_,hl,rfl,n,rfl⟩;wp_walk using wpAny_loadPart' hl;refine wpAny_stack_any fun st=>zWW ?_;split
  ·rename_i c _ _ _ _ _;cases (c==Value.type "enumerate")
   ·wp_walk using wpAny_loadPart' hl,wpAny_pyIter_tuple hL;exact ⟨_,rfl,h⟩
   ·wp_walk using wpAny_loadPart' hl,wpAny_pyIter_tuple hL;exact ⟨_,rfl,h⟩
  ·wp_walk using wpAny_loadPart' hl,wpAny_pyIter_tuple hL;exact ⟨_,rfl,h⟩
section
variable {prog:Program} {w:World} {A:Around} {E:Value->Shared->Prop} {s:Shared}
theorem zMm (hL:s.heap.IsTuple l items)
  (h:∀ h',IsEnum h' (s.heap.objs.size+1) s.heap.objs.size 0 .none->h'.IsTupleIter s.heap.objs.size l 0->(∀ c o,s.heap.get? c=some o->h'.get? c=some o)->Q (.ref (s.heap.objs.size+1)) { s with heap:=h' }) :
  wpAny (model prog w) A (call (.type "enumerate") [.ref l]) Q E s:=by
 obtain ⟨o,ho,hc,n,hd⟩:=hL;obtain ⟨ocls,odict,odata,oslots⟩:=o;simp only at hc hd;subst hc;subst hd;refine callType_new PySem.F.called_enumerate (by decide) (PySem.F.typeCall_enumerate_1 _) (PySem.F.newCall_enumerate_1 _) (fun obj=>PySem.F.args_object_init_2 obj _) PySem.F.entry_enumerate_new (zK7 l items n odict oslots) ⟨ho,?_⟩;have q1:(s.heap.push { cls:=.type "tuple_iterator", data:=.fields #[.ref l,.int 0 0] }).objs.size=s.heap.objs.size+1:=zXA ..;have p2:((s.heap.push { cls:=.type "tuple_iterator", data:=.fields #[.ref l,.int 0 0] }).push { cls:=.type "enumerate", data:=.fields #[.none,.bool false,.ref s.heap.objs.size,rawInt 0,.none,.none] }).get? (s.heap.push { cls:=.type "tuple_iterator", data:=.fields #[.ref l,.int 0 0] }).objs.size=some _:=zWe _ rfl;rw[q1]at p2;rw[q1];exact ⟨⟨_,p2,rfl⟩,h _ p2 ⟨_,zWV _ (zWe _ rfl),rfl,rfl⟩ fun c o x=>zWV _ (zWV _ x)⟩
theorem zLV (he:IsEnum s.heap e it i old)
  (hn:∀ (Q':Value->Shared->Prop) (E':Value->Shared->Prop),(∀ h' x,Heap.ExtBut it s.heap h'->(∃ o,h'.get? x=some o/\o.cls=.type "StopIteration")->E' (.ref x) { s with heap:=h' })->wpAny (model prog w) A.in1 (Builtin.SmallTypes.nextOf (.ref it)) Q' E' s)
  (hQ:∀ h',Heap.ExtBut it s.heap h'->Q none { s with heap:=h' }):wpAny (model prog w) A (pyNext (.ref e)) Q E s:=by
 have hT:s.TypeIs (.ref e) "enumerate" := ⟨_,he,rfl⟩;unfold pyNext
 refine zWU (wpAny_attempt (zW6 (name:=Str.ofString "__next__") hT PySem.F.slot_enumerate_next
  (zW7 PySem.F.slot_enumerate_next hT PySem.F.entry_enumerate_next ?_ (PySem.F.args_enumerate_next_1 _))))
 show wpAny _ _ (field (.ref e) 2 >>= _) _ _ _;refine zWU (zW9 he rfl (x:=.ref it) rfl ?_);refine zWU (hn _ _ fun h' x he' hx'=>?_);obtain ⟨o,ho,hc⟩:=hx';refine zWU (wpAny_isInstance (T := "StopIteration") (b:=true) ⟨o,ho,hc⟩ isSubtype_stop ?_);exact zWW (hQ _ he')
end
def zKS (K:PySem.W.Frag) (isT:Bool) (a:Addr):It :=
 ⟨fun i H=>∃ xs x,(if isT then SqT K H a xs else SqL K H a xs)/\xs[i]?=some x,
  fun i H v H'=>∃ T x,v=.ref T/\H T=none/\H'=upd H T (.tup [.int i,x]) /\ ∀ xs,(if isT then SqT K H a xs else SqL K H a xs)->xs[i]?=some x,
  fun i H=>∃ xs,(if isT then SqT K H a xs else SqL K H a xs)/\xs.length<=i⟩
def zSA (isT:Bool) (it a:Addr) (i:Nat) (h:Heap):Prop:=if isT then h.IsTupleIter it a i else h.IsListIter it a i
theorem zOG {P:Program} {w:World} {K:PySem.W.Frag} {es:List Expr} {ek:Nat} {ep:Pos} {isT:Bool} {e it a:Addr} (hei:e≠it) (hae:a≠e) (hai:a≠it) :
  Turn P w K (.Tuple es ek ep) (zKS K isT a) [e,it] e (fun i h=>(∃ old,IsEnum h e it i old)/\zSA isT it a i h) where
 mem:=by simp
 obj:=fun i h ⟨⟨old,he⟩,st⟩ c hc=>by
  simp only[zWg,zWz,zXp]at hc;rcases hc with rfl|rfl
  ·exact ⟨_,he,fun v m=>by cases m⟩
  ·cases isT with
   |true=>obtain ⟨o1,e1,_,d1⟩:=(show h.IsTupleIter c a i from st);exact ⟨_,e1,fun v m=>by rw[d1]at m;cases m⟩
   |false=>obtain ⟨o1,e1,_,d1⟩:=(show h.IsListIter c a i from st);exact ⟨_,e1,fun v m=>by rw[d1]at m;cases m⟩
 keep:=fun i h h' ⟨⟨old,he⟩,st⟩ k=>by
  refine ⟨⟨old,k e (by simp) _ he⟩,?_⟩;cases isT with
  |true=>obtain ⟨o1,e1,r⟩:=(show h.IsTupleIter it a i from st);exact ⟨o1,k it (by simp) _ e1,r⟩
  |false=>obtain ⟨o1,e1,r⟩:=(show h.IsListIter it a i from st);exact ⟨o1,k it (by simp) _ e1,r⟩
 item:=by
  intro X hP hw hK hc i zB s σ H E I hf Z hg;subst hP hw hK;obtain ⟨⟨old,he⟩,st⟩:=Z;obtain ⟨xs,x,sa,hx⟩:=hg;have hch:∀ c∈[e,it],zCE X zB H c:=hf;have elt:e<s.heap.objs.size:=zWf he
  have fin:∀ (its:List Value) (u:Value) (h':Heap) (tk:Nat),ze xs its->its[i]?=some u->IsEnumOut h' e it ((i:Int)+1) u s.heap.objs.size->zSA isT it a (i+1) h'->h'.get? s.heap.objs.size=some { cls:=.type "tuple", data:=.seq #[.int i tk,u] } ->
    (∀ b o,b≠e->b≠it->s.heap.get? b=some o->h'.get? b=some o)->it<s.heap.objs.size ->
    ∃ u',some (Value.ref s.heap.objs.size)=some u'/\wpAny (model X.prog X.w) X.A (letOwnedTupleGo (.Tuple es ek ep) (.ref e) u') (fun _ s2=>∃ x H',Inv X zB σ H' s2/\zp x u'/\(zKS X.K isT a).yld i H x H'/\((∃ old,IsEnum s2.heap e it ((i+1:Nat):Int) old)/\zSA isT it a (i+1) s2.heap) /\ ∀ b∈[e,it],H' b=none) E { s with heap:=h',toks:=tk+1 }:=by
   intro its u h' tk rv hu ho st' hT hk ilt;refine ⟨_,rfl,wpAny_letOwnedTupleGo_enum ho fun h2 he2 e2=>?_⟩;have kk:∀ c o,c∉[e,it]->s.heap.get? c=some o->h2.get? c=some o:=fun c o n q=>by
    simp only[zWg,zWz,zXp,not_or]at n;exact e2.extBut _ _ n.1 (hk c o n.1 n.2 q)
   have NT:=e2.extBut _ _ (zXz elt) hT;have hfr:H s.heap.objs.size=none:=I.hok.fresh (zWa _);obtain ⟨u2,hu2,ru⟩:=rv.get hx;rw[hu]at hu2;cases hu2;refine ⟨.ref s.heap.objs.size,upd H s.heap.objs.size (.tup [.int i,x]),zGE (s:=s) (h':=h2) (t':=tk+1) I hch kk (zWa _) ?_,rfl,⟨_,x,rfl,hfr,rfl,fun ws hw=>?_⟩,⟨⟨u,by simpa using he2⟩,?_⟩,fun c hm=>?_⟩
   ·exact ⟨by show 2<=sizeLine;decide,[.int i tk,u],.cons ⟨tk,rfl⟩ (.cons ru .nil),⟨_,NT,rfl,⟨_,rfl⟩,rfl⟩⟩
   ·cases isT with
    |true=>rw[I.tuple_inj hw sa];exact hx
    |false=>rw[I.list_inj hw sa];exact hx
   ·cases isT with
    |true=>obtain ⟨o1,e1,r⟩:=(show h'.IsTupleIter it a (i+1)from st');exact ⟨o1,e2.extBut _ _ hei.symm e1,r⟩
    |false=>obtain ⟨o1,e1,r⟩:=(show h'.IsListIter it a (i+1)from st');exact ⟨o1,e2.extBut _ _ hei.symm e1,r⟩
   ·have lt:c<s.heap.objs.size:=by
     simp only[zWg,zWz,zXp]at hm;rcases hm with rfl|rfl
     ·exact elt
     ·exact ilt
    rw[zZ (zWp lt)];exact (hf c hm).1
  have hef:e∉[it,a]:=by simp only[zWg,zWz,zXp,not_or];exact ⟨hei,hae.symm⟩
  cases isT with
  |true=>
   obtain ⟨its,rv,p1,z1⟩:=I.tuple sa;have st':s.heap.IsTupleIter it a i:=st;obtain ⟨o1,e1,_⟩:=id st';refine wpAny_pyNext_enum_itemD (zT6 (prog:=X.prog) (w:=X.w) (A:=X.A.in1) (I.ok.hd hc) it a hai its.toArray) he ⟨st',show s.heap.IsTuple a its.toArray from p1⟩ (by have:=rv.length;have:=(zWX.mp hx).1;rw[zWc];omega) hei hef fun u h' tk hu ho hs hT _ hk=>?_;exact fin its u h' tk rv (by simpa using hu) ho hs.1 hT hk (zWf e1)
  |false=>
   obtain ⟨its,rv,p1,z1⟩:=I.list sa;have st':s.heap.IsListIter it a i:=st;obtain ⟨o1,e1,_⟩:=id st';refine wpAny_pyNext_enum_itemD (Draws.list (prog:=X.prog) (w:=X.w) (A:=X.A.in1) (I.ok.hd hc) it a hai its.toArray) he ⟨st',p1.isList⟩ (by have:=rv.length;have:=(zWX.mp hx).1;rw[zWc];omega) hei hef fun u h' tk hu ho hs hT _ hk=>?_;exact fin its u h' tk rv (by simpa using hu) ho hs.1 hT hk (zWf e1)
 done:=by
  intro X hP hw hK hc i zB s σ H E I hf Z hg;subst hP hw hK;obtain ⟨⟨old,he⟩,st⟩:=Z;obtain ⟨xs,sa,hz⟩:=hg;have out:∀ h',Heap.ExtBut it s.heap h'->(none:Option Value)=none/\Inv X zB σ H { s with heap:=h' }:=fun h' x=>⟨rfl,zEZ (s:=s) (h':=h') (t':=s.toks) I hf fun c o n q=>x c o (fun m=>n (by simp[m])) q⟩;cases isT with
  |true=>
   obtain ⟨its,rv,p1,z1⟩:=I.tuple sa;refine zLV he (fun Q' E' hq=>zEY (I.ok.hd hc) (show s.heap.IsTupleIter it a i from st) (show s.heap.IsTuple a its.toArray from p1) (by have:=rv.length;simp;omega) hq) out
  |false=>
   obtain ⟨its,rv,p1,z1⟩:=I.list sa;refine zLV he (fun Q' E' hq=>wpAny_nextOf_list_end (I.ok.hd hc) (show s.heap.IsListIter it a i from st) p1.isList (by have:=rv.length;simp;omega) hq) out
 self:=fun _ _ _ _ _ Z h=>let ⟨⟨_,he⟩,_⟩:=Z;wpAny_pyIter_enum he h
section
variable {X:Cx} {a:Expr} {es:List Expr} {ek:Nat} {ep p pos:Pos}
theorem zRv {te:TE} (hg:Gl X "enumerate") (hm:X.mg "enumerate" = none) (ha:PE X a te) (hs:starEach [a] X.env=(false,eval a X.env)::starEach [] X.env:=by rfl) (hpl:(backTo pos (starEach [] X.env)).any (·.1)=false:=by rfl) :
  PI X (.Tuple es ek ep) (.Call (.Name "enumerate" p) [a] [] pos) (fun σ H R=>te σ H fun x H1=>∃ l,x=.ref l/\((∃ xs,SqT X.K H1 l xs)/\R (zKS X.K true l) H1\/(∃ xs,SqL X.K H1 l xs)/\R (zKS X.K false l) H1)):=by
 intro zB s σ H R I h;refine wpAny_Call_Name_kw (zEH I hg hm (by rfl) ?_ (by decide) (by decide));refine callWith_type1 ?_ hs hpl;rw[hs];refine Calls.spliced_cons (thn (ha zB s σ H _ I h) fun u s1 ⟨x,H1,I1,r1,l,hx,q⟩=>Calls.spliced_nil ?_);subst hx;cases r1
 have out:∀ (isT:Bool) (h':Heap),l<s1.heap.objs.size->IsEnum h' (s1.heap.objs.size+1) s1.heap.objs.size 0 .none->zSA isT s1.heap.objs.size l 0 h'->(∀ c o,s1.heap.get? c=some o->h'.get? c=some o)->R (zKS X.K isT l) H1 ->
   wpAny (model X.prog X.w) X.A (pyIter (.ref (s1.heap.objs.size+1))) (PIE X zB σ (.Tuple es ek ep) R) X.xe { s1 with heap:=h' }:=by
  intro isT h' hl he st kp q;refine wpAny_pyIter_enum (s:={ s1 with heap:=h' }) he ?_;refine ⟨s1.heap.objs.size+1,[s1.heap.objs.size+1,s1.heap.objs.size],_,_,H1,rfl,I1.kept (t':=s1.toks) kp,zOG (isT:=isT) (zXz (zXR _)) (zWp (zXJ hl)) (zWp hl),⟨⟨_,he⟩,st⟩,fun c hc=>?_,q⟩;have ge:s1.heap.objs.size<=c:=by
   simp only[zWg,zWz,zXp]at hc;rcases hc with rfl|rfl
   ·exact Nat.le_succ _
   ·exact zWa _
  exact I1.fpOk ge (I1.hok.fresh ge)
 rcases q with ⟨⟨xs,hq⟩,q⟩|⟨⟨xs,hq⟩,q⟩
 ·obtain ⟨its,rv,p1,_⟩:=I1.tuple hq;have hl:l<s1.heap.objs.size:=by obtain ⟨_,e,_⟩:=p1;exact zWf e
  exact zMm (show s1.heap.IsTuple l its.toArray from p1) fun h' he st kp=>out true h' hl he st kp q
 ·obtain ⟨its,rv,p1,_⟩:=I1.list hq;have hl:l<s1.heap.objs.size:=by obtain ⟨_,_,e,_⟩:=p1;exact zWf e
  exact call_enumerate_list p1.isList fun h' he st _ kp=>out false h' hl he st kp q
def zJJ (xs:List D):List D:=((List.range xs.length).zip xs).map fun q=>D.tup [.int (q.1:Nat),q.2]
theorem zPl {xs:List D} {i:Nat} {d:D} (h:(zJJ xs)[i]?=some d):∃ x,xs[i]?=some x/\d=.tup [.int (i:Nat),x]:=by
 unfold zJJ at h;rw[zWr]at h;cases e:((List.range xs.length).zip xs)[i]? with
 |none=>rw[e]at h;cases h
 |some pr=>
  rw[e]at h;cases h;obtain ⟨f1,f2⟩:=List.getElem?_zip_eq_some.mp e;have hi:i<xs.length:=(zWX.mp f2).1;rw[zYY hi]at f1;cases f1;exact ⟨pr.2,f2,rfl⟩
theorem zPJ (xs:List D):(zJJ xs).length=xs.length:=by unfold zJJ;simp
def zF7 (f:FE):FI:=fun σ M=>match f σ M with
 |some (x,M1)=>match zAb M1 x with
  |some xs=>some (zJJ xs,zCz x xs,M1)
  |none=>none
 |none=>none
theorem zSN {g:FE} (hg:Gl X "enumerate") (hm:X.mg "enumerate" = none) (h:QE X a g) (hs:starEach [a] X.env=(false,eval a X.env)::starEach [] X.env:=by rfl) (hpl:(backTo pos (starEach [] X.env)).any (·.1)=false:=by rfl) :
  QI X (.Tuple es ek ep) (.Call (.Name "enumerate" p) [a] [] pos) (zF7 g):=.mk <| PI.imp (zRv hg hm h.un hs hpl) fun τ H R zz=>by
 obtain ⟨L,σ,M,xs,gd,M',c,rs,hf,q⟩:=zz;unfold zF7 at hf;split at hf
 ·rename_i y M1 e1;split at hf
  ·rename_i zs e2;cases hf;refine ⟨L,σ,M,_,_,c,rs,e1,fun L1 H1 v s1 c1 r1=>?_⟩
   have step:∀ (isT:Bool) (l:Addr) (L2:List Addr) (H2:Hp) (vs:List V),(if isT then SqT X.K H2 l vs else SqL X.K H2 l vs)->zQ L2 H2 zs vs ->
     (∀ (i:Nat) d,(zJJ zs)[i]?=some d->(zKS X.K isT l).go i H2 /\ ∀ v H'',(zKS X.K isT l).yld i H2 v H''->(∀ a o,H2 a=some o->H'' a=some o)/\Rep L2 H'' d v)/\(zKS X.K isT l).stop (zJJ zs).length H2:=by
    intro isT l L2 H2 vs hq r;refine ⟨fun i d hd=>?_,⟨vs,hq,by rw[zPJ,r.length];exact zWa _⟩⟩;obtain ⟨x,hx,rfl⟩:=zPl hd;obtain ⟨u,hu,ru⟩:=r.get hx;refine ⟨⟨vs,u,hq,hu⟩,fun v H3 hy=>?_⟩;obtain ⟨T,x',rfl,hT,rfl,hxx⟩:=hy;have ex:=hxx vs hq;rw[hu]at ex;cases ex;exact ⟨fun a o e=>by rw[zZ (zAI e hT)];exact e,Rep.newTup hT (.cons zAi (.cons ru .nil))⟩
   unfold zAb at e2;cases t:zCH y with
   |some ws=>
    rw[t]at e2;cases e2;obtain ⟨a,vs,rfl,e3,r3⟩:=zB2 r1 t;refine ⟨a,rfl,.inl ⟨⟨vs,.of e3⟩,q L1 H1 _ s1 c1 fun L2 H2 M2 s2 c2 _=>?_⟩⟩;exact step true a L2 H2 vs (.of (s2.tup a vs e3)) (r3.stp s2)
   |none=>
    rw[t]at e2;obtain ⟨a,vs,rfl,e3,r3⟩:=zBI c1 r1 e2;refine ⟨a,rfl,.inr ⟨⟨vs,.inl e3⟩,q L1 H1 _ s1 c1 fun L2 H2 M2 s2 c2 hgd=>?_⟩⟩;have key:∃ vs',SqL X.K H2 a vs'/\zQ L2 H2 zs vs':=by
     cases y with
     |fl ys=>
      cases e2;obtain ⟨p',vs',hp',_,e5,e6,r6⟩:=r1;cases hp';exact ⟨vs',.of (s2.old _ _ e5 e6),r6.stp s2⟩
     |dat d=>
      cases d with
      |ref n=>
       unfold zf Rep at r1;obtain ⟨a',ha',e5⟩:=r1;cases ha';have e6:L2[n]?=some a:=by obtain ⟨N,hN⟩:=s2.pre;rw[hN];exact zBh e5
       rcases hgd with z|z
       ·obtain ⟨vs',e7,r7⟩:=c2.obj n a _ e6 z;exact ⟨vs',.of e7,r7⟩
       ·obtain ⟨o,vs',e7,r7⟩:=c2.obj n a _ e6 z;exact ⟨vs',.inl (.inr ⟨o,e7⟩),r7⟩
      |_=>cases e2
    obtain ⟨vs',hq,r7⟩:=key;exact step false a L2 H2 vs' hq r7
  ·cases hf
 ·cases hf
end
section
variable {κ:Type} [DecidableEq κ]
def zBq (kf:D->Option κ) (kvs:List (D × D)) (k:κ):Option D:=(kvs.find? fun p=>decide (kf p.1=some k)).map (·.2)
def zGO (kf:D->Option κ) (kvs:List (D × D)) (k:κ) (kd v:D):List (D × D) :=
 if (kvs.any fun p=>decide (kf p.1=some k))=true then kvs.map fun p=>if kf p.1=some k then (p.1,v) else p else kvs++[(kd,v)]
theorem zCT (k:κ):∀ {kvs:List (D × D)} {vs:List (κ × V)},zA0 kf L H kvs vs->(zBq kf kvs k=none/\zCK vs k=none) \/ ∃ d v,zBq kf kvs k=some d/\zCK vs k=some v/\Rep L H d v
 |[],vs,h=>by unfold zA0 at h;subst h;exact .inl ⟨rfl,rfl⟩
 |p::r,vs,h=>by
  obtain ⟨k',v,r',rfl,e,h1,h2⟩:=h;by_cases q:k'=k
  ·subst q;exact .inr ⟨p.2,v,by unfold zBq;rw[zYG,e];simp,by rw[zFC rfl],h1⟩
  ·have e1:zBq kf (p::r) k=zBq kf r k:=by unfold zBq;rw[zYG,e];simp[q]
   rw[e1,zFM q];exact zCT k h2
theorem zKk (k:κ):∀ {kvs:List (D × D)} {vs:List (κ × V)},zA0 kf L H kvs vs->(kvs.any fun p=>decide (kf p.1=some k))=(vs.any fun kv=>decide (kv.1=k))
 |[],vs,h=>by unfold zA0 at h;subst h;rfl
 |p::r,vs,h=>by
  obtain ⟨k',v,r',rfl,e,h1,h2⟩:=h;rw[List.any_cons,List.any_cons,zKk k h2,e];simp
theorem zHl (k:κ) (hd:Rep L H d u):∀ {kvs:List (D × D)} {vs:List (κ × V)},zA0 kf L H kvs vs->zA0 kf L H (kvs.map fun p=>if kf p.1=some k then (p.1,d) else p) (vs.map fun kv=>if kv.1=k then (kv.1,u) else kv)
 |[],vs,h=>by unfold zA0 at h;subst h;rfl
 |p::r,vs,h=>by
  obtain ⟨k',v,r',rfl,e,h1,h2⟩:=h;rw[zWn,zWn];by_cases q:k'=k
  ·subst q;rw[zWj e,zWj rfl];exact ⟨k',u,_,rfl,e,hd,zHl k' hd h2⟩
  ·rw[zWm (by rw[e];simpa using q),zWm q];exact ⟨k',v,_,rfl,e,h1,zHl k hd h2⟩
theorem zI1 (hk:kf kd=some k) (hd:Rep L H d u):∀ {kvs:List (D × D)} {vs:List (κ × V)},zA0 kf L H kvs vs->zA0 kf L H (kvs++[(kd,d)]) (vs++[(k,u)])
 |[],vs,h=>by unfold zA0 at h;subst h;exact ⟨k,u,[],rfl,hk,hd,rfl⟩
 |p::r,vs,h=>by
  obtain ⟨k',v,r',rfl,e,h1,h2⟩:=h;exact ⟨k',v,_,rfl,e,h1,zI1 hk hd h2⟩
theorem zJL {kf:D->Option κ} {L:List Addr} {H:Hp} {k:κ} {kd d:D} {u:V} (hk:kf kd=some k) (hd:Rep L H d u) {kvs:List (D × D)} {vs:List (κ × V)} (h:zA0 kf L H kvs vs):zA0 kf L H (zGO kf kvs k kd d) (zBs vs k u):=by
 unfold zGO zBs;rw[zKk k h];split
 ·exact zHl k hd h
 ·exact zI1 hk hd h
end
theorem zKR:∀ {ds:List D} {vs:List V} {ks:List Key},zQ L H ds vs->zHs ds=some ks->vs=ks.map kV
 |[],vs,ks,h,e=>by cases e;unfold zQ at h;exact h
 |d::ds,vs,ks,h,e=>by
  unfold zQ at h;obtain ⟨v,r,rfl,h1,h2⟩:=h;unfold zHs at e;cases e1:zCM d with
  |none=>rw[e1]at e;cases e
  |some k=>
   cases e2:zHs ds with
   |none=>rw[e1,e2]at e;cases e
   |some ks'=>
    rw[e1,e2]at e;cases e;rw[zGb h1 e1,zKR h2 e2];rfl
theorem zJR (h:Rep L H d v) (e:tkD d=some ks):∃ b,v=.ref b/\H b=some (.tup (ks.map kV)):=by
 cases d with
 |tup ds=>
  unfold Rep at h;obtain ⟨a,vs,rfl,e1,r⟩:=h;exact ⟨a,rfl,by rw[e1,zKR r e]⟩
 |_=>cases e
def zDC (M:Mem) (x:EV) (k:D):Option (Option D):=match x with
 |.dat (.ref n)=>match M[n]? with
  |some (.dict kvs)=>match zCM k with
   |some kk=>some (zBq zCM kvs kk)
   |none=>none
  |some (.dicT kvs)=>match tkD k with
   |some kk=>some (zBq tkD kvs kk)
   |none=>none
  |some (.froK kvs)=>match zCM k with
   |some kk=>some (zBq zCM kvs kk)
   |none=>none
  |some (.froT kvs)=>match tkD k with
   |some kk=>some (zBq tkD kvs kk)
   |none=>none
  |_=>none
 |_=>none
def zU4 (L:List Addr) (H:Hp):Option D->Option V->Prop
 |none,o=>o=none
 |some d,o=>∃ v,o=some v/\Rep L H d v
theorem zFR {K:PySem.W.Frag} {L:List Addr} {M:Mem} {H H0:Hp} {x:EV} {v w:V} {k:D} {o:Option D} (c:Cor K L M H) (rx:zf H0 L H x v) (rk:Rep L H k w) (e:zDC M x k=some o):∃ a ov,v=.ref a/\zDM H a w ov/\zU4 L H o ov:=by
 cases x with
 |fl xs=>cases e
 |dat d=>
  cases d with
  |ref n=>
   unfold zf Rep at rx;obtain ⟨a,rfl,ea⟩:=rx;unfold zDC at e;dsimp only at e;cases q:M[n]? with
   |none=>rw[q]at e;cases e
   |some m=>
    rw[q]at e;have z:=c.obj n a m ea q;cases m with
    |dict kvs=>
     cases e2:zCM k with
     |none=>rw[e2]at e;cases e
     |some kk=>
      rw[e2]at e;cases e;obtain ⟨vs,e3,r⟩:=z;refine ⟨a,zCK vs kk,rfl,?_,?_⟩
      ·rw[zGb rk e2];exact zDM.k e3
      ·rcases zCT kk r with ⟨h1,h2⟩|⟨d,v,h1,h2,h3⟩
       ·rw[h1,h2];rfl
       ·rw[h1,h2];exact ⟨v,rfl,h3⟩
    |dicT kvs=>
     cases e2:tkD k with
     |none=>rw[e2]at e;cases e
     |some kk=>
      rw[e2]at e;cases e;obtain ⟨vs,e3,r⟩:=z;obtain ⟨b,rfl,eb⟩:=zJR rk e2;refine ⟨a,zCK vs kk,rfl,zDM.t e3 eb,?_⟩;rcases zCT kk r with ⟨h1,h2⟩|⟨d,v,h1,h2,h3⟩
      ·rw[h1,h2];rfl
      ·rw[h1,h2];exact ⟨v,rfl,h3⟩
    |froK kvs=>
     cases e2:zCM k with
     |none=>rw[e2]at e;cases e
     |some kk=>
      rw[e2]at e;cases e;obtain ⟨ob,vs,e3,r⟩:=z;refine ⟨a,zCK vs kk,rfl,.inl ⟨vs,kk,.inr ⟨ob,e3⟩,zGb rk e2,rfl⟩,?_⟩;rcases zCT kk r with ⟨h1,h2⟩|⟨d,v,h1,h2,h3⟩
      ·rw[h1,h2];rfl
      ·rw[h1,h2];exact ⟨v,rfl,h3⟩
    |froT kvs=>
     cases e2:tkD k with
     |none=>rw[e2]at e;cases e
     |some kk=>
      rw[e2]at e;cases e;obtain ⟨ob,vs,e3,r⟩:=z;obtain ⟨b,rfl,eb⟩:=zJR rk e2;refine ⟨a,zCK vs kk,rfl,.inr ⟨vs,kk,b,.inr ⟨ob,e3⟩,rfl,eb,rfl⟩,?_⟩;rcases zCT kk r with ⟨h1,h2⟩|⟨d,v,h1,h2,h3⟩
      ·rw[h1,h2];rfl
      ·rw[h1,h2];exact ⟨v,rfl,h3⟩
    |_=>cases e
  |_=>cases e
def zDh (M:Mem) (n:Nat) (k v:D):Option Mem:=match M[n]? with
 |some (.dict kvs)=>match zCM k with
  |some kk=>if kvs.length<sizeLine then some (M.set n (.dict (zGO zCM kvs kk k v))) else none
  |none=>none
 |some (.dicT kvs)=>match tkD k with
  |some kk=>if kvs.length<sizeLine then some (M.set n (.dicT (zGO tkD kvs kk k v))) else none
  |none=>none
 |_=>none
theorem zHc {K:PySem.W.Frag} {L:List Addr} {M M':Mem} {H:Hp} {n:Nat} {a:Addr} {k v:D} {w u:V} (c:Cor K L M H) (ea:L[n]?=some a) (rk:Rep L H k w) (rv:Rep L H v u) (e:zDh M n k v=some M'):∃ H',zEx H a w u H'/\Cor K L M' H'/\Stp L H L H':=by
 unfold zDh at e;cases q:M[n]? with
 |none=>rw[q]at e;cases e
 |some m=>
  rw[q]at e;have z:=c.obj n a m ea q;cases m with
  |dict kvs=>
   cases e2:zCM k with
   |none=>rw[e2]at e;cases e
   |some kk=>
    rw[e2]at e;dsimp only at e;split at e
    ·rename_i hl;cases e;obtain ⟨vs,e3,r⟩:=z;obtain ⟨c3,s3⟩:=c.put (m:=.dict (zGO zCM kvs kk k v)) (o':=.dK (zBs vs kk u)) ea e3 (fun _ z=>by cases z) (fun _ _ z=>by cases z) fun s3=>⟨_,zw,(zJL e2 rv r).stp s3⟩;refine ⟨_,?_,c3,s3⟩;rw[zGb rk e2];exact zEx.k e3 (by rw[r.length];exact hl)
    ·cases e
  |dicT kvs=>
   cases e2:tkD k with
   |none=>rw[e2]at e;cases e
   |some kk=>
    rw[e2]at e;dsimp only at e;split at e
    ·rename_i hl;cases e;obtain ⟨vs,e3,r⟩:=z;obtain ⟨b,rfl,eb⟩:=zJR rk e2;obtain ⟨c3,s3⟩:=c.put (m:=.dicT (zGO tkD kvs kk k v)) (o':=.dT (zBs vs kk u)) ea e3 (fun _ z=>by cases z) (fun _ _ z=>by cases z) fun s3=>⟨_,zw,(zJL e2 rv r).stp s3⟩;exact ⟨_,zEx.t e3 eb (by rw[r.length];exact hl),c3,s3⟩
    ·cases e
  |_=>cases e
section
variable {X:Cx} {a b e o i value:Expr} {pos pos' apos cpos:Pos} {f g h:FE}
def zq:K2:=fun x y M=>match y with
 |.dat k=>match zDC M x k with
  |some (some d)=>some (.dat d,M)
  |_=>none
 |_=>none
theorem zQu {K:PySem.W.Frag}:zDA K (fun x y H Q=>∃ a v,x=.ref a/\zDM H a y (some v)/\Q v H) zq:=by
 intro L M M' H H0 x y d v w Q c rx ry hk q;unfold zq at hk;split at hk
 ·rename_i k;split at hk
  ·rename_i d' e1;cases hk;obtain ⟨a,ov,rfl,h1,h2⟩:=zFR c rx ry e1;obtain ⟨u,rfl,r⟩:=h2;exact ⟨a,u,rfl,h1,q L H u (.refl L H) c r⟩
  ·cases hk
 ·cases hk
theorem zTh (hu:X.A.units+1<cLine) (h1:QE X o f) (h2:QE X i g) (hs:zUO i:=by intro _ _;rfl):QE X (.Subscript o i pos) (fOp zq f g):=.mk <| PE.imp (zRs hu h1.un h2.un hs) fun _ _ _ h=>zDZ zQu h
def zAm (neg:Bool):K2:=fun x y M=>match x with
  |.dat k=>match zDC M y k with
    |some o=>some (.dat (.bl (if neg then !o.isSome else o.isSome)),M)
    |none=>none
  |_=>none
theorem zKZ {o:Option D} {ov:Option V} (h:zU4 L H o ov):ov.isSome=o.isSome:=by
  cases o with
  | none => have h' : ov = none := h
            rw[h'];rfl
  |some d=>obtain ⟨v,rfl,_⟩:=h;rfl
theorem zRJ {K:PySem.W.Frag}:zDA K (fun y x H Q=>∃ a o,x=.ref a/\zDM H a y o/\Q (.bl o.isSome) H) (zAm false):=by
 intro L M M' H H0 x y d v w Q c rx ry hk q;unfold zAm at hk;split at hk
 ·rename_i k;split at hk
  ·rename_i o e1;cases hk;obtain ⟨a,ov,rfl,h1,h2⟩:=zFR c ry rx e1;refine ⟨a,ov,rfl,h1,?_⟩;rw[zKZ h2];exact q L H _ (.refl L H) c (zCF (L:=L) (H:=H))
  ·cases hk
 ·cases hk
theorem zL8 {K:PySem.W.Frag}:zDA K (fun y x H Q=>∃ a o,x=.ref a/\zDM H a y o/\Q (.bl (!o.isSome)) H) (zAm true):=by
 intro L M M' H H0 x y d v w Q c rx ry hk q;unfold zAm at hk;split at hk
 ·rename_i k;split at hk
  ·rename_i o e1;cases hk;obtain ⟨a,ov,rfl,h1,h2⟩:=zFR c ry rx e1;refine ⟨a,ov,rfl,h1,?_⟩;rw[zKZ h2];exact q L H _ (.refl L H) c (zCF (L:=L) (H:=H))
  ·cases hk
 ·cases hk
theorem zTR (hu:X.A.units+1<cLine) (h1:QE X a f) (h2:QE X b g) (hm:behindInMarks .In b=false:=by rfl):QT X (.Compare a [.In] [b] pos) (tst (fOp (zAm false) f g)):=.mk <| PT.imp (zRF (zS6 hu h1.un h2.un) hm) fun _ _ _ h=>zEs (fun _ _ _ z=>zDZ zRJ z) (zER h)
theorem zOf (hu:X.A.units+1<cLine) (h1:QE X a f) (h2:QE X b g) (hm:behindInMarks .NotIn b=false:=by rfl):QT X (.Compare a [.NotIn] [b] pos) (tst (fOp (zAm true) f g)):=.mk <| PT.imp (zRF (zNm hu h1.un h2.un) hm) fun _ _ _ h=>zEs (fun _ _ _ z=>zDZ zL8 z) (zER h)
def zBZ (fv fo fi:FE):FS:=fun σ M=>match toD fv σ M with
 |some (v,M1)=>match toD fo σ M1 with
  |some (.ref n,M2)=>match toD fi σ M2 with
   |some (k,M3)=>match zDh M3 n k v with
    |some M4=>some (.nx,σ,M4)
    |none=>none
   |none=>none
  |_=>none
 |none=>none
theorem zTS (hu:X.A.units+1<cLine) (hv:QE X value f) (ho:QE X o g) (hi:QE X i h) (hs:swapsWith value (some (.Subscript o i pos')) pos.line X.env=pure false:=by rfl):QS X (.Assign [.Subscript o i pos'] value pos) (zBZ f g h) :=
 .mk <| PS.imp (zR8 hu (zA3 ho).un (zA3 hi).un (zA3 hv).un hs) fun E τ H zz=>by
  obtain ⟨L,σ,M,out,σ',M',c,rs,hf,q⟩:=zz;unfold zBZ at hf;split at hf
  ·rename_i v M1 e1;split at hf
   ·rename_i n M2 e2;split at hf
    ·rename_i k M3 e3;split at hf
     ·rename_i M4 e4;cases hf;refine ⟨L,σ,M,_,_,c,rs,e1,fun L1 H1 u s1 c1 r1=>⟨L1,σ,M1,_,_,c1,rs.stp s1,e2,fun L2 H2 y s2 c2 r2=>⟨L2,σ,M2,_,_,c2,(rs.stp s1).stp s2,e3,fun L3 H3 z s3 c3 r3=>?_⟩⟩⟩;unfold Rep at r2;obtain ⟨a,rfl,ea⟩:=r2;have ea3:L3[n]?=some a:=by obtain ⟨N,hN⟩:=s3.pre;rw[hN];exact zBh ea
      obtain ⟨H4,h1,h2,h3⟩:=zHc c3 ea3 r3 ((r1.stp s2).stp s3) e4;exact ⟨a,H4,rfl,h1,q L3 H4 (((s1.trans s2).trans s3).trans h3) h2 τ ((((rs.stp s1).stp s2).stp s3).stp h3)⟩
     ·cases hf
    ·cases hf
   ·cases hf
  ·cases hf
def zA6 (fo fi fx:FE):FE:=fun σ M=>match toD fo σ M with
 |some (.ref n,M1)=>match M1[n]? with
  |some (.dict _)|some (.dicT _)=>match toD fi σ M1 with
   |some (k,M2)=>match toD fx σ M2 with
    |some (x,M3)=>match zDC M3 (.dat (.ref n)) k with
     |some o=>some (.dat (o.getD x),M3)
     |none=>none
    |none=>none
   |none=>none
  |_=>none
 |_=>none
theorem zR6 (hu:X.A.units+1<cLine) (ho:QE X o f) (hi:QE X i g) (hx:QE X e h) (m:M2 X o "get" apos i e cpos):QE X (.Call (.Attribute o "get" apos) [i,e] [] cpos) (zA6 f g h) :=
 .mk <| PE.imp (zQ5 hu (zA3 ho).un (zA3 hi).un (zA3 hx).un m) fun τ H Q zz=>by
  obtain ⟨L,σ,M,d,M',c,rs,hf,q⟩:=zz
  have key:∀ n M1,toD f σ M=some (.ref n,M1)->(∃ kvs,M1[n]?=some (.dict kvs)\/M1[n]?=some (.dicT kvs))->(match toD g σ M1 with
   |some (k,M2)=>match toD h σ M2 with
    |some (x,M3)=>match zDC M3 (.dat (.ref n)) k with
     |some o=>some (EV.dat (o.getD x),M3)
     |none=>none
    |none=>none
   |none=>none)=some (d,M')->zPO (trD X.K (toD f)) (trD X.K (toD g)) (trD X.K (toD h)) τ H Q:=by
   intro n M1 e1 hd hf;split at hf
   ·rename_i k M2 e2;split at hf
    ·rename_i x M3 e3;split at hf
     ·rename_i ov e4;cases hf;refine ⟨L,σ,M,_,_,c,rs,e1,fun L1 H1 u s1 c1 r1=>?_⟩;unfold Rep at r1;obtain ⟨a,rfl,ea⟩:=r1;refine ⟨a,rfl,?_,L1,σ,M1,_,_,c1,rs.stp s1,e2,fun L2 H2 y s2 c2 r2=>⟨L2,σ,M2,_,_,c2,(rs.stp s1).stp s2,e3,fun L3 H3 z s3 c3 r3=>?_⟩⟩
      ·obtain ⟨kvs,hk|hk⟩:=hd
       ·obtain ⟨vs,e5,_⟩:=c1.obj n a _ ea hk;exact .inl ⟨vs,.inl e5⟩
       ·obtain ⟨vs,e5,_⟩:=c1.obj n a _ ea hk;exact .inr ⟨vs,.inl e5⟩
      ·have ra:zf H L3 H3 (.dat (.ref n)) (.ref a):=by
        unfold zf Rep;exact ⟨a,rfl,by obtain ⟨N,hN⟩:=(s2.trans s3).pre;rw[hN];exact zBh ea⟩
       obtain ⟨a',o',e6,h1,h2⟩:=zFR c3 ra (r2.stp s3) e4;cases e6;refine ⟨o',h1,?_⟩;cases ov with
       |none=>
        have h':o'=none:=h2;subst h';exact q L3 H3 _ ((s1.trans s2).trans s3) c3 r3
       |some dd=>
        obtain ⟨v,rfl,rv⟩:=h2;exact q L3 H3 _ ((s1.trans s2).trans s3) c3 rv
     ·cases hf
    ·cases hf
   ·cases hf
  unfold zA6 at hf;split at hf
  ·rename_i n M1 e1;split at hf
   ·rename_i kvs e5;exact key n M1 e1 ⟨kvs,.inl e5⟩ hf
   ·rename_i kvs e5;exact key n M1 e1 ⟨kvs,.inr e5⟩ hf
   ·cases hf
  ·cases hf
end
end L3
namespace L2
open PySem PySem.Spec PyProof.Rows
section
variable {prog:Program} {w:World} {A:Around} {R:Result->Shared->Prop} {s:Shared}
theorem zDG {kx vx target iter ifs rest scope pos it acc env}
  (h0:codeAny (model prog w) A (.compLoop (.DictComp kx vx (⟨target,iter,ifs,0⟩::rest) scope pos) 0 it acc env) R s)
  (h:wpAny (model prog w) A (pyIter it) (fun it' s'=>codeAny (model prog w) A (.compLoop (.DictComp kx vx (⟨target,iter,ifs,0⟩::rest) scope pos) 0 it' acc env) R s')
   (notedBy (model prog w) A env fun x s'=>R (.error x) s') s) :
  codeAny (model prog w) A (.compStart (.DictComp kx vx (⟨target,iter,ifs,0⟩::rest) scope pos) 0 it acc env) R s:=by
 refine codeAny_of_tree ?_;show wpAny _ _ ((compStart (.DictComp kx vx (⟨target,iter,ifs,0⟩::rest) scope pos) 0 it acc env).onRaise (fun x=>do noteFrame x env;standAt theWindowsPlace)) _ _ s;refine wpAny_notedAt ?_;unfold compStart;refine zWU (wpAny_askSetting (wpAny_ite ?_));split
 ·first
   |exact zWU (zWW (zWW (And.intro rfl h0)))
   |exact zWW (And.intro rfl h0)
 ·first
   |exact zWU (zXr (zWU (zXS (zWU (zW0 h (fun it' s' h'=>zWW (And.intro rfl h')) fun _ _ x=>x)))))
   | (refine zWU (zXr ?_);show wpAny _ _ (standAt iter.pos >>= _) _ _ s;exact zWU (zXS (zWU (zW0 h (fun it' s' h'=>zWW (And.intro rfl h')) fun _ _ x=>x))))
end
section
variable {X:Cx} {zB:List (Addr × Obj)} {σ:St} {H:Hp} {s:Shared}
theorem Inv.trackAt (I:Inv X zB σ H s) (ho:s.heap.get? D=some o) (hn:H D=none) (h0:X.s₀.heap.objs.size<=D) (hL:D≠X.env.locals) (hc:∀ x c,X.env.cells.lookup x=some c->c≠D) (hp:∀ p∈X.pn++zB,p.1≠D)
  (new:zAR X.prog X.w (upd H D u) s.heap D u):Inv X zB σ (upd H D u) s:=by
 have un:∀ b v,H b=some v->upd H D u b=some v:=fun b v e=>by rw[zZ (zAI e hn)];exact e
 have e0:s={ s with heap:=s.heap,gens:=s.gens,drawn:=s.drawn,toks:=s.toks }:=by cases s;rfl
 rw[e0];refine I.step (g':=s.gens) (d':=s.drawn) (ch:=[D]) (fun b hb=>?_) (fun b v _ _ _ e _=>e) (fun b v _ _ _ e _=>⟨v.slots,e⟩) (fun b v hb e n=>?_) (fun b v _ e=>⟨v,e⟩) (fun b xs e=>un b _ e) (fun b p v e=>un b _ e) (fun b ps e=>⟨#[],by rw[un b _ e];simp⟩) (fun m hm=>hm) (fun b v e=>?_) I.bare
 ·have:b=D:=by simpa using hb
  subst this;exact ⟨.inr h0,hL,hc,hp⟩
 ·rw[zZ (fun z=>hb (by simp[z]))];exact n
 ·by_cases hb:b=D
  ·subst hb;rw[zw]at e;cases e;exact new
  ·rw[zZ hb]at e;exact (I.hok b v e).stay (fun c v hc q=>q) (fun c q=>un c _ q) fun c xs q=>un c _ q
theorem zIn (hu:A.units+1<cLine) (I:Inv X zB σ H s) (g:zEx H a y v H') (ry:zp y u) (rv:zp v r) (h:∀ s',Inv X zB σ H' s'->Heap.SameBut a s.heap s'.heap->Q () s') :
  wpAny (model X.prog X.w) A (dictSet a u r) Q E s:=by
 rcases g with ⟨kvs,k,e,ey,l,eH⟩|⟨kvs,k,b,e,ey,eb,l,eH⟩
 ·subst ey eH;obtain ⟨z,hd,vs,rel,dd⟩:=zQF I.hok e;have hz:vs.length<=sizeLine:=by rw[<-rel.length];exact z
  have hl:(zBs kvs k v).length<=sizeLine:=by have:=zBX kvs k v;omega
  refine wpAny_dictSet_pairs (hsz:=hz) (zGA ry) dd fun h' dd' hs=>h _ ?_ hs;have he:∃ q,h'.get? a=some q:=let ⟨q,_,_,hq,_⟩:=dd';⟨q,hq⟩;exact zES I (by rw[e];exact True.intro) hs he (zMY hl hd (rel.put k rv) dd')
 ·subst ey eH;cases (show u=Value.ref b from ry);obtain ⟨z,hd,xs,rel,dd⟩:=zRD I.hok e;have hz:xs.length<=sizeLine:=by rw[<-Paired.length rel];exact z
  have hl:(zBs kvs k v).length<=sizeLine:=by have:=zBX kvs k v;omega
  refine wpAny_dictSet_heap (hsz:=hz) (show (tupleKind (zAK X.prog X.w)).room A from Nat.lt_of_succ_lt hu) (zEG I.hok eb) dd fun h' dd' hs=>h _ ?_ hs;obtain ⟨q,es,ep,hq,h2,h3,h4,_,h5⟩:=dd';refine zES I (by rw[e];exact True.intro) hs ⟨q,hq⟩ ⟨hl,hd,_,(rel.put k eb rv).keeps fun c ys ec=>?_,q,es,ep,hq,h2,h3,h4,h5⟩;rw[zZ (zHU ec e (fun z=>nomatch z))];exact ec
end
def zBm (isT:Bool):HO:=if isT then .dT [] else .dK []
abbrev zAn:Obj:={ cls:=.type "dict", data:=.dict #[] }
section
variable {X:Cx} {zB:List (Addr × Obj)} {σ:St} {H:Hp} {s:Shared} {scope:Scope} {cl:List (Str × Addr)} {fp:List Addr} {it:Addr} {tn:Nat->Heap->Prop} {J:It} {tg kx vx iter:Expr} {ifs:List Expr} {pos:Pos}
 {own:List Nat} {g:TG} {tc:TT} {tk tv:TE} {E:Value->Shared->Prop} {isT:Bool}
theorem zDj (hu:X.A.units+1<cLine) (C:CompIn X scope own) (hcalm:X.calm=true) (I:Inv X zB σ H s) (T:Turn X.prog X.w X.K tg J fp it tn) (st:tn 0 s.heap) (hf:∀ b∈fp,zCE X zB H b)
  (c1:∀ x c,cl.lookup x=some c->X.env.cells.lookup x=some c) (c2:∀ y∈scope.names,y.2=.free->(cl.lookup y.1).isSome=true)
  (hg:PG (zL X zB scope cl s H fp) tg g) (hi:zGQ (zL X zB scope cl s H fp) ifs tc) (hk:PE (zL X zB scope cl s H fp) kx tk) (hv:PE (zL X zB scope cl s H fp) vx tv)
  {RR:Value->Addr->Result->Shared->Prop} {QQ:Hp->Prop} {W:Nat->Nat->Hp->Prop} {m0:Nat} (w0:W 0 m0 (upd H s.heap.objs.size (zBm isT)))
  (turn:∀ i m H,W i m H->(J.stop i H/\QQ H) \/
   (J.go i H /\ ∀ x H',J.yld i H x H'->g x (clr own σ) H' fun σ2 H2=>Ext (clr own σ) σ2/\tc σ2 H2 fun b H3=>
    if b=true then tk σ2 H3 fun k H4=>tv σ2 H4 fun v H5=>∃ H6 m',zEx H5 s.heap.objs.size k v H6/\m'<m/\W (i+1) m' H6 else ∃ m',m'<m/\W (i+1) m' H3))
  (fin:∀ σc H' s',Inv (zL X zB scope cl s H fp) [] σc H' s'->QQ H'->RR (.ref s.heap.objs.size) (s.heap.objs.size+1) (.ok .next) s') :
  wpAny (model X.prog X.w) X.A newDict (fun acc s₃=>wpAny (model X.prog X.w) X.A (newFunctionEnv scope X.env.globals cl [] X.env.qual none .none (some X.env)) (fun cenv s₄=>
   codeAny (model X.prog X.w) X.A (.compStart (.DictComp kx vx [⟨tg,iter,ifs,0⟩] scope pos) 0 (.ref it) acc { cenv with scope:=relabel scope X.env }) (RR acc cenv.locals) s₄) E s₃) E s:=by
 have ob:∀ b:Nat,b∈fp->b<s.heap.objs.size:=fun b hb=>let ⟨_,e,_⟩:=T.obj 0 _ st b hb;zWf e;refine zWx (zCm ?_);have sz1:(s.heap.push zAn).objs.size=s.heap.objs.size+1:=zXA ..;have I4:=zFA (X:=X) (zB:=zB) (σ:=σ) (σc:=clr own σ) (H:=H) (s:=s) (scope:=scope) (cl:=cl) (fp:=fp) C.sc I hf ob c1 c2 (zBU own σ) (fun i x v h1 h2 h3=>by
  obtain ⟨a,b⟩:=zCr own σ i v h2;rcases C.nm i x h1 with z|z|z
  ·exact absurd z b
  ·exact absurd (zCL x z) h3
  ·exact ⟨z,a⟩) zAn (by intro v z;cases z) rfl rfl
 have st4:tn 0 (pushCells ((s.heap.push zAn).push { cls:=.type "dict", data:=.dict #[] }) scope.names):=T.keep 0 _ _ st fun b _ o e=>pushCells_keeps _ _ b o (zWV _ (zWV _ e));unfold newEnv;rw[sz1];have hDfp:s.heap.objs.size∉fp:=fun z=>zXC _ (ob _ z);obtain ⟨pD,nD,neD,nfD,dD⟩:=I4.pin (s.heap.objs.size,zAn) (by simp);have hcD:∀ x c,(zL X zB scope cl s H fp).env.cells.lookup x=some c->c≠s.heap.objs.size:=fun x c e z=>by
  obtain ⟨v,o,ho,hd⟩:=I4.cell x c e;rw[z,pD]at ho;cases ho;cases hd
 have hpn:∀ p∈(zL X zB scope cl s H fp).pn++[],p.1≠s.heap.objs.size:=fun p hp=>by
  rw[zXE]at hp;have hp':p∈X.pn++zB:=hp;exact zWp (zWf (I.pin p hp').1)
 have big:sysModules<s.heap.objs.size:=I.big;have hsm:(s.heap.objs.size==sysModules)=false:=by rw[beq_eq_false_iff_ne];exact zXz big
 have I5:Inv (zL X zB scope cl s H fp) [] (clr own σ) (upd H s.heap.objs.size (zBm isT)) { s with heap:=pushCells ((s.heap.push zAn).push { cls:=.type "dict", data:=.dict #[] }) scope.names }:=by
  have I4':Inv (zL X zB scope cl s H fp) [] (clr own σ) H { s with heap:=pushCells ((s.heap.push zAn).push { cls:=.type "dict", data:=.dict #[] }) scope.names }:=I4.pins_of fun p hp=>nomatch hp;refine I4'.trackAt pD nD (zWa _) neD hcD hpn ?_;cases isT with
  |false=>exact ⟨zXG _,hsm,[],.nil,zAn,#[],0,pD,⟨rfl,rfl,rfl⟩,rfl,fun _ he=>by simp at he,.nil,List.nodup_nil⟩
  |true=>exact ⟨zXG _,hsm,[],.nil,zAn,#[],0,pD,⟨rfl,rfl,rfl⟩,rfl,rfl,List.nodup_nil⟩
 have fpk:∀ {H':Hp},(∀ b∈fp,H' b=none) -> ∀ b∈fp,zCE (zL X zB scope cl s H fp) [] H' b:=fun {H'} hn b hb=>
  ⟨hn b hb,(I4.ok.exf b hb).1,I4.ok.exfs b hb,.inl hb,(I4.ok.exf b hb).2,fun p hq=>by
   rw[zXE]at hq;exact (hf b hb).2.2.2.2.2 p hq⟩
 have loop:codeAny (model X.prog X.w) X.A (.compLoop (.DictComp kx vx [⟨tg,iter,ifs,0⟩] scope pos) 0 (.ref it) (.ref s.heap.objs.size) (zL X zB scope cl s H fp).env) (RR (.ref s.heap.objs.size) (s.heap.objs.size+1))
   { s with heap:=pushCells ((s.heap.push zAn).push { cls:=.type "dict", data:=.dict #[] }) scope.names }:=by
  refine zH0 (fun n s'=>∃ i H',Inv (zL X zB scope cl s H fp) [] (clr own σ) H' s'/\tn i s'.heap/\(∀ b∈fp,H' b=none)/\W i n H') ?_ m0
   ⟨0,_,I5,st4,fun b hb=>by rw[zZ (show b≠s.heap.objs.size from fun z=>hDfp (by rw[<-z];exact hb))];exact (hf b hb).1,w0⟩
  rintro n s5 ⟨i,H5,J5,st5,f5,w5⟩;rcases turn i n H5 w5 with ⟨stop,qq⟩|⟨go,step⟩
  ·refine thn (T.done (zL X zB scope cl s H fp) rfl rfl rfl hcalm i _ s5 _ H5 _ J5 (fpk f5) st5 stop) fun r s6 ⟨hr,I6⟩=>?_;subst hr;exact fin _ H5 s6 I6 qq
  ·refine thn (T.item (zL X zB scope cl s H fp) rfl rfl rfl hcalm i _ s5 _ H5 _ J5 (fpk f5) st5 go) fun r s6 ⟨u,hr,h6⟩=>?_;subst hr;refine thn h6 fun _ s7 ⟨x,H7,I7,r7,y7,st7,f7⟩=>?_;have I7':=I7.pinned (fpk f7) (T.obj _ _ st7);refine thn (hg _ s7 _ H7 x u _ I7' r7 (step x H7 y7)) fun _ s8 ⟨σ8,H8,I8,x8,q8⟩=>?_;refine thn (hi _ s8 σ8 H8 _ I8 q8) fun ok s9 ⟨H9,I9,q9⟩=>?_;have back:∀ {s':Shared} {Hx:Hp},Inv (zL X zB scope cl s H fp) ([]++zC3 fp s7.heap) σ8 Hx s'->tn (i+1) s'.heap /\ ∀ b∈fp,Hx b=none:=fun {s' Hx} Ix=>
    ⟨T.keep _ _ _ st7 fun b hb o e=>(Ix.pin (b,o) (zWo _ (zWo _ (zAQ hb e)))).1,fun b hb=>by
     obtain ⟨o,e,d⟩:=T.obj _ _ st7 b hb;exact (Ix.pin (b,o) (zWo _ (zWo _ (zAQ hb e)))).2.1⟩
   cases ok with
   |false=>
    obtain ⟨m',hm,w'⟩:=q9;obtain ⟨b1,b2⟩:=back I9;exact ⟨m',hm,i+1,H9,(I9.weak (by rw[x8.1]) x8.2).unpinned,b1,b2,w'⟩
   |true=>
    refine thn (hk _ s9 σ8 H9 _ I9 q9) fun kv s10 ⟨y,H10,I10,r10,q10⟩=>?_;refine thn (hv _ s10 σ8 H10 _ I10 q10) fun vv s11 ⟨z,H11,I11,r11,H12,m',hp,hm,w'⟩=>?_;refine zIn (X:=zL X zB scope cl s H fp) hu I11 hp r10 r11 fun s12 I12 hs=>?_;obtain ⟨b1,b2⟩:=back I12;exact ⟨m',hm,i+1,H12,(I12.weak (by rw[x8.1]) x8.2).unpinned,b1,b2,w'⟩
 exact zDG loop (T.self _ 0 _ _ _ st4 loop)
theorem zEf (I:Inv X zB σ H s) (hf:∀ b∈fp,zCE X zB H b)
  (Ic:Inv (zL X zB scope cl s H fp) [] σc H' s') (hs:Heap.SameBut (s.heap.objs.size+1) s'.heap h'):Inv X zB σ H' { s' with heap:=h' }:=by
 have nC:H' (s.heap.objs.size+1)=none:=Ic.free;have lt1:∀ {b:Addr} {o:Obj},s.heap.get? b=some o->b≠s.heap.objs.size+1:=fun e=>zWp (zXJ (zWf e));have tr:∀ b u,H' b=some u->b≠s.heap.objs.size+1:=fun b u e z=>by rw[z,nC]at e;cases e
 have B:=Ic.base;have un:Un (frs X.stack) fp H H' s.heap h':=by
  refine ⟨fun b o e q hb hx=>hs.extBut b o (lt1 e) (B.keep b o e q hb hx),fun b o e q hb hx=>?_,fun b o e q hx=>B.free b o e q hx,fun b o e hx=>?_,fun b xs e=>B.tups b xs e,fun b o xs e=>B.frzs b o xs e,fun b ps e=>B.tbls b ps e⟩
  ·obtain ⟨sl,e1⟩:=B.slot b o e q hb hx;exact ⟨sl,hs.extBut b _ (lt1 e) e1⟩
  ·obtain ⟨o',e1⟩:=B.there b o e hx;exact ⟨o',hs.extBut b _ (lt1 e) e1⟩
 have hok:HOk X.prog X.w H' h':=fun b u e=>by
  refine (Ic.hok b u e).stay (fun c v hc q=>hs.extBut c v ?_ q) (fun c q=>q) fun c xs q=>q;rcases hc with z|z
  ·rw[z];exact tr b u e
  ·exact tr c _ z
 exact I.call' (s':={ s' with heap:=h' }) (ch:=fp) Ic.os un hok Ic.bare fun b hb=>⟨(hf b hb).2.2.2.1,(hf b hb).2.1,(hf b hb).2.2.2.2.1,(hf b hb).2.2.2.2.2⟩
end
def zFt (isT:Bool) (own:List Nat) (wi:TI) (g:TG) (tc:TT) (tk tv:TE):TE:=fun σ H Q=>wi σ H fun J H1=>∀ D,H1 D=none -> ∃ W:Nat->Nat->Hp->Prop,(∃ m,W 0 m (upd H1 D (zBm isT))) /\ ∀ i m H,W i m H ->
 (J.stop i H/\Q (.ref D) H) \/
 (J.go i H /\ ∀ x H',J.yld i H x H'->g x (clr own σ) H' fun σ2 H2=>Ext (clr own σ) σ2/\tc σ2 H2 fun b H3=>
  if b=true then tk σ2 H3 fun k H4=>tv σ2 H4 fun v H5=>∃ H6 m',zEx H5 D k v H6/\m'<m/\W (i+1) m' H6 else ∃ m',m'<m/\W (i+1) m' H3)
section
variable {X:Cx} {scope:Scope} {tg kx vx iter:Expr} {ifs:List Expr} {pos:Pos} {own:List Nat} {wi:TI} {g:TG} {tc:TT} {tk tv:TE} {isT:Bool}
theorem zLg (hu:X.A.units+1<cLine) (C:CompIn X scope own) (hcalm:X.calm=true) (hi:PI X tg iter wi) (p:CompParts X scope tg ifs kx g tc tk) (p2:∀ zB cl s H fp,PE (zL X zB scope cl s H fp) vx tv) (hs:∀ x,foldedSetIterable iter X.env x=pure x:=by intro _;rfl) :
  PE X (.DictComp kx vx [⟨tg,iter,ifs,0⟩] scope pos) (zFt isT own wi g tc tk tv):=by
 intro zB s σ H Q I h;obtain ⟨cl,hcl,c1,c2⟩:=C.sc.closure I;rw[arm_eval_DictComp];refine zYO (use:=none) rfl hs hcl C.sc.kind C.sc.names (thn (hi zB s σ H _ I h) fun v s1 h1=>thn h1 fun itv s2 h2=>?_);obtain ⟨it,fp,tn,J,H2,e,I2,T,st2,f2,hD⟩:=h2;subst e;obtain ⟨W,⟨m0,w0⟩,turn⟩:=hD s2.heap.objs.size (I2.hok.fresh (zWa _));refine zDj hu C hcalm I2 T st2 f2 c1 c2 (p.g _ _ _ _ _) (p.c _ _ _ _ _) (p.e _ _ _ _ _) (p2 _ _ _ _ _) (RR:=fun acc C r s'=>compPost (model X.prog X.w) X.A X.xe none (EP X zB σ Q) acc C r s') (QQ:=fun H=>Q (.ref s2.heap.objs.size) H) w0 turn ?_;intro σc H' s' Ic qq;obtain ⟨m,hn,_⟩:=Ic.loc;refine ⟨m,hn,fun h' hs'=>?_⟩;exact ⟨.ref s2.heap.objs.size,_,zEf I2 f2 Ic hs',rfl,qq⟩
end
end L2
namespace L3
open PySem PySem.Spec PyProof.Rows L2
def zE2 (isT:Bool):MO:=if isT then .dicT [] else .dict []
noncomputable def zCZ (g:FG) (tc:FT) (tk tv:FE) (σ:Sd) (n:Nat) (all:List D) (gd:Option (Mem->Prop)):List D->Mem->Option Mem
 |[],M=>open Classical in if zA1 gd all M then some M else none
 |x::r,M=>open Classical in if zA1 gd all M then match g x σ with
   |some σ1=>match tc σ1 M with
    |some (true,M1)=>match toD tk σ1 M1 with
     |some (k,M2)=>match toD tv σ1 M2 with
      |some (v,M3)=>match zDh M3 n k v with
       |some M4=>zCZ g tc tk tv σ n all gd r M4
       |none=>none
      |none=>none
     |none=>none
    |some (false,M1)=>zCZ g tc tk tv σ n all gd r M1
    |none=>none
   |none=>none
  else none
noncomputable def zCx (isT:Bool) (own:List Nat) (fi:FI) (g:FG) (tc:FT) (tk tv:FE):FE:=fun σ M=>match fi σ M with
 |some (xs,gd,M1)=>match zCZ g tc tk tv (zBD own σ) M1.length xs gd xs (M1++[zE2 isT]) with
  |some M2=>some (.dat (.ref M1.length),M2)
  |none=>none
 |none=>none
theorem zG7 {K:PySem.W.Frag} {isT:Bool} {own:List Nat} {fi:FI} {g:TG} {fg:FG} {tc:FT} {tk tv:FE} (hg:zFP own g fg) {τ:Sv} {H:Hp} {Q:VK} (h:trE K (zCx isT own fi fg tc tk tv) τ H Q):zFt isT own (trI K fi) g (trT K tc) (trD K (toD tk)) (trD K (toD tv)) τ H Q:=by
 obtain ⟨L,σ,M,d,Mf,c,rs,hf,q⟩:=h;unfold zCx at hf;split at hf
 ·rename_i xs gd M1 e1;split at hf
  ·rename_i M2 e2;cases hf;refine ⟨L,σ,M,_,_,_,c,rs,e1,fun L1 H1 J s1 c1 it p hp=>?_⟩;obtain ⟨c0,s0⟩:Cor K (L1++[p]) (M1++[zE2 isT]) (upd H1 p (zBm isT))/\Stp L1 H1 (L1++[p]) (upd H1 p (zBm isT)):=by
    cases isT with
    |true=>exact c1.pushO (m:=.dicT []) hp ⟨[],zw,rfl⟩
    |false=>exact c1.pushO (m:=.dict []) hp ⟨[],zw,rfl⟩
   have lp0:(L1++[p])[M1.length]?=some p:=by rw[<-c1.len];simp
   refine ⟨fun i m H'=>m=xs.length-i/\i<=xs.length /\ ∃ L' M',Stp (L1++[p]) (upd H1 p (zBm isT)) L' H'/\Cor K L' M' H'/\zCZ fg tc tk tv (zBD own σ) M1.length xs gd (xs.drop i) M'=some Mf,
    ⟨xs.length,by simp,zXG _,_,_,.refl _ _,c0,by simpa using e2⟩,?_⟩
   rintro i m H' ⟨rfl,hi,L',M',s',c',e'⟩;have lp:L'[M1.length]?=some p:=by obtain ⟨N,hN⟩:=s'.pre;rw[hN];exact zBh lp0
   by_cases hlt:i<xs.length
   ·rw[zCN hlt]at e';unfold zCZ at e';split at e'
    ·rename_i hgd;obtain ⟨step,_⟩:=it L' H' M' (s0.trans s') c' hgd;obtain ⟨go,yl⟩:=step i xs[i] (zWY hlt);split at e'
     ·rename_i σ1 eg;refine .inr ⟨go,fun v H2 hy=>?_⟩;obtain ⟨gr,rv⟩:=yl v H2 hy;have s2:Stp (L1++[p]) (upd H1 p (zBm isT)) L' H2:=s'.yld gr;refine hg (zEM own (((rs.stp s1).stp s0).stp s2)) (.refl _) rv eg fun τ2 r2 x2=>⟨x2,?_⟩;split at e'
      ·rename_i M3 e3;split at e'
       ·rename_i kd M4 e4;split at e'
        ·rename_i vd M5 e5;split at e'
         ·rename_i M6 e6;refine ⟨L',σ1,M',_,_,c'.grow gr,r2,e3,fun L3 H3 s3 c3=>zHt ?_⟩;refine ⟨L3,σ1,M3,_,_,c3,r2.stp s3,e4,fun L4 H4 w s4 c4 r4=>?_⟩;refine ⟨L4,σ1,M4,_,_,c4,(r2.stp s3).stp s4,e5,fun L5 H5 u s5 c5 r5=>?_⟩;have st:Stp L' H' L5 H5:=(((Stp.grow gr).trans s3).trans s4).trans s5;have lp5:L5[M1.length]?=some p:=by obtain ⟨N,hN⟩:=st.pre;rw[hN];exact zBh lp
          obtain ⟨H6,h1,h2,h3⟩:=zHc c5 lp5 (r4.stp s5) r5 e6;exact ⟨H6,xs.length-(i+1),h1,by omega,rfl,hlt,L5,M6,(s'.trans st).trans h3,h2,e'⟩
         ·cases e'
        ·cases e'
       ·cases e'
      ·rename_i M3 e3;refine ⟨L',σ1,M',_,_,c'.grow gr,r2,e3,fun L3 H3 s3 c3=>zHB ?_⟩;have st:Stp L' H' L3 H3:=(Stp.grow gr).trans s3;exact ⟨xs.length-(i+1),by omega,rfl,hlt,L3,M3,s'.trans st,c3,e'⟩
      ·cases e'
     ·cases e'
    ·cases e'
   ·have hi':i=xs.length:=by omega
    subst hi';rw[List.drop_length]at e';unfold zCZ at e';split at e'
    ·rename_i hgd;cases e';obtain ⟨_,stop⟩:=it L' H' _ (s0.trans s') c' hgd;refine .inl ⟨stop,?_⟩;refine q L' _ _ ((s1.trans s0).trans s') c' ?_;unfold zf Rep;exact ⟨p,rfl,lp⟩
    ·cases e'
  ·cases hf
 ·cases hf
section
variable {X:Cx} {scope:Scope} {tg kx vx iter:Expr} {ifs:List Expr} {pos:Pos} {own:List Nat} {isT:Bool}
theorem zR1 {fi:FI} {g:TG} {fg:FG} {tc:FT} {tk tv:FE} (hu:X.A.units+1<cLine) (hg:zFP own g fg) (C:CompIn X scope own) (hcalm:X.calm=true) (hi:QI X tg iter fi) (p:QParts X scope tg ifs kx g tc tk) (p2:∀ zB cl s H fp,QE (zL X zB scope cl s H fp) vx tv) (hs:∀ x,foldedSetIterable iter X.env x=pure x:=by intro _;rfl) :
  QE X (.DictComp kx vx [⟨tg,iter,ifs,0⟩] scope pos) (zCx isT own fi fg tc tk tv) :=
 .mk <| PE.imp (zLg (isT:=isT) hu C hcalm hi.un p.parts (fun _ _ _ _ _=>(zA3 (p2 _ _ _ _ _)).un) hs) fun _ _ _ h=>zG7 hg h
end
section
variable {X:Cx} {a b e o:Expr} {pos apos cpos:Pos} {f g:FE}
theorem zUv (n:Nat) (hn:n<=8) (hr:Room k A):A.units+1+n<cLine:=by
 have:=hr.units;omega
end
open Builtin
theorem zHm:fillsNumberSlot (.type "tuple") "mul" = pure false :=
 PySem.fillsNumberSlot_seq (id := "tuple.__mul__") (r:=some (.builtin "tuple.__rmul__")) F.slot_tuple_mul.lookup (by decide +kernel) F.slot_tuple_rmul.lookup (by decide +kernel)
theorem zMS:seqRepeat? (.type "tuple")=pure (some (.builtin "tuple.__mul__")):=by
 unfold seqRepeat?;rw[PySem.seqSlot_of (T := "tuple") (name := "__mul__") (id := "tuple.__mul__") F.slot_tuple_mul.lookup (by decide +kernel),PySem.seqSlot_of (T := "tuple") (name := "__rmul__") (id := "tuple.__rmul__") F.slot_tuple_rmul.lookup (by decide +kernel)];rfl
theorem zQI (a:Int) (t:Tok) (l:Addr) (items:Array Value) (n:Nat) (dd:Option Addr) (sl:Array (Option Value)) :
  Meets (Builtin.«int.__rmul__» ⟨[.int a t,.ref l],[]⟩) (fun _ R s=>s.heap.get? l=some { cls:=.type "tuple", dict:=dd,data:=.seq items n,slots:=sl }/\R (.ok (.ret Value.notImplemented)) s) :=
 .of_wp fun prog w A R s h=>by obtain ⟨hp,g,d,tk,os⟩:=s;obtain ⟨hl,h⟩:=h;wp_walk using wpAny_loadPart' hl;exact ⟨_,rfl,h⟩
theorem zLO (l:Addr) (items:Array Value) (n:Nat) (dd:Option Addr) (sl:Array (Option Value)) (u:Tok) :
  Meets (Builtin.«tuple.__mul__» ⟨[.ref l,.int 1 u],[]⟩) (fun _ R s=>s.heap.get? l=some { cls:=.type "tuple", dict:=dd,data:=.seq items n,slots:=sl }/\R (.ok (.ret (.ref l))) s) :=
 .of_wp fun prog w A R s h=>by
  obtain ⟨hp,g,d,tk,os⟩:=s;obtain ⟨hl,h⟩:=h;have f1:=AutoSeq1.idx_int;wp_walk using wpAny_loadPart' hl;exact ⟨_,rfl,h⟩
theorem zLW (l:Addr) (items:Array Value) (n:Nat) (dd:Option Addr) (sl:Array (Option Value)) (x:Int) (u:Tok) (h0:¬ (decide (x < -(2 ^ 63))||decide (x≥2 ^ 63))=true) (h1:¬ (items.isEmpty||x==1)=true) (h2:¬ (decide (x<=0)||items.isEmpty)=true) (h3:¬ (items.size:Int)*x>(2 ^ 63-1) / 8) (h4:¬ Builtin.Tuple.tupleTooMany (items.size*x)=true)
  (hsz:(List.foldl (fun x1 x2=>x1++x2) #[] (List.replicate x.toNat items)).size<=sizeLine) :
  Meets (Builtin.«tuple.__mul__» ⟨[.ref l,.int x u],[]⟩) (fun _ R s=>s.heap.get? l=some { cls:=.type "tuple", dict:=dd,data:=.seq items n,slots:=sl }/\R (.ok (.ret (Value.ref s.heap.objs.size))) { s with heap:=s.heap.push { cls:=Value.type "tuple", data:=Data.seq (List.foldl (fun x1 x2=>x1++x2) #[] (List.replicate x.toNat items)) },toks:=s.toks }) :=
 .of_wp fun prog w A R s h=>by
  obtain ⟨hp,g,d,tk,os⟩:=s;obtain ⟨hl,h⟩:=h;have f1:=AutoSeq1.idx_int;wp_walk using wpAny_loadPart' hl;rw[zWm h0];wp_walk using wpAny_loadPart' hl;rw[zWm h3];wp_walk using wpAny_loadPart' hl;all_goals first|exact ⟨_,rfl,h⟩|skip
section
variable {X:Cx} {a b o e e2:Expr} {pos p apos cpos:Pos} {f g:FE}
def zSl (K:PySem.W.Frag):R2:=fun x y H Q=>∃ a k xs,x=.ref a/\y=.int k/\SqT K H a xs/\xs≠[]/\1<=k/\xs.length*k.toNat<=sizeLine /\
 (k=1->Q (.ref a) H)/\(k≠1 -> ∀ p,H p=none->Q (.ref p) (upd H p (.tup (List.replicate k.toNat xs).flatten)))
theorem zR4:OpR X (binaryOp .Mult) (zSl X.K):=by
 intro zB s σ H x y v u Q I rx ry h;obtain ⟨a,k,xs,rfl,rfl,ha,hx,hk,hz,q1,q2⟩:=h;cases rx;obtain ⟨t,rfl⟩:=ry;obtain ⟨its,r,p1,_⟩:=I.tuple ha;obtain ⟨⟨cls,dd,data,sl⟩,ho,hc,n,hd⟩:=id p1;simp only at hc hd;subst hc hd;have hl:its.toArray.size=xs.length:=by rw[zWc];exact r.length.symm
 have hx0:0<xs.length:=List.length_pos_iff.mpr hx;have hkz:k.toNat<=sizeLine:=zWv (Nat.le_mul_of_pos_left _ hx0) hz;have hk63:k<2 ^ 63:=by
  have:(sizeLine:Nat)<2 ^ 62:=by decide
  omega
 refine wpAny_binaryOp_repeat_ref (T := "tuple") (U := "int") (by decide) ⟨_,ho,rfl⟩ (fun s'=>typeIs_int s' k t) zHm F.fills_int_mul F.slot_int_rmul zMS F.slot_int_index.lookup
  (call_meets F.slot_int_rmul (typeIs_int s k t) F.entry_int_rmul (F.args_int_rmul_2 _ _) (zQI k t a its.toArray n dd sl)
   ⟨ho,rfl,⟨_,ho,rfl⟩,?_⟩)
 by_cases h1:k=1
 ·subst h1;exact call_meets F.slot_tuple_mul ⟨_,ho,rfl⟩ F.entry_tuple_mul (F.args_tuple_mul_2 _ _) (zLO a its.toArray n dd sl t) ⟨ho,⟨.ref a,H,I,rfl,q1 rfl⟩⟩
 ·have hnew:List.foldl (fun x1 x2=>x1++x2) #[] (List.replicate k.toNat its.toArray)=(List.replicate k.toNat its).flatten.toArray:=by
   have:=zFr its k.toNat [];rw[List.nil_append]at this;exact this
  have hlr:(List.replicate k.toNat its).flatten.length<=sizeLine:=by
   rw[zJq,<-r.length,Nat.mul_comm];exact hz
  have hem:its.toArray.isEmpty=false:=by
   rw[Array.isEmpty_eq_false_iff];intro z;rw[z]at hl;simp at hl;omega
  have hprod:((its.toArray.size:Int))*k=((xs.length*k.toNat:Nat):Int):=by
   rw[hl];rw[Int.natCast_mul,show ((k.toNat:Nat):Int)=k by omega]
  refine call_meets F.slot_tuple_mul ⟨_,ho,rfl⟩ F.entry_tuple_mul (F.args_tuple_mul_2 _ _) (zLW a its.toArray n dd sl k t ?_ ?_ ?_ ?_ ?_ ?_) ⟨ho,?_⟩
  ·rw[zW3 (by omega),zW3 (by omega)];decide
  ·rw[hem,Bool.false_or];intro z;exact h1 (eq_of_beq z)
  ·rw[hem,Bool.or_false,zW3 (by omega)];decide
  ·rw[hprod];have:(sizeLine:Nat)<=(2 ^ 63-1) / 8:=by decide
   omega
  ·rw[hprod];unfold Builtin.Tuple.tupleTooMany;rw[zW3 (by omega)];decide
  ·rw[hnew,zWc];exact hlr
  ·rw[hnew];refine ⟨.ref s.heap.objs.size,_,I.laid (t':=s.toks) (o:=.tup (List.replicate k.toNat xs).flatten) (fun b ob q=>zWV _ q) (zWa _) ?_,rfl,q2 h1 _ (I.hok.fresh (zWa _))⟩;exact ⟨by rw[zJq,Nat.mul_comm];exact hz,_,r.rep k.toNat,zCD.new _ _⟩
theorem zQ.rep (h:zQ L H ds vs):∀ k:Nat,zQ L H (List.replicate k ds).flatten (List.replicate k vs).flatten
 |0=> .nil
 |k+1=>by
  rw[zXn,zXn,zYT,zYT];exact zQ.app h (zQ.rep h k)
def zJC:K2:=fun x y M=>match y with
 |.dat (.int k)=>match zCH x with
  |some xs=>if 0<xs.length/\1<=k/\xs.length*k.toNat<=sizeLine then some (.dat (.tup (List.replicate k.toNat xs).flatten),M) else none
  |none=>match zJn M x with
   |some xs=>if -(2 ^ 63)<=k/\k<2 ^ 63/\xs.length*k.toNat<=sizeLine then some (.fl (List.replicate k.toNat xs).flatten,M) else none
   |none=>none
 |_=>none
theorem zSG {K:PySem.W.Frag}:zDA K (fun x y H Q=>zVQ x y H Q\/zSl K x y H Q) zJC:=by
 intro L M M' H H0 x y d v w Q c rx ry hk q;unfold zJC at hk;split at hk
 ·rename_i k;have hw:w=.int k:=by unfold zf Rep at ry;exact ry
  subst hw;split at hk
  ·rename_i xs e1;split at hk
   ·rename_i hz;cases hk;obtain ⟨p1,vs,rfl,h1,r1⟩:=zB2 rx e1;refine .inr ⟨p1,k,vs,rfl,rfl,.of h1,?_,hz.2.1,by rw[r1.length];exact hz.2.2,fun z=>?_,fun z pp hp=>?_⟩
    ·intro z;have:=r1.length;rw[z]at this;simp at this;omega
    ·subst z;refine q L H _ (.refl L H) c ?_;have:(List.replicate (1:Int).toNat xs).flatten=xs:=by simp
     rw[this];unfold zf Rep;exact ⟨p1,vs,rfl,h1,r1⟩
    ·exact q L _ _ (.upd hp) (c.upd hp) (Rep.newTup hp (r1.rep k.toNat))
   ·cases hk
  ·split at hk
   ·rename_i xs e1;split at hk
    ·rename_i hz;cases hk;obtain ⟨l,vs,rfl,h1,r1⟩:=zLw c rx e1;refine .inl ⟨l,k,vs,rfl,rfl,h1,hz.1,hz.2.1,by rw[r1.length];exact hz.2.2,fun p hp=>?_⟩;exact q L _ _ (.upd hp) (c.upd hp) (zf.newLst (.refl L H) c c hp (r1.rep k.toNat))
    ·cases hk
   ·cases hk
 ·cases hk
theorem zVX (h1:QE X a f) (h2:QE X b g):QE X (.BinOp a .Mult b pos) (fOp zJC f g):=zK9 zSG (zTE.or zR4) h1 h2
def zLi:KB:=fun xs M=>match xs with
 |[.dat (.int i),.dat (.int j)]=>some (.dat (.int (if j>i then j else i)),M)
 |_=>none
def zGu:KB:=fun xs M=>match xs with
 |[.dat (.int i),.dat (.int j)]=>some (.dat (.int (if j<i then j else i)),M)
 |_=>none
theorem zGF (r:zCl H0 L H [.dat (.int i),.dat (.int j)] vs):vs=[.int i,.int j]:=by
 unfold zCl at r;obtain ⟨v,r1,rfl,a1,a2⟩:=r;unfold zCl at a2;obtain ⟨v2,r2,rfl,b1,b2⟩:=a2;unfold zCl at b2;subst b2;unfold zf Rep at a1 b1;subst a1 b1;rfl
theorem zP6 {K:PySem.W.Frag}:zGX K (fun xs H Q=>∃ i j,xs=[.int i,.int j]/\Q (.int (if j>i then j else i)) H) zLi:=by
 intro L M M' H H0 xs d vs Q c r hk q;unfold zLi at hk;split at hk
 ·rename_i i j;cases hk;exact ⟨i,j,zGF r,q L H _ (.refl L H) c (zAi (L:=L) (H:=H))⟩
 ·cases hk
theorem zP1 {K:PySem.W.Frag}:zGX K (fun xs H Q=>∃ i j,xs=[.int i,.int j]/\Q (.int (if j<i then j else i)) H) zGu:=by
 intro L M M' H H0 xs d vs Q c r hk q;unfold zGu at hk;split at hk
 ·rename_i i j;cases hk;exact ⟨i,j,zGF r,q L H _ (.refl L H) c (zAi (L:=L) (H:=H))⟩
 ·cases hk
theorem zTH (hcalm:X.calm=true) (hg:Gl X "max") (hm:X.mg "max" = none) (ha:QAE X [e,e2] fa) (he:starEach [e,e2] X.env=(false,eval e X.env)::starEach [e2] X.env:=by rfl) (hpl:(backTo pos (starEach [e2] X.env)).any (·.1)=false:=by rfl):QE X (.Call (.Name "max" p) [e,e2] [] pos) (fB zLi fa) :=
 zEN zP6 (zOL hcalm) (by rfl) hg hm ha (by decide) (by decide) he hpl
theorem zUE (hcalm:X.calm=true) (hg:Gl X "min") (hm:X.mg "min" = none) (ha:QAE X [e,e2] fa) (he:starEach [e,e2] X.env=(false,eval e X.env)::starEach [e2] X.env:=by rfl) (hpl:(backTo pos (starEach [e2] X.env)).any (·.1)=false:=by rfl):QE X (.Call (.Name "min" p) [e,e2] [] pos) (fB zGu fa) :=
 zEN zP1 (zN7 hcalm) (by rfl) hg hm ha (by decide) (by decide) he hpl
def zEO:KM:=fun x ds M=>match x,ds with
 |.dat (.ref n),[.ref m]=>match M[n]?,M[m]? with
  |some (.lst xs),some (.lst ys)=>if xs.length+ys.length<=sizeLine then some (.non,M.set n (.lst (xs++ys))) else none
  |_,_=>none
 |_,_=>none
theorem zMa {K:PySem.W.Frag}:zQv K zM4 zEO:=by
 intro L M M' H H0 x ds d v vs Q c rx rd hk q;unfold zEO at hk;split at hk
 ·rename_i n m;split at hk
  ·rename_i xs ys e1 e1';split at hk
   ·rename_i hz;cases hk;unfold zf Rep at rx;obtain ⟨a,rfl,e2⟩:=rx;obtain ⟨ws,e3,r3⟩:=c.obj n a _ e2 e1;obtain ⟨w,rfl,r4⟩:=rd.one;unfold Rep at r4;obtain ⟨b,rfl,e4⟩:=r4;obtain ⟨zs,e5,r5⟩:=c.obj m b _ e4 e1';obtain ⟨c5,s5⟩:=c.write e2 e1 (r3.app r5);exact ⟨a,b,ws,zs,rfl,rfl,e3,e5,by rw[r3.length,r5.length];exact hz,q L _ _ s5 c5 (by unfold Rep;rfl)⟩
   ·cases hk
  ·cases hk
 ·cases hk
theorem zPd (h:QE X a f) (hg:QA X [e] fg) (hbase:attributeBase a "extend" X.env (eval a X.env)=eval a X.env:=by rfl)
  (hfew:((backTo cpos (starEach [e] X.env)).all (fun x=> !x.1)&&(backToKw cpos (keywordEach [] X.env)).all (fun x=>x.1.isSome)&&decide ([e].length+([]:List Keyword).length+(if ([]:List Keyword).isEmpty then 0 else 1)<30))=true:=by rfl)
  (hline:(apos.endLine==cpos.line)=true:=by rfl) (hs:starEach [e] X.env=(false,eval e X.env)::starEach [] X.env:=by rfl) (hplain:(backTo cpos (starEach [] X.env)).any (·.1)=false:=by rfl) :
  QE X (.Call (.Attribute a "extend" apos) [e] [] cpos) (fM zEO f fg) :=
 .mk <| PE.imp (zNY PySem.F.plainAttrs_list PySem.F.slot_list_extend PySem.F.type_list_extend zOF h.un hg.un hbase hfew hline hs hplain) fun _ _ _ z=>zJO zMa z
end
end L3
namespace HT
open PySem PySem.Spec PyProof.Rows
end HT
namespace L3
open PySem PySem.Spec PyProof.Rows L2
section
variable {X:Cx} {a b o e e2 st:Expr} {pos p p2 apos cpos:Pos} {f g:FE} {te:TE} {ts:TO}
theorem zNw:MtM X "list.index" (fun x vs H Q=>∃ (l:Addr) (i:Int) (xs:List Int),x=.ref l/\vs=[.int i]/\H l=some (.lst (xs.map V.int))/\xs.length<=90000/\i∈xs/\Q (.int (xs.idxOf i)) H):=by
 intro zB s σ H x xs v us Q I rx rv z;obtain ⟨p,i,ns,rfl,rfl,hp,hz,hi,q⟩:=z;cases rx;obtain ⟨u,rfl,ru⟩:=rv.one;obtain ⟨t,rfl⟩:=ru;obtain ⟨z,its,n,r,hl,ee⟩:=I.lstM hp;have hia:=zL4 r;have hlen:=hia.length;have hj:ns.idxOf i<ns.length:=List.idxOf_lt_length_iff.mpr hi
 refine call_meets PySem.F.slot_list_index ⟨_,ee,rfl⟩ PySem.F.entry_list_index (PySem.F.args_list_index_2 _ _)
  (PySem.SeqAt.list_indexAt p its.toArray n none #[] (.int i t) (isInt i) (ns.idxOf i) (by simpa [hlen] using hj) (by omega) ?_ ?_) ⟨ee,fun y hy=>(eq_isInt i t hia y (by simpa using hy)).at _ _,⟨.int (ns.idxOf i),H,I.tok _,⟨_,rfl⟩,q⟩⟩
 ·show isInt i its[ns.idxOf i]=true;rw[isInt_at i hia _ (by omega) hj];simpa using List.getElem_idxOf hj
 ·intro j hjs hlt;show isInt i its[j]=false;rw[isInt_at i hia j (by simpa using hjs) (by omega)];exact ne_of_lt_idxOf hlt _
def zEV:KM:=fun x ds M=>match x,ds with
 |.dat (.ref n),[.int i]=>match M[n]? with
  |some (.lst ds)=>match zAj ds with
   |some xs=>if i∈xs/\xs.length<=90000 then some (.int (xs.idxOf i),M) else none
   |none=>none
  |_=>none
 |_,_=>none
theorem zMo {K:PySem.W.Frag}:zQv K (fun x vs H Q=>∃ (l:Addr) (i:Int) (xs:List Int),x=.ref l/\vs=[.int i]/\H l=some (.lst (xs.map V.int))/\xs.length<=90000/\i∈xs/\Q (.int (xs.idxOf i)) H) zEV:=by
 intro L M M' H H0 x ds d v vs Q c rx rd hk q;unfold zEV at hk;split at hk
 ·rename_i n i;split at hk
  ·rename_i ds e1;split at hk
   ·rename_i xs e2;split at hk
    ·rename_i hi;cases hk;unfold zf Rep at rx;obtain ⟨a,rfl,e4⟩:=rx;obtain ⟨ws,e5,r5⟩:=c.obj n a _ e4 e1;have ev:=zCb e2 r5;subst ev;exact ⟨a,i,xs,rfl,zET rd,e5,hi.2,hi.1,q L H _ (.refl L H) c (by unfold Rep;rfl)⟩
    ·cases hk
   ·cases hk
  ·cases hk
 ·cases hk
theorem zQg (h:QE X a f) (hg:QA X [e] fg) (hbase:attributeBase a "index" X.env (eval a X.env)=eval a X.env:=by rfl)
  (hfew:((backTo cpos (starEach [e] X.env)).all (fun x=> !x.1)&&(backToKw cpos (keywordEach [] X.env)).all (fun x=>x.1.isSome)&&decide ([e].length+([]:List Keyword).length+(if ([]:List Keyword).isEmpty then 0 else 1)<30))=true:=by rfl)
  (hline:(apos.endLine==cpos.line)=true:=by rfl) (hs:starEach [e] X.env=(false,eval e X.env)::starEach [] X.env:=by rfl) (hplain:(backTo cpos (starEach [] X.env)).any (·.1)=false:=by rfl) :
  QE X (.Call (.Attribute a "index" apos) [e] [] cpos) (fM zEV f fg) :=
 .mk <| PE.imp (zNY PySem.F.plainAttrs_list PySem.F.slot_list_index PySem.F.type_list_index zNw h.un hg.un hbase hfew hline hs hplain) fun _ _ _ z=>zJO zMo z
end
section
variable {X:Cx} {a b a2 b2 o e e2:Expr} {pos p apos cpos:Pos}
def zJt (k1:Str) (fv:FE) (k2:Str) (fw:FE):FE:=fun σ M=>match toD fv σ (M++[.dict []]) with
 |some (v,M1)=>match toD fw σ M1 with
  |some (w,M2)=>match M2[M.length]? with
   |some (.dict [])=>if k1=k2 then none else some (.dat (.ref M.length),M2.set M.length (.dict [(.str k1,v),(.str k2,w)]))
   |_=>none
  |none=>none
 |none=>none
theorem zSS (h1:QE X a (fC (.str k1))) (h2:QE X b fv) (h3:QE X a2 (fC (.str k2))) (h4:QE X b2 fw):QE X (.Dict [some a,some a2] [b,b2] pos) (zJt k1 fv k2 fw):=.mk <| PE.imp (zR0 (zLE (zA3 h1).un (zA3 h2).un (zLE (zA3 h3).un (zA3 h4).un zRn)) rfl rfl (by simp) (by simp)) fun τ H Q ⟨L,σ,M,d,M',c,rs,hf,q⟩ p hp=>by
 unfold zJt at hf;split at hf
 ·rename_i v M1 e2;split at hf
  ·rename_i w M2 e4;split at hf
   ·rename_i e5;split at hf
    ·cases hf
    ·rename_i hne;cases hf;obtain ⟨c0,s0⟩:=c.pushO (m:=.dict []) (o:=.dK []) hp ⟨[],zw,rfl⟩;refine ⟨L++[p],σ,_,_,_,c0,rs.stp s0,(rfl:toD (fC (.str k1)) σ (M++[.dict []])=some (.str k1,_)),fun L1 H1 x st1 c1 r1=>⟨L1,σ,_,_,_,c1,(rs.stp s0).stp st1,e2,fun L2 H2 y st2 c2 r2=>?_⟩⟩;refine ⟨L2,σ,_,_,_,c2,((rs.stp s0).stp st1).stp st2,(rfl:toD (fC (.str k2)) σ M1=some (.str k2,_)),fun L3 H3 x' st3 c3 r3=>⟨L3,σ,_,_,_,c3,(((rs.stp s0).stp st1).stp st2).stp st3,e4,fun L4 H4 y' st4 c4 r4=>?_⟩⟩;have st:=(((s0.trans st1).trans st2).trans st3).trans st4;have hx:x=.str k1:=by unfold Rep at r1;exact r1
     have hx':x'=.str k2:=by unfold Rep at r3;exact r3
     have lp:L4[M.length]?=some p:=by
      obtain ⟨N,hN⟩:=((st1.trans st2).trans st3).trans st4 |>.pre;rw[hN,<-c.len];simp
     obtain ⟨vs,ev,dv⟩:=c4.obj _ p _ lp e5;unfold zA0 at dv;subst dv;have hm:zE3 [] [((Sum.inr k1:Key),y),(Sum.inr k2,y')]=[((Sum.inr k1:Key),y),(Sum.inr k2,y')]:=by
      unfold zE3 zBs;have h12:¬ ((Sum.inr k1:Key)=Sum.inr k2):=fun z=>hne (Sum.inr.inj z);simp[h12]
     refine ⟨ev,[(Sum.inr k1,y),(Sum.inr k2,y')],by rw[hx,hx'];rfl,by simp,?_⟩;rw[hm];obtain ⟨c5,s5⟩:=c4.put (m:=.dict [(.str k1,v),(.str k2,w)]) (o':=.dK [(Sum.inr k1,y),(Sum.inr k2,y')]) lp ev (fun _ z=>by cases z) (fun _ _ z=>by cases z) fun s5=>⟨_,zw,_,y,[(Sum.inr k2,y')],rfl,rfl,(r2.stp (st3.trans st4)).stp s5,_,y',[],rfl,rfl,r4.stp s5,rfl⟩;refine q _ _ _ (st.trans s5) c5 ?_;unfold zf Rep;exact ⟨p,rfl,lp⟩
   ·cases hf
  ·cases hf
 ·cases hf
end
section
variable {X:Cx} {e tg:Expr} {pos:Pos}
def zOO (fg:FG) (f:FE):FS:=fun σ M=>match toD f σ M with
 |some (d,M1)=>match fg d σ with
  |some σ1=>some (.nx,σ1,M1)
  |none=>none
 |none=>none
theorem zVr (hk:GOk g fg) (h:QE X e f) (hg:PG X tg g) (hs:swapsWithSole [tg] e pos.line X.env=pure false:=by rfl) (hw:swappedStores [tg] e X.env=pure none:=by rfl)
  (h1:(assignEach [tg] X.env).map (·.2)=[assign tg X.env]:=by rfl):QS X (.Assign [tg] e pos) (zOO fg f) :=
 .mk <| PS.imp (zPv h.un hg hs hw h1) fun E τ H zz=>by
  obtain ⟨L,σ,M,o,σ',M',c,rs,hf,q⟩:=zz;unfold zOO at hf;split at hf
  ·rename_i d M1 e1;split at hf
   ·rename_i σ1 e2;cases hf;refine zKP ⟨L,σ,M,_,_,c,rs,e1,fun L1 H1 v s1 c1 r1=>?_⟩;exact hk (rs.stp s1) r1 e2 fun τ' rs'=>q L1 H1 s1 c1 τ' rs'
   ·cases hf
  ·cases hf
variable {σ:Sd} {M:Mem} {P:Out->Sd->Mem->Prop} {fg:FG} {f:FE}
theorem zNZ:OkS (zOO fg f σ M) P ↔ Ok (f σ M) (zGa fun d M1=>∃ σ1,fg d σ=some σ1/\P .nx σ1 M1):=by
 rw[<-zAJ];unfold zOO;constructor
 ·rintro ⟨o,σ',M',e,p⟩;split at e
  ·rename_i d M1 e1;split at e
   ·rename_i σ1 e2;cases e;exact ⟨d,_,e1,_,e2,p⟩
   ·cases e
  ·cases e
 ·rintro ⟨d,M1,e1,σ1,e2,p⟩;refine ⟨.nx,σ1,M1,?_,p⟩;rw[e1];dsimp only;rw[e2]
end
def SI (b:Bool) (h:Heap) (it t:Addr) (k:Nat):Prop:=if b then h.IsTupleIter it t k else h.IsListIter it t k
def SO (b:Bool) (h:Heap) (t:Addr) (xs:Array Value):Prop:=if b then h.IsTuple t xs else h.IsList t xs
abbrev itO (b:Bool) (t:Addr):Obj:={ cls:=.type (if b then "tuple_iterator" else "list_iterator"),data:=.fields #[.ref t,.int 0 0] }
theorem SO.keep (x:SO b h t xs) (e:∀ o,h.get? t=some o->h'.get? t=some o):SO b h' t xs:=by
 cases b with
 |true=>obtain ⟨o,q,r⟩:=(show h.IsTuple t xs from x);exact (show h'.IsTuple t xs from ⟨o,e o q,r⟩)
 |false=>obtain ⟨o,q,r⟩:=(show h.IsList t xs from x);exact (show h'.IsList t xs from ⟨o,e o q,r⟩)
section
variable {prog:Program} {w:World} {A:Around} {E:Value->Shared->Prop} {s:Shared}
theorem zSx (hl:SO b s.heap l items) (hQ:Q (.ref s.heap.objs.size) { s with heap:=s.heap.push (itO b l) }):wpAny (model prog w) A (pyIter (.ref l)) Q E s:=by
 cases b with
 |true=>exact wpAny_pyIter_tuple (show s.heap.IsTuple l items from hl) hQ
 |false=>exact wpAny_pyIter_list (show s.heap.IsList l items from hl) hQ
theorem zVb (e:h.get? it=some (itO b t)):SI b h it t 0:=by
 cases b with
 |true=>exact (show h.IsTupleIter it t 0 from ⟨_,e,rfl,rfl⟩)
 |false=>exact (show h.IsListIter it t 0 from ⟨_,e,rfl,rfl⟩)
end
def SqG (K:PySem.W.Frag) (b:Bool) (H:Hp) (a:Addr) (xs:List V):Prop:=if b then SqT K H a xs else SqL K H a xs
theorem zTz (I:Inv X zB σ H s) (h:SqG X.K b H a xs):∃ its,ze xs its/\SO b s.heap a its.toArray:=by
 cases b with
 |true=>obtain ⟨its,rv,p1,_⟩:=I.tuple h;exact ⟨its,rv,p1⟩
 |false=>obtain ⟨its,rv,p1,_⟩:=I.list h;exact ⟨its,rv,p1.isList⟩
theorem zWH (x:SO b h a its):a<h.objs.size:=by
 cases b with
 |true=>obtain ⟨_,e,_⟩:=(show h.IsTuple a its from x);exact zWf e
 |false=>obtain ⟨_,e,_⟩:=(show h.IsList a its from x);exact zWf e
section
variable {X:Cx} {a b:Expr} {es:List Expr} {ek:Nat} {ep p pos:Pos}
theorem zTT {K:PySem.W.Frag} {L1:List Addr} {M1:Mem} {H1:Hp} {x:D} {v:V} {xs:List D} (c1:Cor K L1 M1 H1) (r1:Rep L1 H1 x v) (e:zAb M1 (.dat x)=some xs) :
  ∃ b l,v=.ref l/\(∃ vs,SqG K b H1 l vs) /\ ∀ L2 H2 M2,Stp L1 H1 L2 H2->Cor K L2 M2 H2->zAb M2 (.dat x)=some xs -> ∃ vs',SqG K b H2 l vs'/\zQ L2 H2 xs vs':=by
 have r1':zf H1 L1 H1 (.dat x) v:=r1;cases x with
 |tup ds=>
  cases e;obtain ⟨a,vs,rfl,e3,r3⟩:=zB2 r1' (xs:=xs) rfl;exact ⟨true,a,rfl,⟨vs,(show SqT K H1 a vs from .of e3)⟩,fun L2 H2 M2 s2 c2 _=>⟨vs,(show SqT K H2 a vs from .of (s2.tup a vs e3)),r3.stp s2⟩⟩
 |ref n=>
  have e2:zBR M1 (.dat (.ref n))=some xs:=e;obtain ⟨a,vs,rfl,e3,r3⟩:=zBI c1 r1' e2;refine ⟨false,a,rfl,⟨vs,(show SqL K H1 a vs from .inl e3)⟩,fun L2 H2 M2 s2 c2 hq=>?_⟩;unfold Rep at r1;obtain ⟨a',ha',e5⟩:=r1;cases ha';have e6:L2[n]?=some a:=by obtain ⟨N,hN⟩:=s2.pre;rw[hN];exact zBh e5
  have r2:zf H2 L2 H2 (.dat (.ref n)) (.ref a):=by unfold zf Rep;exact ⟨a,rfl,e6⟩
  obtain ⟨a2,vs',h2,e7,r7⟩:=zBI c2 r2 (show zBR M2 (.dat (.ref n))=some xs from hq);cases h2;exact ⟨vs',(show SqL K H2 a vs' from .inl e7),r7⟩
 |_=>cases e
end
theorem zHg {ns:List Int} {its:List Value} (r:ze (ns.map V.int) its) {i:Nat} {v:Value} (h:its.toArray[i]?=some v):∃ t,v=.int (ns.getD i 0) t:=by
 have h':its[i]?=some v:=by simpa using h
 have hi:i<its.length:=(zWX.mp h').1;have hl:=r.length;rw[zWd]at hl;have hx:(ns.map V.int)[i]?=some (.int (ns.getD i 0)):=by
  rw[zWr,zWZ,zWY (by omega)];rfl
 obtain ⟨u,hu,ru⟩:=r.get hx;rw[h']at hu;cases hu;obtain ⟨t,rfl⟩:=ru;exact ⟨t,rfl⟩
theorem zPR (hh:A.handled=none) (b:Bool) (I ax:Addr) (hne:ax≠I) (items:Array Value) :
  Walks prog w A I [I,ax] [I] items.size (fun i v=>items[i]?=some v) (fun i h=>SI b h I ax i/\SO b h ax items):=by
 cases b with
 |true=>exact Walks.tuple hh I ax hne items
 |false=>exact Walks.list hh I ax hne items
section
variable {X:Cx} {e:Expr} {pos p:Pos}
theorem zNi (gt:Bool) (hc:X.calm=true):zB5 X (.builtin (if gt then "max" else "min")) (fun xs H Q=>∃ (b:Bool) (a:Addr) (ns:List Int) (m:Int),xs=[.ref a]/\SqG X.K b H a (ns.map V.int)/\m∈ns/\(∀ x∈ns,if gt then x<=m else m<=x)/\Q (.int m) H):=by
 intro zB s σ H xs us Q I r h;obtain ⟨b,a,ns,m,rfl,hs,hm,hb,q⟩:=h;obtain ⟨u,rfl,ru⟩:=zEc r;cases ru;obtain ⟨its,rv,p1⟩:=zTz I hs;have hl:its.toArray.size=ns.length:=by have:=rv.length;simp at this ⊢;omega
 have hpos:0<ns.length:=List.length_pos_of_mem hm;have hlt:=zWH p1;have hfp:∀ c∈[s.heap.objs.size,a],c<(s.heap.push (itO b a)).objs.size:=fun c hc'=>by
  rw[zXA];simp only[zWg,zWz,zXp]at hc';rcases hc' with rfl|rfl
  ·exact zXR _
  ·exact zXJ hlt
 have st:SI b (s.heap.push (itO b a)) s.heap.objs.size a 0/\SO b (s.heap.push (itO b a)) a its.toArray:=⟨zVb (zWe _ rfl),p1.keep fun o e=>zWV _ e⟩;have kp:∀ h':Heap,(∀ c o,c∉[s.heap.objs.size]->(s.heap.push (itO b a)).get? c=some o->h'.get? c=some o) -> ∀ c o,s.heap.get? c=some o->h'.get? c=some o:=fun h' hk c o e0=>
  hk c o (by simp only[zWg,zWz,zXp];exact zWp (zWf e0)) (zWV _ e0)
 have fin:∀ (i:Nat) (v:Value) (h':Heap) (tk:Nat),its.toArray[i]?=some v->ns.getD i 0=m->(∀ c o,s.heap.get? c=some o->h'.get? c=some o)->EP X zB σ Q v { s with heap:=h',toks:=tk }:=fun i v h' tk hv hi hk=>by
  obtain ⟨t,rfl⟩:=zHg rv hv;rw[hi];exact ⟨.int m,H,I.kept hk,⟨t,rfl⟩,q⟩
 cases gt with
 |true=>
  refine call_max_walk (zSx p1 ⟨s.heap.objs.size,[s.heap.objs.size,a],[s.heap.objs.size],its.toArray.size,fun i v=>its.toArray[i]?=some v,fun i h=>SI b h s.heap.objs.size a i/\SO b h a its.toArray,_,rfl,zPR (A:=X.A.in1) (I.ok.hd hc) b _ a (zWp hlt) its.toArray,st,hfp,by omega,CmpOf.ints_gt (fun i=>ns.getD i 0) (fun _ _ hv=>zHg rv hv),fun v h' tk hP hk=>?_⟩);refine fin _ v h' tk hP ?_ (kp h' hk);obtain ⟨h1,h2⟩:=argBest_gt (fun i=>ns.getD i 0) (its.toArray.size-1);rw[hl]at h1 h2 ⊢;generalize argBest _ (ns.length-1)=q at h1 h2 ⊢;obtain ⟨j,hj,ej⟩:=List.mem_iff_getElem.mp hm;have h3:=h2 j (by omega);have e3:ns.getD j 0=m:=by rw[zWZ,zWY hj];exact ej
  have hq:q<ns.length:=by omega
  have h4:ns.getD q 0<=m:=by
   have:=hb (ns.getD q 0) (by rw[zWZ,zWY hq];exact zW2 hq);simpa using this
  rw[e3]at h3;omega
 |false=>
  refine call_min_walk (zSx p1 ⟨s.heap.objs.size,[s.heap.objs.size,a],[s.heap.objs.size],its.toArray.size,fun i v=>its.toArray[i]?=some v,fun i h=>SI b h s.heap.objs.size a i/\SO b h a its.toArray,_,rfl,zPR (A:=X.A.in1) (I.ok.hd hc) b _ a (zWp hlt) its.toArray,st,hfp,by omega,CmpOf.ints_lt (fun i=>ns.getD i 0) (fun _ _ hv=>zHg rv hv),fun v h' tk hP hk=>?_⟩);refine fin _ v h' tk hP ?_ (kp h' hk);obtain ⟨h1,h2⟩:=argBest_lt (fun i=>ns.getD i 0) (its.toArray.size-1);rw[hl]at h1 h2 ⊢;generalize argBest _ (ns.length-1)=q at h1 h2 ⊢;obtain ⟨j,hj,ej⟩:=List.mem_iff_getElem.mp hm;have h3:=h2 j (by omega);have e3:ns.getD j 0=m:=by rw[zWZ,zWY hj];exact ej
  have hq:q<ns.length:=by omega
  have h4:m<=ns.getD q 0:=by
   have:=hb (ns.getD q 0) (by rw[zWZ,zWY hq];exact zW2 hq);simpa using this
  rw[e3]at h3;omega
def zC5 (gt:Bool):Int->List Int->Int
 |m,[]=>m
 |m,x::r=>zC5 gt (if (if gt then m<x else x<m) then x else m) r
theorem zDf (gt:Bool):∀ (r:List Int) (m:Int),zC5 gt m r∈m::r /\ ∀ x∈m::r,if gt then x<=zC5 gt m r else zC5 gt m r<=x
 |[],m=>by
  refine ⟨by simp[zC5],fun x hx=>?_⟩;have:x=m:=by simpa using hx
  subst this;cases gt <;> simp[zC5]
 |y::r,m=>by
  unfold zC5;obtain ⟨h1,h2⟩:=zDf gt r (if (if gt then m<y else y<m) then y else m);generalize hb:zC5 gt (if (if gt then m<y else y<m) then y else m) r=B at h1 h2;constructor
  ·rcases zWg.mp h1 with q|q
   ·rw[q];by_cases hc:(if gt=true then m<y else y<m)
    ·rw[zWj hc];simp
    ·rw[zWm hc];simp
   ·simp[q]
  ·intro x hx;have h0:=h2 _ zWi;rcases zWg.mp hx with q|q
   ·subst q;cases gt with
    |true=>simp at h0 ⊢;split at h0 <;> omega
    |false=>simp at h0 ⊢;split at h0 <;> omega
   ·rcases zWg.mp q with z|z
    ·subst z;cases gt with
     |true=>simp at h0 ⊢;split at h0 <;> omega
     |false=>simp at h0 ⊢;split at h0 <;> omega
    ·exact h2 x (zWh _ z)
def zE8 (gt:Bool):KB:=fun xs M=>match xs with
 |[.dat d]=>match zAb M (.dat d) with
  |some ds=>match zAj ds with
   |some (n::ns)=>some (.dat (.int (zC5 gt n ns)),M)
   |_=>none
  |none=>none
 |[.fl ds]=>match zAj ds with
  |some (n::ns)=>some (.dat (.int (zC5 gt n ns)),M)
  |_=>none
 |_=>none
theorem zP3 {K:PySem.W.Frag} {gt:Bool}:zGX K (fun xs H Q=>∃ (b:Bool) (a:Addr) (ns:List Int) (m:Int),xs=[.ref a]/\SqG K b H a (ns.map V.int)/\m∈ns/\(∀ x∈ns,if gt then x<=m else m<=x)/\Q (.int m) H) (zE8 gt):=by
 intro L M M' H H0 xs d vs Q c r hk q;unfold zE8 at hk;split at hk
 ·rename_i d0;split at hk
  ·rename_i ds e1;split at hk
   ·rename_i n ns e2;cases hk;obtain ⟨v,rfl,r1⟩:=r.one;have r1':Rep L H d0 v:=r1;obtain ⟨b,l,rfl,_,key⟩:=zTT c r1' e1;obtain ⟨vs',hq,rr⟩:=key L H M (.refl L H) c e1;have ev:=zCb e2 rr;subst ev;obtain ⟨h1,h2⟩:=zDf gt ns n;exact ⟨b,l,n::ns,zC5 gt n ns,rfl,hq,h1,h2,q L H _ (.refl L H) c (zAi (L:=L) (H:=H))⟩
   ·cases hk
  ·cases hk
 ·rename_i ds;split at hk
  ·rename_i n ns e2;cases hk;obtain ⟨v,rfl,r1⟩:=r.one;obtain ⟨l,vs',rfl,hq,rr⟩:=zBI c r1 (show zBR M (.fl ds)=some ds from rfl);have ev:=zCb e2 rr;subst ev;obtain ⟨h1,h2⟩:=zDf gt ns n;exact ⟨false,l,n::ns,zC5 gt n ns,rfl,.inl hq,h1,h2,q L H _ (.refl L H) c (zAi (L:=L) (H:=H))⟩
  ·cases hk
 ·cases hk
theorem zT7 (hcalm:X.calm=true) (hg:Gl X "min") (hm:X.mg "min" = none) (ha:QAE X [e] fa) (he:starEach [e] X.env=(false,eval e X.env)::starEach [] X.env:=by rfl) (hpl:(backTo pos (starEach [] X.env)).any (·.1)=false:=by rfl):QE X (.Call (.Name "min" p) [e] [] pos) (fB (zE8 false) fa) :=
 zEN zP3 (zNi false hcalm) (by rfl) hg hm ha (by decide) (by decide) he hpl
end
section
variable {X:Cx} {a e e2 o:Expr} {pos p apos cpos:Pos} {f:FE}
def zNs (f:FE):FT:=fun σ M=>match f σ M with
 |some (x,M1)=>match zAb M1 x with
  |some xs=>some (!xs.isEmpty,M1)
  |none=>none
 |none=>none
theorem zRN (h:QE X a f) (he:∀ whole,isTrue a X.env whole=(do let v <- whole;standAt a.pos;holding [v] (truthy v)):=by intro _;rfl):QT X a (zNs f) :=
 .mk <| PT.imp (zPe h.un he) fun τ H Q zz=>by
  obtain ⟨L,σ,M,d,M',c,rs,hf,q⟩:=zz;unfold zNs at hf;split at hf
  ·rename_i x M1 e1;split at hf
   ·rename_i xs e2;cases hf;refine ⟨L,σ,M,_,_,c,rs,e1,fun L1 H1 v s1 c1 r1=>⟨!xs.isEmpty,?_,q L1 H1 s1 c1⟩⟩;unfold zAb at e2;have emp:∀ {vs:List V},zQ L1 H1 xs vs->(!xs.isEmpty) = !vs.isEmpty:=fun {vs} r=>by
     have:=r.length;cases xs <;> cases vs <;> first|rfl|simp at this
    cases t:zCH x with
    |some ws=>
     rw[t]at e2;cases e2;obtain ⟨l,vs,rfl,e3,r3⟩:=zB2 r1 t;exact .inr (.inl ⟨vs,.of e3,emp r3⟩)
    |none=>
     rw[t]at e2;obtain ⟨l,vs,rfl,e3,r3⟩:=zBI c1 r1 e2;exact .inl ⟨vs,.inl e3,emp r3⟩
   ·cases hf
  ·cases hf
theorem zOu:zB5 X (.builtin "len") (fun xs H Q=>∃ (p:Addr) (kvs:List (Key × V)),xs=[.ref p]/\H p=some (.dK kvs)/\Q (.int kvs.length) H):=by
 intro zB s σ H xs us Q I r h;obtain ⟨p,kvs,rfl,hx,q⟩:=h;obtain ⟨u,rfl,rx⟩:=zEc r;cases rx;have hn:=zEk;obtain ⟨hz,hS,vs,r',m⟩:kvs.length<=sizeLine/\(p==sysModules)=false /\ ∃ vs,KV kvs vs/\s.heap.DictOf (zAK X.prog X.w) p vs:=I.hok p _ hx;have hlen:kvs.length=vs.length:=Paired.length r';exact call_len_dict hS m (by omega) ⟨.int kvs.length,H,I.tok _,⟨s.toks+1,by rw[hlen]⟩,q⟩
def zIu:KB:=fun xs M=>match xs with
 |[.dat (.ref n)]=>match M[n]? with
  |some (.dict kvs)=>some (.dat (.int kvs.length),M)
  |_=>none
 |_=>none
theorem zPK {K:PySem.W.Frag}:zGX K (fun xs H Q=>∃ (p:Addr) (kvs:List (Key × V)),xs=[.ref p]/\H p=some (.dK kvs)/\Q (.int kvs.length) H) zIu:=by
 intro L M M' H H0 xs d vs Q c r hk q;unfold zIu at hk;split at hk
 ·rename_i n;split at hk
  ·rename_i kvs e1;cases hk;obtain ⟨v,rfl,r1⟩:=r.one;unfold zf Rep at r1;obtain ⟨a,rfl,e2⟩:=r1;obtain ⟨ws,e3,r3⟩:=c.obj n a _ e2 e1;have hl:=r3.length;refine ⟨a,ws,rfl,e3,?_⟩;have:=q L H (.int kvs.length) (.refl L H) c (zAi (L:=L) (H:=H));rw[<-hl]at this;exact this
  ·cases hk
 ·cases hk
theorem zTY (hg:Gl X "len") (hm:X.mg "len" = none) (ha:QAE X [e] fa) (he:starEach [e] X.env=(false,eval e X.env)::starEach [] X.env:=by rfl) (hpl:(backTo pos (starEach [] X.env)).any (·.1)=false:=by rfl):QE X (.Call (.Name "len" p) [e] [] pos) (fB zIu fa) :=
 zEN zPK zOu PySem.boot_len hg hm ha (by decide) (by decide) he hpl
end
noncomputable def zI7 (fg:FG) (tc:FT) (fi2:FI) (own2:List Nat) (fg2:FG) (tc2:FT) (te:FE) (σ:Sd) (all:List D) (gd:Option (Mem->Prop)):List D->List D->Mem->Option (List D × Mem)
 |[],acc,M=>open Classical in if zA1 gd all M then some (acc,M) else none
 |x::r,acc,M=>open Classical in if zA1 gd all M then match fg x σ with
   |some σ1=>match tc σ1 M with
    |some (true,M1)=>match fi2 σ1 M1 with
     |some (ys,gd2,M2)=>if acc.length+ys.length<=sizeLine then match zA2 fg2 tc2 te (zBD own2 σ1) ys gd2 ys M2 with
       |some (ds,M3)=>zI7 fg tc fi2 own2 fg2 tc2 te σ all gd r (acc++ds) M3
       |none=>none
      else none
     |none=>none
    |some (false,M1)=>zI7 fg tc fi2 own2 fg2 tc2 te σ all gd r acc M1
    |none=>none
   |none=>none
  else none
noncomputable def zFh (own own2:List Nat) (fi:FI) (fg:FG) (tc:FT) (fi2:FI) (fg2:FG) (tc2:FT) (te:FE):FE:=fun σ M=>match fi σ M with
 |some (xs,gd,M1)=>match zI7 fg tc fi2 own2 fg2 tc2 te (zBD own σ) xs gd xs [] M1 with
  |some (ys,M2)=>some (.fl ys,M2)
  |none=>none
 |none=>none
theorem zL3 {K:PySem.W.Frag} {own own2:List Nat} {fi fi2:FI} {g g2:TG} {fg fg2:FG} {tc tc2:FT} {te:FE} (hg:zFP own g fg) (hg2:zFP own2 g2 fg2) {τ:Sv} {H:Hp} {Q:VK} (h:trE K (zFh own own2 fi fg tc fi2 fg2 tc2 te) τ H Q) :
  zQH own own2 (trI K fi) g (trT K tc) (trI K fi2) g2 (trT K tc2) (trD K (toD te)) τ H Q:=by
 obtain ⟨L,σ,M,d,Mf,c,rs,hf,q⟩:=h;unfold zFh at hf;split at hf
 ·rename_i xs gd M1 e1;split at hf
  ·rename_i zs M2 e2;cases hf;refine ⟨L,σ,M,_,_,_,c,rs,e1,fun L1 H1 J s1 c1 it=>?_⟩
   refine ⟨fun i m ys H'=>m=xs.length-i/\i<=xs.length /\ ∃ L' M' as,Stp L1 H1 L' H'/\Cor K L' M' H'/\zQ L' H' as ys/\as.length<=sizeLine/\zI7 fg tc fi2 own2 fg2 tc2 te (zBD own σ) xs gd (xs.drop i) as M'=some (zs,Mf),
    ⟨xs.length,by simp,zXG _,L1,M1,[],.refl _ _,c1,.nil,zXG _,by simpa using e2⟩,?_⟩
   rintro i m ys H' ⟨rfl,hi,L',M',as,s',c',r',hl,e'⟩;by_cases hlt:i<xs.length
   ·rw[zCN hlt]at e';unfold zI7 at e';split at e'
    ·rename_i hgd;obtain ⟨step,_⟩:=it L' H' M' s' c' hgd;obtain ⟨go,yl⟩:=step i xs[i] (zWY hlt);split at e'
     ·rename_i σ1 eg;refine .inr ⟨go,fun v H2 hy=>?_⟩;obtain ⟨gr,rv⟩:=yl v H2 hy;have s2:Stp L1 H1 L' H2:=s'.yld gr;refine hg (zEM own ((rs.stp s1).stp s2)) (.refl _) rv eg fun τ2 r2 x2=>⟨x2,?_⟩;split at e'
      ·rename_i M3 e3;split at e'
       ·rename_i ys2 gd2 M4 e4;split at e'
        ·rename_i hz2;split at e'
         ·rename_i ds M5 e5;refine ⟨L',σ1,M',_,_,c'.grow gr,r2,e3,fun L3 H3 s3 c3=>zHt ?_⟩;have st3:Stp L' H' L3 H3:=(Stp.grow gr).trans s3;refine ⟨L3,σ1,M3,_,_,_,c3,r2.stp s3,e4,fun L4 H4 J2 s4 c4 it2=>?_⟩
          refine ⟨fun j m2 ws H5=>m2=ys2.length-j/\j<=ys2.length /\ ∃ L5 M6 bs cs,Stp L4 H4 L5 H5/\Cor K L5 M6 H5/\zQ L5 H5 (as++bs) ws/\bs.length<=j/\zA2 fg2 tc2 te (zBD own2 σ1) ys2 gd2 (ys2.drop j) M6=some (cs,M5)/\bs++cs=ds,
           ⟨ys2.length,by simp,zXG _,L4,M4,[],ds,.refl _ _,c4,by simpa using (r'.stp st3).stp s4,zWa _,by simpa using e5,rfl⟩,?_⟩
          rintro j m2 ws H5 ⟨rfl,hj,L5,M6,bs,cs,s5,c5,r5,hbl,e6,hbc⟩;have hws:ws.length<=as.length+j:=by rw[r5.length,zWk];omega
          by_cases hlt2:j<ys2.length
          ·rw[zCN hlt2]at e6;unfold zA2 at e6;split at e6
           ·rename_i hgd2;obtain ⟨step2,_⟩:=it2 L5 H5 M6 s5 c5 hgd2;obtain ⟨go2,yl2⟩:=step2 j ys2[j] (zWY hlt2);split at e6
            ·rename_i σ2 eg2;refine .inr ⟨go2,fun v2 H6 hy2=>?_⟩;obtain ⟨gr2,rv2⟩:=yl2 v2 H6 hy2;have s6:Stp L4 H4 L5 H6:=s5.yld gr2;refine hg2 (zEM own2 (((r2.stp s3).stp s4).stp s6)) (.refl _) rv2 eg2 fun τ3 r3 x3=>⟨x3,?_⟩;split at e6
             ·rename_i M7 e7;split at e6
              ·rename_i d M8 e8;split at e6
               ·rename_i ds' M9 e9;cases e6;refine ⟨L5,σ2,M6,_,_,c5.grow gr2,r3,e7,fun L7 H7 s7 c7=>zHt ?_⟩;refine ⟨L7,σ2,M7,_,_,c7,r3.stp s7,e8,fun L8 H8 w s8 c8 r8=>?_⟩;have st:Stp L5 H5 L8 H8:=((Stp.grow gr2).trans s7).trans s8;refine ⟨by omega,ys2.length-(j+1),by omega,rfl,hlt2,L8,M8,bs++[d],ds',s5.trans st,c8,?_,by simp;omega,e9,by rw[<-hbc];simp⟩;have:=(r5.stp st).app (.cons r8 .nil);simpa using this
               ·cases e6
              ·cases e6
             ·rename_i M7 e7;refine ⟨L5,σ2,M6,_,_,c5.grow gr2,r3,e7,fun L7 H7 s7 c7=>zHB ?_⟩;have st:Stp L5 H5 L7 H7:=(Stp.grow gr2).trans s7;exact ⟨ys2.length-(j+1),by omega,rfl,hlt2,L7,M7,bs,cs,s5.trans st,c7,r5.stp st,by omega,e6,hbc⟩
             ·cases e6
            ·cases e6
           ·cases e6
          ·have hj':j=ys2.length:=by omega
           subst hj';rw[List.drop_length]at e6;unfold zA2 at e6;split at e6
           ·rename_i hgd2;cases e6;obtain ⟨_,stop2⟩:=it2 L5 H5 _ s5 c5 hgd2;rw[zXE]at hbc;subst hbc;refine .inl ⟨stop2,xs.length-(i+1),by omega,rfl,hlt,L5,M5,as++bs,s'.trans ((st3.trans s4).trans s5),c5,r5,by rw[zWk];omega,e'⟩
           ·cases e6
         ·cases e'
        ·cases e'
       ·cases e'
      ·rename_i M3 e3;refine ⟨L',σ1,M',_,_,c'.grow gr,r2,e3,fun L3 H3 s3 c3=>zHB ?_⟩;have st:Stp L' H' L3 H3:=(Stp.grow gr).trans s3;exact ⟨xs.length-(i+1),by omega,rfl,hlt,L3,M3,as,s'.trans st,c3,r'.stp st,hl,e'⟩
      ·cases e'
     ·cases e'
    ·cases e'
   ·have hi':i=xs.length:=by omega
    subst hi';rw[List.drop_length]at e';unfold zI7 at e';split at e'
    ·rename_i hgd;cases e';obtain ⟨_,stop⟩:=it L' H' _ s' c' hgd;refine .inl ⟨stop,by rw[r'.length];exact hl,fun p hp=>?_⟩;exact q L' _ _ ((s1.trans s').trans (.upd hp)) (c'.upd hp) (zf.newLst (s1.trans s') c c' hp r')
    ·cases e'
  ·cases hf
 ·cases hf
section
variable {X:Cx} {scope:Scope} {elt t1 i1 t2 i2:Expr} {f1 f2:List Expr} {pos:Pos}
structure QParts2 (X:Cx) (scope:Scope) (t1:Expr) (f1:List Expr) (t2 i2:Expr) (f2:List Expr) (elt:Expr) (g:TG) (tc:FT) (fi2:FI) (g2:TG) (tc2:FT) (te:FE):Prop where
 g:∀ zB cl s H fp,PG (zL X zB scope cl s H fp) t1 g
 c:∀ zB cl s H fp,QIfs (zL X zB scope cl s H fp) f1 tc
 w2:∀ zB cl s H fp,QI (zL X zB scope cl s H fp) t2 i2 fi2
 g2:∀ zB cl s H fp,PG (zL X zB scope cl s H fp) t2 g2
 c2:∀ zB cl s H fp,QIfs (zL X zB scope cl s H fp) f2 tc2
 e:∀ zB cl s H fp,QE (zL X zB scope cl s H fp) elt te
 s2:∀ zB cl s H fp x,foldedSetIterable i2 (zL X zB scope cl s H fp).env x=pure x
theorem zSL {own own2:List Nat} {fi fi2:FI} {g g2:TG} {fg fg2:FG} {tc tc2:FT} {te:FE} (hsub:∀ i∈own2,i∈own) (hg:zFP own g fg) (hg2:zFP own2 g2 fg2) (C:CompIn X scope own) (hcalm:X.calm=true) (hi:QI X t1 i1 fi) (p:QParts2 X scope t1 f1 t2 i2 f2 elt g tc fi2 g2 tc2 te) (hs:∀ x,foldedSetIterable i1 X.env x=pure x:=by intro _;rfl) :
  QE X (zBb elt t1 i1 f1 t2 i2 f2 scope pos) (zFh own own2 fi fg tc fi2 fg2 tc2 te) :=
 .mk <| PE.imp (zQ1 hsub C hcalm hi.un ⟨p.g,fun zB cl s H fp=>(p.c zB cl s H fp).un,fun zB cl s H fp=>(p.w2 zB cl s H fp).un,p.g2,fun zB cl s H fp=>(p.c2 zB cl s H fp).un,fun zB cl s H fp=>(zA3 (p.e zB cl s H fp)).un,p.s2⟩ hs) fun _ _ _ h=>zL3 hg hg2 h
end
end L3
namespace L2
open PySem PySem.Spec PyProof.Rows
section
variable {X:Cx} {scope:Scope} {tg kx vx iter:Expr} {ifs:List Expr} {pos:Pos} {own:List Nat} {isT:Bool} {wi:TI} {g:TG} {tc:TT} {tk tv:TE}
theorem zGx (hN:X.N.Nodup) (hi':X.N[i]?=some x) (hx:Loc X.env.scope x) (hfn:X.fn x=true\/X.env.scope.names.lookup x=some .local)
  (hsw:swapsWith (.DictComp kx vx [⟨tg,iter,ifs,0⟩] scope pos) (some (.Name x pos')) pos''.line X.env=pure true)
  (hu:X.A.units+1<cLine) (C:CompIn X scope own) (hcalm:X.calm=true) (hi:PI X tg iter wi) (p:CompParts X scope tg ifs kx g tc tk) (p2:∀ zB cl s H fp,PE (zL X zB scope cl s H fp) vx tv) (hs:∀ x,foldedSetIterable iter X.env x=pure x:=by intro _;rfl) :
  PS X (.Assign [.Name x pos'] (.DictComp kx vx [⟨tg,iter,ifs,0⟩] scope pos) pos'') (zPy (zFt isT own wi g tc tk tv) (zDi i)):=by
 intro zB s σ H D I h;obtain ⟨cl,hcl,c1,c2⟩:=C.sc.closure I;rw[exec_Assign_Name_used _ _ _ _ hsw];refine zWU (zXS (zWU ?_));show wpAny _ X.A (do let _ <- comprehension (.DictComp kx vx [⟨tg,iter,ifs,0⟩] scope pos) scope X.env _ newDict false (eval iter X.env) (some (assign (.Name x pos') X.env))) _ _ s
 refine zWU (zW0 (zYO (use:=some (assign (.Name x pos') X.env)) (Q:=fun _ s'=>SP X zB D .next s') rfl hs hcl C.sc.kind C.sc.names
  (thn (hi zB s σ H _ I h) fun v s1 h1=>thn h1 fun itv s2 h2=>?_)) (fun _ s' hq=>zWW (zWW hq)) fun _ _ e=>e)
 obtain ⟨it,fp,tn,J,H2,e,I2,T,st2,f2,hD⟩:=h2;subst e;obtain ⟨W,⟨m0,w0⟩,turn⟩:=hD s2.heap.objs.size (I2.hok.fresh (zWa _))
 refine zDj hu C hcalm I2 T st2 f2 c1 c2 (p.g _ _ _ _ _) (p.c _ _ _ _ _) (p.e _ _ _ _ _) (p2 _ _ _ _ _) (RR:=fun acc C r s'=>compPost (model X.prog X.w) X.A X.xe (some (assign (.Name x pos') X.env)) (fun _ s'=>SP X zB D .next s') acc C r s')
  (QQ:=fun H=>zDi i (.ref s2.heap.objs.size) σ H D.nx) w0 turn ?_
 intro σc H' s' Ic qq;obtain ⟨m,hn,_⟩:=Ic.loc;have J':=zEf (h':=s'.heap) I2 f2 Ic (.refl ..);obtain ⟨oC,es,ep,hoC,hdC,r1,r2⟩:=id hn;have nC:H' (s2.heap.objs.size+1)=none:=Ic.free;have K':Inv X (zB++[(s2.heap.objs.size+1,oC)]) σ H' s':=J'.pins_of fun q hq=>by
  rcases zWu.mp hq with z|z
  ·exact J'.pin q (zWo _ z)
  ·have e:q=(s2.heap.objs.size+1,oC):=by simpa using z
   subst e;refine ⟨hoC,nC,zXz (zXJ I2.lt),I2.nofs (Nat.le_succ _),fun v z=>?_⟩;have z':oC.data=.cell v:=z;rw[hdC]at z';cases z'
 show wpAny _ X.A (assign (.Name x pos') X.env (.ref s2.heap.objs.size)) _ _ _;refine thn (zJu hN hi' hx hfn _ s' σ _ (.ref s2.heap.objs.size) (.ref s2.heap.objs.size) _ K' rfl qq) fun _ s'' ⟨σ'',H'',I'',q''⟩=>?_;obtain ⟨eC,_⟩:=I''.pin (s2.heap.objs.size+1,oC) (by simp);refine ⟨m,⟨oC,es,ep,eC,hdC,r1,r2⟩,fun h' hs'=>⟨σ'',H'',?_,q''⟩⟩;have I3:Inv X zB σ'' H'' s'':=I''.unpinned;obtain ⟨_,nC'',neC,_,_⟩:=I''.pin (s2.heap.objs.size+1,oC) (by simp);refine I3.turned (t':=s''.toks) (it:=s2.heap.objs.size+1) (fun b o hb e=>hs'.extBut b o hb e) nC'' neC (.inr (zWv I2.sz (Nat.le_succ _))) (fun x c e z=>?_) (fun q hq z=>?_)
 ·obtain ⟨v,o,ho,hd⟩:=I3.cell x c e;rw[z,eC]at ho;cases ho;rw[hdC]at hd;cases hd
 ·obtain ⟨e,_⟩:=I2.pin q hq;exact zWp (zXJ (zWf e)) z
end
end L2
namespace L3
open PySem PySem.Spec PyProof.Rows L2
section
variable {X:Cx} {scope:Scope} {tg kx vx iter:Expr} {ifs:List Expr} {pos:Pos} {own:List Nat} {isT:Bool}
theorem zME (hN:X.N.Nodup) (hi':X.N[i]?=some x) (hx:Loc X.env.scope x) (hfn:X.fn x=true\/X.env.scope.names.lookup x=some .local)
  (hsw:swapsWith (.DictComp kx vx [⟨tg,iter,ifs,0⟩] scope pos) (some (.Name x pos')) pos''.line X.env=pure true)
  (hu:X.A.units+1<cLine) (hg:zFP own g fg) (C:CompIn X scope own) (hcalm:X.calm=true) (hi:QI X tg iter fi) (p:QParts X scope tg ifs kx g tc tk) (p2:∀ zB cl s H fp,QE (zL X zB scope cl s H fp) vx tv) (hs:∀ x,foldedSetIterable iter X.env x=pure x:=by intro _;rfl) :
  QS X (.Assign [.Name x pos'] (.DictComp kx vx [⟨tg,iter,ifs,0⟩] scope pos) pos'') (zo i (zCx isT own fi fg tc tk tv)) :=
 .mk <| PS.imp (zGx (isT:=isT) hN hi' hx hfn hsw hu C hcalm hi.un p.parts (fun _ _ _ _ _=>(zA3 (p2 _ _ _ _ _)).un) hs) fun _ _ _ z=>zG9 (fun _ _ _ z=>zG7 hg z) z
end
end L3
namespace L2
open PySem PySem.Spec PyProof.Rows
end L2
namespace L3
open PySem PySem.Spec PyProof.Rows L2
open SeqAt
structure Df (K:PySem.W.Frag) (mg:Str->Option Value) (x:Str) (st:Stmt) (ps:List Str) where
 f:Addr
 fd:FuncData
 F:Fun K x x st f fd
 b:zHC K fd ps []
 m:mg x=some (.ref f)
structure Dg (K:PySem.W.Frag) (x:Str) (st:Stmt) where
 f:Addr
 {od an:Option Addr}
 {sl:Array (Option Value)}
 {oc kV dc pm cd ct:Value}
 a:PySem.W.nsIn K mainGlobals x=some (some (.ref f))
 l:K.lookup f=some ⟨oc,od,.func (PySem.W.fnOf x x (zEL st) (zCq st) (zU st) .none kV dc pm an cd ct),sl⟩
 c:PySem.W.codeIn K cd x=true
 k:PySem.W.keepIn K (.ref f)=true
abbrev Dg.df {K:PySem.W.Frag} {x:Str} {st:Stmt} {ps:List Str} {h:Heap} {mg:Str->Option Value} (g:Dg K x st) (X:K.In h) (G:h.Ns mainGlobals mg)
  (hb:∀ (kV doc pm:Value) (an:Option Addr) (cdv ct:Value) (us:List Value),us.length=ps.length->bindArgs (PySem.W.fnOf x x (zEL st) (zCq st) (zU st) .none kV doc pm an cdv ct) ⟨us,[]⟩=pure (ps.zip us)):Df K mg x st ps :=
 ⟨g.f,_,zQs g.l g.c g.k,(zQs g.l g.c g.k).binds hb,PySem.W.mg_of X G g.a⟩
abbrev Od (P:Program) (w:World) (base:Heap) (k:Nat) {K:PySem.W.Frag} {mg:Str->Option Value} {x:Str} {st:Stmt} {ps:List Str} (d:Df K mg x st ps) (m:FF):Prop:=FnOk P w K mg base CX0 k d.f d.fd ps (spF K ps.length m)
abbrev Zn (K:PySem.W.Frag) (x:Str):Prop:=PySem.W.nsIn K mainGlobals x=some none
abbrev Ki (K:PySem.W.Frag) (t T:String) (b:Bool):Prop:=PySem.W.kitOne K (.type t) (.type T)=some b
theorem zFk {P:List Value->Prop} (h:∀ a,P [a]):∀ us:List Value,us.length=1->P us
 |[a],_=>h a
theorem zJB {P:List Value->Prop} (h:∀ a b,P [a,b]):∀ us:List Value,us.length=2->P us
 |[a,b],_=>h a b
theorem zMc {P:List Value->Prop} (h:∀ a b c,P [a,b,c]):∀ us:List Value,us.length=3->P us
 |[a,b,c],_=>h a b c
section
variable {X:Cx} {e:Expr} {es:List Expr} {pos p:Pos} {x:Str} {k:Nat} {st:Stmt} {ps:List Str}
theorem zU7 {d:Df X.K X.mg x st ps} (F:FnOk X.prog X.w X.K X.mg X.base CX0 k d.f d.fd ps (spF X.K (e::es).length g)) (hr:Room k X.A) (hg:Gl X x)
  (ha:QA X (e::es) fa) (hl:∀ σ M ds M1,fa σ M=some (ds,M1)->ds.length=(e::es).length) (hdb:(x==("__debug__" : Str))=false) (he:starEach (e::es) X.env=(false,eval e X.env)::starEach es X.env) (hpl:(backTo pos (starEach es X.env)).any (·.1)=false) :
  QE X (.Call (.Name x p) (e::es) [] pos) (zP g fa):=zTi F hr hg d.m d.F.kp d.b ha hl hdb he hpl
theorem zWB (hN:X.N.Nodup) (hi:X.N[i]?=some x) (h:QE X e f) (hx:Loc X.env.scope x:=by first|exact Or.inl rfl|exact Or.inr rfl) (hs:swapsWith e (some (.Name x pos')) pos.line X.env=pure false:=by rfl)
  (hf:X.fn x=true\/X.env.scope.names.lookup x=some .local:=by first|exact .inl rfl|exact .inr rfl|assumption):QS X (.Assign [.Name x pos'] e pos) (zo i f):=zVN hN hi hx h hs hf
theorem zP4 (hN:X.N.Nodup) (hi:X.N[i]?=some x) (hx:Loc X.env.scope x:=by first|exact Or.inl rfl|exact Or.inr rfl) (hf:X.fn x=true\/X.env.scope.names.lookup x=some .local:=by first|exact .inl rfl|exact .inr rfl|assumption):PG X (.Name x pos) (zDi i):=zJu hN hi hx hf
end
section
variable {prog:Program} {w:World} {K:Type} [DecidableEq K] {knd:HeapKind prog w K} {A:Around} {E:Value->Shared->Prop} {s:Shared}
theorem zKz (hu:knd.room A) (hkey:knd.is s.heap k a) (hm:s.heap.DictOfH knd d xs) (hz:xs.length<=sizeLine)
  (h1:∀ u,(atKey xs k).map (·.2)=some u->Q u { s with toks:=s.toks+knd.draws k })
  (h2:(atKey xs k).map (·.2)=none -> ∀ h',h'.DictOfH knd d (storedH xs k a v)->Heap.SameBut d s.heap h'->Q v { s with heap:=h',toks:=s.toks+knd.draws k }) :
  wpAny (model prog w) A (dictSetDefault d (.ref a) v) Q E s:=by
 obtain ⟨o,es,ep,ho,hc,hd,he,his,hn⟩:=hm;unfold dictSetDefault;try with_reducible refine zXN ?_
 refine zWU (knd.pyHash hu hkey (zWU (wpAny_dictFind_heap (s:={ s with toks:=s.toks+knd.draws k }) hu hkey ho hd he his hn (fun hno=>?_) fun j p hj=>?_)))
 ·have ha:=atKey_none_of_get hno;have hnot:k∉xs.map (·.1):=not_mem_keys_of_get hno;refine zWU (zXr (zWU (wpAny_updateDictKeys (hz:=by have e:=size_of_entries he;omega) (s:={ s with toks:=s.toks+knd.draws k }) ho hd (zWW (h2 (by rw[ha];rfl) _ ⟨_,_,ep+1,zXH _ ho (Obj.isFreed_of_dict (Obj.data_mapDictKeys hd _)),hc.mapDictKeys _,Obj.data_mapDictKeys hd _,?_,?_,?_⟩ (zXX ..))))));all_goals rw[storedH_new ha]
  ·simp[he,entryOfKey]
  ·intro x hx;rcases zWu.mp hx with q|q
   ·exact knd.keeps (his x q) ho hd (zXX ..)
   ·simp only[zWw]at q;subst q;exact knd.keeps hkey ho hd (zXX ..)
  ·rw[zXM,zXi];refine ⟨hn,by simp,fun x hx y hy=>?_⟩;simp only[zWn,List.map_nil,zWw]at hy;subst hy;exact fun e=>hnot (e▸hx)
 ·have ha:=atKey_of_get hn hj;refine zWU (wpAny_dictEntries (s:={ s with toks:=s.toks+knd.draws k }) ho hd ?_);rw[entry_at he j,hj];exact zWU (zXr (zWW (h1 p.2 (by rw[ha];rfl))))
theorem zIH (hd:(d==sysModules)=false) (v:Value) :
  MeetsIn prog w (Builtin.«dict.setdefault» ⟨[.ref d,.ref a,v],[]⟩) (fun A R s=>knd.room A.in1 /\ ∃ k xs,knd.is s.heap k a/\s.heap.DictOfH knd d xs/\xs.length<=sizeLine /\
   (∀ u,(atKey xs k).map (·.2)=some u->R (.ok (.ret u)) { s with toks:=s.toks+knd.draws k }) /\
   ((atKey xs k).map (·.2)=none -> ∀ h',h'.DictOfH knd d (storedH xs k a v)->Heap.SameBut d s.heap h'->R (.ok (.ret v)) { s with heap:=h',toks:=s.toks+knd.draws k })) :=
 .of_wp fun A R s ⟨hu,k,xs,hkey,hm,hz,h1,h2⟩=>by
  unfold Builtin.«dict.setdefault»;refine zWU ?_;unfold Builtin.Dict.keyAndDefault;refine zWU (wpAny_notOrdered_dict hm.typeIs ?_);refine zWW ?_;show wpAny _ _ (if (d==sysModules)=true then _ else (dictSetDefault d (.ref a) v >>= _)) _ _ s;rw[zWm (by rw[hd];decide)];exact zWU (zKz hu hkey hm hz (fun u hv=>zWW ⟨u,rfl,h1 u hv⟩) fun hn h' hm' hs'=>zWW ⟨v,rfl,h2 hn h' hm' hs'⟩)
end
section
variable {X:Cx} {zB:List (Addr × Obj)} {σ:L2.St} {H:Hp} {s:Shared} {a:Addr} {y v:V} {u r:Value} {A:Around} {E:Value->Shared->Prop}
theorem zQw (hu:A.units+1<cLine) (I:Inv X zB σ H s) (e:H a=some (.dT kvs)) (eb:H b=some (.tup (k.map kV))) (hl:kvs.length<sizeLine) (rv:zp v r)
  (h1:∀ x,zCK kvs k=some x -> ∀ w' s',Inv X zB σ H s'->zp x w'->Q w' s') (h2:zCK kvs k=none -> ∀ s',Inv X zB σ (upd H a (.dT (zBs kvs k v))) s'->Q r s') :
  wpAny (model X.prog X.w) A (call (.builtin "dict.setdefault") [.ref a,.ref b,r]) Q E s:=by
 obtain ⟨z,hd,xs,rel,dd⟩:=zRD I.hok e;have hz:xs.length<=sizeLine:=by rw[<-Paired.length rel];exact z
 refine call_meetsIn PySem.F.slot_dict_setdefault dd.typeIs PySem.F.entry_dict_setdefault (PySem.F.args_dict_setdefault_3 _ _ _) (zIH (knd:=tupleKind (zAK X.prog X.w)) hd r) ⟨tupleKind_room_in1 hu,k,xs,zEG I.hok eb,dd,hz,fun u' hu'=>?_,fun hn h' dd' hs=>?_⟩
 ·have rl:=rel.val k;rw[hu']at rl;cases hv:zCK kvs k with
  |none=>rw[hv]at rl;cases rl
  |some x=>
   rw[hv]at rl;exact h1 x hv _ _ (I.tok _) rl
 ·have rl:=rel.val k;rw[hn]at rl;cases hv:zCK kvs k with
  |some x=>rw[hv]at rl;cases rl
  |none=>
   refine h2 hv _ ?_;have hl':(zBs kvs k v).length<=sizeLine:=by have:=zBX kvs k v;omega
   obtain ⟨q,es,ep,hq,q2,q3,q4,_,q5⟩:=dd';refine zES I (by rw[e];exact True.intro) hs ⟨q,hq⟩ ⟨hl',hd,_,(rel.put k eb rv).keeps fun c ys ec=>?_,q,es,ep,hq,q2,q3,q4,q5⟩;rw[zZ (zHU ec e (fun z=>nomatch z))];exact ec
end
def zRl (td ty tx:TE):TE:=fun σ H Q=>td σ H fun x H1=>∃ a,x=.ref a/\IsD H1 a/\ty σ H1 fun y H2=>tx σ H2 fun z H3=>∃ kvs k b,H3 a=some (.dT kvs)/\y=.ref b/\H3 b=some (.tup (k.map kV))/\kvs.length<sizeLine/\(∀ v,zCK kvs k=some v->Q v H3)/\(zCK kvs k=none->Q z (upd H3 a (.dT (zBs kvs k z))))
section
variable {X:Cx} {e o i:Expr} {apos cpos:Pos} {td ty tx:TE} {f g h:FE}
theorem zOU (hu:X.A.units+1<cLine) (ho:PE X o td) (he:PE X i ty) (hf:PE X e tx) (m:M2 X o "setdefault" apos i e cpos):PE X (.Call (.Attribute o "setdefault" apos) [i,e] [] cpos) (zRl td ty tx):=by
 intro zB s σ H Q I q;refine wpAny_Call_method m.base m.few m.line PySem.F.plainAttrs_dict PySem.F.slot_dict_setdefault PySem.F.type_dict_setdefault (thn (ho zB s σ H _ I q) fun u s1 ⟨x,H1,I1,rx,a,ex,d,q1⟩=>?_);subst ex;obtain rfl:u=Value.ref a:=rx;obtain ⟨t1,t2,_⟩:=zQ4 I1 d;refine ⟨t1,t2,?_⟩;rw[m.trees];refine Calls.callWith_builtin rfl (Calls.evalArgs_plain (Calls.spliced_cons (thn (he zB s1 σ H1 _ I1 q1) fun iv s2 ⟨y,H2,I2,ry,q2⟩=>Calls.spliced_cons (thn (hf zB s2 σ H2 _ I2 q2) fun fv s3 ⟨z,H3,I3,rz,kvs,k,b,e3,ey,eb,hl,qa,qb⟩=>Calls.spliced_nil ?_))));subst ey;cases (show iv=Value.ref b from ry);exact zQw hu I3 e3 eb hl rz (fun v hv w' s4 I4 rw'=>⟨v,H3,I4,rw',qa v hv⟩) fun hn s4 I4=>⟨z,_,I4,rz,qb hn⟩
def zB3 (fo fi fx:FE):FE:=fun σ M=>match toD fo σ M with
 |some (.ref n,M1)=>match M1[n]? with
  |some (.dicT _)=>match toD fi σ M1 with
   |some (k,M2)=>match toD fx σ M2 with
    |some (x,M3)=>match M3[n]?,tkD k with
     |some (.dicT kvs),some kk=>if kvs.length<sizeLine then match zBq tkD kvs kk with
       |some v=>some (.dat v,M3)
       |none=>some (.dat x,M3.set n (.dicT (zGO tkD kvs kk k x))) else none
     |_,_=>none
    |none=>none
   |none=>none
  |_=>none
 |_=>none
theorem zQW (hu:X.A.units+1<cLine) (ho:QE X o f) (hi:QE X i g) (hx:QE X e h) (m:M2 X o "setdefault" apos i e cpos):QE X (.Call (.Attribute o "setdefault" apos) [i,e] [] cpos) (zB3 f g h) :=
 .mk <| PE.imp (zOU hu (zA3 ho).un (zA3 hi).un (zA3 hx).un m) fun τ H Q zz=>by
  obtain ⟨L,σ,M,d,M',c,rs,hf,q⟩:=zz;unfold zB3 at hf;split at hf
  ·rename_i n M1 e1;split at hf
   ·rename_i kvs0 e0;split at hf
    ·rename_i k M2 e2;split at hf
     ·rename_i x M3 e3;split at hf
      ·rename_i kvs kk e4 e5;split at hf
       ·rename_i hl;refine ⟨L,σ,M,_,_,c,rs,e1,fun L1 H1 u s1 c1 r1=>?_⟩;unfold Rep at r1;obtain ⟨a,rfl,ea⟩:=r1;refine ⟨a,rfl,?_,L1,σ,M1,_,_,c1,rs.stp s1,e2,fun L2 H2 y s2 c2 r2=>⟨L2,σ,M2,_,_,c2,(rs.stp s1).stp s2,e3,fun L3 H3 z s3 c3 r3=>?_⟩⟩
        ·obtain ⟨vs,q5,_⟩:=c1.obj n a _ ea e0;exact .inr ⟨vs,.inl q5⟩
        have ea3:L3[n]?=some a:=by obtain ⟨N,hN⟩:=(s2.trans s3).pre;rw[hN];exact zBh ea
        obtain ⟨vs,q5,r⟩:=c3.obj n a _ ea3 e4;obtain ⟨b,rfl,eb⟩:=zJR (r2.stp s3) e5;refine ⟨vs,kk,b,q5,rfl,eb,by rw[r.length];exact hl,fun v hv=>?_,fun hv=>?_⟩
        ·rcases zCT kk r with ⟨h1,h2⟩|⟨d',v',h1,h2,h3⟩
         ·rw[h2]at hv;cases hv
         ·rw[h1]at hf;rw[h2]at hv;cases hf;cases hv;exact q L3 H3 _ ((s1.trans s2).trans s3) c3 h3
        ·rcases zCT kk r with ⟨h1,h2⟩|⟨d',v',h1,h2,h3⟩
         ·rw[h1]at hf;cases hf;obtain ⟨c4,s4⟩:=c3.put (m:=.dicT (zGO tkD kvs kk k x)) (o':=.dT (zBs vs kk z)) ea3 q5 (fun _ z=>by cases z) (fun _ _ z=>by cases z) fun s4=>⟨_,zw,(zJL e5 r3 r).stp s4⟩;exact q L3 _ _ (((s1.trans s2).trans s3).trans s4) c4 (r3.stp s4)
         ·rw[h2]at hv;cases hv
       ·cases hf
      ·cases hf
     ·cases hf
    ·cases hf
   ·cases hf
  ·cases hf
end
end L3
namespace ST
open PySem PySem.Spec PyProof.Rows
end ST
namespace L3
open PySem PySem.Spec PyProof.Rows L2 ST
end L3
namespace ST
open PySem PySem.Spec PyProof.Rows
end ST
namespace L3
open PySem PySem.Spec PyProof.Rows L2 ST
end L3
namespace L2
open PySem PySem.Spec PyProof.Rows
section
variable {prog:Program} {w:World} {A:Around} {E:Value->Shared->Prop} {s:Shared}
theorem zJw (hx:s.heap.get? a=some o) (hc:o.cls=.type "list") (hdat:o.data=.seq xs k) (hd:o.dict=none) (hA:A.handled=none)
  (h:∀ h' tk,(∀ b u,s.heap.get? b=some u->h'.get? b=some u)->Q none { s with heap:=h',toks:=tk }):wpAny (model prog w) A (getAttr? (.ref a) "keys") Q E s:=by
 obtain ⟨c,dct,dat,sl⟩:=o;simp only at hc hdat hd;subst hc hdat hd;obtain ⟨hp,g,d,tk,os⟩:=s;have hT:∀ tk',(⟨hp,g,d,tk',os⟩:Shared).TypeIs (.ref a) "list" := fun _=>⟨_,hx,rfl⟩;have f1:=sub_AttributeError;have f3:=F.slot_list_getattribute.lookup;have f4:=F.slot_list_getattribute.bind (.ref a);have f5:=am_list_getattr_none;have hmiss:typeLookup (.type "list") "keys" = pure none:=by rw[typeLookup_type,builtinLookup_eq_fast];kernel_rfl
 unfold getAttr? getAttrBy? getAttrBy;repeat (any_goals (first|assumption|exact hT _|((with_reducible show wpAny _ _ (call (Value.builtin "list.__getattribute__") _ _) _ _ _);refine call_meets F.slot_list_getattribute (hT _) am_entry_list_getattribute (F.args_list_getattribute_2 _ _) (meets_getattribute_miss_list a xs k sl "keys" _ hmiss (by decide)) ⟨hx,hA,fun h' tk' e hx'=>?_⟩)|wp_step))
 obtain ⟨t',u',he⟩:=hx'.there;show wpAny _ _ (getattributeRaised _ _ _ _ _ _ _) _ _ _;unfold getattributeRaised;repeat (any_goals (first|assumption|wp_step))
 exact h _ _ hx'.keeps
end
set_option genInjectivity true in
inductive Puts (d:Addr):List V->Hp->Hp->Prop
 |nil {H:Hp}:Puts d [] H H
 |cons {b:Addr} {k x:V} {vs:List V} {H H1 H2:Hp}:H b=some (.tup [k,x])->zEx H d k x H1->Puts d vs H1 H2->Puts d (.ref b::vs) H H2
theorem zDm:entryFor table "dict.update.loop" = some Builtin.«dict.update.loop»:=entryFor_of_tree (by kernel_rfl)
theorem zBT:plainId "dict.update.loop" = true:=by decide +kernel
theorem zEx.some {H H1:Hp} {d:Addr} {k x:V} (p:zEx H d k x H1):H d≠none /\ ∀ b,b≠d->H1 b=H b:=by
 rcases p with ⟨kvs,k,e,_,_,rfl⟩|⟨kvs,k,b,e,_,_,_,rfl⟩
 ·exact ⟨by rw[e];simp,fun b hb=>zZ hb⟩
 ·exact ⟨by rw[e];simp,fun b hb=>zZ hb⟩
section
variable {X:Cx} {zB:List (Addr × Obj)} {σ:St} {A:Around}
theorem zOZ (hu:A.units+2<cLine) (hA:A.handled=none) (hai:a≠it) (had:a≠d) (P:Puts d vs H H2) :
  ∀ (pre its:List Value) (j:Int) (s:Shared),items.toList=pre++its->ze vs its->Inv X zB σ H s->zCE X zB H it->s.heap.IsListIter it a pre.length->s.heap.IsList a items ->
   (∀ s',Inv X zB σ H2 s'->R (.ok (.ret .none)) s')->codeAny (model X.prog X.w) A (.builtin "dict.update.loop" ⟨[.ref d,.ref it,rawInt j,.none],[]⟩) R s:=by
 have W:=Walks.list (prog:=X.prog) (w:=X.w) (A:=A.in1) (by simpa using hA) it a hai items;induction P with
 |nil=>
  intro pre its j s hi hv I hf h1 h2 hR;cases hv;have hn:items.size=pre.length:=by rw[<-zXD,hi];simp
  refine codeAny_builtin zDm ?_;rw[Around.under_plainId zBT _];show wpAny _ A.in1 (pyNext (.ref it) >>= _) _ _ s;refine zWU (W.done s _ _ (by rw[hn];exact ⟨h1,h2⟩) fun h' tk k=>?_);show wpAny _ A.in1 (Builtin.Dict.addKeywords d [] >>= _) _ _ _;refine zWU (zWW ?_);exact zWW (hR _ (L3.zEZ (s:=s) (h':=h') (t':=tk) I (ch:=[it]) (fun b hb=>by cases zWw.mp hb;exact hf) fun b u hb e=>k b u hb e))
 | @cons b k x vs H H1 H2 eb dp _ ih=>
  intro pre its j s hi hv I hf h1 h2 hR;cases hv with
  | @cons _ u _ its rb hv=>
  cases rb;have hlt:pre.length<items.size:=by rw[<-zXD,hi];simp
  refine codeAny_builtin zDm ?_;rw[Around.under_plainId zBT _];show wpAny _ A.in1 (pyNext (.ref it) >>= _) _ _ s;refine zWU (W.item pre.length s _ _ hlt ⟨h1,h2⟩ fun v h' tk hP hst kk=>?_);have hv':v=.ref b:=by
   rw[<-Array.getElem?_toList,hi]at hP;simpa using hP.symm
  subst hv';have I1:Inv X zB σ H { s with heap:=h',toks:=tk }:=L3.zEZ (s:=s) (h':=h') (t':=tk) I (ch:=[it]) (fun b hb=>by cases zWw.mp hb;exact hf) fun b u hb e=>kk b u hb e;obtain ⟨us,ru,⟨o,eo,oc,no,od⟩,_⟩:=I1.tuple (a:=b) (xs:=[k,x]) (.inl (.inl eb));obtain ⟨u1,u2,rfl,r1,r2⟩:=zPQ ru;show wpAny _ A.in1 (holding [.ref b] _ >>= _) _ _ _;refine zWU (zXN ?_);refine zWU (wpAny_tryCatch ?_);unfold Builtin.Dict.pairItems;refine zWU (wpAny_typeOf (T := "tuple") ⟨o,eo,oc⟩ ?_);rw[zWj (by decide)];refine zWU (zXK eo od (zWW ?_));show wpAny _ A.in1 (holding [u1,u2] (dictSet d u1 u2)) _ _ _;refine zXN (zIn (show A.in1.units+1<cLine from hu) I1 dp r1 r2 fun s3 I3 hs=>?_);obtain ⟨dn,ds⟩:=dp.some;have hid:it≠d:=fun z=>dn (z▸hf.1);have hst3:=W.frame (pre.length+1) h' s3.heap hst fun c hc o e=>by
   rw[hs.2 c (fun z=>by
    rcases zWg.mp hc with q|q
    ·exact hid (q.symm.trans z)
    ·exact had ((zWw.mp q).symm.trans z))]
   exact e
  refine zWW ⟨plainId_quiet zBT _,ih (pre++[.ref b]) its (j+1) s3 (by rw[hi];simp) hv I3 ⟨(ds it hid).trans hf.1,hf.2⟩ (by rw[zWk];exact hst3.1) hst3.2 hR⟩
theorem zLY (hu:X.A.units+1+4<cLine) (hc:X.calm=true):zB5 X (.type "dict") (fun xs H Q=>∃ a vs isT,xs=[.ref a]/\H a=some (.lst vs) /\ ∀ p,H p=none -> ∃ H2,Puts p vs (upd H p (zBm isT)) H2/\Q (.ref p) H2):=by
 intro zB s σ H xs us Q I r h;obtain ⟨a,vs,isT,rfl,ea,q⟩:=h;obtain ⟨u,rfl,rx⟩:=zEc r;cases rx;obtain ⟨its,rv,⟨ol,nl,e1,e2,e3,e4⟩,hz⟩:=I.list (xs:=vs) (.inl (.inl ea));have hA:X.A.handled=none:=I.ok.hd hc;have hp:H s.heap.objs.size=none:=I.hok.fresh (zWa _);obtain ⟨H2,P,qq⟩:=q _ hp;refine callType_codes (Q₁:=fun obj s₁=>obj=.ref s.heap.objs.size/\s₁={ s with heap:=s.heap.push zAn }) F.kt_called_dict (F.kt_typeCall_dict_1 _) F.entry_dict_init (kt_code_dict_new _ ⟨rfl,rfl⟩) ?_;rintro obj s₁ ⟨rfl,rfl⟩;have big:sysModules<s.heap.objs.size:=I.big;have hsm:(s.heap.objs.size==sysModules)=false:=by rw[beq_eq_false_iff_ne];exact zXz big
 have pD:(s.heap.push zAn).get? s.heap.objs.size=some zAn:=zWe _ rfl;have I1:Inv X zB σ (upd H s.heap.objs.size (zBm isT)) { s with heap:=s.heap.push zAn }:=by
  refine I.laid (t':=s.toks) (fun b q z=>zWV _ z) (zWa _) ?_;cases isT with
  |false=>exact ⟨zXG _,hsm,[],.nil,zAn,#[],0,pD,⟨rfl,rfl,rfl⟩,rfl,fun _ he=>by simp at he,.nil,List.nodup_nil⟩
  |true=>exact ⟨zXG _,hsm,[],.nil,zAn,#[],0,pD,⟨rfl,rfl,rfl⟩,rfl,rfl,List.nodup_nil⟩
 have hl1:(s.heap.push zAn).get? a=some ol:=zWV _ e1;have hap:a≠s.heap.objs.size:=zWp (zWf e1);refine ⟨⟨_,pD,rfl⟩,F.args_dict_init_2 _ _,?_⟩;unfold Builtin.«dict.__init__»;refine zWU ?_;unfold Builtin.Dict.selfAndRest;refine zWU (wpAny_notOrdered_dict ⟨_,pD,rfl⟩ ?_);show wpAny _ _ (pure (s.heap.objs.size,[Value.ref a])) _ _ _;refine zWW ?_;show wpAny _ _ (Builtin.Dict.updateFrom "dict.__init__" s.heap.objs.size (.ref a) [] .none) _ _ _;unfold Builtin.Dict.updateFrom;refine zWU (wpAny_typeOf (T := "list") ⟨ol,hl1,e2⟩ ?_);rw[zWj (by decide)];refine zWU (zJw hl1 e2 e4 e3 (by simpa using hA) fun h' tk k=>?_);have I2:Inv X zB σ (upd H s.heap.objs.size (zBm isT)) { s with heap:=h',toks:=tk }:=I1.kept (t':=tk) k;rw[zWj (show (none:Option Value).isNone=true from rfl)];refine zWU (zXr ?_);have hl2:h'.IsList a its.toArray:=⟨ol,k _ _ hl1,e2,nl,e4⟩;refine zWU (wpAny_pyIter_list (s:={ s with heap:=h',toks:=tk }) hl2 ?_);refine zWW ⟨plainId_quiet zBT _,?_⟩;have I3:Inv X zB σ (upd H s.heap.objs.size (zBm isT)) { s with heap:=h'.push { cls:=.type "list_iterator", data:=.fields #[.ref a,.int 0 0] },toks:=tk }:=I2.kept (t':=tk) fun b u z=>zWV _ z;refine zOZ (items:=its.toArray) (show X.A.in1.units+2<cLine from Nat.lt_of_le_of_lt (by show X.A.units+1+2<=_;omega) hu) (by simpa using hA) (zWp (zWf (k _ _ hl1))) hap P [] its 0 _ (by simp) rv I3 ?_ ?_ ?_ ?_
 ·exact I2.fpOk (zWa _) (I2.hok.fresh (zWa _))
 ·exact ⟨_,zWe _ rfl,rfl,rfl⟩
 ·exact ⟨ol,zWV _ (k _ _ hl1),e2,nl,e4⟩
 ·exact fun s' I'=>⟨rfl,.ref s.heap.objs.size,H2,I',rfl,qq⟩
end
end L2
namespace L3
open PySem PySem.Spec PyProof.Rows L2
def zF0 (n:Nat):List D->Mem->Option Mem
 |[],M=>some M
 |.tup [k,v]::ds,M=>match zDh M n k v with
  |some M1=>zF0 n ds M1
  |none=>none
 |_::_,_=>none
def zEP (isT:Bool):KB:=fun xs M=>match xs with
 |[.fl ds]=>match zF0 M.length ds (M++[zE2 isT]) with
  |some M1=>some (.dat (.ref M.length),M1)
  |none=>none
 |_=>none
theorem zHh {K:PySem.W.Frag} {n:Nat} {p:Addr}:∀ {ds:List D} {L:List Addr} {M M':Mem} {H:Hp} {vs:List V},Cor K L M H->L[n]?=some p->zQ L H ds vs->zF0 n ds M=some M' -> ∃ H',Puts p vs H H'/\Cor K L M' H'/\Stp L H L H'
 |[],L,M,M',H,vs,c,lp,r,e=>by
  unfold zQ at r;subst r;cases e;exact ⟨H,.nil,c,.refl L H⟩
 |d::ds,L,M,M',H,vs,c,lp,r,e=>by
  unfold zQ at r;obtain ⟨v,r',rfl,r1,r2⟩:=r;unfold zF0 at e;split at e
  ·rename_i h;cases h
  ·rename_i k x ds' e0;cases e0;split at e
   ·rename_i M1 e1;unfold Rep at r1;obtain ⟨b,ws,rfl,e2,r3⟩:=r1;unfold zQ at r3;obtain ⟨vk,r4,rfl,rk,r5⟩:=r3;unfold zQ at r5;obtain ⟨vx,r6,rfl,rx,r7⟩:=r5;unfold zQ at r7;subst r7;obtain ⟨H1,dp,c1,s1⟩:=zHc c lp rk rx e1;obtain ⟨H2,P,c2,s2⟩:=zHh c1 lp (r2.stp s1) e;exact ⟨H2,.cons e2 dp P,c2,s1.trans s2⟩
   ·cases e
  ·cases e
section
variable {X:Cx}
theorem zMD (isT:Bool):zGX X.K (fun xs H Q=>∃ a vs isT,xs=[.ref a]/\H a=some (.lst vs) /\ ∀ p,H p=none -> ∃ H2,Puts p vs (upd H p (zBm isT)) H2/\Q (.ref p) H2) (zEP isT):=by
 intro L M M' H H0 xs d vs Q c r hk q;unfold zEP at hk;split at hk
 ·rename_i ds;split at hk
  ·rename_i M1 e1;cases hk;obtain ⟨v,rfl,r1⟩:=r.one;unfold zf at r1;obtain ⟨a,ws,rfl,_,e2,_,r2⟩:=r1;refine ⟨a,ws,isT,rfl,e2,fun p hp=>?_⟩;obtain ⟨c0,s0⟩:Cor X.K (L++[p]) (M++[zE2 isT]) (upd H p (zBm isT))/\Stp L H (L++[p]) (upd H p (zBm isT)):=by
    cases isT with
    |true=>exact c.pushO (m:=.dicT []) hp ⟨[],zw,rfl⟩
    |false=>exact c.pushO (m:=.dict []) hp ⟨[],zw,rfl⟩
   have lp0:(L++[p])[M.length]?=some p:=by rw[<-c.len];simp
   obtain ⟨H2,P,c2,s2⟩:=zHh c0 lp0 (r2.stp s0) e1;refine ⟨H2,P,q _ _ _ (s0.trans s2) c2 ?_⟩;unfold zf Rep;exact ⟨p,rfl,lp0⟩
  ·cases hk
 ·cases hk
theorem zQE (isT:Bool) (hu:X.A.units+1+4<cLine) (hc:X.calm=true) (hg:Gl X "dict") (hm:X.mg "dict" = none) (ha:QAE X [e] fa) (he:starEach [e] X.env=(false,eval e X.env)::starEach [] X.env:=by rfl) (hpl:(backTo pos (starEach [] X.env)).any (·.1)=false:=by rfl):QE X (.Call (.Name "dict" p) [e] [] pos) (fB (zEP isT) fa) :=
 zHq (zMD isT) (zLY hu hc) (by rfl) hg hm ha (by decide) (by decide) he hpl
end
end L3
namespace Law
open PySem PySem.Spec PyProof.Rows L2 L3
theorem zi (n:Nat):∀ c:List Int,D.unds n (c.map D.int)=true
 |[]=>rfl
 |x::r=>by
  show (D.und n (D.int x)&&D.unds n (r.map D.int))=true;rw[zi n r];rfl
theorem zK5 {M:Mem} (h:M[k]?=some u):M.set k u=M:=by
 apply List.ext_getElem?;intro i;rw[zX3];split
 ·rename_i e;subst e;rw[zWj (zWX.mp h).1];exact h.symm
 ·rfl
theorem at0 {x:D} {xs:List D}:atI (x::xs) 0=some x:=zJM (k:=0) rfl
theorem zRE (ns:List Int) (lo hi:Option Int):∃ c:List Int,L3.zDI (ns.map D.int) lo hi=c.map D.int/\c.length<=ns.length:=by
 refine ⟨(ns.drop (HT.sIx ns.length 0 lo)).take (HT.sIx ns.length ns.length hi-HT.sIx ns.length 0 lo),?_,?_⟩
 ·unfold L3.zDI;rw[zWd,List.map_take,List.map_drop]
 ·rw[zXs,List.length_drop];omega
theorem zA5 (h:x::r=c.map D.int):∃ y c',c=y::c'/\x=.int y/\r=c'.map D.int:=by
 cases c with
 |nil=>cases h
 |cons y c'=>rw[zWn]at h;exact ⟨y,c',rfl,(zXY h).1,(zXY h).2⟩
theorem zAH:zA1 none xs M:=trivial
theorem zW (h:n<=100000):n<=sizeLine:=zWv h (by decide)
mutual
theorem zG2 (h:a<=b):∀ {d:D},D.und a d=true->D.und b d=true
 |.non,_=>by unfold D.und;rfl
 |.bl _,_=>by unfold D.und;rfl
 |.int _,_=>by unfold D.und;rfl
 |.str _,_=>by unfold D.und;rfl
 |.tup ds,e=>by unfold D.und at e ⊢;exact zCP h e
 |.ref k,e=>by unfold D.und at e ⊢;simp at e ⊢;omega
theorem zCP (h:a<=b):∀ {ds:List D},D.unds a ds=true->D.unds b ds=true
 |[],_=>by unfold D.unds;rfl
 |d::ds,e=>by
  unfold D.unds at e ⊢;rw[zW4]at e ⊢;exact ⟨zG2 h e.1,zCP h e.2⟩
end
theorem zBv (h:a<=b) (e:MO.und a u=true):MO.und b u=true:=by
 cases u with
 |lst xs=>exact zCP h e
 |fro xs=>exact zCP h e
 |set xs=>exact zCP h e
 |dict kvs|dicT kvs|froT kvs|froK kvs=>
  unfold MO.und at e ⊢;rw[zW5]at e ⊢;intro p hp;have:=e p hp;rw[zW4]at this ⊢;exact ⟨zG2 h this.1,zG2 h this.2⟩
theorem zFF:∀ {xs ys:List D},D.unds n (xs++ys)=(D.unds n xs&&D.unds n ys)
 |[],ys=>by simp[D.unds]
 |x::xs,ys=>by
  show (D.und n x&&D.unds n (xs++ys))=((D.und n x&&D.unds n xs)&&D.unds n ys);rw[zFF,Bool.and_assoc]
theorem zFc:∀ {xs:List D},(∀ x∈xs,D.und n x=true)->D.unds n xs=true
 |[],_=>rfl
 |x::xs,h=>by
  show (D.und n x&&D.unds n xs)=true;rw[h x zWi,zFc fun y hy=>h y (zWh _ hy)];rfl
theorem zAh (c:List Int):D.und n (.tup (c.map D.int))=true:=by unfold D.und;exact zi n c
def zCG (i:Nat):Nat->List D
 |0=>[]
 |n+1=> .int i::zCG (i+1) n
theorem zJk (n:Nat):∀ i,((List.range' i n).map fun (k:Nat)=>D.int k)=zCG i n:=by
 induction n with
 |zero=>intro i;rfl
 |succ n ih=>intro i;rw[List.range'_succ,zWn,ih];rfl
theorem zHr (n:Nat):((List.range n).map fun (k:Nat)=>D.int k)=zCG 0 n:=by rw[List.range_eq_range',zJk]
theorem zCy:∀ (n i:Nat),(zCG i n).length=n
 |0,_=>rfl
 |n+1,i=>by show (zCG (i+1) n).length+1=_;rw[zCy n]
theorem zHP (n:Nat) (I:Nat->Sd->Mem->Prop)
  (hs:∀ i σ M,i<n->I i σ M -> ∃ σ1,g (.int i) σ=some σ1/\OkS (b σ1 M) fun o σ2 M2=>match o with|.nx=>I (i+1) σ2 M2|.cnt=>I (i+1) σ2 M2|.brk=>P .nx σ2 M2|.ret d=>P (.ret d) σ2 M2)
  (he:∀ σ M,I n σ M->P .nx σ M) (σ:Sd) (M:Mem) (h0:I 0 σ M):OkS (zCf g b all none (zCG 0 n) σ M) P:=by
 refine zAZ (I:=fun r σ M=>∃ i,i<=n/\r=zCG i (n-i)/\I i σ M) ?_ ?_ _ _ _ ⟨0,zXG _,by simp,h0⟩
 ·rintro x r σ M ⟨i,hi,e,hI⟩;have hlt:i<n:=by
   rcases zXq i n with z|z
   ·exact z
   ·rw[show n-i=0 by omega]at e;cases e
  rw[show n-i=(n-(i+1))+1 by omega]at e;obtain ⟨rfl,rfl⟩:=zXY e;obtain ⟨σ1,e1,q⟩:=hs i σ M hlt hI;refine ⟨zAH,σ1,e1,OkS.mono q ?_⟩;intro o σ2 M2 z;cases o with
  |nx=>exact ⟨i+1,hlt,rfl,z⟩
  |cnt=>exact ⟨i+1,hlt,rfl,z⟩
  |brk=>exact z
  |ret d=>exact z
 ·rintro σ M ⟨i,hi,e,hI⟩;have:i=n:=by
   rcases zXq i n with z|z
   ·rw[show n-i=(n-(i+1))+1 by omega]at e;cases e
   ·omega
  subst this;exact ⟨zAH,he σ M hI⟩
theorem zTo (n:Nat) (I:Nat->List D->Mem->Prop)
  (hs:∀ i acc M,i<n->I i acc M -> ∃ σ1,g (.int i) σ=some σ1/\Ok (te σ1 M) (zGa fun d M2=>I (i+1) (acc++[d]) M2)) (h0:I 0 [] M) :
  Ok (zA2 g zr te σ all none (zCG 0 n) M) fun ys M1=>I n ys M1:=by
 refine Ok.mono (zBk (I:=fun r acc M=>∃ i,i<=n/\r=zCG i (n-i)/\I i acc M) (Q:=fun acc M=>I n acc M) ?_ ?_ _ [] _ ⟨0,zXG _,by simp,h0⟩) fun ys M1 q=>by simpa using q
 ·rintro x r acc M ⟨i,hi,e,hI⟩;have hlt:i<n:=by
   rcases zXq i n with z|z
   ·exact z
   ·rw[show n-i=0 by omega]at e;cases e
  rw[show n-i=(n-(i+1))+1 by omega]at e;obtain ⟨rfl,rfl⟩:=zXY e;obtain ⟨σ1,e1,q⟩:=hs i acc M hlt hI;refine ⟨zAH,σ1,e1,zFN.mpr ?_⟩;rw[zWj rfl];refine Ok.mono q ?_;intro x M2 z;cases x with
  |dat d=>exact ⟨i+1,hlt,rfl,z⟩
  |fl xs=>exact ⟨i+1,hlt,rfl,z⟩
 ·rintro acc M ⟨i,hi,e,hI⟩;have:i=n:=by
   rcases zXq i n with z|z
   ·rw[show n-i=(n-(i+1))+1 by omega]at e;cases e
   ·omega
  subst this;exact ⟨zAH,hI⟩
theorem zBi (e:f σ M=some (.dat (.int j),M)) (h1:0<=j) (h2:j<2 ^ 62):zv (zD (toD f) zH) σ M=some (zCG 0 j.toNat,none,M):=by
 have e':(zD (toD f) zH) σ M=some ([.int j],M):=by unfold zD toD zH;rw[e]
 rw[zMX e' h1 h2,zHr]
def mD (zA:List (List Int)):D:=.tup (zA.map fun r=> .tup (r.map D.int))
structure IsM (zA:List (List Int)) (l:Nat):Prop where
 r0:0<zA.length
 l0:0<l
 row:∀ r∈zA,r.length=l /\ ∀ g∈r,0<=g/\g<zA.length
theorem zEz (zA:List (List Int)):D.und n (mD zA)=true:=by
 unfold mD D.und;refine zFc fun x hx=>?_;obtain ⟨r,_,rfl⟩:=zWl.mp hx;exact zAh r
theorem zPL (zA:List (List Int)):D.unds n (zA.map fun r=>D.tup (r.map D.int))=true:=by
 refine zFc fun x hx=>?_;obtain ⟨r,_,rfl⟩:=zWl.mp hx;exact zAh r
theorem zY {α:Type} {x:Option (α × Mem)} {a:α} {M:Mem} (h:Ok x fun b M'=>b=a/\M'=M):x=some (a,M):=by
 obtain ⟨b,M',e,rfl,rfl⟩:=h;exact e
theorem zE {α:Type} {x:Option (α × Mem)} {a:α} {M:Mem} {P:α->Mem->Prop} (h:x=some (a,M)) (p:P a M):Ok x P:=⟨a,M,h,p⟩
theorem zJ8 {c:FT} {a g:FS} {σ:Sd} {M:Mem} {P:Out->Sd->Mem->Prop} (hc:c σ M=some (false,M)) (h:OkS (g σ M) P):OkS (zX (sIf c a zBB) g σ M) P:=by
 rw[zI,zAp];refine zE hc ?_;rw[zWm (by decide),zAc];exact h
theorem zQS {c:FT} {a:FS} {σ:Sd} {M:Mem} {P:Out->Sd->Mem->Prop} (hc:c σ M=some (false,M)) (h:P .nx σ M):OkS (sIf c a zBB σ M) P:=by
 rw[zAp];refine zE hc ?_;rw[zWm (by decide),zAc];exact h
theorem zc {f:FE} {σ:Sd} {M:Mem} {d:D} (h:f σ M=some (.dat d,M)):zD (toD f) zH σ M=some ([d],M):=by
 unfold zD toD zH;rw[h]
theorem zt {f:FE} {g:FA} {σ:Sd} {M:Mem} {d:D} {ds:List D} (h:f σ M=some (.dat d,M)) (hg:g σ M=some (ds,M)):zD (toD f) g σ M=some (d::ds,M):=by
 unfold zD toD;rw[h];dsimp only;rw[hg]
theorem zAd {m:FF} {a:FA} {σ:Sd} {M M':Mem} {ds:List D} {d:D} (h:a σ M=some (ds,M)) (hm:m ds M=some (d,M')):zP m a σ M=some (.dat d,M'):=by
 unfold zP;rw[h];dsimp only;rw[hm]
theorem zK {k:K2} {f g:FE} {σ:Sd} {M:Mem} {x y:EV} {r:Option (EV × Mem)} (hf:f σ M=some (x,M)) (hg:g σ M=some (y,M)) (hk:k x y M=r):fOp k f g σ M=r:=by
 unfold fOp;rw[hf];dsimp only;rw[hg];exact hk
theorem zBA {x:EV} {xs:List D} {i:Int} {d:D} {M:Mem} (h:zAb M x=some xs) (hd:atI xs i=some d):kIx x (.dat (.int i)) M=some (.dat d,M):=zY (zR9 h hd ⟨rfl,rfl⟩)
theorem zCR {f:FE} {x:EV} {xs:List D} {σ:Sd} {M:Mem} (hf:f σ M=some (x,M)) (h:zAb M x=some xs):fB zAk (zS f zg) σ M=some (.dat (.int xs.length),M):=by
 unfold fB zS zg;rw[hf];exact zY ((zVg h).mpr ⟨rfl,rfl⟩)
def zx (zA:List (List Int)) (h g:Int):Int:=(zA.getD h.toNat []).getD g.toNat 0
theorem zHG {zA:List (List Int)} {h:Int} (h0:0<=h) (h1:h<zA.length):atI (zA.map fun r=>D.tup (r.map D.int)) h=some (.tup ((zA.getD h.toNat []).map D.int)):=by
 refine zMZ h0 ?_;rw[zWr,zWZ,zWY (by omega)];rfl
theorem zDt {r:List Int} {g:Int} (h0:0<=g) (h1:g<r.length):atI (r.map D.int) g=some (.int (r.getD g.toNat 0)):=by
 refine zMZ h0 ?_;rw[zWr,zWZ,zWY (by omega)];rfl
theorem IsM.get {zA:List (List Int)} {l:Nat} (m:IsM zA l) {h:Int} (h0:0<=h) (h1:h<zA.length):(zA.getD h.toNat []).length=l /\ ∀ g∈zA.getD h.toNat [],0<=g/\g<zA.length:=by
 refine m.row _ ?_;rw[zWZ,zWY (by omega)];exact zW2 _
theorem IsM.step {zA:List (List Int)} {l:Nat} (m:IsM zA l) {h g:Int} (h0:0<=h) (h1:h<zA.length) (g0:0<=g) (g1:g<l):0<=zx zA h g/\zx zA h g<zA.length:=by
 obtain ⟨q1,q2⟩:=m.get h0 h1;refine q2 _ ?_;unfold zx;rw[zWZ (l:=zA.getD h.toNat []),zWY (by omega)];exact zW2 _
theorem IsM.ix {zA:List (List Int)} {l:Nat} (m:IsM zA l) {h g:Int} (h0:0<=h) (h1:h<zA.length) (g0:0<=g) (g1:g<l) {f1 f2 f3:FE} {σ:Sd} {M:Mem} (e1:f1 σ M=some (.dat (mD zA),M)) (e2:f2 σ M=some (.dat (.int h),M)) (e3:f3 σ M=some (.dat (.int g),M)) :
  fOp kIx (fOp kIx f1 f2) f3 σ M=some (.dat (.int (zx zA h g)),M):=by
 obtain ⟨q1,_⟩:=m.get h0 h1;exact zK (zK e1 e2 (zBA zAF (zHG h0 h1))) e3 (zBA zAF (zDt g0 (by omega)))
theorem zMF (hf:f σ M=some (x,M)) (ht:zLp M x=some t):zFs T f σ M=some (.dat (.bl (isT t T)),M):=by
 unfold zFs;rw[hf];dsimp only;rw[ht]
theorem zu (h:f σ M=some (.dat (.bl k),M')):tst f σ M=some (k,M'):=by unfold tst;rw[h]
theorem isV (hf:f σ M=some (x,M)) (ht:zLp M x=some t) (h:isT t T=k):zFs T f σ M=some (.dat (.bl k),M):=by
 rw[zMF hf ht,h]
theorem isF (hf:f σ M=some (x,M)) (ht:zLp M x=some t) (h:isT t T=false):tst (zFs T f) σ M=some (false,M):=by
 rw[zu (zMF hf ht),h]
theorem zVm (hf:f σ M=some (x,M)) (ht:zLp M x=some t) (h:isT t T=true):tst (zFs T f) σ M=some (true,M):=by
 rw[zu (zMF hf ht),h]
theorem zSQ (hc:c σ M=some (true,M)) (h:OkS (a σ M) (nxP (fun σ1 M1=>OkS (g σ1 M1) P) P)):OkS (zX (sIf c a b) g σ M) P:=by
 rw[zI,zAp];refine zE hc ?_;rw[zWj rfl];exact h
theorem zAP (hf:f σ M=some (.dat d,M)) (h:P (.ret d) σ M):OkS (zAW f σ M) P:=by
 rw[zA8];exact zE hf h
theorem zO7 (h:(zF6 d).isSome=true):kEq (.dat d) (.dat d) M=some (.dat (.bl true),M):=by
 cases d with
 |tup _=>cases h
 |ref _=>cases h
 |non=>rfl
 |bl k=>cases k <;> rfl
 |int i=>show some (EV.dat (.bl (decide (V.int i=V.int i))),M)=_;simp
 |str x=>show some (EV.dat (.bl (decide (V.str x=V.str x))),M)=_;simp
theorem zIZ (hf:f σ M=some (.dat (.bl true),M)) (hg:g σ M=some (.dat (.bl true),M)):zL9 f g σ M=some (.dat (.bl true),M):=by
 unfold zL9;rw[hf];exact hg
theorem zMt (hf:f σ M=some (.dat (.bl false),M)):zQG f σ M=some (.dat (.bl true),M):=by
 unfold zQG;rw[hf];rfl
theorem zAs {α:Type} (as:List α) (enc out:α->D) (hi:fi σ M=some (as.map enc,gd,M)) (hgd:zA1 gd (as.map enc) M) (hz:as.length<=100000)
  (he:∀ a∈as,∃ σ1,g (enc a) (zBD own σ)=some σ1/\te σ1 M=some (.dat (out a),M)):zm own fi g zr te σ M=some (.fl (as.map out),M):=by
 refine zY (zCo.mpr ⟨_,_,_,hi,by rw[zWd];exact zW hz,?_⟩);refine Ok.mono (zBk (I:=fun r acc M'=>M'=M /\ ∃ ra rb:List α,as=rb++ra/\r=ra.map enc/\acc=rb.map out) (Q:=fun acc M'=>M'=M/\acc=as.map out) ?_ ?_ _ [] _ ⟨rfl,as,[],rfl,rfl,rfl⟩) ?_
 ·rintro x r acc M' ⟨rfl,ra,rb,hab,hr,rfl⟩;cases ra with
  |nil=>cases hr
  |cons a ra=>
   rw[zWn]at hr;obtain ⟨rfl,rfl⟩:=zXY hr;obtain ⟨σ1,e1,e2⟩:=he a (by rw[hab];simp);refine ⟨hgd,σ1,e1,zFN.mpr ?_⟩;rw[zWj rfl];refine zE e2 ?_;rw[zJ];exact ⟨rfl,ra,rb++[a],by rw[hab];simp,rfl,by simp⟩
 ·rintro acc M' ⟨rfl,ra,rb,hab,hr,rfl⟩;cases ra with
  |nil=>rw[zXE]at hab;subst hab;exact ⟨hgd,rfl,rfl⟩
  |cons a ra=>cases hr
 ·rintro ys M' ⟨rfl,h⟩;rw[List.nil_append]at h;subst h;exact ⟨rfl,rfl⟩
theorem zCA (hf:f σ M=some (x,M)) (h:zAb M x=some xs):fB zAu (zS f zg) σ M=some (.dat (.tup xs),M):=by
 unfold fB zS zg;rw[hf];exact zY ((zJe h).mpr ⟨rfl,rfl⟩)
theorem zFL (hf:f σ M=some (.dat (.tup xs),M)):zn f σ M=some (xs,none,M):=zCp hf zAF
theorem zLq (n:Nat):zCG 0 n=(List.range n).map fun (k:Nat)=>D.int k:=(zHr n).symm
theorem zEW (e:f σ M=some (.dat (.int j),M)) (h1:0<=j) (h2:j<2 ^ 62):zv (zD (toD f) zH) σ M=some ((List.range j.toNat).map (fun (k:Nat)=>D.int k),none,M):=by
 rw[zBi e h1 h2,zLq]
theorem zC2 (hf:f σ M=some (.dat d,M)) (h:OkS (g (σ.set i (some d)) M) P):OkS (zX (zo i f) g σ M) P:=by
 rw[zI,zT];exact zE hf h
theorem zVs (h:f σ M=some (.dat d,M')):zD (toD f) zH σ M=some ([d],M'):=by
 unfold zD toD zH;rw[h]
theorem zHn {α β:Type} (f:α->β) (d:α):∀ xs:List α,(List.range xs.length).map (fun i=>f (xs.getD i d))=xs.map f
 |[]=>rfl
 |x::xs=>by
  rw[zW1,List.range_succ_eq_map,zWn,zWs,zWn,<-zHn f d xs];rfl
open ST
def ris (xs:List Int):List Int:=zDn (zV xs)
theorem zFE (xs:List Int) (x:Int):x∈ris xs ↔ x∈xs:=by
 unfold ris;rw[(zBy _).mem_iff,zEj]
theorem zKN (xs:List Int):(ris xs).Pairwise (· < ·):=by
 have h1:=zHj (zV xs);have h2:(ris xs).Nodup:=(zBy _).nodup_iff.mpr (zJE xs);unfold ris at h2 ⊢;exact (h1.and h2).imp fun {a b} h=>by have:=h.1;have:=h.2;omega
theorem zFu:∀ {xs ys:List Int},xs.Pairwise (· < ·)->ys.Pairwise (· < ·)->(∀ x,x∈xs ↔ x∈ys)->xs=ys
 |[],[],_,_,_=>rfl
 |[],y::ys,_,_,h=>by have:=(h y).mpr zWi;cases this
 |x::xs,[],_,_,h=>by have:=(h x).mp zWi;cases this
 |x::xs,y::ys,h1,h2,h=>by
  have hx:=zYe.mp h1;have hy:=zYe.mp h2;have e:x=y:=by
   have a:=(h x).mp zWi;have b:=(h y).mpr zWi;rcases zWg.mp a with z|z
   ·exact z
   ·rcases zWg.mp b with q|q
    ·exact q.symm
    ·have:=hx.1 y q;have:=hy.1 x z;omega
  subst e;rw[zFu hx.2 hy.2 fun z=>?_];constructor
  ·intro hz;rcases zWg.mp ((h z).mp (zWh _ hz))with q|q
   ·subst q;have:=hx.1 _ hz;omega
   ·exact q
  ·intro hz;rcases zWg.mp ((h z).mpr (zWh _ hz))with q|q
   ·subst q;have:=hy.1 _ hz;omega
   ·exact q
theorem zNV (h:∀ x,x∈xs ↔ x∈ys):ris xs=ris ys:=zFu (zKN xs) (zKN ys) fun x=>by rw[zFE,zFE];exact h x
theorem zPx (h:xs.Pairwise (· < ·)):ris xs=xs:=zFu (zKN xs) h fun x=>zFE xs x
theorem zNP (xs:List Int):(ris xs).length<=xs.length:=by
 unfold ris;rw[(zBy _).length_eq];exact zBt xs
theorem zTg (h:0<xs.length):0<(ris xs).length:=by
 cases xs with
 |nil=>cases h
 |cons x r=>exact List.length_pos_of_mem ((zFE (x::r) x).mpr zWi)
theorem zSF (h:zm own fi g tc te σ M=some (.fl (ks.map D.int),M)) (hz:ks.length<=4000):zIk own fi g tc te σ M=some (zV ks,M):=by
 unfold zIk;rw[h];dsimp only;rw[zCW];dsimp only;rw[zWj (by unfold scanBound;omega)]
theorem zPM (h:fz σ M=some (zV ks,M)) (hz:(zV ks).length<64):zGp fz σ M=some (.fl ((ris ks).map D.int),M):=by
 unfold zGp;rw[h];dsimp only;rw[zWj hz];rfl
noncomputable def zF3:FS:=(zAW (fB zAu (zS (zGp (zIk [3] (zn (zC 1)) (gN 3) zr (fOp kIx (fOp kIx (zC 0) (zC 3)) (zC 2)))) zg)))
noncomputable def zBL:FF:=zGD (zBN 4 zF3)
def setR (zA:List (List Int)) (S:List Int) (g:Int):List Int:=ris (S.map fun h=>zx zA h g)
def zUm (zA:List (List Int)) (S word:List Int):List Int:=word.foldl (setR zA) S
structure IsS (zA:List (List Int)) (S:List Int):Prop where
 pw:S.Pairwise (· < ·)
 n0:0<S.length
 mem:∀ x∈S,0<=x/\x<(zA.length:Int)
theorem zPW:∀ {S:List Int} {a:Int} {n:Nat},S.Pairwise (· < ·)->(∀ x∈S,a<=x/\x<a+(n:Int))->S.length<=n
 |[],_,_,_,_=>zXG _
 |x::S,a,n,h,hm=>by
  have hx:=zYe.mp h;obtain ⟨m0,m1⟩:=hm x zWi;have hn:0<n:=by omega
  have:=zPW (S:=S) (a:=x+1) (n:=(a+n-(x+1)).toNat) hx.2 fun y hy=>by
   have:=hx.1 y hy;have:=(hm y (zWh _ hy)).2;omega
  simp only[zW1];omega
theorem IsS.len (h:IsS zA S):S.length<=zA.length:=zPW h.pw (a:=0) fun x hx=>by have:=h.mem x hx;omega
theorem IsM.setR {zA:List (List Int)} {l:Nat} (m:IsM zA l) {S:List Int} (s:IsS zA S) {g:Int} (g0:0<=g) (g1:g<l):IsS zA (setR zA S g):=by
 refine ⟨zKN _,zTg (by rw[zWd];exact s.n0),fun x hx=>?_⟩;obtain ⟨y,hy,rfl⟩:=zWl.mp ((zFE _ _).mp hx);obtain ⟨y0,y1⟩:=s.mem y hy;exact m.step y0 y1 g0 g1
def tI (xs:List Int):D:=.tup (xs.map D.int)
theorem zKA {zA:List (List Int)} {l:Nat} (m:IsM zA l) (hR:zA.length<64) {S:List Int} (s:IsS zA S) {g:Int} (g0:0<=g) (g1:g<l) {M:Mem}:zBL [mD zA,tI S,.int g] M=some (tI (setR zA S g),M):=by
 refine zY ?_;unfold zBL;refine zGj (by unfold D.unds D.unds D.unds D.unds;rw[zEz];simp[tI,zAh,D.und,zi]) ?_;rw[zy];unfold zF3;have hl:=s.len;have hz:(zV (S.map fun h=>zx zA h g)).length<64:=by have:=zBt (S.map fun h=>zx zA h g);rw[zWd]at this;omega
 refine zAP (d:=tI (setR zA S g)) ?_ ⟨by unfold tI;exact zAh _,rfl,rfl⟩;refine zCA (zPM (ks:=S.map fun h=>zx zA h g) (zSF ?_ (by rw[zWd];omega)) hz) zCw;refine (zAs S D.int (fun h=> .int (zx zA h g)) (zFL rfl) trivial (by omega) fun h hh=>⟨_,rfl,?_⟩).trans ?_
 ·obtain ⟨h0,h1⟩:=s.mem h hh;exact m.ix h0 h1 g0 g1 rfl rfl rfl
 ·rw[zWs];rfl
end Law
namespace Law
open PySem PySem.Spec PyProof.Rows L2 L3 ST
theorem zMJ (hgd:zA1 gd all M) (hg:g x σ=some σ1) (hk:tk σ1 M=some (.dat k,M)) (hv:tv σ1 M=some (.dat v,M)) (hp:zDh M n k v=some M'):zCZ g zr tk tv σ n all gd (x::r) M=zCZ g zr tk tv σ n all gd r M':=by
 rw[zCZ];rw[zWj hgd,hg];have et:zr σ1 M=some (true,M):=rfl;have e1:toD tk σ1 M=some (k,M):=by unfold toD;rw[hk]
 have e2:toD tv σ1 M=some (v,M):=by unfold toD;rw[hv]
 dsimp only;rw[et];dsimp only;rw[e1];dsimp only;rw[e2];dsimp only;rw[hp]
theorem zIj (hgd:zA1 gd all M):zCZ g tc tk tv σ n all gd [] M=some M:=by
 rw[zCZ,zWj hgd]
theorem zS7 {M:Mem} {n:Nat} {xs:List D} {k:Nat} {d:D} {Q:D->Mem->Prop} (h:M[n]?=some (.lst xs)) (hk:xs[k]?=some d) (hz:k<90000) (q:Q d (M.set n (.lst (xs.eraseIdx k)))):Ok (zIN (.dat (.ref n)) [.int (k:Int)] M) Q:=by
 refine ⟨d,M.set n (.lst (xs.eraseIdx k)),?_,q⟩;have hl:k<xs.length:=(zWX.mp hk).1;unfold zIN;dsimp only;rw[h];dsimp only;have e:ixN xs.length (k:Int)=some k:=by unfold ixN;rw[zWj (by omega),zWj (by omega)];simp
 rw[e];dsimp only;rw[hk];dsimp only;rw[zWj ⟨by omega,by omega⟩]
theorem zCB (e:f σ M=some (.dat (mD zA),M)):fB zAk (zS f zg) σ M=some (.dat (.int zA.length),M):=by
 have:=zCR e zAF;rw[zWd]at this;exact this
theorem zNa (m:IsM zA l) (e:f σ M=some (.dat (mD zA),M)):fB zAk (zS (fOp kIx f (fC (.int 0))) zg) σ M=some (.dat (.int l),M):=by
 have r0:=m.r0;have:=zCR (zK (g:=fC (.int 0)) e rfl (zBA zAF (zHG (h:=0) (by omega) (by omega)))) zAF;rw[zWd,(m.get (h:=0) (by omega) (by omega)).1]at this;exact this
end Law
namespace Law
open PySem PySem.Spec PyProof.Rows L2 L3 ST
theorem oS (h:f σ M=some (.dat (.int i),M)):zBS f σ M=some (some i,M):=by unfold zBS;rw[h]
theorem zOy (h0:0<p) (hx:0<xs.length):L3.zDI xs (some p) none=xs.drop p.toNat:=by
 have e:p=((p.toNat:Nat):Int):=by omega
 have s:HT.sIx xs.length 0 (some p)=min p.toNat xs.length:=by
  have q:=HT.zGd xs.length 0 p.toNat;rw[<-e]at q;exact q
 have z:HT.sIx xs.length xs.length none=xs.length:=rfl;unfold L3.zDI;rw[s,z];rcases Nat.le_total p.toNat xs.length with q|q
 ·rw[Nat.min_eq_left q,List.take_of_length_le (by simp)]
 ·rw[Nat.min_eq_right q,List.drop_of_length_le (zWa _),List.drop_of_length_le q];simp
end Law
namespace Lac
open PySem PySem.Spec PyProof.Rows L2 L3 ST Law
theorem za (h:P (.ref M.length) (M++[.lst xs])):zGa P (.fl xs) M:=h
theorem zR (A:Mem) (u:MO):(A++[u])[A.length]?=some u:=by simp
noncomputable def zEF:FS:=(zAW (zM5 (fB zAk (zS (zC 0) zg))))
noncomputable def zAD:FF:=zBN 1 zEF
noncomputable def zEm:FS:=(zAW (zFh [1,2] [2] (zn (zC 0)) (gN 1) zr (zn (zC 0)) (gN 2) (tst (fOp kLt (zC 1) (zC 2))) (zAV (zD (toD (zC 1)) (zD (toD (zC 2)) zH)))))
noncomputable def zAO:FF:=zBN 3 zEm
theorem zLJ {α:Type} (enc out:α->D) (keep:α->Bool):∀ (as:List α),(∀ a∈as,∃ σ1,g (enc a) σ=some σ1/\tc σ1 M=some (keep a,M)/\(keep a=true->te σ1 M=some (.dat (out a),M)))->zA2 g tc te σ all none (as.map enc) M=some ((as.filter keep).map out,M)
 |[],_=>by
  rw[List.map_nil];unfold zA2;rw[zWj (show zA1 none all M from trivial)];rfl
 |a::r,h=>by
  obtain ⟨σ1,e1,e2,e3⟩:=h a zWi;have ih:=zLJ (all:=all) (σ:=σ) enc out keep r fun b hb=>h b (zWh _ hb);rw[zWn];unfold zA2;rw[zWj (show zA1 none all M from trivial),e1];dsimp only;rw[e2];cases hk:keep a with
  |false=>
   dsimp only;rw[ih,List.filter_cons_of_neg (by simp[hk])]
  |true=>
   dsimp only;rw[show toD te σ1 M=some (out a,M) by unfold toD;rw[e3 hk]];dsimp only;rw[ih,List.filter_cons_of_pos hk];rfl
theorem zPu {α β:Type} (as:List α) (enc:α->D) (bs:α->List β) (enc2:β->D) (keep:α->β->Bool) (out:α->β->D) (B:Nat)
  (hi:fi σ M=some (as.map enc,none,M)) (hB:∀ a∈as,(bs a).length<=B) (hz:as.length*B<=90000)
  (he:∀ a∈as,∃ σ1,fg (enc a) (zBD own σ)=some σ1/\fi2 σ1 M=some ((bs a).map enc2,none,M) /\ ∀ b∈bs a,∃ σ2,fg2 (enc2 b) (zBD own2 σ1)=some σ2/\tc2 σ2 M=some (keep a b,M)/\(keep a b=true->te σ2 M=some (.dat (out a b),M))) :
  zFh own own2 fi fg zr fi2 fg2 tc2 te σ M=some (.fl (as.flatMap fun a=>((bs a).filter (keep a)).map (out a)),M):=by
 have key:∀ (r:List α) (acc:List D),(∀ a∈r,a∈as)->acc.length+r.length*B<=90000->zI7 fg zr fi2 own2 fg2 tc2 te (zBD own σ) (as.map enc) none (r.map enc) acc M=some (acc++r.flatMap fun a=>((bs a).filter (keep a)).map (out a),M):=by
  intro r;induction r with
  |nil=>
   intro acc _ _;rw[List.map_nil];unfold zI7;rw[zWj (show zA1 none (as.map enc) M from trivial)];simp
  |cons a r ih=>
   intro acc hs hl;have ha:=hs a zWi;obtain ⟨σ1,e1,e2,e3⟩:=he a ha;have hb:=hB a ha;have hlen:(((bs a).filter (keep a)).map (out a)).length<=(bs a).length:=by rw[zWd];exact zYo _ _
   rw[zW1,Nat.add_mul]at hl;rw[zWn];unfold zI7;rw[zWj (show zA1 none (as.map enc) M from trivial),e1];dsimp only;rw[show zr σ1 M=some (true,M)from rfl];dsimp only;rw[e2];dsimp only;rw[zWj (zW (by rw[zWd];omega)),zLJ enc2 (out a) (keep a) (bs a) e3];dsimp only;rw[ih _ (fun b hb=>hs b (zWh _ hb)) (by rw[zWk];omega)];rw[List.flatMap_cons,zXa]
 unfold zFh;rw[hi];dsimp only;rw[key as [] (fun _ h=>h) (by simpa using hz)];simp
def zO (xs:List Int):List (List Int):=xs.flatMap fun a=>(xs.filter fun b=>decide (a<b)).map fun b=>[a,b]
theorem zFY (hz:xs.length<=200):zAO [tI xs] M=some (.ref M.length,M++[.lst ((zO xs).map tI)]):=by
 suffices h:Ok (zAO [tI xs] M) fun d M'=>d=.ref M.length/\M'=M++[.lst ((zO xs).map tI)] by
  obtain ⟨d,M',e,rfl,rfl⟩:=h;exact e
 unfold zAO;rw[zy];unfold zEm;rw[zA8];have hq:xs.length*xs.length<=90000:=zWv (zX6 hz hz) (by decide);refine zE (zPu xs D.int (fun _=>xs) D.int (fun a b=>decide (a<b)) (fun a b=>tI [a,b]) xs.length (zFL rfl) (fun _ _=>zWa _) hq fun a ha=>⟨_,rfl,zFL rfl,fun b hb=>⟨_,rfl,?_,fun _=>?_⟩⟩) (za ⟨rfl,?_⟩)
 ·exact zu (zK (x:=.dat (.int a)) (y:=.dat (.int b)) rfl rfl (zY (zTl.mpr ⟨rfl,rfl⟩)))
 ·unfold zAV;rw[zt (d:=.int a) rfl (zc (d:=.int b) rfl)];dsimp only;rw[zWj (zW (by simp))];rfl
 ·congr 3;unfold zO;rw[List.map_flatMap];congr 1;funext a;rw[zWs];rfl
theorem zAX:p∈zO xs ↔ ∃ a b,p=[a,b]/\a∈xs/\b∈xs/\a<b:=by
 unfold zO;rw[List.mem_flatMap];constructor
 ·rintro ⟨a,ha,h⟩;obtain ⟨b,hb,rfl⟩:=zWl.mp h;obtain ⟨h1,h2⟩:=zXf.mp hb;exact ⟨a,b,rfl,ha,h1,zXQ h2⟩
 ·rintro ⟨a,b,rfl,ha,hb,hlt⟩;exact ⟨a,ha,zWl.mpr ⟨b,zXf.mpr ⟨hb,zXc hlt⟩,rfl⟩⟩
theorem zED (hz:zA.length<=1000):zAD [mD zA] M=some (tI ((List.range zA.length).map fun (k:Nat)=>(k:Int)),M):=by
 refine zY ?_;unfold zAD;rw[zy];unfold zEF;refine zAP (d:=tI ((List.range zA.length).map fun (k:Nat)=>(k:Int))) ?_ ⟨rfl,rfl⟩;unfold zM5;rw[show fB zAk (zS (zC 0) zg) ([mD zA].map some++List.replicate (1 - [mD zA].length) none) M=some (.dat (.int zA.length),M)from zCB rfl];dsimp only;rw[zWj ⟨by omega,by omega⟩];unfold upD tI;rw[zWs,show (zA.length:Int).toNat=zA.length by omega];rfl
def zJz (g:List Int):List Key:=g.map Sum.inl
theorem zKl:∀ {a b:List Int},zJz a=zJz b->a=b
 |[],[],_=>rfl
 |[],_::_,h=>by cases h
 |_::_,[],h=>by cases h
 |x::a,y::b,h=>by
  have h1:=(zXY h).1;have h2:=zKl (zXY h).2;cases h1;rw[h2]
theorem zG1:∀ g:List Int,zHs (g.map D.int)=some (zJz g)
 |[]=>rfl
 |x::r=>by
  rw[zWn];unfold zHs;rw[zG1 r];rfl
theorem zFB (g:List Int):tkD (tI g)=some (zJz g):=zG1 g
abbrev zEb (T:List (List Int × D)):List (D × D):=T.map fun q=>(tI q.1,q.2)
abbrev dT (T:List (List Int × D)):MO:=.dicT (zEb T)
def zG:List (List Int × D)->List Int->Option D
 |[],_=>none
 |q::r,g=>if q.1=g then some q.2 else zG r g
def zCI (T:List (List Int × D)) (g:List Int) (v:D):List (List Int × D):=match zG T g with
 |some _=>T.map fun q=>if q.1=g then (q.1,v) else q
 |none=>T++[(g,v)]
theorem zKG (a g:List Int):decide (tkD (tI a)=some (zJz g))=decide (a=g):=by
 rw[zFB];by_cases h:a=g
 ·subst h;simp
 ·rw[zW3 h,zW3];intro e;exact h (zKl (zXU e))
theorem zMG (g:List Int):∀ T:List (List Int × D),zBq tkD (zEb T) (zJz g)=zG T g
 |[]=>rfl
 |q::r=>by
  have ih:=zMG g r;unfold zBq at ih ⊢;unfold zEb at ih ⊢;rw[zWn,zYG];rw[zKG];unfold zG;by_cases h:q.1=g
  ·rw[zXc h,zWj h];rfl
  ·rw[zW3 h,zWm h];exact ih
theorem zSq (g:List Int):∀ T:List (List Int × D),((zEb T).any fun p=>decide (tkD p.1=some (zJz g)))=(zG T g).isSome
 |[]=>rfl
 |q::r=>by
  have ih:=zSq g r;unfold zEb at ih ⊢;rw[zWn,List.any_cons,zKG];unfold zG;by_cases h:q.1=g
  ·rw[zXc h,zWj h];rfl
  ·rw[zW3 h,zWm h,Bool.false_or];exact ih
theorem zSw (T:List (List Int × D)) (g:List Int) (v:D):zGO tkD (zEb T) (zJz g) (tI g) v=zEb (zCI T g v):=by
 unfold zGO zCI;rw[zSq];cases h:zG T g with
 |none=>
  rw[zWm (by simp)];unfold zEb;rw[zXM];rfl
 |some d=>
  rw[zWj (by simp)];unfold zEb;rw[zWs,zWs];apply List.map_congr_left;intro q _;show (if tkD (tI q.1)=some (zJz g) then (tI q.1,v) else (tI q.1,q.2))=(tI (if q.1=g then (q.1,v) else q).1,(if q.1=g then (q.1,v) else q).2);have hd:=zKG q.1 g;by_cases hq:q.1=g
  ·rw[zXc hq]at hd;rw[zWj (zXQ hd),zWj hq]
  ·rw[zW3 hq]at hd;rw[zWm (of_decide_eq_false hd),zWm hq]
theorem zC4 (T:List (List Int × D)) (g h:List Int) (v:D):zG (zCI T g v) h=if g=h then some v else zG T h:=by
 have app:∀ (T:List (List Int × D)),zG T g=none->zG (T++[(g,v)]) h=if g=h then some v else zG T h:=by
  intro T;induction T with
  |nil=>intro _;rfl
  |cons q r ih=>
   intro e;unfold zG at e;by_cases hq:q.1=g
   ·rw[zWj hq]at e;cases e
   ·rw[zWm hq]at e;show (if q.1=h then some q.2 else zG (r++[(g,v)]) h)=if g=h then some v else if q.1=h then some q.2 else zG r h
    rw[ih e];by_cases h1:q.1=h
    ·rw[zWj h1,zWj h1,zWm (fun z=>hq (h1.trans z.symm))]
    ·rw[zWm h1,zWm h1]
 have mp:∀ (T:List (List Int × D)),(zG T g).isSome=true->zG (T.map fun q=>if q.1=g then (q.1,v) else q) h=if g=h then some v else zG T h:=by
  intro T;by_cases hgh:g=h
  ·subst hgh;induction T with
   |nil=>intro e;cases e
   |cons q r ih=>
    intro e;rw[zWn];unfold zG;by_cases hq:q.1=g
    ·rw[zWj hq];simp[hq]
    ·rw[zWm hq,zWm hq];unfold zG at e;rw[zWm hq]at e;rw[ih e,zWj rfl,zWj rfl]
  ·intro hx;clear hx;rw[zWm hgh];induction T with
   |nil=>rfl
   |cons q r ih=>
    rw[zWn];unfold zG;by_cases hq:q.1=g
    ·have:¬ q.1=h:=fun z=>hgh (hq.symm.trans z);rw[zWj hq];rw[zWm this,zWm this];exact ih
    ·rw[zWm hq];by_cases h1:q.1=h
     ·rw[zWj h1,zWj h1]
     ·rw[zWm h1,zWm h1];exact ih
 unfold zCI;cases e:zG T g with
 |none=>exact app T e
 |some d=>exact mp T (by rw[e];rfl)
theorem zHX (T:List (List Int × D)) (g:List Int) (v:D):(zCI T g v).length<=T.length+1:=by
 unfold zCI;cases zG T g with
 |none=>simp
 |some d=>simp
section
variable {M:Mem} {n:Nat} {T:List (List Int × D)} {g:List Int}
theorem dgT (h:M[n]?=some (dT T)):zDC M (.dat (.ref n)) (tI g)=some (zG T g):=by
 unfold zDC;dsimp only;rw[h];dsimp only;rw[zFB];dsimp only;rw[zMG]
theorem zID (h:M[n]?=some (dT T)):zAm neg (.dat (tI g)) (.dat (.ref n)) M=some (.dat (.bl (if neg then !(zG T g).isSome else (zG T g).isSome)),M):=by
 unfold zAm;dsimp only;rw[dgT h]
theorem zHQ (h:M[n]?=some (dT T)) (hd:zG T g=some d):zq (.dat (.ref n)) (.dat (tI g)) M=some (.dat d,M):=by
 unfold zq;dsimp only;rw[dgT h,hd]
theorem zIc (h:M[n]?=some (dT T)) (hz:T.length<90000):zDh M n (tI g) v=some (M.set n (dT (zCI T g v))):=by
 unfold zDh;rw[h];dsimp only;rw[zFB];dsimp only;rw[zWj (by rw[zWd];exact zWt hz (zW (by omega))),zSw]
end
abbrev TB:=List (List Int × Int)
def zG6 (v:Int) (T:TB) (p:List Int):TB:=if p∈T.map (·.1) then T else T++[(p,v)]
theorem zBx (w:Int):∀ (ps:List (List Int)) (T:TB),∃ new:List (List Int),ps.foldl (zG6 w) T=T++new.map (fun p=>(p,w))/\(∀ p∈new,p∈ps/\p∉T.map (·.1))/\new.Nodup /\ ∀ p∈ps,p∈T.map (·.1)\/p∈new
 |[],T=>⟨[],by simp,(fun p h=>by cases h),List.nodup_nil,(fun p h=>by cases h)⟩
 |p::ps,T=>by
  rw[List.foldl_cons];by_cases h:p∈T.map (·.1)
  ·rw[show zG6 w T p=T from zWj h];obtain ⟨new,e,h1,h2,h3⟩:=zBx w ps T;refine ⟨new,e,fun q hq=>⟨zWh _ (h1 q hq).1,(h1 q hq).2⟩,h2,fun q hq=>?_⟩;rcases zWg.mp hq with rfl|z
   ·exact .inl h
   ·exact h3 q z
  ·rw[show zG6 w T p=T++[(p,w)]from zWm h];obtain ⟨new,e,h1,h2,h3⟩:=zBx w ps (T++[(p,w)]);have hk:∀ q,q∈(T++[(p,w)]).map (·.1) ↔ q∈T.map (·.1)\/q=p:=fun q=>by rw[zXM,zWu];simp
   refine ⟨p::new,by rw[e];simp,fun q hq=>?_,?_,fun q hq=>?_⟩
   ·rcases zWg.mp hq with rfl|z
    ·exact ⟨zWi,h⟩
    ·exact ⟨zWh _ (h1 q z).1,fun y=>(h1 q z).2 ((hk q).mpr (.inl y))⟩
   ·exact zXo.mpr ⟨fun z=>(h1 p z).2 ((hk p).mpr (.inr rfl)),h2⟩
   ·rcases zWg.mp hq with rfl|z
    ·exact .inr zWi
    ·rcases h3 q z with y|y
     ·rcases (hk q).mp y with x|x
      ·exact .inl x
      ·exact .inr (by rw[x];exact zWi)
     ·exact .inr (zWh _ y)
structure BI (src:List Int->List (List Int)) (goals:List (List Int)) (T:TB) (i:Nat):Prop where
 nd:(T.map (·.1)).Nodup
 st:∀ g∈goals,(g,(0:Int))∈T
 ent:∀ p v,(p,v)∈T->(v=0/\p∈goals) \/ ∃ q u,(q,u)∈T/\v=u+1/\p∈src q
 cl:∀ (j:Nat) q u,j<i->T[j]?=some (q,u) -> ∀ p∈src q,∃ v,(p,v)∈T/\v<=u+1
 mono:∀ (j k:Nat) p q u v,j<=k->T[j]?=some (p,u)->T[k]?=some (q,v)->u<=v
 top:∀ q u,T[i]?=some (q,u) -> ∀ p v,(p,v)∈T->v<=u+1
 pos:∀ p v,(p,v)∈T->0<=v
theorem zQm (nd:goals.Nodup):BI src goals (goals.map fun g=>(g,(0:Int))) 0 where
 nd:=by rw[zWs,show ((fun (x:List Int × Int)=>x.1)∘fun (t:List Int)=>(t,(0:Int)))=id from rfl,List.map_id];exact nd
 st:=fun g h=>zWl.mpr ⟨g,h,rfl⟩;ent:=fun p v h=>by obtain ⟨g,hg,e⟩:=zWl.mp h;cases e;exact .inl ⟨rfl,hg⟩
 cl:=fun j q u h=>absurd h (Nat.not_lt_zero _);mono:=fun j k p q u v _ h1 h2=>by
  obtain ⟨g,_,e⟩:=zWl.mp (zXL h1);cases e;obtain ⟨g,_,e⟩:=zWl.mp (zXL h2);cases e;exact Int.le_refl _
 top:=fun q u h p v h2=>by
  obtain ⟨g,_,e⟩:=zWl.mp (zXL h);cases e;obtain ⟨g,_,e⟩:=zWl.mp h2;cases e;omega
 pos:=fun p v h=>by obtain ⟨g,_,e⟩:=zWl.mp h;cases e;omega
theorem zRQ (h:BI src goals T i) (hi:T[i]?=some (q,u)):BI src goals ((src q).foldl (zG6 (u+1)) T) (i+1):=by
 obtain ⟨new,e,h1,h2,h3⟩:=zBx (u+1) (src q) T;rw[e];have hil:=(zWX.mp hi).1;have hq:(q,u)∈T:=zXL hi;have old:∀ {p v},(p,v)∈T->(p,v)∈T++new.map (fun p=>(p,u+1)):=fun z=>zXj _ z;have at':∀ {j:Nat} {p v},(T++new.map (fun p=>(p,u+1)))[j]?=some (p,v)->T[j]?=some (p,v)\/(T.length<=j/\p∈new/\v=u+1):=fun {j p v} z=>by
  rcases zXq j T.length with y|y
  ·rw[zWb y]at z;exact .inl z
  ·rw[zXe y]at z;obtain ⟨g,hg,e⟩:=zWl.mp (zXL z);cases e;exact .inr ⟨y,hg,rfl⟩
 have mem':∀ {p v},(p,v)∈T++new.map (fun p=>(p,u+1))->(p,v)∈T\/(p∈new/\v=u+1):=fun {p v} z=>by
  rcases zWu.mp z with y|y
  ·exact .inl y
  ·obtain ⟨g,hg,e⟩:=zWl.mp y;cases e;exact .inr ⟨hg,rfl⟩
 refine ⟨?_,fun g hg=>old (h.st g hg),fun p v hp=>?_,fun j q' u' hj hq' p hp=>?_,fun j k p q' u' v hjk ej ek=>?_,fun q' u' eq' p v hp=>?_,fun p v hp=>?_⟩
 ·rw[zXM,zXi];refine ⟨h.nd,?_,fun a ha b hb=>?_⟩
  ·rw[zWs,show ((fun (x:List Int × Int)=>x.1)∘fun (t:List Int)=>(t,u+1))=id from rfl,List.map_id];exact h2
  ·rw[zWs,show ((fun (x:List Int × Int)=>x.1)∘fun (t:List Int)=>(t,u+1))=id from rfl,List.map_id]at hb;intro z;subst z;exact (h1 a hb).2 ha
 ·rcases mem' hp with z|⟨z,rfl⟩
  ·rcases h.ent p v z with y|⟨q',u',y1,y2,y3⟩
   ·exact .inl y
   ·exact .inr ⟨q',u',old y1,y2,y3⟩
  ·exact .inr ⟨q,u,old hq,rfl,(h1 p z).1⟩
 ·rcases zXq j i with z|z
  ·have hjl:j<T.length:=by omega
   rw[zWb hjl]at hq';obtain ⟨v,y1,y2⟩:=h.cl j q' u' z hq' p hp;exact ⟨v,old y1,y2⟩
  ·have:j=i:=by omega
   subst this;rw[zWb hil,hi]at hq';cases hq';rcases h3 p hp with y|y
   ·obtain ⟨⟨p',v⟩,hv,rfl⟩:=zWl.mp y;exact ⟨v,old hv,h.top q u hi p' v hv⟩
   ·exact ⟨u+1,zWo _ (zWl.mpr ⟨p,y,rfl⟩),Int.le_refl _⟩
 ·rcases at' ej with z|⟨z,_,rfl⟩ <;> rcases at' ek with y|⟨y,_,rfl⟩
  ·exact h.mono j k p q' u' v hjk z y
  ·exact h.top q u hi p u' (zXL z)
  ·have:=(zWX.mp y).1;omega
  ·exact Int.le_refl _
 ·have hle:u<=u':=by
   rcases at' eq' with z|⟨_,_,rfl⟩
   ·exact h.mono i (i+1) q q' u u' (by omega) hi z
   ·omega
  rcases mem' hp with z|⟨z,rfl⟩
  ·have:=h.top q u hi p v z;omega
  ·omega
 ·rcases mem' hp with z|⟨z,rfl⟩
  ·exact h.pos p v z
  ·have:=h.pos q u hq;omega
def LR (src:List Int->List (List Int)) (goals:List (List Int)):Nat->List Int->Prop
 |0,p=>p∈goals
 |n+1,p=>∃ q,p∈src q/\LR src goals n q
theorem zLk (h:BI src goals T i):∀ (n:Nat) p,(p,(n:Int))∈T->LR src goals n p
 |0,p,hp=>by
  rcases h.ent p _ hp with ⟨_,z⟩|⟨q,u,z1,z2,_⟩
  ·exact z
  ·have:=h.pos q u z1;omega
 |n+1,p,hp=>by
  rcases h.ent p _ hp with ⟨z,_⟩|⟨q,u,z1,z2,z3⟩
  ·omega
  ·have:u=(n:Int):=by omega
   subst this;exact ⟨q,z3,zLk h n q z1⟩
theorem zM9 (h:BI src goals T T.length):∀ (n:Nat) p,LR src goals n p -> ∃ v,(p,v)∈T/\v<=(n:Int)
 |0,p,hp=>⟨0,h.st p hp,by omega⟩
 |n+1,p,⟨q,h1,h2⟩=>by
  obtain ⟨u,hu,hle⟩:=zM9 h n q h2;obtain ⟨j,hj⟩:=List.mem_iff_getElem?.mp hu;obtain ⟨v,hv,hle2⟩:=h.cl j q u (zWX.mp hj).1 hj p h1;exact ⟨v,hv,by omega⟩
theorem zPs (h:BI src goals T T.length):p∈T.map (·.1) ↔ ∃ n,LR src goals n p:=by
 constructor
 ·intro z;obtain ⟨⟨p',v⟩,hv,rfl⟩:=zWl.mp z;have h0:=h.pos p' v hv;exact ⟨v.toNat,zLk h v.toNat p' (by rw[show ((v.toNat:Nat):Int)=v by omega];exact hv)⟩
 ·rintro ⟨n,hn⟩;obtain ⟨v,hv,_⟩:=zM9 h n p hn;exact zWl.mpr ⟨(p,v),hv,rfl⟩
abbrev zBn (T:TB):List (List Int × D):=T.map fun q=>(q.1,D.int q.2)
theorem zSu (nd:(T.map (·.1)).Nodup) (h:(p,v)∈T):zG (zBn T) p=some (.int v):=by
 induction T with
 |nil=>cases h
 |cons q r ih=>
  rw[zWn,zXo]at nd;show (if q.1=p then some (D.int q.2) else zG (zBn r) p)=_;rcases zWg.mp h with rfl|z
  ·rw[zWj rfl]
  ·rw[zWm (fun e=>nd.1 (by rw[e];exact zWl.mpr ⟨(p,v),z,rfl⟩))];exact ih nd.2 z
theorem zGw (h:p∉T.map (·.1)):zG (zBn T) p=none:=by
 induction T with
 |nil=>rfl
 |cons q r ih=>
  rw[zWn,zWg]at h;show (if q.1=p then some (D.int q.2) else zG (zBn r) p)=_;rw[zWm (fun e=>h (.inl e.symm))];exact ih fun z=>h (.inr z)
theorem zHw (nd:(T.map (·.1)).Nodup):(zG (zBn T) p).isSome=decide (p∈T.map (·.1)):=by
 by_cases h:p∈T.map (·.1)
 ·obtain ⟨⟨p',v⟩,hv,rfl⟩:=zWl.mp h;rw[zSu nd hv,zXc h];rfl
 ·rw[zGw h,zW3 h];rfl
noncomputable def zD8:FS:=(zX (zo 1 zJy)
  (zX (zBo (zn (zP zAO (zD (toD (zP zAD (zD (toD (zC 0)) zH))) zH))) (gN 2) (zBo (zv (zD (toD (fB zAk (zS (fOp kIx (zC 0) (fC (.int 0))) zg))) zH)) (gN 3) (zX (zo 4 (zP zBL (zD (toD (zC 0)) (zD (toD (zC 2)) (zD (toD (zC 3)) zH)))))
  (zX (sIf (tst (fOp (zAm true) (zC 4) (zC 1))) (zBZ (zAT zH) (zC 1) (zC 4)) zBB)
  (zAa (fM zk (fOp zq (zC 1) (zC 4)) (zD (toD (zC 2)) zH)))))))
  (zAW (zC 1))))
noncomputable def zB4:FF:=zBN 5 zD8
def zDF (zA:List (List Int)) (ps:List (List Int × Int)) (g:List Int):List (List Int):=(ps.filter fun q=>decide (setR zA q.1 q.2=g)).map (·.1)
theorem zHR (zA:List (List Int)) (ps:List (List Int × Int)) (p:List Int) (x:Int) (g:List Int):zDF zA (ps++[(p,x)]) g=zDF zA ps g++(if setR zA p x=g then [p] else []):=by
 unfold zDF;rw[List.filter_append,zXM];congr 1;by_cases h:setR zA p x=g
 ·rw[zWj h,List.filter_cons_of_pos (by simpa using h)];rfl
 ·rw[zWm h,List.filter_cons_of_neg (by simpa using h)];rfl
structure Sr (zA:List (List Int)) (M:Mem) (jd lo:Nat) (ps:List (List Int × Int)):Prop where
 ex:∃ T:List (List Int × D),M[jd]?=some (dT T)/\T.length<=ps.length/\(∀ g d,zG T g=some d -> ∃ j,d=.ref j/\lo<j/\M[j]?=some (.lst ((zDF zA ps g).map tI)))/\(∀ g,zG T g=none->zDF zA ps g=[]) /\ ∀ g g' j,zG T g=some (.ref j)->zG T g'=some (.ref j)->g=g'
theorem zNn {zA:List (List Int)} {l:Nat} (m:IsM zA l) (hR:zA.length<64) {M:Mem} {jd lo:Nat} {ps:List (List Int × Int)} (hps:ps.length<50000) (hlo:jd<lo) (hlo2:lo<M.length) (sr:Sr zA M jd lo ps) {p:List Int} (hp:IsS zA p) {x:Int} (x0:0<=x) (x1:x<l) {y4:Option D} :
  OkS (zX (zo 4 (zP zBL (zD (toD (zC 0)) (zD (toD (zC 2)) (zD (toD (zC 3)) zH))))) (zX (sIf (tst (fOp (zAm true) (zC 4) (zC 1))) (zBZ (zAT zH) (zC 1) (zC 4)) zBB) (zAa (fM zk (fOp zq (zC 1) (zC 4)) (zD (toD (zC 2)) zH)))) [some (mD zA),some (.ref jd),some (tI p),some (.int x),y4] M)
   fun o σ' M'=>o=.nx/\(∃ y,σ'=[some (mD zA),some (.ref jd),some (tI p),some (.int x),y])/\Sr zA M' jd lo (ps++[(p,x)])/\M.length<=M'.length /\ ∀ j,j<=lo->j≠jd->M'[j]?=M[j]?:=by
 obtain ⟨T,ed,hT,h1,h2,h3⟩:=sr.ex;refine zC2 (zAd (zt rfl (zt rfl (zc rfl))) (zKA m hR hp x0 x1)) ?_;generalize hg:setR zA p x=goal;show OkS (zX _ _ [some (mD zA),some (.ref jd),some (tI p),some (.int x),some (tI goal)] M) _;rw[zI,zAp];refine zE (M:=M) (a:=!(zG T goal).isSome) (zu (zK (x:=.dat (tI goal)) (y:=.dat (.ref jd)) rfl rfl (zID ed))) ?_
 have last:∀ (A:Mem) (T':List (List Int × D)) (j:Nat),A[jd]?=some (dT T')->zG T' goal=some (.ref j)->lo<j->A[j]?=some (.lst ((zDF zA ps goal).map tI))->T'.length<=ps.length+1->M.length<=A.length->(∀ j,j<=lo->j≠jd->A[j]?=M[j]?) ->
   (∀ g d,zG T' g=some d -> ∃ j,d=.ref j/\lo<j/\A[j]?=some (.lst ((zDF zA ps g).map tI)))->(∀ g,zG T' g=none->zDF zA ps g=[])->(∀ g g' j,zG T' g=some (.ref j)->zG T' g'=some (.ref j)->g=g') ->
   OkS (zAa (fM zk (fOp zq (zC 1) (zC 4)) (zD (toD (zC 2)) zH)) [some (mD zA),some (.ref jd),some (tI p),some (.int x),some (tI goal)] A)
    fun o σ' M'=>o=.nx/\(∃ y,σ'=[some (mD zA),some (.ref jd),some (tI p),some (.int x),y])/\Sr zA M' jd lo (ps++[(p,x)])/\M.length<=M'.length /\ ∀ j,j<=lo->j≠jd->M'[j]?=M[j]?:=by
  intro A T' j ea el hj ej hz hle hfr k1 k2 k3;rw[zAt];have hfl:(zDF zA ps goal).length<=ps.length:=by unfold zDF;rw[zWd];exact zYo _ _
  have jl:j<A.length:=(zWX.mp ej).1;refine zE1.mpr (zE (zK (x:=.dat (.ref jd)) (y:=.dat (tI goal)) rfl rfl (zHQ ea el)) ⟨⟨_,zAG ej⟩,zE (zc (d:=tI p) rfl) ?_⟩);rw[zBG ej (by rw[zWd];exact zWt (m:=95000) (by omega) (zW (by omega)))];refine ⟨rfl,⟨_,rfl⟩,⟨T',by rw[zWy (by omega)];exact ea,by simpa using hz,fun g d hd=>?_,fun g hd=>?_,k3⟩,by simpa using hle,fun i hi hn=>by rw[zWy (by omega)];exact hfr i hi hn⟩
  ·obtain ⟨j',rfl,hj',ej'⟩:=k1 g d hd;refine ⟨j',rfl,hj',?_⟩;rw[zHR,hg];by_cases hgg:goal=g
   ·subst hgg;rw[el]at hd;cases hd;rw[zXO jl,zWj rfl,zXM];rfl
   ·rw[zWm hgg,zXE];have:j≠j':=fun z=>hgg (k3 goal g j el (by rw[z];exact hd));rw[zWy this];exact ej'
  ·rw[zHR,hg,zWm (fun z=>by rw[<-z,el]at hd;cases hd),zXE];exact k2 g hd
 cases hl:zG T goal with
 |some d=>
  obtain ⟨j,rfl,hj,ej⟩:=h1 goal d hl;rw[zWm (by simp),zAc,zM];exact last M T j ed hl hj ej (by omega) (zWa _) (fun _ _ _=>rfl) h1 h2 h3
 |none=>
  rw[zWj (by simp)];have e0:=h2 goal hl;have jdl:jd<M.length:=(zWX.mp ed).1;have ed':(M++[MO.lst ([]:List D)])[jd]?=some (dT T):=by rw[zWb jdl];exact ed
  refine ⟨.nx,[some (mD zA),some (.ref jd),some (tI p),some (.int x),some (tI goal)],(M++[MO.lst ([]:List D)]).set jd (dT (zCI T goal (.ref M.length))),?_,?_⟩
  ·unfold zBZ;rw[show toD (zAT zH) [some (mD zA),some (.ref jd),some (tI p),some (.int x),some (tI goal)] M=some (.ref M.length,M++[.lst []]) by
    unfold toD zAT zH;dsimp only;rw[zWj (zW (by simp))]]
   dsimp only;rw[show toD (zC 1) [some (mD zA),some (.ref jd),some (tI p),some (.int x),some (tI goal)] (M++[.lst []])=some (.ref jd,M++[.lst []])from rfl];dsimp only;rw[show toD (zC 4) [some (mD zA),some (.ref jd),some (tI p),some (.int x),some (tI goal)] (M++[.lst []])=some (tI goal,M++[.lst []])from rfl];dsimp only;rw[zIc ed' (by omega)]
  rw[zM];have hput:=fun g=>zC4 T goal g (.ref M.length);refine last _ (zCI T goal (.ref M.length)) M.length (zXO (by simp;omega)) (by rw[hput,zWj rfl]) hlo2 ?_ (by have:=zHX T goal (.ref M.length);omega) (by simp) (fun i hi hn=>?_) (fun g d hd=>?_) (fun g hd=>?_) (fun g g' j hd hd'=>?_)
  ·rw[zWy (by omega),e0];simp
  ·rw[zWy (Ne.symm hn),zWb (by omega)]
  ·rw[hput]at hd;by_cases hgg:goal=g
   ·subst hgg;rw[zWj rfl]at hd;cases hd;exact ⟨M.length,rfl,hlo2,by rw[zWy (by omega),e0];simp⟩
   ·rw[zWm hgg]at hd;obtain ⟨j,rfl,hj,ej⟩:=h1 g d hd;exact ⟨j,rfl,hj,by rw[zWy (by omega),zWb (zWX.mp ej).1];exact ej⟩
  ·rw[hput]at hd;by_cases hgg:goal=g
   ·rw[zWj hgg]at hd;cases hd
   ·rw[zWm hgg]at hd;exact h2 g hd
  ·rw[hput]at hd hd';by_cases a:goal=g
   ·by_cases b:goal=g'
    ·rw[<-a,<-b]
    ·rw[zWj a]at hd;rw[zWm b]at hd';cases hd;obtain ⟨j,e,_,ej⟩:=h1 g' _ hd';cases e;exact absurd (zWX.mp ej).1 (zXC _)
   ·rw[zWm a]at hd;by_cases b:goal=g'
    ·rw[zWj b]at hd';cases hd';obtain ⟨j,e,_,ej⟩:=h1 g _ hd;cases e;exact absurd (zWX.mp ej).1 (zXC _)
    ·rw[zWm b]at hd';exact h3 g g' j hd hd'
def zF (zA:List (List Int)):List Int:=(List.range zA.length).map fun (k:Nat)=>(k:Int)
def zCi (l:Nat) (ps:List (List Int)):List (List Int × Int):=ps.flatMap fun p=>(List.range l).map fun (x:Nat)=>(p,(x:Int))
theorem zHp (l:Nat) (ps:List (List Int)):(zCi l ps).length=ps.length*l:=by
 unfold zCi;induction ps with
 |nil=>simp
 |cons p r ih=>rw[List.flatMap_cons,zWk,ih,zWd,zYR,zW1,Nat.add_mul];omega
theorem zBW (xs:List Int):(zO xs).length<=xs.length*xs.length:=by
 unfold zO;have:∀ (r:List Int),(r.flatMap fun a=>(xs.filter fun b=>decide (a<b)).map fun b=>[a,b]).length<=r.length*xs.length:=by
  intro r;induction r with
  |nil=>simp
  |cons a r ih=>
   rw[List.flatMap_cons,zWk,zWd,zW1,Nat.add_mul];have:=zYo (fun b=>decide (a<b)) xs;omega
 exact this xs
theorem zNM (h:p∈zO (zF zA)):IsS zA p:=by
 obtain ⟨a,b,rfl,ha,hb,hlt⟩:=zAX.mp h;obtain ⟨i,hi,rfl⟩:=zWl.mp ha;obtain ⟨j,hj,rfl⟩:=zWl.mp hb;have:=zW8.mp hi;have:=zW8.mp hj;refine ⟨by simp;omega,by simp,fun x hx=>?_⟩;simp only[zWg,zWz,zXp]at hx;omega
theorem zDT {M M1:Mem} (ha:a σ M=some (ds,M)) (hg:g ds M=some (.ref j,M1)) (hj:M1[j]?=some (.lst xs)):zn (zP g a) σ M=some (xs,zCz (.dat (.ref j)) xs,M1):=by
 have:zP g a σ M=some (.dat (.ref j),M1):=by unfold zP;rw[ha];dsimp only;rw[hg]
 unfold zn;rw[this];dsimp only;rw[zb hj]
theorem zRc {zA:List (List Int)} {l:Nat} (m:IsM zA l) (hR:zA.length<64) (hl:l<=12) {M:Mem}:Ok (zB4 [mD zA] M) fun d M'=>d=.ref M.length/\Sr zA M' M.length (M.length+1) (zCi l (zO (zF zA)))/\M.length+1<M'.length /\ ∀ j,j<M.length->M'[j]?=M[j]?:=by
 unfold zB4;rw[zy];unfold zD8;rw[zI,zT];refine zE (M:=M++[.dicT []]) (a:=.dat (.ref M.length)) rfl ?_;rw[zJ,zM,zI,zAe];have hrl:(zF zA).length=zA.length:=by unfold zF;simp
 have epr:=zFY (xs:=zF zA) (by omega) (M:=M++[.dicT []]);refine ⟨_,_,_,zDT (zc (d:=tI (zF zA)) (zAd (zc (d:=mD zA) rfl) (zED (by omega)))) epr (zR _ _),?_⟩;rw[show (M++[MO.dicT []]).length=M.length+1 by simp];generalize hP:zO (zF zA)=P;have hPl:P.length<=3969:=by
  rw[<-hP];have h1:=zBW (zF zA);rw[hrl]at h1;exact zWv h1 (zX6 (show zA.length<=63 by omega) (show zA.length<=63 by omega))
 have e1:(M++[MO.dicT []]++[MO.lst (P.map tI)])[M.length+1]?=some (.lst (P.map tI)):=by
  rw[zXa,zXe (by omega)];simp
 have e0:(M++[MO.dicT []]++[MO.lst (P.map tI)])[M.length]?=some (dT []):=by
  rw[zXa,zXe (by omega)];simp
 have ef:∀ j,j<M.length->(M++[MO.dicT []]++[MO.lst (P.map tI)])[j]?=M[j]?:=fun j hj=>by rw[zXa,zWb hj]
 have el:(M++[MO.dicT []]++[MO.lst (P.map tI)]).length=M.length+2:=by simp
 generalize M++[MO.dicT []]++[MO.lst (P.map tI)]=M1 at e1 e0 ef el;refine zAZ (I:=fun r σ M'=>(∃ y2 y3 y4,σ=[some (mD zA),some (.ref M.length),y2,y3,y4]) /\ ∃ us vs:List (List Int),P=us++vs/\r=vs.map tI/\Sr zA M' M.length (M.length+1) (zCi l us)/\M'[M.length+1]?=some (.lst (P.map tI))/\M.length+1<M'.length /\ ∀ j,j<M.length->M'[j]?=M[j]?) ?_ ?_ _ _ _ ⟨⟨_,_,_,rfl⟩,[],P,rfl,rfl,⟨[],e0,by simp,(fun g d h=>by cases h),(fun _ _=>rfl),(fun g g' j h=>by cases h)⟩,e1,by omega,ef⟩
 ·rintro x r σ M' ⟨⟨y2,y3,y4,rfl⟩,us,vs,hab,hr,sr,ep,hlen,hfr⟩;cases vs with
  |nil=>cases hr
  |cons p vs=>
   rw[zWn]at hr;obtain ⟨rfl,rfl⟩:=zXY hr;have hpm:p∈zO (zF zA):=by rw[hP,hab];simp
   have hul:us.length<3969:=by have:=zYH List.length hab;simp at this;omega
   refine ⟨.inl ep,_,rfl,?_⟩;rw[zAe];refine ⟨_,_,_,zBi (zNa m rfl) (by omega) (by omega),?_⟩;rw[show (l:Int).toNat=l by omega];refine zHP (n:=l) (I:=fun i σ M''=>(∃ y3 y4,σ=[some (mD zA),some (.ref M.length),some (tI p),y3,y4])/\Sr zA M'' M.length (M.length+1) (zCi l us++(List.range i).map fun (x:Nat)=>(p,(x:Int)))/\M''[M.length+1]?=some (.lst (P.map tI))/\M.length+1<M''.length /\ ∀ j,j<M.length->M''[j]?=M[j]?) ?_ ?_ _ _ ⟨⟨_,_,rfl⟩,by simpa using sr,ep,hlen,hfr⟩
   ·rintro i σ M2 hi ⟨⟨y3,y4,rfl⟩,sr2,ep2,hlen2,hfr2⟩;refine ⟨_,rfl,?_⟩;have hcount:(zCi l us++(List.range i).map fun (x:Nat)=>(p,(x:Int))).length<50000:=by
     rw[zWk,zHp,zWd,zYR];have:=zX6 (show us.length<=3968 by omega) hl;omega
    refine OkS.mono (zNn m hR hcount (zXR _) hlen2 sr2 (zNM hpm) (x:=(i:Int)) (by omega) (by omega)) ?_;rintro o σ' M3 ⟨rfl,⟨y,rfl⟩,sr3,hl3,hf3⟩;refine ⟨⟨_,_,rfl⟩,?_,by rw[hf3 _ (zWa _) (by omega)];exact ep2,by omega,fun j hj=>by rw[hf3 j (by omega) (by omega)];exact hfr2 j hj⟩;rw[List.range_succ,zXM,<-zXa];exact sr3
   ·rintro σ M2 ⟨⟨y3,y4,rfl⟩,sr2,ep2,hlen2,hfr2⟩;refine ⟨⟨_,_,_,rfl⟩,us++[p],vs,by rw[hab];simp,rfl,?_,ep2,hlen2,hfr2⟩;have:zCi l (us++[p])=zCi l us++(List.range l).map fun (x:Nat)=>(p,(x:Int)):=by
     unfold zCi;rw[List.flatMap_append];simp
    rw[this];exact sr2
 ·rintro σ M' ⟨⟨y2,y3,y4,rfl⟩,us,vs,hab,hr,sr,ep,hlen,hfr⟩;have:vs=[]:=by cases vs with|nil=>rfl|cons _ _=>cases hr
  subst this;rw[zXE]at hab;subst hab;refine ⟨.inl ep,?_⟩;rw[zM];exact zAP rfl ⟨rfl,sr,hlen,hfr⟩
noncomputable def zDQ:FS:=(zX (zo 2 (zP zB4 (zD (toD (zC 0)) zH)))
  (zX (zo 3 (zC 1))
  (zX (zo 4 (zCx true [5] (zn (zC 1)) (gN 5) zr (zC 5) (fC (.int 0))))
  (zX (zBV (zNs (zC 3)) (zX (zo 6 (zAT zH))
  (zX (zBo (zn (zC 3)) (gN 5) (zBo (zn (zA6 (zC 2) (zC 5) (zAT zH))) (gN 7) (sIf (tst (fOp (zAm true) (zC 7) (zC 4))) (zX (zBZ (fOp zAE (fOp zq (zC 4) (zC 5)) (fC (.int 1))) (zC 4) (zC 7))
  (zAa (fM zk (zC 6) (zD (toD (zC 7)) zH)))) zBB)))
  (zo 3 (zC 6)))) 1000)
  (zAW (zC 4))))))
noncomputable def zBJ:FF:=zBN 8 zDQ
abbrev Fd:=List (List Int × D) × List (List Int)
def zA9 (k:Int) (st:Fd) (p:List Int):Fd:=if (zG st.1 p).isSome then st else (zCI st.1 p (.int k),st.2++[p])
structure Lv (M0 M:Mem) (jf jb:Nat) (st:Fd):Prop where
 f:M[jf]?=some (dT st.1)
 b:M[jb]?=some (.lst (st.2.map tI))
 len:M0.length<=M.length
 fr:∀ j,j<M0.length->j≠jf->j≠jb->M[j]?=M0[j]?
theorem zQ9 (k:Int) (st:Fd) (p:List Int):(zA9 k st p).1.length<=st.1.length+1/\(zA9 k st p).2.length<=st.2.length+1:=by
 unfold zA9;split
 ·exact ⟨by omega,by omega⟩
 ·exact ⟨zHX _ _ _,by simp⟩
theorem zSK {M0:Mem} {jf jb js jd jl:Nat} {zA:List (List Int)} {x1 x3 y7:Option D} {goal:List Int} {k:Int} {ps:List (List Int)} (hne:jf≠jb) (h1:jf<M0.length) (h2:jb<M0.length) :
  ∀ (M:Mem) (st:Fd),Lv M0 M jf jb st->M[js]?=some (.lst (ps.map tI))->js≠jf->js≠jb->zG st.1 goal=some (.int k)->st.1.length+ps.length<=80000->st.2.length+ps.length<=80000 ->
  OkS (zCf (gN 7) (sIf (tst (fOp (zAm true) (zC 7) (zC 4))) (zX (zBZ (fOp zAE (fOp zq (zC 4) (zC 5)) (fC (.int 1))) (zC 4) (zC 7)) (zAa (fM zk (zC 6) (zD (toD (zC 7)) zH)))) zBB) (ps.map tI) (zCz (.dat (.ref js)) (ps.map tI)) (ps.map tI) [some (mD zA),x1,some (.ref jd),x3,some (.ref jf),some (tI goal),some (.ref jb),y7] M)
   fun o σ' M'=>o=.nx/\(∃ y,σ'=[some (mD zA),x1,some (.ref jd),x3,some (.ref jf),some (tI goal),some (.ref jb),y])/\Lv M0 M' jf jb (ps.foldl (zA9 (k+1)) st)/\M'.length=M.length /\ ∀ j,j≠jf->j≠jb->M'[j]?=M[j]?:=by
 intro M st lv ejs n1 n2 hgl z1 z2;refine zAZ (I:=fun r σ M'=>(∃ y,σ=[some (mD zA),x1,some (.ref jd),x3,some (.ref jf),some (tI goal),some (.ref jb),y]) /\ ∃ us vs:List (List Int),ps=us++vs/\r=vs.map tI/\Lv M0 M' jf jb (us.foldl (zA9 (k+1)) st)/\zG (us.foldl (zA9 (k+1)) st).1 goal=some (.int k)/\(us.foldl (zA9 (k+1)) st).1.length<=st.1.length+us.length/\(us.foldl (zA9 (k+1)) st).2.length<=st.2.length+us.length/\M'.length=M.length /\ ∀ j,j≠jf->j≠jb->M'[j]?=M[j]?) ?_ ?_ _ _ _ ⟨⟨_,rfl⟩,[],ps,rfl,rfl,lv,hgl,by simp,by simp,rfl,fun _ _ _=>rfl⟩
 ·rintro x r σ M' ⟨⟨y,rfl⟩,us,vs,hab,hr,lv',hg',l1,l2,hl,hfr⟩;cases vs with
  |nil=>cases hr
  |cons p vs=>
   rw[zWn]at hr;obtain ⟨rfl,rfl⟩:=zXY hr;have hul:us.length<ps.length:=by rw[hab];simp
   refine ⟨.inl (by rw[hfr js n1 n2];exact ejs),_,rfl,?_⟩;have hfold:(us++[p]).foldl (zA9 (k+1)) st=zA9 (k+1) (us.foldl (zA9 (k+1)) st) p:=by rw[List.foldl_append];rfl
   generalize us.foldl (zA9 (k+1)) st=st' at lv' hg' l1 l2 hfold;have al:=zQ9 (k+1) st' p;rw[zAp];refine zE (M:=M') (a:=!(zG st'.1 p).isSome) (zu (zK (x:=.dat (tI p)) (y:=.dat (.ref jf)) rfl rfl (zID lv'.f))) ?_;cases hlk:zG st'.1 p with
   |some d=>
    have ea:zA9 (k+1) st' p=st':=by unfold zA9;rw[hlk];rfl
    rw[zWm (by simp),zAc];refine ⟨⟨_,rfl⟩,us++[p],vs,by rw[hab];simp,rfl,?_⟩;rw[hfold,ea];exact ⟨lv',hg',by simp;omega,by simp;omega,hl,hfr⟩
   |none=>
    have ea:zA9 (k+1) st' p=(zCI st'.1 p (.int (k+1)),st'.2++[p]):=by unfold zA9;rw[hlk];rfl
    have hgp:p≠goal:=fun z=>by rw[z,hg']at hlk;cases hlk
    rw[zWj (by simp),zI];have ev:fOp zAE (fOp zq (zC 4) (zC 5)) (fC (.int 1)) [some (mD zA),x1,some (.ref jd),x3,some (.ref jf),some (tI goal),some (.ref jb),some (tI p)] M'=some (.dat (.int (k+1)),M'):=zK (x:=.dat (.int k)) (zK (x:=.dat (.ref jf)) (y:=.dat (tI goal)) rfl rfl (zHQ lv'.f hg')) rfl rfl;have hd:OkS (zBZ (fOp zAE (fOp zq (zC 4) (zC 5)) (fC (.int 1))) (zC 4) (zC 7) [some (mD zA),x1,some (.ref jd),x3,some (.ref jf),some (tI goal),some (.ref jb),some (tI p)] M') fun o σ' M2=>o=.nx/\σ'=[some (mD zA),x1,some (.ref jd),x3,some (.ref jf),some (tI goal),some (.ref jb),some (tI p)]/\M2=M'.set jf (dT (zCI st'.1 p (.int (k+1)))):=by
     refine ⟨.nx,_,_,?_,rfl,rfl,rfl⟩;unfold zBZ;rw[show toD (fOp zAE (fOp zq (zC 4) (zC 5)) (fC (.int 1))) [some (mD zA),x1,some (.ref jd),x3,some (.ref jf),some (tI goal),some (.ref jb),some (tI p)] M'=some (.int (k+1),M') by unfold toD;rw[ev]];dsimp only;rw[show toD (zC 4) [some (mD zA),x1,some (.ref jd),x3,some (.ref jf),some (tI goal),some (.ref jb),some (tI p)] M'=some (.ref jf,M')from rfl];dsimp only;rw[show toD (zC 7) [some (mD zA),x1,some (.ref jd),x3,some (.ref jf),some (tI goal),some (.ref jb),some (tI p)] M'=some (tI p,M')from rfl];dsimp only;rw[zIc lv'.f (by omega)]
    refine OkS.mono hd ?_;rintro o σ' M2 ⟨rfl,rfl,rfl⟩;rw[zM,zAt];have eb:(M'.set jf (dT (zCI st'.1 p (.int (k+1)))))[jb]?=some (.lst (st'.2.map tI)):=by rw[zWy hne];exact lv'.b
    refine zE1.mpr (zAU.mpr ⟨_,rfl,⟨_,zAG eb⟩,zE (zc (d:=tI p) rfl) ?_⟩);rw[zBG eb (by rw[zWd];exact zWt (m:=95000) (by omega) (zW (by omega)))];have jfl:jf<M'.length:=zWt h1 lv'.len;have jbl:jb<M'.length:=zWt h2 lv'.len;refine ⟨⟨_,rfl⟩,us++[p],vs,by rw[hab];simp,rfl,?_⟩;rw[hfold];refine ⟨?_,?_,by simp;omega,by simp;omega,by simp[hl],fun j q1 q2=>by rw[zWy (Ne.symm q2),zWy (Ne.symm q1)];exact hfr j q1 q2⟩
    ·rw[ea];refine ⟨by rw[zWy (Ne.symm hne),zXO jfl],by rw[zXO (by simpa using jbl),zXM];rfl,by simpa using lv'.len,fun j q0 q1 q2=>by rw[zWy (Ne.symm q2),zWy (Ne.symm q1)];exact lv'.fr j q0 q1 q2⟩
    ·rw[ea];rw[zC4,zWm hgp];exact hg'
 ·rintro σ M' ⟨⟨y,rfl⟩,us,vs,hab,hr,lv',hg',l1,l2,hl,hfr⟩;have:vs=[]:=by cases vs with|nil=>rfl|cons _ _=>cases hr
  subst this;rw[zXE]at hab;subst hab;exact ⟨.inl (by rw[hfr js n1 n2];exact ejs),rfl,⟨_,rfl⟩,lv',hl,hfr⟩
theorem zU3 {f g:FE} {σ:Sd} {M:Mem} {n:Nat} {T:List (List Int × D)} {k:List Int} (hf:f σ M=some (.dat (.ref n),M)) (hn:M[n]?=some (dT T)) (hg:g σ M=some (.dat (tI k),M)):zA6 f g (zAT zH) σ M=some (.dat ((zG T k).getD (.ref M.length)),M++[.lst []]):=by
 have nl:n<M.length:=(zWX.mp hn).1;unfold zA6;rw[show toD f σ M=some (.ref n,M) by unfold toD;rw[hf]];dsimp only;rw[hn];rw[show toD g σ M=some (tI k,M) by unfold toD;rw[hg]];dsimp only;rw[show toD (zAT zH) σ M=some (.ref M.length,M++[.lst []]) by
  unfold toD zAT zH;dsimp only;rw[zWj (zW (by simp))]]
 dsimp only;rw[dgT (g:=k) (show (M++[MO.lst ([]:List D)])[n]?=some (dT T) by rw[zWb nl];exact hn)]
def zBw (src:List Int->List (List Int)) (k:Int) (gs:List (List Int)) (st:Fd):Fd:=gs.foldl (fun st g=>(src g).foldl (zA9 (k+1)) st) st
theorem zNl {k:Int} {st:Fd} {p g:List Int} {d:D} (h:zG st.1 g=some d):zG (zA9 k st p).1 g=some d:=by
 unfold zA9;split
 ·exact h
 ·rename_i q;rw[zC4,zWm (fun z=>q (by rw[z,h];rfl))];exact h
theorem zHV {k:Int} {g:List Int} {d:D}:∀ (ps:List (List Int)) {st:Fd},zG st.1 g=some d->zG (ps.foldl (zA9 k) st).1 g=some d
 |[],_,h=>h
 |p::r,_,h=>zHV r (zNl h)
def zVj (M:Mem) (Ts:List (List Int × D)) (jf jb:Nat) (src:List Int->List (List Int)):Prop:=∀ g,(∃ j,zG Ts g=some (.ref j)/\j≠jf/\j≠jb/\M[j]?=some (.lst ((src g).map tI)))\/(zG Ts g=none/\src g=[])
theorem zRz {M0:Mem} {jf jb jd jl:Nat} {zA:List (List Int)} {x1 y5 y7:Option D} {k:Int} {gs:List (List Int)} {src:List Int->List (List Int)} {Ts:List (List Int × D)} (hne:jf≠jb) (h1:jf<M0.length) (h2:jb<M0.length) (hd:M0[jd]?=some (dT Ts)) (d1:jd≠jf) (d2:jd≠jb) (hl:M0[jl]?=some (.lst (gs.map tI))) (l1:jl≠jf) (l2:jl≠jb) (hs:zVj M0 Ts jf jb src) (B:Nat) (hB:∀ g∈gs,(src g).length<=B)
  {st:Fd} (hg:∀ g∈gs,zG st.1 g=some (.int k)) (Z:Nat) (hZB:Z+B<=80000) (hZ:∀ us vs,gs=us++vs->(zBw src k us st).1.length<=Z/\(zBw src k us st).2.length<=Z) (lv:Lv M0 M0 jf jb st) :
  OkS (zCf (gN 5) (zBo (zn (zA6 (zC 2) (zC 5) (zAT zH))) (gN 7) (sIf (tst (fOp (zAm true) (zC 7) (zC 4))) (zX (zBZ (fOp zAE (fOp zq (zC 4) (zC 5)) (fC (.int 1))) (zC 4) (zC 7)) (zAa (fM zk (zC 6) (zD (toD (zC 7)) zH)))) zBB)) (gs.map tI) (zCz (.dat (.ref jl)) (gs.map tI)) (gs.map tI) [some (mD zA),x1,some (.ref jd),some (.ref jl),some (.ref jf),y5,some (.ref jb),y7] M0)
   fun o σ' M'=>o=.nx/\(∃ y5 y7,σ'=[some (mD zA),x1,some (.ref jd),some (.ref jl),some (.ref jf),y5,some (.ref jb),y7])/\Lv M0 M' jf jb (zBw src k gs st):=by
 refine zAZ (I:=fun r σ M'=>(∃ y5 y7,σ=[some (mD zA),x1,some (.ref jd),some (.ref jl),some (.ref jf),y5,some (.ref jb),y7]) /\ ∃ us vs:List (List Int),gs=us++vs/\r=vs.map tI/\Lv M0 M' jf jb (zBw src k us st)/\(∀ g∈gs,zG (zBw src k us st).1 g=some (.int k))) ?_ ?_ _ _ _ ⟨⟨_,_,rfl⟩,[],gs,rfl,rfl,lv,hg⟩
 ·rintro x r σ M' ⟨⟨y5,y7,rfl⟩,us,vs,hab,hr,lv',hg'⟩;cases vs with
  |nil=>cases hr
  |cons g vs=>
   rw[zWn]at hr;obtain ⟨rfl,rfl⟩:=zXY hr;have hgm:g∈gs:=by rw[hab];simp
   have hsb:=hB g hgm;obtain ⟨b1,b2⟩:=hZ us (g::vs) hab;have keep:∀ {j:Nat} {u:MO},M0[j]?=some u->j≠jf->j≠jb->M'[j]?=some u:=fun {j u} e q1 q2=>(lv'.fr j (zWX.mp e).1 q1 q2).trans e;refine ⟨.inl (keep hl l1 l2),_,rfl,?_⟩;have hfold:zBw src k (us++[g]) st=(src g).foldl (zA9 (k+1)) (zBw src k us st):=by unfold zBw;rw[List.foldl_append];rfl
   generalize zBw src k us st=st' at lv' hg' b1 b2 hfold;have e2:=zU3 (f:=zC 2) (g:=zC 5) (σ:=[some (mD zA),x1,some (.ref jd),some (.ref jl),some (.ref jf),some (tI g),some (.ref jb),y7]) (M:=M') (k:=g) rfl (keep hd d1 d2) rfl;have lvA:Lv M0 (M'++[.lst []]) jf jb st':=by
    have f1:=(zWX.mp lv'.f).1;have f2:=(zWX.mp lv'.b).1;have f3:=lv'.len;exact ⟨by rw[zWb f1];exact lv'.f,by rw[zWb f2];exact lv'.b,by simp;omega,fun j q0 q1 q2=>by rw[zWb (by omega)];exact lv'.fr j q0 q1 q2⟩
   obtain ⟨js,ejs,n1,n2,el⟩:∃ js,(zG Ts g).getD (.ref M'.length)=.ref js/\js≠jf/\js≠jb/\(M'++[MO.lst ([]:List D)])[js]?=some (.lst ((src g).map tI)):=by
    rcases hs g with ⟨j,e,q1,q2,q3⟩|⟨e,q⟩
    ·have:=keep q3 q1 q2;exact ⟨j,by rw[e];rfl,q1,q2,by rw[zWb (zWX.mp this).1];exact this⟩
    ·have:=lv'.len;exact ⟨M'.length,by rw[e];rfl,by omega,by omega,by rw[q];simp⟩
   rw[ejs]at e2;rw[zAe];refine ⟨_,_,_,(show zn (zA6 (zC 2) (zC 5) (zAT zH)) [some (mD zA),x1,some (.ref jd),some (.ref jl),some (.ref jf),some (tI g),some (.ref jb),y7] M'=some ((src g).map tI,zCz (.dat (.ref js)) ((src g).map tI),M'++[.lst []]) by unfold zn;rw[e2];dsimp only;rw[zb el]),?_⟩;refine OkS.mono (zSK (jl:=jl) (k:=k) hne h1 h2 _ st' lvA el n1 n2 (hg' g hgm) (by omega) (by omega)) ?_;rintro o σ' M2 ⟨rfl,⟨y,rfl⟩,lv2,_,_⟩;refine ⟨⟨_,_,rfl⟩,us++[g],vs,by rw[hab];simp,rfl,?_⟩;rw[hfold];exact ⟨lv2,fun g' hg''=>zHV _ (hg' g' hg'')⟩
 ·rintro σ M' ⟨⟨y5,y7,rfl⟩,us,vs,hab,hr,lv',hg'⟩;have:vs=[]:=by cases vs with|nil=>rfl|cons _ _=>cases hr
  subst this;rw[zXE]at hab;subst hab;have keep:∀ {j:Nat} {u:MO},M0[j]?=some u->j≠jf->j≠jb->M'[j]?=some u:=fun {j u} e q1 q2=>(lv'.fr j (zWX.mp e).1 q1 q2).trans e;exact ⟨.inl (keep hl l1 l2),rfl,⟨_,_,rfl⟩,lv'⟩
theorem zOY (k:Int) (st:Fd) (p t:List Int):zG (zA9 k st p).1 t=(if (zG st.1 t).isSome then zG st.1 t else if t=p then some (.int k) else none)/\(t∈(zA9 k st p).2 ↔ t∈st.2\/(zG st.1 t=none/\t=p)):=by
 unfold zA9;by_cases h:(zG st.1 p).isSome=true
 ·rw[zWj h];constructor
  ·by_cases ht:(zG st.1 t).isSome=true
   ·rw[zWj ht]
   ·rw[zWm ht,zWm (fun z=>ht (by rw[z];exact h))];cases e:zG st.1 t with
    |none=>rfl
    |some d=>rw[e]at ht;simp at ht
  ·constructor
   ·exact .inl
   ·rintro (q|⟨q,rfl⟩)
    ·exact q
    ·rw[q]at h;cases h
 ·rw[zWm h];have hn:zG st.1 p=none:=by
   cases e:zG st.1 p with
   |none=>rfl
   |some d=>rw[e]at h;simp at h
  constructor
  ·rw[zC4];by_cases ht:p=t
   ·subst ht;rw[zWj rfl,zWm h,zWj rfl]
   ·rw[zWm ht];by_cases hs:(zG st.1 t).isSome=true
    ·rw[zWj hs]
    ·rw[zWm hs,zWm (fun z=>ht z.symm)];cases e:zG st.1 t with
     |none=>rfl
     |some d=>rw[e]at hs;simp at hs
  ·rw[zWu,zWw];constructor
   ·rintro (q|rfl)
    ·exact .inl q
    ·exact .inr ⟨hn,rfl⟩
   ·rintro (q|⟨_,q⟩)
    ·exact .inl q
    ·exact .inr q
theorem zHI (k:Int):∀ (ps:List (List Int)) (st:Fd) (t:List Int),zG (ps.foldl (zA9 k) st).1 t=(if (zG st.1 t).isSome then zG st.1 t else if t∈ps then some (.int k) else none)/\(t∈(ps.foldl (zA9 k) st).2 ↔ t∈st.2\/(zG st.1 t=none/\t∈ps))
 |[],st,t=>by
  constructor
  ·by_cases h:(zG st.1 t).isSome=true
   ·rw[zWj h];rfl
   ·rw[zWm h,zWm (by simp)];cases e:zG st.1 t with
    |none=>exact e
    |some d=>rw[e]at h;simp at h
  ·simp
 |p::r,st,t=>by
  obtain ⟨a1,a2⟩:=zOY k st p t;obtain ⟨b1,b2⟩:=zHI k r (zA9 k st p) t;rw[List.foldl_cons,b1,b2,a2,a1];by_cases h:(zG st.1 t).isSome=true
  ·rw[zWj h,zWj h,zWj h];refine ⟨rfl,?_⟩;have hn:¬ zG st.1 t=none:=fun z=>by rw[z]at h;cases h
   simp[hn]
  ·have hn:zG st.1 t=none:=by
    cases e:zG st.1 t with
    |none=>rfl
    |some d=>rw[e]at h;simp at h
   rw[zWm h,zWm h];by_cases hp:t=p
   ·rw[zWj hp];refine ⟨?_,?_⟩
    ·rw[zWj (show (some (D.int k)).isSome=true from rfl),zWj (by rw[hp];exact zWi)]
    ·simp[hn,hp]
   ·rw[zWm hp];refine ⟨?_,?_⟩
    ·rw[zWm (by simp)];by_cases hr:t∈r
     ·rw[zWj hr,zWj (zWh _ hr)]
     ·rw[zWm hr,zWm (by simp[hp,hr])]
    ·simp[hn,hp]
theorem zIp (src:List Int->List (List Int)) (k:Int) (gs:List (List Int)) (st:Fd) (t:List Int):zG (zBw src k gs st).1 t=(if (zG st.1 t).isSome then zG st.1 t else if t∈gs.flatMap src then some (.int (k+1)) else none)/\(t∈(zBw src k gs st).2 ↔ t∈st.2\/(zG st.1 t=none/\t∈gs.flatMap src)):=by
 have:∀ (gs:List (List Int)) (st:Fd),zBw src k gs st=(gs.flatMap src).foldl (zA9 (k+1)) st:=by
  intro gs;induction gs with
  |nil=>intro st;rfl
  |cons g r ih=>
   intro st;show zBw src k r ((src g).foldl (zA9 (k+1)) st)=_;rw[ih,List.flatMap_cons,List.foldl_append]
 rw[this gs st];exact zHI (k+1) (gs.flatMap src) st t
def Rch (zA:List (List Int)) (l:Nat) (G:List Int->Prop) (t:List Int) (n:Nat):Prop:=∃ w:List Int,w.length=n/\(∀ x∈w,0<=x/\x<(l:Int))/\G (zUm zA t w)
def Dst (zA:List (List Int)) (l:Nat) (G:List Int->Prop) (t:List Int) (n:Nat):Prop:=Rch zA l G t n /\ ∀ m,m<n -> ¬ Rch zA l G t m
theorem zC9:Rch zA l G t (n+1) ↔ ∃ x:Int,(0<=x/\x<(l:Int))/\Rch zA l G (setR zA t x) n:=by
 constructor
 ·rintro ⟨w,hw,hb,hl⟩;cases w with
  |nil=>cases hw
  |cons x w=>exact ⟨x,hb x zWi,w,by simpa using hw,fun y hy=>hb y (zWh _ hy),hl⟩
 ·rintro ⟨x,hx,w,hw,hb,hl⟩;exact ⟨x::w,by simp[hw],fun y hy=>by rcases zWg.mp hy with rfl|q;exact hx;exact hb y q,hl⟩
theorem zEA:Rch zA l G t 0 ↔ G t:=by
 constructor
 ·rintro ⟨w,hw,_,hl⟩;have:w=[]:=List.length_eq_zero_iff.mp hw;subst this;exact hl
 ·intro h;exact ⟨[],rfl,(fun _ h=>by cases h),h⟩
theorem zBj:Dst zA l G t 0 ↔ G t:=by
 unfold Dst;rw[zEA];exact ⟨fun h=>h.1,fun h=>⟨h,fun m hm=>by omega⟩⟩
theorem zDD:Dst zA l G t (n+1) ↔ (∀ m,m<=n -> ¬ Rch zA l G t m) /\ ∃ x:Int,(0<=x/\x<(l:Int))/\Dst zA l G (setR zA t x) n:=by
 constructor
 ·rintro ⟨h1,h2⟩;obtain ⟨x,hx,hr⟩:=zC9.mp h1;exact ⟨fun m hm=>h2 m (by omega),x,hx,hr,fun m hm hq=>h2 (m+1) (by omega) (zC9.mpr ⟨x,hx,hq⟩)⟩
 ·rintro ⟨h1,x,hx,hr,_⟩;exact ⟨zC9.mpr ⟨x,hx,hr⟩,fun m hm=>h1 m (by omega)⟩
theorem zEy:∀ n,Rch zA l G t n -> ∃ m,m<=n/\Dst zA l G t m:=by
 intro n;induction n using Nat.strongRecOn with
 |ind n ih=>
  intro h;by_cases q:∃ m,m<n/\Rch zA l G t m
  ·obtain ⟨m,hm,hr⟩:=q;obtain ⟨m',h1,h2⟩:=ih m hm hr;exact ⟨m',by omega,h2⟩
  ·exact ⟨n,zWa _,h,fun m hm hr=>q ⟨m,hm,hr⟩⟩
theorem zAy (h1:Dst zA l G t a) (h2:Dst zA l G t b):a=b:=by
 rcases Nat.lt_trichotomy a b with q|q|q
 ·exact absurd h1.1 (h2.2 a q)
 ·exact q
 ·exact absurd h2.1 (h1.2 b q)
def zGn (zA:List (List Int)) (l:Nat) (G:List Int->Prop) (U:List Int->Prop) (k:Nat) (fd:List (List Int × D)) (lev:List (List Int)):Prop:=(∀ t d,zG fd t=some d ↔ U t /\ ∃ n:Nat,n<=k/\Dst zA l G t n/\d=.int (n:Int)) /\ ∀ t,t∈lev ↔ U t/\Dst zA l G t k
theorem zFm (h:zGn zA l G U k fd lev) (u:U t):zG fd t=none ↔ ∀ m,m<=k -> ¬ Rch zA l G t m:=by
 constructor
 ·intro e m hm hr;obtain ⟨n,hn,hd⟩:=zEy m hr;rw[(h.1 t (.int (n:Int))).mpr ⟨u,n,by omega,hd,rfl⟩]at e;cases e
 ·intro q;cases e:zG fd t with
  |none=>rfl
  |some d=>
   obtain ⟨_,n,hn,hd,_⟩:=(h.1 t d).mp e;exact absurd hd.1 (q n hn)
theorem zN8 {zA:List (List Int)} {l:Nat} {U P:List Int->Prop} {src:List Int->List (List Int)} (hs:∀ g t,t∈src g ↔ P t /\ ∃ x:Int,(0<=x/\x<(l:Int))/\setR zA t x=g) (hP:∀ t,P t->U t) (hU:∀ t n,U t -> ¬ G t->Rch zA l G t n->P t) (hc:∀ t (x:Int),U t->0<=x/\x<(l:Int)->U (setR zA t x))
  {k:Nat} {fd:List (List Int × D)} {lev:List (List Int)} (h:zGn zA l G U k fd lev):zGn zA l G U (k+1) (zBw src (k:Int) lev (fd,[])).1 (zBw src (k:Int) lev (fd,[])).2:=by
 have key:∀ t,(zG fd t=none/\t∈lev.flatMap src) ↔ U t/\Dst zA l G t (k+1):=by
  intro t;constructor
  ·rintro ⟨e,hm⟩;obtain ⟨g,hg,ht⟩:=List.mem_flatMap.mp hm;obtain ⟨p,x,hx,hq⟩:=(hs g t).mp ht;have u:=hP t p;refine ⟨u,zDD.mpr ⟨(zFm h u).mp e,x,hx,?_⟩⟩;rw[hq];exact ((h.2 g).mp hg).2
  ·rintro ⟨u,hd⟩;obtain ⟨q,x,hx,hr⟩:=zDD.mp hd;refine ⟨(zFm h u).mpr q,List.mem_flatMap.mpr ⟨setR zA t x,(h.2 _).mpr ⟨hc t x u hx,hr⟩,(hs _ t).mpr ⟨hU t _ u ?_ hd.1,x,hx,rfl⟩⟩⟩;intro h1;exact q 0 (zXG _) (zEA.mpr h1)
 constructor
 ·intro t d;rw[(zIp src (k:Int) lev (fd,[]) t).1];cases e:zG fd t with
  |some d'=>
   rw[zWj (show (some d').isSome=true from rfl)];obtain ⟨u,n,hn,hd,rfl⟩:=(h.1 t d').mp e;constructor
   ·intro z;cases z;exact ⟨u,n,by omega,hd,rfl⟩
   ·rintro ⟨_,m,_,hm,rfl⟩;rw[zAy hm hd]
  |none=>
   rw[zWm (by simp)];by_cases hm:t∈lev.flatMap src
   ·rw[zWj hm];obtain ⟨u,hd⟩:=(key t).mp ⟨e,hm⟩;constructor
    ·intro z;cases z;exact ⟨u,k+1,zWa _,hd,by simp⟩
    ·rintro ⟨_,m,_,hm',rfl⟩;rw[zAy hm' hd];simp
   ·rw[zWm hm];constructor
    ·intro z;cases z
    ·rintro ⟨u,m,hk,hd,rfl⟩;exfalso;by_cases hmk:m<=k
     ·exact (zFm h u).mp e m hmk hd.1
     ·have:m=k+1:=by omega
      subst this;exact hm ((key t).mpr ⟨u,hd⟩).2
 ·intro t;rw[(zIp src (k:Int) lev (fd,[]) t).2];rw[key t];simp
theorem zPa {zA:List (List Int)} {l:Nat} {G:List Int->Prop} {U:List Int->Prop} (hc:∀ t (x:Int),U t->0<=x/\x<(l:Int)->U (setR zA t x)) {k:Nat} {fd:List (List Int × D)} (h:zGn zA l G U k fd []) (t:List Int) (d:D):zG fd t=some d ↔ U t /\ ∃ n:Nat,Dst zA l G t n/\d=.int (n:Int):=by
 have far:∀ n t,U t -> ¬ Dst zA l G t (k+n):=by
  intro n;induction n with
  |zero=>intro t u hd;exact absurd ((h.2 t).mpr ⟨u,hd⟩) (by simp)
  |succ n ih=>
   intro t u hd;obtain ⟨_,x,hx,hr⟩:=zDD.mp (show Dst zA l G t ((k+n)+1)from hd);exact ih _ (hc t x u hx) hr
 rw[h.1 t d];constructor
 ·rintro ⟨u,n,_,a,b⟩;exact ⟨u,n,a,b⟩
 ·rintro ⟨u,n,a,b⟩;refine ⟨u,n,?_,a,b⟩;by_cases q:n<=k
  ·exact q
  ·exfalso;have e:n=k+(n-k):=by omega
   rw[e]at a;exact far _ t u a
def Th (zA:List (List Int)) (t:List Int):Prop:=IsS zA t/\t.length<=2
def zDp (zA:List (List Int)) (l:Nat) (g:List Int):List (List Int):=zDF zA (zCi l (zO (zF zA))) g
theorem zSV (g t:List Int):t∈zDp zA l g ↔ t∈zO (zF zA) /\ ∃ x:Int,(0<=x/\x<(l:Int))/\setR zA t x=g:=by
 unfold zDp zDF zCi;simp only[zWl,zXf,List.mem_flatMap,zW8,zXh];constructor
 ·rintro ⟨q,⟨⟨p,hp,k,hk,rfl⟩,hq⟩,rfl⟩;exact ⟨hp,(k:Int),⟨by omega,by omega⟩,hq⟩
 ·rintro ⟨hp,x,⟨x0,x1⟩,hq⟩;refine ⟨(t,x),⟨⟨t,hp,x.toNat,by omega,?_⟩,hq⟩,rfl⟩;rw[show ((x.toNat:Nat):Int)=x by omega]
theorem zC8:x∈zF zA ↔ 0<=x/\x<(zA.length:Int):=by
 unfold zF;simp only[zWl,zW8];constructor
 ·rintro ⟨k,hk,rfl⟩;omega
 ·rintro ⟨h0,h1⟩;exact ⟨x.toNat,by omega,by omega⟩
theorem zCn (t:List Int) (h:t∈zO (zF zA)):Th zA t:=by
 refine ⟨zNM h,?_⟩;obtain ⟨a,b,rfl,_⟩:=zAX.mp h;exact zWa _
theorem zM0 (t:List Int) (h:Th zA t) (h1:t.length≠1):t∈zO (zF zA):=by
 obtain ⟨⟨pw,n0,hm⟩,h2⟩:=h;match t,pw,n0,hm,h1,h2 with
 |[a,b],pw,_,hm,_,_=>
  exact zAX.mpr ⟨a,b,rfl,zC8.mpr (hm a (by simp)),zC8.mpr (hm b (by simp)),by simpa using pw⟩
 |[a],_,_,_,h1,_=>exact absurd rfl h1
 |[],_,n0,_,_,_=>cases n0
 |_::_::_::_,_,_,_,_,h2=>simp at h2
theorem zDK (m:IsM zA l) (t:List Int) (x:Int) (h:Th zA t) (hx:0<=x/\x<(l:Int)):Th zA (setR zA t x):=by
 refine ⟨m.setR h.1 hx.1 hx.2,?_⟩;have:=zNP (t.map fun h=>zx zA h x);rw[zWd]at this;exact zWv this h.2
def zC0 (zA:List (List Int)) (G:List Int->Prop):Prop:=(∀ t,Th zA t->t.length=1->G t) \/ ∀ t,t.length=1 -> ¬ G t
theorem zF1 (m:IsM zA l):∀ (w t:List Int),Th zA t->t.length=1->(∀ x∈w,0<=x/\x<(l:Int))->(zUm zA t w).length=1
 |[],_,_,h,_=>h
 |x::w,t,u,h,hw=>by
  have hx:=hw x zWi;have u':=zDK m t x u hx;refine zF1 m w (setR zA t x) u' ?_ fun y hy=>hw y (zWh _ hy);have h1:=zNP (t.map fun h=>zx zA h x);rw[zWd,h]at h1;have h2:=u'.1.n0;have h3:(setR zA t x).length<=1:=h1;omega
theorem zFo (m:IsM zA l) (o:zC0 zA G) (t:List Int) (n:Nat) (u:Th zA t) (g:¬ G t) (r:Rch zA l G t n):t∈zO (zF zA):=by
 refine zM0 t u fun h1=>?_;rcases o with o|o
 ·exact g (o t u h1)
 ·obtain ⟨w,_,hw,hg⟩:=r;exact o _ (zF1 m w t u h1 hw) hg
theorem zK8 (m:IsM zA l) (o:zC0 zA G) (h:zGn zA l G (Th zA) k fd lev):zGn zA l G (Th zA) (k+1) (zBw (zDp zA l) (k:Int) lev (fd,[])).1 (zBw (zDp zA l) (k:Int) lev (fd,[])).2 :=
 zN8 (P:=fun t=>t∈zO (zF zA)) zSV zCn (zFo m o) (zDK m) h
theorem zN0 (hts:∀ t,t∈ts ↔ Th zA t/\G t) (h:∀ t d,zG fd t=some d ↔ t∈ts/\d=.int 0):zGn zA l G (Th zA) 0 fd ts:=by
 have key:∀ t,t∈ts ↔ Th zA t/\Dst zA l G t 0:=fun t=>by rw[zBj,hts]
 refine ⟨fun t d=>?_,key⟩;rw[h t d,key t];constructor
 ·rintro ⟨⟨a,b⟩,rfl⟩;exact ⟨a,0,zWa _,b,by simp⟩
 ·rintro ⟨a,n,hn,b,rfl⟩;have:n=0:=by omega
  subst this;exact ⟨⟨a,b⟩,by simp⟩
abbrev One (t:List Int):Prop:=t.length=1
theorem zPc (t:List Int):t∈(zF zA).map (fun r=>[r]) ↔ Th zA t/\One t:=by
 rw[zWl];constructor
 ·rintro ⟨r,hr,rfl⟩;have:=zC8.mp hr;refine ⟨⟨⟨by simp,by simp,fun x hx=>?_⟩,by simp⟩,rfl⟩;rw[zWw]at hx;subst hx;exact this
 ·rintro ⟨⟨s,_⟩,h1⟩;obtain ⟨r,rfl⟩:=List.length_eq_one_iff.mp h1;exact ⟨r,zC8.mpr (s.mem r (by simp)),rfl⟩
theorem zSD:zC0 zA One:=.inl fun _ _ h=>h
theorem whole (m:IsM zA l) (h:zGn zA l G (Th zA) k fd []) (t:List Int) (d:D):zG fd t=some d ↔ Th zA t /\ ∃ n:Nat,Dst zA l G t n/\d=.int (n:Int):=zPa (zDK m) h t d
theorem zFn {α:Type} [DecidableEq α]:∀ (xs ys:List α),xs.Nodup->(∀ x∈xs,x∈ys)->xs.length<=ys.length
 |[],_,_,_=>zXG _
 |x::r,ys,h,hm=>by
  obtain ⟨h1,h2⟩:=zXo.mp h;have hx:x∈ys:=hm x zWi;have:=zFn r (ys.erase x) h2 fun y hy=>(List.mem_erase_of_ne (fun z=>h1 (by rw[<-z];exact hy))).mpr (hm y (zWh _ hy));rw[List.length_erase_of_mem hx]at this;have:=List.length_pos_of_mem hx;simp only[zW1];omega
theorem zD0:∀ {T:List (List Int × D)} {g:List Int},(zG T g).isSome=true ↔ g∈T.map (·.1)
 |[],g=>by simp[zG]
 |q::r,g=>by
  unfold zG;by_cases h:q.1=g
  ·simp[h]
  ·rw[zWm h,zD0 (T:=r)];simp only[zWn,zWg];constructor
   ·exact .inr
   ·rintro (z|z)
    ·exact absurd z.symm h
    ·exact z
structure Sz (n:Nat) (st:Fd):Prop where
 ks:(st.1.map (·.1)).Nodup
 nd:st.2.Nodup
 sub:∀ t∈st.2,t∈st.1.map (·.1)
 len:st.1.length=n+st.2.length
theorem zRP {n:Nat} {st:Fd} (k:Int) (p:List Int) (h:Sz n st):Sz n (zA9 k st p):=by
 unfold zA9;by_cases q:(zG st.1 p).isSome=true
 ·rw[zWj q];exact h
 ·rw[zWm q];have hn:zG st.1 p=none:=by
   cases e:zG st.1 p with
   |none=>rfl
   |some d=>rw[e]at q;simp at q
  have hk:p∉st.1.map (·.1):=fun z=>q (zD0.mpr z);have e:zCI st.1 p (.int k)=st.1++[(p,.int k)]:=by unfold zCI;rw[hn]
  rw[e];refine ⟨?_,?_,?_,?_⟩
  ·rw[zXM,zXi];refine ⟨h.ks,by simp,fun a ha b hb=>?_⟩;simp at hb;subst hb;intro z;subst z;exact hk ha
  ·rw[zXi];refine ⟨h.nd,by simp,fun a ha b hb=>?_⟩;simp at hb;subst hb;intro z;subst z;exact hk (h.sub _ ha)
  ·intro t ht;rw[zXM,zWu];rcases zWu.mp (show t∈st.2++[p]from ht)with z|z
   ·exact .inl (h.sub t z)
   ·right;simpa using z
  ·rw[zWk,zWk,h.len];simp;omega
theorem zGk (src:List Int->List (List Int)) (k:Int):∀ (gs:List (List Int)) {st:Fd},Sz n st->Sz n (zBw src k gs st)
 |[],st,h=>h
 |g::r,st,h=>by
  refine zGk src k r ?_;have:∀ (ps:List (List Int)) {st:Fd},Sz n st->Sz n (ps.foldl (zA9 (k+1)) st):=by
   intro ps;induction ps with
   |nil=>intro st h;exact h
   |cons p ps ih=>intro st h;exact ih (zRP (k+1) p h)
  exact this _ h
theorem zOs (k:Int) (st:Fd) (p:List Int):st.1.length<=(zA9 k st p).1.length:=by
 unfold zA9;split
 ·exact zWa _
 ·unfold zCI;cases zG st.1 p <;> simp
theorem zIl (src:List Int->List (List Int)) (k:Int):∀ (gs:List (List Int)) (st:Fd),st.1.length<=(zBw src k gs st).1.length
 |[],st=>zWa _
 |g::r,st=>by
  have h1:∀ (ps:List (List Int)) (st:Fd),st.1.length<=(ps.foldl (zA9 (k+1)) st).1.length:=by
   intro ps;induction ps with
   |nil=>intro st;exact zWa _
   |cons p ps ih=>intro st;exact zWv (zOs (k+1) st p) (ih _)
  exact zWv (h1 (src g) st) (zIl src k r _)
theorem zFz (h:zGn zA l G (Th zA) k fd lev) (hk:(fd.map (·.1)).Nodup):fd.length<=zA.length+zA.length*zA.length:=by
 have hr:(zF zA).length=zA.length:=by unfold zF;simp
 have h1:=zFn (fd.map (·.1)) ((zF zA).map (fun r=>[r])++zO (zF zA)) hk fun t ht=>by
  have hs:=zD0.mpr ht;cases e:zG fd t with
  |none=>rw[e]at hs;cases hs
  |some d=>
   obtain ⟨u,_⟩:=(h.1 t d).mp e;rw[zWu];by_cases h1:t.length=1
   ·obtain ⟨r,rfl⟩:=List.length_eq_one_iff.mp h1;exact .inl (zWl.mpr ⟨r,zC8.mpr (u.1.mem r (by simp)),rfl⟩)
   ·exact .inr (zM0 t u h1)
 have h2:=zBW (zF zA);rw[zWd,zWk,zWd,hr]at h1;rw[hr]at h2;omega
theorem zTe (h:f σ M=some (.dat (.ref j),M)) (hj:M[j]?=some (.lst xs)):zNs f σ M=some (!xs.isEmpty,M):=by
 unfold zNs;rw[h];dsimp only;rw[zb hj]
theorem zRI (zA:List (List Int)) (l:Nat) (g:List Int):(zDp zA l g).length<=zA.length*zA.length*l:=by
 unfold zDp zDF;rw[zWd];refine zWv (zYo _ _) ?_;rw[zHp];have:=zBW (zF zA);have hr:(zF zA).length=zA.length:=by unfold zF;simp
 rw[hr]at this;exact Nat.mul_le_mul_right l this
theorem zQa (m:IsM zA l) (oa:zC0 zA G) (hR:zA.length<=26) (hl:l<=12) (h1:jf<M0.length) (hd:M0[jd]?=some (dT Ts)) (d1:jd≠jf) (hs:∀ g,(∃ j,zG Ts g=some (.ref j)/\j≠jf/\M0[j]?=some (.lst ((zDp zA l g).map tI)))\/(zG Ts g=none/\zDp zA l g=[])) (hf:M0[jf]?=some (dT fd)) (hv:M0[jl]?=some (.lst (lev.map tI))) (l1:jl≠jf) (inv:zGn zA l G (Th zA) 0 fd lev) (nk:(fd.map (·.1)).Nodup) (nl:lev.length<=fd.length) :
  OkS (zBV (zNs (zC 3)) (zX (zo 6 (zAT zH)) (zX (zBo (zn (zC 3)) (gN 5) (zBo (zn (zA6 (zC 2) (zC 5) (zAT zH))) (gN 7) (sIf (tst (fOp (zAm true) (zC 7) (zC 4))) (zX (zBZ (fOp zAE (fOp zq (zC 4) (zC 5)) (fC (.int 1))) (zC 4) (zC 7)) (zAa (fM zk (zC 6) (zD (toD (zC 7)) zH)))) zBB))) (zo 3 (zC 6)))) 1000 [some (mD zA),x1,some (.ref jd),some (.ref jl),some (.ref jf),y5,y6,y7] M0)
   fun o σ' M'=>o=.nx/\(∃ y3 y5 y6 y7,σ'=[some (mD zA),x1,some (.ref jd),y3,some (.ref jf),y5,y6,y7])/\(∃ fd',M'[jf]?=some (dT fd')/\fd'.length<=702 /\ ∀ t d,zG fd' t=some d ↔ Th zA t /\ ∃ n:Nat,Dst zA l G t n/\d=.int (n:Int))/\M0.length<=M'.length /\ ∀ j,j<M0.length->j≠jf->M'[j]?=M0[j]?:=by
 have hN:zA.length+zA.length*zA.length<=702:=by
  have:=zX6 hR hR;omega
 have hB:zA.length*zA.length*l<=8112:=zX6 (zX6 hR hR) hl;refine zCQ (I:=fun z σ M=>∃ (jl:Nat) (y5 y6 y7:Option D) (k:Nat) (fd:List (List Int × D)) (lev:List (List Int)),σ=[some (mD zA),x1,some (.ref jd),some (.ref jl),some (.ref jf),y5,y6,y7]/\M[jf]?=some (dT fd)/\M[jl]?=some (.lst (lev.map tI))/\jl≠jf/\zGn zA l G (Th zA) k fd lev/\(fd.map (·.1)).Nodup/\lev.length<=fd.length/\M0.length<=M.length/\(∀ j,j<M0.length->j≠jf->M[j]?=M0[j]?)/\z=(702-fd.length)+(if lev.isEmpty then 0 else 1)) ?_ 1000 ((702-fd.length)+(if lev.isEmpty then 0 else 1)) _ _ (by split <;> omega) ⟨jl,y5,y6,y7,0,fd,lev,rfl,hf,hv,l1,inv,nk,nl,zWa _,fun _ _ _=>rfl,rfl⟩;rintro z σ M ⟨jl,y5,y6,y7,k,fd,lev,rfl,hf,hv,l1,inv,nk,nl,hlen,fr,rfl⟩;have hfl:=zWv (zFz inv nk) hN;refine zE (M:=M) (a:=!(lev.map tI).isEmpty) (zTe rfl hv) ?_;cases lev with
 |nil=>
  exact ⟨rfl,⟨_,_,_,_,rfl⟩,⟨fd,hf,hfl,whole m inv⟩,hlen,fr⟩
 |cons g0 lev0=>
  show OkS (zX _ _ [some (mD zA),x1,some (.ref jd),some (.ref jl),some (.ref jf),y5,y6,y7] M) _;generalize hlv:g0::lev0=lev at *;have hne0:lev.isEmpty=false:=by rw[<-hlv];rfl
  rw[zI,zT];refine zE (M:=M) (a:=.fl []) (by unfold zAT zH;dsimp only;rw[zWj (zW (by simp))]) ?_;rw[zJc,zM,zI,zAe];have fl:=(zWX.mp hf).1;have vl:=(zWX.mp hv).1;have up:∀ {j:Nat},j<M.length->(M++[MO.lst ([]:List D)])[j]?=M[j]?:=fun h=>zWb h;have dl:=(zWX.mp hd).1;refine ⟨_,_,_,(show zn (zC 3) [some (mD zA),x1,some (.ref jd),some (.ref jl),some (.ref jf),y5,some (.ref M.length),y7] (M++[.lst []])=some (lev.map tI,zCz (.dat (.ref jl)) (lev.map tI),M++[.lst []]) by
   unfold zn;rw[show zC 3 [some (mD zA),x1,some (.ref jd),some (.ref jl),some (.ref jf),y5,some (.ref M.length),y7] (M++[.lst []])=some (.dat (.ref jl),M++[.lst []])from rfl];dsimp only;rw[zb ((up vl).trans hv)]),?_⟩
  have sz0:Sz fd.length (fd,([]:List (List Int))):=⟨nk,by simp,(fun t h=>by cases h),by simp⟩;have szw:Sz fd.length (zBw (zDp zA l) (k:Int) lev (fd,[])):=zGk _ _ lev sz0;have hflw:=zWv (zFz (zK8 m oa inv) szw.ks) hN;refine OkS.mono (zRz (k:=(k:Int)) (src:=zDp zA l) (st:=(fd,[])) (Ts:=Ts) (by omega) (by simp;omega) (by simp) ((up (by omega)).trans ((fr _ dl d1).trans hd)) d1 (by omega) ((up vl).trans hv) l1 (by omega) ?_ 8112 (fun g _=>zWv (zRI zA l g) hB) ?_ 702 (by omega) (fun us vs e=>?_) ⟨(up fl).trans hf,by simp,zWa _,fun _ _ _ _=>rfl⟩) ?_
  ·intro g;rcases hs g with ⟨j,e,q1,q2⟩|q
   ·have jl':=(zWX.mp q2).1;exact .inl ⟨j,e,q1,by omega,(up (by omega)).trans ((fr _ jl' q1).trans q2)⟩
   ·exact .inr q
  ·intro g hg;obtain ⟨u,hd'⟩:=(inv.2 g).mp hg;exact (inv.1 g _).mpr ⟨u,k,zWa _,hd',rfl⟩
  ·have h3:=zIl (zDp zA l) (k:Int) vs (zBw (zDp zA l) (k:Int) us (fd,[]));have h4:zBw (zDp zA l) (k:Int) vs (zBw (zDp zA l) (k:Int) us (fd,[]))=zBw (zDp zA l) (k:Int) lev (fd,[]):=by rw[e];unfold zBw;rw[List.foldl_append]
   rw[h4]at h3;have h5:=(zGk (zDp zA l) (k:Int) us sz0).len;omega
  ·rintro o σ' M' ⟨rfl,⟨y5,y7,rfl⟩,lv⟩;rw[zM,zT];refine zE (M:=M') (a:=.dat (.ref M.length)) rfl ?_;rw[zJ];have sz:Sz fd.length (zBw (zDp zA l) (k:Int) lev (fd,[])):=zGk _ _ lev ⟨nk,by simp,(fun t h=>by cases h),by simp⟩;have inv':=zK8 m oa inv;generalize zBw (zDp zA l) (k:Int) lev (fd,[])=st at lv sz inv';have hfl':=zWv (zFz inv' sz.ks) hN;have hsl:=sz.len;refine ⟨(702-st.1.length)+(if st.2.isEmpty then 0 else 1),?_,M.length,y5,_,y7,k+1,st.1,st.2,rfl,lv.f,lv.b,by omega,inv',sz.ks,by omega,?_,?_,rfl⟩
   ·rw[hne0];cases e:st.2 with
    |nil=>simp;omega
    |cons a r=>rw[e]at hsl;simp at hsl ⊢;omega
   ·have:=lv.len;simp at this;omega
   ·intro j hj hjf;rw[lv.fr j (by simp;omega) hjf (by omega),up (by omega)];exact fr j hj hjf
theorem zOK {M:Mem} {ts:List (List Int)} (hf:f σ M=some (.dat (.ref jl),M)) (hj:M[jl]?=some (.lst (ts.map tI))) (nd:ts.Nodup) (hz:ts.length<=80000) (hg:∀ a,gN i a (zBD own σ)=some ((zBD own σ).set i (some a))) (hs:∀ (a:D) M',zC i ((zBD own σ).set i (some a)) M'=some (.dat a,M')) :
  zCx true own (zn f) (gN i) zr (zC i) (fC (.int 0)) σ M=some (.dat (.ref M.length),M++[dT (ts.map fun t=>(t,.int 0))]):=by
 have hjl:=(zWX.mp hj).1;unfold zCx zn;rw[hf];dsimp only;rw[zb hj];dsimp only;have loop:∀ (r q:List (List Int)),q++r=ts->zCZ (gN i) zr (zC i) (fC (.int 0)) (zBD own σ) M.length (ts.map tI) (zCz (.dat (.ref jl)) (ts.map tI)) (r.map tI) (M++[dT (q.map fun t=>(t,.int 0))])=some (M++[dT (ts.map fun t=>(t,.int 0))]):=by
  intro r;induction r with
  |nil=>intro q e;rw[zXE]at e;subst e;exact zIj (.inl (by rw[zWb hjl];exact hj))
  |cons x r ih=>
   intro q e;have hx:x∉q:=fun z=>by
    rw[<-e,zXi]at nd;exact nd.2.2 x z x zWi rfl
   have hl:q.length<90000:=by have:=zYH List.length e;simp at this;omega
   have hk:zG (q.map fun t=>(t,D.int 0)) x=none:=by
    cases e2:zG (q.map fun t=>(t,D.int 0)) x with
    |none=>rfl
    |some d=>
     have:=zD0.mp (show (zG (q.map fun t=>(t,D.int 0)) x).isSome=true by rw[e2];rfl);rw[zWs]at this;obtain ⟨y,hy,rfl⟩:=zWl.mp this;exact absurd hy hx
   have hgd:zA1 (zCz (.dat (.ref jl)) (ts.map tI)) (ts.map tI) (M++[dT (q.map fun t=>(t,.int 0))]):=.inl (by rw[zWb hjl];exact hj);rw[zWn,zMJ (σ1:=(zBD own σ).set i (some (tI x))) (k:=tI x) (v:=.int 0) (M':=M++[dT ((q++[x]).map fun t=>(t,.int 0))]) hgd (hg _) (hs _ _) rfl]
   ·exact ih (q++[x]) (by rw[<-e];simp)
   ·rw[zIc (T:=q.map fun t=>(t,.int 0)) (by simp) (by rw[zWd];exact hl)];unfold zCI;rw[hk];simp
 have:=loop ts [] rfl;rw[show zE2 true=dT []from rfl];rw[show (([]:List (List Int)).map fun t=>(t,D.int 0))=[]from rfl]at this;rw[this]
theorem zEd {zA:List (List Int)} (m:IsM zA l) (oa:zC0 zA G) (hR:zA.length<=26) (hl:l<=12) {M:Mem} {ts:List (List Int)} (hj:M[jg]?=some (.lst (ts.map tI))) (nd:ts.Nodup) (hts:∀ t,t∈ts ↔ Th zA t/\G t) (hz:ts.length<=80000):Ok (zBJ [mD zA,.ref jg] M) fun d M'=>∃ jf,d=.ref jf/\M.length<=jf/\(∃ fd,M'[jf]?=some (dT fd)/\fd.length<=702 /\ ∀ t d,zG fd t=some d ↔ Th zA t /\ ∃ n:Nat,Dst zA l G t n/\d=.int (n:Int))/\M.length<=M'.length /\ ∀ j,j<M.length->M'[j]?=M[j]?:=by
 have hjl:=(zWX.mp hj).1;unfold zBJ;rw[zy];unfold zDQ;rw[zI,zT];refine zAS.mpr (zE (zc rfl) (Ok.mono (zRc m (by omega) hl) ?_));rintro d M1 ⟨rfl,sr,h1,fr⟩;rw[zJ,zM];refine zC2 (d:=.ref jg) rfl ?_;have hj1:=(fr _ hjl).trans hj;rw[zI,zT];refine zE (zOK (jl:=jg) (ts:=ts) rfl hj1 nd hz (fun _=>rfl) (fun _ _=>rfl)) ?_;rw[zJ,zM];obtain ⟨T,ed,hT,a1,a2,a3⟩:=sr.ex;have up:∀ {j:Nat} {u:MO},M1[j]?=some u->(M1++[dT (ts.map fun t=>(t,D.int 0))])[j]?=some u:=fun {j u} h=>by rw[zWb (zWX.mp h).1];exact h
 have ed':=(zWX.mp ed).1;rw[zI];refine OkS.mono (zQa (jf:=M1.length) (jd:=M.length) (jl:=jg) (Ts:=T) (lev:=ts) (fd:=ts.map fun t=>(t,D.int 0)) m oa hR hl (by simp) (up ed) (by omega) ?_ (by simp) (up hj1) (by omega) (zN0 hts ?_) ?_ (by simp)) ?_
 ·intro g;cases e:zG T g with
  |none=>exact .inr ⟨rfl,a2 g e⟩
  |some d=>
   obtain ⟨j,rfl,q1,q2⟩:=a1 g d e;have:=(zWX.mp q2).1;exact .inl ⟨j,rfl,by omega,up q2⟩
 ·intro t d;have gen:∀ (ts:List (List Int)),zG (ts.map fun t=>(t,D.int 0)) t=some d ↔ t∈ts/\d=.int 0:=by
   intro ts;induction ts with
   |nil=>simp[zG]
   |cons x r ih=>
    rw[zWn,zG];by_cases q:x=t
    ·subst q;simp[eq_comm]
    ·rw[zWm q,ih,zWg];constructor
     ·rintro ⟨z1,z2⟩;exact ⟨.inr z1,z2⟩
     ·rintro ⟨z1|z1,z2⟩
      ·exact absurd z1.symm q
      ·exact ⟨z1,z2⟩
  exact gen _
 ·rw[zWs];rw[show ((fun (x:List Int × D)=>x.1)∘fun (t:List Int)=>(t,D.int 0))=id from rfl,List.map_id];exact nd
 ·rintro o σ' M' ⟨rfl,⟨y3,y5,y6,y7,rfl⟩,⟨fd,e1,e2,e3⟩,hlen,fr'⟩;rw[zM];rw[zWk]at hlen fr';refine zAP (d:=.ref M1.length) rfl ⟨M1.length,rfl,by omega,⟨fd,e1,e2,e3⟩,by omega,fun j hj=>?_⟩;rw[fr' j (by omega) (by omega),zWb (by omega)];exact fr j hj
noncomputable def zFy:FS:=(zAW (zP zBJ (zD (toD (zC 0)) (zD (toD (zm [1] (zv (zD (toD (fB zAk (zS (zC 0) zg))) zH)) (gN 1) zr (zAV (zD (toD (zC 1)) zH)))) zH))))
noncomputable def zDE:FF:=zBN 2 zFy
theorem zMT (m:IsM zA l) (hR:zA.length<=26) (hl:l<=12):Ok (zDE [mD zA] M) fun d M'=>∃ jf,d=.ref jf/\M.length<=jf/\(∃ fd,M'[jf]?=some (dT fd)/\fd.length<=702 /\ ∀ t d,zG fd t=some d ↔ Th zA t /\ ∃ n:Nat,Dst zA l One t n/\d=.int (n:Int))/\M.length<=M'.length /\ ∀ j,j<M.length->M'[j]?=M[j]?:=by
 unfold zDE;rw[zy];unfold zFy;have er:zv (zD (toD (fB zAk (zS (zC 0) zg))) zH) [some (mD zA),none] M=some ((List.range zA.length).map (fun (k:Nat)=>D.int k),none,M):=by
  rw[zBi (j:=(zA.length:Int)) (zCB rfl) (by omega) (by omega),zHr];rw[show (zA.length:Int).toNat=zA.length by omega]
 have ec:zm [1] (zv (zD (toD (fB zAk (zS (zC 0) zg))) zH)) (gN 1) zr (zAV (zD (toD (zC 1)) zH)) [some (mD zA),none] M=some (.fl ((List.range zA.length).map fun (k:Nat)=>tI [(k:Int)]),M) :=
  zAs (List.range zA.length) (fun (k:Nat)=>D.int k) (fun (k:Nat)=>tI [(k:Int)]) er trivial (by rw[zYR];omega) fun k _=>⟨_,rfl,rfl⟩
 have el:((List.range zA.length).map fun (k:Nat)=>tI [(k:Int)])=((zF zA).map fun r=>[r]).map tI:=by
  unfold zF;rw[zWs,zWs];rfl
 rw[el]at ec;rw[zA8];refine zAS.mpr (zh.mpr (zAJ.mpr (zAU.mpr ⟨_,rfl,?_⟩)));rw[zJ];refine zh.mpr (zAJ.mpr (zE ec ?_));rw[zJc,zAM];refine Ok.mono (zEd m zSD hR hl (jg:=M.length) (ts:=(zF zA).map fun r=>[r]) (by simp) ?_ zPc ?_) ?_
 ·unfold zF;rw[zWs];exact List.pairwise_map.mpr (List.Pairwise.imp (fun {a b} h z=>h (by simp at z;omega)) List.nodup_range)
 ·unfold zF;simp;omega
 rintro d M' ⟨jf,rfl,h1,h2,h3,h4⟩;rw[zJ];rw[zWk]at h1 h3 h4;refine ⟨jf,rfl,by omega,h2,by omega,fun j hj=>?_⟩;rw[h4 j (by omega),zWb hj]
set_option genInjectivity true in
inductive Climb (zA:List (List Int)) (l:Nat) (G:List Int->Prop):List Int->List Int->Prop
 |nil {t:List Int}:G t->Climb zA l G t []
 |cons {t:List Int} {x:Int} {w:List Int} {n:Nat}:Dst zA l G t (n+1)->0<=x->x<(l:Int)->Dst zA l G (setR zA t x) n->(∀ y,0<=y->y<x -> ¬ Dst zA l G (setR zA t y) n)->Climb zA l G (setR zA t x) w->Climb zA l G t (x::w)
theorem zIU:∀ {w t:List Int} {n:Nat},Climb zA l G t w->Dst zA l G t n->w.length=n
 |[],_,_,.nil h,d=>by have:=zAy (zBj.mpr h) d;simpa using this
 |x::w,_,n,.cons (n:=a) d1 _ _ e1 _ c1,d=>by
  have h1:=zIU c1 e1;have h2:=zAy d1 d;rw[zW1];omega
theorem zJW {P:Int->Prop}:∀ (k:Nat),P (k:Int) -> ∃ x:Nat,x<=k/\P (x:Int) /\ ∀ y:Int,0<=y->y<(x:Int) -> ¬ P y:=by
 intro k;induction k using Nat.strongRecOn with
 |ind k ih=>
  intro h;by_cases q:∃ j:Nat,j<k/\P (j:Int)
  ·obtain ⟨j,hj,hp⟩:=q;obtain ⟨x,h1,h2,h3⟩:=ih j hj hp;exact ⟨x,by omega,h2,h3⟩
  ·refine ⟨k,zWa _,h,fun y y0 y1 hp=>q ⟨y.toNat,by omega,?_⟩⟩;rw[show ((y.toNat:Nat):Int)=y by omega];exact hp
theorem zFb:∀ (n:Nat) {t:List Int},Dst zA l G t n -> ∃ w,Climb zA l G t w
 |0,t,d=>⟨[],.nil (zBj.mp d)⟩
 |n+1,t,d=>by
  obtain ⟨_,x,hx,hd⟩:=zDD.mp d;obtain ⟨y,h1,h2,h3⟩:=zJW (P:=fun x=>Dst zA l G (setR zA t x) n) x.toNat (by rw[show ((x.toNat:Nat):Int)=x by omega];exact hd);obtain ⟨w,hw⟩:=zFb n h2;exact ⟨(y:Int)::w,.cons d (by omega) (by omega) h2 h3 hw⟩
end Lac
namespace Lac
open PySem PySem.Spec PyProof.Rows L2 L3 ST Law
theorem aC' {f:FE} {g:FA} {σ:Sd} {M M1 M2:Mem} {d:D} {ds:List D} (h:toD f σ M=some (d,M1)) (hg:g σ M1=some (ds,M2)):zD (toD f) g σ M=some (d::ds,M2):=by
 unfold zD;rw[h];dsimp only;rw[hg]
theorem zD9 (h:f σ M=some (.dat d,M)):toD f σ M=some (d,M):=by unfold toD;rw[h]
theorem zSv {M M1:Mem} (h:f σ M=some (.fl xs,M1)):toD f σ M=some (.ref M1.length,M1++[.lst xs]):=by unfold toD;rw[h]
theorem zJS {g:FA} {σ:Sd} {M M1:Mem} {ds:List D} (h:g σ M=some (ds,M1)) (hz:ds.length<=100000):zAT g σ M=some (.fl ds,M1):=by
 unfold zAT;rw[h];dsimp only;rw[zWj (zW hz)]
theorem zHJ {g:FA} {σ:Sd} {M M1:Mem} {ds:List D} (h:g σ M=some (ds,M1)) (hz:ds.length<=100000):zAV g σ M=some (.dat (.tup ds),M1):=by
 unfold zAV;rw[h];dsimp only;rw[zWj (zW hz)]
theorem zRy (hf:f σ M=some (.dat (.int i),M)) (hg:g σ M=some (.dat (.int j),M)):fB zLi (zS f (zS g zg)) σ M=some (.dat (.int (if j>i then j else i)),M):=by
 unfold fB zS zg;rw[hf];dsimp only;rw[hg];rfl
theorem zHY {α:Type} [DecidableEq α]:∀ (a b:List α),a.Nodup->(∀ x∈a,x∈b)->a.length<=b.length
 |[],_,_,_=>zXG _
 |x::r,b,h,s=>by
  rw[zXo]at h;have hx:=s x zWi;have:=zHY r (b.erase x) h.2 fun y hy=>(List.mem_erase_of_ne (fun e=>h.1 (by rw[<-e];exact hy))).mpr (s y (zWh _ hy));rw[List.length_erase_of_mem hx]at this;have:0<b.length:=List.length_pos_of_mem hx;simp only[zW1];omega
structure Bm (B M:Mem) (jF jR:Nat) (T:TB):Prop where
 f:M[jF]?=some (dT (zBn T))
 r:M[jR]?=some (.lst ((T.map (·.1)).map tI))
 len:B.length<=M.length
 fr:∀ j,j<B.length->j≠jF->j≠jR->M[j]?=B[j]?
 wf:∀ (j:Nat) u,B.length<=j->M[j]?=some u->u=.lst []
theorem Bm.new (h:Bm B M jF jR T):Bm B (M++[.lst []]) jF jR T:=by
 have hf:=(zWX.mp h.f).1;have hr:=(zWX.mp h.r).1;have hl:=h.len;refine ⟨by rw[zWb hf];exact h.f,by rw[zWb hr];exact h.r,by simp;omega,fun j hj a b=>by rw[zWb (by omega)];exact h.fr j hj a b,fun j u hj e=>?_⟩;rcases zXq j M.length with z|z
 ·rw[zWb z]at e;exact h.wf j u hj e
 ·have:=(zWX.mp e).1;rw[zWk,zZj]at this;have:j=M.length:=by omega
  subst this;rw[zR]at e;cases e;rfl
theorem zLf (h:p∉T.map (·.1)):zCI (zBn T) p (.int w)=zBn (T++[(p,w)]):=by
 unfold zCI;rw[zGw h];simp[zBn]
theorem zRe {B M:Mem} {jF jR:Nat} {T:TB} (h:Bm B M jF jR T) (nd:(T.map (·.1)).Nodup) (hFB:jF<B.length) (hRB:jR<B.length) (n1:jF≠jR) (hz:T.length<=900) {i:Nat} {q p:List Int} {u:Int} (hi:T[i]?=some (q,u)) {σ:Sd}
  (v3:∀ M,zC 3 σ M=some (.dat (tI p),M)) (v6:∀ M,zC 6 σ M=some (.dat (.ref jF),M)) (v8:∀ M,zC 8 σ M=some (.dat (.ref jR),M)) (v9:∀ M,zC 9 σ M=some (.dat (.int (i:Int)),M)) :
  OkS (sIf (tst (fOp (zAm true) (zC 3) (zC 6))) (zX (zBZ (fOp zAE (fOp zq (zC 6) (fOp kIx (zC 8) (zC 9))) (fC (.int 1))) (zC 6) (zC 3)) (zAa (fM zk (zC 8) (zD (toD (zC 3)) zH)))) zBB σ M)
   fun o σ' M'=>o=.nx/\σ'=σ/\Bm B M' jF jR (zG6 (u+1) T p) /\ ∀ j,j≠jF->j≠jR->M'[j]?=M[j]?:=by
 rw[zAp];refine zE (M:=M) (a:=!(zG (zBn T) p).isSome) (zu (zK (v3 M) (v6 M) (zID h.f))) ?_;rw[zHw nd];by_cases hp:p∈T.map (·.1)
 ·rw[zXc hp,zWm (by simp),zAc];exact ⟨rfl,rfl,by rw[show zG6 (u+1) T p=T from zWj hp];exact h,fun _ _ _=>rfl⟩
 ·rw[zW3 hp,zWj (by simp),show zG6 (u+1) T p=T++[(p,u+1)]from zWm hp];have hf:=(zWX.mp h.f).1;have hr:=(zWX.mp h.r).1;have eq:fOp zq (zC 6) (fOp kIx (zC 8) (zC 9)) σ M=some (.dat (.int u),M):=by
   refine zK (v6 M) (zK (v8 M) (v9 M) (zBA (zb h.r) (zJM (d:=tI q) (by rw[zWr,zWr,hi];rfl)))) ?_;exact zHQ h.f (zSu nd (zXL hi))
  rw[zI];refine ⟨.nx,σ,M.set jF (dT (zBn (T++[(p,u+1)]))),?_,?_⟩
  ·unfold zBZ;rw[zD9 (zK (k:=zAE) (r:=some (.dat (.int (u+1)),M)) eq (rfl:fC (.int 1) σ M=some (.dat (.int 1),M)) rfl)];dsimp only;rw[zD9 (v6 M)];dsimp only;rw[zD9 (v3 M)];dsimp only;rw[zIc h.f (by unfold zBn;rw[zWd];omega),zLf hp]
  rw[zM,zAt];have er:(M.set jF (dT (zBn (T++[(p,u+1)]))))[jR]?=some (.lst ((T.map (·.1)).map tI)):=by rw[zWy n1];exact h.r
  refine zE1.mpr (zE (v8 _) ⟨⟨_,zAG er⟩,zE (zc (v3 _)) ?_⟩);rw[zBG er (by rw[zWd,zWd];exact zWt (m:=95000) (by omega) (zW (by omega)))];refine ⟨rfl,rfl,⟨by rw[zWy (Ne.symm n1),zXO hf],?_,by simpa using h.len,fun j hj a b=>by rw[zWy (Ne.symm b),zWy (Ne.symm a)];exact h.fr j hj a b,fun j w hj e=>?_⟩,fun j a b=>by rw[zWy (Ne.symm b),zWy (Ne.symm a)]⟩
  ·rw[zXO (by rw[zYn];exact hr)];simp
  ·rw[zWy (by omega),zWy (by omega)]at e;exact h.wf j w hj e
theorem zO6 (w:Int) (ps:List (List Int)) (T:TB) {i:Nat} {x:List Int × Int} (h:T[i]?=some x):(ps.foldl (zG6 w) T)[i]?=some x:=by
 obtain ⟨new,e,_⟩:=zBx w ps T;rw[e,zWb (zWX.mp h).1];exact h
theorem zMz {U:List (List Int)} (w:Int) (ps:List (List Int)) (hp:∀ p∈ps,p∈U) (T:TB) (hT:∀ p∈T.map (·.1),p∈U):∀ p∈(ps.foldl (zG6 w) T).map (·.1),p∈U:=by
 obtain ⟨new,e,h1,_⟩:=zBx w ps T;intro p z;rw[e,zXM,zWu]at z;rcases z with z|z
 ·exact hT p z
 ·rw[zWs]at z;obtain ⟨y,hy,rfl⟩:=zWl.mp z;exact hp _ (h1 y hy).1
theorem zSa (w:Int) (ps:List (List Int)) (T:TB) (nd:(T.map (·.1)).Nodup):((ps.foldl (zG6 w) T).map (·.1)).Nodup:=by
 obtain ⟨new,e,h1,h2,_⟩:=zBx w ps T;rw[e,zXM,zXi];refine ⟨nd,?_,fun a ha b hb=>?_⟩
 ·rw[zWs,show ((fun (x:List Int × Int)=>x.1)∘fun (t:List Int)=>(t,w))=id from rfl,List.map_id];exact h2
 ·rw[zWs,show ((fun (x:List Int × Int)=>x.1)∘fun (t:List Int)=>(t,w))=id from rfl,List.map_id]at hb;intro z;subst z;exact (h1 a hb).2 ha
abbrev bvS (zA:List (List Int)) (x1:Option D) (jA:Nat) (y3 y4 y5:Option D) (jF:Nat) (y7:Option D) (jR:Nat) (i:Nat):Sd:=[some (mD zA),x1,some (.ref jA),y3,y4,y5,some (.ref jF),y7,some (.ref jR),some (.int (i:Int))]
theorem zN1 {zA:List (List Int)} {src:List Int->List (List Int)} {goals U:List (List Int)} {B:Mem} {jA jF jR:Nat} {TA:List (List Int × D)} {T:TB} {x1 y3 y4 y5 y7:Option D} (hA:B[jA]?=some (dT TA)) (a1:jA≠jF) (a2:jA≠jR) (n1:jF≠jR) (hFB:jF<B.length) (hRB:jR<B.length)
  (hs:∀ g,(∃ j,zG TA g=some (.ref j)/\j≠jF/\j≠jR/\B[j]?=some (.lst ((src g).map tI)))\/(zG TA g=none/\src g=[])) (hb:Bm B B jF jR T) (bi:BI src goals T 0) (hU:∀ g,∀ p∈src g,p∈U) (hT:∀ p∈T.map (·.1),p∈U) (hz:U.length<=800) :
  OkS (zBV (tst (fOp kLt (zC 9) (fB zAk (zS (zC 8) zg)))) (zX (zBo (zn (zA6 (zC 2) (fOp kIx (zC 8) (zC 9)) (zAT zH))) (gN 3) (sIf (tst (fOp (zAm true) (zC 3) (zC 6))) (zX (zBZ (fOp zAE (fOp zq (zC 6) (fOp kIx (zC 8) (zC 9))) (fC (.int 1))) (zC 6) (zC 3)) (zAa (fM zk (zC 8) (zD (toD (zC 3)) zH)))) zBB)) (zo 9 (fOp zAE (zC 9) (fC (.int 1))))) 1000 (bvS zA x1 jA y3 y4 y5 jF y7 jR 0) B)
   fun o σ' M'=>o=.nx/\(∃ y3 i,σ'=bvS zA x1 jA y3 y4 y5 jF y7 jR i) /\ ∃ T',Bm B M' jF jR T'/\BI src goals T' T'.length /\ ∀ p∈T'.map (·.1),p∈U:=by
 have small:∀ T':TB,(T'.map (·.1)).Nodup->(∀ p∈T'.map (·.1),p∈U)->T'.length<=800:=fun T' h1 h2=>by
  have:=zHY _ _ h1 h2;rw[zWd]at this;omega
 refine zCQ (I:=fun z σ M'=>∃ (T':TB) (i:Nat) (y3:Option D),σ=bvS zA x1 jA y3 y4 y5 jF y7 jR i/\Bm B M' jF jR T'/\BI src goals T' i/\(∀ p∈T'.map (·.1),p∈U)/\i<=T'.length/\z=801-i) ?_ 1000 801 _ _ (by omega) ⟨T,0,y3,rfl,hb,bi,hT,zXG _,rfl⟩;rintro z σ M ⟨T',i,y3,rfl,b,bi,hT',hi,rfl⟩;have h8:=small T' bi.nd hT';have elen:=zCR (f:=zC 8) (σ:=bvS zA x1 jA y3 y4 y5 jF y7 jR i) (M:=M) (x:=.dat (.ref jR)) rfl (zb b.r);rw[zWd,zWd]at elen;refine zE (M:=M) (a:=decide ((i:Int)<(T'.length:Int))) (zu (zK (x:=.dat (.int (i:Int))) rfl elen rfl)) ?_;by_cases hlt:i<T'.length
 ·rw[zXc (by omega)];rcases hq:T'[i]with ⟨q,u⟩;have hqi:T'[i]?=some (q,u):=by rw[zWY hlt,hq]
  have hAl:=(zWX.mp hA).1;have eA:M[jA]?=some (dT TA):=(b.fr jA hAl a1 a2).trans hA;have b1:=b.new;have eA1:(M++[MO.lst []])[jA]?=some (dT TA):=by rw[zWb (zWX.mp eA).1];exact eA
  have eq:fOp kIx (zC 8) (zC 9) (bvS zA x1 jA y3 y4 y5 jF y7 jR i) M=some (.dat (tI q),M):=zK (x:=.dat (.ref jR)) (y:=.dat (.int (i:Int))) rfl rfl (zBA (zb b.r) (zJM (d:=tI q) (by rw[zWr,zWr,hqi];rfl)));have eG:zA6 (zC 2) (fOp kIx (zC 8) (zC 9)) (zAT zH) (bvS zA x1 jA y3 y4 y5 jF y7 jR i) M=some (.dat ((zG TA q).getD (.ref M.length)),M++[.lst []]):=by
   unfold zA6;rw[show toD (zC 2) (bvS zA x1 jA y3 y4 y5 jF y7 jR i) M=some (.ref jA,M)from rfl];dsimp only;rw[eA];rw[zD9 eq];dsimp only;rw[zSv (zJS (rfl:zH _ M=some ([],M)) (by simp))];dsimp only;rw[dgT eA1]
  obtain ⟨js,ejs,hjF,hjR,el⟩:∃ js,(zG TA q).getD (.ref M.length)=.ref js/\js≠jF/\js≠jR/\(M++[MO.lst []])[js]?=some (.lst ((src q).map tI)):=by
   have hbl:=b.len;rcases hs q with ⟨j,e,z1,z2,z3⟩|⟨e,z⟩
   ·have jl:=(zWX.mp z3).1;exact ⟨j,by rw[e];rfl,z1,z2,by rw[zWb (by omega),b.fr j jl z1 z2];exact z3⟩
   ·exact ⟨M.length,by rw[e];rfl,by omega,by omega,by rw[zR,z];rfl⟩
  rw[ejs]at eG;rw[zI,zAe];refine ⟨_,_,_,(show zn (zA6 (zC 2) (fOp kIx (zC 8) (zC 9)) (zAT zH)) (bvS zA x1 jA y3 y4 y5 jF y7 jR i) M=some ((src q).map tI,zCz (.dat (.ref js)) ((src q).map tI),M++[.lst []]) by unfold zn;rw[eG];dsimp only;rw[zb el]),?_⟩;have biT:=zRQ bi hqi;refine zAZ (I:=fun r σ M2=>∃ (us vs:List (List Int)) (y3:Option D),σ=bvS zA x1 jA y3 y4 y5 jF y7 jR i/\src q=us++vs/\r=vs.map tI/\Bm B M2 jF jR (us.foldl (zG6 (u+1)) T')/\M2[js]?=some (.lst ((src q).map tI))) ?_ ?_ _ _ _ ⟨[],src q,y3,rfl,rfl,rfl,b1,el⟩
  ·rintro x r σ M2 ⟨us,vs,y3,rfl,hab,hr,bm,eS⟩;cases vs with
   |nil=>cases hr
   |cons p vs=>
    rw[zWn]at hr;obtain ⟨rfl,rfl⟩:=zXY hr;refine ⟨.inl eS,_,rfl,?_⟩;have hus:∀ p∈us,p∈U:=fun p hp=>hU q p (by rw[hab];exact zXj _ hp);have nd':=zSa (u+1) us T' bi.nd;have sm:=small _ nd' (zMz (u+1) us hus T' hT');refine OkS.mono (zRe (i:=i) (q:=q) (p:=p) (u:=u) (σ:=bvS zA x1 jA (some (tI p)) y4 y5 jF y7 jR i) bm nd' hFB hRB n1 (by omega) (zO6 _ _ _ hqi) (fun _=>rfl) (fun _=>rfl) (fun _=>rfl) (fun _=>rfl)) ?_;rintro o σ' M3 ⟨rfl,rfl,bm3,fr3⟩;refine ⟨us++[p],vs,_,rfl,by rw[hab];simp,rfl,by rw[List.foldl_append];exact bm3,(fr3 js hjF hjR).trans eS⟩
  ·rintro σ M2 ⟨us,vs,y3,rfl,hab,hr,bm,eS⟩;have:vs=[]:=by cases vs with|nil=>rfl|cons _ _=>cases hr
   subst this;rw[zXE]at hab;refine ⟨.inl eS,?_⟩;rw[zM,zT];refine zE (M:=M2) (a:=.dat (.int ((i+1:Nat):Int))) rfl ?_;rw[zJ];rw[<-hab]at bm;have hin:=zMz (u+1) (src q) (hU q) T' hT';obtain ⟨new,enew,_⟩:=zBx (u+1) (src q) T';refine ⟨801-(i+1),by omega,_,i+1,y3,rfl,bm,biT,hin,?_,rfl⟩;rw[enew,zWk];omega
 ·rw[zW3 (by omega)];have:i=T'.length:=by omega
  subst this;exact ⟨rfl,⟨_,_,rfl⟩,T',b,bi,hT'⟩
def zCk (ps:List (List Int × List Int)) (g:List Int):List (List Int):=(ps.filter fun q=>decide (q.2=g)).map (·.1)
theorem zHu (ps:List (List Int × List Int)) (p goal g:List Int):zCk (ps++[(p,goal)]) g=zCk ps g++(if goal=g then [p] else []):=by
 unfold zCk;rw[List.filter_append,zXM];congr 1;by_cases h:goal=g
 ·rw[zWj h,List.filter_cons_of_pos (by simpa using h)];rfl
 ·rw[zWm h,List.filter_cons_of_neg (by simpa using h)];rfl
theorem zOP (ps:List (List Int × List Int)) (g p:List Int):p∈zCk ps g ↔ (p,g)∈ps:=by
 unfold zCk;constructor
 ·intro h;obtain ⟨⟨a,b⟩,hq,rfl⟩:=zWl.mp h;obtain ⟨h1,h2⟩:=zXf.mp hq;have:b=g:=zXQ h2;rw[<-this];exact h1
 ·exact fun h=>zWl.mpr ⟨(p,g),zXf.mpr ⟨h,by simp⟩,rfl⟩
structure SrG (M:Mem) (jd lo:Nat) (ps:List (List Int × List Int)):Prop where
 ex:∃ T:List (List Int × D),M[jd]?=some (dT T)/\T.length<=ps.length/\(∀ g d,zG T g=some d -> ∃ j,d=.ref j/\lo<j/\M[j]?=some (.lst ((zCk ps g).map tI)))/\(∀ g,zG T g=none->zCk ps g=[]) /\ ∀ g g' j,zG T g=some (.ref j)->zG T g'=some (.ref j)->g=g'
theorem zSf {M:Mem} {jd lo:Nat} {ps:List (List Int × List Int)} (hps:ps.length<50000) (hlo:jd<lo) (hlo2:lo<M.length) (sr:SrG M jd lo ps) (hAd:∀ T,M[jd]?=some (dT T) -> ∀ q∈T,∃ j,q.2=.ref j/\j<M.length) {p goal:List Int} {σ:Sd} {i1 i4:Nat} {fk:FE}
  (v1:∀ M,zC i1 σ M=some (.dat (.ref jd),M)) (v6:∀ M,fk σ M=some (.dat (tI goal),M)) (v4:∀ M,zC i4 σ M=some (.dat (tI p),M)) :
  OkS (zAa (fM zk (zB3 (zC i1) fk (zAT zH)) (zD (toD (zC i4)) zH)) σ M) fun o σ' M'=>o=.nx/\σ'=σ/\SrG M' jd lo (ps++[(p,goal)])/\(∀ T,M'[jd]?=some (dT T) -> ∀ q∈T,∃ j,q.2=.ref j/\j<M'.length)/\M.length<=M'.length/\(∀ j,j<=lo->j≠jd->M'[j]?=M[j]?) /\ ∀ (j:Nat) u,lo<j->M'[j]?=some u->(∃ ts:List (List Int),u=.lst (ts.map tI))\/M[j]?=some u:=by
 obtain ⟨T,ed,hT,h1,h2,h3⟩:=sr.ex;have jdl:jd<M.length:=(zWX.mp ed).1;have ed':(M++[MO.lst ([]:List D)])[jd]?=some (dT T):=by rw[zWb jdl];exact ed
 have last:∀ (A:Mem) (T':List (List Int × D)) (j:Nat),zB3 (zC i1) fk (zAT zH) σ M=some (.dat (.ref j),A)->A[jd]?=some (dT T')->zG T' goal=some (.ref j)->lo<j->A[j]?=some (.lst ((zCk ps goal).map tI))->T'.length<=ps.length+1->(∀ q∈T',∃ j,q.2=.ref j/\j<A.length)->M.length<=A.length->(∀ j,j<=lo->j≠jd->A[j]?=M[j]?) ->
   (∀ (j:Nat) u,lo<j->A[j]?=some u->(∃ ts:List (List Int),u=.lst (ts.map tI))\/M[j]?=some u) ->
   (∀ g d,zG T' g=some d -> ∃ j,d=.ref j/\lo<j/\A[j]?=some (.lst ((zCk ps g).map tI)))->(∀ g,zG T' g=none->zCk ps g=[])->(∀ g g' j,zG T' g=some (.ref j)->zG T' g'=some (.ref j)->g=g') ->
   OkS (zAa (fM zk (zB3 (zC i1) fk (zAT zH)) (zD (toD (zC i4)) zH)) σ M) fun o σ' M'=>o=.nx/\σ'=σ/\SrG M' jd lo (ps++[(p,goal)])/\(∀ T,M'[jd]?=some (dT T) -> ∀ q∈T,∃ j,q.2=.ref j/\j<M'.length)/\M.length<=M'.length/\(∀ j,j<=lo->j≠jd->M'[j]?=M[j]?) /\ ∀ (j:Nat) u,lo<j->M'[j]?=some u->(∃ ts:List (List Int),u=.lst (ts.map tI))\/M[j]?=some u:=by
  intro A T' j hsd ea el hj ej hz hAt hle hfr hkd k1 k2 k3;rw[zAt];have hfl:(zCk ps goal).length<=ps.length:=by unfold zCk;rw[zWd];exact zYo _ _
  have jl:j<A.length:=(zWX.mp ej).1;refine zE1.mpr (zE hsd ⟨⟨_,zAG ej⟩,zE (zc (v4 A)) ?_⟩);rw[zBG ej (by rw[zWd];exact zWt (m:=95000) (by omega) (zW (by omega)))];refine ⟨rfl,rfl,⟨T',by rw[zWy (by omega)];exact ea,by simpa using hz,fun g d hd=>?_,fun g hd=>?_,k3⟩,fun T2 e2=>?_,by simpa using hle,fun i hi hn=>by rw[zWy (by omega)];exact hfr i hi hn,fun i u hi hu=>?_⟩
  ·obtain ⟨j',rfl,hj',ej'⟩:=k1 g d hd;refine ⟨j',rfl,hj',?_⟩;rw[zHu];by_cases hgg:goal=g
   ·subst hgg;rw[el]at hd;cases hd;rw[zXO jl,zWj rfl,zXM];rfl
   ·rw[zWm hgg,zXE];have:j≠j':=fun z=>hgg (k3 goal g j el (by rw[z];exact hd));rw[zWy this];exact ej'
  ·rw[zHu,zWm (fun z=>by rw[<-z,el]at hd;cases hd),zXE];exact k2 g hd
  ·rw[zWy (by omega),ea]at e2;have eT:zEb T'=zEb T2:=MO.dicT.inj (zXU e2);intro q hq;have hm:(tI q.1,q.2)∈zEb T2:=zWl.mpr ⟨q,hq,rfl⟩;rw[<-eT]at hm;obtain ⟨q',hq',e'⟩:=zWl.mp hm;obtain ⟨j',h1',h2'⟩:=hAt q' hq';refine ⟨j',?_,by rw[zYn];exact h2'⟩;rw[<-h1'];exact (zYH Prod.snd e').symm
  ·by_cases q:j=i
   ·subst q;rw[zXO jl]at hu;cases hu;exact .inl ⟨zCk ps goal++[p],by simp⟩
   ·rw[zWy q]at hu;exact hkd i u hi hu
 have esd:zB3 (zC i1) fk (zAT zH) σ M=match zG T goal with
   |some v=>some (EV.dat v,M++[MO.lst ([]:List D)])
   |none=>some (EV.dat (.ref M.length),(M++[MO.lst ([]:List D)]).set jd (dT (zCI T goal (.ref M.length)))):=by
  unfold zB3;rw[zD9 (v1 M)];dsimp only;rw[ed];rw[zD9 (v6 M)];dsimp only;rw[zSv (zJS (rfl:zH σ M=some ([],M)) (by simp))];dsimp only;rw[ed',zFB];dsimp only;rw[zWj (by rw[zWd];exact zWt (m:=95000) (by omega) (zW (by omega))),zMG,zSw];all_goals (cases zG T goal <;> rfl)
 cases hl:zG T goal with
 |some d=>
  obtain ⟨j,rfl,hj,ej⟩:=h1 goal d hl;rw[hl]at esd;have jl:=(zWX.mp ej).1;refine last (M++[.lst []]) T j esd ed' hl hj (by rw[zWb jl];exact ej) (by omega) (fun q hq=>by obtain ⟨j',a,b⟩:=hAd T ed q hq;exact ⟨j',a,by simp;omega⟩) (by simp) (fun i hi _=>zWb (by omega)) (fun i u hi hu=>?_) (fun g d hd=>?_) h2 h3
  ·rcases zXq i M.length with q|q
   ·rw[zWb q]at hu;exact .inr hu
   ·have:=(zWX.mp hu).1;rw[zWk,zZj]at this;have:i=M.length:=by omega
    subst this;rw[zR]at hu;cases hu;exact .inl ⟨[],rfl⟩
  ·obtain ⟨j',rfl,hj',ej'⟩:=h1 g d hd;exact ⟨j',rfl,hj',by rw[zWb (zWX.mp ej').1];exact ej'⟩
 |none=>
  rw[hl]at esd;have e0:=h2 goal hl;have hput:=fun g=>zC4 T goal g (.ref M.length);refine last _ (zCI T goal (.ref M.length)) M.length esd (zXO (by simp;omega)) (by rw[hput,zWj rfl]) hlo2 ?_ (by have:=zHX T goal (.ref M.length);omega) (fun q hq=>?_) (by simp) (fun i hi hn=>?_) (fun i u hi hu=>?_) (fun g d hd=>?_) (fun g hd=>?_) (fun g g' j hd hd'=>?_)
  ·rw[zWy (by omega),e0];simp
  ·unfold zCI at hq;rw[hl]at hq;rcases zWu.mp hq with z|z
   ·obtain ⟨j',a,b⟩:=hAd T ed q z;exact ⟨j',a,by simp;omega⟩
   ·rw[zWw]at z;subst z;exact ⟨M.length,rfl,by simp⟩
  ·rw[zWy (Ne.symm hn),zWb (by omega)]
  ·rw[zWy (by omega)]at hu;rcases zXq i M.length with q|q
   ·rw[zWb q]at hu;exact .inr hu
   ·have:=(zWX.mp hu).1;rw[zWk,zZj]at this;have:i=M.length:=by omega
    subst this;rw[zR]at hu;cases hu;exact .inl ⟨[],rfl⟩
  ·rw[hput]at hd;by_cases hgg:goal=g
   ·subst hgg;rw[zWj rfl]at hd;cases hd;exact ⟨M.length,rfl,hlo2,by rw[zWy (by omega),e0];simp⟩
   ·rw[zWm hgg]at hd;obtain ⟨j,rfl,hj,ej⟩:=h1 g d hd;exact ⟨j,rfl,hj,by rw[zWy (by omega),zWb (zWX.mp ej).1];exact ej⟩
  ·rw[hput]at hd;by_cases hgg:goal=g
   ·rw[zWj hgg]at hd;cases hd
   ·rw[zWm hgg]at hd;exact h2 g hd
  ·rw[hput]at hd hd';by_cases a:goal=g
   ·by_cases b:goal=g'
    ·rw[<-a,<-b]
    ·rw[zWj a]at hd;rw[zWm b]at hd';cases hd;obtain ⟨j,e,_,ej⟩:=h1 g' _ hd';cases e;exact absurd (zWX.mp ej).1 (zXC _)
   ·rw[zWm a]at hd;by_cases b:goal=g'
    ·rw[zWj b]at hd';cases hd';obtain ⟨j,e,_,ej⟩:=h1 g _ hd;cases e;exact absurd (zWX.mp ej).1 (zXC _)
    ·rw[zWm b]at hd';exact h3 g g' j hd hd'
noncomputable def zCV:FS:=(zX (zo 3 (zm [4] (zv (zD (toD (fB zAk (zS (fOp kIx (zC 0) (fC (.int 0))) zg))) zH)) (gN 4) zr (zP zBL (zD (toD (zC 0)) (zD (toD (zC 1)) (zD (toD (zC 4)) zH))))))
  (zAW (fB (zE8 false) (zS (zm [4,5] (zF7 (zC 3)) (zBp 4 5) (zDk (tst (fOp (zAm false) (zC 5) (zC 2))) (tst (fOp kEq (fOp zq (zC 2) (zC 5)) (fOp zHz (fOp zq (zC 2) (zC 1)) (fC (.int 1)))))) (zC 4)) zg))))
noncomputable def zAN:FF:=zBN 6 zCV
noncomputable def zEu:FS:=(zX (zo 2 (zm [3] (zn (zP zAO (zD (toD (zP zAD (zD (toD (zC 0)) zH))) zH))) (gN 3) (tst (fOp kGt (zA6 (zC 1) (zC 3) (fC (.int 0))) (fC (.int 0)))) (zC 3)))
  (zAW (zCx true [3] (zn (zC 2)) (gN 3) zr (zC 3) (zAV (zD (toD (fOp zq (zC 1) (zC 3))) (zD (toD (zP zAN (zD (toD (zC 0)) (zD (toD (zC 3)) (zD (toD (zC 1)) zH))))) zH))))))
noncomputable def zCX:FF:=zBN 4 zEu
noncomputable def zEX:FS:=(zX (zo 3 (zAT zH))
  (zX (zo 4 (zC 2))
  (zX (zBV (tst (fOp (zAm false) (zC 4) (zC 1))) (zX (zo 5 (fOp kIx (fOp zq (zC 1) (zC 4)) (fC (.int 1))))
  (zX (zAa (fM zk (zC 3) (zD (toD (zC 5)) zH)))
  (zo 4 (zP zBL (zD (toD (zC 0)) (zD (toD (zC 4)) (zD (toD (zC 5)) zH))))))) 1000)
  (zAW (fB zAu (zS (zC 3) zg))))))
noncomputable def zBa:FF:=zBN 6 zEX
theorem zIb {α:Type} (hgd:zA1 gd all M) (enc out:α->D) (keep:α->Bool):∀ (as:List α),(∀ a∈as,∃ σ1,g (enc a) σ=some σ1/\tc σ1 M=some (keep a,M)/\(keep a=true->te σ1 M=some (.dat (out a),M)))->zA2 g tc te σ all gd (as.map enc) M=some ((as.filter keep).map out,M)
 |[],_=>by
  rw[List.map_nil];unfold zA2;rw[zWj hgd];rfl
 |a::r,h=>by
  obtain ⟨σ1,e1,e2,e3⟩:=h a zWi;have ih:=zIb (σ:=σ) hgd enc out keep r fun b hb=>h b (zWh _ hb);rw[zWn];unfold zA2;rw[zWj hgd,e1];dsimp only;rw[e2];cases hk:keep a with
  |false=>
   dsimp only;rw[ih,List.filter_cons_of_neg (by simp[hk])]
  |true=>
   dsimp only;rw[show toD te σ1 M=some (out a,M) by unfold toD;rw[e3 hk]];dsimp only;rw[ih,List.filter_cons_of_pos hk];rfl
theorem zBF {α:Type} {own:List Nat} {fi:FI} {g:FG} {tc:FT} {te:FE} {σ:Sd} {M M1:Mem} {gd:Option (Mem->Prop)} (as:List α) (enc out:α->D) (keep:α->Bool) (hi:fi σ M=some (as.map enc,gd,M1)) (hgd:zA1 gd (as.map enc) M1) (hz:as.length<=100000)
  (he:∀ a∈as,∃ σ1,g (enc a) (zBD own σ)=some σ1/\tc σ1 M1=some (keep a,M1)/\(keep a=true->te σ1 M1=some (.dat (out a),M1))):zm own fi g tc te σ M=some (.fl ((as.filter keep).map out),M1) :=
 zY (zCo.mpr ⟨_,_,_,hi,by rw[zWd];exact zW hz,zE (zIb hgd enc out keep as he) ⟨rfl,rfl⟩⟩)
theorem zNT {f:FE} {σ:Sd} {M M1:Mem} {xs:List Int} (hf:f σ M=some (.fl (xs.map D.int),M1)) (hx:xs≠[]):∃ b,fB (zE8 false) (zS f zg) σ M=some (.dat (.int b),M1)/\b∈xs /\ ∀ y∈xs,b<=y:=by
 cases xs with
 |nil=>exact absurd rfl hx
 |cons x r=>
  obtain ⟨h1,h2⟩:=zDf false r x;refine ⟨zC5 false x r,?_,h1,fun y hy=>by simpa using h2 y hy⟩;unfold fB zS zg;rw[hf];unfold zE8;dsimp only;rw[zCW]
def zPE (zA:List (List Int)) (l:Nat) (G:List Int->Prop) (fd:List (List Int × D)):Prop:=∀ t d,zG fd t=some d ↔ Th zA t /\ ∃ n:Nat,Dst zA l G t n/\d=.int (n:Int)
structure Fst (zA:List (List Int)) (l:Nat) (G:List Int->Prop) (p:List Int) (n:Nat) (x:Int):Prop where
 x0:0<=x
 x1:x<(l:Int)
 d:Dst zA l G (setR zA p x) n
 f:∀ y,0<=y->y<x -> ¬ Dst zA l G (setR zA p y) n
def isN (n:Nat):Option D->Bool
 |some (.int v)=>decide (v=(n:Int))
 |_=>false
theorem zJx (sp:zPE zA l G fd) (u:Th zA t):isN n (zG fd t)=true ↔ Dst zA l G t n:=by
 constructor
 ·intro h;cases e:zG fd t with
  |none=>rw[e]at h;cases h
  |some d=>
   obtain ⟨_,k,hk,rfl⟩:=(sp t d).mp e;rw[e]at h;have:(k:Int)=(n:Int):=zXQ h;rw[show n=k by omega];exact hk
 ·intro h;rw[(sp t _).mpr ⟨u,n,h,rfl⟩];exact zXc rfl
theorem eqE:kEq (.dat (.int a)) (.dat (.int b)) M=some (.dat (.bl (decide (a=b))),M):=zY (zKo.mpr ⟨rfl,rfl⟩)
theorem zV5:zHz (.dat (.int a)) (.dat (.int b)) M=some (.dat (.int (a-b)),M):=rfl
theorem gtE:kGt (.dat (.int a)) (.dat (.int b)) M=some (.dat (.bl (decide (b<a))),M):=rfl
theorem zMv (ha:a σ M=some (true,M)) (hb:b σ M=some (k,M)):zDk a b σ M=some (k,M):=by unfold zDk;rw[ha];exact hb
theorem zMy (ha:a σ M=some (false,M)):zDk a b σ M=some (false,M):=by unfold zDk;rw[ha]
theorem zQY {zA:List (List Int)} {l:Nat} {G:List Int->Prop} (m:IsM zA l) (hR:zA.length<=26) (hl:l<=12) {M:Mem} {jf:Nat} {fd:List (List Int × D)} (hf:M[jf]?=some (dT fd)) (sp:zPE zA l G fd) {p:List Int} (u:Th zA p) {n:Nat} (hd:Dst zA l G p (n+1)) :
  Ok (zAN [mD zA,tI p,.ref jf] M) fun d M'=>∃ x:Int,d=.int x/\Fst zA l G p n x /\ ∃ us,M'=M++us:=by
 unfold zAN;rw[zy];unfold zCV;have hfl:=(zWX.mp hf).1;have er:=zEW (σ:=[some (mD zA),some (tI p),some (.ref jf),none,none,none]) (M:=M) (zNa m (f:=zC 0) rfl) (by omega) (by omega);rw[show (l:Int).toNat=l by omega]at er;have ec:=zAs (own:=[4]) (g:=gN 4) (te:=zP zBL (zD (toD (zC 0)) (zD (toD (zC 1)) (zD (toD (zC 4)) zH)))) (List.range l) (fun (k:Nat)=>D.int k) (fun (k:Nat)=>tI (setR zA p (k:Int))) er trivial (by rw[zYR];omega) fun k hk=>⟨_,rfl,zAd (zt (d:=mD zA) rfl (zt (d:=tI p) rfl (zc (d:=.int (k:Int)) rfl))) (zKA m (by omega) u.1 (by omega) (by have:=zW8.mp hk;omega))⟩;rw[zI,zT];refine zE ec (za ?_);rw[zM];generalize hA:M++[MO.lst ((List.range l).map fun (k:Nat)=>tI (setR zA p (k:Int)))]=A;have a1:A[M.length]?=some (.lst ((List.range l).map fun (k:Nat)=>tI (setR zA p (k:Int)))):=by rw[<-hA];simp
 have a2:A[jf]?=some (dT fd):=by rw[<-hA,zWb hfl];exact hf
 have hen:zF7 (zC 3) [some (mD zA),some (tI p),some (.ref jf),some (.ref M.length),none,none] A=some ((List.range l).map (fun (k:Nat)=>D.tup [.int (k:Nat),tI (setR zA p (k:Int))]),zCz (.dat (.ref M.length)) ((List.range l).map fun (k:Nat)=>tI (setR zA p (k:Int))),A):=by
  unfold zF7;rw[show zC 3 [some (mD zA),some (tI p),some (.ref jf),some (.ref M.length),none,none] A=some (.dat (.ref M.length),A)from rfl];dsimp only;rw[zb a1];dsimp only;congr 2;unfold zJJ;rw[zWd,zYR];apply List.ext_getElem?;intro i;by_cases hi:i<l
  ·rw[zWr,zWr,List.zip_eq_zipWith,List.getElem?_zipWith,zWr,zYY hi];rfl
  ·rw[zXd (by simp;omega),zXd (by simp;omega)]
 have lp:zG fd p=some (.int ((n+1:Nat):Int)):=(sp p _).mpr ⟨u,n+1,hd,rfl⟩;have ef:=zBF (own:=[4,5]) (g:=zBp 4 5) (tc:=zDk (tst (fOp (zAm false) (zC 5) (zC 2))) (tst (fOp kEq (fOp zq (zC 2) (zC 5)) (fOp zHz (fOp zq (zC 2) (zC 1)) (fC (.int 1)))))) (te:=zC 4) (List.range l) _ (fun (k:Nat)=>D.int (k:Int)) (fun (k:Nat)=>isN n (zG fd (setR zA p (k:Int)))) hen (.inl a1) (by rw[zYR];omega) (fun k hk=>by
  have u':=zDK m p (k:Int) u ⟨by omega,by have:=zW8.mp hk;omega⟩;refine ⟨[some (mD zA),some (tI p),some (.ref jf),some (.ref M.length),some (.int (k:Int)),some (tI (setR zA p (k:Int)))],rfl,?_,fun _=>rfl⟩;have e1:fOp (zAm false) (zC 5) (zC 2) [some (mD zA),some (tI p),some (.ref jf),some (.ref M.length),some (.int (k:Int)),some (tI (setR zA p (k:Int)))] A=_:=zK (x:=.dat (tI (setR zA p (k:Int)))) (y:=.dat (.ref jf)) rfl rfl (zID a2);rw[zWm (by decide)]at e1;cases e:zG fd (setR zA p (k:Int)) with
  |none=>
   rw[e]at e1;exact zMy (zu e1)
  |some d=>
   obtain ⟨_,v,_,rfl⟩:=(sp _ d).mp e;rw[e]at e1;refine zMv (zu e1) (zu ?_);refine zK (x:=.dat (.int (v:Int))) (y:=.dat (.int (((n+1:Nat):Int)-1))) (zK (x:=.dat (.ref jf)) (y:=.dat (tI (setR zA p (k:Int)))) rfl rfl (zHQ a2 e)) (zK (x:=.dat (.int ((n+1:Nat):Int))) (y:=.dat (.int 1)) (zK (x:=.dat (.ref jf)) (y:=.dat (tI p)) rfl rfl (zHQ a2 lp)) rfl zV5) ?_;rw[eqE];unfold isN;congr 5;exact propext ⟨fun h=>by omega,fun h=>by omega⟩)
 rw[show ((List.range l).filter fun (k:Nat)=>isN n (zG fd (setR zA p (k:Int)))).map (fun (k:Nat)=>D.int (k:Int))=(((List.range l).filter fun (k:Nat)=>isN n (zG fd (setR zA p (k:Int)))).map fun (k:Nat)=>(k:Int)).map D.int by rw[zWs];rfl]at ef;obtain ⟨b,eb,hb1,hb2⟩:=zNT ef (by
  obtain ⟨_,x,hx,hr⟩:=zDD.mp hd;have:((x.toNat:Nat):Int)∈((List.range l).filter fun (k:Nat)=>isN n (zG fd (setR zA p (k:Int)))).map fun (k:Nat)=>(k:Int):=zWl.mpr ⟨x.toNat,zXf.mpr ⟨zW8.mpr (by omega),by rw[show ((x.toNat:Nat):Int)=x by omega];exact (zJx sp (zDK m p x u hx)).mpr hr⟩,rfl⟩;exact List.ne_nil_of_mem this)
 obtain ⟨k,hk,rfl⟩:=zWl.mp hb1;obtain ⟨k1,k2⟩:=zXf.mp hk;have k3:=zW8.mp k1;refine zAP eb ⟨(k:Int),rfl,⟨by omega,by omega,(zJx sp (zDK m p _ u ⟨by omega,by omega⟩)).mp k2,fun y y0 y1 hy=>?_⟩,_,hA.symm⟩;have:=hb2 y (zWl.mpr ⟨y.toNat,zXf.mpr ⟨zW8.mpr (by omega),by rw[show ((y.toNat:Nat):Int)=y by omega];exact (zJx sp (zDK m p y u ⟨y0,by omega⟩)).mpr hy⟩,by omega⟩);omega
theorem zMb (a:Fst zA l G p n x) (b:Fst zA l G p n y):x=y:=by
 rcases Int.lt_trichotomy x y with q|q|q
 ·exact absurd a.d (b.f x a.x0 q)
 ·exact q
 ·exact absurd b.d (a.f y b.x0 q)
open Classical in
noncomputable def zGV (zA:List (List Int)) (l:Nat) (G:List Int->Prop) (t:List Int):Nat:=if h:∃ n,Dst zA l G t n then Classical.choose h else 0
open Classical in
noncomputable def zUI (zA:List (List Int)) (l:Nat) (G:List Int->Prop) (t:List Int):Int:=if h:∃ x,Fst zA l G t (zGV zA l G t-1) x then Classical.choose h else 0
theorem zEU (h:Dst zA l G t n):zGV zA l G t=n:=by
 unfold zGV;have hx:∃ n,Dst zA l G t n:=⟨n,h⟩;rw[dif_pos hx];exact zAy (Classical.choose_spec hx) h
theorem zKO (h:0<zGV zA l G t):Dst zA l G t (zGV zA l G t):=by
 by_cases hx:∃ n,Dst zA l G t n
 ·obtain ⟨n,hn⟩:=hx;rw[zEU hn];exact hn
 ·unfold zGV at h;rw[dif_neg hx]at h;omega
theorem zMu (hd:Dst zA l G t (n+1)) (h:Fst zA l G t n x):zUI zA l G t=x:=by
 unfold zUI;rw[zEU hd];have hx:∃ x,Fst zA l G t (n+1-1) x:=⟨x,h⟩;rw[dif_pos hx];exact zMb (Classical.choose_spec hx) h
noncomputable def zNA (zA:List (List Int)) (l:Nat) (G:List Int->Prop) (t:List Int):Bool:=decide (0<zGV zA l G t)
noncomputable def zIh (zA:List (List Int)) (l:Nat) (G:List Int->Prop) (t:List Int):D:=.tup [.int (zGV zA l G t:Nat),.int (zUI zA l G t)]
noncomputable def zBd (zA:List (List Int)) (l:Nat) (G:List Int->Prop):List (List Int):=(zO (zF zA)).filter (zNA zA l G)
noncomputable def zCs (zA:List (List Int)) (l:Nat) (G:List Int->Prop):List (List Int × D):=(zBd zA l G).map fun p=>(p,zIh zA l G p)
theorem zKa {f:List Int->D} {t:List Int}:∀ {ps:List (List Int)},zG (ps.map fun p=>(p,f p)) t=if t∈ps then some (f t) else none
 |[]=>rfl
 |p::r=>by
  rw[zWn,zG];by_cases h:p=t
  ·subst h;rw[zWj rfl,zWj zWi]
  ·rw[zWm h,zKa (ps:=r)];by_cases hr:t∈r
   ·rw[zWj hr,zWj (zWh _ hr)]
   ·rw[zWm hr,zWm (by simp[hr,Ne.symm h])]
theorem zSe (h:g∉T.map (·.1)):zCI T g v=T++[(g,v)]:=by
 unfold zCI;cases e:zG T g with
 |none=>rfl
 |some d=>exact absurd (zD0.mp (show (zG T g).isSome=true by rw[e];rfl)) h
theorem zDV (h:xs.Nodup):(zO xs).Nodup:=by
 have gen:∀ r:List Int,r.Nodup->(r.flatMap fun a=>(xs.filter fun b=>decide (a<b)).map fun b=>[a,b]).Nodup:=by
  intro r;induction r with
  |nil=>intro _;simp
  |cons a r ih=>
   intro hr;obtain ⟨h1,h2⟩:=zXo.mp hr;rw[List.flatMap_cons,zXi];refine ⟨?_,ih h2,fun u hu v hv=>?_⟩
   ·refine List.pairwise_map.mpr (List.Pairwise.imp (fun {x y} q z=>q (by simpa using z)) (List.Pairwise.filter _ h))
   ·obtain ⟨b,_,rfl⟩:=zWl.mp hu;obtain ⟨c,hc,hv⟩:=List.mem_flatMap.mp hv;obtain ⟨d,_,rfl⟩:=zWl.mp hv;intro z;have:a=c:=by simpa using (zXY z).1
    exact h1 (by rw[this];exact hc)
 exact gen xs h
theorem zD5 (zA:List (List Int)):(zF zA).Nodup:=by
 unfold zF;exact List.pairwise_map.mpr (List.Pairwise.imp (fun {a b} h z=>h (by omega)) List.nodup_range)
theorem zCO:t∈zBd zA l G ↔ t∈zO (zF zA) /\ ∃ n,Dst zA l G t (n+1):=by
 unfold zBd zNA;rw[zXf];constructor
 ·rintro ⟨a,b⟩;have:=zKO (zXQ b);exact ⟨a,zGV zA l G t-1,by rw[show zGV zA l G t-1+1=zGV zA l G t by have:=zXQ b;omega];exact this⟩
 ·rintro ⟨a,n,h⟩;exact ⟨a,zXc (by rw[zEU h];omega)⟩
theorem zUR (hf:f σ M=some (.dat (.ref n),M)) (hn:M[n]?=some (dT T)) (hg:g σ M=some (.dat (tI k),M)):zA6 f g (fC c) σ M=some (.dat ((zG T k).getD c),M):=by
 unfold zA6;rw[show toD f σ M=some (.ref n,M) by unfold toD;rw[hf]];dsimp only;rw[hn];rw[show toD g σ M=some (tI k,M) by unfold toD;rw[hg]];dsimp only;rw[show toD (fC c) σ M=some (c,M)from rfl];dsimp only;rw[dgT hn]
theorem zN5 {own:List Nat} {i:Nat} {tv:FE} {σ:Sd} {M:Mem} {jl jk:Nat} {K:MO} {ts:List (List Int)} {val:List Int->D} (hj:M[jl]?=some (.lst (ts.map tI))) (hk:M[jk]?=some K) (nd:ts.Nodup) (hz:ts.length<=80000)
  (hg:∀ a,gN i a (zBD own σ)=some ((zBD own σ).set i (some a))) (hs:∀ (a:D) M',zC i ((zBD own σ).set i (some a)) M'=some (.dat a,M'))
  (hv:∀ t∈ts,∀ M':Mem,M'[jk]?=some K -> ∃ us,tv ((zBD own σ).set i (some (tI t))) M'=some (.dat (val t),M'++us)) {n:Nat} (hn:n=M.length) :
  ∃ us,zCZ (gN i) zr (zC i) tv (zBD own σ) n (ts.map tI) (zCz (.dat (.ref jl)) (ts.map tI)) (ts.map tI) (M++[dT []])=some (M++dT (ts.map fun t=>(t,val t))::us):=by
 subst hn;have hjl:=(zWX.mp hj).1;have hkl:=(zWX.mp hk).1;have loop:∀ (r q:List (List Int)) (ws:Mem),q++r=ts -> ∃ us,zCZ (gN i) zr (zC i) tv (zBD own σ) M.length (ts.map tI) (zCz (.dat (.ref jl)) (ts.map tI)) (r.map tI) (M++dT (q.map fun t=>(t,val t))::ws)=some (M++dT (ts.map fun t=>(t,val t))::us):=by
  intro r;induction r with
  |nil=>
   intro q ws e;rw[zXE]at e;subst e;exact ⟨ws,zIj (.inl (by rw[zWb hjl];exact hj))⟩
  |cons x r ih=>
   intro q ws e;have hx:x∉q:=fun z=>by
    rw[<-e,zXi]at nd;exact nd.2.2 x z x zWi rfl
   have hl:q.length<90000:=by have:=zYH List.length e;simp at this;omega
   obtain ⟨us,hu⟩:=hv x (by rw[<-e];simp) (M++dT (q.map fun t=>(t,val t))::ws) (by rw[zWb hkl];exact hk);obtain ⟨vs,hvs⟩:=ih (q++[x]) (ws++us) (by rw[<-e];simp);refine ⟨vs,?_⟩;rw[<-hvs,zWn];have hgd:zA1 (zCz (.dat (.ref jl)) (ts.map tI)) (ts.map tI) (M++dT (q.map fun t=>(t,val t))::ws):=.inl (by rw[zWb hjl];exact hj);rw[zCZ,zWj hgd,hg];dsimp only;rw[show zr ((zBD own σ).set i (some (tI x))) (M++dT (q.map fun t=>(t,val t))::ws)=some (true,M++dT (q.map fun t=>(t,val t))::ws)from rfl];dsimp only;rw[show toD (zC i) ((zBD own σ).set i (some (tI x))) (M++dT (q.map fun t=>(t,val t))::ws)=some (tI x,M++dT (q.map fun t=>(t,val t))::ws) by unfold toD;rw[hs]];dsimp only;rw[show toD tv ((zBD own σ).set i (some (tI x))) (M++dT (q.map fun t=>(t,val t))::ws)=some (val x,M++dT (q.map fun t=>(t,val t))::ws++us) by unfold toD;rw[hu]];dsimp only;rw[zIc (T:=q.map fun t=>(t,val t)) (by simp) (by rw[zWd];exact hl),zSe (by rw[zWs];simpa using hx)];congr 1;rw[zXa,List.set_append_right _ _ (zWa _)];simp
 exact loop ts [] [] rfl
theorem zLD {zA:List (List Int)} {l:Nat} {G:List Int->Prop} (m:IsM zA l) (hR:zA.length<=26) (hl:l<=12) {M:Mem} {jf:Nat} {fd:List (List Int × D)} (hf:M[jf]?=some (dT fd)) (sp:zPE zA l G fd) :
  Ok (zCX [mD zA,.ref jf] M) fun d M'=>∃ jr us,d=.ref jr/\M'=M++us/\M.length<=jr/\M'[jr]?=some (dT (zCs zA l G)):=by
 unfold zCX;rw[zy];unfold zEu;have hfl:=(zWX.mp hf).1;have hrl:(zF zA).length=zA.length:=by unfold zF;simp
 have epr:=zFY (xs:=zF zA) (by omega) (M:=M);have ei:zn (zP zAO (zD (toD (zP zAD (zD (toD (zC 0)) zH))) zH)) [some (mD zA),some (.ref jf),none,none] M=_:=zDT (zc (d:=tI (zF zA)) (zAd (zc (d:=mD zA) rfl) (zED (by omega)))) epr (zR _ _);have hPl:(zO (zF zA)).length<=676:=by
  have h1:=zBW (zF zA);rw[hrl]at h1;exact zWv h1 (zX6 hR hR)
 generalize hA:M++[MO.lst ((zO (zF zA)).map tI)]=A at ei;have a1:A[M.length]?=some (.lst ((zO (zF zA)).map tI)):=by rw[<-hA];simp
 have a2:A[jf]?=some (dT fd):=by rw[<-hA,zWb hfl];exact hf
 have ef:=zBF (own:=[3]) (g:=gN 3) (tc:=tst (fOp kGt (zA6 (zC 1) (zC 3) (fC (.int 0))) (fC (.int 0)))) (te:=zC 3) (zO (zF zA)) tI tI (zNA zA l G) ei (.inl a1) (by omega) (fun p hp=>by
  refine ⟨[some (mD zA),some (.ref jf),none,some (tI p)],rfl,zu ?_,fun _=>rfl⟩;have e1:zA6 (zC 1) (zC 3) (fC (.int 0)) [some (mD zA),some (.ref jf),none,some (tI p)] A=_:=zUR (k:=p) rfl a2 rfl;unfold zNA;cases e:zG fd p with
  |none=>
   rw[e]at e1;rw[zK (x:=.dat (.int 0)) (y:=.dat (.int 0)) e1 rfl gtE];have:¬ 0<zGV zA l G p:=fun h=>by
    rw[(sp p _).mpr ⟨zCn p hp,_,zKO h,rfl⟩]at e;cases e
   rw[zW3 this];rfl
  |some d=>
   obtain ⟨_,v,hv,rfl⟩:=(sp _ d).mp e;rw[e]at e1;rw[zK (x:=.dat (.int (v:Int))) (y:=.dat (.int 0)) e1 rfl gtE,zEU hv];congr 5;exact propext ⟨fun h=>by omega,fun h=>by omega⟩)
 rw[zI,zT];refine zE ef (za ?_);rw[zM];show OkS (zAW _ [some (mD zA),some (.ref jf),some (.ref A.length),none] (A++[.lst ((zBd zA l G).map tI)])) _;have nd:(zBd zA l G).Nodup:=List.Pairwise.filter _ (zDV (zD5 zA));have hrl2:(zBd zA l G).length<=676:=zWv (zYo _ _) hPl;generalize hB:A++[MO.lst ((zBd zA l G).map tI)]=B;have b1:B[A.length]?=some (.lst ((zBd zA l G).map tI)):=by rw[<-hB];simp
 have b2:B[jf]?=some (dT fd):=by rw[<-hB,zWb (zWX.mp a2).1];exact a2
 obtain ⟨us,hu⟩:=zN5 (own:=[3]) (i:=3) (σ:=[some (mD zA),some (.ref jf),some (.ref A.length),none]) (tv:=zAV (zD (toD (fOp zq (zC 1) (zC 3))) (zD (toD (zP zAN (zD (toD (zC 0)) (zD (toD (zC 3)) (zD (toD (zC 1)) zH))))) zH))) (val:=zIh zA l G) b1 b2 nd (by omega) (fun _=>rfl) (fun _ _=>rfl) (fun t ht M' hM=>by
  obtain ⟨ht1,n,hn⟩:=zCO.mp ht;obtain ⟨d,M2,e,x,rfl,fx,us,rfl⟩:=zQY m hR hl hM sp (zCn t ht1) hn;refine ⟨us,?_⟩;show zAV _ [some (mD zA),some (.ref jf),some (.ref A.length),some (tI t)] M'=_;have e1:fOp zq (zC 1) (zC 3) [some (mD zA),some (.ref jf),some (.ref A.length),some (tI t)] M'=some (.dat (.int ((n+1:Nat):Int)),M'):=zK (x:=.dat (.ref jf)) (y:=.dat (tI t)) rfl rfl (zHQ hM ((sp t _).mpr ⟨zCn t ht1,n+1,hn,rfl⟩));have e2:zP zAN (zD (toD (zC 0)) (zD (toD (zC 3)) (zD (toD (zC 1)) zH))) [some (mD zA),some (.ref jf),some (.ref A.length),some (tI t)] M'=some (.dat (.int x),M'++us):=zAd (zt (d:=mD zA) rfl (zt (d:=tI t) rfl (zc (d:=.ref jf) rfl))) e;rw[zHJ (aC' (zD9 e1) (zVs e2)) (by simp)];unfold zIh;rw[zEU hn,zMu hn fx]) rfl
 have ed:zCx true [3] (zn (zC 2)) (gN 3) zr (zC 3) (zAV (zD (toD (fOp zq (zC 1) (zC 3))) (zD (toD (zP zAN (zD (toD (zC 0)) (zD (toD (zC 3)) (zD (toD (zC 1)) zH))))) zH))) [some (mD zA),some (.ref jf),some (.ref A.length),none] B=some (.dat (.ref B.length),B++dT (zCs zA l G)::us):=by
  unfold zCx zn;rw[show zC 2 [some (mD zA),some (.ref jf),some (.ref A.length),none] B=some (.dat (.ref A.length),B)from rfl];dsimp only;rw[zb b1];dsimp only;rw[show zE2 true=dT []from rfl,hu];rfl
 rw[zA8];refine zE ed ⟨B.length,[MO.lst ((zO (zF zA)).map tI)]++([MO.lst ((zBd zA l G).map tI)]++dT (zCs zA l G)::us),rfl,by rw[<-hB,<-hA];simp only[zXa],?_,by simp⟩;rw[<-hB,<-hA];simp only[zWk];omega
theorem zIV (m:IsM zA l) (o:zC0 zA G):∀ (n:Nat) (t:List Int),Th zA t->Dst zA l G t n -> ∃ ts:List (List Int),ts.length=n/\ts.Nodup /\ ∀ s∈ts,s∈zO (zF zA) /\ ∃ k,k<=n/\Dst zA l G s k
 |0,_,_,_=>⟨[],rfl,List.nodup_nil,fun _ h=>by cases h⟩
 |n+1,t,u,d=>by
  obtain ⟨q,x,hx,hd⟩:=zDD.mp d;obtain ⟨ts,h1,h2,h3⟩:=zIV m o n (setR zA t x) (zDK m t x u hx) hd;refine ⟨t::ts,by simp[h1],zXo.mpr ⟨fun z=>?_,h2⟩,fun s hs=>?_⟩
  ·obtain ⟨_,k,hk,hk2⟩:=h3 t z;have:=zAy hk2 d;omega
  ·rcases zWg.mp hs with rfl|z
   ·exact ⟨zFo m o s (n+1) u (fun g=>by have:=zAy (zBj.mpr g) d;omega) d.1,n+1,zWa _,d⟩
   ·obtain ⟨a,k,hk,b⟩:=h3 s z;exact ⟨a,k,by omega,b⟩
theorem zT8 (m:IsM zA l) (o:zC0 zA G) (u:Th zA t) (d:Dst zA l G t n):n<=(zO (zF zA)).length:=by
 obtain ⟨ts,h1,h2,h3⟩:=zIV m o n t u d;rw[<-h1];exact zFn ts _ h2 fun s hs=>(h3 s hs).1
theorem zBu (hR:zA.length<=26):(zO (zF zA)).length<=676:=by
 have h1:=zBW (zF zA);have hrl:(zF zA).length=zA.length:=by unfold zF;simp
 rw[hrl]at h1;exact zWv h1 (zX6 hR hR)
theorem zOb (c:Climb zA l G t w):Dst zA l G t w.length:=by
 cases c with
 |nil g=>exact zBj.mpr g
 |cons d x0 x1 e f c=>rw[zW1,zIU c e];exact d
theorem zFq:zG (zCs zA l G) t=if t∈zBd zA l G then some (zIh zA l G t) else none:=zKa
theorem zLz (m:IsM zA l) (o:zC0 zA G) (hR:zA.length<=26) (hr:M[jr]?=some (dT (zCs zA l G))) (u:Th zA p) (c:Climb zA l G p w) :
  Ok (zBa [mD zA,.ref jr,tI p] M) fun d M'=>d=tI w /\ ∃ us,M'=M++us:=by
 have hrl:=(zWX.mp hr).1;have hw:w.length<=676:=zWv (zT8 m o u (zOb c)) (zBu hR);unfold zBa;rw[zy];unfold zEX;rw[zI,zT];refine zE (M:=M) (a:=.fl []) (zJS rfl (by simp)) (za ?_);rw[zM];refine zC2 (d:=tI p) rfl ?_;rw[zI];refine zCQ (I:=fun z σ M'=>∃ (w1 w2 here:List Int) (y:Option D),w=w1++w2/\Climb zA l G here w2/\Th zA here/\z=w2.length/\σ=[some (mD zA),some (.ref jr),some (tI p),some (.ref M.length),some (tI here),y]/\M'=M++[.lst (w1.map D.int)]) ?_ 1000 w.length _ _ (by omega) ⟨[],w,p,none,rfl,c,u,rfl,rfl,rfl⟩;rintro z σ M' ⟨w1,w2,here,y,hw12,c2,u2,rfl,rfl,rfl⟩;have hM:(M++[MO.lst (w1.map D.int)])[jr]?=some (dT (zCs zA l G)):=by rw[zWb hrl];exact hr
 have hL:(M++[MO.lst (w1.map D.int)])[M.length]?=some (.lst (w1.map D.int)):=by simp
 have et:tst (fOp (zAm false) (zC 4) (zC 1)) [some (mD zA),some (.ref jr),some (tI p),some (.ref M.length),some (tI here),y] (M++[MO.lst (w1.map D.int)])=some ((zG (zCs zA l G) here).isSome,M++[MO.lst (w1.map D.int)]):=by
  have:=zK (k:=zAm false) (f:=zC 4) (g:=zC 1) (σ:=[some (mD zA),some (.ref jr),some (tI p),some (.ref M.length),some (tI here),y]) (x:=.dat (tI here)) (y:=.dat (.ref jr)) rfl rfl (zID hM);rw[zWm (by decide)]at this;exact zu this
 refine zE et ?_;cases c2 with
 |nil g=>
  have hlk:zG (zCs zA l G) here=none:=by rw[zFq,zWm (fun h=>by obtain ⟨_,n,hn⟩:=zCO.mp h;have:=zAy (zBj.mpr g) hn;omega)]
  rw[hlk];rw[zXE]at hw12;subst hw12;exact zAP (d:=tI w) (zCA (f:=zC 3) rfl (zb hL)) ⟨rfl,_,rfl⟩
 | @cons _ x w3 n d x0 x1 e f c3=>
  have hp:=zFo m o here (n+1) u2 (fun g=>by have:=zAy (zBj.mpr g) d;omega) d.1;have hin:here∈zBd zA l G:=zCO.mpr ⟨hp,n,d⟩;have fx:Fst zA l G here n x:=⟨x0,x1,e,f⟩;have hv:zIh zA l G here=.tup [.int ((n+1:Nat):Int),.int x]:=by unfold zIh;rw[zEU d,zMu d fx]
  have hlk:zG (zCs zA l G) here=some (.tup [.int ((n+1:Nat):Int),.int x]):=by rw[zFq,zWj hin,hv]
  rw[hlk];have hlen:=zYH List.length hw12;rw[zWk,zW1]at hlen;refine zC2 (d:=.int x) (zK (x:=.dat (.tup [.int ((n+1:Nat):Int),.int x])) (y:=.dat (.int 1)) (zK (x:=.dat (.ref jr)) (y:=.dat (tI here)) rfl rfl (zHQ hM hlk)) rfl (zBA zAF rfl)) ?_;rw[zI,zAt];refine zE1.mpr (zE (a:=.dat (.ref M.length)) (M:=M++[MO.lst (w1.map D.int)]) rfl ⟨⟨_,zAG hL⟩,zE (zc (d:=.int x) rfl) ((zBG hL (by rw[zWd];exact zWt (show w1.length<1000 by omega) (zW (by omega)))).mpr ?_)⟩);rw[zM];have hset:(M++[MO.lst (w1.map D.int)]).set M.length (.lst (w1.map D.int++[.int x]))=M++[MO.lst ((w1++[x]).map D.int)]:=by
   rw[List.set_append_right _ _ (zWa _)];simp
  rw[hset,zT];refine zE (zAd (zt (d:=mD zA) rfl (zt (d:=tI here) rfl (zc (d:=.int x) rfl))) (zKA m (by omega) u2.1 x0 x1)) ?_;exact ⟨w3.length,by simp,w1++[x],w3,setR zA here x,some (.int x),by rw[hw12];simp,c3,zDK m here x u2 ⟨x0,x1⟩,rfl,rfl,rfl⟩
def zAv (a b:Int):List Int:=[if b<a then b else a,if b>a then b else a]
theorem zPq (h:a≠b):(zAv a b).Pairwise (· < ·):=by
 unfold zAv;simp only[zYe,zWw,forall_eq,zWz,false_implies,implies_true,List.Pairwise.nil,and_true];split <;> split <;> omega
end Lac
namespace Lac
open PySem PySem.Spec PyProof.Rows L2 L3 ST Law
def zQ3:D->Bool
 |.non|.bl _|.int _=>true
 |_=>false
theorem zKy (h:zQ3 d=true):(zF6 d).isSome=true:=by cases d <;> first|rfl|cases h
theorem zQe (h:zQ3 d=true):kEq (.dat d) (.dat d) M=some (.dat (.bl true),M):=zO7 (zKy h)
theorem zKe {xs:List Int} (h:xs.Pairwise (· < ·)) (hi:i<xs.length):xs.filter (fun b=>decide (xs[i]<b))=xs.drop (i+1):=by
 have hg:=List.pairwise_iff_getElem.mp h;have h1:(xs.take (i+1)).filter (fun b=>decide (xs[i]<b))=[]:=by
  rw[List.filter_eq_nil_iff];intro b hb;obtain ⟨j,hj,rfl⟩:=List.getElem_of_mem hb;rw[zXs]at hj;rw[List.getElem_take,zXh];rcases zXq j i with q|q
  ·have:=hg j i (by omega) hi q;omega
  ·have:j=i:=by omega
   subst this;omega
 have h2:(xs.drop (i+1)).filter (fun b=>decide (xs[i]<b))=xs.drop (i+1):=by
  rw[List.filter_eq_self];intro b hb;obtain ⟨j,hj,rfl⟩:=List.getElem_of_mem hb;rw[List.length_drop]at hj;rw[List.getElem_drop,zXh];exact hg i (i+1+j) hi (by omega) (by omega)
 have key:∀ f:Int->Bool,(xs.take (i+1)).filter f=[]->(xs.drop (i+1)).filter f=xs.drop (i+1)->xs.filter f=xs.drop (i+1):=fun f a b=>by
  have:=List.filter_append (p:=f) (xs.take (i+1)) (xs.drop (i+1));rw[List.take_append_drop,a,b]at this;simpa using this
 exact key _ h1 h2
def zF2 (xs:List Int) (k:Nat):List (List Int):=(List.range k).flatMap fun i=>(xs.drop (i+1)).map fun b=>[xs.getD i 0,b]
theorem zOz {xs:List Int} (h:xs.Pairwise (· < ·)):zF2 xs xs.length=zO xs:=by
 have e:zO xs=(List.range xs.length).flatMap fun i=>(xs.filter fun b=>decide (xs.getD i 0<b)).map fun b=>[xs.getD i 0,b]:=by
  unfold zO;have:xs=(List.range xs.length).map fun i=>xs.getD i 0:=by
   have:=zHn (fun x:Int=>x) 0 xs;simpa using this.symm
  conv=>lhs;arg 2;rw[this]
  rw[List.flatMap_map]
 rw[e];unfold zF2;have:∀ i∈List.range xs.length,(xs.drop (i+1)).map (fun b=>[xs.getD i 0,b])=(xs.filter fun b=>decide (xs.getD i 0<b)).map fun b=>[xs.getD i 0,b]:=fun i hi=>by
  have hi':=zW8.mp hi;rw[<-zKe h hi'];congr 2;funext b;rw[zWZ,zWY hi'];rfl
 rw[List.flatMap_def,List.flatMap_def,List.map_congr_left this]
theorem zSi (xs:List Int):∀ k,(zF2 xs k).length<=k*xs.length:=by
 intro k;induction k with
 |zero=>simp[zF2]
 |succ k ih=>
  unfold zF2 at ih ⊢;rw[List.range_succ,List.flatMap_append,zWk];simp only[List.flatMap_cons,List.flatMap_nil,zXE,zWd,List.length_drop];rw[Nat.add_mul];omega
theorem zCt (n:Nat) (ps:List (List Int)):D.unds n (ps.map tI)=true:=by
 induction ps with
 |nil=>rfl
 |cons p r ih=>rw[zWn];unfold D.unds;rw[ih,show D.und n (tI p)=true from zAh p];rfl
theorem zOT (h:p≠q):zAv p q=ris [p,q]:=by
 refine (zPx (zPq h)).symm.trans (zNV fun x=>?_);unfold zAv;by_cases z:q<p
 ·rw[zWj z,zWm (by omega)];simp[or_comm]
 ·rw[zWm z,zWj (by omega)]
end Lac
namespace Lad
open PySem PySem.Spec PyProof.Rows L2 L3 ST Law
noncomputable def zDw:FS:=(zX (zo 1 (fC (.int 7)))
  (zX (zBo (zn (fSl (zC 0) zBr (zBS (fC (.int 63))))) (gN 2) (zo 1 (fOp zDN (fOp zAE (fOp zAE (fOp zMi (zC 1) (fC (.int 6364136223846793005))) (zC 2)) (fC (.int 1442695040888963407))) (fC (.int 2305843009213693951)))))
  (zAW (zJt "great" (zm [2] (zn (fSl (zC 0) zBr (zBS (fC (.int 63))))) (gN 2) (tst (fOp kGe (zC 2) (fOp zNz (fC (.int 10)) (fC (.int 18))))) (zC 2)) "seed" (zC 1)))))
noncomputable def zB8:FF:=zBN 3 zDw
noncomputable def zE4:FS:=(zX (sIf (tst (fOp kNe (fOp zq (zC 0) (fC (.str "great"))) (zAT zH))) (zX (zo 2 (fOp zDN (fOp kIx (fOp zq (zC 0) (fC (.str "great"))) (fC (.int 0))) (zC 1)))
  (zX (zMp (fOp zMe (fOp kIx (fOp zq (zC 0) (fC (.str "great"))) (fC (.int 0))) (zC 1)) (fOp zq (zC 0) (fC (.str "great"))) (fC (.int 0)))
  (zX (sIf (tst (fOp kEq (fOp kIx (fOp zq (zC 0) (fC (.str "great"))) (fC (.int 0))) (fC (.int 0)))) (zAa (fM zIN (fOp zq (zC 0) (fC (.str "great"))) (zD (toD (fC (.int 0))) zH))) zBB)
  (zAW (zC 2))))) zBB)
  (zX (zBZ (fOp zDN (fOp zAE (fOp zMi (fOp zq (zC 0) (fC (.str "seed"))) (fC (.int 3935559000370003845))) (fC (.int 2691343689449507681))) (fC (.int 2305843009213693951))) (zC 0) (fC (.str "seed")))
  (zX (zo 3 (fOp zMe (fOp zq (zC 0) (fC (.str "seed"))) (fC (.int 65537))))
  (zAW (fOp zDN (fOp zMe (fOp zDN (fOp zMi (zC 3) (zC 3)) (fC (.int 998244353))) (fC (.int 3))) (zC 1))))))
noncomputable def zd:FF:=zBN 4 zE4
abbrev gS (k:Nat) (s:Int):MO:=.dict [(.str "great", .ref k),(.str "seed", .int s)]
structure Gen (M:Mem) (n k:Nat):Prop where
 ex:∃ (c:List Int) (s:Int),M[n]?=some (gS k s)/\M[k]?=some (.lst (c.map D.int))/\(∀ x∈c,0<=x)/\c.length<=63/\0<=s/\s<2305843009213693951
 ne:n≠k
 wf:∀ (j:Nat) u,M[j]?=some u->MO.und M.length u=true
structure Nw (M M':Mem) (n k:Nat):Prop where
 gen:Gen M' n k
 len:M.length<=M'.length
 fr:∀ j,j<M.length->j≠n->j≠k->M'[j]?=M[j]?
theorem Nw.refl (h:Gen M n k):Nw M M n k:=⟨h,zWa _,fun _ _ _ _=>rfl⟩
theorem Nw.trans {M M1 M2:Mem} {n k:Nat} (a:Nw M M1 n k) (b:Nw M1 M2 n k):Nw M M2 n k :=
 ⟨b.gen,zWv a.len b.len,fun j h h1 h2=>(b.fr j (zWt h a.len) h1 h2).trans (a.fr j h h1 h2)⟩
theorem Gen.lt (h:Gen M n k):n<M.length/\k<M.length:=by
 obtain ⟨c,s,e1,e2,_⟩:=h.ex;exact ⟨(zWX.mp e1).1,(zWX.mp e2).1⟩
theorem zO5 (hk:k<N):MO.und N (gS k s)=true:=by
 unfold MO.und;simp[D.und,hk]
theorem Gen.put {M:Mem} (h:Gen M n k) {c:List Int} (hc:∀ x∈c,0<=x) (hl:c.length<=63) (h0:0<=s) (h1:s<2305843009213693951) :
  Nw M ((M.set k (.lst (c.map D.int))).set n (gS k s)) n k:=by
 obtain ⟨hn,hk⟩:=h.lt;refine ⟨⟨⟨c,s,?_,?_,hc,hl,h0,h1⟩,h.ne,fun j u e=>?_⟩,by simp,fun j _ h1 h2=>?_⟩
 ·rw[zXO (by simpa using hn)]
 ·rw[zWy h.ne,zXO hk]
 ·rw[zYn,zYn];rw[zX3]at e;split at e
  ·split at e
   ·cases e;exact zO5 hk
   ·cases e
  ·rw[zX3]at e;split at e
   ·rename_i z;subst z;cases e;exact zi _ _
   ·exact h.wf j u e
 ·rw[zWy (Ne.symm h1),zWy (Ne.symm h2)]
theorem Gen.app (h:Gen A n k) (hu:∀ u∈us,MO.und (A.length+us.length) u=true):Nw A (A++us) n k:=by
 obtain ⟨c,s,e1,e2,r⟩:=h.ex;obtain ⟨hn,hk⟩:=h.lt;refine ⟨⟨⟨c,s,by rw[zWb hn];exact e1,by rw[zWb hk];exact e2,r⟩,h.ne,fun j u e=>?_⟩,by simp,fun j hj _ _=>zWb hj⟩;rw[zWk];by_cases hj:j<A.length
 ·rw[zWb hj]at e;exact zBv (by omega) (h.wf j u e)
 ·rw[zXe (by omega)]at e;exact hu u (zXL e)
theorem Gen.lst (h:Gen A n k) (xs:List D) (hx:D.unds A.length xs=true):Nw A (A++[.lst xs]) n k:=h.app fun u hu=>by
 have:u=.lst xs:=by simpa using hu
 subst this;exact zCP (by simp) hx
theorem Nw.setB (h:Nw M A n k) (g:Gen M n k) (hj:M.length<=j) (hu:MO.und A.length u=true):Nw M (A.set j u) n k:=by
 obtain ⟨hn,hk⟩:=g.lt;obtain ⟨c,s,e1,e2,r⟩:=h.gen.ex;refine ⟨⟨⟨c,s,by rw[zWy (by omega)];exact e1,by rw[zWy (by omega)];exact e2,r⟩,g.ne,fun i v e=>?_⟩,by rw[zYn];exact h.len,fun i hi h1 h2=>by rw[zWy (by omega)];exact h.fr i hi h1 h2⟩;rw[zYn];rw[zX3]at e;split at e
 ·split at e
  ·cases e;exact hu
  ·cases e
 ·exact h.gen.wf i v e
theorem Nw.wf0 (h:Nw M M' n k) (g:Gen M n k):∀ (j:Nat) u,j<M.length->M'[j]?=some u->MO.und M.length u=true:=fun j u hj e=>by
 obtain ⟨hn,hk⟩:=g.lt;obtain ⟨c,s,e1,e2,r⟩:=h.gen.ex;by_cases q1:j=n
 ·subst q1;rw[e1]at e;cases e;exact zO5 hk
 ·by_cases q2:j=k
  ·subst q2;rw[e2]at e;cases e;exact zi _ _
  ·rw[h.fr j hj q1 q2]at e;exact g.wf j u e
theorem Nw.trim (h:Nw M M' n k) (g:Gen M n k):Nw M (M'.take M.length) n k:=by
 obtain ⟨hn,hk⟩:=g.lt;have tk:∀ j,j<M.length->(M'.take M.length)[j]?=M'[j]?:=fun j hj=>List.getElem?_take_of_lt hj;have tl:(M'.take M.length).length=M.length:=by have:=h.len;rw[zXs];omega
 obtain ⟨c,s,e1,e2,r⟩:=h.gen.ex;refine ⟨⟨⟨c,s,(tk n hn).trans e1,(tk k hk).trans e2,r⟩,g.ne,fun j u e=>?_⟩,by omega,fun j hj h1 h2=>(tk j hj).trans (h.fr j hj h1 h2)⟩;have hj:j<M.length:=by have:=(zWX.mp e).1;omega
 rw[tk j hj]at e;rw[tl];exact h.wf0 g j u hj e
theorem Nw.get (h:Nw M M' n k) (e:M[j]?=some u) (h1:j≠n) (h2:j≠k):M'[j]?=some u :=
 (h.fr j (zWX.mp e).1 h1 h2).trans e
theorem zIf (hf:f σ M=some (.dat (.ref n),M)) (hM:M[n]?=some (gS k s)):fOp zq f (fC (.str "great")) σ M=some (.dat (.ref k),M)/\fOp zq f (fC (.str "seed")) σ M=some (.dat (.int s),M):=by
 constructor
 ·refine zK hf rfl ?_;unfold zq zDC;dsimp only;rw[hM];rfl
 ·refine zK hf rfl ?_;unfold zq zDC;dsimp only;rw[hM];rfl
theorem zWA (hM:M[n]?=some (gS k s)):zDh M n (.str "seed") (.int s')=some (M.set n (gS k s')):=by
 unfold zDh;rw[hM];dsimp only[zCM];rw[zWj (show [(D.str (Str.ofString "great"),D.ref k),(D.str (Str.ofString "seed"),D.int s)].length<sizeLine from zW (n:=3) (by omega))];rfl
theorem zQ0 (h1:fv σ M=some (.dat v,M)) (h2:fo σ M=some (.dat (.ref n),M)) (h3:fi σ M=some (.dat k,M)) (h4:zDh M n k v=some M4) (q:P .nx σ M4):OkS (zBZ fv fo fi σ M) P:=by
 refine ⟨.nx,σ,M4,?_,q⟩;unfold zBZ toD;rw[h1];dsimp only;rw[h2];dsimp only;rw[h3];dsimp only;rw[h4]
theorem zD2 (h:0<b):zDN (.dat (.int a)) (.dat (.int b)) M=some (.dat (.int (a % b)),M):=zY (zSp.mpr ⟨h,rfl,rfl⟩)
theorem zPP (h:0<b/\b<1073741824):zMe (.dat (.int a)) (.dat (.int b)) M=some (.dat (.int (a / b)),M):=zY (zSj.mpr ⟨h,rfl,rfl⟩)
theorem zNU {M:Mem} (h:Gen M n k) (h0:0<m) (h1:m<1073741824) :
  Ok (zd [.ref n,.int m] M) fun d M'=>(∃ i,d=.int i/\0<=i/\i<m)/\Nw M M' n k/\M'.length=M.length:=by
 unfold zd;rw[zy];unfold zE4;obtain ⟨c,s,e1,e2,e3,e4,e5,e6⟩:=h.ex;obtain ⟨hn,hk⟩:=h.lt;rw[zI,zAp];have ne:Ok (tst (fOp kNe (fOp zq (zC 0) (fC (.str "great"))) (zAT zH)) [some (.ref n),some (.int m),none,none] M) fun b M'=>b=(!c.isEmpty)/\M'=M:=by
  refine zI6.mpr (zBP.mpr (zE (zIf rfl e1).1 (zD7.mpr (zAM.mpr ⟨zXG _,?_⟩))));rw[zSW (zAG e2) (by intro d e;cases e;rfl)];rw[zJD];exact ⟨by simp,rfl⟩
 refine Ok.mono ne ?_;rintro b M' ⟨rfl,rfl⟩;cases c with
 |nil=>
  simp only[List.isEmpty_nil,Bool.not_true,zXV,if_false];rw[zAc,zM,zI];have hs0:0<=(s*3935559000370003845+2691343689449507681) % 2305843009213693951:=Int.emod_nonneg _ (by decide);have hs1:(s*3935559000370003845+2691343689449507681) % 2305843009213693951<2305843009213693951:=Int.emod_lt_of_pos _ (by decide);have ev:fOp zDN (fOp zAE (fOp zMi (fOp zq (zC 0) (fC (.str "seed"))) (fC (.int 3935559000370003845))) (fC (.int 2691343689449507681))) (fC (.int 2305843009213693951)) [some (.ref n),some (.int m),none,none] M'=some (.dat (.int ((s*3935559000370003845+2691343689449507681) % 2305843009213693951)),M') :=
   zK (zK (zK (zIf rfl e1).2 rfl (zY (zQh.mpr ⟨by simp[zNj] <;> omega,rfl,rfl⟩))) rfl rfl) rfl (zD2 (by decide))
  generalize (s*3935559000370003845+2691343689449507681) % 2305843009213693951=s' at hs0 hs1 ev;refine zQ0 ev rfl rfl (zWA e1) ?_;rw[zM];have P:=h.put (c:=[]) (s:=s') (fun _ h=>by cases h) (by simp) hs0 hs1;rw[zK5 (show M'[k]?=some (.lst (([]:List Int).map D.int))from e2)]at P;have e1':(M'.set n (gS k s'))[n]?=some (gS k s'):=zXO hn;refine zC2 (zK (zIf rfl e1').2 rfl (zPP ⟨by decide,by decide⟩)) ?_;have hm0:0<=s' / 65537:=Int.ediv_nonneg hs0 (by decide);have hm1:s' / 65537<2305843009213693951:=by omega
  refine zAP (zK (zK (zK (zK (x:=.dat (.int (s' / 65537))) (y:=.dat (.int (s' / 65537))) rfl rfl (zY (zQh.mpr ⟨by simp[zNj] <;> omega,rfl,rfl⟩))) rfl (zD2 (by decide))) rfl (zPP ⟨by decide,by decide⟩)) rfl (zD2 h0)) ?_;exact ⟨⟨_,rfl,Int.emod_nonneg _ (by omega),Int.emod_lt_of_pos _ h0⟩,P,by simp⟩
 |cons x c=>
  simp only[List.isEmpty_cons,Bool.not_false,if_true];have hd:∀ {x:Int} {c:List Int} {M:Mem} {σ:Sd},zC 0 σ M=some (.dat (.ref n),M)->M[n]?=some (gS k s)->M[k]?=some (.lst ((x::c).map D.int))->fOp kIx (fOp zq (zC 0) (fC (.str "great"))) (fC (.int 0)) σ M=some (.dat (.int x),M):=fun {x c M σ} hf hM hK=>
   zK (zIf hf hM).1 rfl (zBA (zb hK) at0)
  refine zC2 (zK (hd rfl e1 e2) rfl (zD2 h0)) ?_;rw[zI,zM6];refine zBP.mpr (zE (hd rfl e1 e2) (zAU.mpr ⟨_,rfl,zSj.mpr ⟨⟨h0,h1⟩,?_⟩⟩));rw[zJ];refine zE (zIf rfl e1).1 (zFO.mpr ?_);rw[zJ];refine ⟨_,zLN (k:=0) e2 (by simp),?_⟩;rw[zM,zI];have hx:=e3 x zWi;have hq:0<=x / m:=Int.ediv_nonneg hx (by omega);have e2':(M'.set k (.lst (((x / m)::c).map D.int)))[k]?=some (.lst (((x / m)::c).map D.int)):=zXO hk;have e1':(M'.set k (.lst (((x / m)::c).map D.int)))[n]?=some (gS k s):=by rw[zWy (Ne.symm h.ne)];exact e1
  rw[zAp];refine zE (zu (zK (hd rfl e1' e2') rfl (zY (zKo.mpr ⟨rfl,rfl⟩)))) ?_;have fin:∀ (c':List Int),(∀ y∈c',0<=y)->c'.length<=63->Nw M' (M'.set k (.lst (c'.map D.int))) n k:=fun c' q1 q2=>by
   have P:=h.put (c:=c') (s:=s) q1 q2 e5 e6;rw[zK5 (k:=n) (by rw[zWy (Ne.symm h.ne)];exact e1)]at P;exact P
  by_cases hz:x / m=0
  ·rw[zWj (by simpa using hz),zAt];refine zE1.mpr (zE (zIf rfl e1').1 ⟨⟨_,zAG e2'⟩,zh.mpr (zAJ.mpr (zFO.mpr (zJ.mpr (zAM.mpr ?_))))⟩);rw[zWn]at e2' ⊢;rw[zS3 e2',zM];refine zAP rfl ⟨⟨_,rfl,Int.emod_nonneg _ (by omega),Int.emod_lt_of_pos _ h0⟩,?_,by simp⟩;rw[List.set_set];exact fin c (fun y hy=>e3 y (zWh _ hy)) (by simp at e4;omega)
  ·rw[zWm (by simpa using hz),zAc,zM];refine zAP rfl ⟨⟨_,rfl,Int.emod_nonneg _ (by omega),Int.emod_lt_of_pos _ h0⟩,fin ((x / m)::c) (fun y hy=>?_) (by simpa using e4),by simp⟩;rcases zWg.mp hy with z|z
   ·subst z;exact hq
   ·exact e3 y (zWh _ z)
theorem zAo (h:Gen M n k) (ha:fa σ M=some (.dat (.ref n),M)) (hb:fb σ M=some (.dat (.int m),M)) (h0:0<m) (h1:m<1073741824)
  (q:∀ i M',0<=i->i<m->Nw M M' n k->M'.length=M.length->P (.dat (.int i)) M'):Ok (zP zd (zD (toD fa) (zD (toD fb) zH)) σ M) P:=by
 rw[zAS,zh,zAJ];refine ⟨_,_,ha,?_⟩;rw[zJ,zh,zAJ];refine ⟨_,_,hb,?_⟩;rw[zJ,zAM];refine Ok.mono (zNU h h0 h1) ?_;rintro d M' ⟨⟨i,rfl,i0,i1⟩,nx,hl⟩;exact q i M' i0 i1 nx hl
theorem zPp {ns:List Int} (h:ns.length<=63):Ok (zB8 [.ref 0] [.fro (ns.map D.int)]) fun d M'=>d=.ref 1/\Gen M' 1 2/\M'[0]?=some (.fro (ns.map D.int)):=by
 unfold zB8;rw[zy];unfold zDw;have e0:([.fro (ns.map D.int)]:Mem)[0]?=some (.fro (ns.map D.int)):=rfl;obtain ⟨cut,ec,lc⟩:=zRE ns none (some 63);have sl:∀ {σ:Sd} {us:Mem},σ[0]?=some (some (.ref 0))->fSl (zC 0) zBr (zBS (fC (.int 63))) σ (.fro (ns.map D.int)::us)=some (.fl (cut.map D.int),.fro (ns.map D.int)::us):=fun {σ us} hσ=>by
  refine zY (zVW.mpr (zAU.mpr ⟨_,hσ,zPt.mpr (zP2.mpr (zFO.mpr (zPD.mpr ?_)))⟩));rw[zTV (zNE (xs:=ns.map D.int) rfl) rfl,ec];exact ⟨rfl,rfl⟩
 refine zC2 rfl ?_;rw[zI,zAe];refine ⟨_,_,_,zCp (sl rfl) zCw,?_⟩;refine zAZ (I:=fun r σ M=>M=[.fro (ns.map D.int)]/\(∃ c:List Int,r=c.map D.int) /\ ∃ s y,σ=[some (.ref 0),some (.int s),y]/\0<=s/\s<2305843009213693951) ?_ ?_ _ _ _ ⟨rfl,⟨cut,rfl⟩,_,none,rfl,by decide,by decide⟩
 ·rintro x r σ M ⟨rfl,⟨c,hc⟩,s,y,rfl,h0,h1⟩;obtain ⟨z,c',rfl,rfl,rfl⟩:=zA5 hc;refine ⟨zAH,_,rfl,?_⟩;rw[zT];refine zBP.mpr (zBP.mpr (zBP.mpr (zBP.mpr (zAU.mpr ⟨_,rfl,zFO.mpr (zQh.mpr ⟨by simp[zNj],?_⟩)⟩))));refine zAU.mpr ⟨_,rfl,zFf.mpr (zFO.mpr (zFf.mpr (zFO.mpr (zSp.mpr ⟨by decide,?_⟩))))⟩;rw[zJ];exact ⟨rfl,⟨c',rfl⟩,_,_,rfl,Int.emod_nonneg _ (by decide),Int.emod_lt_of_pos _ (by decide)⟩
 ·rintro σ M ⟨rfl,_,s,y,rfl,h0,h1⟩;refine ⟨zAH,?_⟩;rw[zM,zA8];have cp:Ok (zm [2] (zn (fSl (zC 0) zBr (zBS (fC (.int 63))))) (gN 2) (tst (fOp kGe (zC 2) (fOp zNz (fC (.int 10)) (fC (.int 18))))) (zC 2) [some (.ref 0),some (.int s),y] [.fro (ns.map D.int),.dict []]) fun x M=>M=[.fro (ns.map D.int),.dict []] /\ ∃ b:List Int,x=.fl (b.map D.int)/\b.length<=63 /\ ∀ x∈b,0<=x:=by
   rw[zCo];refine ⟨_,_,_,zCp (sl rfl) zCw,by rw[zWd];exact zW (by omega),?_⟩;refine Ok.mono (zBk (I:=fun r acc M=>M=[.fro (ns.map D.int),.dict []]/\(∃ c:List Int,r=c.map D.int)/\r.length+acc.length<=63 /\ ∃ b:List Int,acc=b.map D.int /\ ∀ x∈b,0<=x) (Q:=fun acc M=>M=[.fro (ns.map D.int),.dict []]/\acc.length<=63 /\ ∃ b:List Int,acc=b.map D.int /\ ∀ x∈b,0<=x) ?_ ?_ _ [] _ ⟨rfl,⟨cut,rfl⟩,by simp;omega,[],rfl,fun _ h=>by cases h⟩) ?_
   ·rintro x r acc M ⟨rfl,⟨c,hc⟩,hl,b,rfl,hb⟩;obtain ⟨z,c',rfl,rfl,rfl⟩:=zA5 hc;refine ⟨zAH,_,rfl,?_⟩;refine zI6.mpr (zBP.mpr (zAU.mpr ⟨_,rfl,zBP.mpr (zFO.mpr (zFO.mpr (zU8.mpr ⟨by decide,zWF.mpr (zJD.mpr ?_)⟩)))⟩));by_cases hz:(10:Int) ^ (18:Int).toNat<=z
    ·rw[zWj (by simpa using hz)];have big:(0:Int)<=10 ^ (18:Int).toNat:=by decide
     refine zAU.mpr ⟨_,rfl,zJ.mpr ⟨rfl,⟨c',rfl⟩,?_,b++[z],by simp,?_⟩⟩
     ·simp at hl ⊢;omega
     ·intro y hy;rcases zWu.mp hy with q|q
      ·exact hb y q
      ·have:y=z:=by simpa using q
       rw[this];exact Int.le_trans big hz
    ·rw[zWm (by simpa using hz)];exact ⟨rfl,⟨c',rfl⟩,by simp at hl ⊢;omega,b,rfl,hb⟩
   ·rintro acc M ⟨rfl,_,hl,hb⟩;exact ⟨zAH,rfl,by simpa using hl,hb⟩
   ·rintro ys M ⟨rfl,hl,b,hb,hp⟩;rw[List.nil_append]at hb hl;subst hb;exact ⟨rfl,b,rfl,by simpa using hl,hp⟩
  obtain ⟨x,M1,ex,rfl,b,rfl,hl,hb⟩:=cp;refine zE (M:=[.fro (ns.map D.int),gS 2 s,.lst (b.map D.int)]) (a:=.dat (.ref 1)) ?_ ?_
  ·unfold zJt;have e1:toD (zm [2] (zn (fSl (zC 0) zBr (zBS (fC (.int 63))))) (gN 2) (tst (fOp kGe (zC 2) (fOp zNz (fC (.int 10)) (fC (.int 18))))) (zC 2)) [some (.ref 0),some (.int s),y] ([.fro (ns.map D.int)]++[.dict []])=some (.ref 2,[.fro (ns.map D.int),.dict [],.lst (b.map D.int)]):=by
    unfold toD;rw[show ([.fro (ns.map D.int)]++[.dict []]:Mem)=[.fro (ns.map D.int),.dict []]from rfl,ex];rfl
   rw[e1];rfl
  ·rw[zJ];refine ⟨rfl,⟨⟨b,s,rfl,rfl,hb,hl,h0,h1⟩,by decide,?_⟩,rfl⟩;intro j u e;match j,e with
   |0,e=>cases e;exact zi _ _
   |1,e=>cases e;rfl
   |2,e=>cases e;exact zi _ _
   |j+3,e=>simp at e
noncomputable def zDP:FS:=(zX (zo 3 (zm [4] (zv (zD (toD (zC 1)) zH)) (gN 4) zr (zP zd (zD (toD (zC 0)) (zD (toD (zC 1)) zH)))))
  (zX (zOO (zBp 5 6) (zAV (zD (toD (fOp kIx (zC 3) (fC (.int 0)))) (zD (toD (fOp kIx (zC 3) (zPm (fC (.int 1))))) zH))))
  (zX (sIf (tst (fOp kEq (zC 2) (fC (.int 0)))) (zAW (zC 3)) zBB)
  (zX (sIf (tst (fOp kEq (zC 2) (fC (.int 5)))) (zAW (fOp zJC (zAT (zD (toD (zC 5)) zH)) (zC 1))) zBB)
  (zX (sIf (tst (fOp kEq (zC 2) (fC (.int 6)))) (zAW (zm [4,7] (zF7 (zC 3)) (zBp 4 7) zr (vIf (tst (fOp kLe (zC 4) (zC 5))) (fOp zDN (zC 7) (fOp zAE (zC 5) (fC (.int 1)))) (fOp zAE (fOp zAE (zC 5) (fC (.int 1))) (fOp zDN (zC 7) (fOp zHz (fOp zHz (zC 1) (zC 5)) (fC (.int 1)))))))) zBB)
  (zX (zo 8 (zFd (zC 1)))
  (zX (sIf (tst (fOp kEq (zC 2) (fC (.int 3)))) (zAW (fOp zGB (fSl (zC 8) (zBS (fC (.int 1))) zBr) (fSl (zC 8) zBr (zBS (fC (.int 1)))))) zBB)
  (zX (sIf (tst (fOp kLt (zC 2) (fC (.int 3)))) (zX (zo 9 (zFd (zC 1)))
  (zo 8 (zm [7] (zn (zC 3)) (gN 7) zr (fM zIN (zC 9) (zD (toD (fOp zDN (zC 7) (fB zAk (zS (zC 9) zg)))) zH))))) zBB)
  (zX (sIf (tst (fOp (kIn false) (zC 2) (zAV (zD (toD (fC (.int 2))) (zD (toD (fC (.int 4))) zH))))) (zMp (fOp kIx (zC 8) (zC 6)) (zC 8) (zC 5)) zBB)
  (zAW (zC 8)))))))))))
noncomputable def zAg:FF:=zBN 10 zDP
noncomputable def zCv:FS:=(zX (zo 3 (fOp zAE (fC (.int 1)) (zP zd (zD (toD (zC 0)) (zD (toD (fOp kIx (zAT (zD (toD (fC (.int 3))) (zD (toD (fC (.int 7))) (zD (toD (zC 1)) zH)))) (zP zd (zD (toD (zC 0)) (zD (toD (fC (.int 3))) zH))))) zH)))))
  (zX (zo 4 (fOp zAE (fC (.int 1)) (zP zd (zD (toD (zC 0)) (zD (toD (zC 2)) zH)))))
  (zX (zo 5 (zP zd (zD (toD (zC 0)) (zD (toD (fC (.int 10))) zH))))
  (zX (zo 6 (zAT zH))
  (zX (zBo (zv (zD (toD (zC 4)) zH)) (gN 7) (zX (zo 8 (fOp kIx (zAT (zD (toD (fC (.int 3))) (zD (toD (fC (.int 4))) zH))) (fOp zDN (zC 7) (fC (.int 2)))))
  (zX (sIf (tst (fOp kLt (zC 5) (fC (.int 7)))) (zo 8 (zC 5)) zBB)
  (zX (sIf (tst (fOp kEq (zC 5) (fC (.int 9)))) (zo 8 (zP zd (zD (toD (zC 0)) (zD (toD (fC (.int 7))) zH)))) zBB)
  (zAa (fM zk (zC 6) (zD (toD (zP zAg (zD (toD (zC 0)) (zD (toD (zC 3)) (zD (toD (zC 8)) zH))))) zH)))))))
  (zX (sIf (tst (fOp kEq (zC 5) (fC (.int 8)))) (zo 6 (fOp zJC (fSl (zC 6) zBr (zBS (fC (.int 1)))) (zC 4))) zBB)
  (zAW (fB zAu (zS (zm [10] (zv (zD (toD (zC 3)) zH)) (gN 10) zr (fB zAu (zS (zm [9] (zn (zC 6)) (gN 9) zr (fOp kIx (zC 9) (zC 10))) zg))) zg)))))))))
noncomputable def zA4:FF:=zGH (zBN 11 zCv)
def Col (many:Int) (c:List Int):Prop:=(c.length:Int)=many /\ ∀ x∈c,0<=x/\x<many
theorem zKu (h:Gen M n k) (h0:0<few) (h1:few<1073741824) (m0:0<=many) (m1:many<=90000)
  (hf:f σ M=some (.dat (.int many),M)) (ha:∀ (x:D) (M:Mem),fa ((zBD own σ).set i (some x)) M=some (.dat (.ref n),M)) (hb:∀ (x:D) (M:Mem),fb ((zBD own σ).set i (some x)) M=some (.dat (.int few),M)) :
  Ok (zm own (zv (zD (toD f) zH)) (gN i) zr (zP zd (zD (toD fa) (zD (toD fb) zH))) σ M) fun x M'=>(∃ c:List Int,x=.fl (c.map D.int)/\(c.length:Int)=many /\ ∀ y∈c,0<=y/\y<few)/\Nw M M' n k/\M'.length=M.length:=by
 refine zCo.mpr ⟨_,_,_,zBi hf m0 (by omega),by rw[zCy];exact zW (by omega),?_⟩;refine Ok.mono (zTo (n:=many.toNat) (I:=fun j acc M2=>(∃ c:List Int,acc=c.map D.int/\c.length=j /\ ∀ y∈c,0<=y/\y<few)/\Nw M M2 n k/\M2.length=M.length) ?_ ⟨⟨[],rfl,rfl,fun _ h=>by cases h⟩,Nw.refl h,rfl⟩) ?_
 ·rintro j acc M2 hj ⟨⟨c,rfl,hcl,hc⟩,nw,hl⟩;refine ⟨_,rfl,?_⟩;refine zAo nw.gen (ha _ _) (hb _ _) h0 h1 fun g M3 g0 g1 nw3 hl3=>?_;rw[zJ];refine ⟨⟨c++[g],by simp,by simp[hcl],fun z hz=>?_⟩,nw.trans nw3,by omega⟩;rcases zWu.mp hz with q|q
  ·exact hc z q
  ·have:z=g:=by simpa using q
   subst this;exact ⟨g0,g1⟩
 ·rintro ys M2 ⟨⟨c,rfl,hcl,hc⟩,nw,hl⟩;exact ⟨⟨c,rfl,by omega,hc⟩,nw,hl⟩
theorem zNC (j:Nat):upD j=((List.range j).map fun (k:Nat)=>(k:Int)).map D.int:=by
 unfold upD;rw[zWs];rfl
theorem zT0 (h:0<=many):Col many ((List.range many.toNat).map fun (k:Nat)=>(k:Int)):=by
 refine ⟨by simp;omega,fun x hx=>?_⟩;obtain ⟨k,hk,rfl⟩:=zWl.mp hx;have:=zW8.mp hk;omega
theorem za (h:P (.ref M.length) (M++[.lst xs])):zGa P (.fl xs) M:=h
theorem zR (A:Mem) (u:MO):(A++[u])[A.length]?=some u:=by simp
theorem zPV (h:Col many c) (hj:j<c.length):Col many (c.set i (c.getD j 0)):=by
 refine ⟨by rw[zYn];exact h.1,fun x hx=>?_⟩;rcases List.mem_or_eq_of_mem_set hx with q|q
 ·exact h.2 x q
 ·rw[q,zWZ,zWY hj];exact h.2 _ (zW2 hj)
theorem zKM (h:Col many c) (hj:j<c.length):0<=c.getD j 0/\c.getD j 0<many:=by
 rw[zWZ,zWY hj];exact h.2 _ (zW2 hj)
theorem zFX (xs:List Int) (i:Nat):(xs.eraseIdx i).map D.int=(xs.map D.int).eraseIdx i:=by
 induction xs generalizing i with
 |nil=>rfl
 |cons x r ih=>
  cases i with
  |zero=>rfl
  |succ i=>simp[ih]
theorem zIt:L3.zDI xs none (some 1)=xs.take 1:=by
 have s:HT.sIx xs.length xs.length (some 1)=min 1 xs.length:=HT.zGd xs.length xs.length 1;have z:HT.sIx xs.length 0 none=0:=rfl;unfold L3.zDI;rw[s,z];simp only[List.drop_zero,Nat.sub_zero];cases xs with
 |nil=>rfl
 |cons a r=>simp
theorem slL {f:FE} {fl fh:FO} {σ:Sd} {M:Mem} {x:EV} {xs:List D} {lo hi:Option Int} (hf:f σ M=some (x,M)) (ht:zCH x=none) (hx:zBR M x=some xs) (hl:fl σ M=some (lo,M)) (hh:fh σ M=some (hi,M)):fSl f fl fh σ M=some (.fl (L3.zDI xs lo hi),M):=by
 unfold fSl;rw[hf];dsimp only;rw[hl];dsimp only;rw[hh];dsimp only;unfold kSl;rw[ht];dsimp only;rw[hx]
theorem zOJ {M:Mem} {n k:Nat} (h:Gen M n k) {many way:Int} (m0:0<many) (m1:many<=1000) :
  Ok (zAg [.ref n,.int many,.int way] M) fun d M'=>∃ j c,d=.ref j/\M'[j]?=some (.lst (c.map D.int))/\Col many c/\M.length<=j/\Nw M M' n k:=by
 obtain ⟨hn,hk⟩:=h.lt;unfold zAg;rw[zy];unfold zDP;rw[zI,zT];refine Ok.mono (zKu h m0 (by omega) (by omega) (by omega) rfl (fun _ _=>rfl) (fun _ _=>rfl)) ?_;rintro x M1 ⟨⟨c,rfl,hcl,hc⟩,nw1,hl1⟩;refine za ?_;rw[zM];have nw2:=nw1.trans (nw1.gen.lst (c.map D.int) (zi _ _));have e3:(M1++[MO.lst (c.map D.int)])[M1.length]?=some (.lst (c.map D.int)):=zR _ _;generalize hM2:M1++[MO.lst (c.map D.int)]=M2 at nw2 e3;have hj3:M.length<=M1.length:=nw1.len;generalize hj:M1.length=j3 at e3 hj3;have cl:c.length=many.toNat:=by omega
 have cc:Col many c:=⟨hcl,hc⟩;have hfst:atI (c.map D.int) 0=some (.int (c.getD 0 0)):=zDt (by decide) (by omega);have hlst:atI (c.map D.int) (-1)=some (.int (c.getD (c.length-1) 0)):=by
  have hne:c≠[]:=by intro e;rw[e]at cl;simp at cl;omega
  have e:=(List.dropLast_concat_getLast hne).symm;have eg:c.getD (c.length-1) 0=c.getLast hne:=by
   rw[zWZ,zWY (by omega),List.getLast_eq_getElem];rfl
  rw[eg];generalize c.getLast hne=z at e;rw[e,zXM];exact L2.zLS _ _
 obtain ⟨o0,o1⟩:=zKM cc (j:=0) (by omega);obtain ⟨p0,p1⟩:=zKM cc (j:=c.length-1) (by omega);generalize c.getD 0 0=one at hfst o0 o1;generalize c.getD (c.length-1) 0=oth at hlst p0 p1;rw[zI,zNZ];have etup:zAV (zD (toD (fOp kIx (zC 3) (fC (.int 0)))) (zD (toD (fOp kIx (zC 3) (zPm (fC (.int 1))))) zH)) [some (.ref n),some (.int many),some (.int way),some (.ref j3),none,none,none,none,none,none] M2=some (.dat (.tup [.int one,.int oth]),M2):=by
  unfold zAV;rw[zt (zK rfl rfl (zBA (zb e3) hfst)) (zc (zK (y:=.dat (.int (-1))) rfl rfl (zBA (zb e3) hlst)))];dsimp only;rw[zWj (zW (by simp))]
 refine zE etup ?_;rw[zJ];refine ⟨_,rfl,?_⟩;rw[zM];have isw:∀ (j:Int) (σ:Sd) (M:Mem),σ[2]?=some (some (.int way))->tst (fOp kEq (zC 2) (fC (.int j))) σ M=some (decide (way=j),M):=fun j σ M e=>by
  have v4:zC 2 σ M=some (.dat (.int way),M):=by unfold zC;rw[e]
  exact zu (zK v4 rfl (zY (zKo.mpr ⟨rfl,rfl⟩)))
 have new:∀ (A:Mem) (c':List Int),Nw M A n k->Col many c' -> ∃ j c,D.ref A.length=D.ref j/\(A++[MO.lst (c'.map D.int)])[j]?=some (.lst (c.map D.int))/\Col many c/\M.length<=j/\Nw M (A++[MO.lst (c'.map D.int)]) n k:=fun A c' nw hc'=>
  ⟨A.length,c',rfl,zR _ _,hc',nw.len,nw.trans (nw.gen.lst _ (zi _ _))⟩
 rw[zI,zAp];refine zE (isw 0 _ _ rfl) ?_;by_cases w0:way=0
 ·rw[zWj (by simpa using w0)];exact zAP rfl ⟨j3,c,rfl,e3,cc,hj3,nw2⟩
 rw[zWm (by simpa using w0),zAc,zM,zI,zAp];refine zE (isw 5 _ _ rfl) ?_;by_cases w5:way=5
 ·rw[zWj (by simpa using w5),zA8];refine zBP.mpr (zD7.mpr (zh.mpr (zAJ.mpr (zAU.mpr ⟨_,rfl,zJ.mpr (zAM.mpr ⟨zW (by simp),zAU.mpr ⟨_,rfl,?_⟩⟩)⟩))));have er:zJC (.fl [.int one]) (.dat (.int many)) M2=some (.fl ((List.replicate many.toNat one).map D.int),M2):=by
   unfold zJC;dsimp only[zCH,zJn];rw[zWj ⟨by omega,by omega,zW (by simp;omega)⟩];have:(List.replicate many.toNat [D.int one]).flatten=(List.replicate many.toNat one).map D.int:=by
    rw[List.map_replicate];generalize many.toNat=q;induction q with
    |zero=>rfl
    |succ q ih=>rw[zXn,zYT,ih,zXn];rfl
   rw[this]
  refine zE er (za ?_);rw[zJa];refine new M2 _ nw2 ⟨by simp;omega,fun x hx=>?_⟩;rw[(List.mem_replicate.mp hx).2];exact ⟨o0,o1⟩
 rw[zWm (by simpa using w5),zAc,zM,zI,zAp];refine zE (isw 6 _ _ rfl) ?_;by_cases w6:way=6
 ·rw[zWj (by simpa using w6),zA8];have hen:zF7 (zC 3) [some (.ref n),some (.int many),some (.int way),some (.ref j3),none,some (.int one),some (.int oth),none,none,none] M2=some (((List.range c.length).zip c).map fun q=>D.tup [.int (q.1:Nat),.int q.2],zCz (.dat (.ref j3)) (c.map D.int),M2):=by
   unfold zF7;rw[show zC 3 [some (.ref n),some (.int many),some (.int way),some (.ref j3),none,some (.int one),some (.int oth),none,none,none] M2=some (.dat (.ref j3),M2)from rfl];dsimp only;rw[zb e3];dsimp only;unfold zJJ;rw[zWd,List.zip_map_right,zWs];rfl
  have step:∀ q∈(List.range c.length).zip c,(0<=(if (q.1:Int)<=one then q.2 % (one+1) else one+1+q.2 % (many-one-1))/\(if (q.1:Int)<=one then q.2 % (one+1) else one+1+q.2 % (many-one-1))<many)/\(one<(q.1:Int)->0<many-one-1):=by
   intro q hq;have hq1:=zW8.mp (List.of_mem_zip hq).1;by_cases hle:(q.1:Int)<=one
   ·rw[zWj hle];have:=Int.emod_nonneg q.2 (show one+1≠0 by omega);have:=Int.emod_lt_of_pos q.2 (show 0<one+1 by omega);omega
   ·rw[zWm hle];have h1:0<many-one-1:=by omega
    have:=Int.emod_nonneg q.2 (show many-one-1≠0 by omega);have:=Int.emod_lt_of_pos q.2 h1;omega
  have ec:=zAs (own:=[4,7]) (g:=zBp 4 7) (te:=vIf (tst (fOp kLe (zC 4) (zC 5))) (fOp zDN (zC 7) (fOp zAE (zC 5) (fC (.int 1)))) (fOp zAE (fOp zAE (zC 5) (fC (.int 1))) (fOp zDN (zC 7) (fOp zHz (fOp zHz (zC 1) (zC 5)) (fC (.int 1)))))) ((List.range c.length).zip c) (fun q=>D.tup [.int (q.1:Nat),.int q.2]) (fun q=> .int (if (q.1:Int)<=one then q.2 % (one+1) else one+1+q.2 % (many-one-1))) hen ?_ ?_ ?_
  ·refine zE ec (za ?_);rw[zJa,show (fun q:Nat × Int=>D.int (if (q.1:Int)<=one then q.2 % (one+1) else one+1+q.2 % (many-one-1)))=D.int∘(fun q:Nat × Int=>(if (q.1:Int)<=one then q.2 % (one+1) else one+1+q.2 % (many-one-1)))from rfl,<-zWs];refine new M2 _ nw2 ⟨by simp;omega,fun x hx=>?_⟩;obtain ⟨q,hq,rfl⟩:=zWl.mp hx;exact (step q hq).1
  ·exact .inl e3
  ·simp;omega
  ·intro q hq;refine ⟨_,rfl,?_⟩;have hs:=step q hq;unfold vIf;have ht:tst (fOp kLe (zC 4) (zC 5)) [some (.ref n),some (.int many),some (.int way),some (.ref j3),some (.int (q.1:Nat)),some (.int one),some (.int oth),some (.int q.2),none,none] M2=some (decide ((q.1:Int)<=one),M2):=zu (zK rfl rfl (zY (zWK.mpr ⟨rfl,rfl⟩)));show (match tst (fOp kLe (zC 4) (zC 5)) [some (.ref n),some (.int many),some (.int way),some (.ref j3),some (.int (q.1:Nat)),some (.int one),some (.int oth),some (.int q.2),none,none] M2 with|some (true,M1)=>_|some (false,M1)=>_|none=>none)=_;rw[ht];by_cases hle:(q.1:Int)<=one
   ·rw[zXc hle,zWj hle];exact zK (x:=.dat (.int q.2)) (y:=.dat (.int (one+1))) rfl rfl (zD2 (by omega))
   ·rw[zW3 hle,zWm hle];exact zK (x:=.dat (.int (one+1))) rfl (zK (x:=.dat (.int q.2)) (y:=.dat (.int (many-one-1))) rfl rfl (zD2 (hs.2 (by omega)))) rfl
 rw[zWm (by simpa using w6),zAc,zM,zI,zT];have elr:∀ {σ:Sd} {A:Mem},σ[1]?=some (some (.int many))->zFd (zC 1) σ A=some (.fl (((List.range many.toNat).map fun (k:Nat)=>(k:Int)).map D.int),A):=fun {σ A} e=>by
  unfold zFd zC;rw[e];dsimp only;rw[zWj ⟨by omega,by omega⟩,zNC]
 refine zE (elr rfl) (za ?_);rw[zM];have nw4:=nw2.trans (nw2.gen.lst (((List.range many.toNat).map fun (k:Nat)=>(k:Int)).map D.int) (zi _ _));have e8:(M2++[MO.lst (((List.range many.toNat).map fun (k:Nat)=>(k:Int)).map D.int)])[M2.length]?=some (.lst (((List.range many.toNat).map fun (k:Nat)=>(k:Int)).map D.int)):=zR _ _;have e3':(M2++[MO.lst (((List.range many.toNat).map fun (k:Nat)=>(k:Int)).map D.int)])[j3]?=some (.lst (c.map D.int)):=by
  rw[zWb (zWX.mp e3).1];exact e3
 have hj8:M.length<=M2.length:=nw2.len;have hj38:j3<M2.length:=(zWX.mp e3).1;generalize hM4:M2++[MO.lst (((List.range many.toNat).map fun (k:Nat)=>(k:Int)).map D.int)]=M4 at nw4 e8 e3';generalize hj8':M2.length=j8 at e8 hj8 hj38;have cu:=zT0 (many:=many) (by omega);generalize hup:((List.range many.toNat).map fun (k:Nat)=>(k:Int))=up at e8 cu elr;rw[zI,zAp];refine zE (isw 3 _ _ rfl) ?_;by_cases w3:way=3
 ·rw[zWj (by simpa using w3),zA8];have s1:=slL (f:=zC 8) (fl:=zBS (fC (.int 1))) (fh:=zBr) (σ:=[some (.ref n),some (.int many),some (.int way),some (.ref j3),none,some (.int one),some (.int oth),none,some (.ref j8),none]) rfl rfl (zAG e8) (oS (i:=1) rfl) rfl;have s2:=slL (f:=zC 8) (fl:=zBr) (fh:=zBS (fC (.int 1))) (σ:=[some (.ref n),some (.int many),some (.int way),some (.ref j3),none,some (.int one),some (.int oth),none,some (.ref j8),none]) rfl rfl (zAG e8) rfl (oS (i:=1) rfl);have hul:up.length=many.toNat:=by have:=cu.1;omega
  rw[zOy (by decide) (by rw[zWd];omega)]at s1;rw[zIt]at s2;refine zBP.mpr (zE s1 (zE s2 (zLv rfl rfl (by simp;omega) (za ?_))));rw[zJa,show (1:Int).toNat=1 from rfl,<-List.map_drop,<-List.map_take,<-zXM];refine new M4 _ nw4 ⟨by simp;omega,fun x hx=>?_⟩;rcases zWu.mp hx with q|q
  ·exact cu.2 x (List.mem_of_mem_drop q)
  ·exact cu.2 x (List.mem_of_mem_take q)
 rw[zWm (by simpa using w3),zAc,zM,zI]
 have tail:∀ (y7 y9:Option D) (A:Mem) (j:Nat) (c':List Int),Nw M A n k->M.length<=j->A[j]?=some (.lst (c'.map D.int))->Col many c' ->
   OkS (zX (sIf (tst (fOp (kIn false) (zC 2) (zAV (zD (toD (fC (.int 2))) (zD (toD (fC (.int 4))) zH))))) (zMp (fOp kIx (zC 8) (zC 6)) (zC 8) (zC 5)) zBB) (zAW (zC 8)) [some (.ref n),some (.int many),some (.int way),some (.ref j3),none,some (.int one),some (.int oth),y7,some (.ref j),y9] A) fun o x M1=>match o with|.ret d=>∃ j c,d=.ref j/\M1[j]?=some (.lst (c.map D.int))/\Col many c/\M.length<=j/\Nw M M1 n k|.nx=>∃ j c,D.non=.ref j/\M1[j]?=some (.lst (c.map D.int))/\Col many c/\M.length<=j/\Nw M M1 n k|_=>False:=by
  intro y7 y9 A j c' nw hj ej hc';rw[zI,zAp];have hin:tst (fOp (kIn false) (zC 2) (zAV (zD (toD (fC (.int 2))) (zD (toD (fC (.int 4))) zH)))) [some (.ref n),some (.int many),some (.int way),some (.ref j3),none,some (.int one),some (.int oth),y7,some (.ref j),y9] A=some ([2,4].any fun y:Int=>decide (y=way),A):=by
   refine zu (zK (x:=.dat (.int way)) (y:=.dat (.tup [.int 2,.int 4])) rfl ?_ rfl);unfold zAV;rw[zt (d:=.int 2) rfl (zc (d:=.int 4) rfl)];dsimp only;rw[zWj (zW (by simp))]
  refine zE hin ?_;have hcl':c'.length=many.toNat:=by have:=hc'.1;omega
  by_cases hb:([2,4].any fun y:Int=>decide (y=way))=true
  ·rw[zWj hb,zM6];refine zE (zK (x:=.dat (.ref j)) (y:=.dat (.int oth)) rfl rfl (zBA (zb ej) (zDt p0 (by omega)))) ?_;rw[zJ];refine zAU.mpr ⟨_,rfl,zAU.mpr ⟨_,rfl,?_⟩⟩;rw[zJ];have eo:one=((one.toNat:Nat):Int):=by omega
   refine ⟨A.set j (.lst ((c'.map D.int).set one.toNat (.int (c'.getD oth.toNat 0)))),?_,?_⟩
   ·have:=zLN (k:=one.toNat) (d:=.int (c'.getD oth.toNat 0)) ej (by rw[zWd];omega);rw[<-eo]at this;exact this
   rw[zM];have hlj:j<A.length:=(zWX.mp ej).1;refine zAP rfl ⟨j,c'.set one.toNat (c'.getD oth.toNat 0),rfl,?_,zPV hc' (by omega),hj,?_⟩
   ·rw[zXO hlj,List.map_set]
   ·refine nw.setB h hj ?_;rw[<-List.map_set];exact zi _ _
  ·rw[zWm hb,zAc,zM];exact zAP rfl ⟨j,c',rfl,ej,hc',hj,nw⟩
 rw[zAp];refine zE (M:=M4) (a:=decide (way<3)) (zu (zK (x:=.dat (.int way)) rfl rfl (zY (zTl.mpr ⟨rfl,rfl⟩)))) ?_;by_cases wl:way<3
 ·rw[zWj (by simpa using wl),zI,zT];refine zE (elr rfl) (za ?_);rw[zM,zT];have nw5:=nw4.trans (nw4.gen.lst (up.map D.int) (zi _ _));have e9:(M4++[MO.lst (up.map D.int)])[M4.length]?=some (.lst (up.map D.int)):=zR _ _;have e3'':(M4++[MO.lst (up.map D.int)])[j3]?=some (.lst (c.map D.int)):=by
   rw[zWb (zWX.mp e3').1];exact e3'
  have hj9:M.length<=M4.length:=nw4.len;have hj39:j3<M4.length:=(zWX.mp e3').1;generalize hM5:M4++[MO.lst (up.map D.int)]=M5 at nw5 e9 e3'';generalize hj9':M4.length=j9 at e9 hj9 hj39;have hul:up.length=many.toNat:=by have:=cu.1;omega
  refine zCo.mpr ⟨_,_,_,zCp (x:=.dat (.ref j3)) rfl (zb e3''),by rw[zWd];exact zW (by omega),?_⟩
  refine Ok.mono (zBk (I:=fun r acc M'=>∃ (r' a left:List Int),r=r'.map D.int/\acc=a.map D.int/\(a.length+r'.length:Nat)=many.toNat/\(∀ x∈a,0<=x/\x<many)/\left.length=r'.length/\(∀ x∈left,0<=x/\x<many)/\M'[j9]?=some (.lst (left.map D.int))/\M'[j3]?=some (.lst (c.map D.int))/\(∀ x∈r',0<=x)/\Nw M M' n k)
   (Q:=fun acc M'=>∃ a:List Int,acc=a.map D.int/\Col many a/\Nw M M' n k) ?_ ?_ _ [] _ ⟨c,[],up,rfl,rfl,by simp;omega,(fun _ h=>by cases h),by omega,cu.2,e9,e3'',(fun x hx=>(hc x hx).1),nw5⟩) ?_
  ·rintro x r acc M' ⟨r',a,left,hr,rfl,hal,ha,hll,hlf,e9',e3s,hr0,nw⟩;obtain ⟨g,r'',rfl,rfl,rfl⟩:=zA5 hr;refine ⟨.inl e3s,_,rfl,zFN.mpr ?_⟩;rw[zWj rfl];have hg0:=hr0 g zWi;have hlen0:0<left.length:=by rw[hll];simp
   have hz:left.length<=1000:=by rw[hll];omega
   have ei:fOp zDN (zC 7) (fB zAk (zS (zC 9) zg)) [some (.ref n),some (.int many),some (.int way),some (.ref j3),none,some (.int one),some (.int oth),some (.int g),some (.ref j8),some (.ref j9)] M'=some (.dat (.int ((g.toNat % left.length:Nat):Int)),M'):=by
    have:=zCR (f:=zC 9) (σ:=[some (.ref n),some (.int many),some (.int way),some (.ref j3),none,some (.int one),some (.int oth),some (.int g),some (.ref j8),some (.ref j9)]) (M:=M') rfl (zb e9');rw[zWd]at this;refine zK (x:=.dat (.int g)) rfl this ?_;rw[zD2 (by omega)];rw[show ((g.toNat % left.length:Nat):Int)=g % left.length by rw[Int.natCast_emod,Int.toNat_of_nonneg hg0]]
   have hlt:g.toNat % left.length<left.length:=Nat.mod_lt _ hlen0;refine zE1.mpr (zAU.mpr ⟨_,rfl,⟨_,zAG e9'⟩,zE (zc ei) ?_⟩);have hget:(left.map D.int)[g.toNat % left.length]?=some (.int (left[g.toNat % left.length])):=by
    rw[zWr,zWY hlt];rfl
   refine zS7 e9' hget (by omega) ?_;rw[zJ];have hl9:j9<M'.length:=(zWX.mp e9').1;refine ⟨r'',a++[left[g.toNat % left.length]],left.eraseIdx (g.toNat % left.length),rfl,by simp,by simp at hal ⊢;omega,fun x hx=>?_,?_,fun x hx=>hlf x (List.mem_of_mem_eraseIdx hx),?_,?_,fun x hx=>hr0 x (zWh _ hx),?_⟩
   ·rcases zWu.mp hx with q|q
    ·exact ha x q
    ·have:x=left[g.toNat % left.length]:=by simpa using q
     rw[this];exact hlf _ (zW2 hlt)
   ·rw[List.length_eraseIdx_of_lt hlt,hll];simp
   ·rw[zXO hl9,zFX]
   ·rw[zWy (by omega)];exact e3s
   ·refine nw.setB h hj9 ?_;rw[<-zFX];exact zi _ _
  ·rintro acc M' ⟨r',a,left,hr,rfl,hal,ha,hll,hlf,e9',e3s,hr0,nw⟩;have:r'=[]:=by cases r' with|nil=>rfl|cons _ _=>cases hr
   subst this;exact ⟨.inl e3s,a,rfl,⟨by simp at hal;omega,ha⟩,nw⟩
  ·rintro ys M' ⟨a,ea,hca,nw⟩;rw[List.nil_append]at ea;subst ea;refine za ?_;rw[zM];exact tail _ _ _ M'.length a (nw.trans (nw.gen.lst _ (zi _ _))) nw.len (zR _ _) hca
 ·rw[zWm (by simpa using wl),zAc,zM];exact tail _ _ M4 j8 up nw4 hj8 e8 cu
def zDH (many:Int) (cs:List (List Int)):List (List Int):=(List.range many.toNat).map fun r=>cs.map fun c=>c.getD r 0
theorem zOv (h0:0<many) (hc:∀ c∈cs,Col many c) (hl:0<cs.length):IsM (zDH many cs) cs.length:=by
 have hlen:(zDH many cs).length=many.toNat:=by unfold zDH;simp
 refine ⟨by omega,hl,fun r hr=>?_⟩;rw[hlen];unfold zDH at hr;obtain ⟨k,hk,rfl⟩:=zWl.mp hr;refine ⟨by simp,fun g hg=>?_⟩;obtain ⟨c,hcm,rfl⟩:=zWl.mp hg;have:=hc c hcm;have h1:=this.1;have:=zKM this (j:=k) (by have:=zW8.mp hk;omega);omega
def zKD (M:Mem) (lo:Nat) (many:Int) (js:List Nat) (cs:List (List Int)):Prop:=js.length=cs.length /\ ∀ (i:Nat) j c,js[i]?=some j->cs[i]?=some c->lo<j/\M[j]?=some (.lst (c.map D.int))/\Col many c
theorem zHf {M:Mem} {n k:Nat} {most lm:Int} (h:Gen M n k) (hm:0<most) (hm1:most<=900) (hl:0<lm) (hl1:lm<=900) :
  Ok (zA4 [.ref n,.int most,.int lm] M) fun d M'=>(∃ zA l,d=mD zA/\IsM zA l/\(zA.length<=8\/(zA.length:Int)<=most)/\(l:Int)<=lm)/\Nw M M' n k:=by
 obtain ⟨hn,hk⟩:=h.lt;unfold zA4;refine zGc ?_;rw[zy];unfold zCv;show OkS (zX _ _ [some (.ref n),some (.int most),some (.int lm),none,none,none,none,none,none,none,none] M) _;rw[zI,zT];refine zBP.mpr (zFO.mpr ?_);refine zAS.mpr (zh.mpr (zAJ.mpr (zAU.mpr ⟨_,rfl,?_⟩)));rw[zJ,zh,zAJ,zBP];simp only[zh,zAJ,zFO,zAU,zJ,zJc,zD7,zAM,List.getElem?_cons_succ,List.getElem?_cons_zero,Option.some.injEq,exists_eq_left'];refine ⟨zW (by simp),zAo h rfl rfl (by decide) (by decide) fun i M0 i0 i1 nw0 _=>?_⟩;obtain ⟨mm,em,m0,m1,m2⟩:∃ mm:Int,[D.int 3,D.int 7,D.int most][i.toNat]?=some (.int mm)/\0<mm/\mm<=900/\(mm<=7\/mm<=most):=by
  have hi:i=0\/i=1\/i=2:=by omega
  rcases hi with rfl|rfl|rfl
  ·exact ⟨3,rfl,by decide,by decide,.inl (by decide)⟩
  ·exact ⟨7,rfl,by decide,by decide,.inl (by decide)⟩
  ·exact ⟨most,rfl,hm,hm1,.inr (Int.le_refl _)⟩
 refine zR9 zCw (zMZ i0 em) ?_;rw[zJ];refine Ok.mono (zNU nw0.gen m0 (by omega)) ?_;rintro d M1 ⟨⟨R,rfl,R0,R1⟩,nw1,_⟩;rw[zFf,zJ,zM];have nw1':=nw0.trans nw1;generalize eR:1+R=many;have r0:0<many:=by omega
 have r1:many<=900:=by omega
 have r2:many<=7\/many<=most:=by omega
 rw[zI,zT];refine zBP.mpr (zFO.mpr (zAo nw1'.gen rfl rfl hl (by omega) fun L M2 L0 L1 nw2 _=>zFf.mpr ?_));rw[zJ,zM,zI,zT];generalize eL:1+L=cnt;have nw2':=nw1'.trans nw2;refine zAo nw2'.gen rfl rfl (by decide) (by decide) fun srt M3 s0 s1 nw3 _=>?_;have nw3':=nw2'.trans nw3;rw[zJ,zM,zI,zT];refine zD7.mpr (zAM.mpr ⟨zW (by simp),za ?_⟩);rw[zM,zI,zAe];have nw4:=nw3'.trans (nw3'.gen.lst [] rfl);have e6:(M3++[MO.lst ([]:List D)])[M3.length]?=some (.lst []):=zR _ _;have hj6:M.length<=M3.length:=nw3'.len;generalize hM4:M3++[MO.lst ([]:List D)]=M4 at nw4 e6;generalize hj6':M3.length=j6 at e6 hj6;refine ⟨_,_,_,zBi rfl (by omega) (by omega),?_⟩;refine zHP (n:=cnt.toNat) (I:=fun i σ M'=>∃ x y,σ=[some (.ref n),some (.int most),some (.int lm),some (.int many),some (.int cnt),some (.int srt),some (.ref j6),x,y,none,none] /\ ∃ (js:List Nat) (cs:List (List Int)),M'[j6]?=some (.lst (js.map D.ref))/\zKD M' j6 many js cs/\cs.length=i/\Nw M M' n k) ?_ ?_ _ _ ⟨none,none,rfl,[],[],e6,⟨rfl,fun i j c h=>by simp at h⟩,rfl,nw4⟩
 ·rintro i σ M' hi ⟨x,y,rfl,js,cs,ej,hcs,hl,nw⟩;refine ⟨_,rfl,?_⟩;rw[zI,zT];have hmod:∃ w0:Int,fOp kIx (zAT (zD (toD (fC (.int 3))) (zD (toD (fC (.int 4))) zH))) (fOp zDN (zC 7) (fC (.int 2))) [some (.ref n),some (.int most),some (.int lm),some (.int many),some (.int cnt),some (.int srt),some (.ref j6),some (.int (i:Nat)),y,none,none] M'=some (.dat (.int w0),M'):=by
   have ei:fOp zDN (zC 7) (fC (.int 2)) [some (.ref n),some (.int most),some (.int lm),some (.int many),some (.int cnt),some (.int srt),some (.ref j6),some (.int (i:Nat)),y,none,none] M'=some (.dat (.int ((i:Int) % 2)),M'):=zK (x:=.dat (.int (i:Nat))) rfl rfl (zD2 (by decide));have el:zAT (zD (toD (fC (.int 3))) (zD (toD (fC (.int 4))) zH)) [some (.ref n),some (.int most),some (.int lm),some (.int many),some (.int cnt),some (.int srt),some (.ref j6),some (.int (i:Nat)),y,none,none] M'=some (.fl [.int 3,.int 4],M'):=zY (zD7.mpr (zE (zt (d:=.int 3) rfl (zc (d:=.int 4) rfl)) ⟨zW (by simp),rfl,rfl⟩));have h2:(i:Int) % 2=0\/(i:Int) % 2=1:=by omega
   rcases h2 with q|q
   ·rw[q]at ei;exact ⟨3,zK el ei rfl⟩
   ·rw[q]at ei;exact ⟨4,zK el ei rfl⟩
  obtain ⟨w0,ew⟩:=hmod;refine zE ew ?_;rw[zJ,zM]
  have fin:∀ (way:Int) (M5:Mem),Nw M' M5 n k->OkS (zAa (fM zk (zC 6) (zD (toD (zP zAg (zD (toD (zC 0)) (zD (toD (zC 3)) (zD (toD (zC 8)) zH))))) zH)) [some (.ref n),some (.int most),some (.int lm),some (.int many),some (.int cnt),some (.int srt),some (.ref j6),some (.int (i:Nat)),some (.int way),none,none] M5)
    fun o σ2 M2=>match o with|.nx=>(∃ x y,σ2=[some (.ref n),some (.int most),some (.int lm),some (.int many),some (.int cnt),some (.int srt),some (.ref j6),x,y,none,none] /\ ∃ (js:List Nat) (cs:List (List Int)),M2[j6]?=some (.lst (js.map D.ref))/\zKD M2 j6 many js cs/\cs.length=i+1/\Nw M M2 n k)|_=>False:=by
   intro way M5 nw5;have ej5:=nw5.get ej (by omega) (by omega);rw[zAt];refine zE1.mpr (zAU.mpr ⟨_,rfl,⟨_,zAG ej5⟩,zh.mpr (zAJ.mpr (zAS.mpr (zE (zt rfl (zt rfl (zc rfl))) ?_)))⟩);refine Ok.mono (zOJ nw5.gen r0 (by omega)) ?_;rintro d M6 ⟨j,c,rfl,ec,cc,hj,nw6⟩;have ej6:=nw6.get ej5 (by omega) (by omega);rw[zJ,zAM,zBG ej6 (by rw[zWd,hcs.1,hl];exact zWt (m:=95000) (by omega) (zW (by omega)))];have hlt6:j6<M5.length:=(zWX.mp ej5).1;have hlt6':j6<M6.length:=zWt hlt6 nw6.len;refine ⟨_,_,rfl,js++[j],cs++[c],?_,⟨by simp[hcs.1],fun a b c' h1 h2=>?_⟩,by simp[hl],?_⟩
   ·rw[zXO hlt6',zXM];rfl
   ·have keep:∀ {b:Nat} {u:MO},j6<b->M6[b]?=some u->(M6.set j6 (.lst (js.map D.ref++[.ref j])))[b]?=some u:=fun {b u} hb e=>by rw[zWy (by omega)];exact e
    by_cases ha:a<js.length
    ·rw[zWb ha]at h1;rw[zWb (by rw[<-hcs.1];exact ha)]at h2;obtain ⟨q1,q2,q3⟩:=hcs.2 a b c' h1 h2;exact ⟨q1,keep q1 (nw6.get (nw5.get q2 (by omega) (by omega)) (by omega) (by omega)),q3⟩
    ·have ha':a=js.length:=by
      have:=(zWX.mp h1).1;simp at this;omega
     subst ha';rw[zXe (zWa _)]at h1;rw[zXe (by rw[hcs.1];exact zWa _)]at h2;simp at h1;rw[hcs.1]at h2;simp at h2;subst h1 h2;exact ⟨by omega,keep (by omega) ec,cc⟩
   ·refine ((nw.trans nw5).trans nw6).setB h hj6 ?_;show D.unds _ _=true;have w1:D.unds M6.length (js.map D.ref)=true:=nw6.gen.wf j6 _ ej6;have hlj:j<M6.length:=(zWX.mp ec).1;rw[zFF,w1];simp[D.unds,D.und,hlj]
  have two:∀ (way:Int) (R:Out->Sd->Mem->Prop),(∀ σ2 M2,(∃ x y,σ2=[some (.ref n),some (.int most),some (.int lm),some (.int many),some (.int cnt),some (.int srt),some (.ref j6),x,y,none,none] /\ ∃ (js:List Nat) (cs:List (List Int)),M2[j6]?=some (.lst (js.map D.ref))/\zKD M2 j6 many js cs/\cs.length=i+1/\Nw M M2 n k)->R .nx σ2 M2) ->
    OkS (zX (sIf (tst (fOp kEq (zC 5) (fC (.int 9)))) (zo 8 (zP zd (zD (toD (zC 0)) (zD (toD (fC (.int 7))) zH)))) zBB) (zAa (fM zk (zC 6) (zD (toD (zP zAg (zD (toD (zC 0)) (zD (toD (zC 3)) (zD (toD (zC 8)) zH))))) zH))) [some (.ref n),some (.int most),some (.int lm),some (.int many),some (.int cnt),some (.int srt),some (.ref j6),some (.int (i:Nat)),some (.int way),none,none] M') R:=by
   intro way R hR;have go:∀ (way:Int) (M5:Mem),Nw M' M5 n k->OkS (zAa (fM zk (zC 6) (zD (toD (zP zAg (zD (toD (zC 0)) (zD (toD (zC 3)) (zD (toD (zC 8)) zH))))) zH)) [some (.ref n),some (.int most),some (.int lm),some (.int many),some (.int cnt),some (.int srt),some (.ref j6),some (.int (i:Nat)),some (.int way),none,none] M5) R:=fun way M5 nw5=>OkS.mono (fin way M5 nw5) (by
    intro o σ2 M2 z;cases o with
    |nx=>exact hR _ _ z
    |_=>exact z.elim)
   rw[zI,zAp];refine zE (M:=M') (a:=decide (srt=9)) (zu (zK (x:=.dat (.int srt)) rfl rfl (zY (zKo.mpr ⟨rfl,rfl⟩)))) ?_;by_cases h9:srt=9
   ·rw[zWj (by simpa using h9),zT];refine zAo nw.gen rfl rfl (by decide) (by decide) fun w M5 _ _ nw5 _=>?_;rw[zJ,zM];exact go w M5 nw5
   ·rw[zWm (by simpa using h9),zAc,zM];exact go way M' (Nw.refl nw.gen)
  rw[zI,zAp];refine zE (M:=M') (a:=decide (srt<7)) (zu (zK (x:=.dat (.int srt)) rfl rfl (zY (zTl.mpr ⟨rfl,rfl⟩)))) ?_;by_cases h7:srt<7
  ·rw[zWj (by simpa using h7),zT];refine zAU.mpr ⟨_,rfl,?_⟩;rw[zJ,zM];exact two srt _ fun σ2 M2 z=>z
  ·rw[zWm (by simpa using h7),zAc,zM];exact two w0 _ fun σ2 M2 z=>z
 ·rintro σ M' ⟨x,y,rfl,js,cs,ej,hcs,hl,nw⟩;rw[zM]
  have last:∀ (A:Mem) (j:Nat) (js':List Nat) (cs':List (List Int)),Nw M A n k->A[j]?=some (.lst (js'.map D.ref))->zKD A j6 many js' cs'->cs'.length=cnt.toNat ->
    OkS (zAW (fB zAu (zS (zm [10] (zv (zD (toD (zC 3)) zH)) (gN 10) zr (fB zAu (zS (zm [9] (zn (zC 6)) (gN 9) zr (fOp kIx (zC 9) (zC 10))) zg))) zg)) [some (.ref n),some (.int most),some (.int lm),some (.int many),some (.int cnt),some (.int srt),some (.ref j),x,y,none,none] A)
     fun o x M1=>match o with
     |.ret d=>(D.und M.length d=true/\M.length<=M1.length /\ ∀ (j:Nat) u,j<M.length->M1[j]?=some u->MO.und M.length u=true)/\(∃ zA l,d=mD zA/\IsM zA l/\(zA.length<=8\/(zA.length:Int)<=most)/\(l:Int)<=lm)/\Nw M (M1.take M.length) n k
     |.nx=>(D.und M.length D.non=true/\M.length<=M1.length /\ ∀ (j:Nat) u,j<M.length->M1[j]?=some u->MO.und M.length u=true)/\(∃ zA l,D.non=mD zA/\IsM zA l/\(zA.length<=8\/(zA.length:Int)<=most)/\(l:Int)<=lm)/\Nw M (M1.take M.length) n k
     |_=>False:=by
   intro A j js' cs' nwA eA hA hlA;have hcol:∀ c∈cs',Col many c:=fun c hc=>by
    obtain ⟨i,hi,rfl⟩:=List.mem_iff_getElem.mp hc;exact (hA.2 i (js'[i]'(by rw[hA.1];exact hi)) cs'[i] (zWY _) (zWY _)).2.2
   have hlen:(zDH many cs').length=many.toNat:=by unfold zDH;simp
   refine zAP (d:=mD (zDH many cs')) ?_ ⟨⟨zEz _,nwA.len,nwA.wf0 h⟩,⟨zDH many cs',cs'.length,rfl,zOv r0 hcol (by omega),by omega,by omega⟩,nwA.trim h⟩;refine (zCA (zAs (List.range many.toNat) (fun k=>D.int k) (fun k=> .tup ((cs'.map fun c=>c.getD k 0).map D.int)) (zEW (f:=zC 3) rfl (by omega) (by omega)) trivial (by simp;omega) fun r hr=>⟨_,rfl,?_⟩) zCw).trans ?_
   ·have hr':=zW8.mp hr;refine (zCA (zAs (gd:=zCz (.dat (.ref j)) (js'.map D.ref)) (List.range js'.length) (fun i=>D.ref (js'.getD i 0)) (fun i=> .int ((cs'.getD i []).getD r 0)) ?_ ?_ (by rw[zYR,hA.1,hlA];omega) fun i hi=>⟨_,rfl,?_⟩) zCw).trans ?_
    ·rw[show ((List.range js'.length).map fun i=>D.ref (js'.getD i 0))=js'.map D.ref by
      apply List.ext_getElem
      ·simp
      ·intro i h1 h2;simp at h1;simp[h1]]
     exact zCp (x:=.dat (.ref j)) rfl (zb eA)
    ·exact .inl eA
    ·have hi':=zW8.mp hi;have hc':i<cs'.length:=by rw[<-hA.1];exact hi'
     have ej':js'[i]?=some (js'.getD i 0):=by rw[zWZ,zWY hi'];rfl
     have ec':cs'[i]?=some (cs'.getD i []):=by rw[zWZ,zWY hc'];rfl
     obtain ⟨_,q2,q3⟩:=hA.2 i _ _ ej' ec';have hz:=q3.1;exact zK (x:=.dat (.ref (js'.getD i 0))) (y:=.dat (.int (r:Nat))) rfl rfl (zBA (zb q2) (zDt (by omega) (by omega)))
    ·congr 3;rw[zWs];refine zYH D.tup ?_;apply List.ext_getElem
     ·simp[hA.1]
     ·intro i h1 h2;simp at h1 h2;have h2':i<cs'.length:=h2;simp[h2']
   ·unfold mD zDH;rw[zWs];rfl
  rw[zI,zAp];refine zE (M:=M') (a:=decide (srt=8)) (zu (zK (x:=.dat (.int srt)) rfl rfl (zY (zKo.mpr ⟨rfl,rfl⟩)))) ?_;by_cases h8:srt=8
  ·rw[zWj (by simpa using h8),zT];have s2:=slL (f:=zC 6) (fl:=zBr) (fh:=zBS (fC (.int 1))) (σ:=[some (.ref n),some (.int most),some (.int lm),some (.int many),some (.int cnt),some (.int srt),some (.ref j6),x,y,none,none]) rfl rfl (zAG ej) rfl (oS (i:=1) rfl);rw[zIt]at s2;have hjl:0<js.length:=by rw[hcs.1];omega
   have hcl:0<cs.length:=by omega
   obtain ⟨j0,jr,rfl⟩:∃ a b,js=a::b:=by cases js with|nil=>simp at hjl|cons a b=>exact ⟨a,b,rfl⟩
   obtain ⟨c0,cr,rfl⟩:∃ a b,cs=a::b:=by cases cs with|nil=>simp at hcl|cons a b=>exact ⟨a,b,rfl⟩
   rw[show ((j0::jr).map D.ref).take 1=[D.ref j0]from rfl]at s2;have er:zJC (.fl [D.ref j0]) (.dat (.int cnt)) M'=some (.fl ((List.replicate cnt.toNat j0).map D.ref),M'):=by
    unfold zJC;dsimp only[zCH,zJn];rw[zWj ⟨by omega,by omega,zW (by simp;omega)⟩];have:(List.replicate cnt.toNat [D.ref j0]).flatten=(List.replicate cnt.toNat j0).map D.ref:=by
     rw[List.map_replicate];generalize cnt.toNat=q;induction q with
     |zero=>rfl
     |succ q ih=>rw[zXn,zYT,ih,zXn];rfl
    rw[this]
   refine zBP.mpr (zE s2 (zAU.mpr ⟨_,rfl,zE er (za ?_)⟩));rw[zM];obtain ⟨q1,q2,q3⟩:=hcs.2 0 j0 c0 rfl rfl;have hlj:j0<M'.length:=(zWX.mp q2).1;refine last _ M'.length (List.replicate cnt.toNat j0) (List.replicate cnt.toNat c0) (nw.trans (nw.gen.lst _ (zFc fun z hz=>?_))) (zR _ _) ⟨by simp,fun i j c h1 h2=>?_⟩ (by simp)
   ·obtain ⟨a,ha,rfl⟩:=zWl.mp hz;rw[(List.mem_replicate.mp ha).2];simp[D.und,hlj]
   ·have e1:j=j0:=(List.mem_replicate.mp (zXL h1)).2;have e2:c=c0:=(List.mem_replicate.mp (zXL h2)).2;subst e1 e2;exact ⟨q1,by rw[zWb hlj];exact q2,q3⟩
  ·rw[zWm (by simpa using h8),zAc,zM];exact last M' j6 js cs nw ej hcs hl
noncomputable def zCd:FS:=(zX (zo 1 (zAT zH))
  (zX (zBo (zn (zC 0)) (gN 2) (sIf (tst (fOp (kIn true) (zC 2) (zC 1))) (zAa (fM zk (zC 1) (zD (toD (zC 2)) zH))) zBB))
  (zAW (fB zAu (zS (zm [2] (zn (zC 0)) (gN 2) zr (fM zEV (zC 1) (zD (toD (zC 2)) zH))) zg)))))
noncomputable def zAY:FF:=zGH (zBN 3 zCd)
theorem zOk {xs:List Int} (h:zAb M y=some (xs.map D.int)):kIn neg (.dat (.int g)) y M=some (.dat (.bl (if neg then !(xs.any fun y=>decide (y=g)) else xs.any fun y=>decide (y=g))),M):=by
 unfold kIn;dsimp only;rw[h];dsimp only;rw[zCW]
theorem zRb (xs:List Int) (g:Int):(xs.any fun y=>decide (y=g))=decide (g∈xs):=by
 induction xs with
 |nil=>rfl
 |cons x r ih=>
  rw[List.any_cons,ih];by_cases h:x=g
  ·subst h;simp
  ·have:¬ g=x:=fun e=>h e.symm;simp[h,this]
def zCY (xs:List Int):List Int:=xs.map fun x=>((zV xs).idxOf x:Int)
theorem zHa (xs:List Int):(zCY xs).length=xs.length:=by unfold zCY;simp
theorem zNc {M:Mem} {xs:List Int} (h:M[j]?=some (.lst (xs.map D.int))) (hi:i∈xs) (hz:xs.length<=90000):zEV (.dat (.ref j)) [.int i] M=some (.int (xs.idxOf i),M):=by
 unfold zEV;dsimp only;rw[h];dsimp only;rw[zCW];dsimp only;rw[zWj ⟨hi,hz⟩]
theorem zGG {M:Mem} (wf:∀ (j:Nat) u,M[j]?=some u->MO.und M.length u=true) {xs:List Int} (hj:M[j]?=some (.lst (xs.map D.int))) (hz:xs.length<=4000):zAY [.ref j] M=some (tI (zCY xs),M):=by
 refine zY ?_;unfold zAY;refine zGc ?_;rw[zy];unfold zCd;have hjl:j<M.length:=(zWX.mp hj).1;rw[zI,zT];refine zD7.mpr (zAM.mpr ⟨zW (by simp),za ?_⟩);rw[zM,zI,zAe];have ej:∀ u:MO,(M++[u])[j]?=some (.lst (xs.map D.int)):=fun u=>by rw[zWb hjl];exact hj
 refine ⟨_,_,_,zCp (x:=.dat (.ref j)) rfl (zb (ej _)),?_⟩;refine zAZ (I:=fun r σ M'=>∃ (y:Option D) (a b:List Int),σ=[some (.ref j),some (.ref M.length),y]/\r=b.map D.int/\a++b=xs/\M'=M++[.lst ((zV a).map D.int)]) ?_ ?_ _ _ _ ⟨none,[],xs,rfl,rfl,rfl,rfl⟩
 ·rintro x r σ M' ⟨y,a,b,rfl,hr,hab,rfl⟩;obtain ⟨g,b',rfl,rfl,rfl⟩:=zA5 hr;refine ⟨.inl (ej _),_,rfl,?_⟩;have ek:(M++[MO.lst ((zV a).map D.int)])[M.length]?=some (.lst ((zV a).map D.int)):=zR _ _;have hin:zV (a++[g])=ins (zV a) g:=by unfold zV;rw[List.foldl_append];rfl
  rw[zAp];refine zE (M:=M++[MO.lst ((zV a).map D.int)]) (a:=!decide (g∈zV a)) ?_ ?_
  ·refine zu (zK (x:=.dat (.int g)) (y:=.dat (.ref M.length)) rfl rfl ?_);rw[zOk (zb ek),zRb];rfl
  have hla:a.length<xs.length:=by rw[<-hab];simp
  have hli:=zBt a;by_cases hg:g∈zV a
  ·rw[zWm (by simp[hg]),zAc];refine ⟨_,a++[g],b',rfl,rfl,by rw[<-hab];simp,?_⟩;rw[hin];unfold ins;rw[zWj hg]
  ·rw[zWj (by simp[hg]),zAt];refine zE1.mpr (zAU.mpr ⟨_,rfl,⟨_,zAG ek⟩,zE (zc (d:=.int g) rfl) ?_⟩);rw[zBG ek (by rw[zWd];exact zWt (m:=95000) (by omega) (zW (by omega)))];refine ⟨_,a++[g],b',rfl,rfl,by rw[<-hab];simp,?_⟩;rw[hin];unfold ins;rw[zWm hg,List.set_append_right _ _ (zWa _)];simp
 ·rintro σ M' ⟨y,a,b,rfl,hr,hab,rfl⟩;have:b=[]:=by cases b with|nil=>rfl|cons _ _=>cases hr
  subst this;rw[zXE]at hab;subst hab;refine ⟨.inl (ej _),?_⟩;rw[zM];have ek:(M++[MO.lst ((zV a).map D.int)])[M.length]?=some (.lst ((zV a).map D.int)):=zR _ _;have hli:=zBt a;refine zAP (d:=tI (zCY a)) ?_ ⟨⟨zAh _,by simp,fun i u hi e=>?_⟩,rfl,by simp⟩
  ·refine (zCA (zAs (gd:=zCz (.dat (.ref j)) (a.map D.int)) a D.int (fun x=> .int ((zV a).idxOf x:Int)) (zCp (x:=.dat (.ref j)) rfl (zb (ej _))) (.inl (ej _)) (by omega) fun x hx=>⟨_,rfl,?_⟩) zCw).trans ?_
   ·refine zY (zE1.mpr (zAU.mpr ⟨_,rfl,⟨_,zAG ek⟩,zE (zc (d:=.int x) rfl) (zE (zNc ek ((zEj a x).mpr hx) (by omega)) ⟨rfl,rfl⟩)⟩))
   ·unfold zCY tI;rw[zWs];rfl
  ·rw[zWb hi]at e;exact wf i u e
theorem zUM (ha:a σ M=some (true,M)):zFp a b σ M=some (true,M):=by unfold zFp;rw[ha]
theorem zSy (ha:a σ M=some (false,M)) (hb:b σ M=some (k,M)):zFp a b σ M=some (k,M):=by unfold zFp;rw[ha];exact hb
theorem ntT (ha:a σ M=some (.dat (.bl k),M)):zFQ (tst a) σ M=some (!k,M):=by
 refine zY (zNK.mpr (zE (zu ha) ⟨rfl,rfl⟩))
theorem zD9 (h:f σ M=some (.dat d,M)):toD f σ M=some (d,M):=by unfold toD;rw[h]
theorem zJS {g:FA} {σ:Sd} {M M1:Mem} {ds:List D} (h:g σ M=some (ds,M1)) (hz:ds.length<=100000):zAT g σ M=some (.fl ds,M1):=by
 unfold zAT;rw[h];dsimp only;rw[zWj (zW hz)]
theorem zHJ {g:FA} {σ:Sd} {M M1:Mem} {ds:List D} (h:g σ M=some (ds,M1)) (hz:ds.length<=100000):zAV g σ M=some (.dat (.tup ds),M1):=by
 unfold zAV;rw[h];dsimp only;rw[zWj (zW hz)]
theorem zQQ (hf:f σ M=some (.dat (.bl true),M)) (h:P .nx σ M):OkS (sIf (zFQ (tst f)) a zBB σ M) P:=zQS (ntT hf) h
theorem zNI (hf:f σ M=some (.dat (.int i),M)) (hg:g σ M=some (.dat (.int j),M)):fB zGu (zS f (zS g zg)) σ M=some (.dat (.int (if j<i then j else i)),M):=by
 unfold fB zS zg;rw[hf];dsimp only;rw[hg];rfl
theorem zRj {f:FE} {σ:Sd} {M M1:Mem} {xs:List D} (h:f σ M=some (.fl xs,M1)):zn f σ M=some (xs,none,M1):=by
 unfold zn;rw[h];rfl
theorem zNb (h1:M[n]?=some (.lst xs)) (h2:M[m]?=some (.lst ys)) (hz:xs.length+ys.length<=90000):zEO (.dat (.ref n)) [.ref m] M=some (.non,M.set n (.lst (xs++ys))):=by
 unfold zEO;dsimp only;rw[h1,h2];dsimp only;rw[zWj (zW (by omega))]
theorem zOn (e1:f σ M=some (.dat (.int i),M)) (e2:g σ M=some (.dat (.int j),M)) (h1:0<=i) (h2:i<=90000) (h3:0<=j) (h4:j<=90000):zv (zD (toD f) (zD (toD g) zH)) σ M=some ((List.range (j-i).toNat).map (fun (k:Nat)=>D.int (i+k)),none,M):=by
 unfold zv;rw[zt e1 (zc e2)];dsimp only;rw[zWj ⟨by omega,by omega,by omega,by omega⟩]
noncomputable def zDJ:FS:=(zX (zo 3 (zP zA4 (zD (toD (zC 0)) (zD (toD (fC (.int 7))) (zD (toD (zC 2)) zH)))))
  (zX (zo 4 (fOp zAE (fB zAk (zS (zC 3) zg)) (zP zd (zD (toD (zC 0)) (zD (toD (fOp zHz (fOp zAE (zC 1) (fC (.int 1))) (fB zAk (zS (zC 3) zg)))) zH)))))
  (zX (zo 5 (fOp zGB (zFd (fB zAk (zS (zC 3) zg))) (zm [6] (zv (zD (toD (fOp zHz (zC 4) (fB zAk (zS (zC 3) zg)))) zH)) (gN 6) zr (zP zd (zD (toD (zC 0)) (zD (toD (fB zAk (zS (zC 3) zg))) zH))))))
  (zX (zo 7 (zP zd (zD (toD (zC 0)) (zD (toD (zC 4)) zH))))
  (zX (zo 5 (fOp zGB (fSl (zC 5) (zBS (zC 7)) zBr) (fSl (zC 5) zBr (zBS (zC 7)))))
  (zX (zo 8 (zAT zH))
  (zX (zBo (zn (zC 5)) (gN 9) (zX (zo 10 (zAT zH))
  (zX (zBo (zn (fOp kIx (zC 3) (zC 9))) (gN 11) (zX (zo 12 (zm [6] (zv (zD (toD (zC 4)) zH)) (gN 6) (tst (fOp kEq (fOp kIx (zC 5) (zC 6)) (zC 11))) (zC 6)))
  (zAa (fM zk (zC 10) (zD (toD (fOp kIx (zC 12) (zP zd (zD (toD (zC 0)) (zD (toD (fB zAk (zS (zC 12) zg))) zH))))) zH)))))
  (zAa (fM zk (zC 8) (zD (toD (fB zAu (zS (zC 10) zg))) zH))))))
  (zAW (zAV (zD (toD (fB zAu (zS (zC 8) zg))) (zD (toD (zC 5)) zH)))))))))))
noncomputable def zBl:FF:=zBN 13 zDJ
noncomputable def zDc:FS:=(zX (sIf (tst (fOp kEq (zP zd (zD (toD (zC 0)) (zD (toD (fC (.int 2))) zH))) (fC (.int 0)))) (zOO (zBp 3 4) (zP zBl (zD (toD (zC 0)) (zD (toD (zC 1)) (zD (toD (zC 2)) zH))))) (zX (zo 3 (zP zA4 (zD (toD (zC 0)) (zD (toD (zC 1)) (zD (toD (zC 2)) zH)))))
  (zX (zo 5 (fOp zAE (fC (.int 1)) (zP zd (zD (toD (zC 0)) (zD (toD (fB zAk (zS (zC 3) zg))) zH)))))
  (zo 4 (zm [6] (zn (zC 3)) (gN 6) zr (zP zd (zD (toD (zC 0)) (zD (toD (zC 5)) zH))))))))
  (zAW (zAV (zD (toD (zC 3)) (zD (toD (zP zAY (zD (toD (zC 4)) zH))) zH)))))
noncomputable def zBg:FF:=zGH (zBN 7 zDc)
theorem zO3 (h:Gen M n k) (h0:0<few) (h1:few<1073741824) (m1:xs.length<=90000)
  (hf:f σ M=some (.dat (.tup xs),M)) (ha:∀ (x:D) (M:Mem),fa ((zBD own σ).set i (some x)) M=some (.dat (.ref n),M)) (hb:∀ (x:D) (M:Mem),fb ((zBD own σ).set i (some x)) M=some (.dat (.int few),M)) :
  Ok (zm own (zn f) (gN i) zr (zP zd (zD (toD fa) (zD (toD fb) zH))) σ M) fun x M'=>(∃ c:List Int,x=.fl (c.map D.int)/\c.length=xs.length /\ ∀ y∈c,0<=y/\y<few)/\Nw M M' n k:=by
 refine zCo.mpr ⟨_,_,_,zFL hf,zW (by omega),?_⟩;refine Ok.mono (zBk (I:=fun r acc M2=>(∃ c:List Int,acc=c.map D.int/\c.length+r.length=xs.length /\ ∀ y∈c,0<=y/\y<few)/\Nw M M2 n k) (Q:=fun acc M2=>(∃ c:List Int,acc=c.map D.int/\c.length=xs.length /\ ∀ y∈c,0<=y/\y<few)/\Nw M M2 n k) ?_ ?_ _ [] _ ⟨⟨[],rfl,by simp,fun _ h=>by cases h⟩,Nw.refl h⟩) ?_
 ·rintro x r acc M2 ⟨⟨c,rfl,hcl,hc⟩,nw⟩;refine ⟨zAH,_,rfl,zFN.mpr ?_⟩;rw[zWj rfl];refine zAo nw.gen (ha _ _) (hb _ _) h0 h1 fun g M3 g0 g1 nw3 hl3=>?_;rw[zJ];refine ⟨⟨c++[g],by simp,by simp at hcl ⊢;omega,fun z hz=>?_⟩,nw.trans nw3⟩;rcases zWu.mp hz with q|q
  ·exact hc z q
  ·have:z=g:=by simpa using q
   subst this;exact ⟨g0,g1⟩
 ·rintro acc M2 ⟨⟨c,rfl,hcl,hc⟩,nw⟩;exact ⟨zAH,⟨c,rfl,by simpa using hcl,hc⟩,nw⟩
 ·rintro ys M2 ⟨⟨c,hc0,hcl,hc⟩,nw⟩;rw[List.nil_append]at hc0;exact ⟨⟨c,by rw[hc0],hcl,hc⟩,nw⟩
theorem zOj {xs:List D} (h:q<=xs.length):L3.zDI xs (some (q:Int)) none=xs.drop q:=by
 have s:HT.sIx xs.length 0 (some (q:Int))=q:=by rw[HT.zGd];omega
 have z:HT.sIx xs.length xs.length none=xs.length:=rfl;unfold L3.zDI;rw[s,z,List.take_of_length_le (by simp)]
theorem zOr {xs:List D} (h:q<=xs.length):L3.zDI xs none (some (q:Int))=xs.take q:=by
 have s:HT.sIx xs.length xs.length (some (q:Int))=q:=by rw[HT.zGd];omega
 have z:HT.sIx xs.length 0 none=0:=rfl;unfold L3.zDI;rw[s,z];simp
theorem zMf {M:Mem} {ow:List Int} (hz:many<=1000) (hl:ow.length=many) (ej:M[j]?=some (.lst (ow.map D.int))) (hg:g∈ow) :
  Ok (zm [6] (zv (zD (toD (zC 4)) zH)) (gN 6) (tst (fOp kEq (fOp kIx (zC 5) (zC 6)) (zC 11))) (zC 6) [a0,a1,a2,a3,some (.int many),some (.ref j),a6,a7,a8,a9,a10,some (.int g),a12] M) fun x M'=>M'=M /\ ∃ c:List Int,x=.fl (c.map D.int)/\c≠[]/\c.length<=many /\ ∀ y∈c,0<=y/\y<(many:Int):=by
 refine zCo.mpr ⟨_,_,_,zBi (j:=(many:Int)) rfl (by omega) (by omega),by rw[zCy];exact zW (by omega),?_⟩;rw[show (many:Int).toNat=many by omega];refine Ok.mono (zBk (I:=fun r acc M2=>M2=M /\ ∃ (i:Nat) (c:List Int),i<=many/\r=zCG i (many-i)/\acc=c.map D.int/\c.length<=i/\(∀ y∈c,0<=y/\y<(many:Int)) /\ ∀ r,r<i->ow.getD r 0=g->c≠[]) (Q:=fun acc M2=>M2=M /\ ∃ c:List Int,acc=c.map D.int/\c≠[]/\c.length<=many /\ ∀ y∈c,0<=y/\y<(many:Int)) ?_ ?_ _ [] _ ⟨rfl,0,[],zXG _,by simp,rfl,by simp,(fun _ h=>by cases h),fun r h=>by omega⟩) ?_
 ·rintro x r acc M2 ⟨rfl,i,c,hi,e,rfl,hcl,hc,hne⟩;have hlt:i<many:=by
   rcases zXq i many with z|z
   ·exact z
   ·rw[show many-i=0 by omega]at e;cases e
  rw[show many-i=(many-(i+1))+1 by omega]at e;obtain ⟨rfl,rfl⟩:=zXY e;refine ⟨zAH,_,rfl,?_⟩;have hat:atI (ow.map D.int) ((i:Nat):Int)=some (.int (ow.getD i 0)):=by
   have:=zDt (r:=ow) (g:=((i:Nat):Int)) (by omega) (by omega);rw[Int.toNat_natCast]at this;exact this
  refine zE (M:=M2) (a:=decide (ow.getD i 0=g)) (zu (zK (x:=.dat (.int (ow.getD i 0))) (y:=.dat (.int g)) (zK (x:=.dat (.ref j)) (y:=.dat (.int ((i:Nat):Int))) rfl rfl (zBA (zb ej) hat)) rfl (zY (zKo.mpr ⟨rfl,rfl⟩)))) ?_;by_cases he:ow.getD i 0=g
  ·rw[zWj (by simpa using he)];refine zE (M:=M2) (a:=.dat (.int ((i:Nat):Int))) rfl ?_;rw[zJ];refine ⟨rfl,i+1,c++[((i:Nat):Int)],hlt,rfl,by simp,by simp;omega,fun y hy=>?_,fun _ _ _=>by simp⟩;rcases zWu.mp hy with q|q
   ·exact hc y q
   ·have:y=((i:Nat):Int):=by simpa using q
    omega
  ·rw[zWm (by simpa using he)];refine ⟨rfl,i+1,c,hlt,rfl,rfl,by omega,hc,fun r hr hq=>?_⟩;rcases zXq r i with z|z
   ·exact hne r z hq
   ·have:r=i:=by omega
    subst this;exact absurd hq he
 ·rintro acc M2 ⟨rfl,i,c,hi,e,rfl,hcl,hc,hne⟩;have:i=many:=by
   rcases zXq i many with z|z
   ·rw[show many-i=(many-(i+1))+1 by omega]at e;cases e
   ·omega
  subst this;obtain ⟨q,hq,eq⟩:=List.mem_iff_getElem.mp hg;exact ⟨zAH,rfl,c,rfl,hne q (by omega) (by rw[zWZ,zWY hq];exact eq),hcl,hc⟩
 ·rintro ys M2 ⟨rfl,c,e,h⟩;rw[List.nil_append]at e;exact ⟨rfl,c,by rw[e],h⟩
theorem zN6 (h:Gen M n k) (hm:20<=most) (hm1:most<=900) (hl:0<lm) (hl1:lm<=900) :
  Ok (zBl [.ref n,.int most,.int lm] M) fun d M'=>∃ zA l j ow,d=.tup [mD zA,.ref j]/\IsM zA l/\(zA.length:Int)<=most/\(l:Int)<=lm/\M'[j]?=some (.lst ((ow:List Int).map D.int))/\ow.length=zA.length/\Nw M M' n k:=by
 obtain ⟨hn,hk⟩:=h.lt;unfold zBl;rw[zy];unfold zDJ;rw[zI,zT];refine zAS.mpr (zE (zt rfl (zt rfl (zc rfl))) ?_);refine Ok.mono (zHf h (by decide) (by decide) hl hl1) ?_;rintro d M1 ⟨⟨base,l,rfl,mb,hB,hL⟩,nw1⟩;have b0:=mb.r0;have l0:=mb.l0;have hB':base.length<=8:=by omega
 rw[zJ,zM,zI,zT];refine zBP.mpr (zE (zCB rfl) ?_);refine zAo nw1.gen rfl (zK (x:=.dat (.int (most+1))) (zK rfl rfl rfl) (zCB rfl) rfl) (by omega) (by omega) fun ex M2 x0 x1 nw2 _=>zFf.mpr ?_;rw[zJ,zM,zI,zT];have nw2':=nw1.trans nw2;obtain ⟨many,hmany⟩:∃ many:Nat,(base.length:Int)+ex=(many:Int):=⟨((base.length:Int)+ex).toNat,by omega⟩;rw[hmany];have mB:base.length<=many:=by omega
 have mM:(many:Int)<=most:=by omega
 have elr:zFd (fB zAk (zS (zC 3) zg)) [some (.ref n),some (.int most),some (.int lm),some (mD base),some (.int many),none,none,none,none,none,none,none,none] M2=some (.fl (((List.range base.length).map fun (k:Nat)=>(k:Int)).map D.int),M2):=by
  unfold zFd;rw[zCB (zA:=base) rfl];dsimp only;rw[zWj ⟨by omega,by omega⟩,zNC,show (base.length:Int).toNat=base.length by omega]
 refine zBP.mpr (zE elr ?_);refine Ok.mono (zKu nw2'.gen (few:=base.length) (many:=(many:Int)-base.length) (by omega) (by omega) (by omega) (by omega) (zK rfl (zCB rfl) rfl) (fun _ _=>rfl) (fun _ _=>zCB rfl)) ?_;rintro x M3 ⟨⟨cx,rfl,hcl,hcx⟩,nw3,_⟩;have nw3':=nw2'.trans nw3;refine zLv rfl rfl (by simp;omega) (za ?_);rw[<-zXM,zM];generalize how:((List.range base.length).map fun (k:Nat)=>(k:Int))++cx=ow;have owl:ow.length=many:=by rw[<-how];simp;omega
 have owb:∀ x∈ow,0<=x/\x<base.length:=by
  intro x hx;rw[<-how]at hx;rcases zWu.mp hx with q|q
  ·obtain ⟨a,ha,rfl⟩:=zWl.mp q;have:=zW8.mp ha;omega
  ·exact hcx x q
 have ows:∀ g:Int,0<=g->g<base.length->g∈ow:=by
  intro g g0 g1;rw[<-how];exact zXj _ (zWl.mpr ⟨g.toNat,zW8.mpr (by omega),by omega⟩)
 have nw4:=nw3'.trans (nw3'.gen.lst (ow.map D.int) (zi _ _));have e5:(M3++[MO.lst (ow.map D.int)])[M3.length]?=some (.lst (ow.map D.int)):=zR _ _;have hj5:M.length<=M3.length:=nw3'.len;generalize hM4:M3++[MO.lst (ow.map D.int)]=M4 at nw4 e5;generalize M3.length=j5 at e5 hj5;rw[zI,zT];refine zAo nw4.gen rfl rfl (by omega) (by omega) fun tn M5 t0 t1 nw5 _=>?_;rw[zJ,zM,zI,zT];have nw5':=nw4.trans nw5;have e5':=nw5.get e5 (by omega) (by omega);obtain ⟨t,ht⟩:∃ t:Nat,tn=(t:Int):=⟨tn.toNat,by omega⟩;subst ht;have s1:=slL (f:=zC 5) (fl:=zBS (zC 7)) (fh:=zBr) (σ:=[some (.ref n),some (.int most),some (.int lm),some (mD base),some (.int many),some (.ref j5),none,some (.int (t:Nat)),none,none,none,none,none]) rfl rfl (zAG e5') (oS (i:=(t:Int)) rfl) rfl;have s2:=slL (f:=zC 5) (fl:=zBr) (fh:=zBS (zC 7)) (σ:=[some (.ref n),some (.int most),some (.int lm),some (mD base),some (.int many),some (.ref j5),none,some (.int (t:Nat)),none,none,none,none,none]) rfl rfl (zAG e5') rfl (oS (i:=(t:Int)) rfl);rw[zOj (by simp;omega)]at s1;rw[zOr (by simp;omega)]at s2;refine zBP.mpr (zE s1 (zE s2 (zLv rfl rfl (by simp;omega) (za ?_))));rw[<-List.map_drop,<-List.map_take,<-zXM,zM];have hmem:∀ x,x∈ow.drop t++ow.take t ↔ x∈ow:=fun x=>by
  rw[zWu,Or.comm,<-zWu,List.take_append_drop]
 have hlen':(ow.drop t++ow.take t).length=many:=by simp;omega
 generalize ow.drop t++ow.take t=ow2 at hmem hlen';replace owb:∀ x∈ow2,0<=x/\x<base.length:=fun x hx=>owb x ((hmem x).mp hx);replace ows:∀ g:Int,0<=g->g<base.length->g∈ow2:=fun g g0 g1=>(hmem g).mpr (ows g g0 g1);have nw6:=nw5'.trans (nw5'.gen.lst (ow2.map D.int) (zi _ _));have e6:(M5++[MO.lst (ow2.map D.int)])[M5.length]?=some (.lst (ow2.map D.int)):=zR _ _;have hj6:M.length<=M5.length:=nw5'.len;generalize M5++[MO.lst (ow2.map D.int)]=M6 at nw6 e6;generalize M5.length=j at e6 hj6;rw[zI,zT];refine zD7.mpr (zAM.mpr ⟨zW (by simp),za ?_⟩);rw[zM];have nw7:=nw6.trans (nw6.gen.lst [] rfl);have e8:(M6++[MO.lst ([]:List D)])[M6.length]?=some (.lst []):=zR _ _;have hj8:M.length<=M6.length:=nw6.len;have hjlt:j<M6.length:=(zWX.mp e6).1;have e6':(M6++[MO.lst ([]:List D)])[j]?=some (.lst (ow2.map D.int)):=by rw[zWb hjlt];exact e6
 generalize M6++[MO.lst ([]:List D)]=M7 at nw7 e8 e6';generalize M6.length=j8 at e8 hj8 hjlt;rw[zI,zAe];refine ⟨_,_,_,zCp (x:=.dat (.ref j)) rfl (zb e6'),?_⟩;refine zAZ (I:=fun r σ M'=>(∃ y6 y9 y10 y11 y12,σ=[some (.ref n),some (.int most),some (.int lm),some (mD base),some (.int many),some (.ref j),y6,some (.int (t:Nat)),some (.ref j8),y9,y10,y11,y12]) /\ ∃ (r':List Int) (zA:List (List Int)),r=r'.map D.int/\(∀ x∈r',x∈ow2)/\zA.length+r'.length=many/\(∀ q∈zA,q.length=l /\ ∀ g∈q,0<=g/\g<(many:Int))/\M'[j]?=some (.lst (ow2.map D.int))/\M'[j8]?=some (.lst (zA.map fun r=>D.tup (r.map D.int)))/\Nw M M' n k) ?_ ?_ _ _ _ ⟨⟨_,_,_,_,_,rfl⟩,ow2,[],rfl,fun _ h=>h,by simpa using hlen',(fun _ h=>by cases h),e6',e8,nw7⟩
 ·rintro x r σ M' ⟨⟨y6,y9,y10,y11,y12,rfl⟩,r',zA,hr,hsub,hrl,hrw,ej,ej8,nw⟩;obtain ⟨o,r'',rfl,rfl,rfl⟩:=zA5 hr;refine ⟨.inl ej,_,rfl,?_⟩;obtain ⟨o0,o1⟩:=owb o (hsub o zWi);obtain ⟨bl,bb⟩:=mb.get (h:=o) o0 o1;rw[zI,zT];refine zD7.mpr (zAM.mpr ⟨zW (by simp),za ?_⟩);rw[zM];have nwa:=nw.trans (nw.gen.lst [] rfl);have e10:(M'++[MO.lst ([]:List D)])[M'.length]?=some (.lst []):=zR _ _;have hj10:M.length<=M'.length:=nw.len;have l8:j8<M'.length:=(zWX.mp ej8).1;have l5:j<M'.length:=(zWX.mp ej).1;have ej':(M'++[MO.lst ([]:List D)])[j]?=some (.lst (ow2.map D.int)):=by rw[zWb l5];exact ej
  have ej8':(M'++[MO.lst ([]:List D)])[j8]?=some (.lst (zA.map fun r=>D.tup (r.map D.int))):=by rw[zWb l8];exact ej8
  generalize M'++[MO.lst ([]:List D)]=Ma at nwa e10 ej' ej8';generalize M'.length=j10 at e10 hj10 l8 l5;generalize hrow:base.getD o.toNat []=row at bl bb;rw[zI,zAe];have erow:fOp kIx (zC 3) (zC 9) [some (.ref n),some (.int most),some (.int lm),some (mD base),some (.int many),some (.ref j),y6,some (.int (t:Nat)),some (.ref j8),some (.int o),some (.ref j10),y11,y12] Ma=some (.dat (.tup (row.map D.int)),Ma):=by
   rw[<-hrow];exact zK rfl rfl (zBA zAF (zHG o0 o1))
  refine ⟨_,_,_,zFL erow,?_⟩;refine zAZ (I:=fun r σ M''=>(∃ y6 y11 y12,σ=[some (.ref n),some (.int most),some (.int lm),some (mD base),some (.int many),some (.ref j),y6,some (.int (t:Nat)),some (.ref j8),some (.int o),some (.ref j10),y11,y12]) /\ ∃ (r' q:List Int),r=r'.map D.int/\(∀ x∈r',x∈row)/\q.length+r'.length=l/\(∀ g∈q,0<=g/\g<(many:Int))/\M''[j]?=some (.lst (ow2.map D.int))/\M''[j8]?=some (.lst (zA.map fun r=>D.tup (r.map D.int)))/\M''[j10]?=some (.lst (q.map D.int))/\Nw M M'' n k) ?_ ?_ _ _ _ ⟨⟨_,_,_,rfl⟩,row,[],rfl,fun _ h=>h,by simpa using bl,(fun _ h=>by cases h),ej',ej8',e10,nwa⟩
  ·rintro x r σ Mx ⟨⟨y6,y11,y12,rfl⟩,r',q,hr',hsub',hql,hq,f5,f8,f10,nwx⟩;obtain ⟨g,rr,rfl,rfl,rfl⟩:=zA5 hr';refine ⟨zAH,_,rfl,?_⟩;obtain ⟨g0,g1⟩:=bb g (hsub' g zWi);rw[zI,zT];refine Ok.mono (zMf (by omega) hlen' f5 (ows g g0 g1)) ?_;rintro x M9 ⟨rfl,c,rfl,hne,hcz,hc⟩;refine za ?_;rw[zM,zAt];have nwb:=nwx.trans (nwx.gen.lst (c.map D.int) (zi _ _));have e12:(M9++[MO.lst (c.map D.int)])[M9.length]?=some (.lst (c.map D.int)):=zR _ _;have p5:j<M9.length:=(zWX.mp f5).1;have p8:j8<M9.length:=(zWX.mp f8).1;have p10:j10<M9.length:=(zWX.mp f10).1;have f5':(M9++[MO.lst (c.map D.int)])[j]?=some (.lst (ow2.map D.int)):=by rw[zWb p5];exact f5
   have f8':(M9++[MO.lst (c.map D.int)])[j8]?=some (.lst (zA.map fun r=>D.tup (r.map D.int))):=by rw[zWb p8];exact f8
   have f10':(M9++[MO.lst (c.map D.int)])[j10]?=some (.lst (q.map D.int)):=by rw[zWb p10];exact f10
   have hj12:M.length<=M9.length:=nwx.len;generalize M9++[MO.lst (c.map D.int)]=Mb at nwb e12 f5' f8' f10';generalize M9.length=j12 at e12 hj12 p5 p8 p10;have hcl0:0<c.length:=List.length_pos_iff.mpr hne;have elen:fB zAk (zS (zC 12) zg) [some (.ref n),some (.int most),some (.int lm),some (mD base),some (.int many),some (.ref j),y6,some (.int (t:Nat)),some (.ref j8),some (.int o),some (.ref j10),some (.int g),some (.ref j12)] Mb=some (.dat (.int c.length),Mb):=by
    have:=zCR (f:=zC 12) (σ:=[some (.ref n),some (.int most),some (.int lm),some (mD base),some (.int many),some (.ref j),y6,some (.int (t:Nat)),some (.ref j8),some (.int o),some (.ref j10),some (.int g),some (.ref j12)]) (M:=Mb) rfl (zb e12);rw[zWd]at this;exact this
   refine zE1.mpr (zAU.mpr ⟨_,rfl,⟨_,zAG f10'⟩,zh.mpr (zAJ.mpr (zBP.mpr (zAU.mpr ⟨_,rfl,?_⟩)))⟩);refine zAo nwb.gen rfl elen (by omega) (by omega) fun z Mc z0 z1 nwc _=>?_;have h12:=nwc.get e12 (by omega) (by omega);refine zR9 (zb h12) (zDt z0 z1) ?_;have hcv:=hc (c.getD z.toNat 0) (by rw[zWZ,zWY (by omega)];exact zW2 _);have h5:=nwc.get f5' (by omega) (by omega);have h8:=nwc.get f8' (by omega) (by omega);have h10:=nwc.get f10' (by omega) (by omega);generalize c.getD z.toNat 0=v at hcv;have hql':q.length<l:=by simp at hql;omega
   rw[zJ,zAM,zBG h10 (by rw[zWd];exact zWt (m:=95000) (by omega) (zW (by omega)))];refine ⟨⟨_,_,_,rfl⟩,rr,q++[v],rfl,fun x hx=>hsub' x (zWh _ hx),by simp at hql ⊢;omega,fun x hx=>?_,?_,?_,?_,?_⟩
   ·rcases zWu.mp hx with w|w
    ·exact hq x w
    ·have:x=v:=by simpa using w
     subst this;exact hcv
   ·rw[zWy (by omega)];exact h5
   ·rw[zWy (by omega)];exact h8
   ·rw[zXO (zWX.mp h10).1,zXM];rfl
   ·refine (nwb.trans nwc).setB h (by omega) ?_;show D.unds _ _=true;rw[zFF,zi];rfl
  ·rintro σ Mx ⟨⟨y6,y11,y12,rfl⟩,r',q,hr',hsub',hql,hq,f5,f8,f10,nwx⟩;have:r'=[]:=by cases r' with|nil=>rfl|cons _ _=>cases hr'
   subst this;refine ⟨zAH,?_⟩;rw[zM,zAt];have et:fB zAu (zS (zC 10) zg) [some (.ref n),some (.int most),some (.int lm),some (mD base),some (.int many),some (.ref j),y6,some (.int (t:Nat)),some (.ref j8),some (.int o),some (.ref j10),y11,y12] Mx=some (.dat (.tup (q.map D.int)),Mx):=zCA (x:=.dat (.ref j10)) rfl (zb f10);refine zE1.mpr (zAU.mpr ⟨_,rfl,⟨_,zAG f8⟩,zE (zc et) ?_⟩);have hrl':zA.length<many:=by simp at hrl;omega
   rw[zBG f8 (by rw[zWd];exact zWt (m:=95000) (by omega) (zW (by omega)))];refine ⟨⟨_,_,_,_,_,rfl⟩,r'',zA++[q],rfl,fun x hx=>hsub x (zWh _ hx),by simp at hrl ⊢;omega,fun x hx=>?_,?_,?_,?_⟩
   ·rcases zWu.mp hx with w|w
    ·exact hrw x w
    ·have:x=q:=by simpa using w
     subst this;exact ⟨by simpa using hql,hq⟩
   ·rw[zWy (by omega)];exact f5
   ·rw[zXO (zWX.mp f8).1,zXM];rfl
   ·refine nwx.setB h hj8 ?_;show D.unds _ _=true;rw[zFF,zPL];simp[D.unds,zAh]
 ·rintro σ M' ⟨⟨y6,y9,y10,y11,y12,rfl⟩,r',zA,hr,hsub,hrl,hrw,ej,ej8,nw⟩;have:r'=[]:=by cases r' with|nil=>rfl|cons _ _=>cases hr
  subst this;refine ⟨.inl ej,?_⟩;rw[zM];have hrl':zA.length=many:=by simpa using hrl
  refine zAP (zHJ (zt (d:=mD zA) (zCA (x:=.dat (.ref j8)) rfl (zb ej8)) (zc (d:=.ref j) rfl)) (by simp)) ⟨zA,l,j,ow2,rfl,⟨by omega,l0,fun q hq=>?_⟩,by omega,hL,ej,by omega,nw⟩;obtain ⟨q1,q2⟩:=hrw q hq;exact ⟨q1,fun g hg=>by rw[hrl'];exact q2 g hg⟩
theorem zNu (h:Gen M n k) (hm:20<=most) (hm1:most<=900) (hl:0<lm) (hl1:lm<=900) :
  Ok (zBg [.ref n,.int most,.int lm] M) fun d M'=>∃ zA l p,d=.tup [mD zA,tI p]/\IsM zA l/\(zA.length:Int)<=most/\(l:Int)<=lm/\p.length=zA.length/\Nw M M' n k:=by
 obtain ⟨hn,hk⟩:=h.lt;unfold zBg;refine zGc ?_;rw[zy];unfold zDc
 have tail:∀ (A:Mem) (zA:List (List Int)) (l j:Nat) (ow:List Int) (y5 y6:Option D),Nw M A n k->IsM zA l->(zA.length:Int)<=most->(l:Int)<=lm->A[j]?=some (.lst (ow.map D.int))->ow.length=zA.length ->
   OkS (zAW (zAV (zD (toD (zC 3)) (zD (toD (zP zAY (zD (toD (zC 4)) zH))) zH))) [some (.ref n),some (.int most),some (.int lm),some (mD zA),some (.ref j),y5,y6] A) fun o x M1=>match o with
    |.ret d=>(D.und M.length d=true/\M.length<=M1.length /\ ∀ (j:Nat) u,j<M.length->M1[j]?=some u->MO.und M.length u=true) /\ ∃ zA l p,d=.tup [mD zA,tI p]/\IsM zA l/\(zA.length:Int)<=most/\(l:Int)<=lm/\p.length=zA.length/\Nw M (M1.take M.length) n k
    |.nx=>(D.und M.length .non=true/\M.length<=M1.length /\ ∀ (j:Nat) u,j<M.length->M1[j]?=some u->MO.und M.length u=true) /\ ∃ zA l p,D.non=.tup [mD zA,tI p]/\IsM zA l/\(zA.length:Int)<=most/\(l:Int)<=lm/\p.length=zA.length/\Nw M (M1.take M.length) n k
    |_=>False:=by
  intro A zA l j ow y5 y6 nw m h1 h2 ej hol;refine zAP (zHJ (zt (d:=mD zA) rfl (zc (d:=tI (zCY ow)) (zAd (zc (d:=.ref j) rfl) (zGG nw.gen.wf ej (by omega))))) (by simp)) ⟨⟨?_,nw.len,nw.wf0 h⟩,zA,l,zCY ow,rfl,m,h1,h2,by rw[zHa,hol],nw.trim h⟩;unfold D.und D.unds D.unds D.unds;rw[zEz];simp[tI,zAh]
 rw[zI,zAp];refine zI6.mpr (zBP.mpr (zAo h rfl rfl (by decide) (by decide) fun w M1 w0 w1 nw1 _=>zFO.mpr (zKo.mpr (zJD.mpr ?_))));by_cases hw:w=0
 ·rw[zWj (by simpa using hw),zNZ];refine zAS.mpr (zE (zt rfl (zt rfl (zc rfl))) ?_);refine Ok.mono (zN6 nw1.gen hm hm1 hl hl1) ?_;rintro d M2 ⟨zA,l,j,ow,rfl,m,h1,h2,ej,hol,nw2⟩;rw[zJ];refine ⟨_,rfl,?_⟩;rw[zM];exact tail M2 zA l j ow _ _ (nw1.trans nw2) m h1 h2 ej hol
 ·rw[zWm (by simpa using hw),zI,zT];refine zAS.mpr (zE (zt rfl (zt rfl (zc rfl))) ?_);refine Ok.mono (zHf nw1.gen (by omega) hm1 hl hl1) ?_;rintro d M2 ⟨⟨zA,l,rfl,m,h1,h2⟩,nw2⟩;have r0:=m.r0;have nw2':=nw1.trans nw2;rw[zJ,zM,zI,zT];refine zBP.mpr (zFO.mpr (zAo nw2'.gen rfl (zCB rfl) (by omega) (by omega) fun f M3 f0 f1 nw3 _=>zFf.mpr ?_));have nw3':=nw2'.trans nw3;rw[zJ,zM,zT];refine Ok.mono (zO3 nw3'.gen (few:=1+f) (xs:=zA.map fun r=>D.tup (r.map D.int)) (by omega) (by omega) (by simp;omega) rfl (fun _ _=>rfl) (fun _ _=>rfl)) ?_;rintro x M4 ⟨⟨c,rfl,hcl,_⟩,nw4⟩;have nw4':=nw3'.trans nw4;refine za ?_;rw[zM];exact tail _ zA l M4.length c _ _ (nw4'.trans (nw4'.gen.lst _ (zi _ _))) m (by omega) h2 (zR _ _) (by rw[hcl];simp)
open Lac
noncomputable def zEn:FS:=(zAW (zAV (zD (toD (fB zGu (zS (zC 0) (zS (zC 1) zg)))) (zD (toD (fB zLi (zS (zC 0) (zS (zC 1) zg)))) zH))))
noncomputable def zBC:FF:=zBN 2 zEn
noncomputable def zEE:FS:=(zX (zo 1 (zAT zH))
  (zX (zBo (zv (zD (toD (zC 0)) zH)) (gN 2) (zAa (fM zEO (zC 1) (zD (toD (zm [3] (zv (zD (toD (fOp zAE (zC 2) (fC (.int 1)))) (zD (toD (zC 0)) zH))) (gN 3) zr (zAV (zD (toD (zC 2)) (zD (toD (zC 3)) zH))))) zH))))
  (zAW (zC 1))))
noncomputable def zAw:FF:=zBN 4 zEE
theorem zK3:zBC [.int a,.int b] M=some (tI (zAv a b),M):=by
 refine zY ?_;unfold zBC;rw[zy];unfold zEn;exact zAP (d:=tI (zAv a b)) (zHJ (zt (zNI (i:=a) (j:=b) rfl rfl) (zc (zRy (i:=a) (j:=b) rfl rfl))) (by simp[zAv])) ⟨rfl,rfl⟩
theorem zMd (hk:k<n):((List.range n).map fun (k:Nat)=>(k:Int)).drop (k+1)=(List.range (n-(k+1))).map fun (j:Nat)=>((k:Int)+1+(j:Int)):=by
 apply List.ext_getElem?;intro i;rw[List.getElem?_drop,zWr,zWr];by_cases h:i<n-(k+1)
 ·rw[zYY (by omega),zYY h];simp only[Option.map_some];all_goals (congr 1 <;> omega)
 ·rw[zXd (by rw[zYR];omega),zXd (by rw[zYR];omega)];rfl
theorem zFK (hN:N=(zA.length:Int)) (hz:zA.length<=100) :
  Ok (zAw [.int N] M) fun d M'=>d=.ref M.length /\ ∃ us:Mem,M'=M ++ .lst ((zO (zF zA)).map tI)::us /\ ∀ u∈us,MO.und 0 u=true:=by
 have hrl:(zF zA).length=zA.length:=by unfold zF;simp
 have hpw:(zF zA).Pairwise (· < ·):=by
  unfold zF;rw[List.pairwise_map];exact List.Pairwise.imp (fun h=>by omega) List.pairwise_lt_range
 unfold zAw;rw[zy];unfold zEE;rw[zI,zT];refine zE (M:=M) (a:=.fl []) (zJS rfl (by simp)) (za ?_);rw[zM];rw[zI,zAe];refine ⟨_,_,_,zBi (j:=N) rfl (by omega) (by omega),?_⟩;rw[show N.toNat=zA.length by omega];refine zHP (n:=zA.length) (I:=fun k σ M'=>(∃ y2 y3,σ=[some (.int N),some (.ref M.length),y2,y3]) /\ ∃ us:Mem,M'=M ++ .lst ((zF2 (zF zA) k).map tI)::us /\ ∀ u∈us,MO.und 0 u=true) ?_ ?_ _ _ ⟨⟨_,_,rfl⟩,[],by simp[zF2],(fun _ h=>by cases h)⟩
 ·rintro k σ M' hk ⟨⟨y2,y3,rfl⟩,us,rfl,hu⟩;refine ⟨_,rfl,?_⟩;generalize hA:M++MO.lst ((zF2 (zF zA) k).map tI)::us=A;have a1:A[M.length]?=some (.lst ((zF2 (zF zA) k).map tI)):=by rw[<-hA];simp
  have al:M.length<A.length:=(zWX.mp a1).1;rw[zAt];have ec:=zAs (own:=[3]) (g:=gN 3) (te:=zAV (zD (toD (zC 2)) (zD (toD (zC 3)) zH))) (σ:=[some (.int N),some (.ref M.length),some (.int (k:Int)),y3]) (M:=A) (List.range (N-((k:Int)+1)).toNat) (fun (j:Nat)=>D.int ((k:Int)+1+(j:Int))) (fun (j:Nat)=>tI [(k:Int),(k:Int)+1+(j:Int)]) (zOn (f:=fOp zAE (zC 2) (fC (.int 1))) (g:=zC 0) (i:=(k:Int)+1) (j:=N) rfl rfl (by omega) (by omega) (by omega) (by omega)) trivial (by rw[zYR];omega) fun b _=>⟨_,rfl,zHJ (zt (d:=.int (k:Int)) rfl (zc (d:=.int ((k:Int)+1+(b:Int))) rfl)) (by simp)⟩;have htl:=zSi (zF zA) k;rw[hrl]at htl;have hmul:k*zA.length<=100*100:=zX6 (by omega) hz;refine zE1.mpr (zE (a:=.dat (.ref M.length)) (M:=A) rfl ⟨⟨_,zAG a1⟩,zh.mpr (zAJ.mpr (zE ec (za ?_)))⟩);rw[zAM];have ey:((List.range (N-((k:Int)+1)).toNat).map fun (j:Nat)=>tI [(k:Int),(k:Int)+1+(j:Int)])=((zF zA).drop (k+1)).map fun b=>tI [(zF zA).getD k 0,b]:=by
   have e1:(zF zA).getD k 0=(k:Int):=by
    unfold zF;rw[zWZ,zWr,zYY hk];rfl
   rw[e1];unfold zF;rw[zMd hk,zWs,show (N-((k:Int)+1)).toNat=zA.length-(k+1) by omega];rfl
  rw[ey];refine zE (zNb (n:=M.length) (m:=A.length) (xs:=(zF2 (zF zA) k).map tI) (ys:=((zF zA).drop (k+1)).map fun b=>tI [(zF zA).getD k 0,b]) (by rw[zWb al];exact a1) (zR _ _) (by rw[zWd,zWd,List.length_drop,hrl];omega)) ?_;refine ⟨⟨_,_,rfl⟩,us++[.lst (((zF zA).drop (k+1)).map fun b=>tI [(zF zA).getD k 0,b])],?_,fun u hu'=>?_⟩
  ·rw[<-hA,zXa,List.set_append_right _ _ (zWa _)];have:(zF2 (zF zA) (k+1)).map tI=(zF2 (zF zA) k).map tI++((zF zA).drop (k+1)).map fun b=>tI [(zF zA).getD k 0,b]:=by
    unfold zF2;rw[List.range_succ,List.flatMap_append,zXM];simp[zWs,Function.comp_def]
   rw[this];simp
  ·rcases zWu.mp hu' with q|q
   ·exact hu u q
   ·rw[zWw]at q;subst q;rw[show ((zF zA).drop (k+1)).map (fun b=>tI [(zF zA).getD k 0,b])=(((zF zA).drop (k+1)).map fun b=>[(zF zA).getD k 0,b]).map tI by rw[zWs];rfl];exact zCt 0 _
 ·rintro σ M' ⟨⟨y2,y3,rfl⟩,us,rfl,hu⟩;rw[zM];exact zAP (d:=.ref M.length) rfl ⟨rfl,us,by rw[<-hrl,zOz hpw],hu⟩
def zEa (zA:List (List Int)) (a:Int):List Int:=zA.getD a.toNat []
def zpR (zA:List (List Int)) (p:List Int):List (List Int):=((zEa zA (p.getD 0 0)).zip (zEa zA (p.getD 1 0))).map fun q=>zAv q.1 q.2
def stB (zA:List (List Int)) (ps:List (List Int)):List (List Int × List Int):=ps.flatMap fun p=>(zpR zA p).map fun g=>(p,g)
theorem zPb (zA:List (List Int)) (ps:List (List Int)) (p:List Int):stB zA (ps++[p])=stB zA ps++(zpR zA p).map fun g=>(p,g):=by
 unfold stB;rw[List.flatMap_append];simp
theorem zRW:(p,g)∈stB zA ps ↔ p∈ps/\g∈zpR zA p:=by
 unfold stB;rw[List.mem_flatMap];constructor
 ·rintro ⟨a,ha,h⟩;obtain ⟨b,hb,e⟩:=zWl.mp h;cases e;exact ⟨ha,hb⟩
 ·rintro ⟨h1,h2⟩;exact ⟨p,h1,zWl.mpr ⟨g,h2,rfl⟩⟩
theorem zNH (m:IsM zA l) (h:p∈zO (zF zA)):(zpR zA p).length=l:=by
 obtain ⟨a,b,rfl,ha,hb,_⟩:=zAX.mp h;obtain ⟨i,hi,rfl⟩:=zWl.mp ha;obtain ⟨j,hj,rfl⟩:=zWl.mp hb;have:=zW8.mp hi;have:=zW8.mp hj;have h1:=(m.get (h:=(i:Int)) (by omega) (by omega)).1;have h2:=(m.get (h:=(j:Int)) (by omega) (by omega)).1;unfold zpR;rw[zWd,List.length_zip];show min (zEa zA (i:Int)).length (zEa zA (j:Int)).length=l;unfold zEa;rw[h1,h2];omega
theorem zM2 (m:IsM zA l):∀ {ps:List (List Int)},(∀ p∈ps,p∈zO (zF zA))->(stB zA ps).length=ps.length*l
 |[],_=>by simp[stB]
 |p::r,h=>by
  have ih:=zM2 m (ps:=r) fun q hq=>h q (zWh _ hq);unfold stB at ih ⊢;rw[List.flatMap_cons,zWk,ih,zWd,zNH m (h p zWi),zW1,Nat.add_mul];omega
abbrev bhS (zA:List (List Int)) (x1:Option D) (jA:Nat) (y3 y4 y5:Option D):Sd:=[some (mD zA),x1,some (.ref jA),y3,y4,y5,none,none,none,none]
structure Wb (zA:List (List Int)) (B M:Mem) (jA:Nat) (ps:List (List Int × List Int)):Prop where
 a:SrG M jA (B.length-1) ps
 ad:∀ T,M[jA]?=some (dT T) -> ∀ q∈T,∃ j,q.2=.ref j/\j<M.length
 len:B.length<=M.length
 fr:∀ j,j<B.length->j≠jA->M[j]?=B[j]?
 wf:∀ (j:Nat) u,B.length<=j->M[j]?=some u -> ∃ ts:List (List Int),u=.lst (ts.map tI)
theorem zRf (h:Wb zA B M jA ps) (hA:jA<B.length-1) (hps:ps.length<50000) (hσ:(zC 4 σ M=some (.dat (.int a),M)/\zC 5 σ M=some (.dat (.int b),M)))
  (v2:∀ M,zC 2 σ M=some (.dat (.ref jA),M)) (v3:∀ M,zC 3 σ M=some (.dat (tI p),M)) (v4:∀ M,zC 4 σ M=some (.dat (.int a),M)) (v5:∀ M,zC 5 σ M=some (.dat (.int b),M)) (hB:0<B.length) :
  OkS (zAa (fM zk (zB3 (zC 2) (zP zBC (zD (toD (zC 4)) (zD (toD (zC 5)) zH))) (zAT zH)) (zD (toD (zC 3)) zH)) σ M) fun o σ' M'=>o=.nx/\σ'=σ/\Wb zA B M' jA (ps++[(p,zAv a b)]):=by
 have hlen:=h.len;refine OkS.mono (zSf (lo:=B.length-1) (goal:=zAv a b) (fk:=zP zBC (zD (toD (zC 4)) (zD (toD (zC 5)) zH))) hps hA (by omega) h.a h.ad v2 (fun M=>zAd (zt (v4 M) (zc (v5 M))) zK3) v3) ?_;rintro o σ' M' ⟨rfl,rfl,sr,ad,hl,fr,wf⟩;refine ⟨rfl,rfl,sr,ad,by omega,fun j hj hn=>(fr j (by omega) hn).trans (h.fr j hj hn),fun j u hj e=>?_⟩;rcases wf j u (by omega) e with z|z
 ·exact z
 ·exact h.wf j u hj z
theorem zQd (m:IsM zA l) (hR:zA.length<=26) (hl:l<=12) (hA:M[jA]?=some (dT [])) (hJ:jA<M.length) :
  OkS (zBo (zn (zP zAw (zD (toD (fB zAk (zS (zC 0) zg))) zH))) (gN 3) (zBo (zJG (zD (toD (fOp kIx (zC 0) (fOp kIx (zC 3) (fC (.int 0))))) (zD (toD (fOp kIx (zC 0) (fOp kIx (zC 3) (fC (.int 1))))) zH))) (zBp 4 5) (zAa (fM zk (zB3 (zC 2) (zP zBC (zD (toD (zC 4)) (zD (toD (zC 5)) zH))) (zAT zH)) (zD (toD (zC 3)) zH)))) (bhS zA x1 jA y3 y4 y5) M)
   fun o σ' M'=>o=.nx/\(∃ y3 y4 y5,σ'=bhS zA x1 jA y3 y4 y5) /\ ∃ B:Mem,jA<B.length-1/\M.length<B.length/\Wb zA B M' jA (stB zA (zO (zF zA)))/\(∀ j,j<M.length->B[j]?=M[j]?) /\ ∀ (j:Nat) u,M.length<=j->B[j]?=some u->MO.und 0 u=true:=by
 have eL:toD (fB zAk (zS (zC 0) zg)) (bhS zA x1 jA y3 y4 y5) M=some (.int (zA.length:Int),M):=by
  have:=zCR (f:=zC 0) (σ:=bhS zA x1 jA y3 y4 y5) (M:=M) (x:=.dat (mD zA)) rfl zAF;rw[zWd]at this;exact zD9 this
 obtain ⟨d,M1,e1,rfl,us,eM1,hus⟩:=zFK (zA:=zA) (M:=M) (N:=(zA.length:Int)) rfl (by omega);have eP:M1[M.length]?=some (.lst ((zO (zF zA)).map tI)):=by rw[eM1];simp
 rw[zAe];refine ⟨_,_,_,zDT (ds:=[.int (zA.length:Int)]) (by unfold zD zH;rw[eL]) e1 eP,?_⟩;have h1:M.length<M1.length:=(zWX.mp eP).1;have hfr:∀ j,j<M.length->M1[j]?=M[j]?:=fun j hj=>by rw[eM1,zWb hj]
 have hund:∀ (j:Nat) u,M.length<=j->M1[j]?=some u->MO.und 0 u=true:=fun j u hj e=>by
  rw[eM1,zXe hj]at e;have:=zXL e;rcases zWg.mp this with z|z
  ·subst z;exact zCt 0 _
  ·exact hus u z
 have hPl:(zO (zF zA)).length<=676:=by
  have h2:=zBW (zF zA);have hrl:(zF zA).length=zA.length:=by unfold zF;simp
  rw[hrl]at h2;exact zWv h2 (zX6 hR hR)
 have eA1:M1[jA]?=some (dT []):=(hfr jA hJ).trans hA;have w0:Wb zA M1 M1 jA (stB zA []):=by
  refine ⟨⟨[],eA1,by simp,(fun g d h=>by cases h),(fun _ _=>rfl),(fun g g' j h=>by cases h)⟩,fun T e q hq=>?_,zWa _,fun _ _ _=>rfl,fun j u hj e=>absurd (zWX.mp e).1 (by omega)⟩;rw[eA1]at e;have:zEb ([]:List (List Int × D))=zEb T:=MO.dicT.inj (zXU e);cases T with
  |nil=>cases hq
  |cons _ _=>cases this
 refine zAZ (I:=fun r σ M'=>(∃ y3 y4 y5,σ=bhS zA x1 jA y3 y4 y5) /\ ∃ us vs:List (List Int),zO (zF zA)=us++vs/\r=vs.map tI/\Wb zA M1 M' jA (stB zA us)) ?_ ?_ _ _ _ ⟨⟨_,_,_,rfl⟩,[],_,rfl,rfl,w0⟩
 ·rintro x r σ M' ⟨⟨y3,y4,y5,rfl⟩,us,vs,hab,hr,w⟩;have ep:M'[M.length]?=some (.lst ((zO (zF zA)).map tI)):=(w.fr _ h1 (by omega)).trans eP;cases vs with
  |nil=>cases hr
  |cons p vs=>
   rw[zWn]at hr;obtain ⟨rfl,rfl⟩:=zXY hr;have hpm:p∈zO (zF zA):=by rw[hab];simp
   have hul:us.length<676:=by have:=zYH List.length hab;simp at this;omega
   refine ⟨.inl ep,_,rfl,?_⟩;obtain ⟨a,b,rfl,ha,hb,_⟩:=zAX.mp hpm;obtain ⟨i,hi,rfl⟩:=zWl.mp ha;obtain ⟨j,hj,rfl⟩:=zWl.mp hb;have hi':=zW8.mp hi;have hj':=zW8.mp hj;have ra:=zHG (zA:=zA) (h:=(i:Int)) (by omega) (by omega);have rb:=zHG (zA:=zA) (h:=(j:Int)) (by omega) (by omega);rw[zAe];have ez:zJG (zD (toD (fOp kIx (zC 0) (fOp kIx (zC 3) (fC (.int 0))))) (zD (toD (fOp kIx (zC 0) (fOp kIx (zC 3) (fC (.int 1))))) zH)) (bhS zA x1 jA (some (tI [(i:Int),(j:Int)])) y4 y5) M'=some (((zEa zA (i:Int)).zip (zEa zA (j:Int))).map (fun q=>D.tup [.int q.1,.int q.2]),none,M'):=by
    unfold zJG;rw[zt (d:=.tup ((zEa zA (i:Int)).map D.int)) (zK (x:=.dat (mD zA)) (y:=.dat (.int (i:Int))) rfl (zK (x:=.dat (tI [(i:Int),(j:Int)])) (y:=.dat (.int 0)) rfl rfl (zBA zAF rfl)) (zBA zAF ra)) (zc (d:=.tup ((zEa zA (j:Int)).map D.int)) (zK (x:=.dat (mD zA)) (y:=.dat (.int (j:Int))) rfl (zK (x:=.dat (tI [(i:Int),(j:Int)])) (y:=.dat (.int 1)) rfl rfl (zBA zAF rfl)) (zBA zAF rb)))];dsimp only;rw[List.zip_map,zWs];rfl
   refine ⟨_,_,_,ez,?_⟩;have hcnt:∀ us2:List (Int × Int),us2.length<=12->(stB zA us++(us2.map fun q=>zAv q.1 q.2).map fun g=>([(i:Int),(j:Int)],g)).length<50000:=fun us2 h=>by
    rw[zWk,zM2 m (fun q hq=>by rw[hab];exact zXj _ hq),zWd,zWd];have:=zX6 (show us.length<=676 by omega) hl;omega
   have hzl:((zEa zA (i:Int)).zip (zEa zA (j:Int))).length=l:=by
    have:=zNH m hpm;unfold zpR at this;rw[zWd]at this;exact this
   generalize hZ:(zEa zA (i:Int)).zip (zEa zA (j:Int))=Z at hzl;refine zAZ (I:=fun r σ M''=>(∃ y4 y5,σ=bhS zA x1 jA (some (tI [(i:Int),(j:Int)])) y4 y5) /\ ∃ us2 vs2:List (Int × Int),Z=us2++vs2/\r=vs2.map (fun q=>D.tup [.int q.1,.int q.2])/\Wb zA M1 M'' jA (stB zA us++(us2.map fun q=>zAv q.1 q.2).map fun g=>([(i:Int),(j:Int)],g))) ?_ ?_ _ _ _ ⟨⟨_,_,rfl⟩,[],Z,rfl,rfl,by simpa using w⟩
   ·rintro x r σ M2 ⟨⟨y4,y5,rfl⟩,us2,vs2,hab2,hr2,w2⟩;cases vs2 with
    |nil=>cases hr2
    |cons q vs2=>
     rw[zWn]at hr2;obtain ⟨rfl,rfl⟩:=zXY hr2;have hu2:us2.length<=12:=by have:=zYH List.length hab2;simp at this;omega
     refine ⟨zAH,_,rfl,?_⟩;refine OkS.mono (zRf (p:=[(i:Int),(j:Int)]) (a:=q.1) (b:=q.2) (σ:=bhS zA x1 jA (some (tI [(i:Int),(j:Int)])) (some (.int q.1)) (some (.int q.2))) w2 (by omega) (hcnt us2 hu2) ⟨rfl,rfl⟩ (fun _=>rfl) (fun _=>rfl) (fun _=>rfl) (fun _=>rfl) (by omega)) ?_;rintro o σ' M3 ⟨rfl,rfl,w3⟩;refine ⟨⟨_,_,rfl⟩,us2++[q],vs2,by rw[hab2];simp,rfl,?_⟩;rw[zXM,zXM,<-zXa];exact w3
   ·rintro σ M2 ⟨⟨y4,y5,rfl⟩,us2,vs2,hab2,hr2,w2⟩;have:vs2=[]:=by cases vs2 with|nil=>rfl|cons _ _=>cases hr2
    subst this;rw[zXE]at hab2;refine ⟨zAH,⟨_,_,_,rfl⟩,us++[[(i:Int),(j:Int)]],vs,by rw[hab];simp,rfl,?_⟩;rw[zPb];have:zpR zA [(i:Int),(j:Int)]=us2.map fun q=>zAv q.1 q.2:=by
     unfold zpR;rw[<-hab2,<-hZ];rfl
    rw[this];exact w2
 ·rintro σ M' ⟨⟨y3,y4,y5,rfl⟩,us,vs,hab,hr,w⟩;have:vs=[]:=by cases vs with|nil=>rfl|cons _ _=>cases hr
  subst this;rw[zXE]at hab;rw[<-hab]at w;exact ⟨.inl ((w.fr _ h1 (by omega)).trans eP),rfl,⟨_,_,_,rfl⟩,M1,by omega,h1,w,hfr,hund⟩
noncomputable def zDL:FS:=(zX (zo 2 zJy)
  (zX (zBo (zn (zP zAw (zD (toD (fB zAk (zS (zC 0) zg))) zH))) (gN 3) (zBo (zJG (zD (toD (fOp kIx (zC 0) (fOp kIx (zC 3) (fC (.int 0))))) (zD (toD (fOp kIx (zC 0) (fOp kIx (zC 3) (fC (.int 1))))) zH))) (zBp 4 5) (zAa (fM zk (zB3 (zC 2) (zP zBC (zD (toD (zC 4)) (zD (toD (zC 5)) zH))) (zAT zH)) (zD (toD (zC 3)) zH)))))
  (zX (zo 6 (fB (zEP true) (zS (zm [7] (zn (zC 1)) (gN 7) zr (zAV (zD (toD (zC 7)) (zD (toD (fC (.int 0))) zH)))) zg)))
  (zX (zo 8 (fB zF4 (zS (zC 1) zg)))
  (zX (zo 9 (fC (.int 0)))
  (zX (zBV (tst (fOp kLt (zC 9) (fB zAk (zS (zC 8) zg)))) (zX (zBo (zn (zA6 (zC 2) (fOp kIx (zC 8) (zC 9)) (zAT zH))) (gN 3) (sIf (tst (fOp (zAm true) (zC 3) (zC 6))) (zX (zBZ (fOp zAE (fOp zq (zC 6) (fOp kIx (zC 8) (zC 9))) (fC (.int 1))) (zC 6) (zC 3))
  (zAa (fM zk (zC 8) (zD (toD (zC 3)) zH)))) zBB))
  (zo 9 (fOp zAE (zC 9) (fC (.int 1))))) 1000)
  (zAW (zC 6))))))))
noncomputable def zAx:FF:=zBN 10 zDL
theorem zLK:∀ (r q:List (List Int)),(q++r).Nodup->(q++r).length<=80000->L3.zF0 A.length (r.map fun g=>D.tup [tI g,.int 0]) (A++[dT (zBn (q.map fun g=>(g,(0:Int))))])=some (A++[dT (zBn ((q++r).map fun g=>(g,(0:Int))))])
 |[],q,_,_=>by rw[zXE];rfl
 |g::r,q,nd,hz=>by
  have hg:g∉(q.map fun g=>(g,(0:Int))).map (·.1):=by
   rw[zWs,show ((fun (x:List Int × Int)=>x.1)∘fun (t:List Int)=>(t,(0:Int)))=id from rfl,List.map_id];rw[zXi]at nd;exact fun z=>nd.2.2 g z g zWi rfl
  have hl:q.length<90000:=by simp at hz;omega
  rw[zWn];unfold L3.zF0;rw[zIc (T:=zBn (q.map fun g=>(g,(0:Int)))) (zR _ _) (by unfold zBn;rw[zWd,zWd];exact hl),zLf hg];dsimp only;rw[List.set_append_right _ _ (zWa _),Nat.sub_self,List.set_cons_zero];have:=zLK (A:=A) r (q++[g]) (by simpa using nd) (by simpa using hz);rw[show (q++[g]).map (fun g=>(g,(0:Int)))=q.map (fun g=>(g,(0:Int)))++[(g,0)] by simp]at this;rw[this,zXa];rfl
def zGY (zA:List (List Int)) (g:List Int):List (List Int):=zCk (stB zA (zO (zF zA))) g
theorem zHH:p∈zGY zA g ↔ p∈zO (zF zA)/\g∈zpR zA p:=by
 unfold zGY;rw[zOP,zRW]
theorem zEg {zA:List (List Int)} (m:IsM zA l) (hR:zA.length<=26) (hl:l<=12) {M:Mem} {gs:List (List Int)} (hg:M[jg]?=some (.lst (gs.map tI))) (nd:gs.Nodup) {U:List (List Int)} (hU1:∀ p∈zO (zF zA),p∈U) (hU2:∀ g∈gs,g∈U) (hz:U.length<=800) :
  Ok (zAx [mD zA,.ref jg] M) fun d M'=>∃ jf T,d=.ref jf/\M.length<=jf/\M'[jf]?=some (dT (zBn T))/\BI (zGY zA) gs T T.length/\(∀ p∈T.map (·.1),p∈U)/\M.length<=M'.length/\(∀ j,j<M.length->M'[j]?=M[j]?) /\ ∀ (j:Nat) u,M.length<=j->M'[j]?=some u->MO.und M'.length u=true:=by
 have hgl:=(zWX.mp hg).1;have hgz:gs.length<=800:=zWv (zHY _ _ nd hU2) hz;unfold zAx;rw[zy];unfold zDL;show OkS (zX _ _ [some (mD zA),some (.ref jg),none,none,none,none,none,none,none,none] M) _;rw[zI,zT];refine zE (M:=M++[.dicT []]) (a:=.dat (.ref M.length)) rfl ?_;rw[zJ,zM];rw[zI];simp only[List.set_cons_succ,List.set_cons_zero];refine OkS.mono (zQd m hR hl (zR _ _) (by simp)) ?_;rintro o σ' M2 ⟨rfl,⟨y3,y4,y5,rfl⟩,B1,hA1,hB1,w,fr1,und1⟩;rw[zWk,zZj]at hB1 fr1 und1;rw[zM,zI,zT];have w2:=w.len;have g2:M2[jg]?=some (.lst (gs.map tI)):=by rw[w.fr jg (by omega) (by omega),fr1 jg (by omega),zWb hgl];exact hg
 have ec:=zAs (own:=[7]) (g:=gN 7) (te:=zAV (zD (toD (zC 7)) (zD (toD (fC (.int 0))) zH))) (fi:=zn (zC 1)) (σ:=bhS zA (some (.ref jg)) M.length y3 y4 y5) (M:=M2) gs tI (fun g=>D.tup [tI g,.int 0]) (gd:=zCz (.dat (.ref jg)) (gs.map tI)) (by unfold zn;rw[show zC 1 (bhS zA (some (.ref jg)) M.length y3 y4 y5) M2=some (.dat (.ref jg),M2)from rfl];dsimp only;rw[zb g2]) (.inl g2) (by omega) fun g _=>⟨_,rfl,zHJ (zt (d:=tI g) rfl (zc (d:=.int 0) rfl)) (by simp)⟩;have ed:fB (zEP true) (zS (zm [7] (zn (zC 1)) (gN 7) zr (zAV (zD (toD (zC 7)) (zD (toD (fC (.int 0))) zH)))) zg) (bhS zA (some (.ref jg)) M.length y3 y4 y5) M2=some (.dat (.ref M2.length),M2++[dT (zBn (gs.map fun g=>(g,(0:Int))))]):=by
  unfold fB zS zg;rw[ec];unfold zEP;dsimp only;have:=zLK (A:=M2) gs [] (by simpa using nd) (by simp;omega);rw[show zE2 true=dT (zBn (([]:List (List Int)).map fun g=>(g,(0:Int))))from rfl,this];rfl
 refine zE ed ?_;rw[zJ,zM];have hM2:M.length+1<M2.length:=by omega
 have g3:(M2++[dT (zBn (gs.map fun g=>(g,(0:Int))))])[jg]?=some (.lst (gs.map tI)):=by rw[zWb (by omega)];exact g2
 rw[zI,zT];refine zPC.mpr (zDy.mpr (zAU.mpr ⟨_,rfl,zFS.mpr ((zPo (zb g3)).mpr (za ?_))⟩));rw[zM];refine zC2 (d:=.int 0) rfl ?_;generalize hB:M2++[dT (zBn (gs.map fun g=>(g,(0:Int))))]++[MO.lst (gs.map tI)]=B;have eJ:(M2++[dT (zBn (gs.map fun g=>(g,(0:Int))))]).length=M2.length+1:=by simp
 rw[eJ];have bl:B.length=M2.length+2:=by rw[<-hB];simp
 have bF:B[M2.length]?=some (dT (zBn (gs.map fun g=>(g,(0:Int))))):=by rw[<-hB,zWb (by simp)];exact zR _ _
 have bR:B[M2.length+1]?=some (.lst (gs.map tI)):=by
  have:=zR (M2++[dT (zBn (gs.map fun g=>(g,(0:Int))))]) (MO.lst (gs.map tI));rw[eJ]at this;rw[<-hB];exact this
 have bO:∀ j,j<M2.length->B[j]?=M2[j]?:=fun j hj=>by rw[<-hB,zXa,zWb hj]
 obtain ⟨TA,eA,hTl,k1,k2,k3⟩:=w.a.ex;have key:((gs.map fun g=>(g,(0:Int))).map (·.1))=gs:=by rw[zWs,show ((fun (x:List Int × Int)=>x.1)∘fun (t:List Int)=>(t,(0:Int)))=id from rfl,List.map_id]
 have hPl:(zO (zF zA)).length<=676:=by
  have h2:=zBW (zF zA);have hrl:(zF zA).length=zA.length:=by unfold zF;simp
  rw[hrl]at h2;exact zWv h2 (zX6 hR hR)
 rw[zI];refine OkS.mono (zN1 (src:=zGY zA) (goals:=gs) (U:=U) (TA:=TA) (T:=gs.map fun g=>(g,(0:Int))) (by rw[bO _ (by omega)];exact eA) (by omega) (by omega) (by omega) (by omega) (by omega) (fun g=>?_) ⟨bF,by rw[key];exact bR,zWa _,fun _ _ _ _=>rfl,fun j u hj e=>absurd (zWX.mp e).1 (by omega)⟩ (zQm nd) (fun g p hp=>hU1 p (zHH.mp hp).1) (fun p hp=>by rw[key]at hp;exact hU2 p hp) hz) ?_
 ·cases e:zG TA g with
  |none=>exact .inr ⟨rfl,k2 g e⟩
  |some d=>
   obtain ⟨j,rfl,hj,ej⟩:=k1 g d e;have:=(zWX.mp ej).1;exact .inl ⟨j,rfl,by omega,by omega,by rw[bO j this];exact ej⟩
 ·rintro o σ' M3 ⟨rfl,⟨y3,i,rfl⟩,T,b,bi,hU⟩;rw[zM];have bl3:=b.len;refine zAP (d:=.ref M2.length) rfl ⟨M2.length,T,rfl,by omega,b.f,bi,hU,by omega,fun j hj=>?_,fun j u hj e=>?_⟩
  ·rw[b.fr j (by omega) (by omega) (by omega),bO j (by omega),w.fr j (by omega) (by omega),fr1 j (by omega),zWb hj]
  ·rcases zXq j B.length with z|z
   ·by_cases z1:j=M2.length
    ·subst z1;rw[b.f]at e;cases e;show ((zEb (zBn T)).all fun p=>D.und M3.length p.1&&D.und M3.length p.2)=true;rw[zW5];intro p hp;obtain ⟨r,hr,rfl⟩:=zWl.mp hp;obtain ⟨r',hr',rfl⟩:=zWl.mp hr;simp[tI,zAh,D.und,zi]
    by_cases z2:j=M2.length+1
    ·subst z2;rw[b.r]at e;cases e;exact zCt _ _
    rw[b.fr j z z1 z2,bO j (by omega)]at e;by_cases z3:j=M.length
    ·subst z3;rw[eA]at e;cases e;show ((zEb TA).all fun p=>D.und M3.length p.1&&D.und M3.length p.2)=true;rw[zW5];intro p hp;obtain ⟨r,hr,rfl⟩:=zWl.mp hp;obtain ⟨j,h1,h2⟩:=w.ad TA eA r hr;rw[h1];have:j<M3.length:=by omega
     simp[tI,zAh,D.und,zi,this]
    rcases zXq j B1.length with y|y
    ·rw[w.fr j y z3]at e;exact zBv (zXG _) (und1 j u (by omega) e)
    ·obtain ⟨ts,rfl⟩:=w.wf j u y e;exact zCt _ _
   ·rw[b.wf j u z e];rfl
end Lad
namespace Lac
open PySem PySem.Spec PyProof.Rows L2 L3 ST Law
end Lac
namespace Lac
open PySem PySem.Spec PyProof.Rows L2 L3 ST Law
noncomputable def zKJ:FS:=(zX (zo 1 (zP zDE (zD (toD (zC 0)) zH)))
  (zAW (fB zAu (zS (zm [2] (zn (zP zAO (zD (toD (zP zAD (zD (toD (zC 0)) zH))) zH))) (gN 2) (tst (fOp (zAm true) (zC 2) (zC 1))) (zC 2)) zg))))
noncomputable def zE7:FF:=zGD (zBN 3 zKJ)
open Classical in
noncomputable def zAq (zA:List (List Int)) (l:Nat):List (List Int):=(zO (zF zA)).filter fun p=>decide (p∉zBd zA l One)
theorem zM3 (n:Nat) (ps:List (List Int)):D.und n (.tup (ps.map tI))=true:=by unfold D.und;exact zCt n ps
theorem zQV (m:IsM zA l) (hR:zA.length<=26) (hl:l<=12):zE7 [mD zA] M=some (.tup ((zAq zA l).map tI),M):=by
 refine zY ?_;unfold zE7;refine zGj ?_ ?_
 ·unfold D.unds D.unds;rw[zEz];rfl
 rw[zy];unfold zKJ;obtain ⟨d,M1,e,jf,rfl,_,⟨fd,h2,_,sp⟩,_,_⟩:=zMT m hR hl (M:=[]);rw[zI,zT];refine zE (zAd (zc (d:=mD zA) rfl) e) ?_;rw[zJ,zM];have hrl:(zF zA).length=zA.length:=by unfold zF;simp
 have epr:=zFY (xs:=zF zA) (by omega) (M:=M1);have ei:zn (zP zAO (zD (toD (zP zAD (zD (toD (zC 0)) zH))) zH)) [some (mD zA),some (.ref jf),none] M1=_:=zDT (zc (d:=tI (zF zA)) (zAd (zc (d:=mD zA) rfl) (zED (by omega)))) epr (zR _ _);have hjl:=(zWX.mp h2).1;have hPl:=zBu hR;have ef:=zBF (own:=[2]) (g:=gN 2) (tc:=tst (fOp (zAm true) (zC 2) (zC 1))) (te:=zC 2) (zO (zF zA)) tI tI (fun p=>open Classical in decide (p∉zBd zA l One)) ei (.inl (zR _ _)) (by omega) (fun p hp=>by
  refine ⟨[some (mD zA),some (.ref jf),some (tI p)],rfl,?_,fun _=>rfl⟩;have e1:fOp (zAm true) (zC 2) (zC 1) [some (mD zA),some (.ref jf),some (tI p)] (M1++[MO.lst ((zO (zF zA)).map tI)])=_:=zK (x:=.dat (tI p)) (y:=.dat (.ref jf)) rfl rfl (zID (T:=fd) (by rw[zWb hjl];exact h2));rw[zWj rfl]at e1;have hb:(zG fd p).isSome=true ↔ p∈zBd zA l One:=by
   rw[zCO];constructor
   ·intro h;cases eL:zG fd p with
    |none=>rw[eL]at h;cases h
    |some d=>
     obtain ⟨_,n,hn,_⟩:=(sp p d).mp eL;cases n with
     |zero=>
      obtain ⟨a,b,rfl,_⟩:=zAX.mp hp;exact absurd (zBj.mp hn) (by simp[One])
     |succ n=>exact ⟨hp,n,hn⟩
   ·rintro ⟨_,n,hn⟩;rw[(sp p _).mpr ⟨zCn p hp,n+1,hn,rfl⟩];rfl
  rw[zu e1];by_cases hin:p∈zBd zA l One
  ·rw[hb.mpr hin,zW3 (by simpa using hin)];rfl
  ·have:(zG fd p).isSome=false:=by
    cases h:(zG fd p).isSome with
    |false=>rfl
    |true=>exact absurd (hb.mp h) hin
   rw[this,zXc hin];rfl)
 rw[zA8];refine zPC.mpr (zDy.mpr (zE ef (zFS.mpr ((zJe zCw).mpr ?_))));rw[zJ];exact ⟨zM3 0 _,rfl,rfl⟩
end Lac
namespace Lad
open PySem PySem.Spec PyProof.Rows L2 L3 ST Law Lac
theorem zBY:r∈zF zA ↔ 0<=r/\r<(zA.length:Int):=by
 unfold zF;constructor
 ·intro h;obtain ⟨k,hk,rfl⟩:=zWl.mp h;have:=zW8.mp hk;omega
 ·rintro ⟨h1,h2⟩;exact zWl.mpr ⟨r.toNat,zW8.mpr (by omega),by omega⟩
theorem zB6:[a,b]∈zO (zF zA) ↔ (0<=a/\a<(zA.length:Int))/\(0<=b/\b<(zA.length:Int))/\a<b:=by
 rw[zAX];constructor
 ·rintro ⟨a',b',e,h1,h2,h3⟩;cases e;exact ⟨zBY.mp h1,zBY.mp h2,h3⟩
 ·rintro ⟨h1,h2,h3⟩;exact ⟨a,b,rfl,zBY.mpr h1,zBY.mpr h2,h3⟩
theorem zTP (m:IsM zA l) (h:[a,b]∈zO (zF zA)):g∈zpR zA [a,b] ↔ ∃ x:Int,(0<=x/\x<(l:Int))/\g=zAv (zx zA a x) (zx zA b x):=by
 obtain ⟨⟨a0,a1⟩,⟨b0,b1⟩,_⟩:=zB6.mp h;have ha:=(m.get a0 a1).1;have hb:=(m.get b0 b1).1;unfold zpR;show g∈((zEa zA a).zip (zEa zA b)).map _ ↔ _;unfold zEa;rw[zWl];constructor
 ·rintro ⟨q,hq,rfl⟩;obtain ⟨k,hk⟩:=List.mem_iff_getElem?.mp hq;rw[List.getElem?_zip_eq_some]at hk;have hkl:=(zWX.mp hk.1).1;refine ⟨(k:Int),⟨by omega,by omega⟩,?_⟩;unfold zx;rw[Int.toNat_natCast,zWZ (l:=zA.getD a.toNat []),zWZ (l:=zA.getD b.toNat []),hk.1,hk.2];rfl
 ·rintro ⟨x,⟨x0,x1⟩,rfl⟩;refine ⟨(zx zA a x,zx zA b x),?_,rfl⟩;refine List.mem_iff_getElem?.mpr ⟨x.toNat,?_⟩;rw[List.getElem?_zip_eq_some];unfold zx;constructor
  ·rw[zWZ (l:=zA.getD a.toNat []),zWY (by omega)];rfl
  ·rw[zWZ (l:=zA.getD b.toNat []),zWY (by omega)];rfl
theorem zD6 (m:IsM zA l) (h:[a,b]∈zO (zF zA)):[a,b]∈zGY zA q ↔ ∃ x:Int,(0<=x/\x<(l:Int))/\q=zAv (zx zA a x) (zx zA b x):=by
 rw[zHH,zTP m h];exact ⟨fun z=>z.2,fun z=>⟨h,z⟩⟩
theorem zE5 (u:Int):zAv u u=[u,u]:=by unfold zAv;simp
theorem zHN (hu:0<=u/\u<(zA.length:Int)) (hv:0<=v/\v<(zA.length:Int)) (ne:u≠v):zAv u v∈zO (zF zA):=by
 unfold zAv;rw[zB6];split <;> split <;> omega
theorem zFa (u:Int):[u,u]∉zO (zF zA):=fun h=>by
 have:=(zB6.mp h).2.2;omega
theorem zKi (e:zx zA a x=zx zA b x):setR zA [a,b] x=[zx zA b x]:=by
 show ris [zx zA a x,zx zA b x]=_;rw[e];refine (zNV (ys:=[zx zA b x]) fun y=>by simp).trans (zPx (by simp))
theorem zG3 (ne:zx zA a x≠zx zA b x):setR zA [a,b] x=zAv (zx zA a x) (zx zA b x):=(zOT ne).symm
theorem zND (h:LR (zGY zA) gs n [u,u]):n=0/\[u,u]∈gs:=by
 cases n with
 |zero=>exact ⟨rfl,h⟩
 |succ n=>
  obtain ⟨q,h1,_⟩:=h;exact absurd (zHH.mp h1).1 (zFa u)
def zDg (zA:List (List Int)):List (List Int):=(zF zA).map fun r=>[r,r]
theorem zIr:g∈zDg zA ↔ ∃ r,(0<=r/\r<(zA.length:Int))/\g=[r,r]:=by
 unfold zDg;rw[zWl];exact ⟨fun ⟨r,h,e⟩=>⟨r,zBY.mp h,e.symm⟩,fun ⟨r,h,e⟩=>⟨r,zBY.mpr h,e.symm⟩⟩
theorem zQb (m:IsM zA l):∀ (n:Nat) (a b:Int),[a,b]∈zO (zF zA)->LR (zGY zA) (zDg zA) n [a,b]->Rch zA l One [a,b] n
 |0,a,b,hp,h=>by
  obtain ⟨r,_,e⟩:=zIr.mp h;cases e;exact absurd hp (zFa _)
 |n+1,a,b,hp,⟨q,h1,h2⟩=>by
  obtain ⟨x,hx,rfl⟩:=(zD6 m hp).mp h1;obtain ⟨⟨a0,a1⟩,⟨b0,b1⟩,_⟩:=zB6.mp hp;have hu:=m.step a0 a1 hx.1 hx.2;have hv:=m.step b0 b1 hx.1 hx.2;rw[zC9];refine ⟨x,hx,?_⟩;by_cases e:zx zA a x=zx zA b x
  ·rw[e,zE5]at h2;obtain ⟨rfl,_⟩:=zND h2;rw[zKi e,zEA];rfl
  ·rw[zG3 e];have hin:=zHN hu hv e;unfold zAv at hin h2 ⊢;exact zQb m n _ _ hin h2
theorem zPi (m:IsM zA l):∀ (n:Nat) (a b:Int),[a,b]∈zO (zF zA)->Rch zA l One [a,b] n -> ∃ k,LR (zGY zA) (zDg zA) k [a,b]
 |0,a,b,hp,h=>by
  have:One [a,b]:=zEA.mp h;cases this
 |n+1,a,b,hp,h=>by
  obtain ⟨x,hx,h2⟩:=zC9.mp h;obtain ⟨⟨a0,a1⟩,⟨b0,b1⟩,_⟩:=zB6.mp hp;have hu:=m.step a0 a1 hx.1 hx.2;have hv:=m.step b0 b1 hx.1 hx.2;by_cases e:zx zA a x=zx zA b x
  ·refine ⟨1,zAv (zx zA a x) (zx zA b x),(zD6 m hp).mpr ⟨x,hx,rfl⟩,?_⟩;rw[e,zE5];exact zIr.mpr ⟨_,hv,rfl⟩
  ·rw[zG3 e]at h2;have hin:=zHN hu hv e;have hs:[a,b]∈zGY zA (zAv (zx zA a x) (zx zA b x)):=(zD6 m hp).mpr ⟨x,hx,rfl⟩;unfold zAv at hin h2 hs;obtain ⟨k,hk⟩:=zPi m n _ _ hin h2;exact ⟨k+1,_,hs,hk⟩
theorem zMW (m:IsM zA l) (hg:∀ g∈gs,g∈zO (zF zA)):∀ (n:Nat) (a b:Int),[a,b]∈zO (zF zA)->(LR (zGY zA) gs n [a,b] ↔ Rch zA l (· ∈ gs) [a,b] n)
 |0,a,b,hp=>by rw[zEA];exact Iff.rfl
 |n+1,a,b,hp=>by
  obtain ⟨⟨a0,a1⟩,⟨b0,b1⟩,_⟩:=zB6.mp hp;have key:∀ x:Int,(0<=x/\x<(l:Int))->(LR (zGY zA) gs n (zAv (zx zA a x) (zx zA b x)) ↔ Rch zA l (· ∈ gs) (setR zA [a,b] x) n):=fun x hx=>by
   have hu:=m.step a0 a1 hx.1 hx.2;have hv:=m.step b0 b1 hx.1 hx.2;by_cases e:zx zA a x=zx zA b x
   ·rw[zKi e,e,zE5];constructor
    ·intro h;obtain ⟨_,h2⟩:=zND h;exact absurd (hg _ h2) (zFa _)
    ·rintro ⟨w,hw,hwb,hG⟩;have hth:Th zA [zx zA b x]:=⟨⟨by simp,by simp,fun y hy=>by rw[zWw.mp hy];exact hv⟩,by simp⟩;have h1:=zF1 m w [zx zA b x] hth rfl hwb;obtain ⟨c,d,e',_⟩:=zAX.mp (hg _ hG);rw[e']at h1;cases h1
   ·rw[zG3 e];have hin:=zHN hu hv e;unfold zAv at hin ⊢;exact zMW m hg n _ _ hin
  rw[zC9];constructor
  ·rintro ⟨q,h1,h2⟩;obtain ⟨x,hx,rfl⟩:=(zD6 m hp).mp h1;exact ⟨x,hx,(key x hx).mp h2⟩
  ·rintro ⟨x,hx,h2⟩;exact ⟨_,(zD6 m hp).mpr ⟨x,hx,rfl⟩,(key x hx).mpr h2⟩
noncomputable def zEo:FS:=(zX (zo 1 (zP zAx (zD (toD (zC 0)) (zD (toD (zm [2] (zv (zD (toD (fB zAk (zS (zC 0) zg))) zH)) (gN 2) zr (zAV (zD (toD (zC 2)) (zD (toD (zC 2)) zH))))) zH))))
  (zAW (zm [3] (zn (zP zAw (zD (toD (fB zAk (zS (zC 0) zg))) zH))) (gN 3) (tst (fOp (zAm true) (zC 3) (zC 1))) (zC 3))))
noncomputable def zB0:FF:=zBN 4 zEo
theorem zKg (zA:List (List Int)):(zDg zA).Nodup:=by
 unfold zDg zF;rw[zWs];refine (List.nodup_range (n:=zA.length)).map (f:=(fun r=>[r,r])∘fun (k:Nat)=>(k:Int)) ?_ |> fun h=>h;intro a b h e;have:(a:Int)=b:=(zXY e).1;omega
theorem zH5 (m:IsM zA l) (bi:BI (zGY zA) (zDg zA) T T.length) (hp:p∈zO (zF zA)):p∈T.map (·.1) ↔ p∈zBd zA l One:=by
 obtain ⟨a,b,rfl,_⟩:=zAX.mp hp;rw[zPs bi,zCO];constructor
 ·rintro ⟨n,hn⟩;obtain ⟨k,_,hk⟩:=zEy n (zQb m n a b hp hn);cases k with
  |zero=>exact absurd (zBj.mp hk) (by simp[Lac.One])
  |succ k=>exact ⟨hp,k,hk⟩
 ·rintro ⟨_,n,hn⟩;exact zPi m (n+1) a b hp hn.1
theorem zLl (m:IsM zA l) (hR:zA.length<=26) (hl:l<=12) :
  Ok (zB0 [mD zA] M) fun d M'=>∃ j,d=.ref j/\M.length<=j/\M'[j]?=some (.lst ((zAq zA l).map tI))/\M.length<=M'.length/\(∀ j,j<M.length->M'[j]?=M[j]?) /\ ∀ (j:Nat) u,M.length<=j->M'[j]?=some u->MO.und M'.length u=true:=by
 unfold zB0;rw[zy];unfold zEo;have eL:∀ {σ:Sd} {M:Mem},zC 0 σ M=some (.dat (mD zA),M)->fB zAk (zS (zC 0) zg) σ M=some (.dat (.int (zA.length:Int)),M):=fun {σ M} h=>by
  have:=zCR h (zAF (M:=M));rw[zWd]at this;exact this
 have ec:zm [2] (zv (zD (toD (fB zAk (zS (zC 0) zg))) zH)) (gN 2) zr (zAV (zD (toD (zC 2)) (zD (toD (zC 2)) zH))) [some (mD zA),none,none,none] M=some (.fl ((zDg zA).map tI),M):=by
  have h:=zAs (own:=[2]) (g:=gN 2) (te:=zAV (zD (toD (zC 2)) (zD (toD (zC 2)) zH))) (σ:=[some (mD zA),none,none,none]) (M:=M) (List.range zA.length) (fun (k:Nat)=>D.int k) (fun (k:Nat)=>tI [(k:Int),(k:Int)]) (gd:=none) (by
   have:=zEW (eL (σ:=[some (mD zA),none,none,none]) (M:=M) rfl) (by omega) (by omega);rw[show ((zA.length:Int)).toNat=zA.length by omega]at this;exact this) trivial (by rw[zYR];omega) fun k _=>⟨_,rfl,zHJ (zt (d:=.int (k:Int)) rfl (zc (d:=.int (k:Int)) rfl)) (by simp)⟩
  rw[h];unfold zDg zF;rw[zWs,zWs];rfl
 rw[zI,zT];refine zAS.mpr (zh.mpr (zE (a:=mD zA) (M:=M) rfl (zh.mpr (zAJ.mpr (zE ec (za (zAM.mpr ?_)))))));have hsl:(zDg zA).length<=100:=by unfold zDg zF;simp;omega
 refine Ok.mono (zEg m hR hl (zR _ _) (zKg zA) (U:=zO (zF zA)++zDg zA) (fun p hp=>zXj _ hp) (fun g hg=>zWo _ hg) (by rw[zWk];have:=zBu hR;omega)) ?_;rintro d M1 ⟨jf,T,rfl,h1,h2,bi,hU,h3,fr,und⟩;rw[zWk,zZj]at h1 h3 fr und;rw[zJ,zM];obtain ⟨d,M2,e2,rfl,us,eM2,hus⟩:=zFK (zA:=zA) (M:=M1) (N:=(zA.length:Int)) rfl (by omega);have eP:M2[M1.length]?=some (.lst ((zO (zF zA)).map tI)):=by rw[eM2];simp
 have ei:zn (zP zAw (zD (toD (fB zAk (zS (zC 0) zg))) zH)) [some (mD zA),some (.ref jf),none,none] M1=_:=zDT (ds:=[.int (zA.length:Int)]) (zc (eL rfl)) e2 eP;have h4:M1.length<M2.length:=(zWX.mp eP).1;have fr2:∀ j,j<M1.length->M2[j]?=M1[j]?:=fun j hj=>by rw[eM2,zWb hj]
 have hjl:=(zWX.mp h2).1;have hPl:(zO (zF zA)).length<=676:=zBu hR;have ef:=zBF (own:=[3]) (g:=gN 3) (tc:=tst (fOp (zAm true) (zC 3) (zC 1))) (te:=zC 3) (zO (zF zA)) tI tI (fun p=>open Classical in decide (p∉zBd zA l One)) ei (.inl eP) (by omega) (fun p hp=>by
  refine ⟨[some (mD zA),some (.ref jf),none,some (tI p)],rfl,?_,fun _=>rfl⟩;have e1:fOp (zAm true) (zC 3) (zC 1) [some (mD zA),some (.ref jf),none,some (tI p)] M2=_:=zK (x:=.dat (tI p)) (y:=.dat (.ref jf)) rfl rfl (zID (T:=zBn T) ((fr2 jf hjl).trans h2));rw[zWj rfl,zHw bi.nd]at e1;rw[zu e1];have hb:=zH5 m bi hp;by_cases hin:p∈zBd zA l One
  ·rw[zXc (hb.mpr hin),zW3 (by simpa using hin)];rfl
  ·rw[zW3 (fun z=>hin (hb.mp z)),zXc hin];rfl)
 rw[zA8];refine zE ef (za ?_);refine ⟨M2.length,rfl,by omega,zR _ _,by simp;omega,fun j hj=>?_,fun j u hj e=>?_⟩
 ·rw[zWb (by omega),fr2 j (by omega),fr j (by omega),zWb hj]
 ·rcases zXq j M2.length with z|z
  ·rw[zWb z]at e;rcases zXq j M1.length with y|y
   ·rw[fr2 j y]at e;rcases Nat.eq_or_lt_of_le hj with x|x
    ·rw[<-x,fr M.length (by omega),zR]at e;cases e;exact zCt _ _
    ·exact zBv (by simp;omega) (und j u (by omega) e)
   ·rw[eM2,zXe y]at e;rcases zWg.mp (zXL e)with x|x
    ·subst x;exact zCt _ _
    ·exact zBv (zXG _) (hus u x)
  ·have:=(zWX.mp e).1;rw[zWk,zZj]at this;have:j=M2.length:=by omega
   subst this;rw[zR]at e;cases e;exact zCt _ _
noncomputable def zDa:FS:=(zX (zo 2 (zAT zH))
  (zX (zBo (zv (zD (toD (fB zAk (zS (zC 0) zg))) zH)) (gN 3) (zAa (fM zk (zC 2) (zD (toD (fOp kIx (zm [4] (zv (zD (toD (fOp zAE (zC 3) (fC (.int 1)))) zH)) (gN 4) (tst (fOp (zAm true) (zAV (zD (toD (zC 4)) (zD (toD (zC 3)) zH))) (zC 1))) (zC 4)) (fC (.int 0)))) zH))))
  (zAW (zP zAY (zD (toD (zC 2)) zH)))))
noncomputable def zBM:FF:=zGH (zBN 5 zDa)
open Classical in
noncomputable def okL (bad:List Int->Prop) (r:Nat):List Nat:=(List.range (r+1)).filter fun (o:Nat)=>decide (o=r \/ ¬ bad [(o:Int),(r:Int)])
noncomputable def zJT (bad:List Int->Prop) (r:Nat):Int:=(((okL bad r).headD 0:Nat):Int)
noncomputable def zA7 (bad:List Int->Prop) (n:Nat):List Int:=(List.range n).map (zJT bad)
theorem zUW (bad:List Int->Prop) (r:Nat):okL bad r≠[]:=by
 intro h;have:r∈okL bad r:=by unfold okL;exact zXf.mpr ⟨zW8.mpr (by omega),by simp⟩
 rw[h]at this;cases this
theorem zIQ (m:IsM zA l) (hR:zA.length<=26) (wf:∀ (j:Nat) u,M[j]?=some u->MO.und M.length u=true) (hT:M[jr]?=some (dT (zBn T))) (nd:(T.map (·.1)).Nodup) (hs:∀ u:Int,[u,u]∉T.map (·.1)) :
  zBM [mD zA,.ref jr] M=some (tI (zCY (zA7 (· ∈ T.map (·.1)) zA.length)),M):=by
 have hjl:=(zWX.mp hT).1;refine zY ?_;unfold zBM;refine zGc ?_;rw[zy];unfold zDa;show OkS (zX _ _ [some (mD zA),some (.ref jr),none,none,none] M) _;rw[zI,zT];refine zE (M:=M) (a:=.fl []) (zJS rfl (by simp)) (za ?_);rw[zM];simp only[List.set_cons_succ,List.set_cons_zero];rw[zI,zAe];have eL:=zCR (f:=zC 0) (σ:=[some (mD zA),some (.ref jr),some (.ref M.length),none,none]) (M:=M++[.lst []]) (x:=.dat (mD zA)) rfl zAF;rw[zWd]at eL;refine ⟨_,_,_,zBi eL (by omega) (by omega),?_⟩;rw[show ((zA.length:Int)).toNat=zA.length by omega];refine zHP (n:=zA.length) (I:=fun k σ M'=>(∃ y3 y4,σ=[some (mD zA),some (.ref jr),some (.ref M.length),y3,y4])/\M'=M++[.lst ((zA7 (· ∈ T.map (·.1)) k).map D.int)]) ?_ ?_ _ _ ⟨⟨_,_,rfl⟩,by simp[zA7]⟩
 ·rintro k σ M' hk ⟨⟨y3,y4,rfl⟩,rfl⟩;refine ⟨_,rfl,?_⟩;generalize hA:M++[MO.lst ((zA7 (· ∈ T.map (·.1)) k).map D.int)]=A;have aR:A[jr]?=some (dT (zBn T)):=by rw[<-hA,zWb hjl];exact hT
  have aL:A[M.length]?=some (.lst ((zA7 (· ∈ T.map (·.1)) k).map D.int)):=by rw[<-hA];exact zR _ _
  rw[zAt];have ei:zv (zD (toD (fOp zAE (zC 3) (fC (.int 1)))) zH) [some (mD zA),some (.ref jr),some (.ref M.length),some (.int (k:Int)),y4] A=some ((List.range (k+1)).map (fun (j:Nat)=>D.int j),none,A):=by
   have:=zEW (f:=fOp zAE (zC 3) (fC (.int 1))) (σ:=[some (mD zA),some (.ref jr),some (.ref M.length),some (.int (k:Int)),y4]) (M:=A) (j:=(k:Int)+1) rfl (by omega) (by omega);rw[show ((k:Int)+1).toNat=k+1 by omega]at this;exact this
  have ef:=zBF (own:=[4]) (g:=gN 4) (tc:=tst (fOp (zAm true) (zAV (zD (toD (zC 4)) (zD (toD (zC 3)) zH))) (zC 1))) (te:=zC 4) (List.range (k+1)) (fun (j:Nat)=>D.int j) (fun (j:Nat)=>D.int j) (fun (o:Nat)=>open Classical in decide (o=k \/ ¬ [(o:Int),(k:Int)]∈T.map (·.1))) ei trivial (by rw[zYR];omega) (fun o ho=>by
   refine ⟨[some (mD zA),some (.ref jr),some (.ref M.length),some (.int (k:Int)),some (.int (o:Int))],rfl,?_,fun _=>rfl⟩;have e1:fOp (zAm true) (zAV (zD (toD (zC 4)) (zD (toD (zC 3)) zH))) (zC 1) [some (mD zA),some (.ref jr),some (.ref M.length),some (.int (k:Int)),some (.int (o:Int))] A=_:=zK (x:=.dat (tI [(o:Int),(k:Int)])) (y:=.dat (.ref jr)) (zHJ (zt (d:=.int (o:Int)) rfl (zc (d:=.int (k:Int)) rfl)) (by simp)) rfl (zID aR);rw[zWj rfl,zHw nd]at e1;rw[zu e1];by_cases hin:[(o:Int),(k:Int)]∈T.map (·.1)
   ·have hok:o≠k:=fun z=>hs (k:Int) (by rw[z]at hin;exact hin);rw[zXc hin,zW3 (by rintro (z|z);exact hok z;exact z hin)];rfl
   ·rw[zW3 hin,zXc (.inr hin)];rfl)
  have hne:=zUW (· ∈ T.map (·.1)) k;have e0:fOp kIx (zm [4] (zv (zD (toD (fOp zAE (zC 3) (fC (.int 1)))) zH)) (gN 4) (tst (fOp (zAm true) (zAV (zD (toD (zC 4)) (zD (toD (zC 3)) zH))) (zC 1))) (zC 4)) (fC (.int 0)) [some (mD zA),some (.ref jr),some (.ref M.length),some (.int (k:Int)),y4] A=some (.dat (.int (zJT (· ∈ T.map (·.1)) k)),A):=by
   refine zK ef (rfl:fC (.int 0) _ A=some (.dat (.int 0),A)) (zBA (zCw) ?_);have ek:((List.range (k+1)).filter fun (o:Nat)=>decide (o=k \/ ¬ [(o:Int),(k:Int)]∈T.map (·.1)))=okL (· ∈ T.map (·.1)) k:=List.filter_congr fun o _=>decide_eq_decide.mpr Iff.rfl;rw[ek];unfold zJT;cases e:okL (· ∈ T.map (·.1)) k with
   |nil=>exact absurd e hne
   |cons a r=>exact zJM (k:=0) rfl
  refine zE1.mpr (zE (a:=.dat (.ref M.length)) (M:=A) rfl ⟨⟨_,zAG aL⟩,zE (zc e0) ?_⟩);rw[zBG aL (by rw[zWd];unfold zA7;rw[zWd,zYR];exact zWt (m:=95000) (by omega) (zW (by omega)))];refine ⟨⟨_,_,rfl⟩,?_⟩;rw[<-hA,List.set_append_right _ _ (zWa _),Nat.sub_self,List.set_cons_zero];unfold zA7;rw[List.range_succ];simp
 ·rintro σ M' ⟨⟨y3,y4,rfl⟩,rfl⟩;rw[zM];have hc:(zA7 (· ∈ T.map (·.1)) zA.length).length=zA.length:=by unfold zA7;simp
  have en:=zGG (M:=M++[MO.lst ((zA7 (· ∈ T.map (·.1)) zA.length).map D.int)]) (j:=M.length) (xs:=zA7 (· ∈ T.map (·.1)) zA.length) (fun j u e=>?_) (zR _ _) (by omega)
  ·generalize zCY (zA7 (· ∈ T.map (·.1)) zA.length)=N at en ⊢;generalize zA7 (· ∈ T.map (·.1)) zA.length=C at en ⊢;refine zAP (d:=tI N) (zAd (zc (d:=.ref M.length) rfl) en) ⟨⟨zAh N,by simp,fun j u hj e=>?_⟩,rfl,by simp⟩;rw[zWb hj]at e;exact wf j u e
  ·rcases zXq j M.length with z|z
   ·rw[zWb z]at e;exact zBv (by simp) (wf j u e)
   ·have:=(zWX.mp e).1;rw[zWk,zZj]at this;have:j=M.length:=by omega
    subst this;rw[zR]at e;cases e;exact zi _ _
noncomputable def zDu:FS:=(zX (zo 1 zMh)
  (zX (zBo (zn (zC 0)) (gN 2) (sIf (tst (fOp (zAm true) (zC 2) (zC 1))) (zBZ (fB zIu (zS (zC 1) zg)) (zC 1) (zC 2)) zBB))
  (zAW (fB zAu (zS (zm [2] (zn (zC 0)) (gN 2) zr (fOp zq (zC 1) (zC 2))) zg)))))
noncomputable def zB7:FF:=zBN 3 zDu
def zBO:Nat->List Int->List (D × D)
 |_,[]=>[]
 |i,k::r=>(.int k,.int (i:Int))::zBO (i+1) r
theorem zHW:∀ (i:Nat) (ks:List Int),(zBO i ks).length=ks.length
 |_,[]=>rfl
 |i,k::r=>by unfold zBO;rw[zW1,zHW,zW1]
theorem zIi:∀ (i:Nat) (ks:List Int) (k:Int),zBO i (ks++[k])=zBO i ks++[(.int k,.int ((i+ks.length:Nat):Int))]
 |i,[],k=>rfl
 |i,a::r,k=>by
  rw[List.cons_append];unfold zBO;rw[zIi,List.cons_append,zW1,show i+1+r.length=i+(r.length+1) by omega]
theorem zJf:∀ (i:Nat) (ks:List Int) (k:Int),zBq zCM (zBO i ks) (Sum.inl k)=if k∈ks then some (.int ((i+ks.idxOf k:Nat):Int)) else none
 |i,[],k=>rfl
 |i,a::r,k=>by
  have ih:=zJf (i+1) r k;unfold zBq at ih ⊢;rw[show zBO i (a::r)=(D.int a,D.int (i:Int))::zBO (i+1) r from rfl,zYG];by_cases h:a=k
  ·subst h;rw[show decide (zCM (D.int a)=some (Sum.inl a))=true from zXc rfl];simp
  ·rw[show decide (zCM (D.int a)=some (Sum.inl k))=false from zW3 (fun z=>h (Sum.inl.inj (zXU z)))];by_cases hk:k∈r
   ·rw[zWj (zWh _ hk)];rw[zWj hk]at ih;rw[List.idxOf_cons,show (a==k)=false from beq_false_of_ne h];simp only[cond_false];rw[show i+(List.idxOf k r+1)=i+1+List.idxOf k r by omega];exact ih
   ·rw[zWm (by simp[hk,Ne.symm h])];rw[zWm hk]at ih;exact ih
theorem zVF (ks:List Int) (k:Int) (h:k∉ks):zGO zCM (zBO 0 ks) (Sum.inl k) (.int k) (.int (ks.length:Int))=zBO 0 (ks++[k]):=by
 have hl:=zJf 0 ks k;rw[zWm h]at hl;unfold zBq at hl;have ha:((zBO 0 ks).any fun p=>decide (zCM p.1=some (Sum.inl k)))=false:=by
  rw[List.any_eq_false];intro p hp;have:=(Option.map_eq_none_iff.mp hl);rw[List.find?_eq_none]at this;exact this p hp
 unfold zGO;rw[ha,zWm (by simp),zIi];simp
theorem zJI (hj:M[j]?=some (.lst (xs.map D.int))) (hz:xs.length<=1000) :
  Ok (zB7 [.ref j] M) fun d M'=>d=tI (zCY xs)/\M.length<=M'.length /\ ∀ i,i<M.length->M'[i]?=M[i]?:=by
 have hjl:=(zWX.mp hj).1;unfold zB7;rw[zy];unfold zDu;show OkS (zX _ _ [some (.ref j),none,none] M) _;rw[zI,zT];refine zE (M:=M++[.dict []]) (a:=.dat (.ref M.length)) rfl ?_;rw[zJ,zM];simp only[List.set_cons_succ,List.set_cons_zero];have up:∀ u:MO,(M++[u])[j]?=some (.lst (xs.map D.int)):=fun u=>by rw[zWb hjl];exact hj
 rw[zI,zAe];refine ⟨_,_,_,(show zn (zC 0) [some (.ref j),some (.ref M.length),none] (M++[.dict []])=some (xs.map D.int,zCz (.dat (.ref j)) (xs.map D.int),M++[.dict []]) by
  unfold zn;rw[show zC 0 [some (.ref j),some (.ref M.length),none] (M++[.dict []])=some (.dat (.ref j),M++[.dict []])from rfl];dsimp only;rw[zb (up _)]),?_⟩
 have insl:∀ us:List Int,(zV us).length<=us.length:=fun us=>zBt us;refine zAZ (I:=fun r σ M'=>∃ (us vs:List Int) (y:Option D),σ=[some (.ref j),some (.ref M.length),y]/\xs=us++vs/\r=vs.map D.int/\M'=M++[.dict (zBO 0 (zV us))]) ?_ ?_ _ _ _ ⟨[],xs,none,rfl,rfl,rfl,rfl⟩
 ·rintro x r σ M' ⟨us,vs,y,rfl,hab,hr,rfl⟩;cases vs with
  |nil=>cases hr
  |cons k vs=>
   rw[zWn]at hr;obtain ⟨rfl,rfl⟩:=zXY hr;refine ⟨.inl (up _),_,rfl,?_⟩;have hul:us.length<1000:=by have:=zYH List.length hab;simp at this;omega
   have e0:(M++[MO.dict (zBO 0 (zV us))])[M.length]?=some (.dict (zBO 0 (zV us))):=zR _ _;show OkS (sIf _ _ _ [some (.ref j),some (.ref M.length),some (.int k)] _) _;rw[zAp];have eg:zDC (M++[MO.dict (zBO 0 (zV us))]) (.dat (.ref M.length)) (.int k)=some (if k∈zV us then some (.int ((0+(zV us).idxOf k:Nat):Int)) else none):=by
    unfold zDC;dsimp only;rw[e0];show some (zBq zCM (zBO 0 (zV us)) (Sum.inl k))=_;rw[zJf]
   refine zE (M:=M++[MO.dict (zBO 0 (zV us))]) (a:=!decide (k∈zV us)) (zu (zK (x:=.dat (.int k)) (y:=.dat (.ref M.length)) rfl rfl (by unfold zAm;dsimp only;rw[eg];by_cases h:k∈zV us <;> simp[h]))) ?_;by_cases h:k∈zV us
   ·rw[zXc h,zWm (by simp),zAc];refine ⟨us++[k],vs,_,rfl,by rw[hab];simp,rfl,?_⟩;rw[zEB];unfold ins;rw[zWj h]
   ·rw[zW3 h,zWj (by simp)];have hil:=insl us;refine ⟨.nx,[some (.ref j),some (.ref M.length),some (.int k)],M++[.dict (zBO 0 (zV us++[k]))],?_,us++[k],vs,_,rfl,by rw[hab];simp,rfl,by rw[zEB];unfold ins;rw[zWm h]⟩;unfold zBZ;rw[zD9 (show fB zIu (zS (zC 1) zg) [some (.ref j),some (.ref M.length),some (.int k)] (M++[MO.dict (zBO 0 (zV us))])=some (.dat (.int ((zV us).length:Int)),M++[MO.dict (zBO 0 (zV us))]) by
     unfold fB zS zg;rw[show zC 1 [some (.ref j),some (.ref M.length),some (.int k)] (M++[MO.dict (zBO 0 (zV us))])=some (.dat (.ref M.length),M++[MO.dict (zBO 0 (zV us))])from rfl];unfold zIu;dsimp only;rw[e0];dsimp only;rw[zHW])]
    dsimp only;rw[show toD (zC 1) [some (.ref j),some (.ref M.length),some (.int k)] (M++[MO.dict (zBO 0 (zV us))])=some (.ref M.length,M++[MO.dict (zBO 0 (zV us))])from rfl];dsimp only;rw[show toD (zC 2) [some (.ref j),some (.ref M.length),some (.int k)] (M++[MO.dict (zBO 0 (zV us))])=some (.int k,M++[MO.dict (zBO 0 (zV us))])from rfl];dsimp only;unfold zDh;rw[e0];rw[show zCM (.int k)=some (Sum.inl k)from rfl];dsimp only;rw[zWj (by rw[zHW];exact zWt (m:=95000) (by omega) (zW (by omega))),zVF _ _ h];simp
 ·rintro σ M' ⟨us,vs,y,rfl,hab,hr,rfl⟩;have:vs=[]:=by cases vs with|nil=>rfl|cons _ _=>cases hr
  subst this;rw[zXE]at hab;subst hab;refine ⟨.inl (up _),?_⟩;rw[zM];have e0:(M++[MO.dict (zBO 0 (zV xs))])[M.length]?=some (.dict (zBO 0 (zV xs))):=zR _ _;have ec:=zAs (own:=[2]) (g:=gN 2) (te:=fOp zq (zC 1) (zC 2)) (fi:=zn (zC 0)) (σ:=[some (.ref j),some (.ref M.length),y]) (M:=M++[MO.dict (zBO 0 (zV xs))]) xs D.int (fun k=>D.int (((zV xs).idxOf k:Nat):Int)) (gd:=zCz (.dat (.ref j)) (xs.map D.int)) (by
   unfold zn;rw[show zC 0 [some (.ref j),some (.ref M.length),y] (M++[MO.dict (zBO 0 (zV xs))])=some (.dat (.ref j),M++[MO.dict (zBO 0 (zV xs))])from rfl];dsimp only;rw[zb (up _)]) (.inl (up _)) (by omega) fun k hk=>⟨_,rfl,zK (x:=.dat (.ref M.length)) (y:=.dat (.int k)) rfl rfl (by
    unfold zq;unfold zDC;dsimp only;rw[e0];show (match some (zBq zCM (zBO 0 (zV xs)) (Sum.inl k)) with|some (some d)=>_|_=>_)=_;rw[zJf,zWj ((zEj xs k).mpr hk),Nat.zero_add])⟩
  refine zAP (d:=tI (zCY xs)) ?_ ⟨rfl,by simp,fun i hi=>zWb hi⟩;unfold fB zS zg;rw[ec];unfold zCY tI;rw[zWs];rfl
noncomputable def zDb:FS:=(zX (zo 2 (zP zAD (zD (toD (zC 0)) zH)))
  (zAW (zP zB7 (zD (toD (zm [4] (zn (zC 2)) (gN 4) zr (fB (zE8 false) (zS (zm [3] (zn (zC 2)) (gN 3) (zFp (tst (fOp kEq (zC 3) (zC 4))) (zDk (tst (fOp kLt (zC 3) (zC 4))) (tst (fOp (zAm true) (zAV (zD (toD (zC 3)) (zD (toD (zC 4)) zH))) (zC 1))))) (zC 3)) zg)))) zH))))
noncomputable def zBf:FF:=zBN 5 zDb
theorem zOD (h1:b∈okL bad r) (h2:∀ y∈okL bad r,b<=y):zJT bad r=(b:Int):=by
 have pw:(okL bad r).Pairwise (· < ·):=List.Pairwise.filter _ List.pairwise_lt_range;unfold zJT;cases e:okL bad r with
 |nil=>rw[e]at h1;cases h1
 |cons a t=>
  rw[e]at h1 h2 pw;have ha:=h2 a zWi;rcases zWg.mp h1 with z|z
  ·rw[z];rfl
  ·have:=(zYe.mp pw).1 b z;omega
open Classical in
theorem zNQ {bad:List Int->Prop} {r o:Nat}:o∈okL bad r ↔ o<=r/\(o=r \/ ¬ bad [(o:Int),(r:Int)]):=by
 unfold okL;rw[zXf,zW8,zXh];exact ⟨fun ⟨a,b⟩=>⟨by omega,b⟩,fun ⟨a,b⟩=>⟨by omega,b⟩⟩
theorem zIK (hR:zA.length<=26) (hf:M[jf]?=some (dT fd)) :
  Ok (zBf [mD zA,.ref jf] M) fun d M'=>d=tI (zCY (zA7 (fun p=>(zG fd p).isSome=true) zA.length))/\M.length<=M'.length /\ ∀ i,i<M.length->M'[i]?=M[i]?:=by
 unfold zBf;rw[zy];unfold zDb;refine zC2 (zAd (zc (d:=mD zA) rfl) (zED (by omega))) ?_;have eI:∀ (y3 y4:Option D),zn (zC 2) [some (mD zA),some (.ref jf),some (tI ((List.range zA.length).map fun (k:Nat)=>(k:Int))),y3,y4] M=some ((List.range zA.length).map (fun (k:Nat)=>D.int (k:Int)),none,M):=fun y3 y4=>by
  unfold zn;rw[show zC 2 [some (mD zA),some (.ref jf),some (tI ((List.range zA.length).map fun (k:Nat)=>(k:Int))),y3,y4] M=some (.dat (tI ((List.range zA.length).map fun (k:Nat)=>(k:Int))),M)from rfl];dsimp only;rw[show zAb M (.dat (tI ((List.range zA.length).map fun (k:Nat)=>(k:Int))))=some (((List.range zA.length).map fun (k:Nat)=>(k:Int)).map D.int)from rfl,zWs];rfl
 have inner:∀ (r:Nat),r<zA.length->fB (zE8 false) (zS (zm [3] (zn (zC 2)) (gN 3) (zFp (tst (fOp kEq (zC 3) (zC 4))) (zDk (tst (fOp kLt (zC 3) (zC 4))) (tst (fOp (zAm true) (zAV (zD (toD (zC 3)) (zD (toD (zC 4)) zH))) (zC 1))))) (zC 3)) zg) [some (mD zA),some (.ref jf),some (tI ((List.range zA.length).map fun (k:Nat)=>(k:Int))),none,some (.int (r:Int))] M=some (.dat (.int (zJT (fun p=>(zG fd p).isSome=true) r)),M):=fun r hr=>by
  have ef:=zBF (own:=[3]) (g:=gN 3) (tc:=zFp (tst (fOp kEq (zC 3) (zC 4))) (zDk (tst (fOp kLt (zC 3) (zC 4))) (tst (fOp (zAm true) (zAV (zD (toD (zC 3)) (zD (toD (zC 4)) zH))) (zC 1))))) (te:=zC 3) (List.range zA.length) (fun (k:Nat)=>D.int (k:Int)) (fun (k:Nat)=>D.int (k:Int)) (fun (o:Nat)=>decide (o=r)||(decide (o<r) && !(zG fd [(o:Int),(r:Int)]).isSome)) (eI none (some (.int (r:Int)))) trivial (by rw[zYR];omega) (fun o ho=>by
   refine ⟨[some (mD zA),some (.ref jf),some (tI ((List.range zA.length).map fun (k:Nat)=>(k:Int))),some (.int (o:Int)),some (.int (r:Int))],rfl,?_,fun _=>rfl⟩;have e1:tst (fOp kEq (zC 3) (zC 4)) [some (mD zA),some (.ref jf),some (tI ((List.range zA.length).map fun (k:Nat)=>(k:Int))),some (.int (o:Int)),some (.int (r:Int))] M=some (decide (o=r),M):=by
    refine zu (zK (x:=.dat (.int (o:Int))) (y:=.dat (.int (r:Int))) rfl rfl (zY (zKo.mpr ⟨?_,rfl⟩)));by_cases h:o=r
    ·subst h;simp
    ·simp[h];omega
   have e2:tst (fOp kLt (zC 3) (zC 4)) [some (mD zA),some (.ref jf),some (tI ((List.range zA.length).map fun (k:Nat)=>(k:Int))),some (.int (o:Int)),some (.int (r:Int))] M=some (decide ((o:Int)<(r:Int)),M):=zu (zK (x:=.dat (.int (o:Int))) (y:=.dat (.int (r:Int))) rfl rfl rfl);have e3:=zu (zK (k:=zAm true) (f:=zAV (zD (toD (zC 3)) (zD (toD (zC 4)) zH))) (g:=zC 1) (σ:=[some (mD zA),some (.ref jf),some (tI ((List.range zA.length).map fun (k:Nat)=>(k:Int))),some (.int (o:Int)),some (.int (r:Int))]) (M:=M) (x:=.dat (tI [(o:Int),(r:Int)])) (y:=.dat (.ref jf)) (zHJ (zt (d:=.int (o:Int)) rfl (zc (d:=.int (r:Int)) rfl)) (by simp)) rfl (zID hf));rw[zWj rfl]at e3;by_cases h:o=r
   ·rw[zXc h]at e1 ⊢;exact zUM e1
   ·rw[zW3 h]at e1 ⊢;rw[zSy e1 (k:=decide (o<r) && !(zG fd [(o:Int),(r:Int)]).isSome) ?_]
    ·rfl
    by_cases h2:o<r
    ·rw[zXc (by omega)]at e2;rw[zMv e2 e3,zXc h2];rfl
    ·rw[zW3 (by omega)]at e2;rw[zMy e2,zW3 h2];rfl)
  generalize hF:((List.range zA.length).filter fun (o:Nat)=>decide (o=r)||(decide (o<r) && !(zG fd [(o:Int),(r:Int)]).isSome))=F at ef;have hm:∀ o,o∈F ↔ o∈okL (fun p=>(zG fd p).isSome=true) r:=fun o=>by
   rw[zNQ,<-hF,zXf,zW8];simp only[Bool.or_eq_true,zW4,zXh,Bool.not_eq_true'];constructor
   ·rintro ⟨h1,h2|⟨h2,h3⟩⟩
    ·exact ⟨by omega,.inl h2⟩
    ·exact ⟨by omega,.inr (by rw[h3];simp)⟩
   ·rintro ⟨h1,h2|h2⟩
    ·exact ⟨by omega,.inl h2⟩
    ·rcases Nat.eq_or_lt_of_le h1 with z|z
     ·exact ⟨by omega,.inl z⟩
     ·exact ⟨by omega,.inr ⟨z,by simpa using h2⟩⟩
  have hne:F≠[]:=fun z=>by
   have:r∈F:=(hm r).mpr (zNQ.mpr ⟨zWa _,.inl rfl⟩);rw[z]at this;cases this
  obtain ⟨b,eb,b1,b2⟩:=zNT (xs:=F.map fun (k:Nat)=>(k:Int)) (by rw[zWs];exact ef) (by simpa using hne);obtain ⟨b',hb',rfl⟩:=zWl.mp b1;rw[eb,zOD ((hm b').mp hb') fun y hy=>?_];have:=b2 (y:Int) (zWl.mpr ⟨y,(hm y).mpr hy,rfl⟩);omega
 have ec:=zAs (own:=[4]) (g:=gN 4) (te:=fB (zE8 false) (zS (zm [3] (zn (zC 2)) (gN 3) (zFp (tst (fOp kEq (zC 3) (zC 4))) (zDk (tst (fOp kLt (zC 3) (zC 4))) (tst (fOp (zAm true) (zAV (zD (toD (zC 3)) (zD (toD (zC 4)) zH))) (zC 1))))) (zC 3)) zg)) (σ:=[some (mD zA),some (.ref jf),some (tI ((List.range zA.length).map fun (k:Nat)=>(k:Int))),none,none]) (M:=M) (List.range zA.length) (fun (k:Nat)=>D.int (k:Int)) (fun (k:Nat)=>D.int (zJT (fun p=>(zG fd p).isSome=true) k)) (eI none none) trivial (by rw[zYR];omega) fun r hr=>⟨_,rfl,inner r (zW8.mp hr)⟩;rw[zA8];refine zAS.mpr (zh.mpr (zAJ.mpr (zE ec (za (zAM.mpr ?_)))));have eC:(List.range zA.length).map (fun (k:Nat)=>D.int (zJT (fun p=>(zG fd p).isSome=true) k))=(zA7 (fun p=>(zG fd p).isSome=true) zA.length).map D.int:=by unfold zA7;rw[zWs];rfl
 rw[eC];refine Ok.mono (zJI (zR _ _) (by unfold zA7;rw[zWd,zYR];omega)) ?_;rintro d M' ⟨rfl,h1,h2⟩;rw[zWk,zZj]at h1 h2;rw[zJ];exact ⟨rfl,by omega,fun i hi=>by rw[h2 i (by omega),zWb hi]⟩
theorem zJm (hr:M[jr]?=some (dT (zCs zA l G))) (h:p∉zBd zA l G) :
  Ok (zBa [mD zA,.ref jr,tI p] M) fun d M'=>d=tI [] /\ ∃ us,M'=M++us:=by
 have hrl:=(zWX.mp hr).1;unfold zBa;rw[zy];unfold zEX;rw[zI,zT];refine zE (M:=M) (a:=.fl []) (zJS rfl (by simp)) (za ?_);rw[zM];refine zC2 (d:=tI p) rfl ?_;rw[zI];have hM:(M++[MO.lst []])[jr]?=some (dT (zCs zA l G)):=by rw[zWb hrl];exact hr
 have hL:(M++[MO.lst []])[M.length]?=some (.lst (([]:List Int).map D.int)):=by simp
 have hlk:zG (zCs zA l G) p=none:=by rw[zFq,zWm h]
 have et:tst (fOp (zAm false) (zC 4) (zC 1)) [some (mD zA),some (.ref jr),some (tI p),some (.ref M.length),some (tI p),none] (M++[MO.lst []])=some (false,M++[MO.lst []]):=by
  have:=zK (k:=zAm false) (f:=zC 4) (g:=zC 1) (σ:=[some (mD zA),some (.ref jr),some (tI p),some (.ref M.length),some (tI p),none]) (x:=.dat (tI p)) (y:=.dat (.ref jr)) rfl rfl (zID hM);rw[zWm (by decide),hlk]at this;exact zu this
 refine zCQ (I:=fun z σ M'=>z=0/\σ=[some (mD zA),some (.ref jr),some (tI p),some (.ref M.length),some (tI p),none]/\M'=M++[.lst []]) ?_ 1000 0 _ _ (by omega) ⟨rfl,rfl,rfl⟩;rintro z σ M' ⟨rfl,rfl,rfl⟩;refine zE et ?_;exact zAP (d:=tI []) (zCA (f:=zC 3) rfl (zb hL)) ⟨rfl,_,rfl⟩
theorem zLj (m:IsM zA l) (o:zC0 zA G) (hR:zA.length<=26) (hr:M[jr]?=some (dT (zCs zA l G))) (hp:p∈zO (zF zA)) :
  Ok (zBa [mD zA,.ref jr,tI p] M) fun d M'=>(∃ w:List Int,d=tI w) /\ ∃ us,M'=M++us:=by
 by_cases h:p∈zBd zA l G
 ·obtain ⟨_,n,hn⟩:=zCO.mp h;obtain ⟨w,c⟩:=zFb (n+1) hn;refine Ok.mono (zLz m o hR hr (zCn p hp) c) ?_;rintro d M' ⟨rfl,us⟩;exact ⟨⟨w,rfl⟩,us⟩
 ·refine Ok.mono (zJm hr h) ?_;rintro d M' ⟨rfl,us⟩;exact ⟨⟨[],rfl⟩,us⟩
noncomputable def zCS:FS:=(zAW (zm [2,3] (zn (zP zAO (zD (toD (zP zAD (zD (toD (zC 0)) zH))) zH))) (zBp 2 3) (tst (fOp kNe (fOp kIx (zC 1) (zC 2)) (fOp kIx (zC 1) (zC 3)))) (zAV (zD (toD (zC 2)) (zD (toD (zC 3)) zH)))))
noncomputable def zBE:FF:=zBN 4 zCS
theorem zGv (h:∀ o r:Nat,o<r->r<n->(bad [(o:Int),(r:Int)] ↔ bad' [(o:Int),(r:Int)])):zA7 bad n=zA7 bad' n:=by
 unfold zA7;refine List.map_congr_left fun r hr=>?_;have hrn:=zW8.mp hr;have e:okL bad r=okL bad' r:=by
  unfold okL;refine List.filter_congr fun o ho=>?_;have:=zW8.mp ho;rw[decide_eq_decide];by_cases z:o=r
  ·simp[z]
  ·rw[h o r (by omega) hrn]
 unfold zJT;rw[e]
theorem zGW (hR:zA.length<=26) (hP:P.length=zA.length) :
  Ok (zBE [mD zA,tI P] M) fun d M'=>∃ ps:List (List Int),d=.ref (M.length+1)/\M'=M++[.lst ((zO (zF zA)).map tI)]++[.lst (ps.map tI)]/\(∀ p∈ps,p∈zO (zF zA))/\ps.length<=676:=by
 unfold zBE;rw[zy];unfold zCS;have hrl:(zF zA).length=zA.length:=by unfold zF;simp
 have epr:=zFY (xs:=zF zA) (by omega) (M:=M);have ei:zn (zP zAO (zD (toD (zP zAD (zD (toD (zC 0)) zH))) zH)) [some (mD zA),some (tI P),none,none] M=_:=zDT (zc (d:=tI (zF zA)) (zAd (zc (d:=mD zA) rfl) (zED (by omega)))) epr (zR _ _);have hPl:=zBu hR;have ef:=zBF (own:=[2,3]) (g:=zBp 2 3) (tc:=tst (fOp kNe (fOp kIx (zC 1) (zC 2)) (fOp kIx (zC 1) (zC 3)))) (te:=zAV (zD (toD (zC 2)) (zD (toD (zC 3)) zH))) (zO (zF zA)) tI tI (fun p=> !decide (P.getD (p.getD 0 0).toNat 0=P.getD (p.getD 1 0).toNat 0)) ei (.inl (zR _ _)) (by omega) (fun p hp=>by
  obtain ⟨a,b,rfl,ha,hb,_⟩:=zAX.mp hp;obtain ⟨a0,a1⟩:=zBY.mp ha;obtain ⟨b0,b1⟩:=zBY.mp hb;refine ⟨[some (mD zA),some (tI P),some (.int a),some (.int b)],rfl,?_,fun _=>zHJ (zt (d:=.int a) rfl (zc (d:=.int b) rfl)) (by simp)⟩;exact zu (zK (x:=.dat (.int (P.getD a.toNat 0))) (y:=.dat (.int (P.getD b.toNat 0))) (zK (x:=.dat (tI P)) (y:=.dat (.int a)) rfl rfl (zBA zAF (zDt a0 (by omega)))) (zK (x:=.dat (tI P)) (y:=.dat (.int b)) rfl rfl (zBA zAF (zDt b0 (by omega)))) (zY (zU2.mpr ⟨by simp,rfl⟩))))
 rw[zA8];refine zE ef (za ?_);exact ⟨_,by simp,rfl,fun p hp=>(zXf.mp hp).1,zWv (zYo _ _) hPl⟩
noncomputable def zCe:FS:=(zX (zo 1 (zP zBJ (zD (toD (zC 0)) (zD (toD (fB zF4 (zS (zP zE7 (zD (toD (zC 0)) zH)) zg))) zH))))
  (zX (zo 2 (zP zBf (zD (toD (zC 0)) (zD (toD (zC 1)) zH))))
  (zX (zo 3 (zP zCX (zD (toD (zC 0)) (zD (toD (zC 1)) zH))))
  (zAW (zAV (zD (toD (zC 2)) (zD (toD (fB zAu (zS (zm [4] (zn (zP zBE (zD (toD (zC 0)) (zD (toD (zC 2)) zH)))) (gN 4) zr (zP zBa (zD (toD (zC 0)) (zD (toD (zC 3)) (zD (toD (zC 4)) zH))))) zg))) zH)))))))
noncomputable def zAr:FF:=zGD (zBN 5 zCe)
noncomputable def zGo:FS:=(zAW (fOp kIx (zP zAr (zD (toD (zC 0)) zH)) (fC (.int 0))))
noncomputable def zDB:FF:=zGD (zBN 1 zGo)
theorem zD1 (h:p∈zAq zA l):p∈zO (zF zA):=(zXf.mp h).1
theorem zGT (m:IsM zA l) (hR:zA.length<=26) (hl:l<=12) :
  ∃ ws:List (List Int),zAr [mD zA] M=some (.tup [tI (zCY (zA7 (fun p=>∃ k,Rch zA l (· ∈ zAq zA l) p k) zA.length)),.tup (ws.map tI)],M):=by
 suffices h:Ok (zAr [mD zA] M) fun d M'=>M'=M /\ ∃ ws:List (List Int),d=.tup [tI (zCY (zA7 (fun p=>∃ k,Rch zA l (· ∈ zAq zA l) p k) zA.length)),.tup (ws.map tI)] by
  obtain ⟨d,M',e,rfl,ws,rfl⟩:=h;exact ⟨ws,e⟩
 unfold zAr;refine zGj ?_ ?_
 ·unfold D.unds D.unds;rw[zEz];rfl
 rw[zy];unfold zCe;rw[zI,zT];refine zAS.mpr (zh.mpr (zE (a:=mD zA) (M:=[]) rfl (zh.mpr (zAJ.mpr (zPC.mpr (zDy.mpr (zE (zAd (zc (d:=mD zA) rfl) (zQV m hR hl)) (zFS.mpr ((zPo (zAF)).mpr (za (zAM.mpr ?_)))))))))));have nd:(zAq zA l).Nodup:=(zDV (zD5 zA)).filter _;have hal:(zAq zA l).length<=676:=zWv (zYo _ _) (zBu hR);have oa:zC0 zA (· ∈ zAq zA l):=.inr fun t ht hin=>by
  obtain ⟨a,b,rfl,_⟩:=zAX.mp (zD1 hin);cases ht
 refine Ok.mono (zEd m oa hR hl (zR _ _) nd (fun t=>⟨fun h=>⟨zCn t (zD1 h),h⟩,fun h=>h.2⟩) (by omega)) ?_;rintro d M1 ⟨jf,rfl,_,⟨fd,h2,_,sp⟩,_,_⟩;rw[zJ,zM];rw[zI,zT];refine zAS.mpr (zE (zt (d:=mD zA) rfl (zc (d:=.ref jf) rfl)) (Ok.mono (zIK hR h2) ?_));have hjf:=(zWX.mp h2).1;rintro d M2 ⟨rfl,h3,fr2⟩;have ecl:zA7 (fun p=>(zG fd p).isSome=true) zA.length=zA7 (fun p=>∃ k,Rch zA l (· ∈ zAq zA l) p k) zA.length:=zGv fun o r ho hr=>by
  constructor
  ·intro z;cases e:zG fd [(o:Int),(r:Int)] with
   |none=>rw[e]at z;cases z
   |some d=>
    obtain ⟨_,n,hn,_⟩:=(sp _ _).mp e;exact ⟨n,hn.1⟩
  ·rintro ⟨k,hk⟩;obtain ⟨n,_,hn⟩:=zEy k hk;rw[(sp _ _).mpr ⟨zCn _ (zB6.mpr (by omega)),n,hn,rfl⟩];rfl
 rw[ecl];have hNl:(zCY (zA7 (fun p=>∃ k,Rch zA l (· ∈ zAq zA l) p k) zA.length)).length=zA.length:=by rw[zHa];unfold zA7;simp
 generalize zCY (zA7 (fun p=>∃ k,Rch zA l (· ∈ zAq zA l) p k) zA.length)=N at hNl ⊢;rw[zJ,zM];rw[zI,zT];refine zAS.mpr (zE (zt (d:=mD zA) rfl (zc (d:=.ref jf) rfl)) (Ok.mono (zLD m hR hl ((fr2 jf hjf).trans h2) sp) ?_));rintro d M3 ⟨jr,us,rfl,rfl,_,h4⟩;rw[zJ,zM];generalize M2++us=A at h4 ⊢;rw[zA8];refine zQK.mpr (zh.mpr (zE (a:=tI N) (M:=A) rfl (zh.mpr (zAJ.mpr (zPC.mpr (zDy.mpr (zCo.mpr ?_)))))));obtain ⟨d,A1,e1,ps,rfl,eA1,hps,hpl⟩:=zGW hR hNl (M:=A);have hA1:A1[A.length+1]?=some (.lst (ps.map tI)):=by
  have:=zR (A++[MO.lst ((zO (zF zA)).map tI)]) (MO.lst (ps.map tI));rw[zWk,zZj]at this;rw[eA1];exact this
 have hr1:A1[jr]?=some (dT (zCs zA l (· ∈ zAq zA l))):=by
  rw[eA1,zXa,zWb (zWX.mp h4).1];exact h4
 refine ⟨_,_,_,zDT (ds:=[mD zA,tI N]) (zt (d:=mD zA) rfl (zc (d:=tI N) rfl)) e1 hA1,by rw[zWd];exact zW (by omega),?_⟩;refine Ok.mono (zBk (I:=fun r acc M'=>(∃ us,M'=A1++us) /\ ∃ (vs:List (List Int)) (ws:List (List Int)),r=vs.map tI/\(∀ p∈vs,p∈zO (zF zA))/\acc=ws.map tI/\ws.length+vs.length=ps.length) (Q:=fun acc M'=>∃ ws:List (List Int),acc=ws.map tI/\ws.length=ps.length) ?_ ?_ _ [] _ ⟨⟨[],by simp⟩,ps,[],rfl,hps,rfl,by simp⟩) ?_
 ·rintro x r acc M' ⟨⟨us,rfl⟩,vs,ws,hr,hv,rfl,hc⟩;cases vs with
  |nil=>cases hr
  |cons p vs=>
   rw[zWn]at hr;obtain ⟨rfl,rfl⟩:=zXY hr;have up:∀ {j:Nat} {u:MO},A1[j]?=some u->(A1++us)[j]?=some u:=fun {j u} h=>by rw[zWb (zWX.mp h).1];exact h
   refine ⟨.inl (up hA1),[some (mD zA),some (.ref jf),some (tI N),some (.ref jr),some (tI p)],rfl,⟨true,_,rfl,?_⟩⟩;dsimp only;rw[zWj rfl];refine zAS.mpr (zE (zt (d:=mD zA) rfl (zt (d:=.ref jr) rfl (zc (d:=tI p) rfl))) (Ok.mono (zLj m oa hR (up hr1) (hv p zWi)) ?_));rintro d M4 ⟨⟨w,rfl⟩,us2,rfl⟩;rw[zJ];exact ⟨⟨us++us2,by simp⟩,vs,ws++[w],rfl,fun q hq=>hv q (zWh _ hq),by simp,by simp at hc ⊢;omega⟩
 ·rintro acc M' ⟨⟨us,rfl⟩,vs,ws,hr,_,rfl,hc⟩;have:vs=[]:=by cases vs with|nil=>rfl|cons _ _=>cases hr
  subst this;exact ⟨.inl (by rw[zWb (zWX.mp hA1).1];exact hA1),ws,rfl,by simpa using hc⟩
 ·rintro ys M5 ⟨ws,e,hwl⟩;rw[List.nil_append]at e;subst e;refine zFS.mpr ((zJe zCw).mpr ?_);rw[zJ,zAM];refine ⟨zW (by simp),?_⟩;rw[zJ];refine ⟨?_,rfl,ws,rfl⟩;unfold D.und D.unds D.unds D.unds;rw[show D.und 0 (tI N)=true from zAh N,show D.und 0 (.tup (ws.map tI))=true from zM3 0 ws];rfl
theorem zOq (m:IsM zA l) (hR:zA.length<=26) (hl:l<=12) :
  zDB [mD zA] M=some (tI (zCY (zA7 (fun p=>∃ k,Rch zA l (· ∈ zAq zA l) p k) zA.length)),M):=by
 refine zY ?_;unfold zDB;refine zGj ?_ ?_
 ·unfold D.unds D.unds;rw[zEz];rfl
 rw[zy];unfold zGo;obtain ⟨ws,e⟩:=zGT m hR hl (M:=[]);generalize zCY (zA7 (fun p=>∃ k,Rch zA l (· ∈ zAq zA l) p k) zA.length)=N at e ⊢;exact zAP (d:=tI N) (zK (x:=.dat (.tup [tI N,.tup (ws.map tI)])) (y:=.dat (.int 0)) (zAd (zc (d:=mD zA) rfl) e) rfl (zBA zAF rfl)) ⟨zAh N,rfl,rfl⟩
theorem zTn (m:IsM zA l) (hR:zA.length<=26) (hl:l<=12) (wf:∀ (j:Nat) u,M[j]?=some u->MO.und M.length u=true) (v:∀ M,zC i σ M=some (.dat (mD zA),M)) :
  Ok (zP zBM (zD (toD (zC i)) (zD (toD (zP zAx (zD (toD (zC i)) (zD (toD (zP zB0 (zD (toD (zC i)) zH))) zH)))) zH)) σ M)
   fun e M'=>e=.dat (tI (zCY (zA7 (fun p=>∃ k,Rch zA l (· ∈ zAq zA l) p k) zA.length)))/\M.length<=M'.length/\(∀ j,j<M.length->M'[j]?=M[j]?) /\ ∀ (j:Nat) u,M'[j]?=some u->MO.und M'.length u=true:=by
 have tv:∀ M,toD (zC i) σ M=some (mD zA,M):=fun M=>zD9 (v M);refine zAS.mpr (zh.mpr (zE (tv M) (zh.mpr (zAJ.mpr (zAS.mpr (zh.mpr (zE (tv M) (zh.mpr (zAJ.mpr (zAS.mpr (zE (zc (v M)) ?_)))))))))));refine Ok.mono (zLl m hR hl) ?_;rintro d M1 ⟨j1,rfl,g1,e1,n1,f1,u1⟩;rw[zJ,zAM];have nd:(zAq zA l).Nodup:=(zDV (zD5 zA)).filter _;refine Ok.mono (zEg m hR hl e1 nd (U:=zO (zF zA)) (fun _ h=>h) (fun _ h=>zD1 h) (zWv (zBu hR) (by omega))) ?_;rintro d M2 ⟨j2,T,rfl,g2,e2,bi,hU,n2,f2,u2⟩;rw[zJ,zAM];have wf2:∀ (j:Nat) u,M2[j]?=some u->MO.und M2.length u=true:=fun j u e=>by
  rcases zXq j M1.length with z|z
  ·rw[f2 j z]at e;rcases zXq j M.length with y|y
   ·rw[f1 j y]at e;exact zBv (by omega) (wf j u e)
   ·exact zBv n2 (u1 j u y e)
  ·exact u2 j u z e
 have es:=zIQ m hR wf2 e2 bi.nd fun u hu=>zFa u (hU _ hu);have ec:zA7 (· ∈ T.map (·.1)) zA.length=zA7 (fun p=>∃ k,Rch zA l (· ∈ zAq zA l) p k) zA.length:=zGv fun o r ho hr=>by
  have hp:[(o:Int),(r:Int)]∈zO (zF zA):=zB6.mpr (by omega);rw[zPs bi];constructor
  ·rintro ⟨n,hn⟩;exact ⟨n,(zMW m (fun _ h=>zD1 h) n _ _ hp).mp hn⟩
  ·rintro ⟨n,hn⟩;exact ⟨n,(zMW m (fun _ h=>zD1 h) n _ _ hp).mpr hn⟩
 rw[ec]at es;exact zE es ⟨rfl,by omega,fun j hj=>(f2 j (by omega)).trans (f1 j hj),wf2⟩
noncomputable def zFG (g_rec:FF):FS:=(zX (sIf (tst (zFs "tuple" (zC 1))) (zX (sIf (zFp (zFQ (tst (zFs "tuple" (zC 0)))) (tst (fOp kNe (fB zAk (zS (zC 0) zg)) (fB zAk (zS (zC 1) zg))))) (zAW (fC (.bl false))) zBB)
  (zAW (fB zVU (zS (zm [2,3] (zJG (zD (toD (zC 0)) (zD (toD (zC 1)) zH))) (zBp 2 3) zr (zP g_rec (zD (toD (zC 2)) (zD (toD (zC 3)) zH)))) zg)))) zBB)
  (zX (sIf (tst (zFs "bool" (zC 1))) (zAW (zL9 (zFs "bool" (zC 0)) (fOp kEq (zC 0) (zC 1)))) zBB)
  (zAW (zL9 (zFs "int" (zC 0)) (zL9 (zQG (zFs "bool" (zC 0))) (fOp kEq (zC 0) (zC 1)))))))
noncomputable def zAz:Nat->FF
 |0=>fun _ _=>none
 |n+1=>zBN 4 (zFG (zAz n))
noncomputable def zHd:FF:=zAz 5
theorem zTq (n:Nat) (i:Int) (M:Mem):zAz (n+1) [.int i,.int i] M=some (.bl true,M):=by
 refine zY ?_;unfold zAz;rw[zy];unfold zFG;refine zJ8 (isF rfl rfl (by decide)) (zJ8 (isF rfl rfl (by decide)) ?_);exact zAP (zIZ (isV rfl rfl (by decide)) (zIZ (zMt (isV rfl rfl (by decide))) (zK rfl rfl (zQe rfl)))) ⟨rfl,rfl⟩
theorem zSg (n:Nat) (c:List Int) (hz:c.length<=1000) (M:Mem):zAz (n+2) [tI c,tI c] M=some (.bl true,M):=by
 refine zY ?_;unfold zAz;rw[zy];unfold zFG;refine zSQ (zVm rfl rfl (by decide)) (zJ8 ?_ ?_)
 ·refine zY (zTQ.mpr (zNK.mpr (zE (zVm rfl rfl (by decide)) ?_)));rw[zWm (by decide)];refine zI6.mpr (zE (zK (zCR rfl zAF) (zCR rfl zAF) (zY (zU2.mpr ⟨rfl,rfl⟩))) ?_);rw[zJD];simp
 ·rw[zA8];have ec:=zAs (own:=[2,3]) (g:=zBp 2 3) (te:=zP (zAz (n+1)) (zD (toD (zC 2)) (zD (toD (zC 3)) zH))) (fi:=zJG (zD (toD (zC 0)) (zD (toD (zC 1)) zH))) (σ:=[some (tI c),some (tI c),none,none]) (M:=M) c (fun i=>D.tup [.int i,.int i]) (fun _=>D.bl true) (gd:=none) (by
   unfold zJG;rw[zt (d:=tI c) rfl (zc (d:=tI c) rfl)];show some (((c.map D.int).zip (c.map D.int)).map (fun q=>D.tup [q.1,q.2]),(none:Option (Mem->Prop)),M)=_;rw[show ((c.map D.int).zip (c.map D.int)).map (fun q=>D.tup [q.1,q.2])=c.map fun i=>D.tup [.int i,.int i] by
    rw[List.zip_map,zWs];clear hz;induction c with
    |nil=>rfl
    |cons a r ih=>simp only[List.zip_cons_cons,zWn];rw[ih];rfl]) trivial (by omega) fun i _=>⟨_,rfl,zAd (zt rfl (zc rfl)) (zTq n i M)⟩
  refine zPC.mpr (zDy.mpr (zE ec (zFS.mpr ((zVY (bs:=List.replicate c.length true) zUZ (by rw[show c.map (fun _=>D.bl true)=(List.replicate c.length true).map D.bl by simp[List.map_const']];exact zIa _)).mpr ?_))));rw[zJ];exact ⟨by simp,rfl⟩
noncomputable def zQT:FS:=(zX (zo 1 (zP zB8 (zD (toD (zC 0)) zH)))
  (zX (zo 2 (zAT zH))
  (zX (zBo (zv (zD (toD (fB zGu (zS (fC (.int 5)) (zS (fOp zAE (fC (.int 1)) (fB zAk (zS (zC 0) zg))) zg)))) zH)) (gN 3) (zX (zo 4 (fOp kIx (zP zBg (zD (toD (zC 1)) (zD (toD (fC (.int 26))) (zD (toD (fC (.int 6))) zH)))) (fC (.int 0))))
  (zX (zAa (fM zk (zC 2) (zD (toD (zAV (zD (toD (zC 4)) (zD (toD (zP zBM (zD (toD (zC 4)) (zD (toD (zP zAx (zD (toD (zC 4)) (zD (toD (zP zB0 (zD (toD (zC 4)) zH))) zH)))) zH)))) zH)))) zH)))
  (zBo (zn (zAT (zD (toD (fOp kIx (zC 2) (fC (.int 0)))) (zD (toD (fOp kIx (zC 2) (zPm (fC (.int 1))))) zH)))) (zBp 5 6) (sIf (zFQ (tst (zP zHd (zD (toD (zP zDB (zD (toD (zC 5)) zH))) (zD (toD (zC 6)) zH))))) (zAW (fC (.bl false))) zBB)))))
  (zAW (fC (.bl true))))))
noncomputable def zF9:FF:=zBN 7 zQT
def En (e:D):Prop:=∃ zA l,IsM zA l/\zA.length<=26/\l<=12/\e=.tup [mD zA,tI (zCY (zA7 (fun p=>∃ k,Rch zA l (· ∈ zAq zA l) p k) zA.length))]
theorem Gen.more (g:Gen M n k) (hl:M.length<=M'.length) (f:∀ j,j<M.length->M'[j]?=M[j]?) (u:∀ (j:Nat) u,M'[j]?=some u->MO.und M'.length u=true):Nw M M' n k:=by
 obtain ⟨hn,hk⟩:=g.lt;obtain ⟨c,s,e1,e2,r⟩:=g.ex;exact ⟨⟨⟨c,s,(f n hn).trans e1,(f k hk).trans e2,r⟩,g.ne,u⟩,hl,fun j hj _ _=>f j hj⟩
theorem Gen.setO (h:Gen A n k) (h1:j≠n) (h2:j≠k) (hu:MO.und A.length u=true):Gen (A.set j u) n k:=by
 obtain ⟨c,s,e1,e2,r⟩:=h.ex;refine ⟨⟨c,s,by rw[zWy h1];exact e1,by rw[zWy h2];exact e2,r⟩,h.ne,fun i v e=>?_⟩;rw[zYn];rw[zX3]at e;split at e
 ·split at e
  ·cases e;exact hu
  ·cases e
 ·exact h.wf i v e
theorem En.und (h:En e) (N:Nat):D.und N e=true:=by
 obtain ⟨zA,l,_,_,_,rfl⟩:=h;unfold D.und D.unds D.unds D.unds;rw[zEz];simp[tI,zAh]
theorem zM1:∀ {es:List D},(∀ e∈es,En e)->D.unds N es=true
 |[],_=>rfl
 |e::es,h=>by
  unfold D.unds;rw[(h e zWi).und,zM1 fun x hx=>h x (zWh _ hx)];rfl
theorem zQl:(zA7 G n).length=n:=by
 unfold zA7;simp
theorem zRR (h1:En e1) (h2:En e2) (q:∀ z5 z6,P .nx [y0,y1,y2,y3,y4,z5,z6] M) :
  OkS (zCf (zBp 5 6) (sIf (zFQ (tst (zP zHd (zD (toD (zP zDB (zD (toD (zC 5)) zH))) (zD (toD (zC 6)) zH))))) (zAW (fC (.bl false))) zBB) [e1,e2] none [e1,e2] [y0,y1,y2,y3,y4,y5,y6] M) P:=by
 refine zAZ (I:=fun r σ M'=>M'=M/\(∃ z5 z6,σ=[y0,y1,y2,y3,y4,z5,z6]) /\ ∀ x∈r,En x) ?_ ?_ _ _ _ ⟨rfl,⟨_,_,rfl⟩,fun x hx=>?_⟩
 ·rintro x r σ M' ⟨rfl,⟨z5,z6,rfl⟩,hr⟩;obtain ⟨zA,l,m,hR,hl,rfl⟩:=hr x zWi;refine ⟨zAH,_,rfl,?_⟩;refine zQQ (zAd (zt (zAd (zc (d:=mD zA) rfl) (zOq m hR hl)) (zc rfl)) (zSg 3 _ (by rw[zHa,zQl];omega) _)) ?_;exact ⟨rfl,⟨_,_,rfl⟩,fun z hz=>hr z (zWh _ hz)⟩
 ·rintro σ M' ⟨rfl,⟨z5,z6,rfl⟩,_⟩;exact ⟨zAH,q _ _⟩
 ·simp only[zWg,zWz,zXp]at hx;rcases hx with rfl|rfl
  ·exact h1
  ·exact h2
set_option maxHeartbeats 4000000 in
theorem zQ6 (ns:List Int) (h:ns.length<=63):∃ M',zF9 [.ref 0] [.fro (ns.map D.int)]=some (.bl true,M'):=by
 suffices hh:Ok (zF9 [.ref 0] [.fro (ns.map D.int)]) fun d _=>d=.bl true by
  obtain ⟨d,M',e,rfl⟩:=hh;exact ⟨M',e⟩
 unfold zF9;rw[zy];unfold zQT;show OkS (zX _ _ [some (.ref 0),none,none,none,none,none,none] _) _;rw[zI,zT];refine zAS.mpr (zE (zc rfl) ?_);refine Ok.mono (zPp h) ?_;rintro d M1 ⟨rfl,g1,e0⟩;rw[zJ,zM];show OkS (zX _ _ [some (.ref 0),some (.ref 1),none,none,none,none,none] M1) _;rw[zI,zT];refine zE (M:=M1) (a:=.fl []) (zJS rfl (by simp)) (za ?_);rw[zM];have g2:=(g1.lst [] rfl).gen;have e2:(M1++[MO.lst []])[M1.length]?=some (.lst []):=zR _ _;have e02:(M1++[MO.lst []])[0]?=some (.fro (ns.map D.int)):=by rw[zWb (by have:=g1.lt;omega)];exact e0
 have hj:2<M1.length:=g1.lt.2;generalize M1++[MO.lst []]=M2 at g2 e2 e02;generalize M1.length=j at e2 hj;show OkS (zX _ _ [some (.ref 0),some (.ref 1),some (.ref j),none,none,none,none] M2) _;rw[zI,zAe];have el:fB zAk (zS (zC 0) zg) [some (.ref 0),some (.ref 1),some (.ref j),none,none,none,none] M2=some (.dat (.int (ns.map D.int).length),M2):=zCR (x:=.dat (.ref 0)) rfl (zSc e02);rw[zWd]at el;have emin:fB zGu (zS (fC (.int 5)) (zS (fOp zAE (fC (.int 1)) (fB zAk (zS (zC 0) zg))) zg)) [some (.ref 0),some (.ref 1),some (.ref j),none,none,none,none] M2=some (.dat (.int (if 1+(ns.length:Int)<5 then 1+(ns.length:Int) else 5)),M2):=zNI rfl (zK rfl el rfl);refine ⟨_,_,_,zBi emin (by split <;> omega) (by split <;> omega),?_⟩;refine zHP (n:=(if 1+(ns.length:Int)<5 then 1+(ns.length:Int) else 5).toNat) (I:=fun i σ M'=>(∃ y3 y4 y5 y6,σ=[some (.ref 0),some (.ref 1),some (.ref j),y3,y4,y5,y6])/\Gen M' 1 2 /\ ∃ es:List D,M'[j]?=some (.lst es)/\es.length=i /\ ∀ e∈es,En e) ?_ ?_ _ _ ⟨⟨_,_,_,_,rfl⟩,g2,[],e2,rfl,fun _ h=>by cases h⟩
 ·rintro i σ M' hi ⟨⟨y3,y4,y5,y6,rfl⟩,g,es,ee,hl,he⟩;have hi5:i<5:=by
   have:(if 1+(ns.length:Int)<5 then 1+(ns.length:Int) else 5)<=5:=by split <;> omega
   omega
  refine ⟨_,rfl,?_⟩;rw[zI,zT];refine zBP.mpr (zAS.mpr (zE (zt rfl (zt rfl (zc rfl))) ?_));refine Ok.mono (zNu g (by decide) (by decide) (by decide) (by decide)) ?_;rintro d M3 ⟨zA,l,p,rfl,m,hR,hL,hp,nw3⟩;refine zFO.mpr (zR9 (d:=mD zA) zAF at0 ?_);rw[zJ,zM];have e3:=nw3.get ee (by omega) (by omega);simp only[List.set_cons_succ,List.set_cons_zero];rw[zI,zAt];refine zE1.mpr (zE (a:=.dat (.ref j)) (M:=M3) rfl ⟨⟨_,zAG e3⟩,zh.mpr (zAJ.mpr (zQK.mpr (zh.mpr (zE (a:=mD zA) (M:=M3) rfl (zh.mpr (zAJ.mpr ?_))))))⟩);refine Ok.mono (zTn m (by omega) (by omega) nw3.gen.wf fun _=>rfl) ?_;rintro d M4 ⟨rfl,n4,f4,u4⟩;rw[zJ,zAM];have nw4:=nw3.gen.more n4 f4 u4;have e4:=nw4.get e3 (by omega) (by omega);refine ⟨zW (by simp),?_⟩;rw[zJ,zAM,zBG e4 (zWt (m:=95000) (by omega) (zW (by omega))),zM];have hen:En (.tup [mD zA,tI (zCY (zA7 (fun p=>∃ k,Rch zA l (· ∈ zAq zA l) p k) zA.length))]):=⟨zA,l,m,by omega,by omega,rfl⟩;generalize (D.tup [mD zA,tI (zCY (zA7 (fun p=>∃ k,Rch zA l (· ∈ zAq zA l) p k) zA.length))])=en at hen;have hes:∀ e∈es++[en],En e:=fun e he'=>by
   rcases zWu.mp he' with z|z
   ·exact he e z
   ·have:e=en:=by simpa using z
    rw[this];exact hen
  have g5:Gen (M4.set j (.lst (es++[en]))) 1 2:=nw4.gen.setO (by omega) (by omega) (zM1 hes);have e5:(M4.set j (.lst (es++[en])))[j]?=some (.lst (es++[en])):=zXO (zWX.mp e4).1;generalize M4.set j (.lst (es++[en]))=M5 at g5 e5;rw[zAe];obtain ⟨a,r,hr⟩:∃ a r,es++[en]=a::r:=by
   cases es with
   |nil=>exact ⟨_,_,rfl⟩
   |cons a r=>exact ⟨_,_,rfl⟩
  have ha:En a:=hes a (by rw[hr];exact zWi);refine ⟨_,_,_,zRj (zJS (ds:=[a,en]) (zt (zK (x:=.dat (.ref j)) rfl rfl (zBA (zb e5) (by rw[hr];exact at0))) (zc (zK (x:=.dat (.ref j)) (y:=.dat (.int (-1))) rfl rfl (zBA (zb e5) (L2.zLS _ _))))) (by simp)),?_⟩;refine zRR ha hen fun z5 z6=>?_;exact ⟨⟨_,_,_,_,rfl⟩,g5,es++[en],e5,by simp[hl],hes⟩
 ·rintro σ M' ⟨⟨y3,y4,y5,y6,rfl⟩,_⟩;rw[zM];exact zAP rfl rfl
end Lad
set_option maxHeartbeats 4000000
namespace Lad
open PySem PySem.Spec PyProof.Rows L2 L3 Law Lac
-- the text by places
def top (i:Nat):Stmt:=PySem.Challenge.pw_bringhome_k45_stable_partings.main.body.getD i (.Pass ⟨0,0,0,0⟩)
abbrev zEI:Stmt:=top 1
abbrev zFv:Stmt:=top 3
abbrev zEp:Stmt:=top 5
abbrev zD3:Stmt:=top 6
abbrev zDd:Stmt:=top 7
abbrev zFi:Stmt:=top 8
abbrev zCa:Stmt:=top 9
abbrev zEl:Stmt:=top 10
abbrev zFj:Stmt:=top 11
abbrev zJ4:Stmt:=top 12
abbrev zDz:Stmt:=top 14
abbrev zCh:Stmt:=top 16
abbrev zDR:Stmt:=top 17
abbrev zCU:Stmt:=top 18
abbrev zHv:Stmt:=top 19
abbrev zEJ:Stmt:=top 21
abbrev zEw:Stmt:=top 22
abbrev zDX:Stmt:=top 23
abbrev zC1:Stmt:=top 24
abbrev zDY:Stmt:=top 25
abbrev zCg:Stmt:=top 26
abbrev zDW:Stmt:=top 27
abbrev zEi:Stmt:=top 28
abbrev zD4:Stmt:=top 29
abbrev zDO:Stmt:=top 30
abbrev zE0:Stmt:=top 31
abbrev zDe:Stmt:=top 32
abbrev zE9:Stmt:=top 33
abbrev zQ8:Stmt:=top 34
structure Txt (K:PySem.W.Frag) (mg:Str->Option Value) where
  d_all_rooms:Df K mg "all_rooms" zEI ["machine"]
  d_stepped:Df K mg "stepped" zFv ["machine", "rooms", "letter"]
  d_pairs_of:Df K mg "pairs_of" zEp ["rooms"]
  d_ways_back:Df K mg "ways_back" zD3 ["machine"]
  d_lengths_to:Df K mg "lengths_to" zDd ["machine", "goals"]
  d_lengths:Df K mg "lengths" zFi ["machine"]
  d_first_letter:Df K mg "first_letter" zCa ["machine", "pair", "found"]
  d_rungs_to:Df K mg "rungs_to" zEl ["machine", "found"]
  d_climbed:Df K mg "climbed" zFj ["machine", "steps", "pair"]
  d_apart:Df K mg "apart" zJ4 ["machine"]
  d_parted_by:Df K mg "parted_by" zDz ["marks"]
  d_pairs_across:Df K mg "pairs_across" zCh ["machine", "parting"]
  d_parted_but:Df K mg "parted_but" zDR ["machine", "found"]
  d_stable_shown:Df K mg "stable_shown" zCU ["machine"]
  d_stable:Df K mg "stable" zHv ["machine"]
  d_law_begin:Df K mg "_law_begin" zEJ ["_law_script"]
  d_law_next:Df K mg "_law_next" zEw ["_law_state", "_law_many"]
  d_law_column:Df K mg "_law_column" zDX ["_law_state", "_law_many", "_law_way"]
  d_law_machine:Df K mg "_law_machine" zC1 ["_law_state", "_law_most", "_law_letters"]
  d_law_copies:Df K mg "_law_copies" zDY ["_law_state", "_law_most", "_law_letters"]
  d_law_numbered:Df K mg "_law_numbered" zCg ["_law_classes"]
  d_law_either:Df K mg "_law_either" zDW ["_law_state", "_law_most", "_law_letters"]
  d_law_pair:Df K mg "_law_pair" zEi ["_law_one", "_law_other"]
  d_law_pairs:Df K mg "_law_pairs" zD4 ["_law_many"]
  d_law_behind:Df K mg "_law_behind" zDO ["_law_machine_here", "_law_goals"]
  d_law_lost:Df K mg "_law_lost" zE0 ["_law_machine_here"]
  d_law_stable:Df K mg "_law_stable" zDe ["_law_machine_here", "_law_risky"]
  d_law_is:Df K mg "_law_is" zE9 ["_law_found", "_law_due"]
  d_law:Df K mg "law" zQ8 ["_law_script"]
  z_tuple:mg "tuple" = none
  z_range:mg "range" = none
  z_len:mg "len" = none
  z_sorted:mg "sorted" = none
  z_min:mg "min" = none
  z_enumerate:mg "enumerate" = none
  z_list:mg "list" = none
  z_max:mg "max" = none
  z_dict:mg "dict" = none
  z_zip:mg "zip" = none
  z_isinstance:mg "isinstance" = none
  z_bool:mg "bool" = none
  z_all:mg "all" = none
  z_int:mg "int" = none
  kinds:Kinds K
section
variable {P:Program} {w:World} {K:PySem.W.Frag} {mg:Str->Option Value} {base:Heap}
theorem zBz {X:Cx} {scope sc:Scope} {own:List Nat} {N ps:List Str} (_:FnScope N ps sc) (hk:scope.kind=.function) (hs:X.env.scope=sc) (hN:X.N=N) (h1:zFW sc scope=true) (h2:zGl N scope own=true):CompIn X scope own:=zFg hk hs hN h1 h2
theorem zN4 {X:Cx} {scope sc sd:Scope} {own:List Nat} {N ps:List Str} (_:FnScope N ps sd) (hk:scope.kind=.function) (hs:X.env.scope=sc) (hN:X.N=N) (h1:zFW sc scope=true) (h2:zGl N scope own=true):CompIn X scope own:=zFg hk hs hN h1 h2
set_option hygiene false in
local macro_rules | `(tactic| decreasing_trivial)=> `(tactic| repeat' first
  |refine zB9 (pv _)
  |refine zA3 ?_
  |refine zFZ ?_ ?_ (zN rfl)
  |refine zL6
  |refine zFl ?_
  |refine zGi ?_ ?_
  |refine zVt
  |refine zLR
  |refine zHo ?_
  |refine zP4 sc.nd rfl
  |refine zU7 (by first|exact zKX T|exact zJg T|exact zK4 T|exact zML T|exact zKI T|exact zGP T|exact zIG T|exact zIA T|exact zHK T|exact zJb T|exact zKq T|exact zJX T|exact zGN T|exact zH6 T|exact zMg T|exact zH9 T|exact zQ7 T|exact zH8 T|exact zKT T|exact zGU T|exact zMk T|exact zGM T|exact zKH T|exact zIF T|exact zIB T|exact zLA T|exact zOe T|exact zNy T) (hr.mono (by omega)) rfl ?_ ?_ (by decide) (zN rfl) (zBH rfl)
  |refine zGm ?_ ?_ (zN rfl)
  |refine zJi
  |refine zLd ?_
  |refine zTJ ?_
  |refine zWD ?_ ?_
  |refine zQk
  |refine zP7 rfl T.z_len ?_ (zN rfl) rfl
  |refine zRg ?_ ?_ ?_
  |refine zUo ?_
  |refine zKK
  |refine zUF ?_ ?_
  |refine zUp ?_
  |refine zTh (zF8 hr) ?_ ?_
  |refine zSs zQn PassesOwn.never rfl ?_ ?_ ?_
  |refine zKL (zBc (by decide)) (zBz sc rfl rfl rfl (by decide +kernel) (by decide +kernel)) rfl ?_ ⟨fun _ _ _ _ _=>?_,fun _ _ _ _ _=>?_,fun _ _ _ _ _=>?_⟩
  |refine zGq ?_ ?_
  |refine zT9 ?_
  |refine zNe rfl T.z_range ?_ ?_ (zDv rfl)
  |refine zU6
  |refine zVu hr.units0 ?_ ?_
  |refine zQx ?_ ?_
  |refine zSB rfl T.z_tuple ?_ (zN rfl) rfl
  |refine zTx ?_
  |refine zU1 ?_ ?_
  |refine zOf (zF8 hr) ?_ ?_
  |refine zRZ
  |refine zRw ?_
  |refine zSZ ?_ ?_ ?_
  |refine zNX
  |refine zPT rfl ?_
  |refine zOi sc.nd rfl (by first|exact Or.inl rfl|exact Or.inr rfl) (by first|exact .inl rfl|exact .inr rfl) rfl (zBc (by decide)) (zBz sc rfl rfl rfl (by decide +kernel) (by decide +kernel)) rfl ?_ ⟨fun _ _ _ _ _=>?_,fun _ _ _ _ _=>?_,fun _ _ _ _ _=>?_⟩
  |refine zVc ?_ ?_
  |refine zTS (zF8 hr) ?_ ?_ ?_
  |refine zVI ?_ ?_
  |refine zVB ?_ ?_
  |refine zUn ?_ ?_
  |refine zKL (zIe (K:=K) (by decide) (by decide)) (zBz sc rfl rfl rfl (by decide +kernel) (by decide +kernel)) rfl ?_ ⟨fun _ _ _ _ _=>?_,fun _ _ _ _ _=>?_,fun _ _ _ _ _=>?_⟩
  |refine zR3 _ PassesOwn.never ?_ ?_
  |refine zTX rfl rfl T.z_list rfl T.z_range ?_ (zN rfl) rfl (zN rfl) rfl
  |refine zS4 ?_ ?_
  |refine zR6 (zF8 hr) ?_ ?_ ?_ ⟨rfl,rfl,rfl,rfl⟩
  |refine zSr hr.units0 ?_ ?_
  |refine zQX ?_ ?_ ?_
  |refine zVT ?_ ?_
  |refine zUE rfl rfl T.z_min ?_ (zN rfl) (zBH rfl)
  |refine zSd
  |refine zSN rfl T.z_enumerate ?_ (zN rfl) rfl
  |refine zTR (zF8 hr) ?_ ?_
  |refine zRh ?_
  |refine zT7 rfl rfl T.z_min ?_ (zN rfl) rfl
  |refine zKL (zBc (by decide)) (zN4 sc rfl rfl rfl (by rfl) (by decide +kernel)) rfl ?_ ⟨fun _ _ _ _ _=>?_,fun _ _ _ _ _=>?_,fun _ _ _ _ _=>?_⟩
  |refine zVP ?_
  |refine zVr (zKV (K:=K)) ?_ ?_
  |refine zVX ?_ ?_
  |refine zSs (zKV (K:=K)) PassesOwn.never rfl ?_ ?_ ?_
  |refine zTZ rfl T.z_list ?_ (zN rfl) rfl
  |refine zVl
  |refine zUC rfl rfl T.z_tuple rfl T.z_range ?_ (zN rfl) rfl (zN rfl) rfl
  |refine zTk (zBc (by decide)) (zBz sc rfl rfl rfl (by decide +kernel) (by decide +kernel)) rfl ?_ ⟨fun _ _ _ _ _=>?_,fun _ _ _ _ _=>?_,fun _ _ _ _ _=>?_⟩
  |refine zR7 rfl rfl T.z_sorted ?_ (zN rfl) rfl
  |refine zSL (by decide) (zBc (by decide)) (zBc (by decide)) (zBz sc rfl rfl rfl (by decide +kernel) (by decide +kernel)) rfl ?_ ⟨fun _ _ _ _ _=>?_,fun _ _ _ _ _=>?_,fun _ _ _ _ _=>?_,fun _ _ _ _ _=>?_,fun _ _ _ _ _=>?_,fun _ _ _ _ _=>?_,fun _ _ _ _ _ _=>rfl⟩
  |refine zST
  |refine zTY rfl T.z_len ?_ (zN rfl) rfl
  |refine zUf ?_ ?_
  |refine zUx ?_ ?_
  |refine zSS ?_ ?_ ?_ ?_
  |refine zQM ?_ ?_
  |refine zQg ?_ ?_
  |refine zTH rfl rfl T.z_max ?_ (zN rfl) (zBH rfl)
  |refine zNo rfl T.z_range ?_ ?_ (zG5 rfl rfl) (zDv rfl)
  |refine zPd ?_ ?_
  |refine zPw ?_
  |refine zUw ?_ ?_
  |refine zSR ?_ ?_ ?_
  |refine zUz ?_ ?_
  |refine zPG rfl T.z_zip ?_ (zG5 rfl rfl) (zDv rfl)
  |refine zQW (zF8 hr) ?_ ?_ ?_ ⟨rfl,rfl,rfl,rfl⟩
  |refine zQE true (zUv 4 (by decide) hr) rfl rfl T.z_dict ?_ (zN rfl) rfl
  |refine zME sc.nd rfl (by first|exact Or.inl rfl|exact Or.inr rfl) (by first|exact .inl rfl|exact .inr rfl) rfl (zF8 hr) (zBc (by decide)) (zBz sc rfl rfl rfl (by decide +kernel) (by decide +kernel)) rfl ?_ ⟨fun _ _ _ _ _=>?_,fun _ _ _ _ _=>?_,fun _ _ _ _ _=>?_⟩ fun _ _ _ _ _=>?_
  |refine zRN ?_
  |refine zVz ?_ ?_
  |refine zR1 (zF8 hr) (zBc (by decide)) (zBz sc rfl rfl rfl (by decide +kernel) (by decide +kernel)) rfl ?_ ⟨fun _ _ _ _ _=>?_,fun _ _ _ _ _=>?_,fun _ _ _ _ _=>?_⟩ fun _ _ _ _ _=>?_
  |refine zPN ?_
  |refine zWB sc.nd rfl ?_
  |refine zUc (zTM ?_ ?_)
  |refine zUc (zSt ?_ ?_)
  |refine zJ6 ?_)
abbrev zKp:List Str:=["machine"]
theorem zJY:FnScope zKp ["machine"] (zU zEI):=⟨rfl,rfl,rfl,by decide +kernel,rfl,by decide +kernel,by decide +kernel⟩
theorem zJg (T:Txt K mg):Od P w base 1 T.d_all_rooms zAD:=by
  unfold zAD;have sc:=zJY;exact zAC (n:=1) T.d_all_rooms.F sc rfl (fun cdv A outer s H E hr=>by
    unfold zEF;decreasing_trivial)
abbrev zNq:List Str:=["machine", "rooms", "letter", "room"]
theorem zMn:FnScope zNq ["machine", "rooms", "letter"] (zU zFv):=⟨rfl,rfl,rfl,by decide +kernel,rfl,by decide +kernel,by decide +kernel⟩
theorem zML (T:Txt K mg):Od P w base 1 T.d_stepped zBL:=by
  unfold zBL;have sc:=zMn;exact zGe (zAC (n:=3) T.d_stepped.F sc rfl (fun cdv A outer s H E hr=>by
    unfold zF3;decreasing_trivial))
abbrev zMC:List Str:=["rooms", "one", "other"]
theorem zLZ:FnScope zMC ["rooms"] (zU zEp):=⟨rfl,rfl,rfl,by decide +kernel,rfl,by decide +kernel,by decide +kernel⟩
theorem zK4 (T:Txt K mg):Od P w base 1 T.d_pairs_of zAO:=by
  unfold zAO;have sc:=zLZ;exact zAC (n:=1) T.d_pairs_of.F sc rfl (fun cdv A outer s H E hr=>by
    unfold zEm;decreasing_trivial)
abbrev zLb:List Str:=["marks", "numbers", "mark"]
theorem zJQ:FnScope zLb ["marks"] (zU zDz):=⟨rfl,rfl,rfl,by decide +kernel,rfl,by decide +kernel,by decide +kernel⟩
theorem zJb (T:Txt K mg):Od P w base 1 T.d_parted_by zB7:=by
  unfold zB7;have sc:=zJQ;exact zAC (n:=1) T.d_parted_by.F sc rfl (fun cdv A outer s H E hr=>by
    unfold zDu;decreasing_trivial)
abbrev zLT:List Str:=["_law_script", "_law_seed", "_law_cell"]
theorem zI9:FnScope zLT ["_law_script"] (zU zEJ):=⟨rfl,rfl,rfl,by decide +kernel,rfl,by decide +kernel,by decide +kernel⟩
theorem zKH (T:Txt K mg):Od P w base 1 T.d_law_begin zB8:=by
  unfold zB8;have sc:=zI9;exact zAC (n:=1) T.d_law_begin.F sc rfl (fun cdv A outer s H E hr=>by
    unfold zDw;decreasing_trivial)
abbrev zLu:List Str:=["_law_state", "_law_many", "_law_digit", "_law_mixed"]
theorem zLC:FnScope zLu ["_law_state", "_law_many"] (zU zEw):=⟨rfl,rfl,rfl,by decide +kernel,rfl,by decide +kernel,by decide +kernel⟩
theorem zKX (T:Txt K mg):Od P w base 1 T.d_law_next zd:=by
  unfold zd;have sc:=zLC;exact zAC (n:=2) T.d_law_next.F sc rfl (fun cdv A outer s H E hr=>by
    unfold zE4;decreasing_trivial)
abbrev zG8:List Str:=["_law_classes", "_law_known", "_law_own"]
theorem zGL:FnScope zG8 ["_law_classes"] (zU zCg):=⟨rfl,rfl,rfl,by decide +kernel,rfl,by decide +kernel,by decide +kernel⟩
theorem zGP (T:Txt K mg):Od P w base 1 T.d_law_numbered zAY:=by
  unfold zAY;have sc:=zGL;exact zGh (zAC (n:=1) T.d_law_numbered.F sc rfl (fun cdv A outer s H E hr=>by
    unfold zCd;decreasing_trivial))
abbrev zLn:List Str:=["_law_one", "_law_other"]
theorem zLe:FnScope zLn ["_law_one", "_law_other"] (zU zEi):=⟨rfl,rfl,rfl,by decide +kernel,rfl,by decide +kernel,by decide +kernel⟩
theorem zKq (T:Txt K mg):Od P w base 1 T.d_law_pair zBC:=by
  unfold zBC;have sc:=zLe;exact zAC (n:=2) T.d_law_pair.F sc rfl (fun cdv A outer s H E hr=>by
    unfold zEn;decreasing_trivial)
abbrev zLa:List Str:=["_law_many", "_law_found", "_law_one", "_law_other"]
theorem zJ7:FnScope zLa ["_law_many"] (zU zD4):=⟨rfl,rfl,rfl,by decide +kernel,rfl,by decide +kernel,by decide +kernel⟩
theorem zKI (T:Txt K mg):Od P w base 1 T.d_law_pairs zAw:=by
  unfold zAw;have sc:=zJ7;exact zAC (n:=1) T.d_law_pairs.F sc rfl (fun cdv A outer s H E hr=>by
    unfold zEE;decreasing_trivial)
abbrev zKY:List Str:=["machine", "sources", "pair", "letter", "goal"]
theorem zJ5:FnScope zKY ["machine"] (zU zD3):=⟨rfl,rfl,rfl,by decide +kernel,rfl,by decide +kernel,by decide +kernel⟩
theorem zJX (T:Txt K mg):Od P w base 2 T.d_ways_back zB4:=by
  unfold zB4;have sc:=zJ5;exact zAC (n:=1) T.d_ways_back.F sc rfl (fun cdv A outer s H E hr=>by
    unfold zD8;decreasing_trivial)
abbrev zHD:List Str:=["machine", "pair", "found", "goals", "letter", "goal"]
theorem zGK:FnScope zHD ["machine", "pair", "found"] (zU zCa):=⟨rfl,rfl,rfl,by decide +kernel,rfl,by decide +kernel,by decide +kernel⟩
theorem zGN (T:Txt K mg):Od P w base 2 T.d_first_letter zAN:=by
  unfold zAN;have sc:=zGK;exact zAC (n:=3) T.d_first_letter.F sc rfl (fun cdv A outer s H E hr=>by
    unfold zCV;decreasing_trivial)
abbrev zN9:List Str:=["machine", "steps", "pair", "word", "here", "letter"]
theorem zMM:FnScope zN9 ["machine", "steps", "pair"] (zU zFj):=⟨rfl,rfl,rfl,by decide +kernel,rfl,by decide +kernel,by decide +kernel⟩
theorem zMk (T:Txt K mg):Od P w base 2 T.d_climbed zBa:=by
  unfold zBa;have sc:=zMM;exact zAC (n:=3) T.d_climbed.F sc rfl (fun cdv A outer s H E hr=>by
    unfold zEX;decreasing_trivial)
abbrev zHE:List Str:=["machine", "parting", "one", "other"]
theorem zGR:FnScope zHE ["machine", "parting"] (zU zCh):=⟨rfl,rfl,rfl,by decide +kernel,rfl,by decide +kernel,by decide +kernel⟩
theorem zGU (T:Txt K mg):Od P w base 2 T.d_pairs_across zBE:=by
  unfold zBE;have sc:=zGR;exact zAC (n:=2) T.d_pairs_across.F sc rfl (fun cdv A outer s H E hr=>by
    unfold zCS;decreasing_trivial)
abbrev zJU:List Str:=["machine", "found", "rooms", "one", "room"]
theorem zIO:FnScope zJU ["machine", "found"] (zU zDR):=⟨rfl,rfl,rfl,by decide +kernel,rfl,by decide +kernel,by decide +kernel⟩
theorem zH8 (T:Txt K mg):Od P w base 2 T.d_parted_but zBf:=by
  unfold zBf;have sc:=zIO;exact zAC (n:=2) T.d_parted_but.F sc rfl (fun cdv A outer s H E hr=>by
    unfold zDb;decreasing_trivial)
abbrev zJH:List Str:=["_law_state", "_law_many", "_law_way", "_law_column_here", "_law_room", "_law_one", "_law_other", "_law_goal", "_law_made", "_law_left"]
theorem zH3:FnScope zJH ["_law_state", "_law_many", "_law_way"] (zU zDX):=⟨rfl,rfl,rfl,by decide +kernel,rfl,by decide +kernel,by decide +kernel⟩
theorem zH6 (T:Txt K mg):Od P w base 2 T.d_law_column zAg:=by
  unfold zAg;have sc:=zH3;exact zAC (n:=3) T.d_law_column.F sc rfl (fun cdv A outer s H E hr=>by
    unfold zDP;decreasing_trivial)
abbrev zJN:List Str:=["_law_machine_here", "_law_goals", "_law_ahead", "_law_pair_here", "_law_one", "_law_other", "_law_found", "_law_goal", "_law_row", "_law_at"]
theorem zH2:FnScope zJN ["_law_machine_here", "_law_goals"] (zU zDO):=⟨rfl,rfl,rfl,by decide +kernel,rfl,by decide +kernel,by decide +kernel⟩
theorem zIG (T:Txt K mg):Od P w base 2 T.d_law_behind zAx:=by
  unfold zAx;have sc:=zH2;exact zAC (n:=2) T.d_law_behind.F sc rfl (fun cdv A outer s H E hr=>by
    unfold zDL;decreasing_trivial)
abbrev zJ9:List Str:=["_law_machine_here", "_law_risky", "_law_classes", "_law_room", "_law_other"]
theorem zIJ:FnScope zJ9 ["_law_machine_here", "_law_risky"] (zU zDe):=⟨rfl,rfl,rfl,by decide +kernel,rfl,by decide +kernel,by decide +kernel⟩
theorem zIB (T:Txt K mg):Od P w base 2 T.d_law_stable zBM:=by
  unfold zBM;have sc:=zIJ;exact zGh (zAC (n:=2) T.d_law_stable.F sc rfl (fun cdv A outer s H E hr=>by
    unfold zDa;decreasing_trivial))
abbrev zJ2:List Str:=["machine", "goals", "sources", "level", "found", "goal", "behind", "pair"]
theorem zIC:FnScope zJ2 ["machine", "goals"] (zU zDd):=⟨rfl,rfl,rfl,by decide +kernel,rfl,by decide +kernel,by decide +kernel⟩
theorem zIA (T:Txt K mg):Od P w base 3 T.d_lengths_to zBJ:=by
  unfold zBJ;have sc:=zIC;exact zAC (n:=2) T.d_lengths_to.F sc rfl (fun cdv A outer s H E hr=>by
    unfold zDQ;decreasing_trivial)
abbrev zMV:List Str:=["machine", "found", "pairs", "pair"]
theorem zKb:FnScope zMV ["machine", "found"] (zU zEl):=⟨rfl,rfl,rfl,by decide +kernel,rfl,by decide +kernel,by decide +kernel⟩
theorem zKT (T:Txt K mg):Od P w base 3 T.d_rungs_to zCX:=by
  unfold zCX;have sc:=zKb;exact zAC (n:=2) T.d_rungs_to.F sc rfl (fun cdv A outer s H E hr=>by
    unfold zEu;decreasing_trivial)
abbrev zH4:List Str:=["_law_state", "_law_most", "_law_letters", "_law_many", "_law_count", "_law_sort", "_law_columns", "_law_letter", "_law_way", "_law_column_here", "_law_room"]
theorem zHF:FnScope zH4 ["_law_state", "_law_most", "_law_letters"] (zU zC1):=⟨rfl,rfl,rfl,by decide +kernel,rfl,by decide +kernel,by decide +kernel⟩
theorem zHK (T:Txt K mg):Od P w base 3 T.d_law_machine zA4:=by
  unfold zA4;have sc:=zHF;exact zGh (zAC (n:=3) T.d_law_machine.F sc rfl (fun cdv A outer s H E hr=>by
    unfold zCv;decreasing_trivial))
abbrev zMI:List Str:=["_law_machine_here", "_law_met", "_law_room", "_law_pair_here"]
theorem zKh:FnScope zMI ["_law_machine_here"] (zU zE0):=⟨rfl,rfl,rfl,by decide +kernel,rfl,by decide +kernel,by decide +kernel⟩
theorem zLA (T:Txt K mg):Od P w base 3 T.d_law_lost zB0:=by
  unfold zB0;have sc:=zKh;exact zAC (n:=1) T.d_law_lost.F sc rfl (fun cdv A outer s H E hr=>by
    unfold zEo;decreasing_trivial)
abbrev zNr:List Str:=["machine", "room"]
theorem zMO:FnScope zNr ["machine"] (zU zFi):=⟨rfl,rfl,rfl,by decide +kernel,rfl,by decide +kernel,by decide +kernel⟩
theorem zMg (T:Txt K mg):Od P w base 4 T.d_lengths zDE:=by
  unfold zDE;have sc:=zMO;exact zAC (n:=1) T.d_lengths.F sc rfl (fun cdv A outer s H E hr=>by
    unfold zFy;decreasing_trivial)
abbrev zKB:List Str:=["_law_state", "_law_most", "_law_letters", "_law_base", "_law_many", "_law_owners", "_law_room", "_law_turn", "_law_rows", "_law_own", "_law_row", "_law_goal", "_law_copies_here"]
theorem zIM:FnScope zKB ["_law_state", "_law_most", "_law_letters"] (zU zDY):=⟨rfl,rfl,rfl,by decide +kernel,rfl,by decide +kernel,by decide +kernel⟩
theorem zH9 (T:Txt K mg):Od P w base 4 T.d_law_copies zBl:=by
  unfold zBl;have sc:=zIM;exact zAC (n:=3) T.d_law_copies.F sc rfl (fun cdv A outer s H E hr=>by
    unfold zDJ;decreasing_trivial)
abbrev zRK:List Str:=["machine", "found", "pair"]
theorem zQo:FnScope zRK ["machine"] (zU zJ4):=⟨rfl,rfl,rfl,by decide +kernel,rfl,by decide +kernel,by decide +kernel⟩
theorem zQ7 (T:Txt K mg):Od P w base 5 T.d_apart zE7:=by
  unfold zE7;have sc:=zQo;exact zGe (zAC (n:=1) T.d_apart.F sc rfl (fun cdv A outer s H E hr=>by
    unfold zKJ;decreasing_trivial))
abbrev zJr:List Str:=["_law_state", "_law_most", "_law_letters", "_law_machine_here", "_law_owners", "_law_few", "_law_room"]
theorem zHy:FnScope zJr ["_law_state", "_law_most", "_law_letters"] (zU zDW):=⟨rfl,rfl,rfl,by decide +kernel,rfl,by decide +kernel,by decide +kernel⟩
theorem zIF (T:Txt K mg):Od P w base 5 T.d_law_either zBg:=by
  unfold zBg;have sc:=zHy;exact zGh (zAC (n:=3) T.d_law_either.F sc rfl (fun cdv A outer s H E hr=>by
    unfold zDc;decreasing_trivial))
abbrev zLQ:List Str:=["_law_found", "_law_due", "_law_one", "_law_other"]
theorem zFx:FnScope zLQ ["_law_found", "_law_due"] (zU zE9):=⟨rfl,rfl,rfl,by decide +kernel,rfl,by decide +kernel,by decide +kernel⟩
theorem zHi (T:Txt K mg):∀ n:Nat,FnOk P w K mg base CX0 (n+0) T.d_law_is.f T.d_law_is.fd ["_law_found", "_law_due"] (spF K 2 (zAz n))
  |0=>zRL
  |n+1=>by
    have hrec:=zHi T n;unfold zAz;rw[show n+1+0=(n+0)+1 by omega];exact zAC (n:=2) T.d_law_is.F zFx rfl (fun cdv A outer s H E hr=>by
      unfold zFG;exact (zGi (zRg (zJ6 (zI4 T.kinds (by decide) rfl T.z_isinstance rfl T.z_tuple (by rfl) (by decide) (by decide) (zB9 (pv 1)) (zN rfl) (zN rfl) (zBH rfl))) (zGi (zRg (zUc (zSt (zPN (zJ6 (zI4 T.kinds (by decide) rfl T.z_isinstance rfl T.z_tuple (by rfl) (by decide) (by decide) (zB9 (pv 0)) (zN rfl) (zN rfl) (zBH rfl)))) (zPw (zSr hr.units0 (zP7 rfl T.z_len (zGm (zB9 (pv 0)) zJi (zN rfl)) (zN rfl) rfl) (zP7 rfl T.z_len (zGm (zB9 (pv 1)) zJi (zN rfl)) (zN rfl) rfl))))) (zHo (zLd zVl)) zKK)
    (zHo (zLd (zVn rfl rfl T.z_all (zGm (zKL (zIe (i:=2) (j:=3) (by decide) (by decide)) (zFg (sc:=zU zE9) (N:=zLQ) rfl rfl rfl (by decide +kernel) (by decide +kernel)) rfl (zPG rfl T.z_zip (zFZ (zA3 (zB9 (pv 0))) (zFZ (zA3 (zB9 (pv 1))) zL6 (zN rfl)) (zN rfl)) (zG5 rfl rfl) (zDv rfl)) ⟨fun _ _ _ _ _=>(zPT rfl (zGq (zP4 (i:=2) zFx.nd rfl) (zGq (zP4 (i:=3) zFx.nd rfl) zNX))),fun _ _ _ _ _=>zQk,fun _ _ _ _ _=>(zU7 hrec (hr.mono (by omega)) rfl (zFZ (zA3 (zB9 (pv 2))) (zFZ (zA3 (zB9 (pv 3))) zL6 (zN rfl)) (zN rfl)) (zFl (zFl zLR)) (by decide) (zN rfl) (zBH rfl))⟩) zJi (zN rfl)) (zN rfl) rfl)))) zKK)
    (zGi (zRg (zJ6 (zI4 T.kinds (by decide) rfl T.z_isinstance rfl T.z_bool (by rfl) (by decide) (by decide) (zB9 (pv 1)) (zN rfl) (zN rfl) (zBH rfl))) (zHo (zLd (zMR (zI4 T.kinds (by decide) rfl T.z_isinstance rfl T.z_bool (by rfl) (by decide) (by decide) (zB9 (pv 0)) (zN rfl) (zN rfl) (zBH rfl)) (zPr (zUl hr.units0 (zB9 (pv 0)) (zB9 (pv 1))))))) zKK)
    (zHo (zLd (zMR (zI4 T.kinds (by decide) rfl T.z_isinstance rfl T.z_int (by rfl) (by decide) (by decide) (zB9 (pv 0)) (zN rfl) (zN rfl) (zBH rfl)) (zMR (zUa (zI4 T.kinds (by decide) rfl T.z_isinstance rfl T.z_bool (by rfl) (by decide) (by decide) (zB9 (pv 0)) (zN rfl) (zN rfl) (zBH rfl))) (zPr (zUl hr.units0 (zB9 (pv 0)) (zB9 (pv 1)))))))))))
theorem zOe (T:Txt K mg):Od P w base 5 T.d_law_is zHd:=zHi T 5
abbrev zGz:List Str:=["machine", "found", "parting", "steps", "pair"]
theorem zGS:FnScope zGz ["machine"] (zU zCU):=⟨rfl,rfl,rfl,by decide +kernel,rfl,by decide +kernel,by decide +kernel⟩
theorem zGM (T:Txt K mg):Od P w base 6 T.d_stable_shown zAr:=by
  unfold zAr;have sc:=zGS;exact zGe (zAC (n:=1) T.d_stable_shown.F sc rfl (fun cdv A outer s H E hr=>by
    unfold zCe;decreasing_trivial))
abbrev zQJ:List Str:=["machine"]
theorem zOE:FnScope zQJ ["machine"] (zU zHv):=⟨rfl,rfl,rfl,by decide +kernel,rfl,by decide +kernel,by decide +kernel⟩
theorem zNy (T:Txt K mg):Od P w base 7 T.d_stable zDB:=by
  unfold zDB;have sc:=zOE;exact zGe (zAC (n:=1) T.d_stable.F sc rfl (fun cdv A outer s H E hr=>by
    unfold zGo;decreasing_trivial))
abbrev zU5:List Str:=["_law_script", "_law_state", "_law_held", "_law_turn", "_law_machine_here", "_law_one", "_law_due"]
theorem zTL:FnScope zU5 ["_law_script"] (zU zQ8):=⟨rfl,rfl,rfl,by decide +kernel,rfl,by decide +kernel,by decide +kernel⟩
theorem zUU (T:Txt K mg):Od P w base 8 T.d_law zF9:=by
  unfold zF9;have sc:=zTL;exact zAC (n:=1) T.d_law.F sc rfl (fun cdv A outer s H E hr=>by
    unfold zQT;decreasing_trivial)
end
theorem zTt {l:PySem.W.OpenLaw} {w:World} {K:PySem.W.Frag} {h:Heap} {mg:Str->Option Value} {fa:Addr} (X:K.In h) (G:h.Ns mainGlobals mg) (hfa:mg "law" = some (.ref fa))
    (g1:Dg K "all_rooms" zEI) (g2:Dg K "stepped" zFv) (g3:Dg K "pairs_of" zEp) (g4:Dg K "ways_back" zD3) (g5:Dg K "lengths_to" zDd) (g6:Dg K "lengths" zFi) (g7:Dg K "first_letter" zCa) (g8:Dg K "rungs_to" zEl) (g9:Dg K "climbed" zFj) (g10:Dg K "apart" zJ4) (g11:Dg K "parted_by" zDz) (g12:Dg K "pairs_across" zCh) (g13:Dg K "parted_but" zDR) (g14:Dg K "stable_shown" zCU) (g15:Dg K "stable" zHv) (g16:Dg K "_law_begin" zEJ) (g17:Dg K "_law_next" zEw) (g18:Dg K "_law_column" zDX) (g19:Dg K "_law_machine" zC1) (g20:Dg K "_law_copies" zDY) (g21:Dg K "_law_numbered" zCg) (g22:Dg K "_law_either" zDW) (g23:Dg K "_law_pair" zEi) (g24:Dg K "_law_pairs" zD4) (g25:Dg K "_law_behind" zDO) (g26:Dg K "_law_lost" zE0) (g27:Dg K "_law_stable" zDe) (g28:Dg K "_law_is" zE9) (g29:Dg K "law" zQ8) (z1:Zn K "tuple") (z2:Zn K "range") (z3:Zn K "len") (z4:Zn K "sorted") (z5:Zn K "min") (z6:Zn K "enumerate") (z7:Zn K "list") (z8:Zn K "max") (z9:Zn K "dict") (z10:Zn K "zip") (z11:Zn K "isinstance") (z12:Zn K "bool") (z13:Zn K "all") (z14:Zn K "int") (y1:Ki K "NoneType" "int" false) (y2:Ki K "NoneType" "bool" false) (y3:Ki K "NoneType" "str" false) (y4:Ki K "NoneType" "tuple" false) (y5:Ki K "bool" "int" true) (y6:Ki K "bool" "bool" true) (y7:Ki K "bool" "str" false) (y8:Ki K "bool" "tuple" false) (y9:Ki K "int" "int" true) (y10:Ki K "int" "bool" false) (y11:Ki K "int" "str" false) (y12:Ki K "int" "tuple" false) (y13:Ki K "str" "int" false) (y14:Ki K "str" "bool" false) (y15:Ki K "str" "str" true) (y16:Ki K "str" "tuple" false) (y17:Ki K "list" "int" false) (y18:Ki K "list" "bool" false) (y19:Ki K "list" "str" false) (y20:Ki K "list" "tuple" false) (y21:Ki K "tuple" "int" false) (y22:Ki K "tuple" "bool" false) (y23:Ki K "tuple" "str" false) (y24:Ki K "tuple" "tuple" true) (y25:Ki K "dict" "int" false) (y26:Ki K "dict" "bool" false) (y27:Ki K "dict" "str" false) (y28:Ki K "dict" "tuple" false) :
    ∃ fd:FuncData,(∀ (s:Shared) (v:Value),BindsTo s fd ⟨[v],[]⟩ [("_law_script", v)]) /\ ∀ base:Heap,K.In base->base.Ns mainGlobals mg->FnOk l.prog w K mg base CX0 8 fa fd ["_law_script"] (spF K 1 zF9):=by
  have e:=hfa.symm.trans (PySem.W.mg_of X G g29.a);cases e;have kinds:Kinds K:=⟨by
    intro t T ht hT;simp only[zWg,zWz,zXp]at ht hT;rcases ht with rfl|rfl|rfl|rfl|rfl|rfl|rfl <;> rcases hT with rfl|rfl|rfl|rfl <;> assumption⟩
  let T:Txt K mg:=⟨g1.df X G fun _ _ _ _ _ _=>zFk fun _=>rfl,g2.df X G fun _ _ _ _ _ _=>zMc fun _ _ _=>rfl,g3.df X G fun _ _ _ _ _ _=>zFk fun _=>rfl,g4.df X G fun _ _ _ _ _ _=>zFk fun _=>rfl,g5.df X G fun _ _ _ _ _ _=>zJB fun _ _=>rfl,g6.df X G fun _ _ _ _ _ _=>zFk fun _=>rfl,g7.df X G fun _ _ _ _ _ _=>zMc fun _ _ _=>rfl,g8.df X G fun _ _ _ _ _ _=>zJB fun _ _=>rfl,g9.df X G fun _ _ _ _ _ _=>zMc fun _ _ _=>rfl,g10.df X G fun _ _ _ _ _ _=>zFk fun _=>rfl,g11.df X G fun _ _ _ _ _ _=>zFk fun _=>rfl,g12.df X G fun _ _ _ _ _ _=>zJB fun _ _=>rfl,g13.df X G fun _ _ _ _ _ _=>zJB fun _ _=>rfl,g14.df X G fun _ _ _ _ _ _=>zFk fun _=>rfl,g15.df X G fun _ _ _ _ _ _=>zFk fun _=>rfl,g16.df X G fun _ _ _ _ _ _=>zFk fun _=>rfl,g17.df X G fun _ _ _ _ _ _=>zJB fun _ _=>rfl,g18.df X G fun _ _ _ _ _ _=>zMc fun _ _ _=>rfl,g19.df X G fun _ _ _ _ _ _=>zMc fun _ _ _=>rfl,g20.df X G fun _ _ _ _ _ _=>zMc fun _ _ _=>rfl,g21.df X G fun _ _ _ _ _ _=>zFk fun _=>rfl,g22.df X G fun _ _ _ _ _ _=>zMc fun _ _ _=>rfl,g23.df X G fun _ _ _ _ _ _=>zJB fun _ _=>rfl,g24.df X G fun _ _ _ _ _ _=>zFk fun _=>rfl,g25.df X G fun _ _ _ _ _ _=>zJB fun _ _=>rfl,g26.df X G fun _ _ _ _ _ _=>zFk fun _=>rfl,g27.df X G fun _ _ _ _ _ _=>zJB fun _ _=>rfl,g28.df X G fun _ _ _ _ _ _=>zJB fun _ _=>rfl,g29.df X G fun _ _ _ _ _ _=>zFk fun _=>rfl,zXT X G z1,zXT X G z2,zXT X G z3,zXT X G z4,zXT X G z5,zXT X G z6,zXT X G z7,zXT X G z8,zXT X G z9,zXT X G z10,zXT X G z11,zXT X G z12,zXT X G z13,zXT X G z14,kinds⟩;refine ⟨T.d_law.fd,fun s v=> .of_eq rfl,fun base _ _=>?_⟩;exact zUU (P:=l.prog) (w:=w) (base:=base) T
theorem zWP {l:PySem.W.OpenLaw} {q:Program} {loose:List Str} {XP:(Str->Option Value)->Heap->Prop} {YP:World->Heap->Prop} {d:DefRec} {K:Params->PySem.W.Frag} (hn:l.most=some 63) (hdf:d.params.defaults=[])
    (hY:∀ (w:World) (h:Heap),YP w h->(K w.params).In h) (hL:∀ w:World,zJA (K w.params)=true)
    (F:∀ (w:World) (mg:Str->Option Value) (fa:Addr) (h:Heap),(K w.params).In h->h.Ns mainGlobals mg->mg d.name=some (.ref fa) ->
      ∃ fd:FuncData,(∀ (s:Shared) (u:Value),BindsTo s fd ⟨[u],[]⟩ [("_law_script", u)]) /\ ∀ base:Heap,(K w.params).In base->base.Ns mainGlobals mg->FnOk l.prog w (K w.params) mg base CX0 8 fa fd ["_law_script"] (spF (K w.params) 1 zF9)) :
    PySem.W.WalkO q loose XP YP l.row.toRowW d [] (fun f vs=>PySem.call f vs) :=
  L2.zRU (n:=63) (k:=8) (x := "_law_script") (CX:=fun _=>CX0) (sp:=fun w=>spF (K w.params) 1 zF9) hn (by decide) hdf ⟨rfl,by decide,by decide⟩ hY F
    (fun w H a ns hl hO hS=>zOx (hL w) hO hS (zQ6 ns hl)) fun _ _ _ _ _ z=>z
end Lad
open PySem PySem.W PyProof.Rows
set_option maxRecDepth 100000 in
set_option maxHeartbeats 0 in
theorem PySem.Challenge.cw_bringhome_k45_stable_partings_holds : PySem.Challenge.rw_bringhome_k45_stable_partings.Holds := by
  w_on;o_law;k_head;(case hw=>w_witness2);k_fill;refine Lad.zWP (l:=PySem.Challenge.rw_bringhome_k45_stable_partings) rfl rfl (fun w h Y=>PySem.W.kIn_of Y) (fun w=>by rfl) ?F
  case F=>
    intro w mg fa h KX G hmg;refine' Lad.zTt KX G hmg ?_ ?_ ?_ ?_ ?_ ?_ ?_ ?_ ?_ ?_ ?_ ?_ ?_ ?_ ?_ ?_ ?_ ?_ ?_ ?_ ?_ ?_ ?_ ?_ ?_ ?_ ?_ ?_ ?_ ?_ ?_ ?_ ?_ ?_ ?_ ?_ ?_ ?_ ?_ ?_ ?_ ?_ ?_ ?_ ?_ ?_ ?_ ?_ ?_ ?_ ?_ ?_ ?_ ?_ ?_ ?_ ?_ ?_ ?_ ?_ ?_ ?_ ?_ ?_ ?_ ?_ ?_ ?_ ?_ ?_ ?_;all_goals first|exact ⟨_,by k_is,by k_is,by k_is,by k_is⟩|(unfold L3.Zn;k_is)|(unfold L3.Ki;kit_is)|k_is
