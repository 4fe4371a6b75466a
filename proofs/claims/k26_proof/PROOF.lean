import PyProof.Rows.All
import Wide.All
import OpenK.AllK
import Wide.FinOn
import Lean
import PyProof.EqAt
import PyProof.EqKinds
import PyProof.TupleCall
import PyProof.NeKinds
import PyProof.ZipIter
import PyProof.ListRange
import PyProof.TupleOfSeq
import PyProof.ConsumeWalk
import PyProof.IsRules
import PyProof.SetKind
import PyProof.SetRoads
import PyProof.Rows.SetFrom
import PyProof.Draws
import PyProof.EnumMake
import PyProof.DictCompW
import PyProof.ListMulRoad
import PyProof.Rows.SeqMore2
import PyProof.WalkInts
import PyProof.DictRoadsH
import PyProof.DictItems
import PySem.Challenge.RW_bringhome_k26_quick_step_by_step
namespace PySem.W.Fast
def tw8649619945019091147:=0
def tw14348816752739417387:=0
def tw2501584223422866399:=0
def tw5635893175827549062:=0
def tw10076698653652198649:=0
def tw7364967235383907422:=0
def tw12186208719482338927:=0
def tw1692471860854712802:=0
def tw14312759533351303180:=0
def tw1008948451431163825:=0
def tw14739650365323379953:=0
def tw15755085813231394733:=0
def tw4983832004139769689:=0
def tw13351641779286560061:=0
def tw6768214752341227968:=0
def tw15191261112161428903:=0
def tw6451007616700411803:=0
def tw16700851768557210193:=0
def tw2953654936837527396:=0
def tw17877560457612540353:=0
def tw9163703305250133436:=0
def tw8463733063893592514:=0
def tw7001414352093894233:=0
def tw13556220209418794919:=0
def tw1142225501544228937:=0
def tw14174756063190318826:=0
def tw3098232993003299287:=0
def tw6777561046203848719:=0
def tw1168000430111070053:=0
def tw17387356485316340419:=0
def tw16429392412865071350:=0
def tw869024642957546893:=0
def tw2506537426503588514:=0
def tw5096431173863127223:=0
def tw15279180169203590156:=0
def tw4417961180188275030:=0
def tw1198399140873418312:=0
def tw12149302223127114616:=0
def tw15671595152354807291:=0
def tw10727357085487874335:=0
end PySem.W.Fast
section
open PySem PySem.Spec PyProof.Rows
theorem zWC:type_of% @wpAny_bind:=@wpAny_bind
theorem zWD:type_of% @Heap.get?_push_of_some:=@Heap.get?_push_of_some
theorem zWE:type_of% @wpAny_pure:=@wpAny_pure
theorem zWF:type_of% @List.getElem?_eq_some_iff:=@List.getElem?_eq_some_iff
theorem zWG:type_of% @List.getElem?_eq_getElem:=@List.getElem?_eq_getElem
theorem zWH:type_of% @List.getD_eq_getElem?_getD:=@List.getD_eq_getElem?_getD
theorem zWI:type_of% @Nat.le_refl:=@Nat.le_refl
theorem zWJ:type_of% @List.getElem?_append_left:=@List.getElem?_append_left
theorem zWK:type_of% @List.size_toArray:=@List.size_toArray
theorem zWL:type_of% @List.length_map:=@List.length_map
theorem zWM:type_of% @Heap.get?_push_size:=@Heap.get?_push_size
theorem zWN:type_of% @Heap.lt_size:=@Heap.lt_size
theorem zWO:type_of% @List.mem_cons:=@List.mem_cons
theorem zWP:type_of% @List.mem_cons_of_mem:=@List.mem_cons_of_mem
theorem zWQ:type_of% @List.mem_cons_self:=@List.mem_cons_self
theorem zWR:type_of% @if_pos:=@if_pos
theorem zWS:type_of% @List.length_append:=@List.length_append
theorem zWT:type_of% @List.mem_map:=@List.mem_map
theorem zWU:type_of% @if_neg:=@if_neg
theorem zWV:type_of% @List.map_cons:=@List.map_cons
theorem zWW:type_of% @List.mem_append_right:=@List.mem_append_right
theorem zWX:type_of% @Nat.ne_of_lt:=@Nat.ne_of_lt
theorem zWY:type_of% @Bool.false_ne_true:=@Bool.false_ne_true
theorem zWZ:type_of% @List.getElem?_map:=@List.getElem?_map
theorem zWa:type_of% @List.map_map:=@List.map_map
theorem zWb:type_of% @Nat.lt_of_lt_of_le:=@Nat.lt_of_lt_of_le
theorem zWc:type_of% @List.mem_append:=@List.mem_append
theorem zWd:type_of% @Nat.le_trans:=@Nat.le_trans
theorem zWe:type_of% @List.mem_singleton:=@List.mem_singleton
theorem zWf:type_of% @wpAny_newObj_type:=@wpAny_newObj_type
theorem zWg:type_of% @List.getElem?_set_ne:=@List.getElem?_set_ne
theorem zWh:type_of% @List.not_mem_nil:=@List.not_mem_nil
theorem zWi:type_of% @wpAny_mono:=@wpAny_mono
theorem zWj:type_of% @List.length_cons:=@List.length_cons
theorem zWk:type_of% @List.getElem_mem:=@List.getElem_mem
theorem zWl:type_of% @decide_eq_false:=@decide_eq_false
theorem zWm:type_of% @Bool.and_eq_true:=@Bool.and_eq_true
theorem zWn:type_of% @List.all_eq_true:=@List.all_eq_true
theorem zWo:type_of% @wpAny_callSpecial?_slot:=@wpAny_callSpecial?_slot
theorem zWp:type_of% @wpAny_call_entry:=@wpAny_call_entry
theorem zWq:type_of% @List.mem_range:=@List.mem_range
theorem zWr:type_of% @wpAny_field:=@wpAny_field
theorem zWs:type_of% @Heap.size_push:=@Heap.size_push
theorem zWt:type_of% @Heap.get?_update_other:=@Heap.get?_update_other
theorem zWu:type_of% @Nat.lt_irrefl:=@Nat.lt_irrefl
theorem zWv:type_of% @Array.length_toList:=@Array.length_toList
theorem zWw:type_of% @List.append_nil:=@List.append_nil
theorem zWx:type_of% @Array.getElem?_eq_getElem:=@Array.getElem?_eq_getElem
theorem zWy:type_of% @Nat.zero_le:=@Nat.zero_le
theorem zWz:type_of% @Heap.get?_update_self:=@Heap.get?_update_self
theorem zW1:type_of% @Nat.lt_succ_of_lt:=@Nat.lt_succ_of_lt
theorem zW4:type_of% @List.map_append:=@List.map_append
theorem zW5:type_of% @wpAny_holding:=@wpAny_holding
theorem zW6:type_of% @List.getElem?_set_self:=@List.getElem?_set_self
theorem zW7:type_of% @Around.under_plainId:=@Around.under_plainId
theorem zW8:type_of% @of_decide_eq_true:=@of_decide_eq_true
theorem zW9:type_of% @Nat.lt_succ_self:=@Nat.lt_succ_self
theorem zXA:type_of% @wpAny_standAt:=@wpAny_standAt
theorem zXB:type_of% @PySem.W.mg_none_of:=@PySem.W.mg_none_of
theorem zXC:type_of% @Option.some.inj:=@Option.some.inj
theorem zXD:type_of% @Bool.false_eq_true:=@Bool.false_eq_true
theorem zXE:type_of% @PySem.mem_of_lookup:=@PySem.mem_of_lookup
theorem zXF:type_of% @Heap.SameBut.update:=@Heap.SameBut.update
theorem zXG:type_of% @List.cons.inj:=@List.cons.inj
theorem zXH:type_of% @codeAny_builtin:=@codeAny_builtin
theorem zXI:type_of% @List.append_assoc:=@List.append_assoc
theorem zXK:type_of% @decide_eq_true:=@decide_eq_true
theorem zXL:type_of% @List.getElem?_eq_none:=@List.getElem?_eq_none
theorem zXM:type_of% @List.getElem?_append_right:=@List.getElem?_append_right
theorem zXN:type_of% @List.mem_filter:=@List.mem_filter
theorem zXO:type_of% @wpAny_truthy_bool:=@wpAny_truthy_bool
theorem zXP:type_of% @decide_eq_true_eq:=@decide_eq_true_eq
theorem zXQ:type_of% @List.nodup_append:=@List.nodup_append
theorem zXR:type_of% @List.mem_append_left:=@List.mem_append_left
theorem zXT:type_of% @Obj.data_mapFields:=@Obj.data_mapFields
theorem zXY:type_of% @Nat.lt_or_ge:=@Nat.lt_or_ge
theorem zXa:type_of% @List.length_take:=@List.length_take
theorem zXf:type_of% @PassesOwn.never:=@PassesOwn.never
theorem zXh:type_of% @Nat.ne_of_gt:=@Nat.ne_of_gt
theorem zXk:type_of% @PyProof.Rows.slot_tuple_getitem:=@PyProof.Rows.slot_tuple_getitem
theorem zXl:type_of% @List.getElem?_set:=@List.getElem?_set
theorem zXo:type_of% @Nat.mul_le_mul:=@Nat.mul_le_mul
theorem zXp:type_of% @PySem.W.kia_one:=@PySem.W.kia_one
theorem zXr:type_of% @Array.getElem?_toList:=@Array.getElem?_toList
theorem zXu:type_of% @Nat.le_succ:=@Nat.le_succ
theorem zXx:type_of% @wpAny_setField:=@wpAny_setField
theorem zXy:type_of% @List.find?_cons:=@List.find?_cons
theorem zXz:type_of% @congrArg:=@congrArg
theorem zX6:type_of% @wpAny_comprehension_free:=@wpAny_comprehension_free
theorem zX9:type_of% @List.length_range:=@List.length_range
theorem zYF:type_of% @List.getElem_of_mem:=@List.getElem_of_mem
theorem zYH:type_of% @List.lookup_cons:=@List.lookup_cons
theorem zYf:type_of% @List.length_drop:=@List.length_drop
end
set_option Elab.async false
set_option linter.all false
set_option maxRecDepth 100000
set_option genSizeOf false
set_option genInjectivity false
noncomputable section
namespace L2
open PySem PySem.Spec PyProof.Rows
abbrev Key:=Sum Int Str
def zJN:Key -> Value -> Bool
 | .inl k,v=>Value.isInt k v
 | .inr x,v=>Value.isStrOf x v
def zV4 (w:World):Key -> Int
 | .inl k=>hashInt k
 | .inr x=>hashStr w x
theorem zAz:∀ {k:Key} {v:Value},zJN k v = true -> (∃ i t,k = Sum.inl i /\ v = Value.int i t) \/ (∃ x t,k = Sum.inr x /\ v = Value.str x t)
 | .inl i,v,h=>by
  obtain ⟨t,e⟩:=Value.isInt_shape (k:=i) (v:=v) h;exact .inl ⟨i,t,rfl,e⟩
 | .inr x,v,h=>by
  obtain ⟨t,e⟩:=Value.isStrOf_shape (x:=x) (v:=v) h;exact .inr ⟨x,t,rfl,e⟩
theorem zOB (i:Int) (t:Tok):zJN (.inl i) (.int i t) = true:=by simp [zJN,Value.isInt]
theorem zPA (x:Str) (t:Tok):zJN (.inr x) (.str x t) = true:=by simp [zJN,Value.isStrOf]
theorem zUg (a b:Int):decide ((Sum.inl a:Key) = Sum.inl b) = (a == b):=by
 by_cases e:a = b
 ·subst e; simp
 ·have h:¬ (Sum.inl a:Key) = Sum.inl b:=fun q=>e (Sum.inl.inj q);rw [zWl h];exact (beq_eq_false_iff_ne.mpr e).symm
theorem zTi (a b:Str):decide ((Sum.inr a:Key) = Sum.inr b) = decide (a = b):=by
 by_cases e:a = b
 ·subst e; simp
 ·have h:¬ (Sum.inr a:Key) = Sum.inr b:=fun q=>e (Sum.inr.inj q);rw [zWl h,zWl e]
theorem zUE (a:Int) (b:Str):decide ((Sum.inl a:Key) = Sum.inr b) = false:=zWl (fun q=>nomatch q)
theorem zTr (a:Str) (b:Int):decide ((Sum.inr a:Key) = Sum.inl b) = false:=zWl (fun q=>nomatch q)
def zAh (prog:Program) (w:World):PySem.KeyKind prog w Key where
 is:=zJN
 hash:=zV4 w
 inj:=fun v a b ha hb=>by
  rcases zAz ha with ⟨i,t,rfl,rfl⟩ | ⟨x,t,rfl,rfl⟩
  ·rcases zAz hb with ⟨j,u,rfl,e⟩ | ⟨y,u,rfl,e⟩
   ·injection e with e1 _; rw [e1]
   ·exact nomatch e
  ·rcases zAz hb with ⟨j,u,rfl,e⟩ | ⟨y,u,rfl,e⟩
   ·exact nomatch e
   ·injection e with e1 _; rw [e1]
 byValue:=fun k v h=>by
  rcases zAz h with ⟨i,t,rfl,rfl⟩ | ⟨x,t,rfl,rfl⟩ <;> rfl
 pyHash:=fun hv h=>by
  rcases zAz hv with ⟨i,t,rfl,rfl⟩ | ⟨x,t,rfl,rfl⟩
  ·exact wpAny_pyHash_int h
  ·exact wpAny_pyHash_str h
 eqBool:=fun hu hv h=>by
  rcases zAz hu with ⟨i,t,rfl,rfl⟩ | ⟨x,t,rfl,rfl⟩
  ·rcases zAz hv with ⟨j,u,rfl,rfl⟩ | ⟨y,u,rfl,rfl⟩
   ·rw [zUg] at h; exact wpAny_eqBool_int h
   ·rw [zUE] at h; exact SeqAt.EqAt.int_str i t y u _ _ _ _ h
  ·rcases zAz hv with ⟨j,u,rfl,rfl⟩ | ⟨y,u,rfl,rfl⟩
   ·rw [zTr] at h; exact SeqAt.EqAt.str_int x t j u _ _ _ _ h
   ·rw [zTi] at h; exact wpAny_eqBool_str h
 «strs»:=fun k x t v h=>by
  rcases zAz h with ⟨i,u,rfl,e⟩ | ⟨y,u,rfl,e⟩
  ·exact nomatch e
  ·injection e with e1 _
   subst e1
   cases v <;> rfl
theorem zLm (prog:Program) (w:World) (i:Int) (t:Tok):(zAh prog w).is (.inl i) (.int i t) = true:=zOB i t
theorem zLV (prog:Program) (w:World) (x:Str) (t:Tok):(zAh prog w).is (.inr x) (.str x t) = true:=zPA x t
set_option genInjectivity true in
inductive V where
 | non | bl (b:Bool) | int (i:Int) | str (x:Str) | byt (b:Array UInt8) | flt (b:UInt64) | ref (a:Addr) | ty (n:String)
 deriving DecidableEq
def zw:V -> Value -> Prop
 | .non,u=>u = Value.none
 | .bl b,u=>u = Value.bool b
 | .int i,u=>∃ t,u = Value.int i t
 | .str x,u=>∃ t,u = Value.str x t
 | .byt b,u=>∃ t,u = Value.bytes b t
 | .flt b,u=>∃ t,u = Value.float b t
 | .ref a,u=>u = Value.ref a
 | .ty n,u=>u = Value.type n
abbrev zm:List V -> List Value -> Prop:=Paired zw
theorem zm.length {xs:List V} {us:List Value} (r:zm xs us):xs.length = us.length:=Paired.length r
theorem zm.get:∀ {xs:List V} {us:List Value} {i:Nat} {x:V},zm xs us -> xs[i]? = some x -> ∃ u,us[i]? = some u /\ zw x u
 | _,_,_,_,.nil,e=>by simp at e
 | _,_,0,_,.cons r _,e=>by simp at e; subst e; exact ⟨_,rfl,r⟩
 | _,_,i + 1,x,.cons _ t,e=>by
  obtain ⟨u,h1,h2⟩:=zm.get (i:=i) (x:=x) t (by simpa using e);exact ⟨u,by simpa using h1,h2⟩
theorem zm.set {x:V} {u:Value} (r:zw x u):∀ {xs:List V} {us:List Value} (i:Nat),zm xs us -> zm (xs.set i x) (us.set i u)
 | _,_,_,.nil=> .nil
 | _,_,0,.cons _ t=> .cons r t
 | _,_,i + 1,.cons q t=> .cons q (zm.set r i t)
theorem zm.append:∀ {xs ys:List V} {us ws:List Value},zm xs us -> zm ys ws -> zm (xs ++ ys) (us ++ ws)
 | _,_,_,_,.nil,s=>s
 | _,_,_,_,.cons r t,s=> .cons r (zm.append t s)
theorem zm.take:∀ {xs:List V} {us:List Value} (n:Nat),zm xs us -> zm (xs.take n) (us.take n)
 | _,_,0,_=> .nil
 | _,_,_ + 1,.nil=> .nil
 | _,_,n + 1,.cons r t=> .cons r (zm.take n t)
theorem zm.drop:∀ {xs:List V} {us:List Value} (n:Nat),zm xs us -> zm (xs.drop n) (us.drop n)
 | _,_,0,r=>r
 | _,_,_ + 1,.nil=> .nil
 | _,_,n + 1,.cons _ t=>zm.drop n t
def zGc:Option V -> Option Value -> Prop
 | some v,some u=>zw v u
 | none,none=>True
 | _,_=>False
def KV {κ:Type}:List (κ × V) -> List (κ × Value) -> Prop:=Paired fun (p:κ × V) (q:κ × Value)=>p.1 = q.1 /\ zw p.2 q.2
def kV:Key -> V
 | .inl i=> .int i
 | .inr x=> .str x
set_option genInjectivity true in
inductive HO where
 | lst (xs:List V)
 | tup (xs:List V)
 | dK (kvs:List (Key × V)) | dT (kvs:List (List Key × V))
 | set (S:Int -> Bool) (n:Nat)
 | ins (C dx:Addr) (fs:List (Str × V))
 | own (x:Addr)
 | xd (fs:List (Str × V))
 | met (f x:Addr)
 | rng (lo hi:Int)
 | frz (o:Obj) (u:HO)
 | tbl (ps:Array Value)
 | ext (φ:Heap -> Prop)
abbrev Hp:=Addr -> Option HO
def upd (H:Hp) (a:Addr) (o:HO):Hp:=fun b=>if b = a then some o else H b
theorem zAe {H:Hp} {a:Addr} {o:HO}:upd H a o a = some o:=by unfold upd; rw [zWR rfl]
theorem zh {H:Hp} {a b:Addr} {o:HO} (h:b ≠ a):upd H a o b = H b:=by unfold upd; rw [zWU h]
theorem zIW {H:Hp} {a b:Addr} {o u:HO} (h:H a = some o) (h':H b = some u) (d:o ≠ u):a ≠ b:=by
 intro e; subst e; rw [h] at h'; exact d (zXC h')
theorem zAS {H:Hp} {a b:Addr} {o:HO} (h:H a = some o) (h':H b = none):a ≠ b:=by
 intro e; subst e; rw [h] at h'; cases h'
def zDH (h:Heap) (a:Addr) (items:Array Value):Prop:=∃ o,h.get? a = some o /\ o.cls = .type "tuple" /\ (∃ n,o.data = .seq items n) /\ o.dict = none
theorem zDH.tup {h:Heap} {a:Addr} {items:Array Value} (x:zDH h a items):IsTup h a items:=let ⟨o,e,c,d,_⟩:=x; ⟨o,e,c,d⟩
theorem zDH.lt {h:Heap} {a:Addr} {items:Array Value} (x:zDH h a items):a < h.objs.size:=let ⟨_,e,_⟩:=x; zWN e
theorem zDH.new (h:Heap) (items:Array Value):zDH (h.push { cls:=.type "tuple", data:=.seq items }) h.objs.size items:=⟨_,zWM _ rfl,rfl,⟨_,rfl⟩,rfl⟩
section
variable (P:Program) (w:World)
def zAo (H:Hp) (h:Heap) (a:Addr):HO -> Prop
 | .lst xs=>xs.length <= sizeLine /\ ∃ (its:List Value) (n:Nat),zm xs its /\ h.get? a = some { cls:=.type "list", data:=.seq its.toArray n }
 | .tup xs=>xs.length <= sizeLine /\ ∃ its:List Value,zm xs its /\ zDH h a its.toArray
 | .dK kvs=>kvs.length <= sizeLine /\ (a == sysModules) = false /\ ∃ vs,KV kvs vs /\ h.DictOf (zAh P w) a vs
 | .dT kvs=>kvs.length <= sizeLine /\ (a == sysModules) = false /\ ∃ xs:List (List Key × Addr × Value),
   Paired (fun (p:List Key × V) (q:List Key × Addr × Value)=>p.1 = q.1 /\ H q.2.1 = some (.tup (p.1.map kV)) /\ zw p.2 q.2.2) kvs xs /\
   ∃ o es ep,h.get? a = some o /\ o.ExactDict /\ o.data = .dict es ep /\ es.toList = xs.map (entryOfKey (tupleKind (zAh P w))) /\ (xs.map (·.1)).Nodup
 | .set S n=>h.SetOf (intKind P w) a S n
 | .ins C dx fs=>H dx = some (.own a) /\ fs.length <= 1000 /\ dx ≠ a /\ h.get? a = some (PySem.W.instObj C dx) /\
   ∃ mA,h.Ns1 dx mA /\ (∀ f,zGc (fs.lookup f) (mA f)) /\ PySem.Within mA (fs.map (·.1))
 | .own _=>∃ o,h.get? a = some o
 | .xd fs=>∃ mA,h.Ns1 a mA /\ ∀ f,zGc (fs.lookup f) (mA f)
 | .rng lo hi=>∃ t u v,h.get? a = some { cls:=.type "range", data:=.fields #[.int lo t,.int hi u,.int 1 v] }
 | .frz o u=>h.get? a = some o /\ zAo H h a u
 | .tbl ps=>h.get? a = some { cls:=.none,data:=.fields ps }
 | .met f x=>h.get? a = some (PySem.W.methodObj (.ref f) (.ref x))
 | .ext φ=>φ h /\ (∃ o,h.get? a = some o) /\ ∀ h1 h2:Heap,φ h1 -> (∀ o,h1.get? a = some o -> h2.get? a = some o) -> φ h2
def HOk (H:Hp) (h:Heap):Prop:=∀ a o,H a = some o -> zAo P w H h a o
end
section
variable {P:Program} {w:World} {H H':Hp} {h h':Heap} {a:Addr} {o:HO}
theorem zAo.lt (x:zAo P w H h a o):a < h.objs.size:=by
 cases o with
 | lst xs=>obtain ⟨_,_,_,_,e⟩:=x; exact zWN e
 | tup xs=>obtain ⟨_,_,_,p⟩:=x; exact p.lt
 | dK kvs=>obtain ⟨_,_,_,_,o,_,_,e,_⟩:=x; exact zWN e
 | dT kvs=>obtain ⟨_,_,_,_,o,_,_,e,_⟩:=x; exact zWN e
 | set S n=>obtain ⟨o,_,_,_,e,_⟩:=x; exact zWN e
 | ins C dx fs=>obtain ⟨_,_,_,e,_⟩:=x; exact zWN e
 | own y=>obtain ⟨_,e⟩:=x; exact zWN e
 | xd fs=>obtain ⟨_,⟨_,_,_,e,_⟩,_⟩:=x; exact zWN e
 | rng lo hi=>obtain ⟨_,_,_,e⟩:=x; exact zWN e
 | frz ob u=>obtain ⟨e,_⟩:=x; exact zWN e
 | tbl ps=>exact zWN (show h.get? a = some _ from x)
 | met f y=>exact zWN (show h.get? a = some _ from x)
 | ext φ=>obtain ⟨_,⟨_,e⟩,_⟩:=x; exact zWN e
theorem Paired.mapP {α β:Type} {F G:α -> β -> Prop}:∀ {l₁:List α} {l₂:List β},Paired F l₁ l₂ -> (∀ a b,F a b -> G a b) -> Paired G l₁ l₂
 | _,_,.nil,_=> .nil
 | _,_,.cons r t,f=> .cons (f _ _ r) (Paired.mapP t f)
theorem zAo.stay (x:zAo P w H h a o) (k:∀ b u,(b = a \/ H b = some (.own a)) -> h.get? b = some u -> h'.get? b = some u)
  (ho:∀ b,H b = some (.own a) -> H' b = some (.own a)) (ht:∀ b xs,H b = some (.tup xs) -> H' b = some (.tup xs)):zAo P w H' h' a o:=by
 induction o with
 | lst xs=>obtain ⟨z,its,n,r,e⟩:=x; exact ⟨z,its,n,r,k _ _ (.inl rfl) e⟩
 | tup xs=>obtain ⟨z,its,r,ob,e,c⟩:=x; exact ⟨z,its,r,ob,k _ _ (.inl rfl) e,c⟩
 | dK kvs=>obtain ⟨z,y,vs,r,ob,es,ep,e,c⟩:=x; exact ⟨z,y,vs,r,ob,es,ep,k _ _ (.inl rfl) e,c⟩
 | dT kvs=>
  obtain ⟨z,y,xs,r,ob,es,ep,e,c⟩:=x;exact ⟨z,y,xs,Paired.mapP r fun p q z=>⟨z.1,ht _ _ z.2.1,z.2.2⟩,ob,es,ep,k _ _ (.inl rfl) e,c⟩
 | set S n=>obtain ⟨ob,es,ep,t,e,c⟩:=x; exact ⟨ob,es,ep,t,k _ _ (.inl rfl) e,c⟩
 | ins C dx fs=>
  obtain ⟨d,z,ne,e,mA,⟨od,es,ep,e2,c⟩,r⟩:=x;exact ⟨ho _ d,z,ne,k _ _ (.inl rfl) e,mA,⟨od,es,ep,k _ _ (.inr d) e2,c⟩,r⟩
 | own y=>obtain ⟨ob,e⟩:=x; exact ⟨ob,k _ _ (.inl rfl) e⟩
 | xd fs=>obtain ⟨mA,⟨od,es,ep,e,c⟩,r⟩:=x; exact ⟨mA,⟨od,es,ep,k _ _ (.inl rfl) e,c⟩,r⟩
 | rng lo hi=>obtain ⟨t,u,v,e⟩:=x; exact ⟨t,u,v,k _ _ (.inl rfl) e⟩
 | frz ob u ih=>obtain ⟨e,q⟩:=x; exact ⟨k _ _ (.inl rfl) e,ih q⟩
 | tbl ps=>
  have e:h.get? a = some { cls:=.none,data:=.fields ps }:=x;show h'.get? a = some { cls:=.none,data:=.fields ps };exact k a _ (.inl rfl) e
 | met f y=>
  have e:h.get? a = some (PySem.W.methodObj (.ref f) (.ref y)):=x;show h'.get? a = some (PySem.W.methodObj (.ref f) (.ref y));exact k a _ (.inl rfl) e
 | ext φ=>obtain ⟨p,⟨o,e⟩,st⟩:=x; exact ⟨st _ _ p fun o q=>k _ _ (.inl rfl) q,⟨o,k _ _ (.inl rfl) e⟩,st⟩
theorem HOk.lt (x:HOk P w H h) (e:H a = some o):a < h.objs.size:=(x a o e).lt
theorem HOk.fresh (x:HOk P w H h) (e:h.objs.size <= a):H a = none:=by
 cases q:H a with
 | none=>rfl
 | some u=>exact absurd (zWb (x.lt q) e) (zWu _)
theorem HOk.kept (x:HOk P w H h) (k:∀ b u,h.get? b = some u -> h'.get? b = some u):HOk P w H h':=fun a o e=>
 (x a o e).stay (fun b u _ q=>k b u q) (fun _ q=>q) fun _ _ q=>q
theorem HOk.laid (x:HOk P w H h) (k:∀ b u,h.get? b = some u -> h'.get? b = some u) (hp:h.objs.size <= a) (new:zAo P w (upd H a o) h' a o):HOk P w (upd H a o) h':=fun b u e=>by
 have hn:=x.fresh hp;by_cases hb:b = a
 ·subst hb; rw [zAe] at e; cases e; exact new
 ·rw [zh hb] at e;exact (x b u e).stay (fun c v _ q=>k c v q) (fun c q=>by rw [zh (zAS q hn)]; exact q) fun c xs q=>by rw [zh (zAS q hn)]; exact q
end
def Rd (H:Hp) (a:Addr) (u:HO):Prop:=H a = some u \/ ∃ o,H a = some (.frz o u)
theorem Rd.ok {P:Program} {w:World} {H:Hp} {h:Heap} {a:Addr} {u:HO} (r:Rd H a u) (x:HOk P w H h):zAo P w H h a u:=by
 rcases r with r | ⟨o,r⟩
 ·exact x a u r
 ·obtain ⟨_,q⟩:=x a _ r;exact q
def Mut:Option HO -> Prop
 | some (.lst _)=>True
 | some (.dK _)=>True
 | some (.dT _)=>True
 | some (.set _ _)=>True
 | some (.ins _ _ _)=>True
 | some (.ext _)=>True
 | _=>False
section
variable {P:Program} {w:World} {H:Hp} {h h':Heap} {x e:Addr} {o':HO}
theorem HOk.write (ok:HOk P w H h) (mu:Mut (H x)) (he:e = x \/ H e = some (.own x)) (k:∀ b u,b ≠ e -> h.get? b = some u -> h'.get? b = some u) (heo:∃ u,h'.get? e = some u)
  (new:zAo P w (upd H x o') h' x o'):HOk P w (upd H x o') h':=fun b u q=>by
 have nown:∀ c y,H c = some (.own y) -> c ≠ x:=fun c y r z=>by subst z; rw [r] at mu; exact mu
 have ntup:∀ c xs,H c = some (.tup xs) -> c ≠ x:=fun c xs r z=>by subst z; rw [r] at mu; exact mu
 by_cases hb:b = x
 ·subst hb; rw [zAe] at q; cases q; exact new
 ·rw [zh hb] at q;by_cases hbe:b = e
  ·have q':H b = some (.own x):=by
    rcases he with z | z
    ·exact absurd (hbe.trans z) hb
    ·rw [hbe]; exact z
   rw [q] at q'; cases q';obtain ⟨v,hv⟩:=heo;exact ⟨v,by rw [hbe]; exact hv⟩
  ·refine (ok b u q).stay (fun c v hc r=>k c v ?_ r) (fun c r=>by rw [zh (nown c b r)]; exact r) fun c xs r=>by rw [zh (ntup c xs r)]; exact r
   rcases hc with rfl | hc
   ·exact hbe
   ·rintro rfl;rcases he with z | z
    ·exact nown c b hc z
    ·rw [hc] at z; cases z; exact hb rfl
end
structure Un (fs ex:List Addr) (H H':Hp) (h h':Heap):Prop where
 keep:∀ b o,h.get? b = some o -> H b = none -> b ∉ fs -> b ∉ ex -> h'.get? b = some o
 slot:∀ b o,h.get? b = some o -> H b = none -> b ∈ fs -> b ∉ ex -> ∃ sl,h'.get? b = some { o with slots:=sl }
 free:∀ b o,h.get? b = some o -> H b = none -> b ∉ ex -> H' b = none
 there:∀ b o,h.get? b = some o -> b ∉ ex -> ∃ o',h'.get? b = some o'
 tups:∀ b xs,H b = some (.tup xs) -> H' b = some (.tup xs)
 frzs:∀ b o u,H b = some (.frz o u) -> H' b = some (.frz o u)
 tbls:∀ b ps,H b = some (.tbl ps) -> ∃ more,H' b = some (.tbl (ps ++ more))
section
variable {fs fs' ex ex':List Addr} {H H1 H2:Hp} {h h1 h2 h':Heap} {a x e:Addr} {o:HO}
theorem Un.any (u:Un fs ex H H1 h h1) {b:Addr} {ob:Obj} (q:h.get? b = some ob) (n:H b = none) (hx:b ∉ ex):∃ sl,h1.get? b = some { ob with slots:=sl }:=by
 by_cases hb:b ∈ fs
 ·exact u.slot b ob q n hb hx
 ·exact ⟨ob.slots,u.keep b ob q n hb hx⟩
theorem Un.kept (k:∀ b u,h.get? b = some u -> h'.get? b = some u):Un fs ex H H h h' :=
 ⟨fun b ob q _ _ _=>k b ob q,fun b ob q _ _ _=>⟨ob.slots,k b ob q⟩,fun _ _ _ n _=>n,fun b ob q _=>⟨ob,k b ob q⟩,fun _ _ q=>q,fun _ _ _ q=>q,fun _ ps q=>⟨#[],by rw [q]; simp⟩⟩
theorem Un.refl:Un fs ex H H h h:=Un.kept fun _ _ q=>q
theorem Un.laid (k:∀ b u,h.get? b = some u -> h'.get? b = some u) (hp:h.objs.size <= a) (hn:H a = none):Un fs ex H (upd H a o) h h' where
 keep:=fun b u q _ _ _=>k b u q;slot:=fun b u q _ _ _=>⟨u.slots,k b u q⟩;free:=fun b u q n _=>by rw [zh (zWX (zWb (zWN q) hp))]; exact n
 there:=fun b u q _=>⟨u,k b u q⟩;tups:=fun b xs q=>by rw [zh (zAS q hn)]; exact q
 frzs:=fun b u xs q=>by rw [zh (zAS q hn)]; exact q
 tbls:=fun b ps q=>⟨#[],by rw [zh (zAS q hn),q]; simp⟩
theorem Un.write (mu:Mut (H x)) (he:e = x \/ H e = some (.own x)) (k:∀ b u,b ≠ e -> h.get? b = some u -> h'.get? b = some u) (heo:∃ u,h'.get? e = some u):Un fs ex H (upd H x o) h h':=by
 have hx:∀ b,H b = none -> b ≠ x:=fun b n z=>by subst z; rw [n] at mu; exact mu
 have hb:∀ b,H b = none -> b ≠ e:=fun b n z=>by
  subst z;rcases he with r | r
  ·exact hx b n r
  ·rw [n] at r; cases r
 have hm:∀ b u,H b = some u -> ¬ Mut (some u) -> b ≠ x:=fun b u q nm z=>by subst z; rw [q] at mu; exact nm mu
 refine ⟨fun b u q n _ _=>k b u (hb b n) q,fun b u q n _ _=>⟨u.slots,k b u (hb b n) q⟩,fun b u q n _=>by rw [zh (hx b n)]; exact n,fun b u q _=>?_,
  fun b xs q=>by rw [zh (hm b _ q fun z=>z)]; exact q,fun b u xs q=>by rw [zh (hm b _ q fun z=>z)]; exact q,fun b ps q=>⟨#[],by rw [zh (hm b _ q fun z=>z),q]; simp⟩⟩
 by_cases hbe:b = e
 ·subst hbe; exact heo
 ·exact ⟨u,k b u hbe q⟩
end
def trk (h:Heap) (H:Hp):List Addr:=(List.range h.objs.size).filter fun a=>(H a).isSome
def zKS (h:Heap) (H:Hp):Heap:=PySem.W.hideAll h (trk h H)
theorem zO5 (h:Heap) (H:Hp):(zKS h H).objs.size = h.objs.size:=PySem.W.hideAll_size _ _
theorem zPU {h:Heap} {H:Hp} {b:Addr} {o:Obj} (e:h.get? b = some o) (n:H b = none):(zKS h H).get? b = some o :=
 PySem.W.hideAll_get _ e fun hm=>by
  have q:(H b).isSome = true:=(zXN.mp hm).2;rw [n] at q; simp at q
theorem zR8 {h:Heap} {H:Hp} {b:Addr} {o:Obj} (e:(zKS h H).get? b = some o):h.get? b = some o /\ H b = none:=by
 have e':h.get? b = some o:=PySem.W.of_hideAll (trk h H) e;refine ⟨e',?_⟩;cases q:H b with
 | none=>rfl
 | some x=>
  have hm:b ∈ trk h H:=zXN.mpr ⟨zWq.mpr (zWN e'),by simp [q]⟩;have z:(zKS h H).get? b = none:=PySem.W.hideAll_none (trk h H) hm;rw [z] at e; cases e
structure Mod (K:PySem.W.Frag) (mg:Str -> Option Value) (base:Heap):Prop where
 kin:K.In base
 glob:base.Ns mainGlobals mg
 blt:∃ mb,base.Ns builtinsNs mb /\ ∀ x:Str,x ≠ "__name__" -> mb x = bootBuiltins x
 nolimit:base.NoLimit
structure Cx where
 prog:Program
 w:World
 K:PySem.W.Frag
 mg:Str -> Option Value
 base:Heap
 A:Around
 N:List Str
 s₀:Shared
 H₀:Hp
 env:Env
 outer:List Env
 stack:List Env
 ex:List Addr
 fn:Str -> Bool
 calm:Bool
 pn:List (Addr × Obj)
 xe:Value -> Shared -> Prop
def frs (l:List Env):List Addr:=l.filterMap (·.frame)
abbrev Cx.fs (X:Cx):List Addr:=frs X.outer
def Vis (sc:Scope) (x:Str):Prop:=sc.names.lookup x = some .local \/ sc.names.lookup x = some .cell \/ sc.names.lookup x = some .free
def Loc (sc:Scope) (x:Str):Prop:=sc.names.lookup x = some .local \/ sc.names.lookup x = some .cell
def zVs (env:Env) (h:Heap) (m:Str -> Option Value) (x:Str) (u:Value):Prop :=
 (env.kindOf x = some .local /\ m x = some u) \/ ((env.kindOf x = some .cell \/ env.kindOf x = some .free) /\ ∃ c,env.cells.lookup x = some c /\ h.IsCell c (some u))
structure Cx.Ok (X:Cx):Prop where
 mod:Mod X.K X.mg X.base
 kind:X.env.scope.kind = .function
 glob:X.env.globals = mainGlobals
 blt:X.env.builtins = builtinsNs
 above:X.s₀.heap.objs.size <= X.env.locals
 inj:∀ x y c,X.env.cells.lookup x = some c -> X.env.cells.lookup y = some c -> x = y
 has:∀ x,(X.env.kindOf x = some .cell \/ X.env.kindOf x = some .free) -> ∃ c,X.env.cells.lookup x = some c
 cab:∀ x c,X.fn x = true -> X.env.cells.lookup x = some c -> X.s₀.heap.objs.size <= c
 hd:X.calm = true -> X.A.handled = none
 frames:X.A.frames = some X.stack
 stk:X.stack = X.outer \/ (X.stack = X.env :: X.outer /\ X.env.frame = some X.env.locals)
 exf:∀ b ∈ X.ex,b ≠ X.env.locals /\ ∀ x c,X.env.cells.lookup x = some c -> c ≠ b
 bs:∀ b o,X.base.get? b = some o -> X.s₀.heap.get? b = some o /\ X.H₀ b = none
 bsz:X.base.objs.size <= X.s₀.heap.objs.size
 noex:∀ b o,X.base.get? b = some o -> b ∉ X.ex
 exfs:∀ b ∈ X.ex,b ∉ X.fs
 funs:X.s₀.heap.FunFrames X.base X.outer
 frf:∀ b ∈ X.fs,X.H₀ b = none
structure Inv (X:Cx) (zB:List (Addr × Obj)) (σ:List (Option V)) (H:Hp) (s:Shared):Prop where
 ok:X.Ok
 os:s.os = X.s₀.os
 bare:AllBare s.gens
 base:Un X.fs X.ex X.H₀ H X.s₀.heap s.heap
 loc:∃ m,s.heap.Ns X.env.locals m /\ ∀ (i:Nat) (x:Str) (v:V),X.N[i]? = some x -> σ[i]? = some (some v) -> Vis X.env.scope x -> ∃ u,zw v u /\ zVs X.env s.heap m x u
 cell:∀ x c,X.env.cells.lookup x = some c -> ∃ v,s.heap.IsCell c v
 free:H X.env.locals = none
 freeC:∀ x c,X.env.cells.lookup x = some c -> H c = none
 pin:∀ p ∈ X.pn ++ zB,s.heap.get? p.1 = some p.2 /\ H p.1 = none /\ p.1 ≠ X.env.locals /\ p.1 ∉ X.fs /\ ∀ v,p.2.data ≠ .cell v
 hok:HOk X.prog X.w H s.heap
 len:σ.length = X.N.length
section
variable {X:Cx} {zB:List (Addr × Obj)} {σ:List (Option V)} {H H':Hp} {s:Shared} {h':Heap}
theorem Cx.Ok.nofr (ok:X.Ok) {b:Addr} {o:Obj} (e:X.base.get? b = some o):b ∉ X.fs:=fun hb=>by
 have:=(ok.funs.mem hb).1;rw [e] at this; cases this
theorem Inv.bs (I:Inv X zB σ H s):∀ b o,X.base.get? b = some o -> s.heap.get? b = some o /\ H b = none:=fun b o e=>
 ⟨I.base.keep b o (I.ok.bs b o e).1 (I.ok.bs b o e).2 (I.ok.nofr e) (I.ok.noex b o e),I.base.free b o (I.ok.bs b o e).1 (I.ok.bs b o e).2 (I.ok.noex b o e)⟩
theorem Inv.bk (I:Inv X zB σ H s):∀ b o,X.base.get? b = some o -> s.heap.get? b = some o:=fun b o e=>(I.bs b o e).1
theorem Inv.mod (I:Inv X zB σ H s):Mod X.K X.mg X.base:=I.ok.mod
theorem Inv.kIn (I:Inv X zB σ H s):X.K.In s.heap:=I.ok.mod.kin.keeps I.bk
theorem Inv.lt (I:Inv X zB σ H s):X.env.locals < s.heap.objs.size:=let ⟨_,hn,_⟩:=I.loc; hn.lt
theorem Inv.sz (I:Inv X zB σ H s):X.s₀.heap.objs.size <= s.heap.objs.size:=zWd I.ok.above (Nat.le_of_lt I.lt)
theorem Inv.nofs (I:Inv X zB σ H s) {a:Addr} (h:s.heap.objs.size <= a):a ∉ X.fs:=fun hb=>by
 obtain ⟨_,o,ho,_⟩:=I.ok.funs.mem hb;exact absurd (zWb (zWN ho) (zWd I.sz h)) (zWu _)
theorem Inv.cne (I:Inv X zB σ H s):∀ x c,X.env.cells.lookup x = some c -> c ≠ X.env.locals:=fun x c e z=>by
 obtain ⟨v,o,ho,hd⟩:=I.cell x c e;obtain ⟨m,⟨o',es,ep,ho',hd',_⟩,_⟩:=I.loc;rw [z,ho'] at ho; cases ho; rw [hd'] at hd; cases hd
theorem Inv.funs (I:Inv X zB σ H s):s.heap.FunFrames X.base X.outer:=by
 have all:∀ (l:List Env),(∀ b ∈ frs l,b ∈ X.fs) -> X.s₀.heap.FunFrames X.base l -> s.heap.FunFrames X.base l:=by
  intro l;induction l with
  | nil=>intro _ _; trivial
  | cons env r ih=>
   intro hs hl;obtain ⟨hk,⟨L,o,hf,hn,ho,hd⟩,hr⟩:=hl;have hL:L ∈ X.fs:=hs L (by unfold frs; rw [List.filterMap_cons,hf]; exact zWQ);obtain ⟨sl,e⟩:=I.base.slot L o ho (I.ok.frf L hL) hL fun z=>I.ok.exfs L z hL;exact ⟨hk,⟨L,_,hf,hn,e,hd⟩,ih (fun b hb=>hs b (by unfold frs; rw [List.filterMap_cons,hf]; exact zWP _ hb)) hr⟩
 exact all X.outer (fun _ hb=>hb) I.ok.funs
theorem Inv.stack (I:Inv X zB σ H s):s.heap.FunFrames X.base X.stack:=by
 rcases I.ok.stk with e | ⟨e,hf⟩
 ·rw [e]; exact I.funs
 ·rw [e];obtain ⟨m,hn,_⟩:=I.loc;refine .cons (by rw [I.ok.kind]; decide) hf hn ?_ I.funs;exact Heap.get?_none_of_le (zWd I.ok.bsz I.ok.above)
theorem Inv.stkSub (I:Inv X zB σ H s):∀ b ∈ frs X.stack,b ∈ X.env.locals :: X.fs:=fun b hb=>by
 rcases I.ok.stk with e | ⟨e,hf⟩
 ·rw [e] at hb; exact zWP _ hb
 ·rw [e] at hb;unfold frs at hb;rw [List.filterMap_cons,hf] at hb;exact hb
theorem Inv.stkFree (I:Inv X zB σ H s):∀ b ∈ frs X.stack,H b = none:=fun b hb=>by
 rcases zWO.mp (I.stkSub b hb) with e | hb
 ·rw [e]; exact I.free
 ·obtain ⟨_,o,ho,_⟩:=I.ok.funs.mem hb;exact I.base.free b o ho (I.ok.frf b hb) fun z=>I.ok.exfs b z hb
theorem Inv.step {g':Array GenState} {t':Nat} {d':Drawn} {ch:List Addr} (I:Inv X zB σ H s)
  (hch:∀ b ∈ ch,(b ∈ X.ex \/ X.s₀.heap.objs.size <= b) /\ b ≠ X.env.locals /\ (∀ x c,X.env.cells.lookup x = some c -> c ≠ b) /\ ∀ p ∈ X.pn ++ zB,p.1 ≠ b)
  (keep:∀ b o,b ≠ X.env.locals -> b ∉ X.fs -> b ∉ ch -> s.heap.get? b = some o -> H b = none -> h'.get? b = some o)
  (slot:∀ b o,b ≠ X.env.locals -> b ∈ X.fs -> b ∉ ch -> s.heap.get? b = some o -> H b = none -> ∃ sl,h'.get? b = some { o with slots:=sl }) (free:∀ b o,b ∉ ch -> s.heap.get? b = some o -> H b = none -> H' b = none)
  (there:∀ b o,b ∉ ch -> s.heap.get? b = some o -> ∃ o',h'.get? b = some o')
  (tups:∀ b xs,H b = some (.tup xs) -> H' b = some (.tup xs)) (frzs:∀ b o u,H b = some (.frz o u) -> H' b = some (.frz o u)) (tbls:∀ b ps,H b = some (.tbl ps) -> ∃ more,H' b = some (.tbl (ps ++ more)))
  (ns:∀ m,s.heap.Ns X.env.locals m -> h'.Ns X.env.locals m) (hok:HOk X.prog X.w H' h') (hg:AllBare g') :
  Inv X zB σ H' { s with heap:=h',gens:=g',drawn:=d',toks:=t' }:=by
 have neL:∀ b o,X.s₀.heap.get? b = some o -> b ≠ X.env.locals:=fun b o e=>zWX (zWb (zWN e) I.ok.above);have neC:∀ b o,X.s₀.heap.get? b = some o -> b ∉ X.ex -> b ∉ ch:=fun b o e hx hb=>by
  rcases (hch b hb).1 with z | z
  ·exact hx z
  ·exact absurd (zWb (zWN e) z) (zWu _)
 have cellK:∀ x c,X.env.cells.lookup x = some c -> ∀ v,s.heap.IsCell c v -> h'.IsCell c v:=fun x c e v ⟨o,ho,hd⟩=>by
  have nch:c ∉ ch:=fun z=>(hch c z).2.2.1 x c e rfl;by_cases hc:c ∈ X.fs
  ·obtain ⟨sl,q⟩:=slot c o (I.cne x c e) hc nch ho (I.freeC x c e);exact ⟨_,q,hd⟩
  ·exact ⟨o,keep c o (I.cne x c e) hc nch ho (I.freeC x c e),hd⟩
 refine ⟨I.ok,I.os,hg,⟨fun b o e n hb hx=>?_,fun b o e n hb hx=>?_,fun b o e n hx=>?_,fun b o e hx=>?_,fun b xs e=>tups b xs (I.base.tups b xs e),fun b o xs e=>frzs b o xs (I.base.frzs b o xs e),fun b ps e=>?_⟩,?_,fun x c e=>?_,?_,fun x c e=>?_,fun p hp=>?_,hok,I.len⟩
 ·exact keep b o (neL b o e) hb (neC b o e hx) (I.base.keep b o e n hb hx) (I.base.free b o e n hx)
 ·obtain ⟨sl,e1⟩:=I.base.slot b o e n hb hx;obtain ⟨sl',e2⟩:=slot b _ (neL b o e) hb (neC b o e hx) e1 (I.base.free b o e n hx);exact ⟨sl',e2⟩
 ·obtain ⟨o',e1⟩:=I.base.there b o e hx;exact free b o' (neC b o e hx) e1 (I.base.free b o e n hx)
 ·obtain ⟨o',e1⟩:=I.base.there b o e hx;exact there b o' (neC b o e hx) e1
 ·obtain ⟨m1,e1⟩:=I.base.tbls b ps e;obtain ⟨m2,e2⟩:=tbls b _ e1;exact ⟨m1 ++ m2,by rw [e2,Array.append_assoc]⟩
 ·obtain ⟨m,hn,hl⟩:=I.loc;refine ⟨m,ns m hn,fun i x v e1 e2 e3=>?_⟩;obtain ⟨u,r,l⟩:=hl i x v e1 e2 e3;refine ⟨u,r,?_⟩;rcases l with l | ⟨k,c,e,z⟩
  ·exact .inl l
  ·exact .inr ⟨k,c,e,cellK x c e _ z⟩
 ·obtain ⟨v,z⟩:=I.cell x c e;exact ⟨v,cellK x c e v z⟩
 ·obtain ⟨m,⟨o,_,_,ho,_⟩,_⟩:=I.loc;exact free _ o (fun z=>(hch _ z).2.1 rfl) ho I.free
 ·obtain ⟨v,o,ho,hd⟩:=I.cell x c e;exact free c o (fun z=>(hch c z).2.2.1 x c e rfl) ho (I.freeC x c e)
 ·obtain ⟨e,n,ne,nf,d⟩:=I.pin p hp;have nch:p.1 ∉ ch:=fun z=>(hch p.1 z).2.2.2 p hp rfl;exact ⟨keep p.1 p.2 ne nf nch e n,free p.1 p.2 nch e n,ne,nf,d⟩
theorem Inv.un {t':Nat} (I:Inv X zB σ H s) (u:Un X.fs [] H H' s.heap h') (hok:HOk X.prog X.w H' h'):Inv X zB σ H' { s with heap:=h',toks:=t' }:=by
 obtain ⟨m,⟨o,es,ep,ho,r⟩,_⟩:=id I.loc;obtain ⟨sl,hL⟩:=u.any ho I.free (by simp);exact I.step (g':=s.gens) (d':=s.drawn) (ch:=[]) (fun _ z=>nomatch z) (fun b o _ hb _ e n=>u.keep b o e n hb (by simp)) (fun b o _ hb _ e n=>u.slot b o e n hb (by simp)) (fun b o _ e n=>u.free b o e n (by simp)) (fun b o _ e=>u.there b o e (by simp)) u.tups u.frzs u.tbls (fun m' hm=>by
  obtain ⟨o',es',ep',ho',r'⟩:=hm;rw [ho] at ho'; cases ho';exact ⟨_,es',ep',hL,r'⟩) hok I.bare
theorem Inv.call {g':Array GenState} {t':Nat} {d':Drawn} {ch:List Addr} (I:Inv X zB σ H s) (u:Un (frs X.stack) ch H H' s.heap h') (hok:HOk X.prog X.w H' h') (hg:AllBare g')
  (hch:∀ b ∈ ch,(b ∈ X.ex \/ X.s₀.heap.objs.size <= b) /\ b ≠ X.env.locals /\ (∀ x c,X.env.cells.lookup x = some c -> c ≠ b) /\ ∀ p ∈ X.pn ++ zB,p.1 ≠ b) :
  Inv X zB σ H' { s with heap:=h',gens:=g',drawn:=d',toks:=t' }:=by
 obtain ⟨m,⟨o,es,ep,ho,r⟩,_⟩:=id I.loc;obtain ⟨sl,hL⟩:=u.any ho I.free fun z=>(hch _ z).2.1 rfl;exact I.step (ch:=ch) hch (fun b o hL hb hc e n=>u.keep b o e n (fun z=>(zWO.mp (I.stkSub b z)).elim hL hb) hc) (fun b o _ _ hc e n=>u.any e n hc) (fun b o hc e n=>u.free b o e n hc) (fun b o hc e=>u.there b o e hc) u.tups u.frzs u.tbls (fun m' hm=>by
  obtain ⟨o',es',ep',ho',r'⟩:=hm;rw [ho] at ho'; cases ho';exact ⟨_,es',ep',hL,r'⟩) hok hg
theorem Inv.turned {t':Nat} {it:Addr} (I:Inv X zB σ H s) (k:∀ b o,b ≠ it -> s.heap.get? b = some o -> h'.get? b = some o) (hn:H it = none) (hL:it ≠ X.env.locals)
  (h1:it ∈ X.ex \/ X.s₀.heap.objs.size <= it) (h2:∀ x c,X.env.cells.lookup x = some c -> c ≠ it) (h3:∀ p ∈ X.pn ++ zB,p.1 ≠ it):Inv X zB σ H { s with heap:=h',toks:=t' }:=by
 have nit:∀ b u,H b = some u -> b ≠ it:=fun b u e z=>by rw [z,hn] at e; cases e
 refine I.step (g':=s.gens) (d':=s.drawn) (ch:=[it]) (fun b hb=>?_) (fun b o _ _ hc e _=>k b o (fun z=>hc (by simp [z])) e) (fun b o _ _ hc e _=>⟨o.slots,k b o (fun z=>hc (by simp [z])) e⟩) (fun _ _ _ _ n=>n)
  (fun b o hc e=>⟨o,k b o (fun z=>hc (by simp [z])) e⟩) (fun _ _ e=>e) (fun _ _ _ e=>e) (fun b ps e=>⟨#[],by rw [e]; simp⟩) (fun m hm=>?_) (fun b u e=>?_) I.bare
 ·have e:b = it:=by simpa using hb
  subst e;exact ⟨h1,hL,h2,h3⟩
 ·obtain ⟨o,es,ep,ho,r⟩:=hm;exact ⟨o,es,ep,k _ o (Ne.symm hL) ho,r⟩
 ·refine (I.hok b u e).stay (fun c v hc q=>k c v ?_ q) (fun _ q=>q) fun _ _ q=>q;rcases hc with z | z
  ·rw [z]; exact nit b u e
  ·exact nit c _ z
theorem Inv.tok (I:Inv X zB σ H s) (t:Nat):Inv X zB σ H { s with toks:=t }:=I.un (h':=s.heap) (t':=t) Un.refl I.hok
theorem Inv.kept {t':Nat} (I:Inv X zB σ H s) (k:∀ b u,s.heap.get? b = some u -> h'.get? b = some u):Inv X zB σ H { s with heap:=h',toks:=t' }:=I.un (Un.kept k) (I.hok.kept k)
theorem Inv.laid {a:Addr} {o:HO} {t':Nat} (I:Inv X zB σ H s) (k:∀ b u,s.heap.get? b = some u -> h'.get? b = some u) (hp:s.heap.objs.size <= a) (new:zAo X.prog X.w (upd H a o) h' a o) :
  Inv X zB σ (upd H a o) { s with heap:=h',toks:=t' }:=I.un (Un.laid k hp (I.hok.fresh hp)) (I.hok.laid k hp new)
theorem Inv.write {x e:Addr} {o:HO} {t':Nat} (I:Inv X zB σ H s) (mu:Mut (H x)) (he:e = x \/ H e = some (.own x)) (k:∀ b u,b ≠ e -> s.heap.get? b = some u -> h'.get? b = some u) (heo:∃ u,h'.get? e = some u)
  (new:zAo X.prog X.w (upd H x o) h' x o):Inv X zB σ (upd H x o) { s with heap:=h',toks:=t' }:=I.un (Un.write mu he k heo) (I.hok.write mu he k heo new)
theorem Inv.weak {σ':List (Option V)} (I:Inv X zB σ H s) (hl:σ'.length = σ.length) (w:∀ (i:Nat) v,σ'[i]? = some (some v) -> σ[i]? = some (some v)):Inv X zB σ' H s :=
 ⟨I.ok,I.os,I.bare,I.base,let ⟨m,hn,hl'⟩:=I.loc; ⟨m,hn,fun i x v e1 e2 e3=>hl' i x v e1 (w i v e2) e3⟩,I.cell,I.free,I.freeC,I.pin,I.hok,hl.trans I.len⟩
theorem Inv.pins_of {pins':List (Addr × Obj)} (I:Inv X zB σ H s) (h:∀ p ∈ pins',s.heap.get? p.1 = some p.2 /\ H p.1 = none /\ p.1 ≠ X.env.locals /\ p.1 ∉ X.fs /\ ∀ v,p.2.data ≠ .cell v):Inv X pins' σ H s :=
 ⟨I.ok,I.os,I.bare,I.base,I.loc,I.cell,I.free,I.freeC,fun p hp=>(zWc.mp hp).elim (fun z=>I.pin p (zXR _ z)) (h p),I.hok,I.len⟩
theorem zLL {N:List Str} (hN:N.Nodup) {i j:Nat} {x:Str} (a:N[i]? = some x) (b:N[j]? = some x):i = j:=by
 obtain ⟨h1,e1⟩:=zWF.mp a;obtain ⟨h2,e2⟩:=zWF.mp b;exact (List.getElem_inj hN).mp (e1.trans e2.symm)
theorem zOt {M:Model} {A:Around} {E:Value -> Shared -> Prop} {i:Nat} {x:Str} {v:V} {u:Value} {Q:Unit -> Shared -> Prop} (I:Inv X zB σ H s) (hN:X.N.Nodup) (hi:X.N[i]? = some x) (hx:Loc X.env.scope x) (r:zw v u)
  (h:∀ s',Inv X zB (σ.set i (some v)) H s' -> (∃ a,Heap.SameBut a s.heap s'.heap /\ (a = X.env.locals \/ X.env.cells.lookup x = some a)) -> Q () s') (hf:X.fn x = true \/ X.env.scope.names.lookup x = some .local:=by first | exact .inl rfl | exact .inr rfl | assumption):wpAny M A (storeName X.env x u) Q E s:=by
 obtain ⟨m,hn,hl⟩:=id I.loc;have hcls:(X.env.scope.kind == .class || (X.env.scope.kind == .module && X.env.locals != X.env.globals)) = false:=by rw [I.ok.kind]; rfl
 have hiσ:i < σ.length:=by rw [I.len]; exact (zWF.mp hi).1
 have cne:=I.cne;have tracked:∀ {a:Addr} {h':Heap},(∃ o,s.heap.get? a = some o /\ H a = none) -> Heap.SameBut a s.heap h' -> HOk X.prog X.w H h':=fun {a h'} ha hs b ob e=>by
  obtain ⟨_,_,hfree⟩:=ha;refine (I.hok b ob e).stay (fun c w' hc q=>(hs.2 c ?_).trans q) (fun _ q=>q) fun _ _ q=>q;rintro rfl;rcases hc with rfl | hc
  ·rw [hfree] at e; cases e
  ·rw [hfree] at hc; cases hc
 rcases hx with hk | hk
 ·refine wpAny_storeName_local hk hn (fun h' hn' hs=>?_) hcls;obtain ⟨oL,_,_,hoL,_⟩:=id hn;refine h _ ⟨I.ok,I.os,I.bare,⟨fun b o e n hb hx=>?_,fun b o e n hb hx=>?_,I.base.free,fun b o e hx=>?_,I.base.tups,I.base.frzs,I.base.tbls⟩,⟨_,hn',fun j y v' e1 e2 e3=>?_⟩,fun y c e=>?_,I.free,I.freeC,fun p hp=>?_,tracked ⟨oL,hoL,I.free⟩ hs,by simpa using I.len⟩ ⟨_,hs,.inl rfl⟩
  ·exact (hs.2 b (zWX (zWb (zWN e) I.ok.above))).trans (I.base.keep b o e n hb hx)
  ·obtain ⟨sl,e1⟩:=I.base.slot b o e n hb hx;exact ⟨sl,(hs.2 b (zWX (zWb (zWN e) I.ok.above))).trans e1⟩
  ·obtain ⟨o',e1⟩:=I.base.there b o e hx;exact ⟨o',(hs.2 b (zWX (zWb (zWN e) I.ok.above))).trans e1⟩
  ·by_cases hj:j = i
   ·subst hj;rw [hi] at e1; cases e1;rw [zW6 hiσ] at e2;cases e2;exact ⟨u,r,.inl ⟨hk,by simp⟩⟩
   ·rw [zWg (Ne.symm hj)] at e2;obtain ⟨u',r',q⟩:=hl j y v' e1 e2 e3;refine ⟨u',r',?_⟩;rcases q with ⟨k,e⟩ | ⟨k,c,e,z⟩
    ·refine .inl ⟨k,?_⟩;have:y ≠ x:=fun e=>hj (zLL hN e1 (e ▸ hi));simp [this,e]
    ·exact .inr ⟨k,c,e,z.sameBut hs (cne y c e)⟩
  ·obtain ⟨w',z⟩:=I.cell y c e;exact ⟨w',z.sameBut hs (cne y c e)⟩
  ·obtain ⟨e,n,ne,nf,d⟩:=I.pin p hp;exact ⟨(hs.2 p.1 ne).trans e,n,ne,nf,d⟩
 ·have hfn:X.fn x = true:=by
   rcases hf with z | z
   ·exact z
   ·rw [z] at hk; cases hk
  obtain ⟨c,hc⟩:=I.ok.has x (.inl hk);obtain ⟨w',z⟩:=I.cell x c hc;refine wpAny_storeName_cell I.ok.kind hk hc z (fun h' hc' hs=>?_);obtain ⟨oc,hoc,hocd⟩:=id z;refine h { s with heap:=h' } ⟨I.ok,I.os,I.bare,⟨fun b o e n hb hx=>?_,fun b o e n hb hx=>?_,I.base.free,fun b o e hx=>?_,I.base.tups,I.base.frzs,I.base.tbls⟩,⟨m,hn.sameBut hs (Ne.symm (cne x c hc)),fun j y v' e1 e2 e3=>?_⟩,fun y c' e=>?_,I.free,I.freeC,fun p hp=>?_,tracked ⟨oc,hoc,I.freeC x c hc⟩ hs,by simpa using I.len⟩ ⟨c,hs,.inr hc⟩
  ·exact (hs.2 b (zWX (zWb (zWN e) (I.ok.cab x c hfn hc)))).trans (I.base.keep b o e n hb hx)
  ·obtain ⟨sl,e1⟩:=I.base.slot b o e n hb hx;exact ⟨sl,(hs.2 b (zWX (zWb (zWN e) (I.ok.cab x c hfn hc)))).trans e1⟩
  ·obtain ⟨o',e1⟩:=I.base.there b o e hx;exact ⟨o',(hs.2 b (zWX (zWb (zWN e) (I.ok.cab x c hfn hc)))).trans e1⟩
  ·by_cases hj:j = i
   ·subst hj;rw [hi] at e1; cases e1;rw [zW6 hiσ] at e2;cases e2;exact ⟨u,r,.inr ⟨.inl hk,c,hc,hc'⟩⟩
   ·rw [zWg (Ne.symm hj)] at e2;obtain ⟨u',r',q⟩:=hl j y v' e1 e2 e3;refine ⟨u',r',?_⟩;rcases q with q | ⟨k,c',e,z'⟩
    ·exact .inl q
    ·refine .inr ⟨k,c',e,z'.sameBut hs ?_⟩;rintro rfl;exact hj (zLL hN e1 (I.ok.inj _ _ _ e hc ▸ hi))
  ·by_cases hcc:c' = c
   ·subst hcc; exact ⟨_,hc'⟩
   ·obtain ⟨w2,z2⟩:=I.cell y c' e;exact ⟨w2,z2.sameBut hs hcc⟩
  ·obtain ⟨e,n,ne,nf,d⟩:=I.pin p hp;refine ⟨(hs.2 p.1 ?_).trans e,n,ne,nf,d⟩;intro q;rw [q,hoc] at e;have q':oc = p.2:=zXC e;exact d w' (by rw [<- q']; exact hocd)
theorem zLt {M:Model} {A:Around} {E:Value -> Shared -> Prop} {i:Nat} {x:Str} {v:V} {u:Value} {Q:Unit -> Shared -> Prop} (I:Inv X zB σ H s) (hN:X.N.Nodup) (hi:X.N[i]? = some x) (hx:Loc X.env.scope x) (r:zw v u)
  (h:∀ s',Inv X zB (σ.set i (some v)) H s' -> Q () s') (hf:X.fn x = true \/ X.env.scope.names.lookup x = some .local:=by first | exact .inl rfl | exact .inr rfl | assumption):wpAny M A (storeName X.env x u) Q E s :=
 zOt I hN hi hx r (fun s' I' _=>h s' I') hf
theorem Inv.call' {s':Shared} {ch:List Addr} (I:Inv X zB σ H s) (ho:s'.os = s.os) (u:Un (frs X.stack) ch H H' s.heap s'.heap) (hok:HOk X.prog X.w H' s'.heap) (hg:AllBare s'.gens)
  (hch:∀ b ∈ ch,(b ∈ X.ex \/ X.s₀.heap.objs.size <= b) /\ b ≠ X.env.locals /\ (∀ x c,X.env.cells.lookup x = some c -> c ≠ b) /\ ∀ p ∈ X.pn ++ zB,p.1 ≠ b):Inv X zB σ H' s':=by
 obtain ⟨h',g',d',t',o'⟩:=s';have e:o' = s.os:=ho;subst e;exact I.call (g':=g') (t':=t') (d':=d') u hok hg hch
end
abbrev XK:=Value -> Option Addr -> Hp -> Prop
abbrev St:=List (Option V)
abbrev VK:=V -> Hp -> Prop
abbrev TE:=St -> Hp -> VK -> Prop
abbrev TT:=St -> Hp -> (Bool -> Hp -> Prop) -> Prop
abbrev TA:=St -> Hp -> (List V -> Hp -> Prop) -> Prop
structure Ends where
 nx:St -> Hp -> Prop
 rt:VK
 bk:St -> Hp -> Prop:=fun _ _=>False
 ct:St -> Hp -> Prop:=fun _ _=>False
abbrev TS:=Ends -> St -> Hp -> Prop
def EP (X:Cx) (zB:List (Addr × Obj)) (σ:St) (Q:VK) (u:Value) (s':Shared):Prop:=∃ v H',Inv X zB σ H' s' /\ zw v u /\ Q v H'
def TP (X:Cx) (zB:List (Addr × Obj)) (σ:St) (Q:Bool -> Hp -> Prop) (b:Bool) (s':Shared):Prop:=∃ H',Inv X zB σ H' s' /\ Q b H'
def AP (X:Cx) (zB:List (Addr × Obj)) (σ:St) (Q:List V -> Hp -> Prop) (us:List Value) (s':Shared):Prop:=∃ vs H',Inv X zB σ H' s' /\ zm vs us /\ Q vs H'
def SP (X:Cx) (zB:List (Addr × Obj)) (D:Ends) (f:Flow) (s':Shared):Prop :=
 match f with
 | .next=>∃ σ' H',Inv X zB σ' H' s' /\ D.nx σ' H'
 | .brk=>∃ σ' H',Inv X zB σ' H' s' /\ D.bk σ' H'
 | .cont=>∃ σ' H',Inv X zB σ' H' s' /\ D.ct σ' H'
 | .ret u=>∃ v σ' H',Inv X zB σ' H' s' /\ zw v u /\ D.rt v H'
def PE (X:Cx) (e:Expr) (t:TE):Prop :=
 ∀ (zB:List (Addr × Obj)) (s:Shared) (σ:St) (H:Hp) (Q:VK),Inv X zB σ H s -> t σ H Q -> wpAny (model X.prog X.w) X.A (eval e X.env) (EP X zB σ Q) X.xe s
def PT (X:Cx) (e:Expr) (t:TT):Prop :=
 ∀ (zB:List (Addr × Obj)) (s:Shared) (σ:St) (H:Hp) (Q:Bool -> Hp -> Prop),Inv X zB σ H s -> t σ H Q -> wpAny (model X.prog X.w) X.A (isTrue e X.env (eval e X.env)) (TP X zB σ Q) X.xe s
def PW (X:Cx) (e:Expr) (t:TT):Prop :=
 ∀ (whole:Sem Value) (zB:List (Addr × Obj)) (s:Shared) (σ:St) (H:Hp) (Q:Bool -> Hp -> Prop),Inv X zB σ H s -> t σ H Q -> wpAny (model X.prog X.w) X.A (isTrue e X.env whole) (TP X zB σ Q) X.xe s
theorem PW.pt {X:Cx} {e:Expr} {t:TT} (h:PW X e t):PT X e t:=h _
def PA (X:Cx) (es:List Expr) (t:TA):Prop :=
 ∀ (pos:Pos) (zB:List (Addr × Obj)) (s:Shared) (σ:St) (H:Hp) (Q:List V -> Hp -> Prop),Inv X zB σ H s -> t σ H Q -> wpAny (model X.prog X.w) X.A (spliced (backTo pos (starEach es X.env))) (AP X zB σ Q) X.xe s
def PS (X:Cx) (st:Stmt) (t:TS):Prop :=
 ∀ (zB:List (Addr × Obj)) (s:Shared) (σ:St) (H:Hp) (D:Ends),Inv X zB σ H s -> t D σ H -> wpAny (model X.prog X.w) X.A (exec st X.env) (SP X zB D) X.xe s
def PSs (X:Cx) (st:List Stmt) (t:TS):Prop :=
 ∀ (zB:List (Addr × Obj)) (s:Shared) (σ:St) (H:Hp) (D:Ends),Inv X zB σ H s -> t D σ H -> wpAny (model X.prog X.w) X.A (execs st X.env) (SP X zB D) X.xe s
theorem thn {α:Type} {t:Sem α} {Q Q':α -> Shared -> Prop} {M:Model} {A:Around} {E:Value -> Shared -> Prop} {s:Shared} (h:wpAny M A t Q E s) (hQ:∀ a s,Q a s -> Q' a s):wpAny M A t Q' E s:=zWi h hQ fun _ _ x=>x
section
variable {X:Cx}
def zTy (i:Nat):TE:=fun σ H Q=>∃ v,σ[i]? = some (some v) /\ Q v H
def tC (v:V):TE:=fun _ H Q=>Q v H
theorem zUU {i:Nat} {x:Str} {pos:Pos} (hN:X.N[i]? = some x) (hv:Vis X.env.scope x) (hd:(x == ("__debug__" : Str)) = false:=by decide) (hcd:(x == ("__classdict__" : Str)) = false:=by decide):PE X (.Name x pos) (zTy i):=by
 intro zB s σ H Q I h;obtain ⟨v,e,h⟩:=h;obtain ⟨m,hn,hl⟩:=I.loc;obtain ⟨u,r,l⟩:=hl i x v hN e hv;have fin:EP X zB σ Q u s:=⟨v,H,I,r,h⟩;rcases l with ⟨hk,hm⟩ | ⟨hk,c,hc,hcell⟩
 ·exact wpAny_Name (wpAny_loadName_local I.ok.kind hk hn hm fin) hd
 ·rcases hk with hk | hk
  ·exact wpAny_Name (wpAny_loadName_cell I.ok.kind hk hc hcell fin) hd
  ·exact wpAny_Name (wpAny_loadName_free I.ok.kind hk hc hcell fin hcd) hd
theorem zUl {i j pos}:PE X (.Constant (.int i) j pos) (tC (.int i)):=fun _ _ _ H _ I h=>wpAny_Constant_int ⟨.int i,H,I.tok _,⟨_,rfl⟩,h⟩
theorem zVA {b j pos}:PE X (.Constant (.bool b) j pos) (tC (.bl b)):=fun _ _ _ H _ I h=>Constant_bool ⟨.bl b,H,I,rfl,h⟩
theorem zUa {j pos}:PE X (.Constant .none j pos) (tC .non):=fun _ _ _ H _ I h=>Constant_none ⟨.non,H,I,rfl,h⟩
def Gl (X:Cx) (x:Str):Prop:=X.env.kindOf x = some .globalImplicit
theorem zSH {E:Value -> Shared -> Prop} {zB:List (Addr × Obj)} {s:Shared} {σ:St} {H:Hp} {x:Str} {u:Value} {pos:Pos} {Q:Value -> Shared -> Prop} (I:Inv X zB σ H s) (hg:Gl X x) (hm:X.mg x = some u) (h:Q u s)
  (hd:(x == ("__debug__" : Str)) = false:=by decide):wpAny (model X.prog X.w) X.A (eval (.Name x pos) X.env) Q E s :=
 Calls.Name_function_global I.ok.kind hg (Calls.loadGlobal_global (by rw [I.ok.glob]; exact I.mod.glob.keeps I.bk) hm h) hd
theorem zFp {E:Value -> Shared -> Prop} {zB:List (Addr × Obj)} {s:Shared} {σ:St} {H:Hp} {x:Str} {u:Value} {pos:Pos} {Q:Value -> Shared -> Prop} (I:Inv X zB σ H s) (hg:Gl X x) (hm:X.mg x = none) (hv:bootBuiltins x = some u) (h:Q u s)
  (hn:x ≠ "__name__" := by decide) (hd:(x == ("__debug__" : Str)) = false:=by decide):wpAny (model X.prog X.w) X.A (eval (.Name x pos) X.env) Q E s:=by
 obtain ⟨mb,h1,h2⟩:=I.mod.blt;exact Calls.Name_function_global I.ok.kind hg (Calls.loadGlobal_builtin (by rw [I.ok.glob]; exact I.mod.glob.keeps I.bk) hm (by rw [I.ok.blt]; exact h1.keeps I.bk) ((h2 x hn).trans hv) h) hd
theorem zSf {x:Str} {v:V} {u:Value} {pos:Pos} (hg:Gl X x) (hm:X.mg x = none) (hv:bootBuiltins x = some u) (r:zw v u) (hn:x ≠ "__name__" := by decide) (hd:(x == ("__debug__" : Str)) = false:=by decide):PE X (.Name x pos) (tC v) :=
 fun _ _ _ H _ I h=>zFp I hg hm hv ⟨v,H,I,r,h⟩ hn hd
variable {a b:Expr} {ta tb:TE} {pos:Pos}
def PC (X:Cx) (op:CmpOp) (a b:Expr) (t:TE):Prop :=
 ∀ (zB:List (Addr × Obj)) (s:Shared) (σ:St) (H:Hp) (Q:VK),Inv X zB σ H s -> t σ H Q ->
  wpAny (model X.prog X.w) X.A (eval a X.env) (fun v s₁=>wpAny (model X.prog X.w) X.A (eval b X.env) (fun u s₂=>wpAny (model X.prog X.w) X.A (compareOp op v u) (EP X zB σ Q) X.xe s₂) X.xe s₁) X.xe s
def tB (t:TE):TT:=fun σ H Q=>t σ H fun x H1=>∃ c,x = .bl c /\ Q c H1
theorem zRN {op:CmpOp} {t:TE} (h:PC X op a b t) (h1:behindInMarks op b = false:=by first | exact nobehind _ (by decide) (by decide) | rfl):PT X (.Compare a [op] [b] pos) (tB t):=by
 intro zB s σ H Q I hw;refine wpAny_isTrue_Compare1 (thn (h zB s σ H _ I hw) fun v s1 h1=>thn h1 fun u s2 h2=>thn h2 fun c s3 ⟨x,H1,I1,r1,q1⟩=>?_) h1;obtain ⟨d,rfl,q⟩:=q1;cases r1;exact zXO ⟨H1,I1,q⟩
theorem zUf {e:Expr} {t:TE} (h:PE X e t) (he:∀ whole,isTrue e X.env whole = (do let v <- whole; standAt e.pos; holding [v] (truthy v)):=by intro _; rfl):PT X e (tB t):=by
 intro zB s σ H Q I hw;refine isTrue_plain (thn (h zB s σ H _ I hw) fun v s1 ⟨x,H1,I1,r1,q1⟩=>?_) (he _);obtain ⟨d,rfl,q⟩:=q1;cases r1;exact zXO ⟨H1,I1,q⟩
variable {tA tB':TT} {rest:List Expr}
def zVu (t u:TT):TT:=fun σ H Q=>t σ H fun c H1=>if c = true then u σ H1 Q else Q false H1
def tOr (t u:TT):TT:=fun σ H Q=>t σ H fun c H1=>if c = true then Q true H1 else u σ H1 Q
def zV8 (t:TT):TT:=fun σ H Q=>t σ H fun c H1=>Q (!c) H1
theorem zRk (ha:PT X a tA):PW X (.BoolOp .And [a] pos) tA:=by
 intro wh zB s σ H Q I h;refine isTrue_and (thn (ha zB s σ H Q I h) fun c s1 e=>?_);cases c with
 | true=>exact isTrue_and_nil e
 | false=>exact e
theorem zTu (ha:PT X a tA):PW X (.BoolOp .Or [a] pos) tA:=by
 intro wh zB s σ H Q I h;refine isTrue_or (thn (ha zB s σ H Q I h) fun c s1 e=>?_);cases c with
 | false=>exact isTrue_or_nil e
 | true=>exact e
theorem zTz (ha:PT X a tA) (hb:PW X (.BoolOp .And (b :: rest) pos) tB'):PW X (.BoolOp .And (a :: b :: rest) pos) (zVu tA tB'):=by
 intro wh zB s σ H Q I h;refine isTrue_and (thn (ha zB s σ H _ I h) fun c s1 ⟨H1,I1,q1⟩=>?_);cases c with
 | true=>exact hb wh zB s1 σ H1 Q I1 q1
 | false=>exact ⟨H1,I1,q1⟩
theorem zU7 (ha:PT X a tA) (hb:PW X (.BoolOp .Or (b :: rest) pos) tB'):PW X (.BoolOp .Or (a :: b :: rest) pos) (tOr tA tB'):=by
 intro wh zB s σ H Q I h;refine isTrue_or (thn (ha zB s σ H _ I h) fun c s1 ⟨H1,I1,q1⟩=>?_);cases c with
 | true=>exact ⟨H1,I1,q1⟩
 | false=>exact hb wh zB s1 σ H1 Q I1 q1
theorem zUb (ha:PT X a tA):PT X (.UnaryOp .Not a pos) (zV8 tA):=by
 intro zB s σ H Q I h;exact isTrue_not (ha zB s σ H (fun c H1=>Q (!c) H1) I h)
def zVJ (ta tb:TE):TE:=fun σ H Q=>ta σ H fun x H1=>∃ c,x = .bl c /\ if c = true then tb σ H1 Q else Q (.bl false) H1
def zUp (ta:TE):TE:=fun σ H Q=>ta σ H fun x H1=>∃ c,x = .bl c /\ Q (.bl (!c)) H1
theorem zUB {op} {t:TE} (h:PE X a t):PE X (.BoolOp op [a] pos) t:=fun zB s σ H Q I hw=>BoolOp_one (h zB s σ H Q I hw)
theorem zUH (ha:PE X a ta) (hb:PE X (.BoolOp .And (b :: rest) pos) tb):PE X (.BoolOp .And (a :: b :: rest) pos) (zVJ ta tb):=by
 intro zB s σ H Q I h;refine BoolOp_and (thn (ha zB s σ H _ I h) fun v s1 ⟨x,H1,I1,r1,q1⟩=>?_);obtain ⟨c,rfl,q1⟩:=q1;cases r1;refine zXO ?_;cases c with
 | true=>exact hb zB s1 σ H1 Q I1 q1
 | false=>exact ⟨.bl false,H1,I1,rfl,q1⟩
theorem zUR (ha:PE X a ta):PE X (.UnaryOp .Not a pos) (zUp ta):=by
 intro zB s σ H Q I h;refine UnaryOp_ (thn (ha zB s σ H _ I h) fun v s1 ⟨x,H1,I1,r1,q1⟩=>?_);obtain ⟨c,rfl,q1⟩:=q1;cases r1;exact not_of (zXO ⟨.bl (!c),H1,I1,rfl,q1⟩)
def tIf (t:TT) (ta tb:TE):TE:=fun σ H Q=>t σ H fun c H1=>if c = true then ta σ H1 Q else tb σ H1 Q
theorem zRT {c:Expr} (hc:PT X c tA) (ha:PE X a ta) (hb:PE X b tb):PE X (.IfExp c a b pos) (tIf tA ta tb):=by
 intro zB s σ H Q I h;refine wpAny_IfExp (thn (hc zB s σ H _ I h) fun d s1 ⟨H1,I1,q1⟩=>?_);cases d with
 | true=>exact ha zB s1 σ H1 Q I1 q1
 | false=>exact hb zB s1 σ H1 Q I1 q1
end
def SqL (K:PySem.W.Frag) (H:Hp) (a:Addr) (xs:List V):Prop :=
 Rd H a (.lst xs) \/
  ∃ (o:Obj) (its:Array Value) (n:Nat),K.lookup a = some o /\ o.cls = .type "list" /\ o.dict = none /\ o.data = .seq its n /\ its.size <= sizeLine /\ zm xs its.toList
def SqT (K:PySem.W.Frag) (H:Hp) (a:Addr) (xs:List V):Prop :=
 Rd H a (.tup xs) \/
  ∃ (o:Obj) (its:Array Value) (n:Nat),K.lookup a = some o /\ o.cls = .type "tuple" /\ o.data = .seq its n /\ its.size <= sizeLine /\ zm xs its.toList
def zVo:Value -> Option V
 | .none=>some .non
 | .bool b=>some (.bl b)
 | .int i _=>some (.int i)
 | .str x _=>some (.str x)
 | .bytes b _=>some (.byt b)
 | .float b _=>some (.flt b)
 | .ref a=>some (.ref a)
 | .type n=>some (.ty n)
 | _=>none
theorem zw.abs {x:V} {u:Value} (r:zw x u):zVo u = some x:=by
 cases x with
 | non=>cases r; rfl
 | bl _=>cases r; rfl
 | int _=>obtain ⟨t,rfl⟩:=r; rfl
 | str _=>obtain ⟨t,rfl⟩:=r; rfl
 | byt _=>obtain ⟨t,rfl⟩:=r; rfl
 | flt _=>obtain ⟨t,rfl⟩:=r; rfl
 | ref _=>cases r; rfl
 | ty _=>cases r; rfl
theorem zw.inj {x y:V} {u:Value} (r:zw x u) (q:zw y u):x = y:=zXC (r.abs.symm.trans q.abs)
theorem zm.inj:∀ {xs ys:List V} {us:List Value},zm xs us -> zm ys us -> xs = ys
 | _,_,_,.nil,.nil=>rfl
 | _,_,_,.cons r t,.cons r' t'=>by rw [r.inj r',zm.inj t t']
section
variable {X:Cx} {zB:List (Addr × Obj)} {σ:St} {H:Hp} {s:Shared} {a:Addr} {xs ys:List V}
theorem SqL.of {K:PySem.W.Frag} (h:H a = some (.lst xs)):SqL K H a xs:=.inl (.inl h)
theorem SqT.of {K:PySem.W.Frag} (h:H a = some (.tup xs)):SqT K H a xs:=.inl (.inl h)
theorem Inv.list (I:Inv X zB σ H s) (h:SqL X.K H a xs):∃ its:List Value,zm xs its /\ PlainL s.heap a its.toArray /\ xs.length <= sizeLine:=by
 rcases h with h | ⟨o,its,n,hk,hc,hd,hs,hz,r⟩
 ·obtain ⟨z,its,n,r,e⟩:=h.ok I.hok;exact ⟨its,r,⟨_,n,e,rfl,rfl,rfl⟩,z⟩
 ·refine ⟨its.toList,r,⟨o,n,I.kIn a o hk,hc,hd,by simpa using hs⟩,?_⟩;have e:=r.length;simp only [zWv] at e;omega
theorem Inv.tuple (I:Inv X zB σ H s) (h:SqT X.K H a xs):∃ its:List Value,zm xs its /\ IsTup s.heap a its.toArray /\ xs.length <= sizeLine:=by
 rcases h with h | ⟨o,its,n,hk,hc,hs,hz,r⟩
 ·obtain ⟨z,its,r,p⟩:=h.ok I.hok;exact ⟨its,r,p.tup,z⟩
 ·refine ⟨its.toList,r,⟨o,I.kIn a o hk,hc,n,by simpa using hs⟩,?_⟩;have e:=r.length;simp only [zWv] at e;omega
theorem Inv.list_inj (I:Inv X zB σ H s) (h:SqL X.K H a xs) (h':SqL X.K H a ys):xs = ys:=by
 obtain ⟨its,r,⟨o,n,e,_,_,d⟩,_⟩:=I.list h;obtain ⟨its',r',⟨o',n',e',_,_,d'⟩,_⟩:=I.list h';rw [e] at e'; cases e';rw [d] at d';injection d' with d1 _
 have:its = its':=by simpa using zXz Array.toList d1
 subst this;exact r.inj r'
theorem Inv.tuple_inj (I:Inv X zB σ H s) (h:SqT X.K H a xs) (h':SqT X.K H a ys):xs = ys:=by
 obtain ⟨its,r,⟨o,e,_,n,d⟩,_⟩:=I.tuple h;obtain ⟨its',r',⟨o',e',_,n',d'⟩,_⟩:=I.tuple h';rw [e] at e'; cases e';rw [d] at d';injection d' with d1 _
 have:its = its':=by simpa using zXz Array.toList d1
 subst this;exact r.inj r'
end
abbrev Cx.wish (X:Cx) (E:Value -> Shared -> Prop):Cx:={ X with xe:=E }
abbrev Cx.nox (X:Cx):Cx:=X.wish fun _ _=>False
theorem Cx.Ok.wish {X:Cx} (ok:X.Ok) (E:Value -> Shared -> Prop):(X.wish E).Ok :=
 ⟨ok.mod,ok.kind,ok.glob,ok.blt,ok.above,ok.inj,ok.has,ok.cab,ok.hd,ok.frames,ok.stk,ok.exf,ok.bs,ok.bsz,ok.noex,ok.exfs,ok.funs,ok.frf⟩
theorem Cx.Ok.unwish {X:Cx} {E:Value -> Shared -> Prop} (ok:(X.wish E).Ok):X.Ok :=
 ⟨ok.mod,ok.kind,ok.glob,ok.blt,ok.above,ok.inj,ok.has,ok.cab,ok.hd,ok.frames,ok.stk,ok.exf,ok.bs,ok.bsz,ok.noex,ok.exfs,ok.funs,ok.frf⟩
section
variable {X:Cx} {zB:List (Addr × Obj)} {σ:St} {H:Hp} {s:Shared} {E:Value -> Shared -> Prop}
theorem Inv.wish (I:Inv X zB σ H s) (E:Value -> Shared -> Prop):Inv (X.wish E) zB σ H s:=⟨I.ok.wish E,I.os,I.bare,I.base,I.loc,I.cell,I.free,I.freeC,I.pin,I.hok,I.len⟩
theorem Inv.unwish (I:Inv (X.wish E) zB σ H s):Inv X zB σ H s:=⟨I.ok.unwish,I.os,I.bare,I.base,I.loc,I.cell,I.free,I.freeC,I.pin,I.hok,I.len⟩
theorem SP.unwish {D:Ends} {f:Flow} {s':Shared} (h:SP (X.wish E) zB D f s'):SP X zB D f s':=by
 cases f with
 | next=>obtain ⟨σ',H',I,q⟩:=h; exact ⟨σ',H',I.unwish,q⟩
 | brk=>obtain ⟨σ',H',I,q⟩:=h; exact ⟨σ',H',I.unwish,q⟩
 | cont=>obtain ⟨σ',H',I,q⟩:=h; exact ⟨σ',H',I.unwish,q⟩
 | ret u=>obtain ⟨v,σ',H',I,r,q⟩:=h; exact ⟨v,σ',H',I.unwish,r,q⟩
theorem PSs.nox {st:List Stmt} {t:TS} (h:PSs X.nox st t):PSs X st t:=fun zB s σ H D I hw=>
 zWi (h zB s σ H D (I.wish _) hw) (fun _ _ q=>q.unwish) fun _ _ z=>False.elim z
end
section
variable {X:Cx} {st:Stmt} {rest:List Stmt} {t u:TS} {e:Expr} {te:TE} {pos:Pos}
def zVK:TS:=fun D σ H=>D.nx σ H
def zVy (t u:TS):TS:=fun D σ H=>t { D with nx:=u D } σ H
theorem zS3:PSs X [] zVK:=fun _ _ σ H _ I h=>wpAny_execs_nil ⟨σ,H,I,h⟩
theorem zQe (h1:PS X st t) (h2:PSs X rest u):PSs X (st :: rest) (zVy t u):=by
 intro zB s σ H D I h;refine wpAny_execs_cons (thn (h1 zB s σ H { D with nx:=u D } I h) fun f s1 q=>?_);cases f with
 | next=>
  obtain ⟨σ',H',I',q⟩:=q;exact h2 zB s1 σ' H' D I' q
 | ret v=>exact q
 | brk=>exact q
 | cont=>exact q
theorem zR5 (h1:PS X st t):PSs X [st] t:=by
 intro zB s σ H D I h;refine wpAny_execs_cons (thn (h1 zB s σ H D I h) fun f s1 q=>?_);cases f with
 | next=>exact wpAny_execs_nil q
 | ret v=>exact q
 | brk=>exact q
 | cont=>exact q
theorem Inv.quiet {zB:List (Addr × Obj)} {σ:St} {H:Hp} {s:Shared} (I:Inv X zB σ H s):interactive X.env = false:=by simp [interactive,I.ok.kind]
def zVP (te:TE):TS:=fun D σ H=>te σ H fun _ H1=>D.nx σ H1
theorem zRy (he:PE X e te) (hs:swapsWith e none pos.line X.env = pure false:=by rfl):PS X (.Expr e pos) (zVP te):=by
 intro zB s σ H D I h;exact wpAny_Expr_any (thn (he zB s σ H _ I h) fun v s1 ⟨x,H1,I1,r1,q1⟩=>⟨σ,H1,I1,q1⟩) I.quiet hs
def zV0 (te:TE):TS:=fun D σ H=>te σ H D.rt
theorem zUP (he:PE X e te):PS X (.Return (some e) pos) (zV0 te):=by
 intro zB s σ H D I h;exact wpAny_Return_some (thn (he zB s σ H _ I h) fun v s1 ⟨x,H1,I1,r1,q1⟩=>⟨x,σ,H1,I1,r1,q1⟩)
def zV9 (c:TT) (t u:TS):TS:=fun D σ H=>c σ H fun b H1=>if b = true then t D σ H1 else u D σ H1
theorem zVL {c:Expr} {a b:List Stmt} {tc:TT} (hc:PT X c tc) (ha:PSs X a t) (hb:PSs X b u):PS X (.If c a b pos) (zV9 tc t u):=by
 intro zB s σ H D I h;refine wpAny_If (thn (hc zB s σ H _ I h) fun d s1 ⟨H1,I1,q1⟩=>?_);cases d with
 | true=>exact ha zB s1 σ H1 D I1 q1
 | false=>exact hb zB s1 σ H1 D I1 q1
end
abbrev TG:=V -> St -> Hp -> (St -> Hp -> Prop) -> Prop
abbrev TGs:=List V -> St -> Hp -> (St -> Hp -> Prop) -> Prop
def PG (X:Cx) (target:Expr) (t:TG):Prop :=
 ∀ (zB:List (Addr × Obj)) (s:Shared) (σ:St) (H:Hp) (v:V) (u:Value) (Q:St -> Hp -> Prop),Inv X zB σ H s -> zw v u -> t v σ H Q ->
  wpAny (model X.prog X.w) X.A (assign target X.env u) (fun _ s'=>∃ σ' H',Inv X zB σ' H' s' /\ Q σ' H') X.xe s
def PGs (X:Cx) (ts:List Expr) (t:TGs):Prop :=
 ∀ (zB:List (Addr × Obj)) (s:Shared) (σ:St) (H:Hp) (vs:List V) (us:List Value) (Q:St -> Hp -> Prop),Inv X zB σ H s -> zm vs us -> t vs σ H Q ->
  wpAny (model X.prog X.w) X.A (assignInOrder ((assignEach ts X.env).map (·.2)) us) (fun _ s'=>∃ σ' H',Inv X zB σ' H' s' /\ Q σ' H') X.xe s
abbrev zTk:=V -> V -> V -> Hp -> (Hp -> Prop) -> Prop
def zVD (X:Cx) (t:zTk):Prop :=
 ∀ (zB:List (Addr × Obj)) (s:Shared) (σ:St) (H:Hp) (o i v:V) (ov iv u:Value) (Q:Hp -> Prop),Inv X zB σ H s -> zw o ov -> zw i iv -> zw v u -> t o i v H Q ->
  wpAny (model X.prog X.w) X.A (setItem ov iv u) (fun _ s'=>∃ H',Inv X zB σ H' s' /\ Q H') X.xe s
section
variable {X:Cx} {pos:Pos}
def zCI (i:Nat):TG:=fun v σ H Q=>Q (σ.set i (some v)) H
theorem zJr {i:Nat} {x:Str} (hN:X.N.Nodup) (hi:X.N[i]? = some x) (hx:Loc X.env.scope x) (hf:X.fn x = true \/ X.env.scope.names.lookup x = some .local:=by first | exact .inl rfl | exact .inr rfl | assumption):PG X (.Name x pos) (zCI i):=by
 intro zB s σ H v u Q I r h;exact wpAny_assign_Name (zLt I hN hi hx r (fun s' I'=>⟨_,H,I',h⟩) hf)
def zPd:TGs:=fun vs σ H Q=>vs = [] /\ Q σ H
def zFc (t:TG) (u:TGs):TGs:=fun vs σ H Q=>∃ v r,vs = v :: r /\ t v σ H fun σ' H'=>u r σ' H' Q
theorem zFM:PGs X [] zPd:=by
 intro zB s σ H vs us Q I r h;obtain ⟨e,h⟩:=h;subst e;cases r;exact assignInOrder_nil ⟨σ,H,I,h⟩
theorem zA9 {e:Expr} {es:List Expr} {t:TG} {u:TGs} (h1:PG X e t) (h2:PGs X es u)
  (hs:(assignEach (e :: es) X.env).map (·.2) = assign e X.env :: (assignEach es X.env).map (·.2):=by rfl):PGs X (e :: es) (zFc t u):=by
 intro zB s σ H vs us Q I r h;obtain ⟨v,vr,e1,h⟩:=h;subst e1;cases r with
 | cons r rr=>
  rw [hs];refine assignInOrder_cons (thn (h1 zB s σ H _ _ _ I r h) fun _ s1 ⟨σ1,H1,I1,q1⟩=>?_);exact h2 zB s1 σ1 H1 _ _ Q I1 rr q1
def zRS (K:PySem.W.Frag) (n:Nat) (t:TGs):TG:=fun v σ H Q=>∃ a xs,v = .ref a /\ SqT K H a xs /\ xs.length = n /\ t xs σ H Q
theorem zGY {es:List Expr} {k:Nat} {t:TGs} {n:Nat} (hc:X.calm = true) (h:PGs X es t)
  (hn:(assignEach es X.env).length = n:=by rfl) (hst:(assignEach es X.env).findIdx? (·.1) = none:=by rfl):PG X (.Tuple es k pos) (zRS X.K n t):=by
 intro zB s σ H v u Q I r hw;obtain ⟨a,xs,e1,hq,hl,hw⟩:=hw;subst e1;cases r;obtain ⟨its,rv,ht,hz⟩:=I.tuple hq;refine assign_Tuple_tuple (I.ok.hd hc) ht (by simp [hn,<- hl,rv.length]) hst fun h' hx=>?_;have I1:Inv X zB σ H { s with heap:=h' }:=I.kept (t':=s.toks) fun b o e=>hx b o (zWX (zWN e)) e;exact h zB _ σ H xs _ Q I1 (by simpa using rv) hw
def zVt (to ti:TE) (t:zTk):TG:=fun v σ H Q=>to σ H fun o H1=>ti σ H1 fun i H2=>t o i v H2 fun H3=>Q σ H3
theorem zUD {o i:Expr} {to ti:TE} {t:zTk} (ho:PE X o to) (hi:PE X i ti) (hs:zVD X t)
  (ha:∀ v,assign (.Subscript o i pos) X.env v = (do
   let ov <- holding [v] (eval o X.env);let iv <- holding [v,ov] (eval i X.env);standAt pos;holding [v,ov,iv] (setItem ov iv v);release [v,ov,iv] []):=by intro _; rfl):PG X (.Subscript o i pos) (zVt to ti t):=by
 intro zB s σ H v u Q I r h;rw [ha];refine zWC (zW5 (thn (ho zB s σ H _ I h) fun ov s1 ⟨x,H1,I1,r1,q1⟩=>?_));refine zWC (zW5 (thn (hi zB s1 σ H1 _ I1 q1) fun iv s2 ⟨y,H2,I2,r2,q2⟩=>?_));refine zWC (zXA (zWC (zW5 (thn (hs zB s2 σ H2 x y v ov iv u _ I2 r1 r2 r q2) fun _ s3 ⟨H3,I3,q3⟩=>?_))));exact wpAny_release ⟨σ,H3,I3,q3⟩
def zPt (te:TE) (g:TG):TS:=fun D σ H=>te σ H fun x H1=>g x σ H1 D.nx
theorem zPl {tg e:Expr} {te:TE} {g:TG} (he:PE X e te) (hg:PG X tg g) (hs:swapsWithSole [tg] e pos.line X.env = pure false:=by rfl) (hw:swappedStores [tg] e X.env = pure none:=by rfl)
  (h1:(assignEach [tg] X.env).map (·.2) = [assign tg X.env]:=by rfl):PS X (.Assign [tg] e pos) (zPt te g):=by
 intro zB s σ H D I h;refine wpAny_Assign_stores (thn (he zB s σ H _ I h) fun v s1 ⟨x,H1,I1,r1,q1⟩=>?_) hs hw;rw [h1];exact thn (hg zB s1 σ H1 x v _ I1 r1 q1) fun _ s2 q=>q
theorem zUM {i:Nat} {x:Str} {e:Expr} {te:TE} {pos':Pos} (hN:X.N.Nodup) (hi:X.N[i]? = some x) (hx:Loc X.env.scope x) (he:PE X e te) (hs:swapsWith e (some (.Name x pos')) pos.line X.env = pure false:=by rfl) (hf:X.fn x = true \/ X.env.scope.names.lookup x = some .local:=by first | exact .inl rfl | exact .inr rfl | assumption) :
  PS X (.Assign [.Name x pos'] e pos) (zPt te (zCI i)):=by
 intro zB s σ H D I h;refine wpAny_Assign_Name (thn (he zB s σ H _ I h) fun v s1 ⟨y,H1,I1,r1,q1⟩=>?_) hs;exact zLt I1 hN hi hx r1 (fun s2 I2=>⟨_,H1,I2,q1⟩) hf
def zRV (c:TT) (tb:TS):TS:=fun D σ H=>∃ W:Nat -> St -> Hp -> Prop,(∃ m,W m σ H) /\ ∀ m σ H,W m σ H ->
 c σ H fun b H1=>if b = true then ∃ N:St -> Hp -> Prop,(∀ σ' H',N σ' H' -> ∃ m',m' < m /\ W m' σ' H') /\ tb { D with nx:=N,ct:=N,bk:=D.nx } σ H1 else D.nx σ H1
theorem zQi {c:Expr} {body:List Stmt} {tc:TT} {tb:TS} (hp:PassesOwn (model X.prog X.w) X.A X.env X.xe) (hc:PT X c tc) (hb:PSs X body tb):PS X (.While c body [] pos) (zRV tc tb):=by
 intro zB s σ H D I h;obtain ⟨W,⟨m0,w0⟩,turn⟩:=h;refine wpAny_While (codeAny_whileLoop (fun n s'=>∃ σ' H',Inv X zB σ' H' s' /\ W n σ' H') ?_ m0 ⟨σ,H,I,w0⟩);rintro n s1 ⟨σ1,H1,I1,w1⟩;refine wpAny_passesOwn hp (thn (hc zB s1 σ1 H1 _ I1 (turn n σ1 H1 w1)) fun b s2 ⟨H2,I2,q2⟩=>?_);cases b with
 | true=>
  obtain ⟨N,hN,q2⟩:=q2;rw [zWR rfl];refine wpAny_passesOwn hp (thn (hb zB s2 σ1 H2 _ I2 q2) fun f s3 q3=>?_);cases f with
  | next=>
   obtain ⟨σ3,H3,I3,n3⟩:=q3;obtain ⟨m',hm,w3⟩:=hN σ3 H3 n3;exact ⟨m',hm,σ3,H3,I3,w3⟩
  | cont=>
   obtain ⟨σ3,H3,I3,n3⟩:=q3;obtain ⟨m',hm,w3⟩:=hN σ3 H3 n3;exact ⟨m',hm,σ3,H3,I3,w3⟩
  | brk=>exact q3
  | ret v=>exact q3
 | false=>
  rw [zWU zWY];exact wpAny_execs_nil ⟨σ1,H2,I2,q2⟩
end
structure It where
 go:Nat -> Hp -> Prop
 yld:Nat -> Hp -> V -> Hp -> Prop
 stop:Nat -> Hp -> Prop
def zDB (X:Cx) (zB:List (Addr × Obj)) (H:Hp) (b:Addr):Prop :=
 H b = none /\ b ≠ X.env.locals /\ b ∉ X.fs /\ (b ∈ X.ex \/ X.s₀.heap.objs.size <= b) /\ (∀ x c,X.env.cells.lookup x = some c -> c ≠ b) /\ ∀ p ∈ X.pn ++ zB,p.1 ≠ b
theorem Inv.fpOk {X:Cx} {zB:List (Addr × Obj)} {σ:St} {H H':Hp} {s:Shared} {b:Addr} (I:Inv X zB σ H s) (hb:s.heap.objs.size <= b) (hn:H' b = none):zDB X zB H' b:=by
 refine ⟨hn,zXh (zWb I.lt hb),I.nofs hb,.inr (zWd I.sz hb),fun x c e z=>?_,fun p hp z=>?_⟩
 ·obtain ⟨v,q⟩:=I.cell x c e;exact absurd (zWb q.lt (by rw [z]; exact hb)) (zWu _)
 ·exact absurd (zWb (zWN (I.pin p hp).1) (by rw [z]; exact hb)) (zWu _)
structure Turn (P:Program) (w:World) (K:PySem.W.Frag) (tg:Expr) (J:It) (fp:List Addr) (it:Addr) (tn:Nat -> Heap -> Prop):Prop where
 mem:it ∈ fp
 obj:∀ i h,tn i h -> ∀ b ∈ fp,∃ o,h.get? b = some o /\ ∀ v,o.data ≠ .cell v
 keep:∀ i h h',tn i h -> (∀ b ∈ fp,∀ o,h.get? b = some o -> h'.get? b = some o) -> tn i h'
 item:∀ (X:Cx),X.prog = P -> X.w = w -> X.K = K -> X.calm = true -> ∀ (i:Nat) (zB:List (Addr × Obj)) (s:Shared) (σ:St) (H:Hp) (E:Value -> Shared -> Prop),Inv X zB σ H s -> (∀ b ∈ fp,zDB X zB H b) -> tn i s.heap -> J.go i H ->
  wpAny (model P w) X.A (pyNext (.ref it)) (fun r s1=>∃ u,r = some u /\
   wpAny (model P w) X.A (letOwnedTupleGo tg (.ref it) u) (fun _ s2=>∃ x H',Inv X zB σ H' s2 /\ zw x u /\ J.yld i H x H' /\ tn (i + 1) s2.heap /\ ∀ b ∈ fp,H' b = none) E s1) E s
 done:∀ (X:Cx),X.prog = P -> X.w = w -> X.K = K -> X.calm = true -> ∀ (i:Nat) (zB:List (Addr × Obj)) (s:Shared) (σ:St) (H:Hp) (E:Value -> Shared -> Prop),Inv X zB σ H s -> (∀ b ∈ fp,zDB X zB H b) -> tn i s.heap -> J.stop i H ->
  wpAny (model P w) X.A (pyNext (.ref it)) (fun r s1=>r = none /\ Inv X zB σ H s1) E s
 self:∀ (A:Around) (i:Nat) (s:Shared) (Q:Value -> Shared -> Prop) (E:Value -> Shared -> Prop),tn i s.heap -> Q (.ref it) s -> wpAny (model P w) A (pyIter (.ref it)) Q E s
abbrev TI:=St -> Hp -> (It -> Hp -> Prop) -> Prop
def PIE (X:Cx) (zB:List (Addr × Obj)) (σ:St) (tg:Expr) (R:It -> Hp -> Prop) (itv:Value) (s2:Shared):Prop :=
 ∃ (it:Addr) (fp:List Addr) (tn:Nat -> Heap -> Prop) (J:It) (H':Hp),itv = .ref it /\ Inv X zB σ H' s2 /\ Turn X.prog X.w X.K tg J fp it tn /\ tn 0 s2.heap /\ (∀ b ∈ fp,zDB X zB H' b) /\ R J H'
def PI (X:Cx) (tg iter:Expr) (wi:TI):Prop :=
  ∀ (zB:List (Addr × Obj)) (s:Shared) (σ:St) (H:Hp) (R:It -> Hp -> Prop),Inv X zB σ H s -> wi σ H R ->
    wpAny (model X.prog X.w) X.A (eval iter X.env) (fun v s1=>wpAny (model X.prog X.w) X.A (pyIter v) (PIE X zB σ tg R) X.xe s1) X.xe s
theorem zP0 {M:Model} {A:Around} {E:Value -> Shared -> Prop} {s:Shared} {tg:Expr} {it:Addr} {u:Value} {o:Obj} {n:String} {vs:Array Value} {Q:Unit -> Shared -> Prop} (ho:s.heap.get? it = some o) (hc:o.cls = .type n) (hd:o.data = .fields vs)
    (hn:["enumerate", "zip", "dict_itemiterator", "dict_reverseitemiterator", "odict_iterator", "itertools.zip_longest", "itertools.pairwise"].contains n = false) (hQ:Q () s):wpAny M A (letOwnedTupleGo tg (.ref it) u) Q E s:=by
  unfold letOwnedTupleGo
  cases tg <;> first
    | exact zWE hQ
    | (cases u <;> first
        | exact zWE hQ
        | (refine zWC (wpAny_load ho ?_)
           rw [hc,hd];show wpAny M A (if (["enumerate", "zip", "dict_itemiterator", "dict_reverseitemiterator", "odict_iterator", "itertools.zip_longest", "itertools.pairwise"].contains n && vs[0]? == some (rawInt _)) = true then _ else _) Q E s;rw [zWU (by intro h; rw [hn,Bool.false_and] at h; cases h)];exact zWE hQ))
def Itl (K:PySem.W.Frag) (a:Addr):It :=
 ⟨fun i H=>∃ xs x,SqL K H a xs /\ xs[i]? = some x,fun i H x H'=>H' = H /\ ∀ xs,SqL K H a xs -> xs[i]? = some x,fun i H=>∃ xs,SqL K H a xs /\ xs.length <= i⟩
def Itt (K:PySem.W.Frag) (a:Addr):It :=
 ⟨fun i H=>∃ xs x,SqT K H a xs /\ xs[i]? = some x,fun i H x H'=>H' = H /\ ∀ xs,SqT K H a xs -> xs[i]? = some x,fun i H=>∃ xs,SqT K H a xs /\ xs.length <= i⟩
def Itr (lo:Int) (n:Nat):It:=⟨fun i _=>i < n,fun i H x H'=>H' = H /\ x = .int (lo + i),fun i _=>n <= i⟩
theorem zPE {P:Program} {w:World} {K:PySem.W.Frag} {tg:Expr} (a it:Addr):Turn P w K tg (Itl K a) [it] it (fun i h=>h.IsListIter it a i) where
 mem:=by simp
 obj:=fun i h st b hb=>by
  have e:b = it:=by simpa using hb
  subst e;obtain ⟨o,e,c,d⟩:=st;exact ⟨o,e,fun v z=>by rw [d] at z; cases z⟩
 keep:=fun i h h' st k=>st.at fun o e=>k it (by simp) o e;item:=by
  intro X hP hw hK hc i zB s σ H E I hf st hg;subst hP hw hK;obtain ⟨xs,x,hq,hx⟩:=hg;obtain ⟨its,rv,p,hz⟩:=I.list hq;obtain ⟨u,hu,ru⟩:=rv.get hx;obtain ⟨f0,f1,f2,f3,f4,f5⟩:=hf it (by simp);refine wpAny_pyNext_list_item st p.isList (x:=u) (by simpa using hu) fun h' st' sb=>?_;have I1:Inv X zB σ H { s with heap:=h' }:=I.turned (t':=s.toks) (fun b o hb e=>(sb.2 b hb).trans e) f0 f1 f3 f4 f5;obtain ⟨o,e,c,d⟩:=id st';exact ⟨u,rfl,zP0 (s:={ s with heap:=h' }) e c d (by decide) ⟨x,H,I1,ru,⟨rfl,fun ys hy=>by rw [I.list_inj hy hq]; exact hx⟩,st',fun b hb=>(hf b hb).1⟩⟩
 done:=by
  intro X hP hw hK hc i zB s σ H E I hf st hg;subst hP hw hK;obtain ⟨xs,hq,hx⟩:=hg;obtain ⟨its,rv,p,hz⟩:=I.list hq;obtain ⟨f0,f1,f2,f3,f4,f5⟩:=hf it (by simp);have hl:=rv.length;exact wpAny_pyNext_list_end (I.ok.hd hc) st p.isList (by simp; omega) fun h' eb=>⟨rfl,I.turned (t':=s.toks) (fun b o hb e=>eb b o hb e) f0 f1 f3 f4 f5⟩
 self:=fun _ _ _ _ _ st h=>wpAny_pyIter_listiter st h
theorem zMQ {P:Program} {w:World} {K:PySem.W.Frag} {tg:Expr} (a it:Addr):Turn P w K tg (Itt K a) [it] it (fun i h=>h.IsTupleIter it a i) where
 mem:=by simp
 obj:=fun i h st b hb=>by
  have e:b = it:=by simpa using hb
  subst e;obtain ⟨o,e,c,d⟩:=st;exact ⟨o,e,fun v z=>by rw [d] at z; cases z⟩
 keep:=fun i h h' st k=>st.at fun o e=>k it (by simp) o e;item:=by
  intro X hP hw hK hc i zB s σ H E I hf st hg;subst hP hw hK;obtain ⟨xs,x,hq,hx⟩:=hg;obtain ⟨its,rv,p,hz⟩:=I.tuple hq;obtain ⟨u,hu,ru⟩:=rv.get hx;obtain ⟨f0,f1,f2,f3,f4,f5⟩:=hf it (by simp);refine wpAny_pyNext_tuple_item st (show s.heap.IsTuple a its.toArray from p) (x:=u) (by simpa using hu) fun h' st' sb=>?_;have I1:Inv X zB σ H { s with heap:=h' }:=I.turned (t':=s.toks) (fun b o hb e=>(sb.2 b hb).trans e) f0 f1 f3 f4 f5;obtain ⟨o,e,c,d⟩:=id st';exact ⟨u,rfl,zP0 (s:={ s with heap:=h' }) e c d (by decide) ⟨x,H,I1,ru,⟨rfl,fun ys hy=>by rw [I.tuple_inj hy hq]; exact hx⟩,st',fun b hb=>(hf b hb).1⟩⟩
 done:=by
  intro X hP hw hK hc i zB s σ H E I hf st hg;subst hP hw hK;obtain ⟨xs,hq,hx⟩:=hg;obtain ⟨its,rv,p,hz⟩:=I.tuple hq;obtain ⟨f0,f1,f2,f3,f4,f5⟩:=hf it (by simp);have hl:=rv.length;exact wpAny_pyNext_tuple_end (I.ok.hd hc) st (show s.heap.IsTuple a its.toArray from p) (by simp; omega) fun h' eb=>⟨rfl,I.turned (t':=s.toks) (fun b o hb e=>eb b o hb e) f0 f1 f3 f4 f5⟩
 self:=fun _ _ _ _ _ st h=>wpAny_pyIter_tupleiter st h
theorem zNG {P:Program} {w:World} {K:PySem.W.Frag} {tg:Expr} (it:Addr) (lo:Int) (n:Nat):Turn P w K tg (Itr lo n) [it] it (fun i h=>IsRangeIter h it (lo + (i:Nat) * 1) ((n:Int) - (i:Nat)) 1) where
 mem:=by simp
 obj:=fun i h st b hb=>by
  have e:b = it:=by simpa using hb
  subst e;exact ⟨_,st,fun v z=>by
   have z':Data.fields _ = Data.cell v:=z;cases z'⟩
 keep:=fun i h h' st k=>k it (by simp) _ st;item:=by
  intro X hP hw hK hc i zB s σ H E I hf st hg;subst hP hw hK;obtain ⟨f0,f1,f2,f3,f4,f5⟩:=hf it (by simp);have W:=Walks.range (prog:=X.prog) (w:=X.w) (I.ok.hd hc) it lo 1 n;refine W.item i s _ _ hg st fun v h' tk hv st' kk=>?_;obtain ⟨t,rfl⟩:=hv;have I1:Inv X zB σ H { s with heap:=h',toks:=tk }:=I.turned (fun b o hb e=>kk b o (by simpa using hb) e) f0 f1 f3 f4 f5;refine ⟨_,rfl,zP0 (s:={ s with heap:=h',toks:=tk }) (n := "range_iterator") st' rfl rfl (by decide) ⟨.int (lo + i),H,I1,⟨t,?_⟩,⟨rfl,rfl⟩,st',fun b hb=>(hf b hb).1⟩⟩;rw [Int.mul_one]
 done:=by
  intro X hP hw hK hc i zB s σ H E I hf st hg;subst hP hw hK;obtain ⟨f0,f1,f2,f3,f4,f5⟩:=hf it (by simp);exact wpAny_pyNext_range_end (I.ok.hd hc) st (by have:n <= i:=hg; omega) fun h' eb=>⟨rfl,I.turned (t':=s.toks) (fun b o hb e=>eb b o hb e) f0 f1 f3 f4 f5⟩
 self:=fun _ _ _ _ _ st h=>wpAny_pyIter_rangeiter st h
section
variable {X:Cx} {tg:Expr}
theorem zQZ {zB:List (Addr × Obj)} {σ:St} {H:Hp} {s:Shared} {R:It -> Hp -> Prop} {E:Value -> Shared -> Prop} {lo hi:Int} {t u v:Tok} {tk:Nat} (I:Inv X zB σ H s) (h1 : -(2 ^ 62) <= lo) (h2:lo < 2 ^ 62) (h3 : -(2 ^ 62) <= hi) (h4:hi < 2 ^ 62)
  (q:R (Itr lo (hi - lo).toNat) H):wpAny (model X.prog X.w) X.A (pyIter (.ref s.heap.objs.size)) (PIE X zB σ tg R) E { s with heap:=s.heap.push { cls:=.type "range", data:=.fields #[.int lo t,.int hi u,.int 1 v] },toks:=tk }:=by
 refine wpAny_pyIter_range (IsRange.new ..) (small_one h1 h2 h3 h4) ?_;have I1:Inv X zB σ H { s with heap:=s.heap.push { cls:=.type "range", data:=.fields #[.int lo t,.int hi u,.int 1 v] },toks:=tk }:=I.kept fun b o e=>zWD _ e
 refine ⟨(s.heap.push { cls:=.type "range", data:=.fields #[.int lo t,.int hi u,.int 1 v] }).objs.size,[(s.heap.push { cls:=.type "range", data:=.fields #[.int lo t,.int hi u,.int 1 v] }).objs.size],_,_,H,rfl,
  I1.kept (t':=tk) fun b o e=>zWD _ e,zNG _ lo (hi - lo).toNat,?_,fun b hb=>?_,q⟩
 ·have e1:lo + ((0:Nat):Int) * 1 = lo:=by simp
  have e2:(((hi - lo).toNat:Nat):Int) - ((0:Nat):Int) = Builtin.Range.rangeSize lo hi 1:=by rw [rangeSize_one]; split <;> omega
  show IsRangeIter _ _ (lo + ((0:Nat):Int) * 1) ((((hi - lo).toNat:Nat):Int) - ((0:Nat):Int)) 1;rw [e1,e2];exact zWM _ rfl
 ·have e:b = (s.heap.push { cls:=.type "range", data:=.fields #[.int lo t,.int hi u,.int 1 v] }).objs.size:=by simpa using hb
  subst e;exact I1.fpOk (zWI _) (I1.hok.fresh (zWI _))
def zVh (ta:TA):TI:=fun σ H R=>ta σ H fun vs H1=>∃ j:Int,vs = [.int j] /\ -(2 ^ 62) <= j /\ j < 2 ^ 62 /\ R (Itr 0 j.toNat) H1
theorem zPD {a:Expr} {ta:TA} {p pos:Pos} (hg:Gl X "range") (hm:X.mg "range" = none) (ha:PA X [a] ta) (hs:starEach [a] X.env = [(false,eval a X.env)]:=by rfl):PI X tg (.Call (.Name "range" p) [a] [] pos) (zVh ta):=by
 intro zB s σ H R I h;refine Call_ (zFp I hg hm boot_range (PyProof.Rows.callWith_type1 (thn (ha pos zB s σ H _ I h) fun us s1 ⟨vs,H1,I1,r1,q1⟩=>?_) hs rfl));obtain ⟨j,e,q1,q2,q⟩:=q1;subst e;cases r1 with
 | cons r rr=>
  cases rr;obtain ⟨t,rfl⟩:=r;exact call_range_1 (zQZ I1 (by omega) (by omega) q1 q2 (by simpa using q))
def zVR (wi:TI) (g:TG) (tb:TS):TS:=fun D σ H=>wi σ H fun J H1=>∃ W:Nat -> Nat -> St -> Hp -> Prop,(∃ m,W 0 m σ H1) /\ ∀ i m σ H,W i m σ H ->
 (J.stop i H /\ D.nx σ H) \/ (J.go i H /\ ∃ N:St -> Hp -> Prop,(∀ σ' H',N σ' H' -> ∃ m',m' < m /\ W (i + 1) m' σ' H') /\ ∀ x H',J.yld i H x H' -> g x σ H' fun σ2 H2=>tb { D with nx:=N,ct:=N,bk:=D.nx } σ2 H2)
def zDm (fp:List Addr) (h:Heap):List (Addr × Obj):=fp.filterMap fun b=>(h.get? b).map fun o=>(b,o)
theorem zAb {fp:List Addr} {h:Heap} {b:Addr} {o:Obj} (hb:b ∈ fp) (e:h.get? b = some o):(b,o) ∈ zDm fp h:=List.mem_filterMap.mpr ⟨b,hb,by rw [e]; rfl⟩
theorem zJT {fp:List Addr} {h:Heap} {p:Addr × Obj} (hp:p ∈ zDm fp h):p.1 ∈ fp /\ h.get? p.1 = some p.2:=by
 obtain ⟨b,hb,e⟩:=List.mem_filterMap.mp hp;cases q:h.get? b with
 | none=>rw [q] at e; cases e
 | some o=>
  rw [q] at e;have e':(b,o) = p:=zXC e;subst e';exact ⟨hb,q⟩
theorem Inv.pinned {zB:List (Addr × Obj)} {σ:St} {H:Hp} {s:Shared} {fp:List Addr} (I:Inv X zB σ H s) (hf:∀ b ∈ fp,zDB X zB H b) (ho:∀ b ∈ fp,∃ o,s.heap.get? b = some o /\ ∀ v,o.data ≠ .cell v):Inv X (zB ++ zDm fp s.heap) σ H s :=
 I.pins_of fun p hp=>(zWc.mp hp).elim (fun z=>I.pin p (zWW _ z)) fun z=>by
  obtain ⟨hb,e⟩:=zJT z;obtain ⟨f0,f1,f2,_⟩:=hf p.1 hb;obtain ⟨o,e',d⟩:=ho p.1 hb;rw [e] at e'; cases e';exact ⟨e,f0,f1,f2,d⟩
theorem Inv.unpinned {zB pl:List (Addr × Obj)} {σ:St} {H:Hp} {s:Shared} (I:Inv X (zB ++ pl) σ H s):Inv X zB σ H s:=I.pins_of fun p hp=>I.pin p (zWW _ (zXR _ hp))
theorem zT7 {iter:Expr} {body:List Stmt} {wi:TI} {g:TG} {tb:TS} {pos:Pos} (hp:PassesOwn (model X.prog X.w) X.A X.env X.xe) (hc:X.calm = true) (hi:PI X tg iter wi) (hg:PG X tg g) (hb:PSs X body tb)
  (hs:∀ x,foldedSetIterable iter X.env x = pure x:=by intro _; rfl):PS X (.For tg iter body [] pos) (zVR wi g tb):=by
 intro zB s σ H D I h;refine wpAny_For (thn (hi zB s σ H _ I h) fun v s1 h1=>thn h1 fun itv s2 h2=>?_) hs;obtain ⟨it,fp,tn,J,H2,e,I2,T,st2,f2,W,⟨m0,w0⟩,turn⟩:=h2;subst e;have stat:∀ {H':Hp},(∀ b ∈ fp,H' b = none) -> ∀ b ∈ fp,zDB X zB H' b:=fun hn b hb=>⟨hn b hb,(f2 b hb).2⟩;refine codeAny_forLoop_any (fun n s'=>∃ i σ' H',Inv X zB σ' H' s' /\ tn i s'.heap /\ (∀ b ∈ fp,H' b = none) /\ W i n σ' H') ?_ m0 ⟨0,σ,H2,I2,st2,fun b hb=>(f2 b hb).1,w0⟩;rintro n s3 ⟨i,σ3,H3,I3,st3,fr3,w3⟩;rcases turn i n σ3 H3 w3 with ⟨stop,qn⟩ | ⟨go,N,hN,step⟩
 ·refine wpAny_passesOwn hp (thn (T.done X rfl rfl rfl hc i zB s3 σ3 H3 X.xe I3 (stat fr3) st3 stop) fun r s4 ⟨hr,I4⟩=>?_);subst hr;exact wpAny_execs_nil ⟨σ3,H3,I4,qn⟩
 ·refine wpAny_passesOwn hp (thn (T.item X rfl rfl rfl hc i zB s3 σ3 H3 X.xe I3 (stat fr3) st3 go) fun r s4 ⟨u,hr,h4⟩=>?_);subst hr;refine wpAny_passesOwn hp (thn h4 fun _ s5 ⟨x,H5,I5,r5,y5,st5,fr5⟩=>?_);have I5':=I5.pinned (stat fr5) (T.obj _ _ st5);refine wpAny_passesOwn hp (thn (hg _ s5 σ3 H5 x u _ I5' r5 (step x H5 y5)) fun _ s6 ⟨σ6,H6,I6,q6⟩=>?_);refine wpAny_passesOwn hp (thn (hb _ s6 σ6 H6 _ I6 q6) fun f s7 q7=>?_);have again:∀ {σ7:St} {H7:Hp},Inv X (zB ++ zDm fp s5.heap) σ7 H7 s7 -> N σ7 H7 -> ∃ m,m < n /\ ∃ i σ' H',Inv X zB σ' H' s7 /\ tn i s7.heap /\ (∀ b ∈ fp,H' b = none) /\ W i m σ' H':=fun {σ7 H7} I7 n7=>by
   obtain ⟨m',hm,w7⟩:=hN σ7 H7 n7;refine ⟨m',hm,i + 1,σ7,H7,I7.unpinned,T.keep _ _ _ st5 fun b hb o e=>(I7.pin (b,o) (zWW _ (zWW _ (zAb hb e)))).1,fun b hb=>?_,w7⟩;obtain ⟨o,e,d⟩:=T.obj _ _ st5 b hb;exact (I7.pin (b,o) (zWW _ (zWW _ (zAb hb e)))).2.1
  cases f with
  | next=>obtain ⟨σ7,H7,I7,n7⟩:=q7; exact again I7 n7
  | cont=>obtain ⟨σ7,H7,I7,n7⟩:=q7; exact again I7 n7
  | brk=>obtain ⟨σ7,H7,I7,q7⟩:=q7; exact ⟨σ7,H7,I7.unpinned,q7⟩
  | ret v=>obtain ⟨x7,σ7,H7,I7,r7,q7⟩:=q7; exact ⟨x7,σ7,H7,I7.unpinned,r7,q7⟩
end
abbrev R2:=V -> V -> Hp -> VK -> Prop
def OpR (X:Cx) (f:Value -> Value -> Sem Value) (r:R2):Prop :=
 ∀ (zB:List (Addr × Obj)) (s:Shared) (σ:St) (H:Hp) (x y:V) (v u:Value) (Q:VK),Inv X zB σ H s -> zw x v -> zw y u -> r x y H Q ->
  wpAny (model X.prog X.w) X.A (f v u) (EP X zB σ Q) X.xe s
def UnR (X:Cx) (f:Value -> Sem Value) (r:V -> Hp -> VK -> Prop):Prop :=
 ∀ (zB:List (Addr × Obj)) (s:Shared) (σ:St) (H:Hp) (x:V) (v:Value) (Q:VK),Inv X zB σ H s -> zw x v -> r x H Q ->
  wpAny (model X.prog X.w) X.A (f v) (EP X zB σ Q) X.xe s
def zCb (X:Cx) (f:Value) (r:List V -> Hp -> VK -> Prop):Prop :=
 ∀ (zB:List (Addr × Obj)) (s:Shared) (σ:St) (H:Hp) (xs:List V) (us:List Value) (Q:VK),Inv X zB σ H s -> zm xs us -> r xs H Q ->
  wpAny (model X.prog X.w) X.A (call f us) (EP X zB σ Q) X.xe s
def zVl (X:Cx) (r:V -> Hp -> (Bool -> Hp -> Prop) -> Prop):Prop :=
 ∀ (zB:List (Addr × Obj)) (s:Shared) (σ:St) (H:Hp) (x:V) (v:Value) (Q:Bool -> Hp -> Prop),Inv X zB σ H s -> zw x v -> r x H Q ->
  wpAny (model X.prog X.w) X.A (truthy v) (TP X zB σ Q) X.xe s
def tOp (r:R2) (ta tb:TE):TE:=fun σ H Q=>ta σ H fun x H1=>tb σ H1 fun y H2=>r x y H2 Q
def tUn (r:V -> Hp -> VK -> Prop) (ta:TE):TE:=fun σ H Q=>ta σ H fun x H1=>r x H1 Q
def rI (C:Int -> Int -> Prop) (g:Int -> Int -> V):R2:=fun x y H Q=>∃ i j,x = .int i /\ y = .int j /\ C i j /\ Q (g i j) H
def rI0 (g:Int -> Int -> V):R2:=fun x y H Q=>∃ i j,x = .int i /\ y = .int j /\ Q (g i j) H
def rU (g:Int -> V):V -> Hp -> VK -> Prop:=fun x H Q=>∃ i,x = .int i /\ Q (g i) H
section
variable {X:Cx} {a b c:Expr} {ta tb tc:TE} {pos:Pos}
theorem zT0 (ha:PE X a ta) (hb:PE X b tb) {zB:List (Addr × Obj)} {s:Shared} {σ:St} {H:Hp} {R:V -> V -> Hp -> Prop} (I:Inv X zB σ H s)
  (h:ta σ H fun x H1=>tb σ H1 fun y H2=>R x y H2) {Q:Value -> Shared -> Prop} {f:Value -> Value -> Sem Value}
  (hf:∀ v u s2 x y H2,Inv X zB σ H2 s2 -> zw x v -> zw y u -> R x y H2 -> wpAny (model X.prog X.w) X.A (f v u) Q X.xe s2) :
  wpAny (model X.prog X.w) X.A (eval a X.env) (fun v s₁=>wpAny (model X.prog X.w) X.A (eval b X.env) (fun u s₂=>wpAny (model X.prog X.w) X.A (f v u) Q X.xe s₂) X.xe s₁) X.xe s:=by
 refine thn (ha zB s σ H _ I h) fun v s1 ⟨x,H1,I1,r1,q1⟩=>?_;refine thn (hb zB s1 σ H1 _ I1 q1) fun u s2 ⟨y,H2,I2,r2,q2⟩=>?_;exact hf v u s2 x y H2 I2 r1 r2 q2
theorem zU3 {op:Operator} {r:R2} (ho:OpR X (binaryOp op) r) (ha:PE X a ta) (hb:PE X b tb):PE X (.BinOp a op b pos) (tOp r ta tb):=by
 intro zB s σ H Q I h;exact wpAny_BinOp (zT0 ha hb I h fun v u s2 x y H2 I2 rx ry q=>ho zB s2 σ H2 x y v u Q I2 rx ry q)
theorem zVf {op:UnaryOp} {r:V -> Hp -> VK -> Prop} (ho:UnR X (unaryOp op) r) (ha:PE X a ta):PE X (.UnaryOp op a pos) (tUn r ta):=by
 intro zB s σ H Q I h;exact UnaryOp_ (thn (ha zB s σ H _ I h) fun v s1 ⟨x,H1,I1,r1,q1⟩=>ho zB s1 σ H1 x v Q I1 r1 q1)
theorem opI {f:Value -> Value -> Sem Value} {C:Int -> Int -> Prop} {g:Int -> Int -> Int}
  (rule:∀ (i j:Int) (t u:Tok) (s:Shared) (Q:Value -> Shared -> Prop) (E:Value -> Shared -> Prop),C i j -> Q (.int (g i j) s.toks) { s with toks:=s.toks + 1 } -> wpAny (model X.prog X.w) X.A (f (.int i t) (.int j u)) Q E s) :
  OpR X f (rI C fun i j=> .int (g i j)):=by
 intro zB s σ H x y v u Q I rx ry h;obtain ⟨i,j,rfl,rfl,hc,q⟩:=h;obtain ⟨t,rfl⟩:=rx;obtain ⟨t',rfl⟩:=ry;exact rule i j t t' s _ _ hc ⟨.int (g i j),H,I.tok _,⟨_,rfl⟩,q⟩
theorem zVa {f:Value -> Value -> Sem Value} {g:Int -> Int -> Int}
  (rule:∀ (i j:Int) (t u:Tok) (s:Shared) (Q:Value -> Shared -> Prop) (E:Value -> Shared -> Prop),Q (.int (g i j) s.toks) { s with toks:=s.toks + 1 } -> wpAny (model X.prog X.w) X.A (f (.int i t) (.int j u)) Q E s) :
  OpR X f (rI0 fun i j=> .int (g i j)):=by
 intro zB s σ H x y v u Q I rx ry h;obtain ⟨i,j,rfl,rfl,q⟩:=h;obtain ⟨t,rfl⟩:=rx;obtain ⟨t',rfl⟩:=ry;exact rule i j t t' s _ _ ⟨.int (g i j),H,I.tok _,⟨_,rfl⟩,q⟩
theorem zR2 {f:Value -> Value -> Sem Value} {g:Int -> Int -> Bool}
  (rule:∀ (i j:Int) (t u:Tok) (s:Shared) (Q:Value -> Shared -> Prop) (E:Value -> Shared -> Prop),Q (.bool (g i j)) s -> wpAny (model X.prog X.w) X.A (f (.int i t) (.int j u)) Q E s) :
  OpR X f (rI0 fun i j=> .bl (g i j)):=by
 intro zB s σ H x y v u Q I rx ry h;obtain ⟨i,j,rfl,rfl,q⟩:=h;obtain ⟨t,rfl⟩:=rx;obtain ⟨t',rfl⟩:=ry;exact rule i j t t' s _ _ ⟨.bl (g i j),H,I,rfl,q⟩
def zVq (i j:Int):Prop:=0 < j /\ j < 1073741824
def zV6 (i j:Int):Prop:=0 <= j /\ j <= 1000000 /\ i.natAbs < 2 ^ 64
def zUK (i j:Int):Prop:=(-(2 ^ 64) < i /\ i < 2 ^ 64) \/ (-(2 ^ 64) < j /\ j < 2 ^ 64)
theorem zUK.ok {i j:Int} (h:zUK i j):IntMulOk i j:=by
 rcases h with ⟨h1,h2⟩ | ⟨h1,h2⟩
 ·exact .of_left (intBits_le_64 h1 h2)
 ·exact .of_right (intBits_le_64 h1 h2)
theorem zTn:OpR X (binaryOp .Add) (rI0 fun i j=> .int (i + j)):=zVa fun _ _ _ _ _ _ _ q=>add_int q
theorem zUO:OpR X (binaryOp .Sub) (rI0 fun i j=> .int (i - j)):=zVa fun _ _ _ _ _ _ _ q=>sub_int q
theorem zUj:OpR X (binaryOp .Mult) (rI zUK fun i j=> .int (i * j)):=opI fun _ _ _ _ _ _ _ hc q=>mul_int q hc.ok
theorem zRt:OpR X (binaryOp .FloorDiv) (rI zVq fun i j=> .int (i / j)):=opI fun i j _ _ _ _ _ hc q=>by
 have h1:(0:Int) < j:=hc.1;have h2:j < 1073741824:=hc.2;exact floordiv_int (by omega) (by rw [Int.fdiv_eq_ediv_of_nonneg i (by omega)]; exact q) (.inl (PyProof.noPylong_small (by omega)))
theorem zUh:OpR X (binaryOp .Mod) (rI (fun _ j=>0 < j) fun i j=> .int (i % j)):=opI fun i j _ _ _ _ _ hc q=>by
 have h1:(0:Int) < j:=hc;exact mod_int' (by omega) (by rw [Int.fmod_eq_emod_of_nonneg i (by omega)]; exact q)
theorem zT6:OpR X (binaryOp .Pow) (rI zV6 fun i j=> .int (i ^ j.toNat)):=opI fun _ _ _ _ _ _ _ hc q=>pow_int_small hc.1 hc.2.1 hc.2.2 q
theorem unI {f:Value -> Sem Value} {g:Int -> Int}
  (rule:∀ (i:Int) (t:Tok) (s:Shared) (Q:Value -> Shared -> Prop) (E:Value -> Shared -> Prop),Q (.int (g i) s.toks) { s with toks:=s.toks + 1 } -> wpAny (model X.prog X.w) X.A (f (.int i t)) Q E s) :
  UnR X f (rU fun i=> .int (g i)):=by
 intro zB s σ H x v Q I rx h;obtain ⟨i,rfl,q⟩:=h;obtain ⟨t,rfl⟩:=rx;exact rule i t s _ _ ⟨.int (g i),H,I.tok _,⟨_,rfl⟩,q⟩
theorem zUW:UnR X (unaryOp .USub) (rU fun i=> .int (-i)):=unI fun _ _ _ _ _ q=>neg_int q
end
def zRv:V -> V -> Bool
 | .non,.non=>true | .non,.int _=>true | .int _,.non=>true | .non,.bl _=>true | .bl _,.non=>true | .non,.str _=>true | .str _,.non=>true
 | .int _,.int _=>true | .bl _,.bl _=>true | .str _,.str _=>true | .byt _,.byt _=>true
 | .int _,.str _=>true | .str _,.int _=>true | .bl _,.str _=>true | .str _,.bl _=>true
 | _,_=>false
def rEq:R2:=fun x y H Q=>zRv x y = true /\ Q (.bl (decide (x = y))) H
def rNe:R2:=fun x y H Q=>zRv x y = true /\ Q (.bl (!decide (x = y))) H
theorem zNR {i j:Int}:decide (V.int i = V.int j) = (i == j):=by
 rw [Bool.eq_iff_iff];simp
theorem zQq {i j:Bool}:decide (V.bl i = V.bl j) = (i == j):=by
 rw [Bool.eq_iff_iff];simp
theorem zNc {i j:Str}:decide (V.str i = V.str j) = (i == j):=by
 rw [Bool.eq_iff_iff];simp
theorem zNr {i j:Array UInt8}:decide (V.byt i = V.byt j) = (i.toList == j.toList):=by
 rw [Bool.eq_iff_iff];cases i;cases j;simp
section
variable {X:Cx} {a b c:Expr} {ta tb tc:TE} {pos:Pos}
theorem zAB {zB:List (Addr × Obj)} {σ:St} {H:Hp} {s:Shared} {Q:VK} {k k':Bool} (I:Inv X zB σ H s) (q:Q (.bl k) H) (e:k = k'):EP X zB σ Q (.bool k') s:=by
 subst e;exact ⟨.bl k,H,I,rfl,q⟩
theorem zTP:OpR X (compareOp .Eq) rEq:=by
 intro zB s σ H x y v u Q I rx ry h;obtain ⟨hs,q⟩:=h;cases x with
 | non=>
  cases rx;cases y with
  | non=>cases ry; exact PySem.EqNone.eq_none_none (zAB I q (by simp))
  | bl j=>cases ry; exact PySem.EqNone.eq_none_bool (zAB I q (by simp))
  | int j=>obtain ⟨t',rfl⟩:=ry; exact PySem.EqNone.eq_none_int (zAB I q (by simp))
  | str j=>obtain ⟨t',rfl⟩:=ry; exact PySem.EqNone.eq_none_str (zAB I q (by simp))
  | _=>exact absurd (show false = true from hs) zWY
 | bl i=>
  cases rx;cases y with
  | non=>cases ry; exact PySem.EqNone.eq_bool_none (zAB I q (by simp))
  | bl j=>cases ry; exact eq_bool (zAB I q zQq)
  | str j=>obtain ⟨t',rfl⟩:=ry; exact PySem.EqMixed.eq_bool_str (zAB I q (by simp))
  | _=>exact absurd (show false = true from hs) zWY
 | int i=>
  obtain ⟨t,rfl⟩:=rx;cases y with
  | non=>cases ry; exact PySem.EqNone.eq_int_none (zAB I q (by simp))
  | int j=>obtain ⟨t',rfl⟩:=ry; exact eq_int (zAB I q zNR)
  | str j=>obtain ⟨t',rfl⟩:=ry; exact PySem.EqMixed.eq_int_str (zAB I q (by simp))
  | _=>exact absurd (show false = true from hs) zWY
 | str i=>
  obtain ⟨t,rfl⟩:=rx;cases y with
  | non=>cases ry; exact PySem.EqNone.eq_str_none (zAB I q (by simp))
  | bl j=>cases ry; exact PySem.EqMixed.eq_str_bool (zAB I q (by simp))
  | int j=>obtain ⟨t',rfl⟩:=ry; exact PySem.EqMixed.eq_str_int (zAB I q (by simp))
  | str j=>obtain ⟨t',rfl⟩:=ry; exact eq_str (zAB I q zNc)
  | _=>exact absurd (show false = true from hs) zWY
 | byt i=>
  obtain ⟨t,rfl⟩:=rx;cases y with
  | byt j=>obtain ⟨t',rfl⟩:=ry; exact PySem.W.eq_bytes (zAB I q zNr)
  | _=>exact absurd (show false = true from hs) zWY
 | _=>cases y <;> exact absurd (show false = true from hs) zWY
theorem zVb:OpR X (compareOp .NotEq) rNe:=by
 intro zB s σ H x y v u Q I rx ry h;obtain ⟨hs,q⟩:=h;cases x with
 | non=>
  cases rx;cases y with
  | non=>cases ry; exact PySem.EqNone.ne_none_none (zAB I q (by simp))
  | bl j=>cases ry; exact PySem.EqNone.ne_none_bool (zAB I q (by simp))
  | int j=>obtain ⟨t',rfl⟩:=ry; exact PySem.EqNone.ne_none_int (zAB I q (by simp))
  | str j=>obtain ⟨t',rfl⟩:=ry; exact PySem.EqNone.ne_none_str (zAB I q (by simp))
  | _=>exact absurd (show false = true from hs) zWY
 | bl i=>
  cases rx;cases y with
  | non=>cases ry; exact PySem.EqNone.ne_bool_none (zAB I q (by simp))
  | bl j=>cases ry; exact ne_bool (zAB I q (zXz not zQq))
  | str j=>obtain ⟨t',rfl⟩:=ry; exact PySem.EqMixed.ne_bool_str (zAB I q (by simp))
  | _=>exact absurd (show false = true from hs) zWY
 | int i=>
  obtain ⟨t,rfl⟩:=rx;cases y with
  | non=>cases ry; exact PySem.EqNone.ne_int_none (zAB I q (by simp))
  | int j=>obtain ⟨t',rfl⟩:=ry; exact ne_int (zAB I q (zXz not zNR))
  | str j=>obtain ⟨t',rfl⟩:=ry; exact PySem.EqMixed.ne_int_str (zAB I q (by simp))
  | _=>exact absurd (show false = true from hs) zWY
 | str i=>
  obtain ⟨t,rfl⟩:=rx;cases y with
  | non=>cases ry; exact PySem.EqNone.ne_str_none (zAB I q (by simp))
  | bl j=>cases ry; exact PySem.EqMixed.ne_str_bool (zAB I q (by simp))
  | int j=>obtain ⟨t',rfl⟩:=ry; exact PySem.EqMixed.ne_str_int (zAB I q (by simp))
  | str j=>obtain ⟨t',rfl⟩:=ry; exact ne_str (zAB I q (zXz not zNc))
  | _=>exact absurd (show false = true from hs) zWY
 | byt i=>
  obtain ⟨t,rfl⟩:=rx;cases y with
  | byt j=>obtain ⟨t',rfl⟩:=ry; exact PySem.W.ne_bytes (zAB I q (zXz not zNr))
  | _=>exact absurd (show false = true from hs) zWY
 | _=>cases y <;> exact absurd (show false = true from hs) zWY
theorem zTQ:OpR X (compareOp .Lt) (rI0 fun i j=> .bl (decide (i < j))):=zR2 fun _ _ _ _ _ _ _ q=>lt_int q
theorem zU9:OpR X (compareOp .LtE) (rI0 fun i j=> .bl (decide (i <= j))):=zR2 fun _ _ _ _ _ _ _ q=>le_int q
theorem zUt:OpR X (compareOp .Gt) (rI0 fun i j=> .bl (decide (j < i))):=zR2 fun _ _ _ _ _ _ _ q=>gt_int q
theorem zU6:OpR X (compareOp .GtE) (rI0 fun i j=> .bl (decide (j <= i))):=zR2 fun _ _ _ _ _ _ _ q=>ge_int q
theorem OpR.or {f:Value -> Value -> Sem Value} {r r':R2} (h:OpR X f r) (h':OpR X f r'):OpR X f (fun x y H Q=>r x y H Q \/ r' x y H Q):=by
 intro zB s σ H x y v u Q I rx ry q;rcases q with q | q
 ·exact h zB s σ H x y v u Q I rx ry q
 ·exact h' zB s σ H x y v u Q I rx ry q
theorem zC4 (b:Expr) {op:CmpOp} (h:op ≠ .In:=by decide) (h2:op ≠ .NotIn:=by decide):behindInMarks op b = false:=by
 have e1:(op == CmpOp.In) = false:=by cases op <;> first | rfl | exact absurd rfl h
 have e2:(op == CmpOp.NotIn) = false:=by cases op <;> first | rfl | exact absurd rfl h2
 cases b <;> simp [behindInMarks,e1,e2]
theorem zSd {op:CmpOp} {r:R2} (ho:OpR X (compareOp op) r) (ha:PE X a ta) (hb:PE X b tb) (hm:behindInMarks op b = false):PE X (.Compare a [op] [b] pos) (tOp r ta tb):=by
 intro zB s σ H Q I h;exact wpAny_Compare1 (zT0 ha hb I h fun v u s2 x y H2 I2 rx ry q=>ho zB s2 σ H2 x y v u Q I2 rx ry q) hm
def zNQ (t:TE):TT:=fun σ H Q=>t σ H fun x H'=>∃ k,x = .bl k /\ Q k H'
theorem zR0 {op:CmpOp} {r:R2} (ho:OpR X (compareOp op) r) (ha:PE X a ta) (hb:PE X b tb) (hm:behindInMarks op b = false):PT X (.Compare a [op] [b] pos) (zNQ (tOp r ta tb)):=by
 intro zB s σ H Q I h;refine wpAny_isTrue_Compare1 (thn (ha zB s σ H _ I h) fun v s1 ⟨x,H1,I1,r1,q1⟩=>thn (hb zB s1 σ H1 _ I1 q1) fun u s2 ⟨y,H2,I2,r2,q2⟩=>
  thn (ho zB s2 σ H2 x y v u _ I2 r1 r2 q2) fun c s3 ⟨z,H3,I3,r3,k,e,q3⟩=>?_) hm
 subst e;cases r3;exact zXO ⟨H3,I3,q3⟩
def zPp (r r':R2) (ta tb tc:TE):TE:=fun σ H Q=>ta σ H fun x H1=>tb σ H1 fun y H2=>r x y H2 fun z H3=>∃ k,z = .bl k /\
 (if k = true then tc σ H3 fun w' H4=>r' y w' H4 Q else Q (.bl false) H3)
theorem zPa {op op':CmpOp} {r r':R2} (ho:OpR X (compareOp op) r) (ho':OpR X (compareOp op') r') (ha:PE X a ta) (hb:PE X b tb) (hc:PE X c tc)
  (hm:lastMarks [op,op'] [b,c] = false:=by with_unfolding_all rfl):PE X (.Compare a [op,op'] [b,c] pos) (zPp r r' ta tb tc):=by
 intro zB s σ H Q I h;refine Compare_chain (thn (ha zB s σ H _ I h) fun v s1 ⟨x,H1,I1,r1,q1⟩=>chain_link (thn (hb zB s1 σ H1 _ I1 q1) fun u s2 ⟨y,H2,I2,r2,q2⟩=>
  thn (ho zB s2 σ H2 x y v u _ I2 r1 r2 q2) fun d s3 ⟨z,H3,I3,r3,k,e,q3⟩=>?_)) hm
 subst e;cases r3;refine zXO ?_;cases k with
 | false=>exact ite_ff ⟨.bl false,H3,I3,rfl,q3⟩
 | true=>exact ite_tt (chain_last (thn (hc zB s3 σ H3 _ I3 q3) fun w' s4 ⟨z',H4,I4,r4,q4⟩=>ho' zB s4 σ H4 y z' u w' Q I4 r2 r4 q4))
def zVQ (K:PySem.W.Frag) (x:V) (H:Hp) (k:Bool):Prop :=
 match x with
 | .non=>k = false
 | .bl b=>k = b
 | .int i=>k = (i != 0)
 | .str y=>y.length <= sizeLine /\ k = ((y.length:Int) != 0)
 | .byt y=>y.size <= sizeLine /\ k = ((y.size:Int) != 0)
 | .ref p=>(∃ xs,SqL K H p xs /\ k = !xs.isEmpty) \/ (∃ xs,SqT K H p xs /\ k = !xs.isEmpty) \/ ∃ kvs,H p = some (.dK kvs) /\ k = !kvs.isEmpty
 | _=>False
theorem zNE {κ:Type} {kvs:List (κ × V)} {vs:List (κ × Value)} (r:KV kvs vs):(!vs.isEmpty) = !kvs.isEmpty:=by
 cases r <;> rfl
theorem zIf {xs:List V} {its:List Value} (r:zm xs its):(!its.toArray.isEmpty) = !xs.isEmpty:=by
 cases r <;> simp
theorem zGj:(sizeLine:Nat) < 2 ^ 63:=by rw [sizeLine_eq]; decide
theorem zTc:zVl X (fun x H Q=>∃ k,zVQ X.K x H k /\ Q k H):=by
 intro zB s σ H x v Q I rx h;obtain ⟨k,e,q⟩:=h;have hl:=zGj;have hs:sizeLine = 16777216:=sizeLine_eq;cases x with
 | non=>
  cases rx;have e':k = false:=e;subst e';exact truthy_none ⟨H,I,q⟩
 | bl b=>
  cases rx;have e':k = b:=e;subst e';exact zXO ⟨H,I,q⟩
 | int i=>
  obtain ⟨t,rfl⟩:=rx;have e':k = (i != 0):=e;subst e';exact PySem.P.truthy_int ⟨H,I,q⟩
 | str y=>
  obtain ⟨t,rfl⟩:=rx;obtain ⟨hy,e'⟩:y.length <= sizeLine /\ k = ((y.length:Int) != 0):=e;subst e';exact PySem.P.truthy_str (by omega) ⟨H,I.tok _,q⟩
 | byt y=>
  obtain ⟨t,rfl⟩:=rx;obtain ⟨hy,e'⟩:y.size <= sizeLine /\ k = ((y.size:Int) != 0):=e;subst e';exact PySem.W.truthy_bytes (by omega) ⟨H,I.tok _,q⟩
 | ref p=>
  cases rx;have e':(∃ xs,SqL X.K H p xs /\ k = !xs.isEmpty) \/ (∃ xs,SqT X.K H p xs /\ k = !xs.isEmpty) \/ ∃ kvs,H p = some (.dK kvs) /\ k = !kvs.isEmpty:=e;rcases e' with ⟨xs,hx,e'⟩ | ⟨xs,hx,e'⟩ | ⟨kvs,hx,e'⟩
  ·subst e';obtain ⟨its,r,pl,hz⟩:=I.list hx;have hlen:=r.length;exact wpAny_truthy_list pl.isList (by simp only [zWK]; omega) ⟨H,I.tok _,by rw [zIf r]; exact q⟩
  ·subst e';obtain ⟨its,r,pl,hz⟩:=I.tuple hx;have hlen:=r.length;exact truthy_tuple pl (by simp only [zWK]; omega) ⟨H,I.tok _,by rw [zIf r]; exact q⟩
  ·subst e';obtain ⟨hz,hS,vs,r,m⟩:kvs.length <= sizeLine /\ (p == sysModules) = false /\ ∃ vs,KV kvs vs /\ s.heap.DictOf (zAh X.prog X.w) p vs:=I.hok p _ hx;have hlen:kvs.length = vs.length:=Paired.length r;exact wpAny_truthy_dict hS m (by omega) ⟨H,I.tok _,by rw [zNE r]; exact q⟩
 | _=>exact (show False from e).elim
theorem zQy (ha:PE X a ta) (he:∀ whole,isTrue a X.env whole = (do let v <- whole; standAt a.pos; holding [v] (truthy v))) :
  PT X a (fun σ H Q=>ta σ H fun x H'=>∃ k,zVQ X.K x H' k /\ Q k H'):=by
 intro zB s σ H Q I h;exact isTrue_plain (thn (ha zB s σ H _ I h) fun v s1 ⟨x,H1,I1,r1,q1⟩=>zTc zB s1 σ H1 x v Q I1 r1 q1) (he _)
theorem zEi {x:V} {us:List Value} (r:zm [x] us):∃ u,us = [u] /\ zw x u:=by
 cases r with
 | cons r1 r2=>cases r2; exact ⟨_,rfl,r1⟩
theorem zTN {x y:V} {us:List Value} (r:zm [x,y] us):∃ u w',us = [u,w'] /\ zw x u /\ zw y w':=by
 cases r with
 | cons r1 r2=>
  cases r2 with
  | cons r3 r4=>cases r4; exact ⟨_,_,rfl,r1,r3⟩
theorem zP4:zCb X (.builtin "abs") (fun xs H Q=>∃ i,xs = [.int i] /\ Q (.int (if i < 0 then -i else i)) H):=by
 intro zB s σ H xs us Q I r h;obtain ⟨i,rfl,q⟩:=h;obtain ⟨u,rfl,t,rfl⟩:=zEi r;exact call_abs_int fun u tk=>⟨.int (if i < 0 then -i else i),H,I.tok _,⟨_,rfl⟩,q⟩
theorem zOT (hc:X.calm = true):zCb X (.builtin "max") (fun xs H Q=>∃ i j,xs = [.int i,.int j] /\ Q (.int (if j > i then j else i)) H):=by
 intro zB s σ H xs us Q I r h;obtain ⟨i,j,rfl,q⟩:=h;obtain ⟨u,w',rfl,⟨t,rfl⟩,⟨t',rfl⟩⟩:=zTN r;refine max_two_ints (I.ok.hd hc) fun h' tk k=>⟨_,H,I.kept k,?_,q⟩;by_cases hj:j > i
 ·rw [zWR hj,zWR hj]; exact ⟨_,rfl⟩
 ·rw [zWU hj,zWU hj]; exact ⟨_,rfl⟩
theorem zOD (hc:X.calm = true):zCb X (.builtin "min") (fun xs H Q=>∃ i j,xs = [.int i,.int j] /\ Q (.int (if j < i then j else i)) H):=by
 intro zB s σ H xs us Q I r h;obtain ⟨i,j,rfl,q⟩:=h;obtain ⟨u,w',rfl,⟨t,rfl⟩,⟨t',rfl⟩⟩:=zTN r;refine min_two_ints (I.ok.hd hc) fun h' tk k=>⟨_,H,I.kept k,?_,q⟩;by_cases hj:j < i
 ·rw [zWR hj,zWR hj]; exact ⟨_,rfl⟩
 ·rw [zWU hj,zWU hj]; exact ⟨_,rfl⟩
theorem zOG:zCb X (.type "int") (fun xs H Q=>(∃ i,xs = [.int i] /\ Q (.int i) H) \/ ∃ k,xs = [.bl k] /\ Q (.int (if k then 1 else 0)) H):=by
 intro zB s σ H xs us Q I r h;rcases h with ⟨i,rfl,q⟩ | ⟨k,rfl,q⟩
 ·obtain ⟨u,rfl,t,rfl⟩:=zEi r;exact call_int_int ⟨.int i,H,I,⟨_,rfl⟩,q⟩
 ·obtain ⟨u,rfl,r1⟩:=zEi r;cases r1;exact call_int_bool ⟨.int (if k then 1 else 0),H,I.tok _,⟨_,rfl⟩,q⟩
end
structure ObjM (h:Heap) (x dx C:Addr) (mA:Str -> Option Value):Prop where
 obj:h.get? x = some (PySem.W.instObj C dx)
 ns:h.Ns1 dx mA
 ne:dx ≠ x
theorem zOM {h:Heap} {dx:Addr} {mA:Str -> Option Value} (n:h.Ns1 dx mA):∃ od,h.get? dx = some od /\ ∀ name,PySem.W.lookIn name od = some (mA name):=by
 obtain ⟨o,es,ep,ho,hd,hk,_,hm⟩:=n;refine ⟨o,ho,fun name=>?_⟩;have e:=hm name;unfold nsFind findBy at e;rw [<- Array.find?_toList] at e;unfold PySem.W.lookIn;rw [hd];dsimp only;split
 ·rename_i y q;rw [q] at e;exact zXz some e
 ·rename_i q;rw [q] at e;have a:es.toList.any (·.refKey) = false:=by
   rw [List.any_eq_false];intro y hy;obtain ⟨z,t,hkey⟩:=hk y (Array.mem_toList_iff.mp hy);simp [DictEntry.refKey,hkey]
  have a':¬ es.toList.any (·.refKey) = true:=by rw [a]; exact zWY
  rw [zWU a'];exact zXz some e
theorem ObjM.look {h:Heap} {x dx C:Addr} {mA:Str -> Option Value} (I:ObjM h x dx C mA):∃ od,PySem.W.InstAt h x (PySem.W.instObj C dx) C (some od) /\ ∀ name,PySem.W.lookIn name od = some (mA name) :=
 let ⟨od,ho,hl⟩:=zOM I.ns
 ⟨od,⟨I.obj,rfl,rfl,ho⟩,hl⟩
theorem zGc.some_of {v:V} {o:Option Value} (r:zGc (some v) o):∃ u,o = some u /\ zw v u:=by
 cases o with
 | none=>exact (show False from r).elim
 | some u=>exact ⟨u,rfl,r⟩
section
variable {P:Program} {w:World} {H H':Hp} {h h':Heap} {a C dx:Addr} {fs fs':List (Str × V)}
theorem zSJ (hok:HOk P w H h) (e:H a = some (.ins C dx fs)):∃ mA,ObjM h a dx C mA /\ (∀ f,zGc (fs.lookup f) (mA f)) /\ PySem.Within mA (fs.map (·.1)) /\ fs.length <= 1000 /\ H dx = some (.own a):=by
 obtain ⟨d,z,ne,ob,mA,n,r,q⟩:=(show zAo P w H h a (.ins C dx fs) from hok a _ e);exact ⟨mA,⟨ob,n,ne⟩,r,q,z,d⟩
end
structure Cls (K:PySem.W.Frag) (C:Addr):Prop where
 pg:PySem.W.plainGet K C Str.empty = true
 hd:PySem.W.hasDictIn K C = true
 po:PySem.W.plainOver K C = true
 sa:PySem.W.findIn K (.ref C) "__setattr__" = some (some (.builtin "object.__setattr__"))
theorem Cls.get {K:PySem.W.Frag} {C:Addr} (c:Cls K C) (f:Str):PySem.W.plainGet K C f = true:=c.pg
section
variable {X:Cx} {zB:List (Addr × Obj)} {σ:St} {H:Hp} {s:Shared} {A:Around} {E:Value -> Shared -> Prop} {Q:Value -> Shared -> Prop} {c:Value} {b:Bool}
set_option genInjectivity true in
inductive TyOf (K:PySem.W.Frag) (H:Hp):V -> Value -> Prop where
 | non:TyOf K H .non (.type "NoneType")
 | bl (x:Bool):TyOf K H (.bl x) (.type "bool")
 | int (i:Int):TyOf K H (.int i) (.type "int")
 | str (x:Str):TyOf K H (.str x) (.type "str")
 | flt (x:UInt64):TyOf K H (.flt x) (.type "float")
 | lst {a:Addr} {xs:List V} (e:H a = some (.lst xs)):TyOf K H (.ref a) (.type "list")
 | frz {a:Addr} {o:Obj} {xs:List V} (e:H a = some (.frz o (.lst xs))):TyOf K H (.ref a) (.type "list")
 | tup {a:Addr} {xs:List V} (e:H a = some (.tup xs)):TyOf K H (.ref a) (.type "tuple")
 | dK {a:Addr} {kvs:List (Key × V)} (e:H a = some (.dK kvs)):TyOf K H (.ref a) (.type "dict")
 | dT {a:Addr} {kvs:List (List Key × V)} (e:H a = some (.dT kvs)):TyOf K H (.ref a) (.type "dict")
 | ins {a C dx:Addr} {fs:List (Str × V)} (e:H a = some (.ins C dx fs)) (cl:Cls K C) (ha:PySem.W.findIn K (.ref C) "__class__" = some (some (.builtin "object.__class__")))
   (hn:PySem.W.specialIn K (.builtin "object.__class__") "__get__" = some (some (.builtin "getset_descriptor.__get__"))) (htk:PySem.W.takesIn K (.builtin "object.__class__") = some true)
   (hm:PySem.W.mroIn K C (.type "object") = some true):TyOf K H (.ref a) (.ref C)
theorem zOv {x:V} {u t:Value} (I:Inv X zB σ H s) (rx:zw x u) (ty:TyOf X.K H x t) (e:PySem.W.kitOne X.K t c = some b) (h:∀ tk,Q (.bool b) { s with toks:=tk }) :
  wpAny (model X.prog X.w) A (call (.builtin "isinstance") [u,c]) Q E s:=by
 cases ty with
 | non=>cases (show u = Value.none from rx); exact zXp PySem.W.kitx_none I.kIn True.intro e (fun z=>nomatch z) h
 | bl y=>cases (show u = Value.bool y from rx); exact zXp PySem.W.kitx_bool I.kIn True.intro e (fun z=>nomatch z) h
 | int i=>obtain ⟨t,q⟩:=(show ∃ t,u = Value.int i t from rx); cases q; exact zXp PySem.W.kitx_int I.kIn True.intro e (fun z=>nomatch z) h
 | str y=>obtain ⟨t,q⟩:=(show ∃ t,u = Value.str y t from rx); cases q; exact zXp PySem.W.kitx_str I.kIn True.intro e (fun z=>nomatch z) h
 | flt y=>obtain ⟨t,q⟩:=(show ∃ t,u = Value.float y t from rx); cases q; exact zXp PySem.W.kitx_float I.kIn True.intro e (fun z=>nomatch z) h
 | @lst a xs ea=>
  cases (show u = Value.ref a from rx);obtain ⟨_,_,n,_,h1⟩:=(show zAo X.prog X.w H s.heap a (.lst xs) from I.hok a _ ea);exact zXp PySem.W.kitx_list I.kIn ⟨_,h1,rfl⟩ e (fun z=>nomatch z) h
 | @frz a ob xs ea=>
  cases (show u = Value.ref a from rx);obtain ⟨_,_,_,n,_,h1⟩:=(show zAo X.prog X.w H s.heap a (.frz ob (.lst xs)) from I.hok a _ ea);exact zXp PySem.W.kitx_list I.kIn ⟨_,h1,rfl⟩ e (fun z=>nomatch z) h
 | @tup a xs ea=>
  cases (show u = Value.ref a from rx);obtain ⟨_,_,_,p⟩:=(show zAo X.prog X.w H s.heap a (.tup xs) from I.hok a _ ea);obtain ⟨o,h1,h2,_⟩:=p;exact zXp PySem.W.kitx_tuple I.kIn ⟨o,h1,h2⟩ e (fun z=>nomatch z) h
 | @dK a kvs ea=>
  cases (show u = Value.ref a from rx);obtain ⟨_,_,vs,_,p⟩:=(show zAo X.prog X.w H s.heap a (.dK kvs) from I.hok a _ ea);obtain ⟨o,es,ep,h1,h2,_⟩:=p;exact zXp PySem.W.kitx_dict I.kIn ⟨o,h1,h2.1⟩ e (fun z=>nomatch z) h
 | @dT a kvs ea=>
  cases (show u = Value.ref a from rx);obtain ⟨_,_,xs,_,o,es,ep,h1,h2,_⟩:=(show zAo X.prog X.w H s.heap a (.dT kvs) from I.hok a _ ea);exact zXp PySem.W.kitx_dict I.kIn ⟨o,h1,h2.1⟩ e (fun z=>nomatch z) h
 | @ins a C dx fs ea cl ha hn htk hm=>
  cases (show u = Value.ref a from rx);obtain ⟨mA,O,_⟩:=zSJ I.hok ea;obtain ⟨od,J,_⟩:=O.look;exact zXp (PySem.W.kitx_own (cl.get _) cl.hd ha hn htk hm) I.kIn J e (fun z=>nomatch z) h
end
structure Room (k:Nat) (A:Around):Prop where
 hd:A.handled = none
 dp:A.depth + 3 * k + 5 < recursionLimit
 un:A.units + 16 * k + 200 < cLine
theorem Room.mono {j k:Nat} {A:Around} (r:Room k A) (h:j <= k):Room j A:=⟨r.hd,by have:=r.dp; omega,by have:=r.un; omega⟩
theorem Room.deeper {k:Nat} {A:Around} (r:Room (k + 1) A) (env:Env):Room k (A.deeper env) :=
 ⟨r.hd,by have:=r.dp; show A.depth + 1 + 3 * k + 5 < _; omega,by have:=r.un; show A.units + 3 + 16 * k + 200 < _; omega⟩
theorem Room.depth {k:Nat} {A:Around} (r:Room k A):A.depth < recursionLimit:=by have:=r.dp; omega
theorem Room.units {k:Nat} {A:Around} (r:Room k A):A.units + 64 < cLine:=by have:=r.un; omega
theorem Room.units0 {k:Nat} {A:Around} (r:Room k A):A.units < cLine:=by have:=r.un; omega
def zV1:TA:=fun _ H Q=>Q [] H
def zVU (ta:TE) (tr:TA):TA:=fun σ H Q=>ta σ H fun x H1=>tr σ H1 fun xs H2=>Q (x :: xs) H2
section
variable {X:Cx} {e:Expr} {es:List Expr} {te:TE} {t:TA} {pos:Pos}
theorem zIE:PA X [] zV1:=fun _ _ _ _ H Q I h=>Calls.spliced_nil ⟨[],H,I,.nil,h⟩
theorem zFL (ha:PE X e te) (hr:PA X es t) (hs:starEach (e :: es) X.env = (false,eval e X.env) :: starEach es X.env:=by rfl):PA X (e :: es) (zVU te t):=by
 intro pos zB s σ H Q I h;rw [hs];show wpAny _ _ (spliced ((false,eval e X.env) :: backTo pos (starEach es X.env))) _ _ s;refine Calls.spliced_cons (thn (ha zB s σ H _ I h) fun u s1 ⟨x,H1,I1,r1,q1⟩=>?_);exact thn (hr pos zB s1 σ H1 _ I1 q1) fun us s2 ⟨xs,H2,I2,r2,q2⟩=>⟨x :: xs,H2,I2,.cons r1 r2,q2⟩
def zV7 (t:TA):TE:=fun σ H Q=>t σ H fun xs H1=>xs.length <= sizeLine /\ ∀ p,H1 p = none -> Q (.ref p) (upd H1 p (.tup xs))
def zVv (t:TA):TE:=fun σ H Q=>t σ H fun xs H1=>xs.length <= sizeLine /\ ∀ p,H1 p = none -> Q (.ref p) (upd H1 p (.lst xs))
theorem zTX {x1} (h:PA X es t):PE X (.Tuple es x1 pos) (zV7 t):=by
 intro zB s σ H Q I hq;refine wpAny_Tuple_spliced (thn (h pos zB s σ H _ I hq) fun us s1 ⟨xs,H1,I1,r,z,q⟩=>⟨by rw [<- r.length]; exact z,?_⟩);have hf:H1 s1.heap.objs.size = none:=I1.hok.fresh (zWI _);refine ⟨.ref s1.heap.objs.size,upd H1 s1.heap.objs.size (.tup xs),I1.laid (t':=s1.toks) (fun b u e=>zWD _ e) (zWI _) ?_,rfl,q _ hf⟩;exact ⟨z,us,r,⟨_,zWM _ rfl,rfl,⟨_,rfl⟩,rfl⟩⟩
theorem zTs (h:PA X es t):PE X (.List es pos) (zVv t):=by
 intro zB s σ H Q I hq;refine wpAny_List_spliced (thn (h pos zB s σ H _ I hq) fun us s1 ⟨xs,H1,I1,r,z,q⟩=>⟨by rw [<- r.length]; exact z,?_⟩);have hf:H1 s1.heap.objs.size = none:=I1.hok.fresh (zWI _);refine ⟨.ref s1.heap.objs.size,upd H1 s1.heap.objs.size (.lst xs),I1.laid (t':=s1.toks) (fun b u e=>zWD _ e) (zWI _) ?_,rfl,q _ hf⟩;exact ⟨z,us,0,r,zWM _ rfl⟩
end
abbrev Sp:=List V -> Hp -> VK -> XK -> Prop
abbrev CXT:=List Env -> Hp -> Shared -> XK -> Value -> Shared -> Prop
structure Env0 (P:Program) (w:World) (K:PySem.W.Frag) (mg:Str -> Option Value) (base:Heap) (A:Around) (outer:List Env) (s:Shared) (H:Hp):Prop where
 frames:A.frames = some outer
 mod:Mod K mg base
 bs:∀ b o,base.get? b = some o -> s.heap.get? b = some o /\ H b = none
 bsz:base.objs.size <= s.heap.objs.size
 funs:s.heap.FunFrames base outer
 frf:∀ b ∈ frs outer,H b = none
 hok:HOk P w H s.heap
 bare:AllBare s.gens
def CE (outer:List Env) (P:Program) (w:World) (H:Hp) (s:Shared) (Q:VK) (u:Value) (s':Shared):Prop :=
 ∃ v H',s'.os = s.os /\ AllBare s'.gens /\ Un (frs outer) [] H H' s.heap s'.heap /\ HOk P w H' s'.heap /\ zw v u /\ Q v H'
def CR (CX:CXT) (outer:List Env) (P:Program) (w:World) (H:Hp) (s:Shared) (Q:VK) (E:XK) (r:Result) (s':Shared):Prop :=
 match r with
 | .ok (.ret u)=>CE outer P w H s Q u s'
 | .ok _=>False
 | .error e=>CX outer H s E e s'
structure FnOk (P:Program) (w:World) (K:PySem.W.Frag) (mg:Str -> Option Value) (base:Heap) (CX:CXT) (k:Nat) (f:Addr) (fd:FuncData) (ps:List Str) (sp:Sp):Prop where
 len:∀ vs H Q E,sp vs H Q E -> vs.length = ps.length
 run:∀ (A:Around) (outer:List Env) (s:Shared) (H:Hp) (args:Args) (us:List Value) (vs:List V) (Q:VK) (E:XK),Room k A -> Env0 P w K mg base A outer s H -> BindsTo s fd args (ps.zip us) -> zm vs us -> sp vs H Q E ->
  codeAny (model P w) A (.call (.ref f) args) (CR CX outer P w H s Q E) s
theorem FnOk.imp {P:Program} {w:World} {K:PySem.W.Frag} {mg:Str -> Option Value} {base:Heap} {CX:CXT} {k:Nat} {f:Addr} {fd:FuncData} {ps:List Str} {sp sp':Sp} (F:FnOk P w K mg base CX k f fd ps sp)
  (h:∀ vs H Q E,sp' vs H Q E -> sp vs H Q E):FnOk P w K mg base CX k f fd ps sp' :=
 ⟨fun vs H Q E q=>F.len vs H Q E (h _ _ _ _ q),fun A outer s H args us vs Q E hr he hb hv hs=>F.run A outer s H args us vs Q E hr he hb hv (h _ _ _ _ hs)⟩
section
variable {X:Cx} {zB:List (Addr × Obj)} {σ:St} {H:Hp} {s s':Shared}
theorem Inv.env0 (I:Inv X zB σ H s):Env0 X.prog X.w X.K X.mg X.base X.A X.stack s H :=
 ⟨I.ok.frames,I.ok.mod,I.bs,zWd I.ok.bsz I.sz,I.stack,I.stkFree,I.hok,I.bare⟩
theorem Inv.after {Q:VK} {u:Value} (I:Inv X zB σ H s) (h:CE X.stack X.prog X.w H s Q u s'):EP X zB σ Q u s':=by
 obtain ⟨v,H',os,bare,un,hok,r,q⟩:=h;obtain ⟨hh,g,d,t,os'⟩:=s';obtain rfl:os' = s.os:=os;exact ⟨v,H',I.call (h':=hh) (g':=g) (d':=d) (t':=t) (ch:=[]) un hok bare (fun b z=>absurd z (by simp)),r,q⟩
end
def zVd (sp:Sp) (dvs:List V) (E:XK) (t:TA):TE:=fun σ H Q=>t σ H fun vs H1=>sp (vs ++ dvs) H1 Q E
def zHs (K:PySem.W.Frag) (fd:FuncData) (ps:List Str) (ds:List Value):Prop :=
 ∀ (s:Shared) (us:List Value),K.In s.heap -> (us ++ ds).length = ps.length -> BindsTo s fd ⟨us,[]⟩ (ps.zip (us ++ ds))
theorem zHs.all {K:PySem.W.Frag} {fd:FuncData} {ps:List Str} (h:∀ us:List Value,us.length = ps.length -> bindArgs fd ⟨us,[]⟩ = pure (ps.zip us)):zHs K fd ps []:=fun s us _ hl=>by
 rw [zWw] at hl ⊢;exact .of_eq (h us hl)
def zM8 (CX:CXT) (X:Cx) (E:XK):Prop:=∀ (zB:List (Addr × Obj)) (σ:St) (H:Hp) (s:Shared) (e:Value) (s':Shared),Inv X zB σ H s -> CX X.stack H s E e s' -> X.xe e s'
section
variable {X:Cx} {CX:CXT} {k:Nat} {f C:Addr} {fd:FuncData} {ps:List Str} {sp:Sp} {dvs:List V} {ds:List Value} {E:XK} {x m:Str} {p pos apos:Pos} {e o:Expr} {es:List Expr} {ta:TE} {t:TA}
theorem zTl {zB:List (Addr × Obj)} {σ:St} {H:Hp} {s:Shared} {Q:VK} {us:List Value} {vs:List V} (F:FnOk X.prog X.w X.K X.mg X.base CX k f fd ps sp) (hr:Room k X.A) (hb:zHs X.K fd ps ds) (hd:zm dvs ds) (hx:zM8 CX X E)
  (I:Inv X zB σ H s) (r:zm vs us) (h:sp (vs ++ dvs) H Q E):wpAny (model X.prog X.w) X.A (call (.ref f) us) (EP X zB σ Q) X.xe s:=by
 have r2:zm (vs ++ dvs) (us ++ ds):=r.append hd;have hl:(us ++ ds).length = ps.length:=by rw [<- r2.length]; exact F.len _ _ _ _ h
 refine wpAny_call (codeAny_mono (F.run X.A X.stack s H ⟨us,[]⟩ (us ++ ds) (vs ++ dvs) Q E hr I.env0 (hb s us I.kIn hl) r2 h) fun r s' hq=>?_);cases r with
 | error e=>exact hx zB σ H s e s' I hq
 | ok fl=>
  cases fl with
  | ret u=>exact I.after hq
  | next=>exact False.elim hq
  | brk=>exact False.elim hq
  | cont=>exact False.elim hq
theorem zSB (F:FnOk X.prog X.w X.K X.mg X.base CX k f fd ps sp) (hr:Room k X.A) (hg:Gl X x) (hm:X.mg x = some (.ref f)) (hk:PySem.W.keepIn X.K (.ref f) = true) (hb:zHs X.K fd ps ds) (hd:zm dvs ds) (hx:zM8 CX X E)
  (ha:PA X (e :: es) t) (hdb:(x == ("__debug__" : Str)) = false:=by decide) (he:starEach (e :: es) X.env = (false,eval e X.env) :: starEach es X.env:=by rfl) (hpl:(backTo pos (starEach es X.env)).any (·.1) = false:=by rfl) :
  PE X (.Call (.Name x p) (e :: es) [] pos) (zVd sp dvs E t):=by
 intro zB s σ H Q I h;refine wpAny_Call_Name_kw (zSH I hg hm ?_ hdb);refine PySem.W.callWith_K (h₀:=X.base) I.ok.mod.kin hk (thn (ha pos zB s σ H _ I h) fun us s1 ⟨vs,H1,I1,r,q⟩=>⟨I1.kIn,?_⟩) he hpl;exact zTl F hr hb hd hx I1 r q
end
structure FnScope (N P:List Str) (sc:Scope):Prop where
 kind:sc.kind = .function
 co:sc.isCoroutine = false
 gen:sc.isGenerator = false
 nd:N.Nodup
 pre:N.take P.length = P
 par:∀ x ∈ P,sc.names.lookup x = some .local \/ sc.names.lookup x = some .cell
 nofree:∀ y ∈ sc.names,y.2 ≠ .free
theorem zJB {kindOf:Str -> Option NameKind} {x:Str}:∀ {binds:List (Str × Value)} {m:Str -> Option Value},(∀ v,(x,v) ∉ binds) -> bindL kindOf binds m x = m x
 | [],_,_=>rfl
 | (n,v) :: r,m,h=>by
  unfold bindL;rw [zJB fun w hw=>h w (zWP _ hw)];split
  ·have:x ≠ n:=by rintro rfl; exact h v zWQ
   simp [this]
  ·rfl
theorem zI6 {kindOf:Str -> Option NameKind} {x:Str}:∀ {binds:List (Str × Value)} {m:Str -> Option Value},(∀ v,(x,v) ∉ binds) -> bindC kindOf binds m x = m x
 | [],_,_=>rfl
 | (n,v) :: r,m,h=>by
  unfold bindC;rw [zI6 fun w hw=>h w (zWP _ hw)];split
  ·rfl
  ·have:x ≠ n:=by rintro rfl; exact h v zWQ
   simp [this]
theorem zJF {kindOf:Str -> Option NameKind} {x:Str} {v:Value}:∀ {P:List Str} {vs:List Value} {i:Nat} {m:Str -> Option Value},P.Nodup -> P[i]? = some x -> vs[i]? = some v -> kindOf x = some .local ->
  bindL kindOf (P.zip vs) m x = some v
 | [],_,_,_,_,h,_,_=>by simp at h
 | _ :: _,[],_,_,_,_,h,_=>by simp at h
 | p :: P,w :: vs,0,m,nd,h1,h2,hk=>by
  simp at h1 h2; subst h1; subst h2;show bindL kindOf ((p,w) :: P.zip vs) m p = _;unfold bindL;rw [zJB fun v hv=>(List.nodup_cons.mp nd).1 (List.of_mem_zip hv).1,zWR hk];simp
 | p :: P,w :: vs,i + 1,m,nd,h1,h2,hk=>by
  show bindL kindOf ((p,w) :: P.zip vs) m x = _;unfold bindL;exact zJF (i:=i) (List.nodup_cons.mp nd).2 (by simpa using h1) (by simpa using h2) hk
theorem zI3 {kindOf:Str -> Option NameKind} {x:Str} {v:Value}:∀ {P:List Str} {vs:List Value} {i:Nat} {m:Str -> Option Value},P.Nodup -> P[i]? = some x -> vs[i]? = some v -> kindOf x ≠ some .local ->
  bindC kindOf (P.zip vs) m x = some v
 | [],_,_,_,_,h,_,_=>by simp at h
 | _ :: _,[],_,_,_,_,h,_=>by simp at h
 | p :: P,w :: vs,0,m,nd,h1,h2,hk=>by
  simp at h1 h2; subst h1; subst h2;show bindC kindOf ((p,w) :: P.zip vs) m p = _;unfold bindC;rw [zI6 fun v hv=>(List.nodup_cons.mp nd).1 (List.of_mem_zip hv).1,zWU hk];simp
 | p :: P,w :: vs,i + 1,m,nd,h1,h2,hk=>by
  show bindC kindOf ((p,w) :: P.zip vs) m x = _;unfold bindC;exact zI3 (i:=i) (List.nodup_cons.mp nd).2 (by simpa using h1) (by simpa using h2) hk
def zEY (N:List Str) (vs:List V):St:=vs.map some ++ List.replicate (N.length - vs.length) none
def zMn (CX:CXT) (P:Program) (w:World) (K:PySem.W.Frag) (mg:Str -> Option Value) (base:Heap) (N:List Str) (qual:Str) (scope:Scope) (f:Addr) (cd:Value) (A:Around) (outer:List Env) (s:Shared) (H:Hp) (E:XK):Cx where
 prog:=P
 w:=w
 K:=K
 mg:=mg
 base:=base
 A:=A.deeper (envOfC qual scope s.heap.objs.size f cd)
 N:=N
 s₀:=s
 H₀:=H
 env:=envOfC qual scope s.heap.objs.size f cd
 outer:=outer
 stack:=envOfC qual scope s.heap.objs.size f cd :: outer
 ex:=[]
 calm:=true
 fn:=fun _=>true
 pn:=[]
 xe:=fun e s'=>wpAny (model P w) (A.deeper (envOfC qual scope s.heap.objs.size f cd)) (leaving (envOfC qual scope s.heap.objs.size f cd) e) (fun _ s''=>CX outer H s E e s'') (fun e' s''=>CX outer H s E e' s'') s'
theorem zIV {sc:Scope} {n:Nat} {x:Str} (h:sc.names.lookup x = some .cell):∃ c,(cellsFrom n sc.names []).lookup x = some c:=by
 have q:=PySem.W.cellsFrom_some sc.names n [] (.inl h);exact Option.isSome_iff_exists.mp q
theorem zN9 {CX:CXT} {P:Program} {w:World} {K:PySem.W.Frag} {mg:Str -> Option Value} {base:Heap} {N ps:List Str} {qual:Str} {scope:Scope} {f:Addr} {cd:Value} {A:Around} {outer:List Env} {s s1:Shared} {H:Hp} {E:XK} {us:List Value} {vs:List V}
  (S:FnScope N ps scope) (hd:A.handled = none) (e0:Env0 P w K mg base A outer s H) (hl:vs.length = ps.length) (r:zm vs us)
  (x:InCallC s s.heap.objs.size (bindL (envOfC qual scope s.heap.objs.size f cd).kindOf (ps.zip us) fun _=>none) (cellsFrom (s.heap.objs.size + 1) scope.names []) (bindC (envOfC qual scope s.heap.objs.size f cd).kindOf (ps.zip us) fun _=>none) s1) :
  Inv (zMn CX P w K mg base N qual scope f cd A outer s H E) [] (zEY N vs) H s1:=by
 have hpl:ps.length <= N.length:=by have:=zXz List.length S.pre; rw [zXa] at this; omega
 obtain ⟨h1,tk,rfl,hk⟩:=x.done;have noA:∀ b:Addr,b ∉ (zMn CX P w K mg base N qual scope f cd A outer s H E).ex:=fun b z=>absurd (show b ∈ ([]:List Addr) from z) (by simp)
 refine ⟨⟨e0.mod,S.kind,rfl,rfl,zWI _,fun y z c h1 h2=>?_,fun y hy=>?_,fun y c _ h=>?_,fun _=>hd,Around.frames_deeper e0.frames,.inr ⟨rfl,rfl⟩,fun b z=>absurd z (noA b),e0.bs,e0.bsz,fun b _ _=>noA b,fun b z=>absurd z (noA b),e0.funs,e0.frf⟩,
  rfl,e0.bare,Un.kept hk,⟨_,x.toInCall.ns,fun i y v h1 h2 h3=>?_⟩,fun y c h=>⟨_,x.cell y c h⟩,e0.hok.fresh (zWI _),fun y c h=>?_,fun p hp=>absurd (show p ∈ ([]:List (Addr × Obj)) from hp) (by simp),e0.hok.kept hk,?_⟩
 ·exact name_of_addr x.apart (zXE h1) (zXE h2)
 ·have hy:scope.names.lookup y = some .cell \/ scope.names.lookup y = some .free:=hy;rcases hy with hy | hy
  ·exact zIV hy
  ·exact absurd rfl (S.nofree _ (zXE hy))
 ·exact Nat.le_of_lt (x.above y c (zXE h))
 ·have hi:i < vs.length:=by
   unfold zEY at h2;by_cases hi:i < vs.length
   ·exact hi
   ·rw [zXM (by simpa using hi)] at h2;rw [List.getElem?_replicate] at h2;split at h2 <;> cases h2
  have ha:vs[i]? = some v:=by
   unfold zEY at h2;rw [zWJ (by simpa using hi),zWZ] at h2;cases e:vs[i]? with
   | none=>rw [e] at h2; cases h2
   | some a=>rw [e] at h2; cases h2; rfl
  obtain ⟨u,hu,rv⟩:=r.get ha;have hp:ps[i]? = some y:=by
   rw [<- S.pre,List.getElem?_take_of_lt (by omega)]; exact h1
  have ndP:ps.Nodup:=by rw [<- S.pre]; exact S.nd.sublist (List.take_sublist _ _)
  refine ⟨u,rv,?_⟩;rcases S.par y (List.mem_of_getElem? hp) with k | k
  ·exact .inl ⟨k,zJF ndP hp hu k⟩
  ·obtain ⟨c,e⟩:=zIV (n:=s.heap.objs.size + 1) k;refine .inr ⟨.inl k,c,e,?_⟩;have q:=x.cell y c e;rw [zI3 ndP hp hu (by show scope.names.lookup y ≠ _; rw [k]; decide)] at q;exact q
 ·exact e0.hok.fresh (Nat.le_of_lt (x.above y c (zXE h)))
 ·unfold zEY;show _ = N.length;rw [zWS,zWL,List.length_replicate];omega
theorem zUv {CX:CXT} {P:Program} {w:World} {K:PySem.W.Frag} {mg:Str -> Option Value} {base:Heap} {k:Nat} {f:Addr} {name qual:Str} {params:Arguments} {body:List Stmt} {scope:Scope} {dV kV doc pm cdv ct oc:Value} {an od:Option Addr}
  {osl:Array (Option Value)} {N ps:List Str} {sp:Sp} (lk:K.lookup f = some ⟨oc,od,.func (PySem.W.fnOf name qual params body scope dV kV doc pm an cdv ct),osl⟩) (hcd:PySem.W.codeIn K cdv qual = true) (S:FnScope N ps scope)
  (len:∀ vs H Q E,sp vs H Q E -> vs.length = ps.length)
  (hbody:∀ (A:Around) (outer:List Env) (s:Shared) (H:Hp) (vs:List V) (Q:VK) (E:XK),Room k (A.deeper (envOfC qual scope s.heap.objs.size f cdv)) -> sp vs H Q E ->
   ∃ t,PSs (zMn CX P w K mg base N qual scope f cdv A outer s H E) body t /\ t { nx:=fun _ H'=>Q .non H',rt:=Q } (zEY N vs) H) :
  FnOk P w K mg base CX (k + 1) f (PySem.W.fnOf name qual params body scope dV kV doc pm an cdv ct) ps sp:=by
 refine ⟨len,fun A outer s H args us vs Q E hr e0 hb r hsp=>?_⟩;have hl:=len _ _ _ _ hsp;have KX:K.In s.heap:=e0.mod.kin.keeps fun b o e=>(e0.bs b o e).1;have lim:s.heap.NoLimit:=e0.mod.nolimit.keeps fun b o e=>(e0.bs b o e).1;have hkind:∀ y ∈ ps.zip us,scope.names.lookup y.1 = some .local \/ (scope.names.lookup y.1 = some .cell /\ ((cellsFrom (s.heap.objs.size + 1) scope.names []).lookup y.1).isSome = true):=fun ⟨n,v⟩ hy=>by
  rcases S.par n (List.of_mem_zip hy).1 with q | q
  ·exact .inl q
  ·exact .inr ⟨q,PySem.W.cellsFrom_some _ _ _ (.inl q)⟩
 refine codeAny_call_function hr.depth (KX _ _ lk) rfl S.co S.gen rfl (PySem.W.codeRec_of KX hcd) (hb _ _ _ _ ?_);refine wpAny_newFunctionEnv_cells S.kind hkind fun env he s1 x=>?_;subst he;refine ⟨lim.keeps x.toInCall.keep,codeAny_func ?_⟩;obtain ⟨t,ht,hq⟩:=hbody A outer s H vs Q E (hr.deeper _) hsp;have I:Inv (zMn CX P w K mg base N qual scope f cdv A outer s H E) [] (zEY N vs) H s1:=zN9 S hr.hd e0 hl r x;refine zWi (ht [] s1 (zEY N vs) H _ I hq) (fun fl s' hs=>?_) fun e s' hs=>hs;have fin:∀ {σ':St} {H':Hp} {v:V} {u:Value},Inv (zMn CX P w K mg base N qual scope f cdv A outer s H E) [] σ' H' s' -> zw v u -> Q v H' -> CE outer P w H s Q u s' :=
  fun {σ' H' v u} J rv q=>⟨v,H',J.os,J.bare,J.base,J.hok,rv,q⟩
 cases fl with
 | ret u=>
  obtain ⟨v,σ',H',J,rv,q⟩:=hs;exact fin J rv q
 | next=>
  obtain ⟨σ',H',J,q⟩:=hs;exact fin (v:=V.non) (u:=Value.none) J rfl q
 | brk=>
  obtain ⟨_,_,_,q⟩:=hs;exact False.elim q
 | cont=>
  obtain ⟨_,_,_,q⟩:=hs;exact False.elim q
section
variable {X:Cx} {x:Str} {p pos:Pos} {e:Expr} {es:List Expr} {t:TA} {id T:String} {r:List V -> Hp -> VK -> Prop}
def tCB (r:List V -> Hp -> VK -> Prop) (t:TA):TE:=fun σ H Q=>t σ H fun vs H1=>r vs H1 Q
theorem zLY (hc:zCb X (.builtin id) r) (hg:Gl X x) (hm:X.mg x = none) (hv:bootBuiltins x = some (.builtin id)) (ha:PA X (e :: es) t) (hn:x ≠ "__name__" := by decide) (hdb:(x == ("__debug__" : Str)) = false:=by decide)
  (he:starEach (e :: es) X.env = (false,eval e X.env) :: starEach es X.env:=by rfl) (hpl:(backTo pos (starEach es X.env)).any (·.1) = false:=by rfl):PE X (.Call (.Name x p) (e :: es) [] pos) (tCB r t):=by
 intro zB s σ H Q I h;refine wpAny_Call_Name_kw (zFp I hg hm hv ?_ hn hdb);exact PyProof.Rows.callWith_builtin1 (thn (ha pos zB s σ H _ I h) fun us s1 ⟨vs,H1,I1,r1,q1⟩=>hc zB s1 σ H1 vs us Q I1 r1 q1) he hpl
theorem zGZ (hc:zCb X (.type T) r) (hg:Gl X x) (hm:X.mg x = none) (hv:bootBuiltins x = some (.type T)) (ha:PA X (e :: es) t) (hn:x ≠ "__name__" := by decide) (hdb:(x == ("__debug__" : Str)) = false:=by decide)
  (he:starEach (e :: es) X.env = (false,eval e X.env) :: starEach es X.env:=by rfl) (hpl:(backTo pos (starEach es X.env)).any (·.1) = false:=by rfl):PE X (.Call (.Name x p) (e :: es) [] pos) (tCB r t):=by
 intro zB s σ H Q I h;refine wpAny_Call_Name_kw (zFp I hg hm hv ?_ hn hdb);exact PyProof.Rows.callWith_type1 (thn (ha pos zB s σ H _ I h) fun us s1 ⟨vs,H1,I1,r1,q1⟩=>hc zB s1 σ H1 vs us Q I1 r1 q1) he hpl
end
end L2
namespace HT
open PySem PyProof.Rows
section
variable {prog:Program} {w:World} {A:Around} {E:Value -> Shared -> Prop} {s:Shared}
theorem zRq {t b:Addr} {vs ws:List Value} {Q:Value -> Shared -> Prop} (ht:IsTup s.heap t vs.toArray) (hb:IsTup s.heap b ws.toArray) (hv:vs ≠ [])
  (h1:ws = [] -> Q (.ref t) s) (h2:ws ≠ [] -> Q (.ref s.heap.objs.size) { s with heap:=s.heap.push { cls:=.type "tuple", data:=.seq (vs ++ ws).toArray } })
  (hsz:vs.length + ws.length <= sizeLine):wpAny (model prog w) A (binaryOp .Add (.ref t) (.ref b)) Q E s:=by
 obtain ⟨⟨cls,dd,data,sl⟩,ho,hc,n,hd⟩:=id ht;obtain ⟨⟨cls2,dd2,data2,sl2⟩,ho2,hc2,n2,hd2⟩:=id hb;simp only at hc hd hc2 hd2;subst hc hd hc2 hd2;have e:vs.toArray ++ ws.toArray = (vs ++ ws).toArray:=by simp
 by_cases hw:ws = []
 ·exact concat_meets ⟨_,ho,rfl⟩ ⟨_,ho2,rfl⟩ noFill_tuple_add seq_tuple_add PySem.F.slot_tuple_add PySem.F.entry_tuple_add (PySem.F.args_tuple_add_2 _ _)
   (tuple_addW1 t b vs.toArray ws.toArray n n2 dd dd2 sl sl2 (by simpa using hv) (by simp [hw])) ⟨ho,ho2,h1 hw⟩
 ·refine concat_meets ⟨_,ho,rfl⟩ ⟨_,ho2,rfl⟩ noFill_tuple_add seq_tuple_add PySem.F.slot_tuple_add PySem.F.entry_tuple_add (PySem.F.args_tuple_add_2 _ _)
   (tuple_addW2 t b vs.toArray ws.toArray n n2 dd dd2 sl sl2 (by simpa using hv) (by simpa using hw) (by rw [zWK,zWK]; exact hsz)) ⟨ho,ho2,?_⟩
  rw [e];exact h2 hw
def sIx (n d:Nat):Option Int -> Nat
 | none=>d
 | some v=>if v < 0 then (v + (n:Int)).toNat else min v.toNat n
theorem zKM (n d k:Nat):sIx n d (some (k:Int)) = min k n:=by
 show (if (k:Int) < 0 then ((k:Int) + (n:Int)).toNat else min (k:Int).toNat n) = min k n;rw [zWU (by omega),Int.toNat_natCast]
theorem zUn (n d:Nat) (hd:d <= n) (o:Option Int):sIx n d o <= n:=by
 cases o with
 | none=>exact hd
 | some v=>
  show (if v < 0 then (v + (n:Int)).toNat else min v.toNat n) <= n;by_cases hv:v < 0
  ·rw [zWR hv]; omega
  ·rw [zWU hv]; exact Nat.min_le_right _ _
theorem zNs (v:Int) (n d:Nat):(if v < 0 then max (v + (n:Int)) 0 else min v (n:Int)) = ((sIx n d (some v):Nat):Int):=by
 show (if v < 0 then max (v + (n:Int)) 0 else min v (n:Int)) = (((if v < 0 then (v + (n:Int)).toNat else min v.toNat n):Nat):Int);by_cases hv:v < 0
 ·simp only [zWR hv]; omega
 ·simp only [zWU hv]; omega
theorem zMk (lo hi:Option Int) (n:Nat):Builtin.Slice.sliceAdjust lo hi 1 (n:Int) = (((sIx n 0 lo:Nat):Int),((sIx n n hi:Nat):Int)):=by
 have h1:¬ ((1:Int) < 0):=by omega
 unfold Builtin.Slice.sliceAdjust;simp only [h1,if_false];refine Prod.ext ?_ ?_
 ·cases lo with
  | none=>rfl
  | some v=>exact zNs v n 0
 ·cases hi with
  | none=>rfl
  | some v=>exact zNs v n n
theorem zMR (i j:Nat):Builtin.Slice.slicePlaces (i:Int) (j:Int) 1 = j - i:=by
 unfold Builtin.Slice.slicePlaces;have h1:(1:Int) > 0:=by omega
 simp only [h1,if_true,Int.ediv_one];split <;> omega
theorem zHp {v:Value} {o:Option Int} {Q:Option Int -> Shared -> Prop} (p:IsPart v o) (h:Q o s):wpAny (model prog w) A (Builtin.Slice.slicePartIndex v) Q E s:=by
 cases p with
 | none=>exact slicePart_none h
 | int i t=>exact slicePart_int h
theorem zDy {sl:Addr} {vl vu:Value} {lo hi:Option Int} {n:Nat} {Q:Int × Int × Nat -> Shared -> Prop} (hs:s.heap.IsSliceOf sl vl vu .none) (pl:IsPart vl lo) (pu:IsPart vu hi)
  (h:Q (((sIx n 0 lo:Nat):Int),1,sIx n n hi - sIx n 0 lo) s):wpAny (model prog w) A (Builtin.Slice.sliceApplied (.ref sl) (pure (n:Int))) Q E s:=by
 obtain ⟨os,hos,hcs,hds⟩:=id hs;unfold Builtin.Slice.sliceApplied Builtin.Slice.sliceFields;refine zWC (zWC (zWr hos hds (x:=vl) rfl (zWC (zWr hos hds (x:=vu) rfl (zWC (zWr hos hds (x:=.none) rfl (zWE ?_)))))));refine zWC (slicePart_none ?_);show wpAny _ _ (if ((1:Int) == 0) = true then _ else _) _ _ s;rw [zWU (by decide)];refine zWC (zHp pl (zWC (zHp pu (zWC (zWE ?_)))));show wpAny _ _ (match Builtin.Slice.sliceAdjust lo hi 1 (n:Int) with | (lo,hi)=>pure (lo,(1:Int),Builtin.Slice.slicePlaces lo hi 1)) _ _ s;rw [zMk lo hi n];show wpAny _ _ (pure (((sIx n 0 lo:Nat):Int),(1:Int),Builtin.Slice.slicePlaces ((sIx n 0 lo:Nat):Int) ((sIx n n hi:Nat):Int) 1)) _ _ s;rw [zMR];exact zWE h
theorem zRE (xs:Array Value) (i k:Nat):((List.range k).filterMap fun (m:Nat)=>xs[((i:Int) + (m:Int) * 1).toNat]?).toArray = ((xs.toList.drop i).take k).toArray:=by
 have e:(fun (m:Nat)=>xs[((i:Int) + (m:Int) * 1).toNat]?) = fun m=>xs[i + m]?:=by
  funext m;have:((i:Int) + (m:Int) * 1).toNat = i + m:=by omega
  rw [this]
 rw [e];have:=pick_run xs i k;rw [List.filterMap_map] at this;have e2:((fun x=>xs[x]?) ∘ fun x=>i + x) = fun m=>xs[i + m]?:=rfl;rw [e2] at this;rw [this]
theorem zGD {t sl:Addr} {items:Array Value} {vl vu:Value} {lo hi:Option Int} {Q:Value -> Shared -> Prop} (ht:IsTup s.heap t items) (hs:s.heap.IsSliceOf sl vl vu .none) (pl:IsPart vl lo) (pu:IsPart vu hi)
  (hw:¬ (sIx items.size 0 lo = 0 /\ sIx items.size items.size hi = items.size))
  (h:Q (.ref s.heap.objs.size) { s with heap:=s.heap.push { cls:=.type "tuple", data:=.seq ((items.toList.drop (sIx items.size 0 lo)).take (sIx items.size items.size hi - sIx items.size 0 lo)).toArray } })
  (hsz:items.size <= sizeLine):wpAny (model prog w) A (getItem (.ref t) (.ref sl)) Q E s:=by
 have htake:sizeOk (.seq ((items.toList.drop (sIx items.size 0 lo)).take (sIx items.size items.size hi - sIx items.size 0 lo)).toArray):=by
  show ((items.toList.drop (sIx items.size 0 lo)).take (sIx items.size items.size hi - sIx items.size 0 lo)).toArray.size <= sizeLine;rw [zWK,zXa,zYf,zWv];omega
 have hj:sIx items.size items.size hi <= items.size:=zUn _ _ (zWI _) hi;obtain ⟨os,hos,hcs,hds⟩:=id hs;have hTs:s.TypeIs (.ref sl) "slice" := ⟨os,hos,hcs⟩;unfold getItem;try with_reducible refine zW5 ?_
 first | refine zWC (zWE ?_) | skip
 refine zWC (wpAny_sequenceKey ht.typeIs (by decide) ?_)
 refine zWC (zWo (name:=Str.ofString "__getitem__") ht.typeIs zXk
  (zWp zXk ht.typeIs entry_tuple_getitem ?_ (args_tuple_getitem _ _)))
 show wpAny _ _ (Builtin.Tuple.tupleItemsOf (.ref t) >>= _) _ _ s;refine zWC (tupleItemsOf_ ht ?_);refine zWC (wpAny_typeOf hTs ?_);rw [zWR (by decide)];refine zWC (zDy hs pl pu ?_);have hno:¬ ((((sIx items.size 0 lo:Nat):Int) == 0 && (1:Int) == 1 && (sIx items.size items.size hi - sIx items.size 0 lo) == items.size) = true):=by
  intro q;rw [zWm,zWm] at q;have q1:((sIx items.size 0 lo:Nat):Int) = 0:=eq_of_beq q.1.1;have q2:sIx items.size items.size hi - sIx items.size 0 lo = items.size:=eq_of_beq q.2;exact hw ⟨by omega,by omega⟩
 show wpAny _ _ (if (((sIx items.size 0 lo:Nat):Int) == 0 && (1:Int) == 1 && (sIx items.size items.size hi - sIx items.size 0 lo) == items.size) = true then _ else _) _ _ s;rw [zWU hno,zRE]
 first
  | exact zWC (m:=Builtin.Tuple.tupleExact _) (zWf (zWE ⟨_,rfl,zWE h⟩) htake)
  | exact zWC (m:=Builtin.Tuple.tupleExact _) (zWf (zWC (zWE (zWE ⟨_,rfl,zWE h⟩))) htake)
  | exact zWC (zWC (m:=Builtin.Tuple.tupleExact _) (zWf (zWE (zWE ⟨_,rfl,zWE h⟩)) htake))
  | exact zWC (zWC (m:=Builtin.Tuple.tupleExact _) (zWf (zWE ⟨_,rfl,zWE h⟩) htake))
end
end HT
namespace L2
open PySem PySem.Spec PyProof.Rows
abbrev TO:=St -> Hp -> (Option Int -> Hp -> Prop) -> Prop
def PO (X:Cx) (e:Option Expr) (t:TO):Prop :=
 ∀ (zB:List (Addr × Obj)) (s:Shared) (σ:St) (H:Hp) (Q:Option Int -> Hp -> Prop),Inv X zB σ H s -> t σ H Q ->
  wpAny (model X.prog X.w) X.A (evalPart e X.env) (fun u s'=>∃ o H',Inv X zB σ H' s' /\ IsPart u o /\ Q o H') X.xe s
def zSs:TO:=fun _ H Q=>Q none H
def zU4 (t:TE):TO:=fun σ H Q=>t σ H fun x H1=>∃ i,x = .int i /\ Q (some i) H1
section
variable {X:Cx} {e:Expr} {te:TE} {lo hi:Option Expr} {tl th:TO} {pos p2:Pos}
theorem zSm:PO X none zSs:=by
 intro zB s σ H Q I h;rw [evalPart_none];exact zWE ⟨none,H,I,.none,h⟩
theorem zSO (h:PE X e te):PO X (some e) (zU4 te):=by
 intro zB s σ H Q I hw;rw [evalPart_some];refine thn (h zB s σ H _ I hw) fun u s1 ⟨x,H1,I1,r1,q1⟩=>?_;obtain ⟨i,rfl,q⟩:=q1;obtain ⟨t,rfl⟩:=r1;exact ⟨some i,H1,I1,.int i t,q⟩
def SlR (X:Cx) (r:V -> Option Int -> Option Int -> Hp -> VK -> Prop):Prop :=
 ∀ (zB:List (Addr × Obj)) (s:Shared) (σ:St) (H:Hp) (x:V) (v vl vu:Value) (lo hi:Option Int) (sl:Addr) (Q:VK),Inv X zB σ H s -> zw x v -> s.heap.IsSliceOf sl vl vu .none -> IsPart vl lo -> IsPart vu hi -> r x lo hi H Q ->
  ∃ T id,typeLookup (.type T) "__getitem__" = pure (some (.builtin id)) /\ s.TypeIs v T /\ wpAny (model X.prog X.w) X.A (getItem v (.ref sl)) (EP X zB σ Q) X.xe s
theorem SlR.or {r r':V -> Option Int -> Option Int -> Hp -> VK -> Prop} (h:SlR X r) (h':SlR X r'):SlR X (fun x lo hi H Q=>r x lo hi H Q \/ r' x lo hi H Q):=by
 intro zB s σ H x v vl vu lo hi sl Q I rx hs pl pu q;rcases q with q | q
 ·exact h zB s σ H x v vl vu lo hi sl Q I rx hs pl pu q
 ·exact h' zB s σ H x v vl vu lo hi sl Q I rx hs pl pu q
def tSl (r:V -> Option Int -> Option Int -> Hp -> VK -> Prop) (te:TE) (tl th:TO):TE:=fun σ H Q=>te σ H fun x H1=>tl σ H1 fun l H2=>th σ H2 fun u H3=>r x l u H3 Q
theorem zQ2 {r:V -> Option Int -> Option Int -> Hp -> VK -> Prop} (hr:SlR X r) (he:PE X e te) (hl:PO X lo tl) (hu:PO X hi th):PE X (.Subscript e (.Slice lo hi none p2) pos) (tSl r te tl th):=by
 intro zB s σ H Q I h;refine Subscript_ (thn (he zB s σ H _ I h) fun v s1 ⟨x,H1,I1,r1,q1⟩=>?_);refine wpAny_Slice (thn (hl zB s1 σ H1 _ I1 q1) fun vl s2 ⟨l,H2,I2,pl,q2⟩=>thn (hu zB s2 σ H2 _ I2 q2) fun vu s3 ⟨u,H3,I3,pu,q3⟩=>?_);rw [evalPart_none];refine zWE ?_;have I4:Inv X zB σ H3 { s3 with heap:=s3.heap.push { cls:=.type "slice", data:=.fields #[vl,vu,.none] } }:=I3.kept (t':=s3.toks) fun b ob q=>zWD _ q;obtain ⟨T,id,hT,ht,hg⟩:=hr zB { s3 with heap:=s3.heap.push { cls:=.type "slice", data:=.fields #[vl,vu,.none] } } σ H3 x v vl vu l u s3.heap.objs.size Q I4 r1 (Heap.IsSliceOf.new ..) pl pu q3;show wpAny (model X.prog X.w) X.A (subscriptTail e (.Slice lo hi none p2) v (.ref s3.heap.objs.size)) (EP X zB σ Q) X.xe { s3 with heap:=s3.heap.push { cls:=.type "slice", data:=.fields #[vl,vu,.none] } };exact tail_any (ops:=[.ref s3.heap.objs.size,v]) ht hT hg (by with_unfolding_all rfl)
def zMD (xs:List V) (lo hi:Option Int):List V:=(xs.drop (HT.sIx xs.length 0 lo)).take (HT.sIx xs.length xs.length hi - HT.sIx xs.length 0 lo)
theorem zGy (xs:List V) (lo hi:Option Int):(zMD xs lo hi).length <= xs.length:=by
 unfold zMD;rw [zXa,zYf];omega
def zWA (K:PySem.W.Frag):V -> Option Int -> Option Int -> Hp -> VK -> Prop:=fun x lo hi H Q=>∃ a xs,x = .ref a /\ SqT K H a xs /\
 ¬ (HT.sIx xs.length 0 lo = 0 /\ HT.sIx xs.length xs.length hi = xs.length) /\ ∀ p,H p = none -> Q (.ref p) (upd H p (.tup (zMD xs lo hi)))
theorem zUJ:SlR X (zWA X.K):=by
 intro zB s σ H x v vl vu lo hi sl Q I rx hs pl pu h;obtain ⟨a,xs,rfl,hx,hw,q⟩:=h;cases rx;obtain ⟨its,r,ht,hz⟩:=I.tuple hx;have hlen:its.toArray.size = xs.length:=by rw [zWK]; exact r.length.symm
 refine ⟨"tuple", _,zXk.lookup,ht.typeIs,?_⟩;refine HT.zGD ht hs pl pu (by rw [hlen]; exact hw) ?_ (by rw [hlen]; exact hz);rw [hlen];refine ⟨.ref s.heap.objs.size,_,I.laid (t':=s.toks) (o:=.tup (zMD xs lo hi)) (fun b ob q=>zWD _ q) (zWI _) ?_,rfl,q _ (I.hok.fresh (zWI _))⟩;exact ⟨zWd (zGy xs lo hi) hz,_,(r.drop (HT.sIx xs.length 0 lo)).take (HT.sIx xs.length xs.length hi - HT.sIx xs.length 0 lo),zDH.new _ _⟩
def zTD (K:PySem.W.Frag):R2:=fun x y H Q=>∃ a b xs ys,x = .ref a /\ y = .ref b /\ SqT K H a xs /\ SqT K H b ys /\ xs ≠ [] /\ xs.length + ys.length <= sizeLine /\
 (ys = [] -> Q (.ref a) H) /\ (ys ≠ [] -> ∀ p,H p = none -> Q (.ref p) (upd H p (.tup (xs ++ ys))))
theorem zm.nil_iff {xs:List V} {us:List Value} (r:zm xs us):us = [] ↔ xs = []:=by
 cases r with
 | nil=>simp
 | cons _ _=>simp
theorem zSv:OpR X (binaryOp .Add) (zTD X.K):=by
 intro zB s σ H x y v u Q I rx ry h;obtain ⟨a,b,xs,ys,rfl,rfl,ha,hb,hx,hz,q1,q2⟩:=h;cases rx;cases ry;obtain ⟨its,r1,p1,_⟩:=I.tuple ha;obtain ⟨its2,r2,p2,_⟩:=I.tuple hb;refine HT.zRq p1 p2 (fun z=>hx (r1.nil_iff.mp z)) (fun z=>⟨.ref a,H,I,rfl,q1 (r2.nil_iff.mp z)⟩) (fun z=>?_) (by rw [<- r1.length,<- r2.length]; exact hz);refine ⟨.ref s.heap.objs.size,_,I.laid (t':=s.toks) (o:=.tup (xs ++ ys)) (fun b ob q=>zWD _ q) (zWI _) ?_,rfl,q2 (fun w=>z (r2.nil_iff.mpr w)) _ (I.hok.fresh (zWI _))⟩;exact ⟨by rw [zWS]; exact hz,_,r1.append r2,zDH.new _ _⟩
end
def ixN (n:Nat) (i:Int):Option Nat:=if 0 <= i then (if i < n then some i.toNat else none) else if -(n:Int) <= i then some (i + n).toNat else none
def atI {α:Type} (xs:List α) (i:Int):Option α:=(ixN xs.length i).bind fun j=>xs[j]?
theorem zKJ {n:Nat} {i:Int} {j:Nat} (h:ixN n i = some j):seqIndex? i n = some j /\ j < n /\ -(n:Int) <= i /\ i < n:=by
 unfold ixN at h;by_cases h0:0 <= i
 ·rw [zWR h0] at h;by_cases h1:i < n
  ·rw [zWR h1] at h;have e:i.toNat = j:=zXC h;exact ⟨by rw [seqIndex_of h0 h1,e],by omega,by omega,h1⟩
  ·rw [zWU h1] at h; cases h
 ·rw [zWU h0] at h;by_cases h1 : -(n:Int) <= i
  ·rw [zWR h1] at h;have e:(i + n).toNat = j:=zXC h;exact ⟨by rw [seqIndex_neg (by omega) h1,e],by omega,h1,by omega⟩
  ·rw [zWU h1] at h; cases h
theorem zKt {α:Type} {xs:List α} {i:Int} {v:α} (h:atI xs i = some v):∃ j,seqIndex? i xs.length = some j /\ xs[j]? = some v /\ j < xs.length /\ -(xs.length:Int) <= i /\ i < xs.length:=by
 unfold atI at h;cases e:ixN xs.length i with
 | none=>rw [e] at h; cases h
 | some j=>
  rw [e] at h;obtain ⟨h1,h2,h3,h4⟩:=zKJ e;exact ⟨j,h1,h,h2,h3,h4⟩
theorem zNb {α:Type} {xs:List α} {j:Nat} {v:α} (h:xs[j]? = some v):atI xs (j:Int) = some v:=by
 have hj:j < xs.length:=(zWF.mp h).1;have e:ixN xs.length (j:Int) = some j:=by
  unfold ixN;rw [zWR (by omega),zWR (by omega)]; simp
 unfold atI; rw [e]; exact h
def zNh (b:Expr):Prop:=∀ o i,subscripted b false o i = operate [o,i] (getItem o i)
def IxR (X:Cx) (r:R2):Prop :=
 ∀ (value slice:Expr) (zB:List (Addr × Obj)) (s:Shared) (σ:St) (H:Hp) (x y:V) (v u:Value) (Q:VK),Inv X zB σ H s -> zw x v -> zw y u -> r x y H Q ->
  subscripted slice false v u = operate [v,u] (getItem v u) -> wpAny (model X.prog X.w) X.A (subscriptTail value slice v u) (EP X zB σ Q) X.xe s
def MtR (X:Cx) (id:String) (r:V -> List V -> Hp -> VK -> Prop):Prop :=
 ∀ (zB:List (Addr × Obj)) (s:Shared) (σ:St) (H:Hp) (x:V) (xs:List V) (v:Value) (us:List Value) (Q:VK),Inv X zB σ H s -> zw x v -> zm xs us -> r x xs H Q ->
  wpAny (model X.prog X.w) X.A (call (.builtin id) (v :: us)) (EP X zB σ Q) X.xe s
section
variable {X:Cx} {a b:Expr} {ta tb:TE} {pos:Pos}
theorem IxR.or {r r':R2} (h:IxR X r) (h':IxR X r'):IxR X (fun x y H Q=>r x y H Q \/ r' x y H Q):=by
 intro value slice zB s σ H x y v u Q I rx ry q hs;rcases q with q | q
 ·exact h value slice zB s σ H x y v u Q I rx ry q hs
 ·exact h' value slice zB s σ H x y v u Q I rx ry q hs
theorem zVg {r:R2} (hr:IxR X r) (ha:PE X a ta) (hb:PE X b tb) (hs:zNh b):PE X (.Subscript a b pos) (tOp r ta tb):=by
 intro zB s σ H Q I h;exact Subscript_ (zT0 ha hb I h fun v u s2 x y H2 I2 rx ry q=>hr a b zB s2 σ H2 x y v u Q I2 rx ry q (hs _ _))
def zVG (K:PySem.W.Frag):R2:=fun x y H Q=>∃ p xs i v,x = .ref p /\ y = .int i /\ SqL K H p xs /\ atI xs i = some v /\ Q v H
def zVE (K:PySem.W.Frag):R2:=fun x y H Q=>∃ p xs i v,x = .ref p /\ y = .int i /\ SqT K H p xs /\ atI xs i = some v /\ Q v H
def zUw:R2:=fun x y H Q=>∃ z i c,x = .str z /\ y = .int i /\ z.length <= sizeLine /\ atI z.cps.toList i = some c /\ Q (.str ⟨#[c]⟩) H
theorem zR4:IxR X (zVG X.K):=by
 intro value slice zB s σ H x y v u Q I rx ry h hs;obtain ⟨p,xs,i,z,rfl,rfl,hq,he,q⟩:=h;cases rx;obtain ⟨t,rfl⟩:=ry;obtain ⟨its,r,pl,hz⟩:=I.list hq;obtain ⟨j,h1,h2,h3,h4,h5⟩:=zKt he;obtain ⟨w,ew,rw'⟩:=r.get h2;have hl:=r.length;have hn:=zGj;have fin:EP X zB σ Q w s:=⟨z,H,I,rw',q⟩;by_cases h0:0 <= i
 ·have hj:i.toNat = j:=by
   rw [seqIndex_of h0 h5] at h1;exact zXC h1
  exact item_listR pl.isList h0 (by omega) (by rw [hj]; simpa using ew) fin hs
 ·have hj:(i + (its.toArray.size:Int)).toNat = j:=by
   rw [seqIndex_neg (by omega) h4] at h1;rw [zWK,<- hl];exact zXC h1
  exact subscriptTail_builtinR (x:=w) pl.isList.typeIs slot_list_getitem.lookup
   (wpAny_getItem_list_neg (Q:=fun r s'=>r = w /\ EP X zB σ Q r s') pl.isList (by omega) (by rw [zWK] <;> omega) (by omega) (by rw [hj]; simpa using ew) ⟨rfl,fin⟩) hs
theorem zUe:IxR X (zVE X.K):=by
 intro value slice zB s σ H x y v u Q I rx ry h hs;obtain ⟨p,xs,i,z,rfl,rfl,hq,he,q⟩:=h;cases rx;obtain ⟨t,rfl⟩:=ry;obtain ⟨its,r,pl,hz⟩:=I.tuple hq;obtain ⟨j,h1,h2,h3,h4,h5⟩:=zKt he;obtain ⟨w,ew,rw'⟩:=r.get h2;have hl:=r.length;have hn:=zGj;have fin:EP X zB σ Q w s:=⟨z,H,I,rw',q⟩
 exact subscriptTail_builtinR (x:=w) pl.typeIs slot_tuple_getitem.lookup
  (getItem_tuple (j:=j) (Q:=fun r s'=>r = w /\ EP X zB σ Q r s') pl (by omega) (by omega) (by rw [zWK,<- hl]; exact h1) (by simpa using ew) ⟨rfl,fin⟩) hs
theorem zUS:IxR X zUw:=by
 intro value slice zB s σ H x y v u Q I rx ry h hs;obtain ⟨z,i,c,rfl,rfl,hz,he,q⟩:=h;obtain ⟨t,rfl⟩:=rx;obtain ⟨t',rfl⟩:=ry;obtain ⟨j,h1,h2,h3,h4,h5⟩:=zKt he;have hl:z.cps.toList.length = z.length:=by simp [Str.length]
 rw [hl] at h1 h4 h5;have hn:=zGj;exact tail_any (typeIs_str s z t) slot_str_getitem.lookup (getItem_str (c:=c) (by
  have e1:decide (i < -(2 ^ 63:Int)) = false:=zWl (by omega);have e2:decide (i ≥ 2 ^ 63) = false:=zWl (by omega);rw [e1,e2,Bool.or_false]) (by rw [h1]; simpa using h2) ⟨.str ⟨#[c]⟩,H,I.tok _,⟨_,rfl⟩,q⟩) hs
def rIx (K:PySem.W.Frag):R2:=fun x y H Q=>zVG K x y H Q \/ zVE K x y H Q \/ zUw x y H Q
theorem zUc:IxR X (rIx X.K):=zR4.or (zUe.or zUS)
theorem zMz (its:List Value) (n j:Nat) (u:Value):Obj.mapSeq (·.setIfInBounds j u) { cls:=.type "list", data:=.seq its.toArray n } = { cls:=.type "list", data:=.seq (its.set j u).toArray n }:=by
 simp [Obj.mapSeq]
theorem Inv.lst {zB:List (Addr × Obj)} {σ:St} {H:Hp} {s:Shared} {p:Addr} {xs:List V} (I:Inv X zB σ H s) (h:H p = some (.lst xs)) :
  ∃ (its:List Value) (n:Nat),zm xs its /\ s.heap.get? p = some { cls:=.type "list", data:=.seq its.toArray n } /\ xs.length <= sizeLine:=by
 obtain ⟨z,its,n,r,e⟩:=I.hok p _ h;exact ⟨its,n,r,e,z⟩
theorem Inv.lstUpd {zB:List (Addr × Obj)} {σ:St} {H:Hp} {s:Shared} {p:Addr} {xs ys:List V} {its its':List Value} {n n':Nat} {f:Obj -> Obj} (I:Inv X zB σ H s) (h:H p = some (.lst xs))
  (ho:s.heap.get? p = some { cls:=.type "list", data:=.seq its.toArray n }) (hf:f { cls:=.type "list", data:=.seq its.toArray n } = { cls:=.type "list", data:=.seq its'.toArray n' }) (r:zm ys its') (hz:ys.length <= sizeLine) (t:Nat) :
  Inv X zB σ (upd H p (.lst ys)) { s with heap:=s.heap.update p f,toks:=t }:=by
 have e:(s.heap.update p f).get? p = some { cls:=.type "list", data:=.seq its'.toArray n' }:=by
  rw [zWz f ho (by rw [hf] <;> rfl),hf]
 refine I.write (x:=p) (e:=p) (by rw [h]; trivial) (.inl rfl) (fun b u hb q=>(zWt _ _ (Ne.symm hb)).trans q) ⟨_,e⟩ ?_;exact ⟨hz,its',n',r,e⟩
def zUs:V -> V -> V -> Hp -> (Hp -> Prop) -> Prop:=fun o i v H Q=>∃ p xs k j,o = .ref p /\ i = .int k /\ H p = some (.lst xs) /\ ixN xs.length k = some j /\ Q (upd H p (.lst (xs.set j v)))
theorem zQN:zVD X zUs:=by
 intro zB s σ H o i v ov iv u Q I ro ri rv h;obtain ⟨p,xs,k,j,rfl,rfl,hp,hj,q⟩:=h;cases ro;obtain ⟨t,rfl⟩:=ri;obtain ⟨its,n,r,ho,hz⟩:=I.lst hp;obtain ⟨h1,h2,h3,h4⟩:=zKJ hj;have hl:=r.length;have hn:=zGj;have I':Inv X zB σ (upd H p (.lst (xs.set j v))) { s with heap:=s.heap.update p (Obj.mapSeq (·.setIfInBounds j u)) } :=
  I.lstUpd hp ho (zMz its n j u) (r.set rv j) (by rw [List.length_set]; exact hz) s.toks
 by_cases h0:0 <= k
 ·have hk:k.toNat = j:=by
   rw [seqIndex_of h0 h4] at h1;exact zXC h1
  exact PySem.W.ki_setAt ho h0 (by omega) (by rw [zWK,<- hl]; exact h4) (by rw [hk]; exact ⟨_,I',q⟩)
 ·have hk:(k + (its.toArray.size:Int)).toNat = j:=by
   rw [seqIndex_neg (by omega) h3] at h1;rw [zWK,<- hl];exact zXC h1
  exact PySem.W.ki_setBack ho (by omega) (by rw [zWK,<- hl]; exact h3) (by omega) (by rw [hk]; exact ⟨_,I',q⟩)
theorem zKI (lo hi:Option Int) (n:Nat):(sliceBounds lo hi none n).1 = ((HT.sIx n 0 lo:Nat):Int) /\ (sliceBounds lo hi none n).2.1 = ((HT.sIx n n hi:Nat):Int) /\ (sliceBounds lo hi none n).2.2 = 1:=by
 refine ⟨?_,?_,rfl⟩
 ·cases lo with
  | none=>simp [sliceBounds,HT.sIx]
  | some i=>
   simp only [sliceBounds,HT.sIx,Option.getD_none,show (1:Int) > 0 by decide,if_true];by_cases h:i < 0
   ·simp only [h,if_true] <;> omega
   ·simp only [h,if_false] <;> omega
 ·cases hi with
  | none=>simp [sliceBounds,HT.sIx]
  | some i=>
   simp only [sliceBounds,HT.sIx,Option.getD_none,show (1:Int) > 0 by decide,if_true];by_cases h:i < 0
   ·simp only [h,if_true] <;> omega
   ·simp only [h,if_false] <;> omega
theorem zIp (its:List Value) (lo hi:Option Int):slicePick its.toArray lo hi none = ((its.drop (HT.sIx its.length 0 lo)).take (HT.sIx its.length its.length hi - HT.sIx its.length 0 lo)).toArray:=by
 obtain ⟨h1,h2,h3⟩:=zKI lo hi its.toArray.size;unfold slicePick;rw [h1,h2,h3];simp only [sliceRange_one,pick_run,zWK] <;> rfl
def zVw (K:PySem.W.Frag):V -> Option Int -> Option Int -> Hp -> VK -> Prop:=fun x lo hi H Q=>∃ a xs,x = .ref a /\ SqL K H a xs /\ ∀ p,H p = none -> Q (.ref p) (upd H p (.lst (zMD xs lo hi)))
theorem zRi:SlR X (zVw X.K):=by
 intro zB s σ H x v vl vu lo hi sl Q I rx hs pl pu h;obtain ⟨a,xs,rfl,hx,q⟩:=h;cases rx;obtain ⟨its,r,ht,hz⟩:=I.list hx;have hlen:=r.length;refine ⟨"list", _,slot_list_getitem.lookup,ht.isList.typeIs,?_⟩;refine wpAny_getItem_list_slice ht.isList hs pl pu .none (by simp) ?_ (by rw [zWK] <;> omega);rw [zIp,<- hlen];refine ⟨.ref s.heap.objs.size,_,I.laid (t':=s.toks) (o:=.lst (zMD xs lo hi)) (fun b ob q=>zWD _ q) (zWI _) ?_,rfl,q _ (I.hok.fresh (zWI _))⟩;exact ⟨zWd (zGy xs lo hi) hz,_,0,(r.drop (HT.sIx xs.length 0 lo)).take (HT.sIx xs.length xs.length hi - HT.sIx xs.length 0 lo),zWM _ rfl⟩
theorem zKQ:zCb X (.builtin "len") (fun xs H Q=>∃ p ys,xs = [.ref p] /\ (SqL X.K H p ys \/ SqT X.K H p ys) /\ Q (.int ys.length) H):=by
 intro zB s σ H xs us Q I r h;obtain ⟨p,ys,rfl,hq,q⟩:=h;obtain ⟨u,rfl,rx⟩:=zEi r;cases rx;have hn:=zGj;rcases hq with hq | hq
 ·obtain ⟨its,r',pl,hz⟩:=I.list hq;have hlen:=r'.length;exact Calls.call_len_list pl.isList (by simp only [zWK] <;> omega) ⟨.int ys.length,H,I.tok _,⟨s.toks + 1,by rw [zWK,hlen]⟩,q⟩
 ·obtain ⟨its,r',pl,hz⟩:=I.tuple hq;have hlen:=r'.length;exact len_tuple pl (by simp only [zWK] <;> omega) ⟨.int ys.length,H,I.tok _,⟨s.toks + 1,by rw [zWK,hlen]⟩,q⟩
theorem zJs:zCb X (.type "list") (fun xs H Q=>∃ p ys,xs = [.ref p] /\ (SqL X.K H p ys \/ SqT X.K H p ys) /\ ∀ l,H l = none -> Q (.ref l) (upd H l (.lst ys))):=by
 intro zB s σ H xs us Q I r h;obtain ⟨p,ys,rfl,hq,q⟩:=h;obtain ⟨u,rfl,rx⟩:=zEi r;cases rx
 have fin:∀ (its:List Value),zm ys its -> ys.length <= sizeLine -> ∀ (h':Heap) (c':Nat),(∀ b o',s.heap.get? b = some o' -> h'.get? b = some o') ->
   h'.get? s.heap.objs.size = some { cls:=.type "list", dict:=none,data:=.seq its.toArray c',slots:=#[] } -> EP X zB σ Q (.ref s.heap.objs.size) { s with heap:=h' }:=fun its r' hz h' c' kp e=>
  ⟨.ref s.heap.objs.size,_,I.laid (t':=s.toks) kp (zWI _) (show zAo X.prog X.w _ h' _ (.lst ys) from ⟨hz,its,c',r',e⟩),rfl,q _ (I.hok.fresh (zWI _))⟩
 rcases hq with hq | hq
 ·obtain ⟨its,r',pl,hz⟩:=I.list hq;have hlen:=r'.length;obtain ⟨o,ho,hc,n,hd⟩:=pl.isList;exact call_list_seq p (.inl rfl) ho hc hd (fun h' c' kp e=>fin its r' hz h' c' kp e) (by simp only [zWK] <;> omega)
 ·obtain ⟨its,r',pl,hz⟩:=I.tuple hq;have hlen:=r'.length;obtain ⟨o,ho,hc,n,hd⟩:=pl;exact call_list_seq p (.inr rfl) ho hc hd (fun h' c' kp e=>fin its r' hz h' c' kp e) (by simp only [zWK] <;> omega)
theorem zIw:zCb X (.type "tuple") (fun xs H Q=>∃ p ys,xs = [.ref p] /\ ((SqL X.K H p ys /\ ∀ l,H l = none -> Q (.ref l) (upd H l (.tup ys))) \/ (SqT X.K H p ys /\ Q (.ref p) H))):=by
 intro zB s σ H xs us Q I r h;obtain ⟨p,ys,rfl,h⟩:=h;obtain ⟨u,rfl,rx⟩:=zEi r;cases rx;rcases h with ⟨hq,q⟩ | ⟨hq,q⟩
 ·obtain ⟨its,r',pl,hz⟩:=I.list hq;have hlen:=r'.length;refine call_tuple_list pl.isList (fun h' kp=>?_) (by simp only [zWK] <;> omega);have I1:Inv X zB σ H { s with heap:=h' }:=I.kept (t':=s.toks) kp;have I2:Inv X zB σ (upd H h'.objs.size (.tup ys)) { s with heap:=h'.push { cls:=.type "tuple", data:=.seq its.toArray } } :=
   I1.laid (t':=s.toks) (fun b o e=>zWD _ e) (zWI _) (show zAo X.prog X.w _ _ _ (.tup ys) from ⟨hz,its,r',zDH.new _ _⟩)
  exact ⟨.ref h'.objs.size,_,I2,rfl,q _ (I1.hok.fresh (zWI _))⟩
 ·obtain ⟨its,r',pl,hz⟩:=I.tuple hq;exact call_tuple_same pl ⟨.ref p,H,I,rfl,q⟩
def tyV (K:PySem.W.Frag) (T:String) (x:V) (H:Hp):Prop:=match x with
 | .str _=>T = "str"
 | .int _=>T = "int"
 | .ref p=>(T = "list" /\ ∃ xs,SqL K H p xs) \/ (T = "tuple" /\ ((∃ o,K.lookup p = some o /\ o.cls = .type "tuple" /\ o.dict = none) \/ ∃ xs,H p = some (.tup xs))) \/
   (T = "dict" /\ ((∃ kvs,H p = some (.dK kvs)) \/ ∃ kvs,H p = some (.dT kvs))) \/ (T = "set" /\ ∃ S n,H p = some (.set S n))
 | _=>False
theorem zT2 {zB:List (Addr × Obj)} {σ:St} {H:Hp} {s:Shared} {T:String} {x:V} {v:Value} (I:Inv X zB σ H s) (r:zw x v) (ty:tyV X.K T x H) :
  s.TypeIs v T /\ ∀ a,v = .ref a -> ∃ ob,s.heap.get? a = some ob /\ ob.dict = none:=by
 cases x with
 | str z=>
  obtain ⟨t,rfl⟩:=r;cases (show T = "str" from ty);exact ⟨typeIs_str s z t,fun _ e=>nomatch e⟩
 | int i=>
  obtain ⟨t,rfl⟩:=r;cases (show T = "int" from ty);exact ⟨typeIs_int s i t,fun _ e=>nomatch e⟩
 | ref p=>
  cases r;rcases ty with ⟨rfl,xs,hq⟩ | ⟨rfl,⟨o,hk,hc,hd⟩ | ⟨xs,hq⟩⟩ | ⟨rfl,hk⟩ | ⟨rfl,S,n,hk⟩
  ·obtain ⟨its,_,pl,_⟩:=I.list hq;refine ⟨pl.isList.typeIs,fun a e=>?_⟩;cases e;obtain ⟨o,n,e,c,hd,_⟩:=pl;exact ⟨o,e,hd⟩
  ·refine ⟨⟨o,I.kIn p o hk,hc⟩,fun a e=>?_⟩;cases e;exact ⟨o,I.kIn _ o hk,hd⟩
  ·obtain ⟨_,its,_,o,e,c,_,hd⟩:=I.hok p _ hq;refine ⟨⟨o,e,c⟩,fun a e2=>?_⟩;cases e2;exact ⟨o,e,hd⟩
  ·have z:∃ o,s.heap.get? p = some o /\ o.ExactDict:=by
    rcases hk with ⟨kvs,hk⟩ | ⟨kvs,hk⟩
    ·obtain ⟨_,_,_,_,o,_,_,e,ex,_⟩:=I.hok p _ hk;exact ⟨o,e,ex⟩
    ·obtain ⟨_,_,_,_,o,_,_,e,ex,_⟩:=I.hok p _ hk;exact ⟨o,e,ex⟩
   obtain ⟨o,e,ex⟩:=z;refine ⟨⟨o,e,ex.1⟩,fun a e2=>?_⟩;cases e2;exact ⟨o,e,ex.2.1⟩
  ·obtain ⟨o,_,_,_,e,ex,_⟩:=I.hok p _ hk;refine ⟨⟨o,e,ex.1⟩,fun a e2=>?_⟩;cases e2;exact ⟨o,e,ex.2.1⟩
 | _=>exact False.elim ty
def tBM (K:PySem.W.Frag) (T:String) (r:V -> List V -> Hp -> VK -> Prop) (to:TE) (t:TA):TE:=fun σ H Q=>to σ H fun x H1=>tyV K T x H1 /\ t σ H1 fun xs H2=>r x xs H2 Q
variable {o e:Expr} {es:List Expr} {to:TE} {t:TA} {name:Str} {apos cpos:Pos} {T id:String} {r:V -> List V -> Hp -> VK -> Prop}
theorem zNP (pa:PlainAttrs T) (slot:Slot T name id) (hty:typeOf (.builtin id) = pure (.type "method_descriptor")) (hm:MtR X id r) (ho:PE X o to) (ha:PA X (e :: es) t)
  (hbase:attributeBase o name X.env (eval o X.env) = eval o X.env:=by rfl)
  (hfew:((backTo cpos (starEach (e :: es) X.env)).all (fun x=> !x.1) && (backToKw cpos (keywordEach [] X.env)).all (fun x=>x.1.isSome)
   && decide ((e :: es).length + ([]:List Keyword).length + (if ([]:List Keyword).isEmpty then 0 else 1) < 30)) = true:=by rfl)
  (hline:(apos.endLine == cpos.line) = true:=by rfl) (hs:starEach (e :: es) X.env = (false,eval e X.env) :: starEach es X.env:=by rfl) (hplain:(backTo cpos (starEach es X.env)).any (·.1) = false:=by rfl) :
  PE X (.Call (.Attribute o name apos) (e :: es) [] cpos) (tBM X.K T r to t):=by
 intro zB s σ H Q I h;refine wpAny_Call_method_late hbase hfew hline rfl (thn (ho zB s σ H _ I h) fun v s1 ⟨x,H1,I1,r1,ty,q1⟩=>?_);obtain ⟨h1,h2⟩:=zT2 I1 r1 ty;refine ⟨T,id,pa,slot,hty,h1,h2,?_⟩;have hA:=ha cpos zB s1 σ H1 _ I1 q1;rw [hs] at hA ⊢;refine Calls.callWith_builtin (by show (false || (backTo cpos (starEach es X.env)).any (·.1)) = false; rw [hplain] <;> rfl) (Calls.evalArgs_plain ?_);exact thn hA fun us s2 ⟨vs,H2,I2,r2,q2⟩=>hm zB s2 σ H2 x vs v us Q I2 r1 r2 q2
end
def MtM (X:Cx) (id:String) (r:V -> List V -> Hp -> VK -> Prop):Prop :=
 ∀ (zB:List (Addr × Obj)) (s:Shared) (σ:St) (H:Hp) (x:V) (xs:List V) (v:Value) (us:List Value) (Q:VK),Inv X zB σ H s -> zw x v -> zm xs us -> r x xs H Q ->
  wpAny (model X.prog X.w) X.A (call (.builtin id) (v :: us)) (EP X zB σ Q) X.xe s
theorem zm.one:∀ {x:V} {us:List Value},zm [x] us -> ∃ u,us = [u] /\ zw x u
 | _,_,.cons r .nil=>⟨_,rfl,r⟩
theorem zm.two:∀ {x y:V} {us:List Value},zm [x,y] us -> ∃ u v,us = [u,v] /\ zw x u /\ zw y v
 | _,_,_,.cons r (.cons q .nil)=>⟨_,_,rfl,r,q⟩
theorem zm.zero:∀ {us:List Value},zm [] us -> us = []
 | _,.nil=>rfl
theorem zm.eraseIdx:∀ {xs:List V} {us:List Value} (i:Nat),zm xs us -> zm (xs.eraseIdx i) (us.eraseIdx i)
 | _,_,_,.nil=> .nil
 | _,_,0,.cons _ t=>t
 | _,_,i + 1,.cons r t=> .cons r (zm.eraseIdx i t)
theorem zJJ {α:Type}:∀ (l:List α) (i:Nat),(l.eraseIdx i).length <= l.length
 | [],_=>zWI _
 | _ :: _,0=>zXu _
 | _ :: r,i + 1=>Nat.succ_le_succ (zJJ r i)
section
variable {X:Cx} {zB:List (Addr × Obj)} {σ:St} {H:Hp} {s:Shared} {l b:Addr} {xs ys zs:List V}
theorem Inv.lset {its its':List Value} {n:Nat} {f:Array Value -> Array Value} {t':Nat} (I:Inv X zB σ H s) (hH:H l = some (.lst xs))
  (e:s.heap.get? l = some { cls:=.type "list", data:=.seq its.toArray n }) (hf:f its.toArray = its'.toArray) (hv:zm ys its') (hz:ys.length <= sizeLine) :
  Inv X zB σ (upd H l (.lst ys)) { s with heap:=s.heap.update l (Obj.mapSeq f),toks:=t' }:=by
 have q:=PySem.IsL.update e f;rw [hf] at q;refine I.write (x:=l) (e:=l) (by rw [hH]; exact trivial) (.inl rfl) (fun b' u hb hu=>(zWt s.heap (Obj.mapSeq f) (Ne.symm hb)).trans hu) ⟨_,q⟩ ?_;exact ⟨hz,its',_,hv,q⟩
theorem Inv.lnew {its:List Value} {t':Nat} (I:Inv X zB σ H s) (hv:zm ys its) (hz:ys.length <= sizeLine) :
  Inv X zB σ (upd H s.heap.objs.size (.lst ys)) { s with heap:=s.heap.push { cls:=.type "list", data:=.seq its.toArray },toks:=t' } :=
 I.laid (fun _ _ q=>zWD _ q) (zWI _) ⟨hz,its,0,hv,zWM _ rfl⟩
theorem Inv.fresh (I:Inv X zB σ H s):H s.heap.objs.size = none:=I.hok.fresh (zWI _)
theorem Inv.lstM (I:Inv X zB σ H s) (hH:H l = some (.lst xs)):xs.length <= sizeLine /\ ∃ (its:List Value) (n:Nat),zm xs its /\ xs.length = its.length /\ s.heap.get? l = some { cls:=.type "list", data:=.seq its.toArray n }:=by
 obtain ⟨z,its,n,r,e⟩:=I.hok l _ hH;exact ⟨z,its,n,r,r.length,e⟩
theorem zRC {n:Nat} (h:n <= sizeLine):Builtin.List.listTooLong n = false:=by
 unfold Builtin.List.listTooLong;exact zWl (by omega)
end
section
variable {X:Cx}
def zNX:V -> List V -> Hp -> VK -> Prop:=fun x vs H Q=>∃ l xs y,x = .ref l /\ vs = [y] /\ H l = some (.lst xs) /\ xs.length < sizeLine /\ Q .non (upd H l (.lst (xs ++ [y])))
theorem zOb:MtM X "list.append" zNX:=by
 intro zB s σ H x vs v us Q I rx rv h;obtain ⟨l,xs,y,rfl,rfl,hH,hz,q⟩:=h;cases rx;obtain ⟨u,rfl,ru⟩:=rv.one;obtain ⟨z,its,n,r,hl,e⟩:=I.lstM hH;refine call_meets F.slot_list_append ⟨_,e,rfl⟩ F.entry_list_append (F.args_list_append_2 _ _) (PySem.list_append l its.toArray n u (by rw [zWK]; omega)) ⟨e,?_⟩;refine ⟨.non,_,I.lset (its':=its ++ [u]) hH e (by simp) (r.append (.cons ru .nil)) ?_,rfl,q⟩;rw [zWS,List.length_singleton];omega
def zNe:V -> List V -> Hp -> VK -> Prop:=fun x vs H Q=>∃ l b xs zs,x = .ref l /\ vs = [.ref b] /\ H l = some (.lst xs) /\ H b = some (.lst zs) /\ xs.length + zs.length <= sizeLine /\ Q .non (upd H l (.lst (xs ++ zs)))
theorem zOk:MtM X "list.extend" zNe:=by
 intro zB s σ H x vs v us Q I rx rv h;obtain ⟨l,b,xs,zs,rfl,rfl,hH,hB,hz,q⟩:=h;cases rx;obtain ⟨u,rfl,ru⟩:=rv.one;cases ru;obtain ⟨z,its,n,r,hl,e⟩:=I.lstM hH;obtain ⟨z2,its2,n2,r2,hl2,e2⟩:=I.lstM hB;have hsz:its.toArray.size + its2.toArray.size <= sizeLine:=by rw [zWK,zWK]; omega
 have hlong:¬ (!its.toArray.isEmpty && Builtin.List.listTooLong (its.toArray.size + its2.toArray.size)) = true:=by
  rw [zRC hsz,Bool.and_false];exact zWY
 refine call_meets F.slot_list_extend ⟨_,e,rfl⟩ F.entry_list_extend (F.args_list_extend_2 _ _)
  (AutoSeq1.list_extend_list_list_0 l its.toArray n b its2.toArray n2 hlong (by rw [zWK]; omega) (by omega)) ⟨e,e2,?_⟩
 refine ⟨.non,_,I.lset (its':=its ++ its2) hH e (by simp) (r.append r2) ?_,rfl,q⟩;rw [zWS];omega
def zPS:V -> List V -> Hp -> VK -> Prop:=fun x vs H Q=>∃ l xs i k y,x = .ref l /\ vs = [.int i] /\ H l = some (.lst xs) /\ -(2 ^ 63) <= i /\ i < 2 ^ 63 /\ seqIndex? i xs.length = some k /\ xs[k]? = some y /\ Q y (upd H l (.lst (xs.eraseIdx k)))
theorem zQ8:MtM X "list.pop" zPS:=by
 intro zB s σ H x vs v us Q I rx rv h;obtain ⟨l,xs,i,k,y,rfl,rfl,hH,h1,h2,hk,hy,q⟩:=h;cases rx;obtain ⟨u,rfl,ru⟩:=rv.one;obtain ⟨t,rfl⟩:=ru;obtain ⟨z,its,n,r,hl,e⟩:=I.lstM hH;obtain ⟨w,hw,rw'⟩:=r.get hy
 refine call_meets F.slot_list_pop ⟨_,e,rfl⟩ F.entry_list_pop (F.args_list_pop_2 _ _)
  (MeetsSeq.list_pop_at l its.toArray n i t k w (fitsIndex_both h1 h2) (by rw [zWK,<- hl]; exact hk) (by rw [<- zXr]; exact hw) (by rw [zWK]; omega)) ⟨e,?_⟩
 refine ⟨y,_,I.lset (its':=its.eraseIdx k) hH e ?_ (r.eraseIdx k) ?_,rw',q⟩
 ·show its.toArray.eraseIdxIfInBounds k = (its.eraseIdx k).toArray;rw [List.eraseIdxIfInBounds_toArray]
 ·have:=zJJ xs k;omega
def zVN:R2:=fun x y H Q=>∃ l b xs zs,x = .ref l /\ y = .ref b /\ H l = some (.lst xs) /\ H b = some (.lst zs) /\ xs.length + zs.length <= sizeLine /\ ∀ p,H p = none -> Q (.ref p) (upd H p (.lst (xs ++ zs)))
theorem zTo:OpR X (binaryOp .Add) zVN:=by
 intro zB s σ H x y v u Q I rx ry h;obtain ⟨l,b,xs,zs,rfl,rfl,hH,hB,hz,q⟩:=h;cases rx;cases ry;obtain ⟨z,its,n,r,hl,e⟩:=I.lstM hH;obtain ⟨z2,its2,n2,r2,hl2,e2⟩:=I.lstM hB;refine PySem.P.add_list e e2 ?_ (by rw [zWK,zWK]; omega);have ea:its.toArray ++ its2.toArray = (its ++ its2).toArray:=by simp
 rw [ea];exact ⟨.ref _,_,I.lnew (t':=s.toks) (r.append r2) (by rw [zWS]; omega),rfl,q _ I.fresh⟩
end
end L2
namespace Att
open PySem PySem.W PySem.Calls PyProof.Rows
theorem zHL {P:Params} {h:Heap}:∀ (ns:List Int) (vs:List Value),WellAll P h vs (ns.map WData.int) -> IntsAre vs ns:=by
 intro ns;induction ns with
 | nil=>
  intro vs w;rw [List.map_nil] at w;cases w;exact .nil
 | cons n ns ih=>
  intro vs w;rw [zWV] at w;cases w with
  | cons a b=>
   cases a;exact .cons _ _ (ih _ b)
theorem zPI {l:OpenLaw} {n:Nat} (hn:l.most = some n) {P:Params} {h:Heap} {args:List WData} {vals:List Value}
  (hpre:l.row.toRowW.claim.pre args = true) (hwl:WellAll P h vals args) :
  ∃ a vs ns,vals = [Value.ref a] /\ args = [WData.list (ns.map WData.int)] /\ h.get? a = some { cls:=.type "list", data:=.seq vs.toArray } /\ IntsAre vs ns /\ ns.length <= n:=by
 have hsh:WShape.hasAll [] args [.list .int] = true:=(pre_splitW hpre).1;have hc:l.pre.holds [] { args:=args } = true:=(pre_splitW hpre).2;obtain ⟨d,r,rfl,h1,h2⟩:=hasAllW_cons hsh;obtain rfl:=hasAllW_nil h2;obtain ⟨xs,rfl,h3⟩:=hasW_list h1;obtain ⟨ns,rfl⟩:=items_int h3;have hlen:ns.length <= n:=by
  unfold OpenLaw.pre at hc;have h4:(WTm.not (.lt (.lit (.int (n:Int))) (.len (.arg 0)))).holds [] { args:=[.list (ns.map .int)] } = true:=by
   have h4:=(holds_andW hc).1;rw [hn] at h4;exact h4
  have h5:=condW_of h4 (w_not (w_lt w_lit (w_len_list (w_arg rfl))));rw [zWL] at h5;refine Nat.le_of_not_lt fun q=>?_;have q':(n:Int) < ((ns.length:Nat):Int):=by omega
  first
   | (rw [zXK q'] at h5; exact absurd h5 (by decide))
   | (simp at h5; omega)
 cases hwl with
 | cons w1 w2=>
  cases w2;cases w1 with
  | list ho hall=>exact ⟨_,_,ns,rfl,rfl,ho,zHL ns _ hall,hlen⟩
theorem zOj (l:OpenLaw) (args:List WData):l.row.toRowW.claim.post args (.bool true) args = true :=
 postW_of (r:=l.row.toRowW) (X:=(true == true))
  (show WShape.has [] (.bool true) .bool = true by first | rfl | decide | simp [WShape.has,WShape.arms,WShape.armsAll])
  (show (WTm.eq .res (.lit (.bool true))).value [] { args:=args,res:=some (.bool true),after:=args } = some (.bool (true == true)) from w_eq_bool (w_res rfl) w_lit) rfl
theorem zL5 {l:OpenLaw} {n:Nat} {q:Program} {loose:List Str} {XP:(Str -> Option Value) -> Heap -> Prop} {YP:World -> Heap -> Prop} {d:DefRec}
  (hn:l.most = some n) (hdf:d.params.defaults = [])
  (call:∀ (w:World) (s₀ s₁:Shared) (mg mb:Str -> Option Value) (fa:Addr) (o:Obj) (pm cd doc:Value) (a:Addr) (vs:List Value) (ns:List Int),
   Ground q loose [] XP w s₀ mg mb s₁.heap -> YP w s₁.heap ->
   s₁.heap.get? fa = some o -> o.data = .func (docDef d.name d.params d.body d.scope pm cd doc) -> s₁.heap.CodeRec cd d.name -> mg d.name = some (.ref fa) ->
   s₁.heap.get? a = some { cls:=.type "list", data:=.seq vs.toArray } -> IntsAre vs ns -> ns.length <= n -> s₁.gens = #[] ->
   codeAny (model l.prog w) callerA (.call (.ref fa) ⟨[.ref a],[]⟩) (fun r s'=>r = .ok (.ret (.bool true)) /\ OldK s₁.heap s'.heap /\ s'.os = s₁.os /\ AllBare s'.gens) s₁) :
  WalkO q loose XP YP l.row.toRowW d [] (fun f vs=>PySem.call f vs):=by
 intro w s₀ s₁ mg mb G Y fa o pm cd doc dV kV ho hd hcd hD hmg hg args vals as hpre hlay hrd hwl hlo;obtain rfl:dV = .none:=Dflts.none hD hdf;obtain rfl:kV = .none:=Dflts.noKw hD;obtain ⟨a,vs,ns,rfl,rfl,hobj,hints,hlen⟩:=zPI hn hpre hwl;refine enter_call (codeAny_mono (call w s₀ s₁ mg mb fa o pm cd doc a vs ns G Y ho (fd_plain hd) hcd hmg hobj hints hlen hg) fun r s' hq=>?_);obtain ⟨rfl,h2,h3,h4⟩:=hq;exact ⟨.inl ⟨.bool true,.bool true,[],rfl,fun _=>rfl,.bool true,zOj l _,fun _=>⟨List.Pairwise.nil,fun _ hm=>(nomatch hm)⟩⟩,h2,h3,h4⟩
end Att
namespace L2
open PySem PySem.Spec PyProof.Rows
theorem zJC:∀ {vs:List Value} {ns:List Int},IntsAre vs ns -> zm (ns.map V.int) vs
 | _,_,.nil=> .nil
 | _,_,.cons n t h=> .cons ⟨t,rfl⟩ (zJC h)
def zSt (H:Hp):Prop:=∀ b,H b = none \/ ∃ o xs,H b = some (.frz o (.lst xs))
theorem zQG {P:Program} {w:World} {K:PySem.W.Frag} {mg mb:Str -> Option Value} {CX:CXT} {k:Nat} {fa a:Addr} {fd:FuncData} {x:Str} {sp:Sp} {s₁:Shared} {vs:List Value} {ns:List Int}
  (KX:K.In s₁.heap) (hns:s₁.heap.Ns mainGlobals mg) (hb:s₁.heap.Ns builtinsNs mb) (hbb:∀ x:Str,x ≠ "__name__" -> mb x = bootBuiltins x) (hlim:s₁.heap.NoLimit) (hg:s₁.gens = #[])
  (ha:s₁.heap.get? a = some { cls:=.type "list", data:=.seq vs.toArray }) (hi:IntsAre vs ns) (hl:ns.length <= sizeLine) (hr:Room k callerA)
  (F:∀ base:Heap,K.In base -> base.Ns mainGlobals mg -> FnOk P w K mg base CX k fa fd [x] sp) (hbind:∀ (s:Shared) (u:Value),BindsTo s fd ⟨[u],[]⟩ [(x,u)])
  (hsp:∀ H:Hp,zSt H -> SqL K H a (ns.map V.int) -> sp [.ref a] H (fun v _=>v = .bl true) fun _ _ _=>False)
  (hCX:∀ H e s',CX [] H s₁ (fun _ _ _=>False) e s' -> False) :
  codeAny (model P w) callerA (.call (.ref fa) ⟨[.ref a],[]⟩) (fun r s'=>r = .ok (.ret (.bool true)) /\ OldK s₁.heap s'.heap /\ s'.os = s₁.os /\ AllBare s'.gens) s₁:=by
 have rv:=zJC hi;have lenV:=hi.length
 have core:∀ H:Hp,zSt H -> SqL K H a (ns.map V.int) -> HOk P w H s₁.heap -> (∀ b,H b ≠ none -> b = a) -> (H a ≠ none -> K.lookup a = none) ->
   codeAny (model P w) callerA (.call (.ref fa) ⟨[.ref a],[]⟩) (fun r s'=>r = .ok (.ret (.bool true)) /\ OldK s₁.heap s'.heap /\ s'.os = s₁.os /\ AllBare s'.gens) s₁:=by
  intro H hO hS hok hA hK;have base_of:∀ {b:Addr} {o:Obj},s₁.heap.get? b = some o -> H b = none -> (zKS s₁.heap H).get? b = some o:=fun e n=>zPU e n;have noA:∀ {b:Addr} {o:Obj} {es:Array DictEntry} {ep:Nat},s₁.heap.get? b = some o -> o.data = .dict es ep -> H b = none:=fun {b o es ep} e d=>by
   cases q:H b with
   | none=>rfl
   | some u=>
    have e':b = a:=hA b (by rw [q]; simp);subst e';rw [ha] at e; cases e;have d':Data.seq vs.toArray _ = Data.dict es ep:=d;cases d'
  have nsK:∀ {b:Addr} {m:Str -> Option Value},s₁.heap.Ns b m -> (zKS s₁.heap H).Ns b m:=fun {b m} ⟨o,es,ep,e,d,r⟩=>⟨o,es,ep,base_of e (noA e d),d,r⟩;have hKb:K.In (zKS s₁.heap H):=fun b o e=>base_of (KX b o e) (by
   cases q:H b with
   | none=>rfl
   | some u=>
    have e':b = a:=hA b (by rw [q]; simp);subst e';rw [hK (by rw [q]; simp)] at e; cases e)
  have hM:Mod K mg (zKS s₁.heap H):=⟨hKb,nsK hns,⟨mb,nsK hb,hbb⟩,let ⟨mc,h1,h2⟩:=hlim; ⟨mc,nsK h1,h2⟩⟩;have e0:Env0 P w K mg (zKS s₁.heap H) callerA [] s₁ H:=⟨rfl,hM,fun b o e=>zR8 e,Nat.le_of_eq (zO5 _ _),trivial,fun b hb=>absurd (show b ∈ ([]:List Addr) from hb) (by simp),hok,.of_eq hg⟩;refine codeAny_mono ((F _ hKb (nsK hns)).run callerA [] s₁ H ⟨[.ref a],[]⟩ [.ref a] [.ref a] _ _ hr e0 (hbind s₁ (.ref a)) (.cons rfl .nil) (hsp H hO hS)) fun r s' h=>?_;cases r with
  | error e=>exact (hCX H e s' h).elim
  | ok fl=>
   cases fl with
   | next=>exact False.elim h
   | brk=>exact False.elim h
   | cont=>exact False.elim h
   | ret u=>
    obtain ⟨v,H',os,bare,un,hok',r',q⟩:=h;have q':v = .bl true:=q;subst q';obtain rfl:u = Value.bool true:=r';refine ⟨rfl,OldK.of_keep fun b o e=>?_,os,bare⟩;cases q:H b with
    | none=>exact un.keep b o e q (by intro z; exact absurd (show b ∈ ([]:List Addr) from z) (by simp)) (by simp)
    | some u=>
     rcases hO b with z | ⟨ob,xs,z⟩
     ·rw [q] at z; cases z
     ·have z2:=un.frzs b ob _ z;obtain ⟨e1,_⟩:=hok b _ z;obtain ⟨e2,_⟩:=hok' b _ z2;rw [e] at e1; cases e1;exact e2
 cases hk:K.lookup a with
 | some o=>
  have e:=KX a o hk;rw [ha] at e;cases e;refine core (fun _=>none) (fun _=> .inl rfl) (.inr ⟨_,vs.toArray,_,hk,rfl,rfl,rfl,by rw [zWK,lenV]; exact hl,by simpa using rv⟩) (fun b u z=>by have z':(none:Option HO) = some u:=z; cases z') (fun b z=>absurd rfl z) fun z=>absurd rfl z
 | none=>
  refine core (fun b=>if b = a then some (.frz { cls:=.type "list", data:=.seq vs.toArray } (.lst (ns.map V.int))) else none) (fun b=>?_) (.inl (.inr ⟨{ cls:=.type "list", data:=.seq vs.toArray },zWR rfl⟩)) (fun b u z=>?_) (fun b z=>?_) fun _=>hk
  ·by_cases hb:b = a
   ·exact .inr ⟨_,_,zWR hb⟩
   ·exact .inl (zWU hb)
  ·by_cases hb:b = a
   ·have z':=(zWR hb).symm.trans z;cases z';subst hb;exact ⟨ha,by rw [zWL]; exact hl,vs,_,rv,ha⟩
   ·have z':=(zWU hb).symm.trans z;cases z'
  ·by_cases hb:b = a
   ·exact hb
   ·exact absurd (zWU hb) z
theorem zSZ {l:PySem.W.OpenLaw} {n k:Nat} {q:Program} {loose:List Str} {XP:(Str -> Option Value) -> Heap -> Prop} {YP:World -> Heap -> Prop} {d:DefRec} {K:Params -> PySem.W.Frag} {CX:World -> CXT} {sp:World -> Sp} {x:Str}
  (hn:l.most = some n) (hn2:n <= sizeLine) (hdf:d.params.defaults = []) (hr:Room k callerA)
  (hY:∀ (w:World) (h:Heap),YP w h -> (K w.params).In h)
  (F:∀ (w:World) (mg:Str -> Option Value) (fa:Addr) (h:Heap),(K w.params).In h -> h.Ns mainGlobals mg -> mg d.name = some (.ref fa) ->
   ∃ fd:FuncData,(∀ (s:Shared) (u:Value),BindsTo s fd ⟨[u],[]⟩ [(x,u)]) /\
    ∀ base:Heap,(K w.params).In base -> base.Ns mainGlobals mg -> FnOk l.prog w (K w.params) mg base (CX w) k fa fd [x] (sp w))
  (hsp:∀ (w:World) (H:Hp) (a:Addr) (ns:List Int),ns.length <= n -> zSt H -> SqL (K w.params) H a (ns.map V.int) -> sp w [.ref a] H (fun v _=>v = .bl true) fun _ _ _=>False)
  (hCX:∀ (w:World) (H:Hp) (s:Shared) (e:Value) (s':Shared),CX w [] H s (fun _ _ _=>False) e s' -> False) :
  PySem.W.WalkO q loose XP YP l.row.toRowW d [] (fun f vs=>PySem.call f vs):=by
 refine Att.zL5 hn hdf fun w s₀ s₁ mg mb fa o pm cd doc a vs ns G Y ho hd hcd hmg hobj hints hlen hg=>?_;have KX:=hY w _ Y;obtain ⟨fd,hb,hF⟩:=F w mg fa _ KX G.T.g hmg;exact zQG KX G.T.g G.T.b G.T.builtins G.T.nolimit hg hobj hints (zWd hlen hn2) hr hF hb (fun H hO hS=>hsp w H a ns hlen hO hS) fun H e s'=>hCX w H s₁ e s'
def zFF (s:Stmt):Arguments:=match s with
 | .FunctionDef _ a _ _ _ _ _ _ _ _=>a
 | _=>{ posonlyargs:=[],args:=[],vararg:=none,kwonlyargs:=[],kw_defaults:=[],kwarg:=none,defaults:=[] }
def zDY (s:Stmt):List Stmt:=match s with
 | .FunctionDef _ _ b _ _ _ _ _ _ _=>b
 | _=>[]
def zN (s:Stmt):Scope:=match s with
 | .FunctionDef _ _ _ _ _ _ sc _ _ _=>sc
 | _=>{ kind:=.function,names:=[],isGenerator:=false,isCoroutine:=false }
abbrev CX0:CXT:=fun _ _ _ _ _ _=>False
abbrev E0:XK:=fun _ _ _=>False
theorem zVO {X:Cx}:zM8 CX0 X E0:=fun _ _ _ _ _ _ _ h=>h.elim
structure Fun (K:PySem.W.Frag) (x qual:Str) (st:Stmt) (f:Addr) (fd:FuncData):Prop where
 ex:∃ (oc:Value) (od:Option Addr) (kV doc pm:Value) (an:Option Addr) (cdv ct:Value) (osl:Array (Option Value)),
  fd = PySem.W.fnOf x qual (zFF st) (zDY st) (zN st) .none kV doc pm an cdv ct /\ K.lookup f = some ⟨oc,od,.func fd,osl⟩ /\ PySem.W.codeIn K cdv qual = true
 kp:PySem.W.keepIn K (.ref f) = true
section
variable {P:Program} {w:World} {K:PySem.W.Frag} {mg:Str -> Option Value} {base:Heap}
theorem Fun.ok {x qual:Str} {st:Stmt} {f:Addr} {fd:FuncData} {N ps:List Str} {k:Nat} {sp:Sp} (F:Fun K x qual st f fd) (S:FnScope N ps (zN st)) (len:∀ vs H Q E,sp vs H Q E -> vs.length = ps.length)
  (hbody:∀ (cdv:Value) (A:Around) (outer:List Env) (s:Shared) (H:Hp) (vs:List V) (Q:VK) (E:XK),Room k (A.deeper (envOfC qual (zN st) s.heap.objs.size f cdv)) -> sp vs H Q E ->
   ∃ t,PSs (zMn CX0 P w K mg base N qual (zN st) f cdv A outer s H E).nox (zDY st) t /\ t { nx:=fun _ H'=>Q .non H',rt:=Q } (zEY N vs) H):FnOk P w K mg base CX0 (k + 1) f fd ps sp:=by
 obtain ⟨oc,od,kV,doc,pm,an,cdv,ct,osl,rfl,lk,hcd⟩:=F.ex;refine zUv lk hcd S len fun A outer s H vs Q E hr hsp=>?_;obtain ⟨t,h,q⟩:=hbody cdv A outer s H vs Q E hr hsp;exact ⟨t,h.nox,q⟩
theorem Fun.binds {x qual:Str} {st:Stmt} {f:Addr} {fd:FuncData} {ps:List Str} (F:Fun K x qual st f fd)
  (h:∀ (kV doc pm:Value) (an:Option Addr) (cdv ct:Value) (us:List Value),us.length = ps.length -> bindArgs (PySem.W.fnOf x qual (zFF st) (zDY st) (zN st) .none kV doc pm an cdv ct) ⟨us,[]⟩ = pure (ps.zip us)):zHs K fd ps []:=by
 obtain ⟨oc,od,kV,doc,pm,an,cdv,ct,osl,rfl,lk,hcd⟩:=F.ex;exact .all (h kV doc pm an cdv ct)
theorem zQ1 {x qual:Str} {st:Stmt} {f:Addr} {oc:Value} {od an:Option Addr} {osl:Array (Option Value)} {kV doc pm cdv ct:Value} (l:K.lookup f = some ⟨oc,od,.func (PySem.W.fnOf x qual (zFF st) (zDY st) (zN st) .none kV doc pm an cdv ct),osl⟩)
  (c:PySem.W.codeIn K cdv qual = true) (k:PySem.W.keepIn K (.ref f) = true):Fun K x qual st f (PySem.W.fnOf x qual (zFF st) (zDY st) (zN st) .none kV doc pm an cdv ct):=⟨⟨oc,od,kV,doc,pm,an,cdv,ct,osl,rfl,l,c⟩,k⟩
end
theorem zBi {A:Around} {k:Nat} (hr:Room k A):A.units + 1 < cLine:=Nat.lt_of_le_of_lt (Nat.add_le_add_left (by decide:1 <= 64) _) hr.units
section
variable {X:Cx}
theorem pv (i:Nat) {x:Str} {pos:Pos} (hN:X.N[i]? = some x:=by rfl) (hv:Vis X.env.scope x:=by first | exact Or.inl rfl | exact Or.inr (Or.inl rfl) | exact Or.inr (Or.inr rfl)) (hd:(x == ("__debug__" : Str)) = false:=by decide)
  (hcd:(x == ("__classdict__" : Str)) = false:=by decide):PE X (.Name x pos) (zTy i):=zUU hN hv hd hcd
end
theorem zHH {A B:Prop} (h:B):if false = true then A else B:=by
 rw [zWU zWY];exact h
theorem zHN {A B:Prop} (h:A):if true = true then A else B:=by
 rw [zWR rfl];exact h
section
variable {κ:Type} [DecidableEq κ]
def zFX (kvs:List (κ × V)) (k:κ):Option V:=(kvs.find? fun kv=>decide (kv.1 = k)).map (·.2)
def zEf (kvs:List (κ × V)) (k:κ) (v:V):List (κ × V) :=
 if (kvs.any fun kv=>decide (kv.1 = k)) = true then kvs.map (fun kv=>if kv.1 = k then (kv.1,v) else kv) else kvs ++ [(k,v)]
theorem zGQ {p:κ × V} {r:List (κ × V)} {k:κ} (e:p.1 = k):zFX (p :: r) k = some p.2:=by simp [zFX,zXy,e]
theorem zF6 {p:κ × V} {r:List (κ × V)} {k:κ} (e:¬ p.1 = k):zFX (p :: r) k = zFX r k:=by simp [zFX,zXy,e]
theorem zLb (k:κ):∀ kvs:List (κ × V),(kvs.any fun kv=>decide (kv.1 = k)) = (zFX kvs k).isSome
 | []=>rfl
 | p :: r=>by
  rw [List.any_cons];by_cases e:p.1 = k
  ·simp only [zGQ e,zXK e,Bool.true_or,Option.isSome_some]
  ·rw [zF6 e,zWl e,Bool.false_or]; exact zLb k r
theorem zDQ (kvs:List (κ × V)) (k:κ) (v:V):(zEf kvs k v).length <= kvs.length + 1:=by
 unfold zEf;split
 ·rw [zWL]; omega
 ·rw [zWS,zWj,List.length_nil]; omega
theorem zGc.isSome_eq (r:zGc o u):o.isSome = u.isSome:=by
 cases o with
 | none=>cases u with
  | none=>rfl
  | some _=>exact (show False from r).elim
 | some _=>cases u with
  | none=>exact (show False from r).elim
  | some _=>rfl
theorem zGc.getD (r:zGc o u) (rd:zw d d'):zw (o.getD d) (u.getD d'):=by
 cases o with
 | none=>cases u with
  | none=>exact rd
  | some _=>exact (show False from r).elim
 | some _=>cases u with
  | none=>exact (show False from r).elim
  | some _=>exact r
theorem KV.val {kvs:List (κ × V)} {vs:List (κ × Value)} (r:KV kvs vs) (k:κ):zGc (zFX kvs k) (valueAt vs k):=by
 unfold KV at r;induction r with
 | nil=>exact True.intro
 | @cons p q ps qs h t ih=>
  obtain ⟨h1,h2⟩:=h;by_cases e:p.1 = k
  ·have e':q.1 = k:=h1.symm.trans e;have b:valueAt (q :: qs) k = some q.2:=by simp [valueAt,zXy,e']
   rw [zGQ e,b]; exact h2
  ·have e':¬ q.1 = k:=fun z=>e (h1.trans z);have b:valueAt (q :: qs) k = valueAt qs k:=by simp [valueAt,zXy,e']
   rw [zF6 e,b]; exact ih
theorem KV.any (r:KV kvs vs) (k:κ):(kvs.any fun kv=>decide (kv.1 = k)) = vs.any fun kv=>decide (kv.1 = k):=by
 unfold KV at r;induction r with
 | nil=>rfl
 | cons h t ih=>rw [List.any_cons,List.any_cons,ih,h.1]
theorem KV.repl (r:KV kvs vs) (k:κ) (ry:zw y u) :
  KV (kvs.map fun kv=>if kv.1 = k then (kv.1,y) else kv) (vs.map fun kv=>if kv.1 = k then (kv.1,u) else kv):=by
 unfold KV at r ⊢;induction r with
 | nil=>exact .nil
 | @cons p q ps qs h t ih=>
  rw [zWV,zWV];refine .cons ?_ ih;obtain ⟨h1,h2⟩:=h;by_cases e:p.1 = k
  ·rw [zWR e,zWR (h1.symm.trans e)]; exact ⟨h1,ry⟩
  ·rw [zWU e,zWU (fun z=>e (h1.trans z))]; exact ⟨h1,h2⟩
theorem KV.put (r:KV kvs vs) (k:κ) (ry:zw y u):KV (zEf kvs k y) (stored vs k u):=by
 unfold zEf stored;rw [r.any k];by_cases e:(vs.any fun kv=>decide (kv.1 = k)) = true
 ·rw [zWR e,zWR e]; exact r.repl k ry
 ·rw [zWU e,zWU e]; exact Paired.snoc r ⟨rfl,ry⟩
theorem KV.length (r:KV kvs vs):kvs.length = vs.length:=Paired.length r
end
theorem zHn (r:zw (kV k) u):(zAh P w).is k u = true:=by
 cases k with
 | inl i=>obtain ⟨t,e⟩:=(show ∃ t,u = Value.int i t from r); subst e; exact zLm P w i t
 | inr x=>obtain ⟨t,e⟩:=(show ∃ t,u = Value.str x t from r); subst e; exact zLV P w x t
theorem zJM:∀ {ks:List Key} {us:List Value},zm (ks.map kV) us -> ItemsAre (zAh P w) ks us
 | [],_,r=>by rw [List.map_nil] at r; cases r; exact .nil
 | k :: ks,_,r=>by
  rw [zWV] at r;cases r with
  | cons h t=>exact .cons (zHn h) (zJM t)
abbrev KT (H:Hp):List (List Key × V) -> List (List Key × Addr × Value) -> Prop:=Paired fun p q=>p.1 = q.1 /\ H q.2.1 = some (.tup (p.1.map kV)) /\ zw p.2 q.2.2
theorem KT.val {H:Hp} {kvs:List (List Key × V)} {xs:List (List Key × Addr × Value)} (r:KT H kvs xs) (k:List Key):zGc (zFX kvs k) ((atKey xs k).map (·.2)):=by
 induction r with
 | nil=>exact True.intro
 | @cons p q ps qs h t ih=>
  obtain ⟨h1,_,h2⟩:=h;by_cases e:p.1 = k
  ·have e':q.1 = k:=h1.symm.trans e;have b:atKey (q :: qs) k = some q.2:=by simp [atKey,zXy,e']
   rw [zGQ e,b]; exact h2
  ·have e':¬ q.1 = k:=fun z=>e (h1.trans z);have b:atKey (q :: qs) k = atKey qs k:=by simp [atKey,zXy,e']
   rw [zF6 e,b]; exact ih
theorem KT.repl (r:KT H kvs xs) (k:List Key) (ry:zw y u) :
  KT H (kvs.map fun kv=>if kv.1 = k then (kv.1,y) else kv) (xs.map (putAt k u)):=by
 induction r with
 | nil=>exact .nil
 | @cons p q ps qs h t ih=>
  rw [zWV,zWV];refine .cons ?_ ih;obtain ⟨h1,h2,h3⟩:=h;unfold putAt;by_cases e:p.1 = k
  ·rw [zWR e,zWR (h1.symm.trans e)]; exact ⟨h1,h2,ry⟩
  ·rw [zWU e,zWU (fun z=>e (h1.trans z))]; exact ⟨h1,h2,h3⟩
theorem KT.put (r:KT H kvs xs) (k:List Key) (hb:H b = some (.tup (k.map kV))) (ry:zw y u) :
  KT H (zEf kvs k y) (storedH xs k b u):=by
 have e:(kvs.any fun kv=>decide (kv.1 = k)) = (atKey xs k).isSome:=by
  rw [zLb,(r.val k).isSome_eq,Option.isSome_map]
 unfold zEf storedH;rw [e];by_cases q:(atKey xs k).isSome = true
 ·rw [zWR q,zWR q]; exact r.repl k ry
 ·rw [zWU q,zWU q]; exact Paired.snoc r ⟨rfl,hb,ry⟩
theorem KT.keeps (r:KT H kvs xs) (ht:∀ b ys,H b = some (.tup ys) -> H' b = some (.tup ys)):KT H' kvs xs :=
 Paired.mapP r fun _ _ z=>⟨z.1,ht _ _ z.2.1,z.2.2⟩
section
variable {P:Program} {w:World} {H:Hp} {h:Heap} {a:Addr}
theorem zTK (ok:HOk P w H h) (e:Rd H a u):zAo P w H h a u:=e.ok ok
theorem zH0 (ok:HOk P w H h) (e:Rd H a (.dK kvs)):kvs.length <= sizeLine /\ (a == sysModules) = false /\ ∃ vs,KV kvs vs /\ h.DictOf (zAh P w) a vs :=
 show zAo P w H h a (.dK kvs) from zTK ok e
theorem zTL (ok:HOk P w H h) (e:H a = some (.dK kvs)):kvs.length <= sizeLine /\ (a == sysModules) = false /\ ∃ vs,KV kvs vs /\ h.DictOf (zAh P w) a vs:=zH0 ok (.inl e)
theorem zFs (ok:HOk P w H h) (e:H a = some (.tup (ks.map kV))):(tupleKind (zAh P w)).is h ks a:=by
 obtain ⟨_,its,r,o,h1,h2,⟨n,h3⟩,_⟩:=(show zAo P w H h a (.tup (ks.map kV)) from ok a _ e);exact ⟨o,its.toArray,n,h1,h2,h3,by simpa using zJM r⟩
theorem zHi (ok:HOk P w H h) (e:Rd H a (.dT kvs)):kvs.length <= sizeLine /\ (a == sysModules) = false /\
  ∃ xs,KT H kvs xs /\ h.DictOfH (tupleKind (zAh P w)) a xs:=by
 obtain ⟨z,y,xs,r,o,es,ep,h1,h2,h3,h4,h5⟩:=(show zAo P w H h a (.dT kvs) from zTK ok e);refine ⟨z,y,xs,r,o,es,ep,h1,h2,h3,h4,fun x hx=>?_,h5⟩;have all:∀ {l:List (List Key × V)} {m:List (List Key × Addr × Value)},KT H l m -> ∀ x ∈ m,(tupleKind (zAh P w)).is h x.1 x.2.1:=by
  intro l m q;induction q with
  | nil=>intro x hx; exact nomatch hx
  | @cons p q ps qs hq t ih=>
   intro x hx;rcases zWO.mp hx with e | hx
   ·subst e;exact zFs ok (by rw [<- hq.1]; exact hq.2.1)
   ·exact ih x hx
 exact all r x hx
theorem zTC (ok:HOk P w H h) (e:H a = some (.dT kvs)):kvs.length <= sizeLine /\ (a == sysModules) = false /\
  ∃ xs,KT H kvs xs /\ h.DictOfH (tupleKind (zAh P w)) a xs:=zHi ok (.inl e)
end
def zD4 (H:Hp) (a:Addr) (y:V) (r:Option V):Prop :=
 (∃ kvs k,Rd H a (.dK kvs) /\ y = kV k /\ r = zFX kvs k) \/ ∃ kvs k b,Rd H a (.dT kvs) /\ y = .ref b /\ H b = some (.tup (k.map kV)) /\ r = zFX kvs k
def zHI (H:Hp) (a:Addr) (y v:V) (H':Hp):Prop :=
 (∃ kvs k,H a = some (.dK kvs) /\ y = kV k /\ kvs.length < sizeLine /\ H' = upd H a (.dK (zEf kvs k v))) \/
 ∃ kvs k b,H a = some (.dT kvs) /\ y = .ref b /\ H b = some (.tup (k.map kV)) /\ kvs.length < sizeLine /\ H' = upd H a (.dT (zEf kvs k v))
theorem zD4.k {H:Hp} {a:Addr} {kvs:List (Key × V)} {k:Key} (e:H a = some (.dK kvs)):zD4 H a (kV k) (zFX kvs k):=.inl ⟨kvs,k,.inl e,rfl,rfl⟩
theorem zD4.t {k:List Key} (e:H a = some (.dT kvs)) (eb:H b = some (.tup (k.map kV))):zD4 H a (.ref b) (zFX kvs k):=.inr ⟨kvs,k,b,.inl e,rfl,eb,rfl⟩
theorem zHI.k {H:Hp} {a:Addr} {kvs:List (Key × V)} {k:Key} {v:V} (e:H a = some (.dK kvs)) (hl:kvs.length < sizeLine):zHI H a (kV k) v (upd H a (.dK (zEf kvs k v))):=.inl ⟨kvs,k,e,rfl,hl,rfl⟩
theorem zHI.t {kvs:List (List Key × V)} {k:List Key} (e:H a = some (.dT kvs)) (eb:H b = some (.tup (k.map kV))) (hl:kvs.length < sizeLine) :
  zHI H a (.ref b) v (upd H a (.dT (zEf kvs k v))):=.inr ⟨kvs,k,b,e,rfl,eb,hl,rfl⟩
section
variable {X:Cx} {zB:List (Addr × Obj)} {σ:St} {H:Hp} {s:Shared} {a:Addr} {y v:V} {u r:Value} {o:Option V} {A:Around} {E:Value -> Shared -> Prop}
theorem Inv.big (I:Inv X zB σ H s):sysModules < s.heap.objs.size:=by
 have h:mainGlobals < s.heap.objs.size:=(I.mod.glob.keeps I.bk).lt;exact Nat.lt_trans (by decide) h
theorem zPJ (hu:A.units + 1 < cLine) (I:Inv X zB σ H s) (g:zD4 H a y (some v)) (ry:zw y u) (h:∀ w' s',Inv X zB σ H s' -> zw v w' -> Q w' s') :
  wpAny (model X.prog X.w) A (getItem (.ref a) u) Q E s:=by
 rcases g with ⟨kvs,k,e,ey,l⟩ | ⟨kvs,k,b,e,ey,eb,l⟩
 ·subst ey;obtain ⟨z,hd,vs,rel,dd⟩:=zH0 I.hok e;obtain ⟨w',hw,rw'⟩:=zGc.some_of (v:=v) (o:=valueAt vs k) (by rw [l]; exact rel.val k);exact wpAny_getItem_of (zHn ry) dd.mapOf hw (h w' _ (I.tok _) rw')
 ·subst ey;cases (show u = Value.ref b from ry);obtain ⟨z,hd,xs,rel,dd⟩:=zHi I.hok e;obtain ⟨w',hw,rw'⟩:=zGc.some_of (v:=v) (o:=(atKey xs k).map (·.2)) (by rw [l]; exact rel.val k);obtain ⟨p,hp,hp2⟩:=Option.map_eq_some_iff.mp hw;refine wpAny_getItem_heap (tupleKind_room_in1 hu) (zFs I.hok eb) dd hp ?_;rw [hp2];exact h w' _ (I.tok _) rw'
theorem zVx (hu:A.units + 1 < cLine) (I:Inv X zB σ H s) (g:zD4 H a y o) (ry:zw y u) (h:∀ s',Inv X zB σ H s' -> Q (.bool o.isSome) s') :
  wpAny (model X.prog X.w) A (compareOp .In u (.ref a)) Q E s:=by
 rcases g with ⟨kvs,k,e,ey,l⟩ | ⟨kvs,k,b,e,ey,eb,l⟩
 ·subst ey;obtain ⟨z,hd,vs,rel,dd⟩:=zH0 I.hok e;refine wpAny_in_of (zHn ry) hd dd.mapOf ?_;rw [<- (rel.val k).isSome_eq,<- l];exact h _ (I.tok _)
 ·subst ey;cases (show u = Value.ref b from ry);obtain ⟨z,hd,xs,rel,dd⟩:=zHi I.hok e;refine wpAny_in_heap (tupleKind_room_in1 hu) (zFs I.hok eb) hd dd ?_;have q:=(rel.val k).isSome_eq;rw [Option.isSome_map] at q;rw [<- q,<- l];exact h _ (I.tok _)
theorem zSl (hu:A.units + 1 < cLine) (I:Inv X zB σ H s) (g:zD4 H a y o) (ry:zw y u) (h:∀ s',Inv X zB σ H s' -> Q (.bool (!o.isSome)) s') :
  wpAny (model X.prog X.w) A (compareOp .NotIn u (.ref a)) Q E s:=by
 rcases g with ⟨kvs,k,e,ey,l⟩ | ⟨kvs,k,b,e,ey,eb,l⟩
 ·subst ey;obtain ⟨z,hd,vs,rel,dd⟩:=zH0 I.hok e;refine wpAny_notIn_of (zHn ry) hd dd.mapOf ?_;rw [<- (rel.val k).isSome_eq,<- l];exact h _ (I.tok _)
 ·subst ey;cases (show u = Value.ref b from ry);obtain ⟨z,hd,xs,rel,dd⟩:=zHi I.hok e;refine wpAny_notIn_heap (tupleKind_room_in1 hu) (zFs I.hok eb) hd dd ?_;have q:=(rel.val k).isSome_eq;rw [Option.isSome_map] at q;rw [<- q,<- l];exact h _ (I.tok _)
theorem zGR (I:Inv X zB σ H s) (mu:Mut (H a)) (hs:Heap.SameBut a s.heap h') (he:∃ q,h'.get? a = some q) (new:zAo X.prog X.w (upd H a ob) h' a ob) :
  Inv X zB σ (upd H a ob) { s with heap:=h',toks:=t' } :=
 I.write (x:=a) (e:=a) mu (.inl rfl) (fun b q hb z=>(hs.2 b hb).trans z) he new
theorem zQI (z:kvs.length <= sizeLine) (hd:(a == sysModules) = false) (rel:KV kvs vs) (dd:h'.DictOf (zAh P w) a vs) :
  zAo P w H' h' a (.dK kvs):=⟨z,hd,vs,rel,dd⟩
theorem zOK (hu:A.units + 1 < cLine) (I:Inv X zB σ H s) (g:zHI H a y v H') (ry:zw y u) (rv:zw v r) (h:∀ s',Inv X zB σ H' s' -> Q () s') :
  wpAny (model X.prog X.w) A (setItem (.ref a) u r) Q E s:=by
 rcases g with ⟨kvs,k,e,ey,l,eH⟩ | ⟨kvs,k,b,e,ey,eb,l,eH⟩
 ·subst ey eH;obtain ⟨z,hd,vs,rel,dd⟩:=zTL I.hok e;have hz:vs.length <= sizeLine:=by rw [<- rel.length]; exact z
  have hl:(zEf kvs k v).length <= sizeLine:=by have:=zDQ kvs k v; omega
  refine wpAny_setItem_pairs (hsz:=hz) (zHn ry) dd fun h' dd' hs=>h _ ?_;have he:∃ q,h'.get? a = some q:=let ⟨q,_,_,hq,_⟩:=dd'; ⟨q,hq⟩;exact zGR I (by rw [e]; exact True.intro) hs he (zQI hl hd (rel.put k rv) dd')
 ·subst ey eH;cases (show u = Value.ref b from ry);obtain ⟨z,hd,xs,rel,dd⟩:=zTC I.hok e;have hz:xs.length <= sizeLine:=by rw [<- Paired.length rel]; exact z
  have hl:(zEf kvs k v).length <= sizeLine:=by have:=zDQ kvs k v; omega
  refine wpAny_setItem_heap (hsz:=hz) (tupleKind_room_in1 hu) (zFs I.hok eb) dd fun h' dd' hs=>h _ ?_;obtain ⟨q,es,ep,hq,h2,h3,h4,_,h5⟩:=dd';refine zGR I (by rw [e]; exact True.intro) hs ⟨q,hq⟩ ⟨hl,hd,_,(rel.put k eb rv).keeps fun c ys ec=>?_,q,es,ep,hq,h2,h3,h4,h5⟩;rw [zh (zIW ec e (fun z=>nomatch z))];exact ec
end
def zTV (i:Expr):Prop:=∀ ov iv,subscripted i false ov iv = operate [ov,iv] (getItem ov iv)
theorem zRo {prog:Program} {w:World} {A:Around} {E:Value -> Shared -> Prop} {s:Shared} {env:Env} {value slice:Expr} {pos:Pos} {T id:String} {Q:Value -> Shared -> Prop}
  (hl:typeLookup (.type T) "__getitem__" = pure (some (.builtin id))) (hs:zTV slice)
  (h:wpAny (model prog w) A (eval value env) (fun o s₁=>wpAny (model prog w) A (eval slice env) (fun i s₂=>s₂.TypeIs o T /\ wpAny (model prog w) A (getItem o i) Q E s₂) E s₁) E s) :
  wpAny (model prog w) A (eval (.Subscript value slice pos) env) Q E s:=by
 refine Subscript_ (zWi h (fun o s₁ h₁=>zWi h₁ (fun i s₂ h₂=>?_) fun _ _ x=>x) fun _ _ x=>x);obtain ⟨hT,h₂⟩:=h₂;unfold subscriptTail;refine zWC ?_;rw [getitemInPython_of_ne hT.not_modules];refine zWC (wpAny_specialOf hT hl ?_);have fin:wpAny (model prog w) A (subscripted slice false o i) (fun r s₃=>wpAny (model prog w) A (letTemporaryGo value o r >>= fun _=>pure r) Q E s₃) E s₂:=by
  rw [hs o i];exact wpAny_operating (zWi h₂ (fun r s₃ h₃=>zWC (wpAny_letTemporaryGo (zWE h₃))) fun _ _ x=>x)
 first
  | exact zWE (zWC fin)
  | exact zWC (zWE (zWC fin))
  | exact zWC fin
theorem zLW (I:Inv X zB σ H s) (g:zD4 H a y o):s.TypeIs (.ref a) "dict" := by
 rcases g with ⟨kvs,k,e,_,_⟩ | ⟨kvs,k,b,e,_,_,_⟩
 ·obtain ⟨_,_,vs,_,dd⟩:=zH0 I.hok e;exact dd.typeIs
 ·obtain ⟨_,_,xs,_,dd⟩:=zHi I.hok e;exact dd.typeIs
def zU1 (td ty:TE):TE:=fun σ H Q=>td σ H fun x H1=>ty σ H1 fun y H2=>∃ a v,x = .ref a /\ zD4 H2 a y (some v) /\ Q v H2
def zVn (ty td:TE):TE:=fun σ H Q=>ty σ H fun y H1=>td σ H1 fun x H2=>∃ a o,x = .ref a /\ zD4 H2 a y o /\ Q (.bl o.isSome) H2
def zSY (ty td:TE):TE:=fun σ H Q=>ty σ H fun y H1=>td σ H1 fun x H2=>∃ a o,x = .ref a /\ zD4 H2 a y o /\ Q (.bl (!o.isSome)) H2
def zVF (td ty tv:TE):TS:=fun D σ H=>tv σ H fun v H1=>td σ H1 fun x H2=>ty σ H2 fun y H3=>∃ a H4,x = .ref a /\ zHI H3 a y v H4 /\ D.nx σ H4
section
variable {X:Cx} {o i e value:Expr} {pos pos' tpos:Pos} {td ty tv:TE}
theorem zRj (hu:X.A.units + 1 < cLine) (ho:PE X o td) (hi:PE X i ty) (hs:zTV i):PE X (.Subscript o i pos) (zU1 td ty):=by
 intro zB s σ H Q I h;refine zRo PySem.F.slot_dict_getitem.lookup hs (thn (ho zB s σ H _ I h) fun u s1 ⟨x,H1,I1,rx,q1⟩=>thn (hi zB s1 σ H1 _ I1 q1) fun iv s2 ⟨y,H2,I2,ry,a,v,ex,g,q2⟩=>?_);subst ex;obtain rfl:u = Value.ref a:=rx;exact ⟨zLW I2 g,zPJ hu I2 g ry fun w' s3 I3 rw'=>⟨v,H2,I3,rw',q2⟩⟩
theorem zT1 (hu:X.A.units + 1 < cLine) (hi:PE X i ty) (ho:PE X o td):PC X .In i o (zVn ty td):=by
 intro zB s σ H Q I h;refine thn (hi zB s σ H _ I h) fun iv s1 ⟨y,H1,I1,ry,q1⟩=>thn (ho zB s1 σ H1 _ I1 q1) fun u s2 ⟨x,H2,I2,rx,a,ov,ex,g,q2⟩=>?_;subst ex;obtain rfl:u = Value.ref a:=rx;exact zVx hu I2 g ry fun s3 I3=>⟨.bl ov.isSome,H2,I3,rfl,q2⟩
theorem zO4 (hu:X.A.units + 1 < cLine) (hi:PE X i ty) (ho:PE X o td):PC X .NotIn i o (zSY ty td):=by
 intro zB s σ H Q I h;refine thn (hi zB s σ H _ I h) fun iv s1 ⟨y,H1,I1,ry,q1⟩=>thn (ho zB s1 σ H1 _ I1 q1) fun u s2 ⟨x,H2,I2,rx,a,ov,ex,g,q2⟩=>?_;subst ex;obtain rfl:u = Value.ref a:=rx;exact zSl hu I2 g ry fun s3 I3=>⟨.bl (!ov.isSome),H2,I3,rfl,q2⟩
theorem zS2 (hu:X.A.units + 1 < cLine) (ho:PE X o td) (hi:PE X i ty) (hv:PE X value tv) (hs:swapsWith value (some (.Subscript o i pos')) pos.line X.env = pure false) :
  PS X (.Assign [.Subscript o i pos'] value pos) (zVF td ty tv):=by
 intro zB s σ H D I h;refine wpAny_Assign_Subscript (thn (hv zB s σ H _ I h) fun r s1 ⟨v,H1,I1,rv,q1⟩=>thn (ho zB s1 σ H1 _ I1 q1) fun u s2 ⟨x,H2,I2,rx,q2⟩=>thn (hi zB s2 σ H2 _ I2 q2) fun iv s3 ⟨y,H3,I3,ry,a,H4,ex,g,q3⟩=>?_) hs;subst ex;obtain rfl:u = Value.ref a:=rx;exact zOK hu I3 g ry rv fun s4 I4=>⟨σ,H4,I4,q3⟩
end
theorem zQk (h:Heap) (hb:sysModules < h.objs.size):zAo P w H (h.push { cls:=.type "dict", data:=.dict #[] }) h.objs.size (.dT []) :=
 ⟨zWy _,beq_eq_false_iff_ne.mpr (Ne.symm (zWX hb)),[],.nil,_,#[],0,zWM _ rfl,⟨rfl,rfl,rfl⟩,rfl,rfl,List.nodup_nil⟩
def zUF:TE:=fun _ H Q=>∀ p,H p = none -> Q (.ref p) (upd H p (.dT []))
section
variable {X:Cx} {pos:Pos}
theorem zPn:PE X (.Dict [] [] pos) zUF:=fun zB s σ H Q I h=>
 wpAny_Dict_empty ⟨.ref s.heap.objs.size,_,I.laid (a:=s.heap.objs.size) (o:=.dT []) (t':=s.toks) (fun _ _ q=>zWD _ q) (zWI _) (zQk s.heap I.big),rfl,h _ (I.hok.fresh (zWI _))⟩
end
structure M2 (X:Cx) (o:Expr) (m:Str) (apos:Pos) (e f:Expr) (cpos:Pos):Prop where
 base:attributeBase o m X.env (eval o X.env) = eval o X.env
 few:((backTo cpos (starEach [e,f] X.env)).all (fun x=> !x.1) && (backToKw cpos (keywordEach [] X.env)).all (fun x=>x.1.isSome)
  && decide (([e,f]:List Expr).length + ([]:List Keyword).length + (if ([]:List Keyword).isEmpty then 0 else 1) < 30)) = true
 line:(apos.endLine == cpos.line) = true
 trees:backTo cpos (starEach [e,f] X.env) = [(false,eval e X.env),(false,eval f X.env)]
def IsD (H:Hp) (a:Addr):Prop:=(∃ kvs,Rd H a (.dK kvs)) \/ ∃ kvs,Rd H a (.dT kvs)
theorem zPs (I:Inv X zB σ H s) (d:IsD H a) :
  s.TypeIs (.ref a) "dict" /\ (∀ b,Value.ref a = .ref b -> ∃ ob,s.heap.get? b = some ob /\ ob.dict = none) /\ (a == sysModules) = false:=by
 rcases d with ⟨kvs,e⟩ | ⟨kvs,e⟩
 ·obtain ⟨_,hd,vs,_,dd⟩:=zH0 I.hok e;refine ⟨dd.typeIs,fun b q=>?_,hd⟩;cases q;obtain ⟨ob,_,_,h1,h2,_⟩:=dd;exact ⟨ob,h1,h2.2.1⟩
 ·obtain ⟨_,hd,xs,_,dd⟩:=zHi I.hok e;refine ⟨dd.typeIs,fun b q=>?_,hd⟩;cases q;obtain ⟨ob,_,_,h1,h2,_⟩:=dd;exact ⟨ob,h1,h2.2.1⟩
section
variable {X:Cx} {zB:List (Addr × Obj)} {σ:St} {H:Hp} {s:Shared} {a:Addr} {y d:V} {u r:Value} {o:Option V} {A:Around} {E:Value -> Shared -> Prop}
theorem zUL (hu:A.units + 1 < cLine) (I:Inv X zB σ H s) (g:zD4 H a y o) (ry:zw y u) (rd:zw d r) (h:∀ w' s',Inv X zB σ H s' -> zw (o.getD d) w' -> Q w' s') :
  wpAny (model X.prog X.w) A (call (.builtin "dict.get") [.ref a,u,r]) Q E s:=by
 rcases g with ⟨kvs,k,e,ey,l⟩ | ⟨kvs,k,b,e,ey,eb,l⟩
 ·subst ey;obtain ⟨z,hd,vs,rel,dd⟩:=zH0 I.hok e;refine call_meetsIn PySem.F.slot_dict_get dd.typeIs PySem.F.entry_dict_get (PySem.F.args_dict_get_3 _ _ _) (meets_dict_get_default (zAh X.prog X.w) a (zHn ry) hd r) ⟨_,dd.mapOf,h _ _ (I.tok _) ?_⟩;rw [l];exact (rel.val k).getD rd
 ·subst ey;cases (show u = Value.ref b from ry);obtain ⟨z,hd,xs,rel,dd⟩:=zHi I.hok e;refine call_meetsIn PySem.F.slot_dict_get dd.typeIs PySem.F.entry_dict_get (PySem.F.args_dict_get_3 _ _ _) (meetsH_dict_get_default (tupleKind (zAh X.prog X.w)) a b hd r) ⟨tupleKind_room_in1 hu,k,xs,zFs I.hok eb,dd,h _ _ (I.tok _) ?_⟩;rw [l];exact (rel.val k).getD rd
end
def zPR (td ty tx:TE):TE:=fun σ H Q=>td σ H fun x H1=>∃ a,x = .ref a /\ IsD H1 a /\ ty σ H1 fun y H2=>tx σ H2 fun z H3=>∃ o,zD4 H3 a y o /\ Q (o.getD z) H3
section
variable {X:Cx} {o e f:Expr} {apos cpos:Pos} {td ty tx:TE}
theorem zPZ (hu:X.A.units + 1 < cLine) (ho:PE X o td) (he:PE X e ty) (hf:PE X f tx) (m:M2 X o "get" apos e f cpos):PE X (.Call (.Attribute o "get" apos) [e,f] [] cpos) (zPR td ty tx):=by
 intro zB s σ H Q I h;refine wpAny_Call_method m.base m.few m.line PySem.F.plainAttrs_dict PySem.F.slot_dict_get PySem.F.type_dict_get (thn (ho zB s σ H _ I h) fun u s1 ⟨x,H1,I1,rx,a,ex,d,q1⟩=>?_);subst ex;obtain rfl:u = Value.ref a:=rx;obtain ⟨t1,t2,_⟩:=zPs I1 d;refine ⟨t1,t2,?_⟩;rw [m.trees];refine Calls.callWith_builtin rfl (Calls.evalArgs_plain (Calls.spliced_cons (thn (he zB s1 σ H1 _ I1 q1) fun iv s2 ⟨y,H2,I2,ry,q2⟩=>
  Calls.spliced_cons (thn (hf zB s2 σ H2 _ I2 q2) fun fv s3 ⟨z,H3,I3,rz,ov,g,q3⟩=>Calls.spliced_nil ?_))))
 exact zUL hu I3 g ry rz fun w' s4 I4 rw'=>⟨_,H3,I4,rw',q3⟩
end
theorem zA6:∀ (names:List (Str × NameKind)) (n:Nat) (acc:List (Str × Addr)),cellsFrom n names acc = cellsFrom n names [] ++ acc
 | [],_,_=>rfl
 | (name,kind) :: r,n,acc=>by
  unfold cellsFrom;split
  ·rw [zA6 r (n + 1) ((name,n) :: acc),zA6 r (n + 1) [(name,n)],zXI];rfl
  ·exact zA6 r n acc
theorem zC2 {α:Type} (x:Str):∀ (l r:List (Str × α)),(l ++ r).lookup x = (match l.lookup x with | some c=>some c | none=>r.lookup x)
 | [],r=>rfl
 | (k,v) :: l,r=>by
  rw [List.cons_append,zYH,zYH];cases hb:x == k with
  | true=>rfl
  | false=>exact zC2 x l r
theorem zFu:∀ (names:List (Str × NameKind)) (acc:List (Str × Addr)),
  (∀ y ∈ names,y.2 = .free -> ∃ c,env.cells.lookup y.1 = some c) ->
  (∀ x c,acc.lookup x = some c -> env.cells.lookup x = some c) ->
  ∃ cl:List (Str × Addr),(forIn names acc (fun (p:Str × NameKind) (cs:List (Str × Addr))=>(do
    if p.2 == .free then
     let a <- cellOf env p.1;pure (ForInStep.yield ((p.1,a) :: cs))
    else pure (ForInStep.yield cs):Sem (ForInStep (List (Str × Addr)))))) = pure cl /\
   (∀ x c,cl.lookup x = some c -> env.cells.lookup x = some c) /\
   (∀ x,(acc.lookup x).isSome = true -> (cl.lookup x).isSome = true) /\ ∀ y ∈ names,y.2 = .free -> (cl.lookup y.1).isSome = true
 | [],acc,_,ha=>⟨acc,by rw [List.forIn_nil],ha,fun _ h=>h,fun _ h=>nomatch h⟩
 | (n,k) :: r,acc,hf,ha=>by
  rw [List.forIn_cons];by_cases hk:k = .free
  ·subst hk;obtain ⟨c,hc⟩:=hf (n,.free) zWQ rfl;have hco:cellOf env n = pure c:=by unfold cellOf; rw [hc]
   obtain ⟨cl,e,h1,h2,h3⟩:=zFu r ((n,c) :: acc) (fun y hy=>hf y (zWP _ hy)) (fun x d hx=>by
    rw [zYH] at hx;cases hb:x == n with
    | true=>rw [hb] at hx; cases hx; rw [beq_iff_eq.mp hb]; exact hc
    | false=>rw [hb] at hx; exact ha x d hx)
   refine ⟨cl,?_,h1,fun x hx=>h2 x ?_,fun y hy hk=>?_⟩
   ·rw [<- e];simp only [beq_self_eq_true,if_true,hco];rfl
   ·rw [zYH];cases hb:x == n with
    | true=>rfl
    | false=>exact hx
   ·rcases zWO.mp hy with z | z
    ·subst z;exact h2 n (by rw [zYH]; simp)
    ·exact h3 y z hk
  ·obtain ⟨cl,e,h1,h2,h3⟩:=zFu r acc (fun y hy=>hf y (zWP _ hy)) ha;refine ⟨cl,?_,h1,h2,fun y hy hk'=>?_⟩
   ·rw [<- e];have:(k == NameKind.free) = false:=by simpa using hk
    simp only [this,zXD,if_false];rfl
   ·rcases zWO.mp hy with z | z
    ·subst z; exact absurd hk' hk
    ·exact h3 y z hk'
theorem zIl (hf:∀ y ∈ scope.names,y.2 = .free -> ∃ c,env.cells.lookup y.1 = some c) :
  ∃ cl,closureFor scope env = pure cl /\ (∀ x c,cl.lookup x = some c -> env.cells.lookup x = some c) /\ ∀ y ∈ scope.names,y.2 = .free -> (cl.lookup y.1).isSome = true:=by
 obtain ⟨cl,e,h1,_,h3⟩:=zFu (env:=env) scope.names [] hf (fun x c h=>nomatch h);refine ⟨cl,?_,h1,h3⟩;unfold closureFor;rw [show (pure cl:Sem _) = pure cl >>= pure from rfl,<- e]
theorem zDM
  (hQ:Q (newEnv scope s.heap.objs.size globals (cellsFrom (s.heap.objs.size + 1) scope.names cl) qual none .none (some env) builtinsNs)
   { s with heap:=pushCells (s.heap.push { cls:=.type "dict", data:=.dict #[] }) scope.names }) :
  wpAny M A (newFunctionEnv scope globals cl [] qual none .none (some env)) Q E s:=by
 simp only [newFunctionEnv,Option.isSome_some,if_true];refine zWC (wpAny_alloc ?_);refine zWC (wpAny_layCells _ (fun name kind cells=>by cases hkc:kind == NameKind.cell <;> simp [hkc]) _ _ _ _ ?_);rw [show ({ s with heap:=s.heap.push { cls:=.type "dict", data:=.dict #[] } }:Shared).heap.objs.size = s.heap.objs.size + 1 from zWs ..];exact zWC (zWE (zWE hQ))
def zS (X:Cx) (zB:List (Addr × Obj)) (scope:Scope) (cl:List (Str × Addr)) (s:Shared) (H:Hp) (fp:List Addr):Cx where
 prog:=X.prog
 w:=X.w
 K:=X.K
 mg:=X.mg
 base:=X.base
 A:=X.A
 N:=X.N
 s₀:=s
 H₀:=H
 env:={ scope:=relabel scope X.env,locals:=s.heap.objs.size + 1,globals:=X.env.globals,cells:=cellsFrom (s.heap.objs.size + 1 + 1) scope.names cl,qual:=X.env.qual,func:=none,code:=X.env.code,frame:=X.env.frame,builtins:=X.env.builtins }
 outer:=X.stack
 stack:=X.stack
 ex:=fp
 fn:=fun x=>decide (scope.names.lookup x = some .cell)
 calm:=X.calm
 pn:=X.pn ++ zB
 xe:=fun _ _=>False
theorem zBf {scope:Scope} {env:Env} (x:Str):∀ {names:List (Str × NameKind)} {k:NameKind},
  (names.map fun (n,k)=>if (k == NameKind.free && env.scope.kind == .function && env.kindOf n == some .cell) then (n,NameKind.cell) else (n,k)).lookup x = some k ->
  names.lookup x = some k \/ (names.lookup x = some .free /\ k = .cell)
 | [],_,h=>by simp at h
 | (n,k') :: r,k,h=>by
  rw [zWV] at h;by_cases hc:(k' == NameKind.free && env.scope.kind == .function && env.kindOf n == some .cell) = true
  ·simp only [hc,if_true] at h;rw [zYH] at h ⊢;cases hb:x == n with
   | true=>
    rw [hb] at h;simp only [zWm,beq_iff_eq] at hc;exact .inr ⟨by rw [hc.1.1],(zXC h).symm⟩
   | false=>rw [hb] at h; exact zBf (scope:=scope) x h
  ·simp only [hc,zXD,if_false] at h;rw [zYH] at h ⊢;cases hb:x == n with
   | true=>rw [hb] at h; exact .inl h
   | false=>rw [hb] at h; exact zBf (scope:=scope) x h
theorem zIF:∀ (names:List (Str × NameKind)) (n:Nat) (acc:List (Str × Addr)) (x:Str) (c:Addr),(x,c) ∈ cellsFrom n names acc -> (x,c) ∉ acc -> (x,NameKind.cell) ∈ names
 | [],_,_,_,_,h,h'=>absurd h h'
 | (name,kind) :: r,n,acc,x,c,h,h'=>by
  unfold cellsFrom at h;split at h
  ·rename_i hk;by_cases e:(x,c) = (name,n)
   ·cases e;rw [beq_iff_eq] at hk;subst hk;exact zWQ
   ·exact zWP _ (zIF r _ _ x c h fun z=>(zWO.mp z).elim e h')
  ·exact zWP _ (zIF r _ _ x c h h')
structure CompScope (X:Cx) (scope:Scope):Prop where
 kind:scope.kind = .function
 names:∀ y ∈ scope.names,y.2 = .local -> scope.names.lookup y.1 = some .local
 cells:∀ y ∈ scope.names,y.2 = .cell -> scope.names.lookup y.1 = some .cell
 free:∀ y ∈ scope.names,y.2 = .free -> X.env.kindOf y.1 = some .cell \/ X.env.kindOf y.1 = some .free
section
variable {X:Cx} {zB:List (Addr × Obj)} {σ σc:St} {H:Hp} {s s4:Shared} {scope:Scope} {cl:List (Str × Addr)} {fp:List Addr}
theorem zF3 (S:CompScope X scope) (I:Inv X zB σ H s) (hf:∀ b ∈ fp,zDB X zB H b) (ho:∀ b:Nat,b ∈ fp -> b < s.heap.objs.size)
  (c1:∀ x c,cl.lookup x = some c -> X.env.cells.lookup x = some c) (c2:∀ y ∈ scope.names,y.2 = .free -> (cl.lookup y.1).isSome = true)
  (hl:σc.length = σ.length) (hσ:∀ (i:Nat) x v,X.N[i]? = some x -> σc[i]? = some (some v) -> (relabel scope X.env).names.lookup x ≠ none -> scope.names.lookup x = some .free /\ σ[i]? = some (some v))
  (lo:Obj) (hlo:∀ v,lo.data ≠ .cell v) (hfr:lo.isFreed = false)
  (h4:s4 = { s with heap:=pushCells ((s.heap.push lo).push { cls:=.type "dict", data:=.dict #[] }) scope.names }) :
  Inv (zS X zB scope cl s H fp) [(s.heap.objs.size,lo)] σc H s4:=by
 subst h4;have sz1:(s.heap.push lo).objs.size = s.heap.objs.size + 1:=zWs ..;have sz2:((s.heap.push lo).push { cls:=.type "dict", data:=.dict #[] }).objs.size = s.heap.objs.size + 1 + 1:=by rw [zWs,sz1]
 have hk:∀ b o,s.heap.get? b = some o -> (pushCells ((s.heap.push lo).push { cls:=.type "dict", data:=.dict #[] }) scope.names).get? b = some o:=fun b o e=>
  pushCells_keeps _ _ b o (zWD _ (zWD _ e))
 have ok:=cellsFrom_ok scope.names ((s.heap.push lo).push { cls:=.type "dict", data:=.dict #[] }) (s.heap.objs.size + 1 + 1) [] ⟨fun _ _ hm=>(nomatch hm),List.Pairwise.nil⟩ (by rw [sz2]; exact zWI _);rw [sz2] at ok;have look:∀ x c,(cellsFrom (s.heap.objs.size + 1 + 1) scope.names cl).lookup x = some c -> ((cellsFrom (s.heap.objs.size + 1 + 1) scope.names []).lookup x = some c) \/ ((cellsFrom (s.heap.objs.size + 1 + 1) scope.names []).lookup x = none /\ X.env.cells.lookup x = some c):=fun x c e=>by
  rw [zA6,zC2] at e;cases q:(cellsFrom (s.heap.objs.size + 1 + 1) scope.names []).lookup x with
  | some d=>rw [q] at e; exact .inl e
  | none=>rw [q] at e; exact .inr ⟨rfl,c1 x c e⟩
 have old:∀ x (c:Nat),X.env.cells.lookup x = some c -> c < s.heap.objs.size:=fun x c e=>let ⟨_,q⟩:=I.cell x c e; q.lt;have new:∀ x (c:Nat),(cellsFrom (s.heap.objs.size + 1 + 1) scope.names []).lookup x = some c -> s.heap.objs.size + 1 + 1 <= c:=fun x c e=>(ok.empty x c (zXE e)).2;have own:∀ x,scope.names.lookup x = some .cell -> ∃ c,(cellsFrom (s.heap.objs.size + 1 + 1) scope.names []).lookup x = some c:=fun x e=>zIV e;have cne:∀ x (c:Nat),(cellsFrom (s.heap.objs.size + 1 + 1) scope.names cl).lookup x = some c -> c < s.heap.objs.size \/ s.heap.objs.size + 1 + 1 <= c:=fun x c e=>by
  rcases look x c e with q | ⟨_,q⟩
  ·exact .inr (new x c q)
  ·exact .inl (old x c q)
 refine ⟨⟨I.ok.mod,S.kind,I.ok.glob,I.ok.blt,zXu _,fun x y c h1 h2=>?_,fun x hx=>?_,fun x c hx h=>?_,I.ok.hd,I.ok.frames,.inl rfl,fun b hb=>⟨?_,fun x c e z=>?_⟩,I.bs,zWd I.ok.bsz I.sz,fun b o e hb=>?_,fun b hb z=>?_,I.stack,I.stkFree⟩,
  rfl,I.bare,Un.kept hk,⟨fun _=>none,?_,fun i x v h1 h2 h3=>?_⟩,fun x c e=>?_,I.hok.fresh (zXu _),fun x c e=>?_,fun p hp=>?_,I.hok.kept hk,hl.trans I.len⟩
 ·rcases look x c h1 with a | ⟨_,a⟩ <;> rcases look y c h2 with b | ⟨_,b⟩
  ·exact name_of_addr ok.apart (zXE a) (zXE b)
  ·exact absurd (Nat.lt_of_le_of_lt (new x c a) (old y c b)) (by omega)
  ·exact absurd (Nat.lt_of_le_of_lt (new y c b) (old x c a)) (by omega)
  ·exact I.ok.inj x y c a b
 ·have hx':(relabel scope X.env).names.lookup x = some .cell \/ (relabel scope X.env).names.lookup x = some .free:=hx;have go:scope.names.lookup x = some .cell \/ scope.names.lookup x = some .free:=by
   rcases hx' with q | q
   ·rcases zBf (scope:=scope) x q with z | z
    ·exact .inl z
    ·exact .inr z.1
   ·rcases zBf (scope:=scope) x q with z | z
    ·exact .inr z
    ·exact .inr z.1
  show ∃ c,(cellsFrom (s.heap.objs.size + 1 + 1) scope.names cl).lookup x = some c;rw [zA6,zC2];rcases go with q | q
  ·obtain ⟨c,e⟩:=own x q;exact ⟨c,by rw [e]⟩
  ·cases e:(cellsFrom (s.heap.objs.size + 1 + 1) scope.names []).lookup x with
   | some d=>exact ⟨d,rfl⟩
   | none=>exact Option.isSome_iff_exists.mp (c2 (x,.free) (zXE q) rfl)
 ·obtain ⟨d,e⟩:=own x (zW8 hx);have h':(cellsFrom (s.heap.objs.size + 1 + 1) scope.names cl).lookup x = some c:=h;rw [zA6,zC2,e] at h';cases h';exact zWd (zWd (zXu _) (zXu _)) (new x _ e)
 ·exact zWX (zW1 (ho b hb))
 ·rcases look x c e with q | ⟨_,q⟩
  ·have a:=new x c q;rw [z] at a;exact absurd (Nat.lt_of_le_of_lt a (ho b hb)) (by omega)
  ·exact (hf b hb).2.2.2.2.1 x c q z
 ·rcases (hf b hb).2.2.2.1 with z | z
  ·exact I.ok.noex b o e z
  ·exact absurd (zWb (zWN e) (zWd I.ok.bsz z)) (zWu _)
 ·rcases zWO.mp (I.stkSub b z) with q | q
  ·exact (hf b hb).2.1 q
  ·exact (hf b hb).2.2.1 q
 ·have q:((s.heap.push lo).push { cls:=.type "dict", data:=.dict #[] }).Ns (s.heap.push lo).objs.size (fun _=>none):=Heap.Ns.new ..;rw [sz1] at q;exact q.keeps (pushCells_keeps _ _)
 ·have h3':(relabel scope X.env).names.lookup x ≠ none:=by
   rcases h3 with z | z | z <;> (intro q; have z':(relabel scope X.env).names.lookup x = _:=z; rw [q] at z'; cases z')
  obtain ⟨fr,hv⟩:=hσ i x v h1 h2 h3';obtain ⟨m,hn,hlk⟩:=I.loc;have kx:=S.free (x,.free) (zXE fr) rfl;obtain ⟨u,rv,lk⟩:=hlk i x v h1 hv (by rcases kx with z | z; exact .inr (.inl z); exact .inr (.inr z));refine ⟨u,rv,?_⟩;rcases lk with ⟨z,_⟩ | ⟨_,c,e,ic⟩
  ·rcases kx with k | k <;> (rw [k] at z; cases z)
  ·have kind:(relabel scope X.env).names.lookup x = some .cell \/ (relabel scope X.env).names.lookup x = some .free:=by
    cases q:(relabel scope X.env).names.lookup x with
    | none=>exact absurd q h3'
    | some k=>
     rcases zBf (scope:=scope) x q with z | z
     ·rw [fr] at z; cases z; exact .inr rfl
     ·rw [z.2]; exact .inl rfl
   refine .inr ⟨kind,c,?_,ic.keeps hk⟩;show (cellsFrom (s.heap.objs.size + 1 + 1) scope.names cl).lookup x = some c;rw [zA6,zC2];obtain ⟨d,hd⟩:=Option.isSome_iff_exists.mp (c2 (x,.free) (zXE fr) rfl);have:=c1 x d hd;rw [e] at this; cases this;have nn:(cellsFrom (s.heap.objs.size + 1 + 1) scope.names []).lookup x = none:=by
    cases q:(cellsFrom (s.heap.objs.size + 1 + 1) scope.names []).lookup x with
    | none=>rfl
    | some d'=>
     have z:=S.cells (x,.cell) (zIF scope.names _ [] x d' (zXE q) fun z=>nomatch z) rfl;rw [fr] at z; cases z
   rw [nn]; exact hd
 ·rcases look x c e with q | ⟨_,q⟩
  ·exact ⟨none,(ok.empty x c (zXE q)).1⟩
  ·obtain ⟨v,z⟩:=I.cell x c q;exact ⟨v,z.keeps hk⟩
 ·rcases look x c e with q | ⟨_,q⟩
  ·exact I.hok.fresh (by have:=new x c q; omega)
  ·exact I.freeC x c q
 ·have hp':p ∈ X.pn ++ zB \/ p = (s.heap.objs.size,lo):=by
   rcases zWc.mp hp with z | z
   ·exact .inl z
   ·exact .inr (by simpa using z)
  rcases hp' with z | z
  ·obtain ⟨e,n,ne,nf,d⟩:=I.pin p z;have lt:(p.1:Nat) < s.heap.objs.size:=zWN e;refine ⟨hk _ _ e,n,?_,fun q=>?_,d⟩
   ·exact zWX (zW1 lt)
   ·rcases zWO.mp (I.stkSub _ q) with r | r
    ·exact ne r
    ·exact nf r
  ·subst z;refine ⟨pushCells_keeps _ _ _ _ (zWD _ (zWM _ hfr)),I.hok.fresh (zWI _),?_,fun q=>?_,hlo⟩
   ·show s.heap.objs.size ≠ s.heap.objs.size + 1;omega
   ·rcases zWO.mp (I.stkSub _ q) with r | r
    ·exact absurd I.lt (by rw [<- r]; exact zWu _)
    ·exact I.nofs (zWI _) r
end
def clr (own:List Nat) (σ:St):St:=own.foldl (fun σ i=>σ.set i none) σ
theorem zBu:∀ (own:List Nat) (σ:St),(clr own σ).length = σ.length
 | [],_=>rfl
 | i :: r,σ=>by
  show (clr r (σ.set i none)).length = _;rw [zBu r,List.length_set]
theorem zDW:∀ (own:List Nat) (σ:St) (j:Nat) (v:V),(clr own σ)[j]? = some (some v) -> σ[j]? = some (some v) /\ j ∉ own
 | [],_,_,_,h=>⟨h,fun z=>nomatch z⟩
 | i :: r,σ,j,v,h=>by
  have h':(clr r (σ.set i none))[j]? = some (some v):=h;obtain ⟨a,b⟩:=zDW r _ j v h';rw [zXl] at a;split at a
  ·split at a <;> cases a
  ·rename_i hne;exact ⟨a,fun z=>(zWO.mp z).elim (fun e=>hne e.symm) b⟩
def Ext (a b:St):Prop:=b.length = a.length /\ ∀ (i:Nat) v,a[i]? = some (some v) -> b[i]? = some (some v)
theorem Ext.refl (a:St):Ext a a:=⟨rfl,fun _ _ h=>h⟩
theorem Ext.set (e:Ext (clr own σ) a) (h:i ∈ own):Ext (clr own σ) (a.set i (some v)):=by
 refine ⟨by rw [List.length_set]; exact e.1,fun j u q=>?_⟩;rw [zXl];split
 ·rename_i z;exact absurd (z ▸ h) (zDW own σ j u q).2
 ·exact e.2 j u q
def zHM (X:Cx) (ifs:List Expr) (t:TT):Prop :=
 ∀ (zB:List (Addr × Obj)) (s:Shared) (σ:St) (H:Hp) (Q:Bool -> Hp -> Prop),Inv X zB σ H s -> t σ H Q ->
  wpAny (model X.prog X.w) X.A (forIn ifs true fun c r=>if r = true then do let ok <- isTrue c X.env (eval c X.env); pure (ForInStep.yield ok) else pure (ForInStep.yield r)) (TP X zB σ Q) X.xe s
def zV3:TT:=fun _ H Q=>Q true H
theorem zPT:zHM X [] zV3:=fun _ _ _ H _ I h=>wpAny_tests_nil ⟨H,I,h⟩
theorem zQD (h:PT X c t):zHM X [c] t:=fun zB s σ H Q I hq=>wpAny_tests_one (h zB s σ H Q I hq)
section
variable {prog:Program} {w:World} {A:Around} {E:Value -> Shared -> Prop} {R:Result -> Shared -> Prop} {s:Shared}
theorem zKh (I:Nat -> Shared -> Prop)
  (turn:∀ n s,I n s -> wpAny (model prog w) A (pyNext it) (fun r s₁=>match r with
   | none=>R (.ok .next) s₁
   | some v=>wpAny (model prog w) A (letOwnedTupleGo target it v) (fun _ s₁'=>wpAny (model prog w) A (assign target env v) (fun _ s₂=>
     wpAny (model prog w) A (forIn ifs true fun c r=>if r = true then do let ok <- isTrue c env (eval c env); pure (ForInStep.yield ok) else pure (ForInStep.yield r)) (fun ok s₃=>
      if ok = true then wpAny (model prog w) A (eval elt env) (fun x s₄=>
       wpAny (model prog w) A (call (.builtin "list.append") [acc,x]) (fun _ s₅=>∃ m,m < n /\ I m s₅) (fun _ _=>False) s₄) (fun _ _=>False) s₃
      else ∃ m,m < n /\ I m s₃) (fun _ _=>False) s₂) (fun _ _=>False) s₁') (fun _ _=>False) s₁) (fun _ _=>False) s)
  (n:Nat) (h:I n s) :
  codeAny (model prog w) A (.compLoop (.ListComp elt [⟨target,iter,ifs,0⟩] scope pos) 0 it acc env) R s:=by
 refine codeAny_loop rfl I (fun n s hI=>?_) n h;show wpAny _ A ((compTurn (.ListComp elt [⟨target,iter,ifs,0⟩] scope pos) 0 it acc env).onRaise (fun x=>do noteFrame x env; theTreesLotGoes x)) _ _ s;refine wpAny_noted ?_;rw [compTurn_list];refine zWC (zXA (zWC (zWi (turn n s hI) (fun r s₁ h₁=>?_) fun _ _ h'=>h'.elim)));cases r with
 | none=>exact zWE h₁
 | some v=>
  refine zWC (zWi h₁ (fun _ s₁' h₁'=>?_) fun _ _ h'=>h'.elim);refine zWC (zWi h₁' (fun _ s₂ h₂=>zWC (zWi h₂ (fun ok s₃ h₃=>?_) fun _ _ h'=>h'.elim)) fun _ _ h'=>h'.elim);cases ok with
  | false=>exact zWE ⟨rfl,h₃⟩
  | true=>
   exact zWC (zWC (zWi h₃ (fun x s₄ h₄=>zWC (zWi h₄ (fun _ s₅ h₅=>zWE (zWE ⟨rfl,h₅⟩)) fun _ _ h'=>h'.elim)) fun _ _ h'=>h'.elim))
end
def zRK (own:List Nat) (wi:TI) (g:TG) (tc:TT) (te:TE):TE:=fun σ H Q=>wi σ H fun J H1=>∃ W:Nat -> Nat -> List V -> Hp -> Prop,(∃ m,W 0 m [] H1) /\ ∀ i m ys H,W i m ys H ->
 (J.stop i H /\ ys.length <= sizeLine /\ ∀ D,H D = none -> Q (.ref D) (upd H D (.lst ys))) \/
 (J.go i H /\ ∀ x H',J.yld i H x H' -> g x (clr own σ) H' fun σ2 H2=>Ext (clr own σ) σ2 /\ tc σ2 H2 fun b H3=>
  if b = true then te σ2 H3 fun v H4=>ys.length < sizeLine /\ ∃ m',m' < m /\ W (i + 1) m' (ys ++ [v]) H4 else ∃ m',m' < m /\ W (i + 1) m' ys H3)
abbrev zp (its:List Value) (n:Nat):Obj:={ cls:=.type "list", data:=.seq its.toArray n }
section
variable {X:Cx} {zB:List (Addr × Obj)} {σ:St} {H:Hp} {s:Shared}
theorem Inv.repin (I:Inv X (pl ++ [(D,o)]) σ H s) (hpl:∀ p ∈ X.pn ++ pl,p.1 ≠ D) (hs:Heap.SameBut D s.heap h') (hD:X.s₀.heap.objs.size <= D) (hc:∀ x c,X.env.cells.lookup x = some c -> c ≠ D)
  (e:h'.get? D = some o') (hn:∀ v,o'.data ≠ .cell v):Inv X (pl ++ [(D,o')]) σ H { s with heap:=h' }:=by
 obtain ⟨e0,n0,ne0,nf0,d0⟩:=I.pin (D,o) (by simp);have I1:Inv X pl σ H s:=I.pins_of fun p hp=>I.pin p (by simp [hp]);have I2:Inv X pl σ H { s with heap:=h' }:=I1.turned (t':=s.toks) (it:=D) (fun b u hb q=>hs.extBut b u hb q) n0 ne0 (.inr hD) hc hpl;exact I2.pins_of fun p hp=>by
  rcases zWc.mp hp with z | z
  ·exact I2.pin p (zWW _ z)
  ·have:p = (D,o'):=by simpa using z
   subst this;exact ⟨e,n0,ne0,nf0,hn⟩
end
section
variable {X:Cx} {zB:List (Addr × Obj)} {σ:St} {H:Hp} {s:Shared} {scope:Scope} {cl:List (Str × Addr)} {fp:List Addr} {it:Addr} {tn:Nat -> Heap -> Prop} {J:It} {tg elt iter:Expr} {ifs:List Expr} {pos:Pos}
 {own:List Nat} {g:TG} {tc:TT} {te:TE} {E:Value -> Shared -> Prop}
structure CompIn (X:Cx) (scope:Scope) (own:List Nat):Prop where
 sc:CompScope X scope
 nm:∀ (i:Nat) x,X.N[i]? = some x -> i ∈ own \/ scope.names.lookup x = none \/ scope.names.lookup x = some .free
theorem zCr (x:Str) (h:scope.names.lookup x = none):(relabel scope env).names.lookup x = none:=by
 cases q:(relabel scope env).names.lookup x with
 | none=>rfl
 | some k=>
  rcases zBf (scope:=scope) x q with z | z
  ·rw [h] at z; cases z
  ·rw [h] at z; cases z.1
theorem zII (C:CompIn X scope own) (hcalm:X.calm = true) (I:Inv X zB σ H s) (T:Turn X.prog X.w X.K tg J fp it tn) (st:tn 0 s.heap) (hf:∀ b ∈ fp,zDB X zB H b)
  (c1:∀ x c,cl.lookup x = some c -> X.env.cells.lookup x = some c) (c2:∀ y ∈ scope.names,y.2 = .free -> (cl.lookup y.1).isSome = true)
  (hg:PG (zS X zB scope cl s H fp) tg g) (hi:zHM (zS X zB scope cl s H fp) ifs tc) (he:PE (zS X zB scope cl s H fp) elt te)
  {RR:Value -> Addr -> Result -> Shared -> Prop} {QQ:List V -> Hp -> Prop} {W:Nat -> Nat -> List V -> Hp -> Prop} {m0:Nat} (w0:W 0 m0 [] H)
  (turn:∀ i m ys H,W i m ys H -> (J.stop i H /\ ys.length <= sizeLine /\ QQ ys H) \/
   (J.go i H /\ ∀ x H',J.yld i H x H' -> g x (clr own σ) H' fun σ2 H2=>Ext (clr own σ) σ2 /\ tc σ2 H2 fun b H3=>
    if b = true then te σ2 H3 fun v H4=>ys.length < sizeLine /\ ∃ m',m' < m /\ W (i + 1) m' (ys ++ [v]) H4 else ∃ m',m' < m /\ W (i + 1) m' ys H3))
  (fin:∀ σc H' s' its n ys,Inv (zS X zB scope cl s H fp) [(s.heap.objs.size,zp its n)] σc H' s' -> zm ys its -> ys.length <= sizeLine -> QQ ys H' -> RR (.ref s.heap.objs.size) (s.heap.objs.size + 1) (.ok .next) s') :
  wpAny (model X.prog X.w) X.A (newList []) (fun acc s₃=>wpAny (model X.prog X.w) X.A (newFunctionEnv scope X.env.globals cl [] X.env.qual none .none (some X.env)) (fun cenv s₄=>
   codeAny (model X.prog X.w) X.A (.compStart (.ListComp elt [⟨tg,iter,ifs,0⟩] scope pos) 0 (.ref it) acc { cenv with scope:=relabel scope X.env }) (RR acc cenv.locals) s₄) E s₃) E s:=by
 have ob:∀ b:Nat,b ∈ fp -> b < s.heap.objs.size:=fun b hb=>let ⟨_,e,_⟩:=T.obj 0 _ st b hb; zWN e;refine zWf (zDM ?_);have sz1:(s.heap.push (zp [] 0)).objs.size = s.heap.objs.size + 1:=zWs ..;have I4:=zF3 (X:=X) (zB:=zB) (σ:=σ) (σc:=clr own σ) (H:=H) (s:=s) (scope:=scope) (cl:=cl) (fp:=fp) C.sc I hf ob c1 c2 (zBu own σ) (fun i x v h1 h2 h3=>by
  obtain ⟨a,b⟩:=zDW own σ i v h2;rcases C.nm i x h1 with z | z | z
  ·exact absurd z b
  ·exact absurd (zCr x z) h3
  ·exact ⟨z,a⟩) (zp [] 0) (by intro v z; cases z) rfl rfl
 have st4:tn 0 (pushCells ((s.heap.push (zp [] 0)).push { cls:=.type "dict", data:=.dict #[] }) scope.names):=T.keep 0 _ _ st fun b _ o e=>pushCells_keeps _ _ b o (zWD _ (zWD _ e));dsimp only;unfold newEnv;dsimp only;rw [sz1];have hDfp:s.heap.objs.size ∉ fp:=fun z=>zWu _ (ob _ z);have hcD:∀ x c,(zS X zB scope cl s H fp).env.cells.lookup x = some c -> c ≠ s.heap.objs.size:=fun x c e z=>by
  obtain ⟨v,o,ho,hd⟩:=I4.cell x c e;obtain ⟨q,_⟩:=I4.pin (s.heap.objs.size,zp [] 0) (by simp);rw [z,q] at ho;cases ho; cases hd
 have fpk:∀ {H':Hp} {pl:List (Addr × Obj)},(∀ b ∈ fp,H' b = none) -> (∀ p ∈ pl,p.1 = s.heap.objs.size) -> ∀ b ∈ fp,zDB (zS X zB scope cl s H fp) pl H' b:=fun {H' pl} hn hp b hb=>
  ⟨hn b hb,(I4.ok.exf b hb).1,I4.ok.exfs b hb,.inl hb,(I4.ok.exf b hb).2,fun p hq=>by
   rcases zWc.mp hq with z | z
   ·exact (hf b hb).2.2.2.2.2 p z
   ·intro e;have e2:=hp p z;rw [e] at e2;exact hDfp (e2 ▸ hb)⟩
 have loop:codeAny (model X.prog X.w) X.A (.compLoop (.ListComp elt [⟨tg,iter,ifs,0⟩] scope pos) 0 (.ref it) (.ref s.heap.objs.size) (zS X zB scope cl s H fp).env) (RR (.ref s.heap.objs.size) (s.heap.objs.size + 1))
   { s with heap:=pushCells ((s.heap.push (zp [] 0)).push { cls:=.type "dict", data:=.dict #[] }) scope.names }:=by
  refine zKh (fun n s'=>∃ i H' ys its k,Inv (zS X zB scope cl s H fp) [(s.heap.objs.size,zp its k)] (clr own σ) H' s' /\ zm ys its /\ tn i s'.heap /\ (∀ b ∈ fp,H' b = none) /\ W i n ys H') ?_ m0
   ⟨0,H,[],[],0,I4,.nil,st4,fun b hb=>(hf b hb).1,w0⟩
  rintro n s5 ⟨i,H5,ys,its,k,I5,r5,st5,f5,w5⟩;have pinD:∀ p ∈ [(s.heap.objs.size,zp its k)],p.1 = s.heap.objs.size:=fun p hp=>by
   have:p = (s.heap.objs.size,zp its k):=by simpa using hp
   rw [this]
  rcases turn i n ys H5 w5 with ⟨stop,hz,qq⟩ | ⟨go,step⟩
  ·refine thn (T.done (zS X zB scope cl s H fp) rfl rfl rfl hcalm i _ s5 _ H5 _ I5 (fpk f5 pinD) st5 stop) fun r s6 ⟨hr,I6⟩=>?_;subst hr;exact fin _ H5 s6 its k ys I6 r5 hz qq
  ·refine thn (T.item (zS X zB scope cl s H fp) rfl rfl rfl hcalm i _ s5 _ H5 _ I5 (fpk f5 pinD) st5 go) fun r s6 ⟨u,hr,h6⟩=>?_;subst hr;refine thn h6 fun _ s7 ⟨x,H7,I7,r7,y7,st7,f7⟩=>?_;have I7':=I7.pinned (fpk f7 pinD) (T.obj _ _ st7);refine thn (hg _ s7 _ H7 x u _ I7' r7 (step x H7 y7)) fun _ s8 ⟨σ8,H8,I8,x8,q8⟩=>?_;refine thn (hi _ s8 σ8 H8 _ I8 q8) fun ok s9 ⟨H9,I9,q9⟩=>?_;have back:∀ {s':Shared} {Hx:Hp},Inv (zS X zB scope cl s H fp) ([(s.heap.objs.size,zp its k)] ++ zDm fp s7.heap) σ8 Hx s' -> tn (i + 1) s'.heap /\ ∀ b ∈ fp,Hx b = none:=fun {s' Hx} Ix=>
    ⟨T.keep _ _ _ st7 fun b hb o e=>(Ix.pin (b,o) (zWW _ (zWW _ (zAb hb e)))).1,fun b hb=>by
     obtain ⟨o,e,d⟩:=T.obj _ _ st7 b hb;exact (Ix.pin (b,o) (zWW _ (zWW _ (zAb hb e)))).2.1⟩
   cases ok with
   | false=>
    obtain ⟨m',hm,w'⟩:=q9;obtain ⟨b1,b2⟩:=back I9;exact ⟨m',hm,i + 1,H9,ys,its,k,(I9.weak (by rw [x8.1]) x8.2).unpinned,r5,b1,b2,w'⟩
   | true=>
    refine thn (he _ s9 σ8 H9 _ I9 q9) fun v s10 ⟨y,H10,I10,r10,hlt,m',hm,w'⟩=>?_;obtain ⟨b1,b2⟩:=back I10;have J10:=(I10.weak (by rw [x8.1]) x8.2).unpinned;obtain ⟨e10,n10,ne10,nf10,d10⟩:=J10.pin (s.heap.objs.size,zp its k) (by simp);have hlen:its.toArray.size <= sizeLine:=by
     have:=r5.length;rw [zWK,<- this];exact Nat.le_of_lt hlt
    refine wpAny_list_append_plain (hsz:=hlen) (show s10.heap.PlainList s.heap.objs.size its.toArray from ⟨k,e10⟩) fun h' hl' hs'=>?_;obtain ⟨k',e'⟩:=hl';have e'':h'.get? s.heap.objs.size = some (zp (its ++ [v]) k'):=by rw [e']; simp [zp]
    refine ⟨m',hm,i + 1,H10,ys ++ [y],its ++ [v],k',?_,r5.append (.cons r10 .nil),T.keep _ _ _ b1 fun b hb o e=>hs'.extBut b o (fun z=>hDfp (z ▸ hb)) e,b2,w'⟩;refine Inv.repin (pl:=[]) J10 (fun p hp=>?_) hs' (zWI _) hcD e'' (by intro v z; cases z);rw [zWw] at hp;have hp':p ∈ X.pn ++ zB:=hp;exact zWX (zWN (I.pin p hp').1)
 exact codeAny_compStart_list loop (T.self _ 0 _ _ _ st4 loop)
end
section
variable {X:Cx} {zB:List (Addr × Obj)} {σ:St} {H:Hp} {s:Shared} {scope:Scope} {cl:List (Str × Addr)} {fp:List Addr}
theorem zIN (I:Inv X zB σ H s) (hf:∀ b ∈ fp,zDB X zB H b)
  (Ic:Inv (zS X zB scope cl s H fp) [(s.heap.objs.size,zp its n)] σc H' s') (rv:zm ys its) (hz:ys.length <= sizeLine) (hs:Heap.SameBut (s.heap.objs.size + 1) s'.heap h') :
  Inv X zB σ (upd H' s.heap.objs.size (.lst ys)) { s' with heap:=h' } /\ H' s.heap.objs.size = none:=by
 obtain ⟨eD,nD,_⟩:=Ic.pin (s.heap.objs.size,zp its n) (by simp);have nC:H' (s.heap.objs.size + 1) = none:=Ic.free;have eD':h'.get? s.heap.objs.size = some (zp its n):=hs.extBut _ _ (zWX (zW9 _)) eD;have lt1:∀ {b:Addr} {o:Obj},s.heap.get? b = some o -> b ≠ s.heap.objs.size + 1 /\ b ≠ s.heap.objs.size:=fun e=>⟨zWX (zW1 (zWN e)),zWX (zWN e)⟩;have tr:∀ b u,H' b = some u -> b ≠ s.heap.objs.size + 1 /\ b ≠ s.heap.objs.size:=fun b u e=>⟨fun z=>(by rw [z,nC] at e; cases e),fun z=>(by rw [z,nD] at e; cases e)⟩;refine ⟨?_,nD⟩;have B:=Ic.base;have un:Un (frs X.stack) fp H (upd H' s.heap.objs.size (.lst ys)) s.heap h':=by
  refine ⟨fun b o e q hb hx=>hs.extBut b o (lt1 e).1 (B.keep b o e q hb hx),fun b o e q hb hx=>?_,fun b o e q hx=>?_,fun b o e hx=>?_,fun b xs e=>?_,fun b o xs e=>?_,fun b ps e=>?_⟩
  ·obtain ⟨sl,e1⟩:=B.slot b o e q hb hx;exact ⟨sl,hs.extBut b _ (lt1 e).1 e1⟩
  ·rw [zh (lt1 e).2]; exact B.free b o e q hx
  ·obtain ⟨o',e1⟩:=B.there b o e hx;exact ⟨o',hs.extBut b _ (lt1 e).1 e1⟩
  ·have q:=B.tups b xs e;rw [zh (tr b _ q).2]; exact q
  ·have q:=B.frzs b o xs e;rw [zh (tr b _ q).2]; exact q
  ·obtain ⟨more,q⟩:=B.tbls b ps e;exact ⟨more,by rw [zh (tr b _ q).2]; exact q⟩
 have hok:HOk X.prog X.w (upd H' s.heap.objs.size (.lst ys)) h':=fun b u e=>by
  by_cases hb:b = s.heap.objs.size
  ·subst hb;rw [zAe] at e; cases e;exact ⟨hz,its,n,rv,eD'⟩
  ·rw [zh hb] at e;refine (Ic.hok b u e).stay (fun c v hc q=>hs.extBut c v ?_ q) (fun c q=>by rw [zh (tr c _ q).2]; exact q) fun c xs q=>by rw [zh (tr c _ q).2]; exact q
   rcases hc with z | z
   ·rw [z]; exact (tr b u e).1
   ·exact (tr c _ z).1
 exact I.call' (s':={ s' with heap:=h' }) (ch:=fp) Ic.os un hok Ic.bare fun b hb=>⟨(hf b hb).2.2.2.1,(hf b hb).2.1,(hf b hb).2.2.2.2.1,(hf b hb).2.2.2.2.2⟩
end
section
variable {X:Cx} {scope:Scope} {tg elt iter:Expr} {ifs:List Expr} {pos:Pos} {own:List Nat} {wi:TI} {g:TG} {tc:TT} {te:TE}
structure CompParts (X:Cx) (scope:Scope) (tg:Expr) (ifs:List Expr) (elt:Expr) (g:TG) (tc:TT) (te:TE):Prop where
 g:∀ zB cl s H fp,PG (zS X zB scope cl s H fp) tg g
 c:∀ zB cl s H fp,zHM (zS X zB scope cl s H fp) ifs tc
 e:∀ zB cl s H fp,PE (zS X zB scope cl s H fp) elt te
theorem CompScope.closure (S:CompScope X scope) (I:Inv X zB σ H s) :
  ∃ cl,closureFor scope X.env = pure cl /\ (∀ x c,cl.lookup x = some c -> X.env.cells.lookup x = some c) /\ ∀ y ∈ scope.names,y.2 = .free -> (cl.lookup y.1).isSome = true :=
 zIl fun y hy hk=>I.ok.has y.1 (S.free y hy hk)
theorem zSV (C:CompIn X scope own) (hcalm:X.calm = true) (hi:PI X tg iter wi) (p:CompParts X scope tg ifs elt g tc te) (hs:∀ x,foldedSetIterable iter X.env x = pure x:=by intro _; rfl) :
  PE X (.ListComp elt [⟨tg,iter,ifs,0⟩] scope pos) (zRK own wi g tc te):=by
 intro zB s σ H Q I h;obtain ⟨cl,hcl,c1,c2⟩:=C.sc.closure I;rw [eval_ListComp];refine zX6 (use:=none) rfl hs hcl C.sc.kind C.sc.names (thn (hi zB s σ H _ I h) fun v s1 h1=>thn h1 fun itv s2 h2=>?_);obtain ⟨it,fp,tn,J,H2,e,I2,T,st2,f2,W,⟨m0,w0⟩,turn⟩:=h2;subst e;refine zII C hcalm I2 T st2 f2 c1 c2 (p.g _ _ _ _ _) (p.c _ _ _ _ _) (p.e _ _ _ _ _) (RR:=fun acc C r s'=>compPost (model X.prog X.w) X.A X.xe none (EP X zB σ Q) acc C r s') (QQ:=fun ys H=>∀ D,H D = none -> Q (.ref D) (upd H D (.lst ys))) w0 turn ?_;intro σc H' s' its n ys Ic rv hz qq;obtain ⟨m,hn,_⟩:=Ic.loc;refine ⟨m,hn,fun h' hs'=>?_⟩;obtain ⟨J',nD⟩:=zIN I2 f2 Ic rv hz hs';exact ⟨.ref s2.heap.objs.size,_,J',rfl,qq _ nD⟩
theorem zM2 (hN:X.N.Nodup) (hi':X.N[i]? = some x) (hx:Loc X.env.scope x) (hfn:X.fn x = true \/ X.env.scope.names.lookup x = some .local)
  (C:CompIn X scope own) (hcalm:X.calm = true) (hi:PI X tg iter wi) (p:CompParts X scope tg ifs elt g tc te)
  (hsw:swapsWith (.ListComp elt [⟨tg,iter,ifs,0⟩] scope pos) (some (.Name x pos')) pos''.line X.env = pure true) (hs:∀ x,foldedSetIterable iter X.env x = pure x:=by intro _; rfl) :
  PS X (.Assign [.Name x pos'] (.ListComp elt [⟨tg,iter,ifs,0⟩] scope pos) pos'') (zPt (zRK own wi g tc te) (zCI i)):=by
 intro zB s σ H D I h;obtain ⟨cl,hcl,c1,c2⟩:=C.sc.closure I;rw [exec_Assign_Name_used _ _ _ _ hsw];refine zWC (zXA (zWC ?_));show wpAny _ X.A (do let _ <- comprehension (.ListComp elt [⟨tg,iter,ifs,0⟩] scope pos) scope X.env _ (newList []) false (eval iter X.env) (some (assign (.Name x pos') X.env))) _ _ s
 refine zWC (zWi (zX6 (use:=some (assign (.Name x pos') X.env)) (Q:=fun _ s'=>SP X zB D .next s') rfl hs hcl C.sc.kind C.sc.names
  (thn (hi zB s σ H _ I h) fun v s1 h1=>thn h1 fun itv s2 h2=>?_)) (fun _ s' hq=>zWE (zWE hq)) fun _ _ e=>e)
 obtain ⟨it,fp,tn,J,H2,e,I2,T,st2,f2,W,⟨m0,w0⟩,turn⟩:=h2;subst e
 refine zII C hcalm I2 T st2 f2 c1 c2 (p.g _ _ _ _ _) (p.c _ _ _ _ _) (p.e _ _ _ _ _) (RR:=fun acc C r s'=>compPost (model X.prog X.w) X.A X.xe (some (assign (.Name x pos') X.env)) (fun _ s'=>SP X zB D .next s') acc C r s')
  (QQ:=fun ys H=>∀ E,H E = none -> zCI i (.ref E) σ (upd H E (.lst ys)) D.nx) w0 turn ?_
 intro σc H' s' its n ys Ic rv hz qq;obtain ⟨m,hn,_⟩:=Ic.loc;obtain ⟨J',nD⟩:=zIN (h':=s'.heap) I2 f2 Ic rv hz (.refl ..);obtain ⟨oC,es,ep,hoC,hdC,r1,r2⟩:=id hn;have nC:upd H' s2.heap.objs.size (.lst ys) (s2.heap.objs.size + 1) = none:=by rw [zh (zXh (zW9 _))]; exact Ic.free
 have K':Inv X (zB ++ [(s2.heap.objs.size + 1,oC)]) σ (upd H' s2.heap.objs.size (.lst ys)) s':=J'.pins_of fun q hq=>by
  rcases zWc.mp hq with z | z
  ·exact J'.pin q (zWW _ z)
  ·have e:q = (s2.heap.objs.size + 1,oC):=by simpa using z
   subst e;refine ⟨hoC,nC,zXh (zW1 I2.lt),I2.nofs (zXu _),fun v z=>?_⟩;have z':oC.data = .cell v:=z;rw [hdC] at z'; cases z'
 show wpAny _ X.A (assign (.Name x pos') X.env (.ref s2.heap.objs.size)) _ _ _;refine thn (zJr hN hi' hx hfn _ s' σ _ (.ref s2.heap.objs.size) (.ref s2.heap.objs.size) _ K' rfl (qq _ nD)) fun _ s'' ⟨σ'',H'',I'',q''⟩=>?_;obtain ⟨eC,_⟩:=I''.pin (s2.heap.objs.size + 1,oC) (by simp);refine ⟨m,⟨oC,es,ep,eC,hdC,r1,r2⟩,fun h' hs'=>⟨σ'',H'',?_,q''⟩⟩;have I3:Inv X zB σ'' H'' s'':=I''.unpinned;obtain ⟨_,nC'',neC,_,_⟩:=I''.pin (s2.heap.objs.size + 1,oC) (by simp);refine I3.turned (t':=s''.toks) (it:=s2.heap.objs.size + 1) (fun b o hb e=>hs'.extBut b o hb e) nC'' neC (.inr (zWd I2.sz (zXu _))) (fun x c e z=>?_) (fun q hq z=>?_)
 ·obtain ⟨v,o,ho,hd⟩:=I3.cell x c e;rw [z,eC] at ho; cases ho;rw [hdC] at hd; cases hd
 ·obtain ⟨e,_⟩:=I2.pin q hq;exact zWX (zW1 (zWN e)) z
end
abbrev zBw (elt t1 i1:Expr) (f1:List Expr) (t2 i2:Expr) (f2:List Expr) (scope:Scope) (pos:Pos):Expr:=.ListComp elt [⟨t1,i1,f1,0⟩,⟨t2,i2,f2,0⟩] scope pos
theorem zIq (elt t1 i1:Expr) (f1:List Expr) (t2 i2:Expr) (f2:List Expr) (scope:Scope) (pos:Pos) (it acc:Value) (env:Env) :
  compTurn (zBw elt t1 i1 f1 t2 i2 f2 scope pos) 0 it acc env = (do
   standAt i1.pos;match <- pyNext it with
   | none=>pure (.done .next)
   | some v=>
    letOwnedTupleGo t1 it v;assign t1 env v;let mut ok:=true
    for c in f1 do
     if ok then ok <- isTrue c env (eval c env)
    if ok then
     let x <- eval i2 env;standAt i2.pos;let x <- foldedSetIterable i2 env x;let _ <- runOwn (.compStart (zBw elt t1 i1 f1 t2 i2 f2 scope pos) 1 (<- holding [x] (pyIter x)) acc env) env
    again (.compLoop (zBw elt t1 i1 f1 t2 i2 f2 scope pos) 0 it acc env)):=by rfl
theorem zKm (elt t1 i1:Expr) (f1:List Expr) (t2 i2:Expr) (f2:List Expr) (scope:Scope) (pos:Pos) (it acc:Value) (env:Env) :
  compTurn (zBw elt t1 i1 f1 t2 i2 f2 scope pos) 1 it acc env = (do
   standAt i2.pos;match <- pyNext it with
   | none=>pure (.done .next)
   | some v=>
    letOwnedTupleGo t2 it v;assign t2 env v;let mut ok:=true
    for c in f2 do
     if ok then ok <- isTrue c env (eval c env)
    if ok then
     (do let _ <- call (.builtin "list.append") [acc,<- eval elt env])
    again (.compLoop (zBw elt t1 i1 f1 t2 i2 f2 scope pos) 1 it acc env)):=by rfl
section
variable {prog:Program} {w:World} {A:Around} {E:Value -> Shared -> Prop} {R:Result -> Shared -> Prop} {s:Shared}
variable {elt t1 i1 t2 i2:Expr} {f1 f2:List Expr} {scope:Scope} {pos:Pos} {it acc:Value} {env:Env}
theorem zJz (I:Nat -> Shared -> Prop)
  (turn:∀ n s,I n s -> wpAny (model prog w) A (pyNext it) (fun r s₁=>match r with
   | none=>R (.ok .next) s₁
   | some v=>wpAny (model prog w) A (letOwnedTupleGo t2 it v) (fun _ s₁'=>wpAny (model prog w) A (assign t2 env v) (fun _ s₂=>
     wpAny (model prog w) A (forIn f2 true fun c r=>if r = true then do let ok <- isTrue c env (eval c env); pure (ForInStep.yield ok) else pure (ForInStep.yield r)) (fun ok s₃=>
      if ok = true then wpAny (model prog w) A (eval elt env) (fun x s₄=>
       wpAny (model prog w) A (call (.builtin "list.append") [acc,x]) (fun _ s₅=>∃ m,m < n /\ I m s₅) (fun _ _=>False) s₄) (fun _ _=>False) s₃
      else ∃ m,m < n /\ I m s₃) (fun _ _=>False) s₂) (fun _ _=>False) s₁') (fun _ _=>False) s₁) (fun _ _=>False) s)
  (n:Nat) (h:I n s) :
  codeAny (model prog w) A (.compLoop (zBw elt t1 i1 f1 t2 i2 f2 scope pos) 1 it acc env) R s:=by
 refine codeAny_loop rfl I (fun n s hI=>?_) n h;show wpAny _ A ((compTurn (zBw elt t1 i1 f1 t2 i2 f2 scope pos) 1 it acc env).onRaise (fun x=>do noteFrame x env; theTreesLotGoes x)) _ _ s;refine wpAny_noted ?_;rw [zKm];refine zWC (zXA (zWC (zWi (turn n s hI) (fun r s₁ h₁=>?_) fun _ _ h'=>h'.elim)));cases r with
 | none=>exact zWE h₁
 | some v=>
  refine zWC (zWi h₁ (fun _ s₁' h₁'=>?_) fun _ _ h'=>h'.elim);refine zWC (zWi h₁' (fun _ s₂ h₂=>zWC (zWi h₂ (fun ok s₃ h₃=>?_) fun _ _ h'=>h'.elim)) fun _ _ h'=>h'.elim);cases ok with
  | false=>exact zWE ⟨rfl,h₃⟩
  | true=>
   exact zWC (zWC (zWi h₃ (fun x s₄ h₄=>zWC (zWi h₄ (fun _ s₅ h₅=>zWE (zWE ⟨rfl,h₅⟩)) fun _ _ h'=>h'.elim)) fun _ _ h'=>h'.elim))
theorem zIt
  (h0:codeAny (model prog w) A (.compLoop (zBw elt t1 i1 f1 t2 i2 f2 scope pos) 1 it acc env) R s)
  (h:wpAny (model prog w) A (pyIter it) (fun it' s'=>codeAny (model prog w) A (.compLoop (zBw elt t1 i1 f1 t2 i2 f2 scope pos) 1 it' acc env) R s')
   (notedBy (model prog w) A env fun x s'=>R (.error x) s') s) :
  codeAny (model prog w) A (.compStart (zBw elt t1 i1 f1 t2 i2 f2 scope pos) 1 it acc env) R s:=by
 refine codeAny_of_tree ?_;show wpAny _ _ ((compStart (zBw elt t1 i1 f1 t2 i2 f2 scope pos) 1 it acc env).onRaise (fun x=>do noteFrame x env; standAt theWindowsPlace)) _ _ s;refine wpAny_notedAt ?_;unfold compStart;show wpAny _ _ (ask >>= _) _ _ s;refine zWC (wpAny_askSetting (wpAny_ite ?_));split
 ·first
   | exact zWC (zWE (zWE (And.intro rfl h0)))
   | exact zWE (And.intro rfl h0)
 ·first
   | exact zWC (wpAny_rule (zWC (zXA (zWC (zWi h (fun it' s' h'=>zWE (And.intro rfl h')) fun _ _ x=>x)))))
   | (refine zWC (wpAny_rule ?_); show wpAny _ _ (standAt i2.pos >>= _) _ _ s; exact zWC (zXA (zWC (zWi h (fun it' s' h'=>zWE (And.intro rfl h')) fun _ _ x=>x))))
theorem zIk (hs2:∀ x,foldedSetIterable i2 env x = pure x) (I:Nat -> Shared -> Prop)
  (turn:∀ n s,I n s -> wpAny (model prog w) A (pyNext it) (fun r s₁=>match r with
   | none=>R (.ok .next) s₁
   | some v=>wpAny (model prog w) A (letOwnedTupleGo t1 it v) (fun _ s₁'=>wpAny (model prog w) A (assign t1 env v) (fun _ s₂=>
     wpAny (model prog w) A (forIn f1 true fun c r=>if r = true then do let ok <- isTrue c env (eval c env); pure (ForInStep.yield ok) else pure (ForInStep.yield r)) (fun ok s₃=>
      if ok = true then wpAny (model prog w) A (eval i2 env) (fun x s₄=>wpAny (model prog w) A (pyIter x) (fun it2 s₅=>
       codeAny (model prog w) A (.compStart (zBw elt t1 i1 f1 t2 i2 f2 scope pos) 1 it2 acc env) (fun r s₆=>r = .ok .next /\ ∃ m,m < n /\ I m s₆) s₅) (fun _ _=>False) s₄) (fun _ _=>False) s₃
      else ∃ m,m < n /\ I m s₃) (fun _ _=>False) s₂) (fun _ _=>False) s₁') (fun _ _=>False) s₁) (fun _ _=>False) s)
  (n:Nat) (h:I n s) :
  codeAny (model prog w) A (.compLoop (zBw elt t1 i1 f1 t2 i2 f2 scope pos) 0 it acc env) R s:=by
 refine codeAny_loop rfl I (fun n s hI=>?_) n h;show wpAny _ A ((compTurn (zBw elt t1 i1 f1 t2 i2 f2 scope pos) 0 it acc env).onRaise (fun x=>do noteFrame x env; theTreesLotGoes x)) _ _ s;refine wpAny_noted ?_;rw [zIq];refine zWC (zXA (zWC (zWi (turn n s hI) (fun r s₁ h₁=>?_) fun _ _ h'=>h'.elim)));cases r with
 | none=>exact zWE h₁
 | some v=>
  refine zWC (zWi h₁ (fun _ s₁' h₁'=>?_) fun _ _ h'=>h'.elim);refine zWC (zWi h₁' (fun _ s₂ h₂=>zWC (zWi h₂ (fun ok s₃ h₃=>?_) fun _ _ h'=>h'.elim)) fun _ _ h'=>h'.elim);cases ok with
  | false=>exact zWE ⟨rfl,h₃⟩
  | true=>
   refine zWC (zWi h₃ (fun x s₄ h₄=>zWC (zXA (zWC (wpAny_of_eq (hs2 x) (zWC (zW5 (zWi h₄ (fun it2 s₅ h₅=>?_) fun _ _ h'=>h'.elim))))))) fun _ _ h'=>h'.elim);refine zWC (wpAny_runOwn (codeAny_mono h₅ fun r s₆ hr=>?_));obtain ⟨rfl,hr⟩:=hr;exact zWE ⟨rfl,hr⟩
end
def tIn (own2:List Nat) (wi2:TI) (g2:TG) (tc2:TT) (te:TE) (σ2:St) (H3:Hp) (ys:List V) (QQ:List V -> Hp -> Prop):Prop :=
 wi2 σ2 H3 fun J2 H4=>∃ W2:Nat -> Nat -> List V -> Hp -> Prop,(∃ m,W2 0 m ys H4) /\ ∀ j m zs H,W2 j m zs H ->
  (J2.stop j H /\ QQ zs H) \/
  (J2.go j H /\ ∀ x H',J2.yld j H x H' -> g2 x (clr own2 σ2) H' fun σ3 H5=>Ext (clr own2 σ2) σ3 /\ tc2 σ3 H5 fun b H6=>
   if b = true then te σ3 H6 fun v H7=>zs.length < sizeLine /\ ∃ m',m' < m /\ W2 (j + 1) m' (zs ++ [v]) H7 else ∃ m',m' < m /\ W2 (j + 1) m' zs H6)
section
variable {C:Cx} {elt t1 i1 t2 i2:Expr} {f1 f2:List Expr} {scope:Scope} {pos:Pos} {pl:List (Addr × Obj)} {σ:St} {H:Hp} {s:Shared} {D:Addr}
 {own2:List Nat} {wi2:TI} {g2:TG} {tc2:TT} {te:TE} {R:Result -> Shared -> Prop}
theorem zRG (hxe:C.xe = fun _ _=>False) (hcalm:C.calm = true) (hi:PI C t2 i2 wi2) (hg:PG C t2 g2) (hc:zHM C f2 tc2) (he:PE C elt te) (hD:C.s₀.heap.objs.size <= D)
  (hcD:∀ x c,C.env.cells.lookup x = some c -> c ≠ D) (hpl:∀ p ∈ C.pn ++ pl,p.1 ≠ D) (I:Inv C (pl ++ [(D,zp its k)]) σ H s) (rv:zm ys its) (h:tIn own2 wi2 g2 tc2 te σ H ys QQ)
  (fin:∀ s' H' its' k' zs,Inv C (pl ++ [(D,zp its' k')]) (clr own2 σ) H' s' -> zm zs its' -> QQ zs H' -> R (.ok .next) s') :
  wpAny (model C.prog C.w) C.A (eval i2 C.env) (fun x s₄=>wpAny (model C.prog C.w) C.A (pyIter x) (fun it2 s₅=>
   codeAny (model C.prog C.w) C.A (.compStart (zBw elt t1 i1 f1 t2 i2 f2 scope pos) 1 it2 (.ref D) C.env) R s₅) (fun _ _=>False) s₄) (fun _ _=>False) s:=by
 have hpi:=hi _ s σ H _ I h;rw [hxe] at hpi;refine thn hpi fun v s1 h1=>thn h1 fun itv s2 h2=>?_;obtain ⟨it,fp,tn,J,H2,e,I2,T,st2,f2',W,⟨m0,w0⟩,turn⟩:=h2;subst e;have hDfp:D ∉ fp:=fun z=>(f2' D z).2.2.2.2.2 (D,zp its k) (by simp) rfl;have loop:∀ s',(∃ H',Inv C (pl ++ [(D,zp its k)]) (clr own2 σ) H' s' /\ tn 0 s'.heap /\ (∀ b ∈ fp,H' b = none) /\ W 0 m0 ys H') -> codeAny (model C.prog C.w) C.A (.compLoop (zBw elt t1 i1 f1 t2 i2 f2 scope pos) 1 (.ref it) (.ref D) C.env) R s':=by
  rintro s' ⟨H',I',st',hn',w'⟩;have fpk:∀ {H':Hp} {its:List Value} {k:Nat},(∀ b ∈ fp,H' b = none) -> ∀ b ∈ fp,zDB C (pl ++ [(D,zp its k)]) H' b:=fun {H' its k} hn b hb=>by
   obtain ⟨_,a2,a3,a4,a5,a6⟩:=f2' b hb;refine ⟨hn b hb,a2,a3,a4,a5,fun p hp=>?_⟩;rcases zWc.mp hp with z | z
   ·exact a6 p (zXR _ z)
   ·rcases zWc.mp z with z | z
    ·exact a6 p (zWW _ (zXR _ z))
    ·have:p = (D,zp its k):=by simpa using z
     rw [this];intro q;have q':D = b:=q;exact hDfp (q' ▸ hb)
  refine zJz (fun n s'=>∃ i H' ys its k,Inv C (pl ++ [(D,zp its k)]) (clr own2 σ) H' s' /\ zm ys its /\ tn i s'.heap /\ (∀ b ∈ fp,H' b = none) /\ W i n ys H') ?_ m0 ⟨0,H',ys,its,k,I',rv,st',hn',w'⟩;rintro n s5 ⟨i,H5,ys,its,k,I5,r5,st5,f5,w5⟩;rcases turn i n ys H5 w5 with ⟨stop,qq⟩ | ⟨go,step⟩
  ·refine thn (T.done C rfl rfl rfl hcalm i _ s5 _ H5 _ I5 (fpk f5) st5 stop) fun r s6 ⟨hr,I6⟩=>?_;subst hr;exact fin s6 H5 its k ys I6 r5 qq
  ·refine thn (T.item C rfl rfl rfl hcalm i _ s5 _ H5 _ I5 (fpk f5) st5 go) fun r s6 ⟨u,hr,h6⟩=>?_;subst hr;refine thn h6 fun _ s7 ⟨x,H7,I7,r7,y7,st7,f7⟩=>?_;have I7':=I7.pinned (fpk f7) (T.obj _ _ st7);have hgg:=hg _ s7 _ H7 x u _ I7' r7 (step x H7 y7);rw [hxe] at hgg;refine thn hgg fun _ s8 ⟨σ8,H8,I8,x8,q8⟩=>?_;have hcc:=hc _ s8 σ8 H8 _ I8 q8;rw [hxe] at hcc;refine thn hcc fun ok s9 ⟨H9,I9,q9⟩=>?_;have back:∀ {s':Shared} {Hx:Hp},Inv C ((pl ++ [(D,zp its k)]) ++ zDm fp s7.heap) σ8 Hx s' -> tn (i + 1) s'.heap /\ ∀ b ∈ fp,Hx b = none:=fun {s' Hx} Ix=>
    ⟨T.keep _ _ _ st7 fun b hb o e=>(Ix.pin (b,o) (zWW _ (zWW _ (zAb hb e)))).1,fun b hb=>by
     obtain ⟨o,e,d⟩:=T.obj _ _ st7 b hb;exact (Ix.pin (b,o) (zWW _ (zWW _ (zAb hb e)))).2.1⟩
   cases ok with
   | false=>
    obtain ⟨m',hm,w'⟩:=q9;obtain ⟨b1,b2⟩:=back I9;exact ⟨m',hm,i + 1,H9,ys,its,k,(I9.weak (by rw [x8.1]) x8.2).unpinned,r5,b1,b2,w'⟩
   | true=>
    have hee:=he _ s9 σ8 H9 _ I9 q9;rw [hxe] at hee;refine thn hee fun v s10 ⟨y,H10,I10,r10,hlt,m',hm,w'⟩=>?_;obtain ⟨b1,b2⟩:=back I10;have J10:=(I10.weak (by rw [x8.1]) x8.2).unpinned;obtain ⟨e10,n10,ne10,nf10,d10⟩:=J10.pin (D,zp its k) (by simp);have hlen:its.toArray.size <= sizeLine:=by
     have:=r5.length;rw [zWK,<- this];exact Nat.le_of_lt hlt
    refine wpAny_list_append_plain (hsz:=hlen) (show s10.heap.PlainList D its.toArray from ⟨k,e10⟩) fun h' hl' hs'=>?_;obtain ⟨k',e'⟩:=hl';have e'':h'.get? D = some (zp (its ++ [v]) k'):=by rw [e']; simp [zp]
    refine ⟨m',hm,i + 1,H10,ys ++ [y],its ++ [v],k',?_,r5.append (.cons r10 .nil),T.keep _ _ _ b1 fun b hb o e=>hs'.extBut b o (fun z=>hDfp (z ▸ hb)) e,b2,w'⟩;exact Inv.repin (pl:=pl) J10 hpl hs' hD hcD e'' (by intro v z; cases z)
 have l0:=loop s2 ⟨H2,I2.weak (zBu own2 σ) (fun i v h=>(zDW own2 σ i v h).1),st2,fun b hb=>(f2' b hb).1,w0⟩;exact zIt l0 (T.self _ 0 _ _ _ st2 l0)
end
section
variable {X:Cx} {zB:List (Addr × Obj)} {σ:St} {H:Hp} {s:Shared} {scope:Scope} {cl:List (Str × Addr)} {fp:List Addr} {it:Addr} {tn:Nat -> Heap -> Prop} {J:It} {elt t1 i1 t2 i2:Expr} {f1 f2:List Expr} {pos:Pos}
 {own own2:List Nat} {g g2:TG} {tc tc2:TT} {te:TE} {wi wi2:TI} {E:Value -> Shared -> Prop}
theorem zLP:∀ (own:List Nat) (σ:St) (j:Nat),j ∉ own -> (clr own σ)[j]? = σ[j]?
 | [],_,_,_=>rfl
 | i :: r,σ,j,h=>by
  show (clr r (σ.set i none))[j]? = _;rw [zLP r _ j (fun z=>h (zWP _ z)),zWg (fun z=>h (by rw [z]; exact zWQ))]
theorem zL8 (hsub:∀ i ∈ own2,i ∈ own) (C:CompIn X scope own) (hcalm:X.calm = true) (I:Inv X zB σ H s) (T:Turn X.prog X.w X.K t1 J fp it tn) (st:tn 0 s.heap) (hf:∀ b ∈ fp,zDB X zB H b)
  (c1:∀ x c,cl.lookup x = some c -> X.env.cells.lookup x = some c) (c2:∀ y ∈ scope.names,y.2 = .free -> (cl.lookup y.1).isSome = true)
  (hg:PG (zS X zB scope cl s H fp) t1 g) (hi:zHM (zS X zB scope cl s H fp) f1 tc)
  (hi2:PI (zS X zB scope cl s H fp) t2 i2 wi2) (hg2:PG (zS X zB scope cl s H fp) t2 g2) (hc2:zHM (zS X zB scope cl s H fp) f2 tc2) (he:PE (zS X zB scope cl s H fp) elt te)
  (hs2:∀ x,foldedSetIterable i2 (zS X zB scope cl s H fp).env x = pure x)
  {RR:Value -> Addr -> Result -> Shared -> Prop} {QQ:List V -> Hp -> Prop} {W:Nat -> Nat -> List V -> Hp -> Prop} {m0:Nat} (w0:W 0 m0 [] H)
  (turn:∀ i m ys H,W i m ys H -> (J.stop i H /\ ys.length <= sizeLine /\ QQ ys H) \/
   (J.go i H /\ ∀ x H',J.yld i H x H' -> g x (clr own σ) H' fun σ2 H2=>Ext (clr own σ) σ2 /\ tc σ2 H2 fun b H3=>
    if b = true then tIn own2 wi2 g2 tc2 te σ2 H3 ys fun zs H4=>∃ m',m' < m /\ W (i + 1) m' zs H4 else ∃ m',m' < m /\ W (i + 1) m' ys H3))
  (fin:∀ σc H' s' its n ys,Inv (zS X zB scope cl s H fp) [(s.heap.objs.size,zp its n)] σc H' s' -> zm ys its -> ys.length <= sizeLine -> QQ ys H' -> RR (.ref s.heap.objs.size) (s.heap.objs.size + 1) (.ok .next) s') :
  wpAny (model X.prog X.w) X.A (newList []) (fun acc s₃=>wpAny (model X.prog X.w) X.A (newFunctionEnv scope X.env.globals cl [] X.env.qual none .none (some X.env)) (fun cenv s₄=>
   codeAny (model X.prog X.w) X.A (.compStart (zBw elt t1 i1 f1 t2 i2 f2 scope pos) 0 (.ref it) acc { cenv with scope:=relabel scope X.env }) (RR acc cenv.locals) s₄) E s₃) E s:=by
 have ob:∀ b:Nat,b ∈ fp -> b < s.heap.objs.size:=fun b hb=>let ⟨_,e,_⟩:=T.obj 0 _ st b hb; zWN e;refine zWf (zDM ?_);have sz1:(s.heap.push (zp [] 0)).objs.size = s.heap.objs.size + 1:=zWs ..;have I4:=zF3 (X:=X) (zB:=zB) (σ:=σ) (σc:=clr own σ) (H:=H) (s:=s) (scope:=scope) (cl:=cl) (fp:=fp) C.sc I hf ob c1 c2 (zBu own σ) (fun i x v h1 h2 h3=>by
  obtain ⟨a,b⟩:=zDW own σ i v h2;rcases C.nm i x h1 with z | z | z
  ·exact absurd z b
  ·exact absurd (zCr x z) h3
  ·exact ⟨z,a⟩) (zp [] 0) (by intro v z; cases z) rfl rfl
 have st4:tn 0 (pushCells ((s.heap.push (zp [] 0)).push { cls:=.type "dict", data:=.dict #[] }) scope.names):=T.keep 0 _ _ st fun b _ o e=>pushCells_keeps _ _ b o (zWD _ (zWD _ e));dsimp only;unfold newEnv;dsimp only;rw [sz1];have hDfp:s.heap.objs.size ∉ fp:=fun z=>zWu _ (ob _ z);have hcD:∀ x c,(zS X zB scope cl s H fp).env.cells.lookup x = some c -> c ≠ s.heap.objs.size:=fun x c e z=>by
  obtain ⟨v,o,ho,hd⟩:=I4.cell x c e;obtain ⟨q,_⟩:=I4.pin (s.heap.objs.size,zp [] 0) (by simp);rw [z,q] at ho;cases ho; cases hd
 have fpk:∀ {H':Hp} {pl:List (Addr × Obj)},(∀ b ∈ fp,H' b = none) -> (∀ p ∈ pl,p.1 = s.heap.objs.size) -> ∀ b ∈ fp,zDB (zS X zB scope cl s H fp) pl H' b:=fun {H' pl} hn hp b hb=>
  ⟨hn b hb,(I4.ok.exf b hb).1,I4.ok.exfs b hb,.inl hb,(I4.ok.exf b hb).2,fun p hq=>by
   rcases zWc.mp hq with z | z
   ·exact (hf b hb).2.2.2.2.2 p z
   ·intro e;have e2:=hp p z;rw [e] at e2;exact hDfp (e2 ▸ hb)⟩
 have loop:codeAny (model X.prog X.w) X.A (.compLoop (zBw elt t1 i1 f1 t2 i2 f2 scope pos) 0 (.ref it) (.ref s.heap.objs.size) (zS X zB scope cl s H fp).env) (RR (.ref s.heap.objs.size) (s.heap.objs.size + 1))
   { s with heap:=pushCells ((s.heap.push (zp [] 0)).push { cls:=.type "dict", data:=.dict #[] }) scope.names }:=by
  refine zIk hs2 (fun n s'=>∃ i H' ys its k,Inv (zS X zB scope cl s H fp) [(s.heap.objs.size,zp its k)] (clr own σ) H' s' /\ zm ys its /\ tn i s'.heap /\ (∀ b ∈ fp,H' b = none) /\ W i n ys H') ?_ m0
   ⟨0,H,[],[],0,I4,.nil,st4,fun b hb=>(hf b hb).1,w0⟩
  rintro n s5 ⟨i,H5,ys,its,k,I5,r5,st5,f5,w5⟩;have pinD:∀ p ∈ [(s.heap.objs.size,zp its k)],p.1 = s.heap.objs.size:=fun p hp=>by
   have:p = (s.heap.objs.size,zp its k):=by simpa using hp
   rw [this]
  rcases turn i n ys H5 w5 with ⟨stop,hz,qq⟩ | ⟨go,step⟩
  ·refine thn (T.done (zS X zB scope cl s H fp) rfl rfl rfl hcalm i _ s5 _ H5 _ I5 (fpk f5 pinD) st5 stop) fun r s6 ⟨hr,I6⟩=>?_;subst hr;exact fin _ H5 s6 its k ys I6 r5 hz qq
  ·refine thn (T.item (zS X zB scope cl s H fp) rfl rfl rfl hcalm i _ s5 _ H5 _ I5 (fpk f5 pinD) st5 go) fun r s6 ⟨u,hr,h6⟩=>?_;subst hr;refine thn h6 fun _ s7 ⟨x,H7,I7,r7,y7,st7,f7⟩=>?_;have I7':=I7.pinned (fpk f7 pinD) (T.obj _ _ st7);refine thn (hg _ s7 _ H7 x u _ I7' r7 (step x H7 y7)) fun _ s8 ⟨σ8,H8,I8,x8,q8⟩=>?_;refine thn (hi _ s8 σ8 H8 _ I8 q8) fun ok s9 ⟨H9,I9,q9⟩=>?_;have back:∀ {σx:St} {s':Shared} {Hx:Hp} {its:List Value} {k:Nat},(clr own σ).length = σx.length -> (∀ (i:Nat) v,(clr own σ)[i]? = some (some v) -> σx[i]? = some (some v)) -> Inv (zS X zB scope cl s H fp) (zDm fp s7.heap ++ [(s.heap.objs.size,zp its k)]) σx Hx s' -> Inv (zS X zB scope cl s H fp) [(s.heap.objs.size,zp its k)] (clr own σ) Hx s' /\ tn (i + 1) s'.heap /\ ∀ b ∈ fp,Hx b = none:=fun {σx s' Hx its k} hl hk Ix=>
    ⟨(Ix.weak hl hk).pins_of fun p hp=>Ix.pin p (zWW _ (zWW _ hp)),
     T.keep _ _ _ st7 fun b hb o e=>(Ix.pin (b,o) (zWW _ (zXR _ (zAb hb e)))).1,fun b hb=>by
     obtain ⟨o,e,d⟩:=T.obj _ _ st7 b hb;exact (Ix.pin (b,o) (zWW _ (zXR _ (zAb hb e)))).2.1⟩
   have I9':Inv (zS X zB scope cl s H fp) (zDm fp s7.heap ++ [(s.heap.objs.size,zp its k)]) σ8 H9 s9:=I9.pins_of fun p hp=>I9.pin p (zWW _ (by
    rcases zWc.mp hp with z | z
    ·exact zWW _ z
    ·exact zXR _ z))
   cases ok with
   | false=>
    obtain ⟨m',hm,w'⟩:=q9;obtain ⟨b0,b1,b2⟩:=back (by rw [x8.1]) x8.2 I9';exact ⟨m',hm,i + 1,H9,ys,its,k,b0,r5,b1,b2,w'⟩
   | true=>
    refine zRG (C:=zS X zB scope cl s H fp) rfl hcalm hi2 hg2 hc2 he (zWI _) hcD (fun p hp=>?_) I9' r5 q9 fun s' H' its' k' zs I' rv' q'=>?_
    ·rcases zWc.mp hp with z | z
     ·exact zWX (zWN (I.pin p z).1)
     ·obtain ⟨hb,_⟩:=zJT z;exact zWX (ob _ hb)
    ·obtain ⟨m',hm,w'⟩:=q';obtain ⟨b0,b1,b2⟩:=back (by rw [zBu own2,x8.1]) (fun i v hv=>by rw [zLP own2 _ i (fun z=>(zDW own σ i v hv).2 (hsub i z))]; exact x8.2 i v hv) I';exact ⟨rfl,m',hm,i + 1,H',zs,its',k',b0,rv',b1,b2,w'⟩
 exact codeAny_compStart_list loop (T.self _ 0 _ _ _ st4 loop)
def zQr (own own2:List Nat) (wi:TI) (g:TG) (tc:TT) (wi2:TI) (g2:TG) (tc2:TT) (te:TE):TE:=fun σ H Q=>wi σ H fun J H1=>∃ W:Nat -> Nat -> List V -> Hp -> Prop,(∃ m,W 0 m [] H1) /\ ∀ i m ys H,W i m ys H ->
 (J.stop i H /\ ys.length <= sizeLine /\ ∀ D,H D = none -> Q (.ref D) (upd H D (.lst ys))) \/
 (J.go i H /\ ∀ x H',J.yld i H x H' -> g x (clr own σ) H' fun σ2 H2=>Ext (clr own σ) σ2 /\ tc σ2 H2 fun b H3=>
  if b = true then tIn own2 wi2 g2 tc2 te σ2 H3 ys fun zs H4=>∃ m',m' < m /\ W (i + 1) m' zs H4 else ∃ m',m' < m /\ W (i + 1) m' ys H3)
structure CompParts2 (X:Cx) (scope:Scope) (t1:Expr) (f1:List Expr) (t2 i2:Expr) (f2:List Expr) (elt:Expr) (g:TG) (tc:TT) (wi2:TI) (g2:TG) (tc2:TT) (te:TE):Prop where
 g:∀ zB cl s H fp,PG (zS X zB scope cl s H fp) t1 g
 c:∀ zB cl s H fp,zHM (zS X zB scope cl s H fp) f1 tc
 w2:∀ zB cl s H fp,PI (zS X zB scope cl s H fp) t2 i2 wi2
 g2:∀ zB cl s H fp,PG (zS X zB scope cl s H fp) t2 g2
 c2:∀ zB cl s H fp,zHM (zS X zB scope cl s H fp) f2 tc2
 e:∀ zB cl s H fp,PE (zS X zB scope cl s H fp) elt te
 s2:∀ zB cl s H fp x,foldedSetIterable i2 (zS X zB scope cl s H fp).env x = pure x
theorem zRQ (hsub:∀ i ∈ own2,i ∈ own) (C:CompIn X scope own) (hcalm:X.calm = true) (hi:PI X t1 i1 wi) (p:CompParts2 X scope t1 f1 t2 i2 f2 elt g tc wi2 g2 tc2 te) (hs:∀ x,foldedSetIterable i1 X.env x = pure x:=by intro _; rfl) :
  PE X (zBw elt t1 i1 f1 t2 i2 f2 scope pos) (zQr own own2 wi g tc wi2 g2 tc2 te):=by
 intro zB s σ H Q I h;obtain ⟨cl,hcl,c1,c2⟩:=C.sc.closure I;rw [eval_ListComp];refine zX6 (use:=none) rfl hs hcl C.sc.kind C.sc.names (thn (hi zB s σ H _ I h) fun v s1 h1=>thn h1 fun itv s2 h2=>?_);obtain ⟨it,fp,tn,J,H2,e,I2,T,st2,f2,W,⟨m0,w0⟩,turn⟩:=h2;subst e;refine zL8 hsub C hcalm I2 T st2 f2 c1 c2 (p.g _ _ _ _ _) (p.c _ _ _ _ _) (p.w2 _ _ _ _ _) (p.g2 _ _ _ _ _) (p.c2 _ _ _ _ _) (p.e _ _ _ _ _) (p.s2 _ _ _ _ _) (RR:=fun acc C r s'=>compPost (model X.prog X.w) X.A X.xe none (EP X zB σ Q) acc C r s') (QQ:=fun ys H=>∀ D,H D = none -> Q (.ref D) (upd H D (.lst ys))) w0 turn ?_;intro σc H' s' its n ys Ic rv hz qq;obtain ⟨m,hn,_⟩:=Ic.loc;refine ⟨m,hn,fun h' hs'=>?_⟩;obtain ⟨J',nD⟩:=zIN I2 f2 Ic rv hz hs';exact ⟨.ref s2.heap.objs.size,_,J',rfl,qq _ nD⟩
end
end L2
namespace L3
open PySem PySem.Spec PyProof.Rows L2
abbrev Sv:=List (Option V)
set_option genInjectivity true in
inductive D where
 | non | bl (b:Bool) | int (i:Int) | str (x:Str) | tup (xs:List D) | ref (n:Nat)
set_option genInjectivity true in
inductive MO where
 | lst (xs:List D) | fro (xs:List D) | dict (kvs:List (D × D)) | dicT (kvs:List (D × D)) | set (xs:List D)
mutual
def Rep (L:List Addr) (H:Hp):D -> V -> Prop
 | .non,v=>v = .non
 | .bl b,v=>v = .bl b
 | .int i,v=>v = .int i
 | .str x,v=>v = .str x
 | .tup ds,v=>∃ a vs,v = .ref a /\ H a = some (.tup vs) /\ zW L H ds vs
 | .ref n,v=>∃ a,v = .ref a /\ L[n]? = some a
def zW (L:List Addr) (H:Hp):List D -> List V -> Prop
 | [],vs=>vs = []
 | d :: ds,vs=>∃ v r,vs = v :: r /\ Rep L H d v /\ zW L H ds r
end
theorem zW.length:∀ {ds:List D} {vs:List V},zW L H ds vs -> vs.length = ds.length
 | [],_,h=>by unfold zW at h; subst h; rfl
 | d :: ds,_,h=>by
  unfold zW at h;obtain ⟨v,r,rfl,_,h2⟩:=h;simp [zW.length h2]
theorem zW.nil:zW L H [] []:=by unfold zW; rfl
theorem zW.cons (h:Rep L H d v) (t:zW L H ds vs):zW L H (d :: ds) (v :: vs):=by
 unfold zW; exact ⟨v,vs,rfl,h,t⟩
theorem zW.get:∀ {ds:List D} {vs:List V} {i:Nat} {d:D},zW L H ds vs -> ds[i]? = some d -> ∃ v,vs[i]? = some v /\ Rep L H d v
 | [],_,_,_,_,e=>by simp at e
 | d :: ds,_,0,d',h,e=>by
  unfold zW at h;obtain ⟨v,r,rfl,h1,h2⟩:=h;simp at e; subst e;exact ⟨v,rfl,h1⟩
 | d :: ds,_,i + 1,d',h,e=>by
  unfold zW at h;obtain ⟨v,r,rfl,h1,h2⟩:=h;obtain ⟨u,e1,e2⟩:=zW.get (i:=i) h2 (by simpa using e);exact ⟨u,by simpa using e1,e2⟩
theorem zW.app:∀ {ds es:List D} {vs ws:List V},zW L H ds vs -> zW L H es ws -> zW L H (ds ++ es) (vs ++ ws)
 | [],_,_,_,h,t=>by unfold zW at h; subst h; exact t
 | d :: ds,_,_,_,h,t=>by
  unfold zW at h;obtain ⟨v,r,rfl,h1,h2⟩:=h;exact .cons h1 (zW.app h2 t)
theorem zW.set (h:Rep L H d v):∀ {ds:List D} {vs:List V} (i:Nat),zW L H ds vs -> zW L H (ds.set i d) (vs.set i v)
 | [],_,_,t=>by unfold zW at t; subst t; exact .nil
 | _ :: _,_,0,t=>by
  unfold zW at t;obtain ⟨v',r,rfl,h1,h2⟩:=t;exact .cons h h2
 | _ :: _,_,i + 1,t=>by
  unfold zW at t;obtain ⟨v',r,rfl,h1,h2⟩:=t;exact .cons h1 (zW.set h i h2)
theorem zW.drop:∀ {ds:List D} {vs:List V} (n:Nat),zW L H ds vs -> zW L H (ds.drop n) (vs.drop n)
 | _,_,0,t=>t
 | [],_,n + 1,t=>by unfold zW at t; subst t; exact .nil
 | _ :: _,_,n + 1,t=>by
  unfold zW at t;obtain ⟨v',r,rfl,h1,h2⟩:=t;exact zW.drop n h2
theorem zW.take:∀ {ds:List D} {vs:List V} (n:Nat),zW L H ds vs -> zW L H (ds.take n) (vs.take n)
 | _,_,0,t=> .nil
 | [],_,n + 1,t=>by unfold zW at t; subst t; exact .nil
 | _ :: _,_,n + 1,t=>by
  unfold zW at t;obtain ⟨v',r,rfl,h1,h2⟩:=t;exact .cons h1 (zW.take n h2)
theorem zW.eraseIdx:∀ {ds:List D} {vs:List V} (n:Nat),zW L H ds vs -> zW L H (ds.eraseIdx n) (vs.eraseIdx n)
 | [],_,n,t=>by unfold zW at t; subst t; exact .nil
 | _ :: _,_,0,t=>by
  unfold zW at t;obtain ⟨v',r,rfl,h1,h2⟩:=t;exact h2
 | _ :: _,_,n + 1,t=>by
  unfold zW at t;obtain ⟨v',r,rfl,h1,h2⟩:=t;exact .cons h1 (zW.eraseIdx n h2)
structure Stp (L:List Addr) (H:Hp) (L':List Addr) (H':Hp):Prop where
 pre:∃ N,L' = L ++ N
 new:∀ a ∈ L',a ∈ L \/ H a = none
 old:∀ a o,H a = some o -> a ∉ L -> H' a = some o
 tup:∀ a xs,H a = some (.tup xs) -> H' a = some (.tup xs)
 frz:∀ a o u,H a = some (.frz o u) -> H' a = some (.frz o u)
theorem Stp.refl (L:List Addr) (H:Hp):Stp L H L H:=⟨⟨[],by simp⟩,fun _ h=> .inl h,fun _ _ h _=>h,fun _ _ h=>h,fun _ _ _ h=>h⟩
theorem Stp.trans (a:Stp L H L1 H1) (b:Stp L1 H1 L2 H2):Stp L H L2 H2:=by
 obtain ⟨N,rfl⟩:=a.pre;obtain ⟨N',rfl⟩:=b.pre;have back:∀ c,c ∉ L -> H1 c = none -> H c = none:=fun c hc h1=>by
  cases q:H c with
  | none=>rfl
  | some o=>rw [a.old c o q hc] at h1; cases h1
 refine ⟨⟨N ++ N',by simp⟩,fun c hc=>?_,fun c o e hc=>?_,fun c xs e=>b.tup c xs (a.tup c xs e),fun c o u e=>b.frz c o u (a.frz c o u e)⟩
 ·by_cases hL:c ∈ L
  ·exact .inl hL
  ·rcases b.new c hc with z | z
   ·exact a.new c z
   ·exact .inr (back c hL z)
 ·refine b.old c o (a.old c o e hc) fun z=>?_;rcases a.new c z with q | q
  ·exact hc q
  ·rw [q] at e; cases e
theorem Stp.grow (h:∀ a o,H a = some o -> H' a = some o):Stp L H L H':=⟨⟨[],by simp⟩,fun _ h=> .inl h,fun a o e _=>h a o e,fun a _ e=>h a _ e,fun a _ _ e=>h a _ e⟩
theorem Stp.upd (h:H p = none):Stp L H L (upd H p o):=.grow fun a u e=>by rw [zh (zAS e h)]; exact e
theorem zCR {L N:List Addr} {n:Nat} {a:Addr} (h:L[n]? = some a):(L ++ N)[n]? = some a:=by
 rw [zWJ (zWF.mp h).1]; exact h
mutual
theorem Rep.stp {L L':List Addr} {H H':Hp} (s:Stp L H L' H'):∀ {d:D} {v:V},Rep L H d v -> Rep L' H' d v
 | .non,_,h=>by unfold Rep at h ⊢; exact h
 | .bl _,_,h=>by unfold Rep at h ⊢; exact h
 | .int _,_,h=>by unfold Rep at h ⊢; exact h
 | .str _,_,h=>by unfold Rep at h ⊢; exact h
 | .tup ds,_,h=>by
  unfold Rep at h ⊢;obtain ⟨a,vs,rfl,e,r⟩:=h;exact ⟨a,vs,rfl,s.tup a vs e,zW.stp s r⟩
 | .ref n,_,h=>by
  unfold Rep at h ⊢;obtain ⟨a,rfl,e⟩:=h;obtain ⟨N,rfl⟩:=s.pre;exact ⟨a,rfl,zCR e⟩
theorem zW.stp (s:Stp L H L' H'):∀ {ds:List D} {vs:List V},zW L H ds vs -> zW L' H' ds vs
 | [],_,h=>by unfold zW at h ⊢; exact h
 | d :: ds,_,h=>by
  unfold zW at h ⊢;obtain ⟨v,r,rfl,h1,h2⟩:=h;exact ⟨v,r,rfl,Rep.stp s h1,zW.stp s h2⟩
end
def zGt:D -> Option Key
 | .int i=>some (.inl i)
 | .str x=>some (.inr x)
 | _=>none
def zFa:List D -> Option (List Key)
 | []=>some []
 | d :: r=>match zGt d,zFa r with
  | some k,some ks=>some (k :: ks)
  | _,_=>none
def tkD:D -> Option (List Key)
 | .tup ds=>zFa ds
 | _=>none
def zBg {κ:Type} (kf:D -> Option κ) (L:List Addr) (H:Hp):List (D × D) -> List (κ × V) -> Prop
 | [],vs=>vs = []
 | p :: r,vs=>∃ k v r',vs = (k,v) :: r' /\ kf p.1 = some k /\ Rep L H p.2 v /\ zBg kf L H r r'
theorem zBg.stp {κ:Type} {kf:D -> Option κ} {L L':List Addr} {H H':Hp} (s:Stp L H L' H'):∀ {ps:List (D × D)} {vs:List (κ × V)},zBg kf L H ps vs -> zBg kf L' H' ps vs
 | [],_,h=>h
 | p :: r,_,h=>by
  obtain ⟨k,v,r',rfl,e,h1,h2⟩:=h;exact ⟨k,v,r',rfl,e,h1.stp s,zBg.stp s h2⟩
theorem zBg.length {κ:Type} {kf:D -> Option κ} {L:List Addr} {H:Hp}:∀ {ps:List (D × D)} {vs:List (κ × V)},zBg kf L H ps vs -> vs.length = ps.length
 | [],_,h=>by unfold zBg at h; subst h; rfl
 | p :: r,_,h=>by
  obtain ⟨k,v,r',rfl,e,h1,h2⟩:=h;simp [zBg.length h2]
def zIB (K:PySem.W.Frag) (L:List Addr) (H:Hp) (a:Addr):MO -> Prop
 | .lst xs=>∃ vs,H a = some (.lst vs) /\ zW L H xs vs
 | .fro xs=>∃ o vs,H a = some (.frz o (.lst vs)) /\ zW L H xs vs
 | .dict ps=>∃ vs,H a = some (.dK vs) /\ zBg zGt L H ps vs
 | .dicT ps=>∃ vs,H a = some (.dT vs) /\ zBg tkD L H ps vs
 | .set _=>∃ o u,H a = some (.frz o u)
theorem zIB.there {K:PySem.W.Frag} {L:List Addr} {H:Hp} {a:Addr} {m:MO} (h:zIB K L H a m):∃ o,H a = some o:=by
 cases m with
 | lst xs=>obtain ⟨vs,e,_⟩:=h; exact ⟨_,e⟩
 | fro xs=>obtain ⟨o,vs,e,_⟩:=h; exact ⟨_,e⟩
 | dict ps=>obtain ⟨vs,e,_⟩:=h; exact ⟨_,e⟩
 | dicT ps=>obtain ⟨vs,e,_⟩:=h; exact ⟨_,e⟩
 | set _=>obtain ⟨o,u,e⟩:=h; exact ⟨_,e⟩
theorem zIB.stp {K:PySem.W.Frag} {L L':List Addr} {H H':Hp} {a:Addr} {m:MO} (s:Stp L H L' H') (hk:∀ o,H a = some o -> H' a = some o) (h:zIB K L H a m):zIB K L' H' a m:=by
 cases m with
 | lst xs=>obtain ⟨vs,e,r⟩:=h; exact ⟨vs,hk _ e,r.stp s⟩
 | fro xs=>obtain ⟨o,vs,e,r⟩:=h; exact ⟨o,vs,hk _ e,r.stp s⟩
 | dict ps=>obtain ⟨vs,e,r⟩:=h; exact ⟨vs,hk _ e,r.stp s⟩
 | dicT ps=>obtain ⟨vs,e,r⟩:=h; exact ⟨vs,hk _ e,r.stp s⟩
 | set _=>obtain ⟨o,u,e⟩:=h; exact ⟨o,u,hk _ e⟩
structure Cor (K:PySem.W.Frag) (L:List Addr) (M:List MO) (H:Hp):Prop where
 len:L.length = M.length
 nd:L.Nodup
 obj:∀ (n:Nat) a m,L[n]? = some a -> M[n]? = some m -> zIB K L H a m
def zB2 (L:List Addr) (H:Hp) (σ:List (Option D)) (τ:Sv):Prop:=τ.length = σ.length /\ ∀ (i:Nat) d,σ[i]? = some (some d) -> ∃ v,τ[i]? = some (some v) /\ Rep L H d v
theorem zB2.stp (s:Stp L H L' H') (h:zB2 L H σ τ):zB2 L' H' σ τ :=
 ⟨h.1,fun i d e=>let ⟨v,e1,r⟩:=h.2 i d e; ⟨v,e1,r.stp s⟩⟩
theorem Cor.tracked {K:PySem.W.Frag} {L:List Addr} {M:List MO} {H:Hp} (c:Cor K L M H) {a:Addr} (h:a ∈ L):∃ o,H a = some o:=by
 obtain ⟨n,hn⟩:=List.getElem?_of_mem h;have hl:n < M.length:=by rw [<- c.len]; exact (zWF.mp hn).1
 have m:=c.obj n a M[n] hn (zWG hl);exact m.there
theorem Cor.grow {K:PySem.W.Frag} {L:List Addr} {M:List MO} {H H':Hp} (c:Cor K L M H) (h:∀ a o,H a = some o -> H' a = some o):Cor K L M H':=by
 exact ⟨c.len,c.nd,fun n a m e1 e2=>(c.obj n a m e1 e2).stp (.grow h) fun o e=>h a o e⟩
theorem Cor.upd {K:PySem.W.Frag} {L:List Addr} {M:List MO} {H:Hp} {p:Addr} {o:HO} (c:Cor K L M H) (h:H p = none):Cor K L M (upd H p o):=c.grow fun a u e=>by rw [zh (zAS e h)]; exact e
theorem Cor.write {K:PySem.W.Frag} {L:List Addr} {M:List MO} {H:Hp} {n:Nat} {p:Addr} {xs xs':List D} {vs':List V} (c:Cor K L M H) (h1:L[n]? = some p) (h2:M[n]? = some (.lst xs)) (r:zW L H xs' vs') :
  Cor K L (M.set n (.lst xs')) (L2.upd H p (.lst vs')) /\ Stp L H L (L2.upd H p (.lst vs')):=by
 obtain ⟨vs,hp,_⟩:=c.obj n p _ h1 h2;have st:Stp L H L (L2.upd H p (.lst vs')):=by
  refine ⟨⟨[],by simp⟩,fun a ha=> .inl ha,fun a o e ha=>?_,fun a o e=>?_,fun a o u e=>?_⟩
  ·rw [zh (show a ≠ p from fun z=>ha (by rw [z]; exact List.mem_of_getElem? h1))]; exact e
  ·rw [zh (zIW e hp (by intro z; cases z))]; exact e
  ·rw [zh (zIW e hp (by intro z; cases z))]; exact e
 refine ⟨⟨by simp [c.len],c.nd,fun k a m e1 e2=>?_⟩,st⟩;rw [zXl] at e2;split at e2
 ·rename_i hk;subst hk;rw [h1] at e1; cases e1;split at e2
  ·cases e2; exact ⟨vs',zAe,r.stp st⟩
  ·cases e2
 ·rename_i hk;have hne:a ≠ p:=fun z=>hk (by
   subst z;exact (List.getElem?_inj (zWF.mp h1).1 c.nd).mp (h1.trans e1.symm))
  exact (c.obj k a m e1 e2).stp st fun o e=>by rw [zh hne]; exact e
set_option genInjectivity true in
inductive EV where
 | dat (d:D) | fl (xs:List D)
def zl (H0:Hp) (L:List Addr) (H:Hp):EV -> V -> Prop
 | .dat d,v=>Rep L H d v
 | .fl xs,v=>∃ p vs,v = .ref p /\ H0 p = none /\ H p = some (.lst vs) /\ p ∉ L /\ zW L H xs vs
abbrev Sd:=List (Option D)
abbrev Mem:=List MO
abbrev FE:=Sd -> Mem -> Option (EV × Mem)
abbrev FD:=Sd -> Mem -> Option (D × Mem)
abbrev FT:=Sd -> Mem -> Option (Bool × Mem)
abbrev FA:=Sd -> Mem -> Option (List D × Mem)
theorem Stp.out (s:Stp L H L' H') (h:H p = some o) (hp:p ∉ L):p ∉ L':=fun z=>by
 rcases s.new p z with q | q
 ·exact hp q
 ·rw [h] at q; cases q
theorem zl.stp (s:Stp L H L' H') (h:zl H0 L H e v):zl H0 L' H' e v:=by
 cases e with
 | dat d=>exact Rep.stp s h
 | fl xs=>
  obtain ⟨p,vs,rfl,e0,e1,e2,r⟩:=h;exact ⟨p,vs,rfl,e0,s.old p _ e1 e2,s.out e1 e2,r.stp s⟩
theorem zl.back {H0 H1:Hp} {L0 L1 L:List Addr} {H:Hp} (s:Stp L0 H0 L1 H1) {M:List MO} {K:PySem.W.Frag} (c:Cor K L0 M H0) {e:EV} {v:V} (h:zl H1 L H e v) (hL:∀ a ∈ L1,a ∈ L):zl H0 L H e v:=by
 cases e with
 | dat d=>exact h
 | fl xs=>
  obtain ⟨p,vs,rfl,e0,e1,e2,r⟩:=h;refine ⟨p,vs,rfl,?_,e1,e2,r⟩;cases q:H0 p with
  | none=>rfl
  | some o=>
   by_cases hp:p ∈ L0
   ·obtain ⟨N,hN⟩:=s.pre;exact absurd (hL p (by rw [hN]; exact zXR _ hp)) e2
   ·rw [s.old p o q hp] at e0; cases e0
section
variable (K:PySem.W.Frag)
def trE (f:FE):TE:=fun τ H Q=>∃ L σ M d M',Cor K L M H /\ zB2 L H σ τ /\ f σ M = some (d,M') /\ ∀ L' H' v,Stp L H L' H' -> Cor K L' M' H' -> zl H L' H' d v -> Q v H'
def trD (f:FD):TE:=fun τ H Q=>∃ L σ M d M',Cor K L M H /\ zB2 L H σ τ /\ f σ M = some (d,M') /\ ∀ L' H' v,Stp L H L' H' -> Cor K L' M' H' -> Rep L' H' d v -> Q v H'
def trT (f:FT):TT:=fun τ H Q=>∃ L σ M d M',Cor K L M H /\ zB2 L H σ τ /\ f σ M = some (d,M') /\ ∀ L' H',Stp L H L' H' -> Cor K L' M' H' -> Q d H'
def trA (f:FA):TA:=fun τ H Q=>∃ L σ M ds M',Cor K L M H /\ zB2 L H σ τ /\ f σ M = some (ds,M') /\ ∀ L' H' vs,Stp L H L' H' -> Cor K L' M' H' -> zW L' H' ds vs -> Q vs H'
end
section
variable {X:Cx} {e:Expr}
theorem PE.imp (h:PE X e t) (hi:∀ τ H Q,t' τ H Q -> t τ H Q):PE X e t':=fun zB s σ H Q I q=>h zB s σ H Q I (hi _ _ _ q)
theorem PT.imp (h:PT X e t) (hi:∀ τ H Q,t' τ H Q -> t τ H Q):PT X e t':=fun zB s σ H Q I q=>h zB s σ H Q I (hi _ _ _ q)
theorem PS.imp {st:Stmt} {t t':TS} (h:PS X st t) (hi:∀ D τ H,t' D τ H -> t D τ H):PS X st t':=fun zB s σ H D I q=>h zB s σ H D I (hi _ _ _ q)
theorem PSs.imp {st:List Stmt} {t t':TS} (h:PSs X st t) (hi:∀ D τ H,t' D τ H -> t D τ H):PSs X st t':=fun zB s σ H D I q=>h zB s σ H D I (hi _ _ _ q)
structure QE (X:Cx) (e:Expr) (f:FE):Prop where
 un:PE X e (trE X.K f)
structure QD (X:Cx) (e:Expr) (f:FD):Prop where
 un:PE X e (trD X.K f)
structure QT (X:Cx) (e:Expr) (f:FT):Prop where
 un:PT X e (trT X.K f)
structure QA (X:Cx) (es:List Expr) (f:FA):Prop where
 un:PA X es (trA X.K f)
def toD (f:FE):FD:=fun σ M=>match f σ M with
 | some (.dat d,M')=>some (d,M')
 | some (.fl xs,M')=>some (.ref M'.length,M' ++ [.lst xs])
 | none=>none
mutual
theorem Rep.more (N:List Addr):∀ {d:D} {v:V},Rep L H d v -> Rep (L ++ N) H d v
 | .non,_,h=>by unfold Rep at h ⊢; exact h
 | .bl _,_,h=>by unfold Rep at h ⊢; exact h
 | .int _,_,h=>by unfold Rep at h ⊢; exact h
 | .str _,_,h=>by unfold Rep at h ⊢; exact h
 | .tup ds,_,h=>by
  unfold Rep at h ⊢;obtain ⟨a,vs,rfl,e,r⟩:=h;exact ⟨a,vs,rfl,e,zW.more N r⟩
 | .ref n,_,h=>by
  unfold Rep at h ⊢;obtain ⟨a,rfl,e⟩:=h;exact ⟨a,rfl,zCR e⟩
theorem zW.more (N:List Addr):∀ {ds:List D} {vs:List V},zW L H ds vs -> zW (L ++ N) H ds vs
 | [],_,h=>by unfold zW at h ⊢; exact h
 | d :: ds,_,h=>by
  unfold zW at h ⊢;obtain ⟨v,r,rfl,h1,h2⟩:=h;exact ⟨v,r,rfl,Rep.more N h1,zW.more N h2⟩
end
theorem zBg.more {κ:Type} {kf:D -> Option κ} {L:List Addr} {H:Hp} (N:List Addr):∀ {ps:List (D × D)} {vs:List (κ × V)},zBg kf L H ps vs -> zBg kf (L ++ N) H ps vs
 | [],_,h=>h
 | p :: r,_,h=>by
  obtain ⟨k,v,r',rfl,e,h1,h2⟩:=h;exact ⟨k,v,r',rfl,e,h1.more N,zBg.more N h2⟩
theorem zIB.more {K:PySem.W.Frag} {L:List Addr} {H:Hp} {a:Addr} {m:MO} (N:List Addr) (h:zIB K L H a m):zIB K (L ++ N) H a m:=by
 cases m with
 | lst xs=>obtain ⟨vs,e,r⟩:=h; exact ⟨vs,e,r.more N⟩
 | fro xs=>obtain ⟨o,vs,e,r⟩:=h; exact ⟨o,vs,e,r.more N⟩
 | dict ps=>obtain ⟨vs,e,r⟩:=h; exact ⟨vs,e,r.more N⟩
 | dicT ps=>obtain ⟨vs,e,r⟩:=h; exact ⟨vs,e,r.more N⟩
 | set _=>exact h
theorem zTJ {K:PySem.W.Frag} {L L':List Addr} {M':List MO} {H H':Hp} {p:Addr} {xs:List D} {vs:List V} (s:Stp L H L' H') (c:Cor K L' M' H') (h0:H p = none) (h1:H' p = some (.lst vs)) (h2:p ∉ L') (r:zW L' H' xs vs) :
  Cor K (L' ++ [p]) (M' ++ [.lst xs]) H' /\ Stp L H (L' ++ [p]) H':=by
 refine ⟨⟨by simp [c.len],?_,fun n a m e1 e2=>?_⟩,?_⟩
 ·rw [zXQ];exact ⟨c.nd,by simp,fun a ha b hb z=>by
   have:b = p:=by simpa using hb
   subst this; subst z; exact h2 ha⟩
 ·by_cases hn:n < L'.length
  ·rw [zWJ hn] at e1;rw [zWJ (by rw [<- c.len]; exact hn)] at e2;exact (c.obj n a m e1 e2).more [p]
  ·have hn':n = L'.length:=by
    have:=(zWF.mp e1).1;rw [zWS] at this;simp at this; omega
   subst hn';simp at e1;rw [c.len] at e2;simp at e2;subst e1; subst e2;exact ⟨vs,h1,r.more [p]⟩
 ·obtain ⟨N,hN⟩:=s.pre;refine ⟨⟨N ++ [p],by rw [hN]; simp⟩,fun a ha=>?_,s.old,s.tup,s.frz⟩;rcases zWc.mp ha with z | z
  ·exact s.new a z
  ·have:a = p:=by simpa using z
   subst this; exact .inr h0
theorem Rep.last {L:List Addr} {M:List MO} {H:Hp} {K:PySem.W.Frag} {p:Addr} (c:Cor K L M H):Rep (L ++ [p]) H (.ref M.length) (.ref p):=by
 unfold Rep;exact ⟨p,rfl,by rw [<- c.len]; simp⟩
theorem zI {f:FE} (h:QE X e f):QD X e (toD f):=.mk <| PE.imp h.un fun τ H Q zz=>by
 obtain ⟨L,σ,M,d,M',c,rs,hf,q⟩:=zz;unfold toD at hf;split at hf
 ·rename_i d' M1 e1;cases hf;exact ⟨L,σ,M,_,_,c,rs,e1,fun L' H' v s c' r=>q L' H' v s c' r⟩
 ·rename_i xs M1 e1;cases hf;refine ⟨L,σ,M,_,_,c,rs,e1,fun L' H' v s c' r=>?_⟩;obtain ⟨p,vs,rfl,e0,e2,e3,r⟩:=r;obtain ⟨c2,s2⟩:=zTJ s c' e0 e2 e3 r;exact q _ H' _ s2 c2 (Rep.last c')
 ·cases hf
def zD (i:Nat):FE:=fun σ M=>match σ[i]? with
 | some (some d)=>some (.dat d,M)
 | _=>none
theorem zE (h:PE X (.Name x pos) (zTy i)):QE X (.Name x pos) (zD i):=.mk <| PE.imp h fun τ H Q zz=>by
 obtain ⟨L,σ,M,d,M',c,rs,hf,q⟩:=zz;unfold zD at hf;split at hf
 ·rename_i d' e1;cases hf;obtain ⟨v,e2,r⟩:=rs.2 i d' e1;exact ⟨v,e2,q L H v (.refl L H) c r⟩
 ·cases hf
def fC (d:D):FE:=fun _ M=>some (.dat d,M)
theorem zKX (hd:∀ L H,Rep L H d v) (h:PE X e (tC v)):QE X e (fC d):=.mk <| PE.imp h fun τ H Q zz=>by
 obtain ⟨L,σ,M,d',M',c,rs,hf,q⟩:=zz;unfold fC at hf;cases hf;exact q L H v (.refl L H) c (hd L H)
theorem zX {i j pos}:QE X (.Constant (.int i) j pos) (fC (.int i)):=zKX (fun _ _=>by unfold Rep; rfl) zUl
theorem zKT {b j pos}:QE X (.Constant (.bool b) j pos) (fC (.bl b)):=zKX (fun _ _=>by unfold Rep; rfl) zVA
theorem zNg {j pos}:QE X (.Constant .none j pos) (fC .non):=zKX (fun _ _=>by unfold Rep; rfl) zUa
def zQ:FA:=fun _ M=>some ([],M)
def zH (f:FD) (g:FA):FA:=fun σ M=>match f σ M with
 | some (d,M1)=>match g σ M1 with
  | some (ds,M2)=>some (d :: ds,M2)
  | none=>none
 | none=>none
theorem PA.imp (h:PA X es t) (hi:∀ τ H Q,t' τ H Q -> t τ H Q):PA X es t':=fun pos zB s σ H Q I q=>h pos zB s σ H Q I (hi _ _ _ q)
theorem zK:QA X [] zQ:=.mk <| PA.imp zIE fun τ H Q zz=>by
 obtain ⟨L,σ,M,d,M',c,rs,hf,q⟩:=zz;unfold zQ at hf;cases hf;exact q L H [] (.refl L H) c .nil
theorem zG (h1:QD X e f) (h2:QA X es g) (hs:starEach (e :: es) X.env = (false,eval e X.env) :: starEach es X.env:=by rfl):QA X (e :: es) (zH f g) :=
 .mk <| PA.imp (zFL h1.un h2.un hs) fun τ H Q zz=>by
  obtain ⟨L,σ,M,d,M',c,rs,hf,q⟩:=zz;unfold zH at hf;split at hf
  ·rename_i d1 M1 e1;split at hf
   ·rename_i ds M2 e2;cases hf;refine ⟨L,σ,M,_,_,c,rs,e1,fun L1 H1 v s1 c1 r1=>⟨L1,σ,M1,_,_,c1,rs.stp s1,e2,fun L2 H2 vs s2 c2 r2=>?_⟩⟩;exact q L2 H2 _ (s1.trans s2) c2 (.cons (r1.stp s2) r2)
   ·cases hf
  ·cases hf
def zBd (g:FA):FE:=fun σ M=>match g σ M with
 | some (ds,M1)=>if ds.length <= sizeLine then some (.dat (.tup ds),M1) else none
 | none=>none
def zBN (g:FA):FE:=fun σ M=>match g σ M with
 | some (ds,M1)=>if ds.length <= sizeLine then some (.fl ds,M1) else none
 | none=>none
theorem Rep.newTup (h:H p = none) (r:zW L H ds vs):Rep L (upd H p (.tup vs)) (.tup ds) (.ref p):=by
 unfold Rep;exact ⟨p,vs,rfl,zAe,r.stp (.upd h)⟩
theorem zCH {x1 pos} (h:QA X es g):QE X (.Tuple es x1 pos) (zBd g):=.mk <| PE.imp (zTX h.un) fun τ H Q zz=>by
 obtain ⟨L,σ,M,d,M',c,rs,hf,q⟩:=zz;unfold zBd at hf;split at hf
 ·rename_i ds M1 e1;split at hf
  ·rename_i hz;cases hf;refine ⟨L,σ,M,_,_,c,rs,e1,fun L1 H1 vs s1 c1 r1=>⟨by rw [r1.length]; exact hz,fun p hp=>?_⟩⟩;exact q L1 _ _ (s1.trans (.upd hp)) (c1.upd hp) (Rep.newTup hp r1)
  ·cases hf
 ·cases hf
theorem zPH {L L1:List Addr} {H H1:Hp} {K:PySem.W.Frag} {M M1:List MO} (s:Stp L H L1 H1) (c:Cor K L M H) (c1:Cor K L1 M1 H1) {p:Addr} (hp:H1 p = none):H p = none /\ p ∉ L1:=by
 have hp1:p ∉ L1:=fun z=>by obtain ⟨o,e⟩:=c1.tracked z; rw [hp] at e; cases e
 refine ⟨?_,hp1⟩;cases q:H p with
 | none=>rfl
 | some o=>
  have:p ∉ L:=fun z=>hp1 (by obtain ⟨N,hN⟩:=s.pre; rw [hN]; exact zXR _ z);rw [s.old p o q this] at hp; cases hp
theorem zl.newLst {L L1:List Addr} {H H1:Hp} {K:PySem.W.Frag} {M M1:List MO} {p:Addr} {ds:List D} {vs:List V} (s:Stp L H L1 H1) (c:Cor K L M H) (c1:Cor K L1 M1 H1) (hp:H1 p = none) (r:zW L1 H1 ds vs) :
  zl H L1 (upd H1 p (.lst vs)) (.fl ds) (.ref p):=by
 obtain ⟨a,b⟩:=zPH s c c1 hp;exact ⟨p,vs,rfl,a,zAe,b,r.stp (.upd hp)⟩
theorem zDC {pos} (h:QA X es g):QE X (.List es pos) (zBN g):=.mk <| PE.imp (zTs h.un) fun τ H Q zz=>by
 obtain ⟨L,σ,M,d,M',c,rs,hf,q⟩:=zz;unfold zBN at hf;split at hf
 ·rename_i ds M1 e1;split at hf
  ·rename_i hz;cases hf;refine ⟨L,σ,M,_,_,c,rs,e1,fun L1 H1 vs s1 c1 r1=>⟨by rw [r1.length]; exact hz,fun p hp=>?_⟩⟩;exact q L1 _ _ (s1.trans (.upd hp)) (c1.upd hp) (zl.newLst s1 c c1 hp r1)
  ·cases hf
 ·cases hf
end
abbrev FAE:=Sd -> Mem -> Option (List EV × Mem)
def zDP (H0:Hp) (L:List Addr) (H:Hp):List EV -> List V -> Prop
 | [],vs=>vs = []
 | e :: es,vs=>∃ v r,vs = v :: r /\ zl H0 L H e v /\ zDP H0 L H es r
theorem Stp.sub (s:Stp L H L' H'):∀ a ∈ L,a ∈ L':=fun a h=>by
 obtain ⟨N,hN⟩:=s.pre;rw [hN]; exact zXR _ h
theorem zDP.back {H0 H1:Hp} {L0 L1 L:List Addr} {H:Hp} (s:Stp L0 H0 L1 H1) {M:List MO} {K:PySem.W.Frag} (c:Cor K L0 M H0) (hL:∀ a ∈ L1,a ∈ L):∀ {es:List EV} {vs:List V},zDP H1 L H es vs -> zDP H0 L H es vs
 | [],_,h=>h
 | e :: es,_,h=>by
  obtain ⟨v,r,rfl,h1,h2⟩:=h;exact ⟨v,r,rfl,h1.back s c hL,zDP.back s c hL h2⟩
def zVS (K:PySem.W.Frag) (f:FAE):TA:=fun τ H Q=>∃ L σ M ds M',Cor K L M H /\ zB2 L H σ τ /\ f σ M = some (ds,M') /\ ∀ L' H' vs,Stp L H L' H' -> Cor K L' M' H' -> zDP H L' H' ds vs -> Q vs H'
structure QAE (X:Cx) (es:List Expr) (f:FAE):Prop where
 un:PA X es (zVS X.K f)
section
variable {X:Cx} {a b e:Expr} {es:List Expr} {pos:Pos}
def zv:FAE:=fun _ M=>some ([],M)
def zb (f:FE) (g:FAE):FAE:=fun σ M=>match f σ M with
 | some (d,M1)=>match g σ M1 with
  | some (ds,M2)=>some (d :: ds,M2)
  | none=>none
 | none=>none
theorem zq:QAE X [] zv:=.mk <| PA.imp zIE fun τ H Q zz=>by
 obtain ⟨L,σ,M,d,M',c,rs,hf,q⟩:=zz;unfold zv at hf;cases hf;exact q L H [] (.refl L H) c rfl
theorem zf (h1:QE X e f) (h2:QAE X es g) (hs:starEach (e :: es) X.env = (false,eval e X.env) :: starEach es X.env:=by rfl):QAE X (e :: es) (zb f g) :=
 .mk <| PA.imp (zFL h1.un h2.un hs) fun τ H Q zz=>by
  obtain ⟨L,σ,M,d,M',c,rs,hf,q⟩:=zz;unfold zb at hf;split at hf
  ·rename_i d1 M1 e1;split at hf
   ·rename_i ds M2 e2;cases hf;refine ⟨L,σ,M,_,_,c,rs,e1,fun L1 H1 v s1 c1 r1=>⟨L1,σ,M1,_,_,c1,rs.stp s1,e2,fun L2 H2 vs s2 c2 r2=>?_⟩⟩;exact q L2 H2 _ (s1.trans s2) c2 ⟨v,vs,rfl,r1.stp s2,r2.back s1 c s2.sub⟩
   ·cases hf
  ·cases hf
abbrev K2:=EV -> EV -> Mem -> Option (EV × Mem)
def zCc (K:PySem.W.Frag) (r:R2) (k:K2):Prop:=∀ {L:List Addr} {M M':Mem} {H H0:Hp} {x y d:EV} {v w:V} {Q:VK},Cor K L M H -> zl H0 L H x v -> zl H0 L H y w -> k x y M = some (d,M') ->
 (∀ L' H' u,Stp L H L' H' -> Cor K L' M' H' -> zl H L' H' d u -> Q u H') -> r v w H Q
def fOp (k:K2) (f g:FE):FE:=fun σ M=>match f σ M with
 | some (x,M1)=>match g σ M1 with
  | some (y,M2)=>k x y M2
  | none=>none
 | none=>none
theorem zEQ {K:PySem.W.Frag} {r:R2} {k:K2} {f g:FE} (hk:zCc K r k) {τ:Sv} {H:Hp} {Q:VK} (h:trE K (fOp k f g) τ H Q):tOp r (trE K f) (trE K g) τ H Q:=by
 obtain ⟨L,σ,M,d,M',c,rs,hf,q⟩:=h;unfold fOp at hf;split at hf
 ·rename_i x M1 e1;split at hf
  ·rename_i y M2 e2;refine ⟨L,σ,M,_,_,c,rs,e1,fun L1 H1 v s1 c1 r1=>⟨L1,σ,M1,_,_,c1,rs.stp s1,e2,fun L2 H2 w s2 c2 r2=>?_⟩⟩;refine hk (H0:=H) c2 (r1.stp s2) (r2.back s1 c s2.sub) hf fun L3 H3 u s3 c3 r3=>?_;exact q L3 H3 u ((s1.trans s2).trans s3) c3 (r3.back (s1.trans s2) c s3.sub)
  ·cases hf
 ·cases hf
theorem zMu (hk:zCc X.K r k) (ho:OpR X (binaryOp op) r) (h1:QE X a f) (h2:QE X b g):QE X (.BinOp a op b pos) (fOp k f g):=.mk <| PE.imp (zU3 ho h1.un h2.un) fun _ _ _ h=>zEQ hk h
theorem zQp (hk:zCc X.K r k) (ho:OpR X (compareOp op) r) (h1:QE X a f) (h2:QE X b g) (hm:behindInMarks op b = false):QE X (.Compare a [op] [b] pos) (fOp k f g) :=
 .mk <| PE.imp (zSd ho h1.un h2.un hm) fun _ _ _ h=>zEQ hk h
def tst (f:FE):FT:=fun σ M=>match f σ M with
 | some (.dat (.bl c),M')=>some (c,M')
 | _=>none
theorem zFI {K:PySem.W.Frag} {f:FE} {τ:Sv} {H:Hp} {Q:Bool -> Hp -> Prop} (h:trT K (tst f) τ H Q):zNQ (trE K f) τ H Q:=by
 obtain ⟨L,σ,M,d,M',c,rs,hf,q⟩:=h;unfold tst at hf;split at hf
 ·rename_i k M1 e1;cases hf;refine ⟨L,σ,M,_,_,c,rs,e1,fun L1 H1 v s1 c1 r1=>?_⟩;have:v = .bl d:=by unfold zl Rep at r1; exact r1
  exact ⟨d,this,q L1 H1 s1 c1⟩
 ·cases hf
theorem zFv (h:∀ τ H Q,t τ H Q -> t' τ H Q) (q:zNQ t τ H Q):zNQ t' τ H Q:=h _ _ _ q
theorem zEy {op:CmpOp} {r:R2} {k:K2} {f g:FE} (hk:zCc X.K r k) (ho:OpR X (compareOp op) r) (h1:QE X a f) (h2:QE X b g) (hm:behindInMarks op b = false):QT X (.Compare a [op] [b] pos) (tst (fOp k f g)) :=
 .mk <| PT.imp (zR0 ho h1.un h2.un hm) fun _ _ _ h=>zFv (fun _ _ _ z=>zEQ hk z) (zFI h)
theorem zDk (h:QE X e f) (he:∀ whole,isTrue e X.env whole = (do let v <- whole; standAt e.pos; holding [v] (truthy v)):=by intro _; rfl):QT X e (tst f) :=
 .mk <| PT.imp (zUf h.un he) fun _ _ _ h=>zFI h
def kI (C:Int -> Int -> Bool) (g:Int -> Int -> D):K2:=fun x y M=>match x,y with
 | .dat (.int i),.dat (.int j)=>if C i j then some (.dat (g i j),M) else none
 | _,_=>none
def kI0 (g:Int -> Int -> D):K2:=kI (fun _ _=>true) g
theorem zLy {K:PySem.W.Frag} {C:Int -> Int -> Bool} {C':Int -> Int -> Prop} {g:Int -> Int -> D} {g':Int -> Int -> V} (hC:∀ i j,C i j = true -> C' i j) (hg:∀ L H i j,Rep L H (g i j) (g' i j)):zCc K (rI C' g') (kI C g):=by
 intro L M M' H H0 x y d v w Q c rx ry hk q;unfold kI at hk;split at hk
 ·rename_i i j;split at hk
  ·rename_i hc;cases hk;refine ⟨i,j,by unfold zl Rep at rx; exact rx,by unfold zl Rep at ry; exact ry,hC i j hc,q L H _ (.refl L H) c (hg L H i j)⟩
  ·cases hk
 ·cases hk
theorem zFo {K:PySem.W.Frag} {g:Int -> Int -> D} {g':Int -> Int -> V} (hg:∀ L H i j,Rep L H (g i j) (g' i j)):zCc K (rI0 g') (kI0 g):=by
 intro L M M' H H0 x y d v w Q c rx ry hk q;obtain ⟨i,j,h1,h2,_,h4⟩:=zLy (C:=fun _ _=>true) (C':=fun _ _=>True) (fun _ _ _=>trivial) hg c rx ry hk q;exact ⟨i,j,h1,h2,h4⟩
theorem zAj:Rep L H (.int i) (.int i):=by unfold Rep; rfl
theorem zBQ:Rep L H (.bl i) (.bl i):=by unfold Rep; rfl
def zOX (i j:Int):Bool:=(decide (-(2 ^ 64) < i) && decide (i < 2 ^ 64)) || (decide (-(2 ^ 64) < j) && decide (j < 2 ^ 64))
abbrev zVr:K2:=kI0 fun i j=> .int (i + j)
abbrev zML:K2:=kI0 fun i j=> .int (i - j)
abbrev zN2:K2:=kI zOX fun i j=> .int (i * j)
abbrev zGs:K2:=kI (fun _ j=>decide (0 < j)) fun i j=> .int (i % j)
abbrev zOp:K2:=kI (fun _ j=>decide (0 < j) && decide (j < 1073741824)) fun i j=> .int (i / j)
abbrev zRD:K2:=kI (fun i j=>decide (0 <= j) && decide (j <= 1000000) && decide (i.natAbs < 2 ^ 64)) fun i j=> .int (i ^ j.toNat)
abbrev kLt:K2:=kI0 fun i j=> .bl (decide (i < j))
abbrev kLe:K2:=kI0 fun i j=> .bl (decide (i <= j))
abbrev kGt:K2:=kI0 fun i j=> .bl (decide (j < i))
abbrev kGe:K2:=kI0 fun i j=> .bl (decide (j <= i))
section
variable {f g:FE}
theorem zNa (h1:QE X a f) (h2:QE X b g):QE X (.BinOp a .Sub b pos) (fOp zML f g):=zMu (zFo fun _ _ _ _=>zAj) zUO h1 h2
theorem zQo (h1:QE X a f) (h2:QE X b g):QE X (.BinOp a .Mult b pos) (fOp zN2 f g):=zMu (zLy (fun i j h=>by
 unfold zOX at h;simp only [Bool.or_eq_true,zWm,zXP] at h;exact h) fun _ _ _ _=>zAj) zUj h1 h2
theorem zGH (h1:QE X a f) (h2:QE X b g):QE X (.BinOp a .Mod b pos) (fOp zGs f g):=zMu (zLy (fun i j h=>zW8 h) fun _ _ _ _=>zAj) zUh h1 h2
theorem zPe (h1:QE X a f) (h2:QE X b g):QE X (.BinOp a .FloorDiv b pos) (fOp zOp f g):=zMu (zLy (fun i j h=>by
 simp only [zWm,zXP] at h;exact h) fun _ _ _ _=>zAj) zRt h1 h2
theorem zTO (h1:QE X a f) (h2:QE X b g):QE X (.BinOp a .Pow b pos) (fOp zRD f g):=zMu (zLy (fun i j h=>by
 simp only [zWm,zXP] at h;exact ⟨h.1.1,h.1.2,h.2⟩) fun _ _ _ _=>zAj) zT6 h1 h2
theorem zTG (h1:QE X a f) (h2:QE X b g):QT X (.Compare a [.Lt] [b] pos) (tst (fOp kLt f g)):=zEy (zFo fun _ _ _ _=>zBQ) zTQ h1 h2 (zC4 _)
theorem zVV (h1:QE X a f) (h2:QE X b g):QT X (.Compare a [.Gt] [b] pos) (tst (fOp kGt f g)):=zEy (zFo fun _ _ _ _=>zBQ) zUt h1 h2 (zC4 _)
theorem zUy (h1:QE X a f) (h2:QE X b g):QT X (.Compare a [.GtE] [b] pos) (tst (fOp kGe f g)):=zEy (zFo fun _ _ _ _=>zBQ) zU6 h1 h2 (zC4 _)
end
end
def zBh (M:Mem):EV -> Option (List D)
 | .fl xs=>some xs
 | .dat (.ref n)=>match M[n]? with
  | some (.lst xs)=>some xs
  | some (.fro xs)=>some xs
  | _=>none
 | _=>none
def zCm:EV -> Option (List D)
 | .dat (.tup xs)=>some xs
 | _=>none
def zAc (M:Mem) (x:EV):Option (List D):=match zCm x with
 | some xs=>some xs
 | none=>zBh M x
theorem zA8 {K:PySem.W.Frag} {L:List Addr} {M:Mem} {H H0:Hp} {x:EV} {v:V} {xs:List D} (c:Cor K L M H) (r:zl H0 L H x v) (h:zBh M x = some xs):∃ a vs,v = .ref a /\ Rd H a (.lst vs) /\ zW L H xs vs:=by
 cases x with
 | fl ys=>
  cases h;obtain ⟨p,vs,rfl,_,e,_,r⟩:=r;exact ⟨p,vs,rfl,.inl e,r⟩
 | dat d=>
  cases d with
  | ref n=>
   unfold zl Rep at r;obtain ⟨a,rfl,e⟩:=r;unfold zBh at h;dsimp only at h;cases q:M[n]? with
   | none=>rw [q] at h; cases h
   | some m=>
    rw [q] at h;have z:=c.obj n a m e q;cases m with
    | lst ys=>cases h; obtain ⟨vs,e1,r1⟩:=z; exact ⟨a,vs,rfl,.inl e1,r1⟩
    | fro ys=>cases h; obtain ⟨o,vs,e1,r1⟩:=z; exact ⟨a,vs,rfl,.inr ⟨o,e1⟩,r1⟩
    | dict _=>cases h
    | dicT _=>cases h
    | set _=>cases h
  | _=>cases h
theorem zBO {L:List Addr} {H H0:Hp} {x:EV} {v:V} {xs:List D} (r:zl H0 L H x v) (h:zCm x = some xs):∃ a vs,v = .ref a /\ H a = some (.tup vs) /\ zW L H xs vs:=by
 cases x with
 | fl ys=>cases h
 | dat d=>
  cases d with
  | tup ys=>cases h; unfold zl Rep at r; exact r
  | _=>cases h
theorem zHP {K:PySem.W.Frag} {L:List Addr} {M:Mem} {H H0:Hp} {x:EV} {v:V} {xs:List D} (c:Cor K L M H) (r:zl H0 L H x v) (h:zAc M x = some xs):∃ a vs,v = .ref a /\ (SqL K H a vs \/ SqT K H a vs) /\ zW L H xs vs:=by
 unfold zAc at h;cases q:zCm x with
 | some ys=>
  rw [q] at h; cases h;obtain ⟨a,vs,e,h1,h2⟩:=zBO r q;exact ⟨a,vs,e,.inr (.of h1),h2⟩
 | none=>
  rw [q] at h;obtain ⟨a,vs,e,h1,h2⟩:=zA8 c r h;exact ⟨a,vs,e,.inl (.inl h1),h2⟩
theorem zTx {L:List Addr} {H:Hp} {xs:List D} {vs:List V} {i:Int} {d:D} (r:zW L H xs vs) (h:atI xs i = some d):∃ v,atI vs i = some v /\ Rep L H d v:=by
 unfold atI at h ⊢;rw [r.length];cases q:ixN xs.length i with
 | none=>rw [q] at h; cases h
 | some j=>rw [q] at h; exact r.get h
theorem zR6 {L:List Addr} {H:Hp} {i:Str}:Rep L H (.str i) (.str i):=by unfold Rep; rfl
def kIx:K2:=fun x y M=>match y with
 | .dat (.int i)=>match zAc M x with
  | some xs=>match atI xs i with
   | some d=>some (.dat d,M)
   | none=>none
  | none=>match x with
   | .dat (.str z)=>if z.length <= sizeLine then match atI z.cps.toList i with
     | some c=>some (.dat (.str ⟨#[c]⟩),M)
     | none=>none
    else none
   | _=>none
 | _=>none
theorem zT3 {K:PySem.W.Frag}:zCc K (rIx K) kIx:=by
 intro L M M' H H0 x y d v w Q c rx ry hk q;unfold kIx at hk;split at hk
 ·rename_i i;have ew:w = .int i:=by unfold zl Rep at ry; exact ry
  split at hk
  ·rename_i xs e1;split at hk
   ·rename_i d' e2;cases hk;obtain ⟨a,vs,rfl,hs,r⟩:=zHP c rx e1;obtain ⟨u,e3,r3⟩:=zTx r e2;rcases hs with hs | hs
    ·exact .inl ⟨a,vs,i,u,rfl,ew,hs,e3,q L H u (.refl L H) c r3⟩
    ·exact .inr (.inl ⟨a,vs,i,u,rfl,ew,hs,e3,q L H u (.refl L H) c r3⟩)
   ·cases hk
  ·split at hk
   ·rename_i z _;split at hk
    ·rename_i hz;split at hk
     ·rename_i ch e2;cases hk;have ev:v = .str z:=by unfold zl Rep at rx; exact rx
      exact .inr (.inr ⟨z,i,ch,ev,ew,hz,e2,q L H _ (.refl L H) c (zR6 (L:=L) (H:=H))⟩)
     ·cases hk
    ·cases hk
   ·cases hk
 ·cases hk
section
variable {prog:Program} {w:World} {A:Around} {E:Value -> Shared -> Prop} {s:Shared}
theorem zMN {t sl:Addr} {items:Array Value} {vl vu:Value} {lo hi:Option Int} {Q:Value -> Shared -> Prop} (T:IsTup s.heap t items) (S:s.heap.IsSliceOf sl vl vu .none) (pl:IsPart vl lo) (pu:IsPart vu hi)
  (h1:HT.sIx items.size 0 lo = 0) (h2:HT.sIx items.size items.size hi = items.size) (h:Q (.ref t) s):wpAny (model prog w) A (getItem (.ref t) (.ref sl)) Q E s:=by
 obtain ⟨o,O,C,G⟩:=id S;have TS:s.TypeIs (.ref sl) "slice" := ⟨o,O,C⟩;unfold getItem;try with_reducible refine zW5 ?_
 first | refine zWC (zWE ?_) | skip
 refine zWC (wpAny_sequenceKey T.typeIs (by decide) ?_);refine zWC (zWo (name:=Str.ofString "__getitem__") T.typeIs zXk (zWp zXk T.typeIs entry_tuple_getitem ?_ (args_tuple_getitem _ _)));refine zWC (m:=Builtin.Tuple.tupleItemsOf (.ref t)) (tupleItemsOf_ T (zWC (wpAny_typeOf TS ?_)));rw [zWR (by decide)];refine zWC (HT.zDy S pl pu ?_);rw [h1,h2];show wpAny _ _ (if ((((0:Nat):Int) == 0 && (1:Int) == 1 && (items.size - 0) == items.size)) = true then _ else _) _ _ s;rw [zWR (by simp)];unfold Builtin.Tuple.tupleIsExact;refine zWC (zWC (wpAny_typeOf T.typeIs (zWE ?_)));rw [zWR (by decide)];exact zWC (wpAny_rule (zWE ⟨_,rfl,zWE h⟩))
end
def zV5 (K:PySem.W.Frag):V -> Option Int -> Option Int -> Hp -> VK -> Prop:=fun x lo hi H Q=>∃ a xs,x = .ref a /\ SqT K H a xs /\ (HT.sIx xs.length 0 lo = 0 /\ HT.sIx xs.length xs.length hi = xs.length) /\ Q (.ref a) H
theorem zRz {X:Cx}:SlR X (zV5 X.K):=by
 intro zB s σ H x v vl vu lo hi sl Q I rx hs pl pu h;obtain ⟨a,xs,rfl,hx,hw,q⟩:=h;cases rx;obtain ⟨its,r,ht,hz⟩:=I.tuple hx;have hlen:its.toArray.size = xs.length:=by rw [zWK]; exact r.length.symm
 exact ⟨"tuple", _,zXk.lookup,ht.typeIs,zMN ht hs pl pu (by rw [hlen]; exact hw.1) (by rw [hlen]; exact hw.2) ⟨.ref a,H,I,rfl,q⟩⟩
section
variable {X:Cx} {a b e:Expr} {es:List Expr} {pos:Pos} {f g:FE}
theorem zAg (h1:QE X a f) (h2:QE X b g) (hs:zNh b:=by intro _ _; rfl):QE X (.Subscript a b pos) (fOp kIx f g):=.mk <| PE.imp (zVg zUc h1.un h2.un hs) fun _ _ _ h=>zEQ zT3 h
abbrev FO:=Sd -> Mem -> Option (Option Int × Mem)
def trO (K:PySem.W.Frag) (f:FO):TO:=fun τ H Q=>∃ L σ M d M',Cor K L M H /\ zB2 L H σ τ /\ f σ M = some (d,M') /\ ∀ L' H',Stp L H L' H' -> Cor K L' M' H' -> Q d H'
structure QO (X:Cx) (e:Option Expr) (f:FO):Prop where
 un:PO X e (trO X.K f)
def zFh:FO:=fun _ M=>some (none,M)
def zCX (f:FE):FO:=fun σ M=>match f σ M with
 | some (.dat (.int i),M')=>some (some i,M')
 | _=>none
theorem PO.imp {e:Option Expr} {t t':TO} (h:PO X e t) (hi:∀ τ H Q,t' τ H Q -> t τ H Q):PO X e t':=fun zB s σ H Q I q=>h zB s σ H Q I (hi _ _ _ q)
theorem zHQ:QO X none zFh:=.mk <| PO.imp zSm fun τ H Q zz=>by
 obtain ⟨L,σ,M,d,M',c,rs,hf,q⟩:=zz;unfold zFh at hf;cases hf;exact q L H (.refl L H) c
theorem zFV (h:QE X e f):QO X (some e) (zCX f):=.mk <| PO.imp (zSO h.un) fun τ H Q zz=>by
 obtain ⟨L,σ,M,d,M',c,rs,hf,q⟩:=zz;unfold zCX at hf;split at hf
 ·rename_i i M1 e1;cases hf;refine ⟨L,σ,M,_,_,c,rs,e1,fun L1 H1 v s1 c1 r1=>?_⟩;exact ⟨i,by unfold zl Rep at r1; exact r1,q L1 H1 s1 c1⟩
 ·cases hf
def zEw (xs:List D) (lo hi:Option Int):List D:=(xs.drop (HT.sIx xs.length 0 lo)).take (HT.sIx xs.length xs.length hi - HT.sIx xs.length 0 lo)
theorem zNS {L:List Addr} {H:Hp} {xs:List D} {vs:List V} {lo hi:Option Int} (r:zW L H xs vs):zW L H (zEw xs lo hi) (zMD vs lo hi):=by
 unfold zEw zMD;rw [r.length];exact (r.drop _).take _
def kSl (x:EV) (lo hi:Option Int) (M:Mem):Option (EV × Mem):=match zCm x with
 | some xs=>some (.dat (.tup (zEw xs lo hi)),M)
 | none=>match zBh M x with
  | some xs=>some (.fl (zEw xs lo hi),M)
  | none=>none
def fSl (f:FE) (fl fh:FO):FE:=fun σ M=>match f σ M with
 | some (x,M1)=>match fl σ M1 with
  | some (lo,M2)=>match fh σ M2 with
   | some (hi,M3)=>kSl x lo hi M3
   | none=>none
  | none=>none
 | none=>none
theorem zGM {lo hi:Option Expr} {p2:Pos} {fl fh:FO} (h:QE X e f) (hl:QO X lo fl) (hh:QO X hi fh):QE X (.Subscript e (.Slice lo hi none p2) pos) (fSl f fl fh) :=
 .mk <| PE.imp (zQ2 (SlR.or zRi (SlR.or zUJ zRz)) h.un hl.un hh.un) fun τ H Q zz=>by
  obtain ⟨L,σ,M,d,M',c,rs,hf,q⟩:=zz;unfold fSl at hf;split at hf
  ·rename_i x M1 e1;split at hf
   ·rename_i l M2 e2;split at hf
    ·rename_i u M3 e3;refine ⟨L,σ,M,_,_,c,rs,e1,fun L1 H1 v s1 c1 r1=>⟨L1,σ,M1,_,_,c1,rs.stp s1,e2,fun L2 H2 s2 c2=>⟨L2,σ,M2,_,_,c2,rs.stp (s1.trans s2),e3,fun L3 H3 s3 c3=>?_⟩⟩⟩;have s:=(s1.trans s2).trans s3;have r3:zl H L3 H3 x v:=(r1.stp s2).stp s3;unfold kSl at hf;cases t:zCm x with
     | some xs=>
      rw [t] at hf;dsimp only at hf;cases hf;obtain ⟨a,vs,rfl,e4,r4⟩:=zBO r3 t;by_cases hw:HT.sIx vs.length 0 l = 0 /\ HT.sIx vs.length vs.length u = vs.length
      ·refine .inr (.inr ⟨a,vs,rfl,.of e4,hw,?_⟩);have ec:zEw xs l u = xs:=by
        unfold zEw;rw [<- r4.length,hw.1,hw.2,r4.length];simp
       rw [ec] at q;refine q L3 H3 _ s c3 ?_;unfold zl Rep;exact ⟨a,vs,rfl,e4,r4⟩
      ·refine .inr (.inl ⟨a,vs,rfl,.of e4,hw,fun p hp=>?_⟩);exact q L3 _ _ (s.trans (.upd hp)) (c3.upd hp) (Rep.newTup hp (zNS r4))
     | none=>
      rw [t] at hf;dsimp only at hf;split at hf
      ·rename_i xs e4;cases hf;obtain ⟨a,vs,rfl,e5,r5⟩:=zA8 c3 r3 e4;refine .inl ⟨a,vs,rfl,.inl e5,fun p hp=>?_⟩;exact q L3 _ _ (s.trans (.upd hp)) (c3.upd hp) (zl.newLst s c c3 hp (zNS r5))
      ·cases hf
    ·cases hf
   ·cases hf
  ·cases hf
abbrev KB:=List EV -> Mem -> Option (EV × Mem)
def zGi (K:PySem.W.Frag) (r:List V -> Hp -> VK -> Prop) (k:KB):Prop:=∀ {L:List Addr} {M M':Mem} {H H0:Hp} {xs:List EV} {d:EV} {vs:List V} {Q:VK},Cor K L M H -> zDP H0 L H xs vs -> k xs M = some (d,M') ->
 (∀ L' H' u,Stp L H L' H' -> Cor K L' M' H' -> zl H L' H' d u -> Q u H') -> r vs H Q
def fB (k:KB) (f:FAE):FE:=fun σ M=>match f σ M with
 | some (xs,M1)=>k xs M1
 | none=>none
theorem zQ3 {K:PySem.W.Frag} {r:List V -> Hp -> VK -> Prop} {k:KB} {f:FAE} (hk:zGi K r k) {τ:Sv} {H:Hp} {Q:VK} (h:trE K (fB k f) τ H Q):tCB r (zVS K f) τ H Q:=by
 obtain ⟨L,σ,M,d,M',c,rs,hf,q⟩:=h;unfold fB at hf;split at hf
 ·rename_i xs M1 e1;refine ⟨L,σ,M,_,_,c,rs,e1,fun L1 H1 vs s1 c1 r1=>?_⟩;refine hk c1 r1 hf fun L2 H2 u s2 c2 r2=>?_;exact q L2 H2 u (s1.trans s2) c2 (r2.back s1 c s2.sub)
 ·cases hf
theorem zDP.one {H0:Hp} {L:List Addr} {H:Hp} {x:EV} {vs:List V} (h:zDP H0 L H [x] vs):∃ v,vs = [v] /\ zl H0 L H x v:=by
 obtain ⟨v,r,rfl,h1,h2⟩:=h;unfold zDP at h2;subst h2;exact ⟨v,rfl,h1⟩
def zB1:KB:=fun xs M=>match xs with
 | [x]=>match zAc M x with
  | some ys=>some (.dat (.int ys.length),M)
  | none=>none
 | _=>none
theorem zSI:zGi X.K (fun xs H Q=>∃ p ys,xs = [.ref p] /\ (SqL X.K H p ys \/ SqT X.K H p ys) /\ Q (.int ys.length) H) zB1:=by
 intro L M M' H H0 xs d vs Q c r hk q;unfold zB1 at hk;split at hk
 ·rename_i x;split at hk
  ·rename_i ys e1;cases hk;obtain ⟨v,rfl,r1⟩:=r.one;obtain ⟨a,ws,rfl,hs,r2⟩:=zHP c r1 e1;refine ⟨a,ws,rfl,hs,q L H _ (.refl L H) c ?_⟩;rw [r2.length]; exact (zAj (L:=L) (H:=H))
  ·cases hk
 ·cases hk
theorem zED {x:Str} {p:Pos} {id:String} {r:List V -> Hp -> VK -> Prop} {k:KB} {f:FAE} (hk:zGi X.K r k) (hc:zCb X (.builtin id) r) (hv:bootBuiltins x = some (.builtin id)) (hg:Gl X x) (hm:X.mg x = none) (ha:QAE X (e :: es) f) (hn:x ≠ "__name__" := by decide) (hdb:(x == ("__debug__" : Str)) = false:=by decide)
  (he:starEach (e :: es) X.env = (false,eval e X.env) :: starEach es X.env:=by rfl) (hpl:(backTo pos (starEach es X.env)).any (·.1) = false:=by rfl):QE X (.Call (.Name x p) (e :: es) [] pos) (fB k f) :=
 .mk <| PE.imp (zLY hc hg hm hv ha.un hn hdb he hpl) fun _ _ _ h=>zQ3 hk h
theorem zHr {x:Str} {p:Pos} {T:String} {r:List V -> Hp -> VK -> Prop} {k:KB} {f:FAE} (hk:zGi X.K r k) (hc:zCb X (.type T) r) (hv:bootBuiltins x = some (.type T)) (hg:Gl X x) (hm:X.mg x = none) (ha:QAE X (e :: es) f) (hn:x ≠ "__name__" := by decide) (hdb:(x == ("__debug__" : Str)) = false:=by decide)
  (he:starEach (e :: es) X.env = (false,eval e X.env) :: starEach es X.env:=by rfl) (hpl:(backTo pos (starEach es X.env)).any (·.1) = false:=by rfl):QE X (.Call (.Name x p) (e :: es) [] pos) (fB k f) :=
 .mk <| PE.imp (zGZ hc hg hm hv ha.un hn hdb he hpl) fun _ _ _ h=>zQ3 hk h
def zBR:KB:=fun xs M=>match xs with
 | [x]=>match zAc M x with
  | some ys=>some (.dat (.tup ys),M)
  | none=>none
 | _=>none
theorem zO6:zGi X.K (fun xs H Q=>∃ p ys,xs = [.ref p] /\ ((SqL X.K H p ys /\ ∀ l,H l = none -> Q (.ref l) (upd H l (.tup ys))) \/ (SqT X.K H p ys /\ Q (.ref p) H))) zBR:=by
 intro L M M' H H0 xs d vs Q c r hk q;unfold zBR at hk;split at hk
 ·rename_i x;split at hk
  ·rename_i ys e1;cases hk;obtain ⟨v,rfl,r1⟩:=r.one;unfold zAc at e1;cases t:zCm x with
   | some zs=>
    rw [t] at e1; cases e1;obtain ⟨a,ws,rfl,e2,r2⟩:=zBO r1 t;refine ⟨a,ws,rfl,.inr ⟨.of e2,q L H _ (.refl L H) c ?_⟩⟩;unfold zl Rep;exact ⟨a,ws,rfl,e2,r2⟩
   | none=>
    rw [t] at e1;obtain ⟨a,ws,rfl,e2,r2⟩:=zA8 c r1 e1;refine ⟨a,ws,rfl,.inl ⟨.inl e2,fun p hp=>?_⟩⟩;exact q L _ _ (.upd hp) (c.upd hp) (Rep.newTup hp r2)
  ·cases hk
 ·cases hk
end
set_option genInjectivity true in
inductive Out where
 | nx | ret (d:D) | brk | cnt
abbrev FS:=Sd -> Mem -> Option (Out × Sd × Mem)
def zU0 (E:Ends) (L:List Addr) (H:Hp) (σ:Sd):Out -> Prop
 | .nx=>∀ τ,zB2 L H σ τ -> E.nx τ H
 | .ret d=>∀ v,Rep L H d v -> E.rt v H
 | .brk=>∀ τ,zB2 L H σ τ -> E.bk τ H
 | .cnt=>∀ τ,zB2 L H σ τ -> E.ct τ H
def trS (K:PySem.W.Frag) (f:FS):TS:=fun E τ H=>∃ L σ M o σ' M',Cor K L M H /\ zB2 L H σ τ /\ f σ M = some (o,σ',M') /\ ∀ L' H',Stp L H L' H' -> Cor K L' M' H' -> zU0 E L' H' σ' o
structure QS (X:Cx) (st:Stmt) (f:FS):Prop where
 un:PS X st (trS X.K f)
structure QSs (X:Cx) (st:List Stmt) (f:FS):Prop where
 un:PSs X st (trS X.K f)
theorem zB2.set (h:zB2 L H σ τ) (r:Rep L H d v):zB2 L H (σ.set i (some d)) (τ.set i (some v)):=by
 refine ⟨by simp [h.1],fun j e q=>?_⟩;rw [zXl] at q ⊢;split at q
 ·rename_i z;subst z;split at q
  ·rename_i hl;cases q;rw [zWR rfl,zWR (by rw [h.1]; exact hl)];exact ⟨v,rfl,r⟩
  ·cases q
 ·rename_i z;rw [zWU z];exact h.2 j e q
theorem zLH {K:PySem.W.Frag} {f:FE} {τ:Sv} {H:Hp} {Q:VK} (h:trD K (toD f) τ H Q):trE K f τ H Q:=by
 obtain ⟨L,σ,M,d,M',c,rs,hf,q⟩:=h;unfold toD at hf;split at hf
 ·rename_i d' M1 e1;cases hf;exact ⟨L,σ,M,_,_,c,rs,e1,fun L' H' v s c' r=>q L' H' v s c' r⟩
 ·rename_i xs M1 e1;cases hf;refine ⟨L,σ,M,_,_,c,rs,e1,fun L' H' v s c' r=>?_⟩;obtain ⟨p,vs,rfl,e0,e2,e3,r⟩:=r;obtain ⟨c2,s2⟩:=zTJ s c' e0 e2 e3 r;exact q _ H' _ s2 c2 (Rep.last c')
 ·cases hf
def zBt:FS:=fun σ M=>some (.nx,σ,M)
def zT (f g:FS):FS:=fun σ M=>match f σ M with
 | some (.nx,σ1,M1)=>g σ1 M1
 | r=>r
def sIf (c:FT) (f g:FS):FS:=fun σ M=>match c σ M with
 | some (true,M1)=>f σ M1
 | some (false,M1)=>g σ M1
 | none=>none
def zAI (f:FE):FS:=fun σ M=>match toD f σ M with
 | some (d,M1)=>some (.ret d,σ,M1)
 | none=>none
def zAC (i:Nat) (f:FE):FS:=fun σ M=>match toD f σ M with
 | some (d,M1)=>some (.nx,σ.set i (some d),M1)
 | none=>none
def zBr (f:FE):FS:=fun σ M=>match f σ M with
 | some (_,M1)=>some (.nx,σ,M1)
 | none=>none
section
variable {X:Cx} {st:Stmt} {rest:List Stmt} {e c:Expr} {pos:Pos}
theorem zA3:QSs X [] zBt:=.mk <| PSs.imp zS3 fun E τ H zz=>by
 obtain ⟨L,σ,M,o,σ',M',c,rs,hf,q⟩:=zz;unfold zBt at hf;cases hf;exact q L H (.refl L H) c τ rs
theorem zL (h1:QS X st f) (h2:QSs X rest g):QSs X (st :: rest) (zT f g):=.mk <| PSs.imp (zQe h1.un h2.un) fun E τ H zz=>by
 obtain ⟨L,σ,M,o,σ',M',c,rs,hf,q⟩:=zz;unfold zT at hf;split at hf
 ·rename_i σ1 M1 e1;refine ⟨L,σ,M,_,_,_,c,rs,e1,fun L1 H1 s1 c1 τ1 r1=>⟨L1,σ1,M1,_,_,_,c1,r1,hf,fun L2 H2 s2 c2=>q L2 H2 (s1.trans s2) c2⟩⟩
 ·rename_i hne;refine ⟨L,σ,M,_,_,_,c,rs,hf,fun L1 H1 s1 c1=>?_⟩;have z:=q L1 H1 s1 c1;cases o with
  | nx=>exact absurd hf (hne σ' M')
  | ret d=>exact z
  | brk=>exact z
  | cnt=>exact z
theorem zY (h1:QS X st f):QSs X [st] f:=.mk <| PSs.imp (zR5 h1.un) fun _ _ _ h=>h
theorem zDn (hc:QT X c fc) (ha:QSs X a f) (hb:QSs X b g):QS X (.If c a b pos) (sIf fc f g):=.mk <| PS.imp (zVL hc.un ha.un hb.un) fun E τ H zz=>by
 obtain ⟨L,σ,M,o,σ',M',c,rs,hf,q⟩:=zz;unfold sIf at hf;split at hf
 ·rename_i M1 e1;refine ⟨L,σ,M,_,_,c,rs,e1,fun L1 H1 s1 c1=>?_⟩;exact zHN ⟨L1,σ,M1,_,_,_,c1,rs.stp s1,hf,fun L2 H2 s2 c2=>q L2 H2 (s1.trans s2) c2⟩
 ·rename_i M1 e1;refine ⟨L,σ,M,_,_,c,rs,e1,fun L1 H1 s1 c1=>?_⟩;exact zHH ⟨L1,σ,M1,_,_,_,c1,rs.stp s1,hf,fun L2 H2 s2 c2=>q L2 H2 (s1.trans s2) c2⟩
 ·cases hf
theorem zx (h:QE X e f):QS X (.Return (some e) pos) (zAI f):=.mk <| PS.imp (zUP (zI h).un) fun E τ H zz=>by
 obtain ⟨L,σ,M,o,σ',M',c,rs,hf,q⟩:=zz;unfold zAI at hf;split at hf
 ·rename_i d M1 e1;cases hf;exact ⟨L,σ,M,_,_,c,rs,e1,fun L1 H1 v s1 c1 r1=>q L1 H1 s1 c1 v r1⟩
 ·cases hf
theorem zHm {K:PySem.W.Frag} {i:Nat} {f:FE} {t:TE} (ht:∀ τ H Q,trE K f τ H Q -> t τ H Q) {E:Ends} {τ:Sv} {H:Hp} (h:trS K (zAC i f) E τ H):zPt t (zCI i) E τ H:=by
 obtain ⟨L,σ,M,o,σ',M',c,rs,hf,q⟩:=h;unfold zAC at hf;split at hf
 ·rename_i d M1 e1;cases hf;exact ht _ _ _ (zLH ⟨L,σ,M,_,_,c,rs,e1,fun L1 H1 v s1 c1 r1=>q L1 H1 s1 c1 _ ((rs.stp s1).set r1)⟩)
 ·cases hf
theorem zVM {i:Nat} {x:Str} {f:FE} {pos':Pos} (hN:X.N.Nodup) (hi:X.N[i]? = some x) (hx:Loc X.env.scope x) (h:QE X e f) (hs:swapsWith e (some (.Name x pos')) pos.line X.env = pure false:=by rfl)
  (hf:X.fn x = true \/ X.env.scope.names.lookup x = some .local:=by first | exact .inl rfl | exact .inr rfl | assumption):QS X (.Assign [.Name x pos'] e pos) (zAC i f) :=
 .mk <| PS.imp (zUM hN hi hx h.un hs hf) fun _ _ _ z=>zHm (fun _ _ _ z=>z) z
theorem zET (h:QE X e f) (hs:swapsWith e none pos.line X.env = pure false:=by rfl):QS X (.Expr e pos) (zBr f):=.mk <| PS.imp (zRy h.un hs) fun E τ H zz=>by
 obtain ⟨L,σ,M,o,σ',M',c,rs,hf,q⟩:=zz;unfold zBr at hf;split at hf
 ·rename_i d M1 e1;cases hf;exact ⟨L,σ,M,_,_,c,rs,e1,fun L1 H1 v s1 c1 r1=>q L1 H1 s1 c1 τ (rs.stp s1)⟩
 ·cases hf
abbrev FG:=D -> Sd -> Option Sd
def GOk (g:TG) (fg:FG):Prop:=∀ {L:List Addr} {H:Hp} {σ σ':Sd} {τ:Sv} {d:D} {v:V} {Q:Sv -> Hp -> Prop},zB2 L H σ τ -> Rep L H d v -> fg d σ = some σ' -> (∀ τ',zB2 L H σ' τ' -> Q τ' H) -> g v τ H Q
def gN (i:Nat):FG:=fun d σ=>some (σ.set i (some d))
theorem zBS:GOk (zCI i) (gN i):=by
 intro L H σ σ' τ d v Q rs r hf q;unfold gN at hf;cases hf;exact q _ (rs.set r)
abbrev FI:=Sd -> Mem -> Option (List D × Option (Mem -> Prop) × Mem)
def zBE (g:Option (Mem -> Prop)) (xs:List D) (M:Mem):Prop:=match g with
 | none=>True
 | some p=>p M
def zVZ (K:PySem.W.Frag) (J:It) (L:List Addr) (H:Hp) (xs:List D) (g:Option (Mem -> Prop)):Prop:=∀ L' H' M',Stp L H L' H' -> Cor K L' M' H' -> zBE g xs M' ->
 (∀ (i:Nat) d,xs[i]? = some d -> J.go i H' /\ ∀ v H'',J.yld i H' v H'' -> (∀ a o,H' a = some o -> H'' a = some o) /\ Rep L' H'' d v) /\ J.stop xs.length H'
def trI (K:PySem.W.Frag) (f:FI):TI:=fun τ H R=>∃ L σ M xs g M',Cor K L M H /\ zB2 L H σ τ /\ f σ M = some (xs,g,M') /\ ∀ L' H' J,Stp L H L' H' -> Cor K L' M' H' -> zVZ K J L' H' xs g -> R J H'
structure QI (X:Cx) (tg e:Expr) (f:FI):Prop where
 un:PI X tg e (trI X.K f)
theorem PI.imp (h:PI X tg e t) (hi:∀ τ H R,t' τ H R -> t τ H R):PI X tg e t':=fun zB s σ H R I q=>h zB s σ H R I (hi _ _ _ q)
noncomputable def zC5 (g:FG) (b:FS) (all:List D) (gd:Option (Mem -> Prop)):List D -> Sd -> Mem -> Option (Out × Sd × Mem)
 | [],σ,M=>open Classical in if zBE gd all M then some (.nx,σ,M) else none
 | x :: r,σ,M=>open Classical in if zBE gd all M then match g x σ with
   | some σ1=>match b σ1 M with
    | some (.nx,σ2,M2)=>zC5 g b all gd r σ2 M2
    | some (.cnt,σ2,M2)=>zC5 g b all gd r σ2 M2
    | some (.brk,σ2,M2)=>some (.nx,σ2,M2)
    | some (.ret d,σ2,M2)=>some (.ret d,σ2,M2)
    | none=>none
   | none=>none
  else none
noncomputable def zDJ (fi:FI) (g:FG) (b:FS):FS:=fun σ M=>match fi σ M with
 | some (xs,gd,M1)=>zC5 g b xs gd xs σ M1
 | none=>none
theorem zCz {α:Type} {xs:List α} (h:i < xs.length):xs.drop i = xs[i] :: xs.drop (i + 1):=List.drop_eq_getElem_cons h
theorem Stp.yld (s:Stp L H L' H') (h:∀ a o,H' a = some o -> H'' a = some o):Stp L H L' H'':=s.trans (.grow h)
theorem zRR {K:PySem.W.Frag} {fi:FI} {g:TG} {fg:FG} {b:FS} (hg:GOk g fg) {E:Ends} {τ:Sv} {H:Hp} (h:trS K (zDJ fi fg b) E τ H):zVR (trI K fi) g (trS K b) E τ H:=by
 obtain ⟨L,σ,M,o,σf,Mf,c,rs,hf,q⟩:=h;unfold zDJ at hf;split at hf
 ·rename_i xs gd M1 e1;refine ⟨L,σ,M,_,_,_,c,rs,e1,fun L1 H1 J s1 c1 it=>?_⟩
  refine ⟨fun i m τ' H'=>m = xs.length - i /\ i <= xs.length /\ ∃ L' σ' M',Stp L1 H1 L' H' /\ Cor K L' M' H' /\ zB2 L' H' σ' τ' /\ zC5 fg b xs gd (xs.drop i) σ' M' = some (o,σf,Mf),
   ⟨xs.length,by simp,zWy _,L1,σ,M1,.refl _ _,c1,rs.stp s1,by simpa using hf⟩,?_⟩
  rintro i m τ' H' ⟨rfl,hi,L',σ',M',s',c',rs',e'⟩;by_cases hlt:i < xs.length
  ·rw [zCz hlt] at e';unfold zC5 at e';split at e'
   ·rename_i hgd;obtain ⟨step,_⟩:=it L' H' M' s' c' hgd;obtain ⟨go,yl⟩:=step i xs[i] (zWG hlt);cases eg:fg xs[i] σ' with
    | none=>rw [eg] at e'; cases e'
    | some σ1=>
     rw [eg] at e';dsimp only at e';refine .inr ⟨go,fun τ2 H2=>∃ L2 σ2 M2,Stp L1 H1 L2 H2 /\ Cor K L2 M2 H2 /\ zB2 L2 H2 σ2 τ2 /\ zC5 fg b xs gd (xs.drop (i + 1)) σ2 M2 = some (o,σf,Mf),fun τ2 H2 ⟨L2,σ2,M2,a1,a2,a3,a4⟩=>⟨xs.length - (i + 1),by omega,rfl,hlt,L2,σ2,M2,a1,a2,a3,a4⟩,fun v H2 hy=>?_⟩;obtain ⟨gr,rv⟩:=yl v H2 hy;refine hg (zB2.stp (.grow gr) rs') rv eg fun τ2 r2=>?_;cases eb:b σ1 M' with
     | none=>rw [eb] at e'; cases e'
     | some r=>
      obtain ⟨o2,σ2,M2⟩:=r;rw [eb] at e';refine ⟨L',σ1,M',_,_,_,c'.grow gr,r2,eb,fun L3 H3 s3 c3=>?_⟩;have s13:Stp L1 H1 L3 H3:=(s'.yld gr).trans s3;cases o2 with
      | nx=>exact fun τ3 r3=>⟨L3,σ2,M2,s13,c3,r3,e'⟩
      | cnt=>exact fun τ3 r3=>⟨L3,σ2,M2,s13,c3,r3,e'⟩
      | brk=>cases e'; exact q L3 H3 (s1.trans s13) c3
      | ret d=>cases e'; exact q L3 H3 (s1.trans s13) c3
   ·cases e'
  ·have hi':i = xs.length:=by omega
   subst hi';rw [List.drop_length] at e';unfold zC5 at e';split at e'
   ·rename_i hgd;cases e';obtain ⟨_,stop⟩:=it L' H' _ s' c' hgd;exact .inl ⟨stop,q L' H' (s1.trans s') c' τ' rs'⟩
   ·cases e'
 ·cases hf
theorem zD1 (hg:GOk g fg) (hp:PassesOwn (model X.prog X.w) X.A X.env X.xe) (hc:X.calm = true) (hi:QI X tg iter fi) (ht:PG X tg g) (hb:QSs X body b)
  (hs:∀ x,foldedSetIterable iter X.env x = pure x:=by intro _; rfl):QS X (.For tg iter body [] pos) (zDJ fi fg b):=.mk <| PS.imp (zT7 hp hc hi.un ht hb.un hs) fun _ _ _ h=>zRR hg h
end
section
variable {X:Cx} {e c iter tg elt:Expr} {pos:Pos} {scope:Scope} {ifs:List Expr}
def zBM (c:FT) (b:FS):Nat -> Sd -> Mem -> Option (Out × Sd × Mem)
 | 0,_,_=>none
 | n + 1,σ,M=>match c σ M with
  | some (true,M1)=>match b σ M1 with
   | some (.nx,σ2,M2)=>zBM c b n σ2 M2
   | some (.cnt,σ2,M2)=>zBM c b n σ2 M2
   | some (.brk,σ2,M2)=>some (.nx,σ2,M2)
   | some (.ret d,σ2,M2)=>some (.ret d,σ2,M2)
   | none=>none
  | some (false,M1)=>some (.nx,σ,M1)
  | none=>none
theorem zMW {K:PySem.W.Frag} {fc:FT} {b:FS} {n:Nat} {E:Ends} {τ:Sv} {H:Hp} (h:trS K (zBM fc b n) E τ H):zRV (trT K fc) (trS K b) E τ H:=by
 obtain ⟨L,σ,M,o,σf,Mf,c,rs,hf,q⟩:=h;refine ⟨fun m τ' H'=>∃ L' σ' M',Stp L H L' H' /\ Cor K L' M' H' /\ zB2 L' H' σ' τ' /\ zBM fc b m σ' M' = some (o,σf,Mf),⟨n,L,σ,M,.refl _ _,c,rs,hf⟩,?_⟩;rintro m τ' H' ⟨L',σ',M',s',c',rs',e'⟩;cases m with
 | zero=>unfold zBM at e'; cases e'
 | succ m=>
  unfold zBM at e';split at e'
  ·rename_i M1 e1;refine ⟨L',σ',M',_,_,c',rs',e1,fun L1 H1 s1 c1=>zHN ?_⟩;refine ⟨fun τ2 H2=>∃ L2 σ2 M2,Stp L H L2 H2 /\ Cor K L2 M2 H2 /\ zB2 L2 H2 σ2 τ2 /\ zBM fc b m σ2 M2 = some (o,σf,Mf),fun τ2 H2 h2=>⟨m,zW9 m,h2⟩,?_⟩;cases eb:b σ' M1 with
   | none=>rw [eb] at e'; cases e'
   | some r=>
    obtain ⟨o2,σ2,M2⟩:=r;rw [eb] at e';refine ⟨L1,σ',M1,_,_,_,c1,rs'.stp s1,eb,fun L3 H3 s3 c3=>?_⟩;have s13:Stp L H L3 H3:=(s'.trans s1).trans s3;cases o2 with
    | nx=>exact fun τ3 r3=>⟨L3,σ2,M2,s13,c3,r3,e'⟩
    | cnt=>exact fun τ3 r3=>⟨L3,σ2,M2,s13,c3,r3,e'⟩
    | brk=>cases e'; exact q L3 H3 s13 c3
    | ret d=>cases e'; exact q L3 H3 s13 c3
  ·rename_i M1 e1;cases e';exact ⟨L',_,M',_,_,c',rs',e1,fun L1 H1 s1 c1=>zHH (q L1 H1 (s'.trans s1) c1 τ' (rs'.stp s1))⟩
  ·cases e'
theorem zGN (n:Nat) (hp:PassesOwn (model X.prog X.w) X.A X.env X.xe) (hc:QT X c fc) (hb:QSs X body b):QS X (.While c body [] pos) (zBM fc b n) :=
 .mk <| PS.imp (zQi hp hc.un hb.un) fun _ _ _ h=>zMW h
def zBl (own:List Nat) (σ:Sd):Sd:=own.foldl (fun σ i=>σ.set i none) σ
theorem zFU:∀ (own:List Nat) {σ:Sd} {τ:Sv},zB2 L H σ τ -> zB2 L H (zBl own σ) (clr own τ)
 | [],_,_,h=>h
 | i :: r,σ,τ,h=>by
  refine zFU r (σ:=σ.set i none) (τ:=τ.set i none) ⟨by simp [h.1],fun j d q=>?_⟩;rw [zXl] at q ⊢;split at q
  ·split at q <;> cases q
  ·rename_i z;rw [zWU z];exact h.2 j d q
noncomputable def zBF (g:FG) (tc:FT) (te:FE) (σ:Sd) (all:List D) (gd:Option (Mem -> Prop)):List D -> Mem -> Option (List D × Mem)
 | [],M=>open Classical in if zBE gd all M then some ([],M) else none
 | x :: r,M=>open Classical in if zBE gd all M then match g x σ with
   | some σ1=>match tc σ1 M with
    | some (true,M1)=>match toD te σ1 M1 with
     | some (d,M2)=>match zBF g tc te σ all gd r M2 with
      | some (ds,M3)=>some (d :: ds,M3)
      | none=>none
     | none=>none
    | some (false,M1)=>zBF g tc te σ all gd r M1
    | none=>none
   | none=>none
  else none
noncomputable def zAO (own:List Nat) (fi:FI) (g:FG) (tc:FT) (te:FE):FE:=fun σ M=>match fi σ M with
 | some (xs,gd,M1)=>if xs.length <= sizeLine then match zBF g tc te (zBl own σ) xs gd xs M1 with
   | some (ys,M2)=>some (.fl ys,M2)
   | none=>none
  else none
 | none=>none
def zFi (own:List Nat) (g:TG) (fg:FG):Prop:=∀ {L:List Addr} {H:Hp} {σ σ':Sd} {τ τ0:Sv} {d:D} {v:V} {Q:Sv -> Hp -> Prop},zB2 L H σ τ -> Ext (clr own τ0) τ -> Rep L H d v -> fg d σ = some σ' -> (∀ τ',zB2 L H σ' τ' -> Ext (clr own τ0) τ' -> Q τ' H) -> g v τ H Q
theorem zj (hi:i ∈ own):zFi own (zCI i) (gN i):=by
 intro L H σ σ' τ τ0 d v Q rs ex r hf q;unfold gN at hf;cases hf;exact q _ (rs.set r) (ex.set hi)
theorem zJE {K:PySem.W.Frag} {own:List Nat} {fi:FI} {g:TG} {fg:FG} {tc:FT} {te:FE} (hg:zFi own g fg) {τ:Sv} {H:Hp} {Q:VK} (h:trE K (zAO own fi fg tc te) τ H Q):zRK own (trI K fi) g (trT K tc) (trD K (toD te)) τ H Q:=by
 obtain ⟨L,σ,M,d,Mf,c,rs,hf,q⟩:=h;unfold zAO at hf;split at hf
 ·rename_i xs gd M1 e1;split at hf
  ·rename_i hz;split at hf
   ·rename_i zs M2 e2;cases hf;refine ⟨L,σ,M,_,_,_,c,rs,e1,fun L1 H1 J s1 c1 it=>?_⟩
    refine ⟨fun i m ys H'=>m = xs.length - i /\ i <= xs.length /\ ∃ L' M' as bs,Stp L1 H1 L' H' /\ Cor K L' M' H' /\ zW L' H' as ys /\ as.length <= i /\ zBF fg tc te (zBl own σ) xs gd (xs.drop i) M' = some (bs,Mf) /\ as ++ bs = zs,
     ⟨xs.length,by simp,zWy _,L1,M1,[],zs,.refl _ _,c1,.nil,zWI _,by simpa using e2,rfl⟩,?_⟩
    rintro i m ys H' ⟨rfl,hi,L',M',as,bs,s',c',r',hl,e',hab⟩;have hys:ys.length <= i:=by rw [r'.length]; exact hl
    by_cases hlt:i < xs.length
    ·rw [zCz hlt] at e';unfold zBF at e';split at e'
     ·rename_i hgd;obtain ⟨step,_⟩:=it L' H' M' s' c' hgd;obtain ⟨go,yl⟩:=step i xs[i] (zWG hlt);split at e'
      ·rename_i σ1 eg;refine .inr ⟨go,fun v H2 hy=>?_⟩;obtain ⟨gr,rv⟩:=yl v H2 hy;have s2:Stp L1 H1 L' H2:=s'.yld gr;refine hg (zFU own ((rs.stp s1).stp s2)) (.refl _) rv eg fun τ2 r2 x2=>⟨x2,?_⟩;split at e'
       ·rename_i M3 e3;split at e'
        ·rename_i d M4 e4;split at e'
         ·rename_i ds M5 e5;cases e';refine ⟨L',σ1,M',_,_,c'.grow gr,r2,e3,fun L3 H3 s3 c3=>zHN ?_⟩;refine ⟨L3,σ1,M3,_,_,c3,r2.stp s3,e4,fun L4 H4 w s4 c4 r4=>?_⟩;have st:Stp L' H' L4 H4:=((Stp.grow gr).trans s3).trans s4;refine ⟨Nat.lt_of_le_of_lt hys (zWb hlt hz),xs.length - (i + 1),by omega,rfl,hlt,L4,M4,as ++ [d],ds,s'.trans st,c4,(r'.stp st).app (.cons r4 .nil),by simp; omega,e5,by rw [<- hab]; simp⟩
         ·cases e'
        ·cases e'
       ·rename_i M3 e3;refine ⟨L',σ1,M',_,_,c'.grow gr,r2,e3,fun L3 H3 s3 c3=>zHH ?_⟩;have st:Stp L' H' L3 H3:=(Stp.grow gr).trans s3;exact ⟨xs.length - (i + 1),by omega,rfl,hlt,L3,M3,as,bs,s'.trans st,c3,r'.stp st,by omega,e',hab⟩
       ·cases e'
      ·cases e'
     ·cases e'
    ·have hi':i = xs.length:=by omega
     subst hi';rw [List.drop_length] at e';unfold zBF at e';split at e'
     ·rename_i hgd;cases e';obtain ⟨_,stop⟩:=it L' H' _ s' c' hgd;refine .inl ⟨stop,zWd hys hz,fun p hp=>?_⟩;rw [zWw] at hab;subst hab;exact q L' _ _ ((s1.trans s').trans (.upd hp)) (c'.upd hp) (zl.newLst (s1.trans s') c c' hp r')
     ·cases e'
   ·cases hf
  ·cases hf
 ·cases hf
structure QIfs (X:Cx) (ifs:List Expr) (f:FT):Prop where
 un:zHM X ifs (trT X.K f)
def zAJ:FT:=fun _ M=>some (true,M)
theorem zA4:QIfs X [] zAJ:=.mk fun zB s σ H Q I h=>by
 obtain ⟨L,σ',M,d,M',c,rs,hf,q⟩:=h;unfold zAJ at hf;cases hf;exact zPT zB s σ H Q I (q L H (.refl L H) c)
theorem zFq (h:QT X c f):QIfs X [c] f:=.mk (zQD h.un)
structure QParts (X:Cx) (scope:Scope) (tg:Expr) (ifs:List Expr) (elt:Expr) (g:TG) (tc:FT) (te:FE):Prop where
 g:∀ zB cl s H fp,PG (zS X zB scope cl s H fp) tg g
 c:∀ zB cl s H fp,QIfs (zS X zB scope cl s H fp) ifs tc
 e:∀ zB cl s H fp,QE (zS X zB scope cl s H fp) elt te
theorem QParts.parts {g:TG} {tc:FT} {te:FE} (p:QParts X scope tg ifs elt g tc te):CompParts X scope tg ifs elt g (trT X.K tc) (trD X.K (toD te)) :=
 ⟨p.g,fun zB cl s H fp=>(p.c zB cl s H fp).un,fun zB cl s H fp=>(zI (p.e zB cl s H fp)).un⟩
theorem zBV (hg:zFi own g fg) (C:CompIn X scope own) (hcalm:X.calm = true) (hi:QI X tg iter fi) (p:QParts X scope tg ifs elt g tc te) (hs:∀ x,foldedSetIterable iter X.env x = pure x:=by intro _; rfl) :
  QE X (.ListComp elt [⟨tg,iter,ifs,0⟩] scope pos) (zAO own fi fg tc te):=.mk <| PE.imp (zSV C hcalm hi.un p.parts hs) fun _ _ _ h=>zJE hg h
theorem zCx (hN:X.N.Nodup) (hi':X.N[i]? = some x) (hx:Loc X.env.scope x) (hfn:X.fn x = true \/ X.env.scope.names.lookup x = some .local)
  (hsw:swapsWith (.ListComp elt [⟨tg,iter,ifs,0⟩] scope pos) (some (.Name x pos')) pos''.line X.env = pure true)
  (hg:zFi own g fg) (C:CompIn X scope own) (hcalm:X.calm = true) (hi:QI X tg iter fi) (p:QParts X scope tg ifs elt g tc te) (hs:∀ x,foldedSetIterable iter X.env x = pure x:=by intro _; rfl) :
  QS X (.Assign [.Name x pos'] (.ListComp elt [⟨tg,iter,ifs,0⟩] scope pos) pos'') (zAC i (zAO own fi fg tc te)) :=
 .mk <| PS.imp (zM2 hN hi' hx hfn C hcalm hi.un p.parts hsw hs) fun _ _ _ z=>zHm (fun _ _ _ z=>zJE hg z) z
end
abbrev FF:=List D -> Mem -> Option (D × Mem)
def spF (K:PySem.W.Frag) (n:Nat) (g:FF):Sp:=fun vs H Q _=>∃ L ds M d M',Cor K L M H /\ zW L H ds vs /\ ds.length = n /\ g ds M = some (d,M') /\ ∀ L' H' v,Stp L H L' H' -> Cor K L' M' H' -> Rep L' H' d v -> Q v H'
def za (g:FF) (fa:FA):FE:=fun σ M=>match fa σ M with
 | some (ds,M1)=>match g ds M1 with
  | some (d,M2)=>some (.dat d,M2)
  | none=>none
 | none=>none
section
variable {X:Cx} {e:Expr} {es:List Expr} {pos p:Pos} {x:Str} {k:Nat} {f:Addr} {fd:FuncData} {ps:List Str}
theorem zTb (F:FnOk X.prog X.w X.K X.mg X.base CX0 k f fd ps (spF X.K (e :: es).length g)) (hr:Room k X.A) (hg:Gl X x) (hm:X.mg x = some (.ref f)) (hk:PySem.W.keepIn X.K (.ref f) = true) (hb:zHs X.K fd ps [])
  (ha:QA X (e :: es) fa) (hl:∀ σ M ds M1,fa σ M = some (ds,M1) -> ds.length = (e :: es).length) (hdb:(x == ("__debug__" : Str)) = false:=by decide) (he:starEach (e :: es) X.env = (false,eval e X.env) :: starEach es X.env:=by rfl) (hpl:(backTo pos (starEach es X.env)).any (·.1) = false:=by rfl) :
  QE X (.Call (.Name x p) (e :: es) [] pos) (za g fa) :=
 .mk <| PE.imp (zSB F hr hg hm hk hb .nil zVO ha.un hdb he hpl) fun τ H Q zz=>by
  obtain ⟨L,σ,M,d,M',c,rs,hf,q⟩:=zz;unfold za at hf;split at hf
  ·rename_i ds M1 e1;split at hf
   ·rename_i d' M2 e2;cases hf;refine ⟨L,σ,M,_,_,c,rs,e1,fun L1 H1 vs s1 c1 r1=>?_⟩;dsimp only;rw [zWw];exact ⟨L1,ds,M1,d',_,c1,r1,hl _ _ _ _ e1,e2,fun L2 H2 v s2 c2 r2=>q L2 H2 v (s1.trans s2) c2 r2⟩
   ·cases hf
  ·cases hf
def zRb (fa:FA) (n:Nat):Prop:=∀ σ M ds M1,fa σ M = some (ds,M1) -> ds.length = n
theorem zM:zRb zQ 0:=fun σ M ds M1 h=>by unfold zQ at h; cases h; rfl
theorem zF {f:FD} {g:FA} {n:Nat} (h:zRb g n):zRb (zH f g) (n + 1):=fun σ M ds M1 q=>by
 unfold zH at q;split at q
 ·split at q
  ·rename_i e2;cases q;simp [h _ _ _ _ e2]
  ·cases q
 ·cases q
def zBX (n:Nat) (b:FS):FF:=fun ds M=>match b (ds.map some ++ List.replicate (n - ds.length) none) M with
 | some (.ret d,_,M')=>some (d,M')
 | some (.nx,_,M')=>some (.non,M')
 | _=>none
theorem zJS:∀ {ds:List D} {vs:List V},zW L H ds vs -> zB2 L H (ds.map some ++ List.replicate (N.length - ds.length) none) (L2.zEY N vs):=fun {ds vs} r=>by
 unfold L2.zEY;have hl:=r.length;refine ⟨by simp [hl],fun i d q=>?_⟩;by_cases hi:i < ds.length
 ·rw [zWJ (by simpa using hi),zWZ] at q;rw [zWJ (by simpa [hl] using hi),zWZ];cases e1:ds[i]? with
  | none=>rw [e1] at q; cases q
  | some d'=>
   rw [e1] at q; cases q;obtain ⟨v,e2,r2⟩:=r.get e1;exact ⟨v,by rw [e2]; rfl,r2⟩
 ·rw [zXM (by simpa using hi),List.getElem?_replicate] at q;split at q <;> cases q
theorem zAL {P:Program} {w:World} {K:PySem.W.Frag} {mg:Str -> Option Value} {base:Heap} {qual:Str} {st:Stmt} {N:List Str} {b:FS} {n:Nat} (F:Fun K x qual st f fd) (S:FnScope N ps (zN st)) (hn:ps.length = n)
  (hb:∀ (cdv:Value) (A:Around) (outer:List Env) (s:Shared) (H:Hp) (E:XK),Room k (A.deeper (envOfC qual (zN st) s.heap.objs.size f cdv)) -> QSs (zMn CX0 P w K mg base N qual (zN st) f cdv A outer s H E).nox (zDY st) b) :
  FnOk P w K mg base CX0 (k + 1) f fd ps (spF K n (zBX N.length b)):=by
 refine F.ok S (fun vs H Q E h=>?_) (fun cdv A outer s H vs Q E hr h=>⟨_,(hb cdv A outer s H E hr).un,?_⟩)
 ·obtain ⟨L,ds,M,d,M',c,r,hl,_⟩:=h;rw [r.length,hl,hn]
 ·obtain ⟨L,ds,M,d,M',c,r,hl,hf,q⟩:=h;unfold zBX at hf;split at hf
  ·rename_i d' σ' M1 e1;cases hf;exact ⟨L,_,M,_,_,_,c,zJS r,e1,fun L1 H1 s1 c1 v r1=>q L1 H1 v s1 c1 r1⟩
  ·rename_i σ' M1 e1;cases hf;exact ⟨L,_,M,_,_,_,c,zJS r,e1,fun L1 H1 s1 c1 τ' r1=>q L1 H1 .non s1 c1 (by unfold Rep; rfl)⟩
  ·cases hf
mutual
def D.und (n:Nat):D -> Bool
 | .tup ds=>D.unds n ds
 | .ref k=>decide (k < n)
 | _=>true
def D.unds (n:Nat):List D -> Bool
 | []=>true
 | d :: ds=>D.und n d && D.unds n ds
end
mutual
theorem Rep.less:∀ {d:D} {v:V},D.und L.length d = true -> Rep (L ++ N) H d v -> Rep L H d v
 | .non,_,_,h=>by unfold Rep at h ⊢; exact h
 | .bl _,_,_,h=>by unfold Rep at h ⊢; exact h
 | .int _,_,_,h=>by unfold Rep at h ⊢; exact h
 | .str _,_,_,h=>by unfold Rep at h ⊢; exact h
 | .tup ds,_,hb,h=>by
  unfold D.und at hb;unfold Rep at h ⊢;obtain ⟨a,vs,rfl,e,r⟩:=h;exact ⟨a,vs,rfl,e,zW.less hb r⟩
 | .ref n,_,hb,h=>by
  unfold D.und at hb;unfold Rep at h ⊢;obtain ⟨a,rfl,e⟩:=h;exact ⟨a,rfl,by rwa [zWJ (zW8 hb)] at e⟩
theorem zW.less:∀ {ds:List D} {vs:List V},D.unds L.length ds = true -> zW (L ++ N) H ds vs -> zW L H ds vs
 | [],_,_,h=>by unfold zW at h ⊢; exact h
 | d :: ds,_,hb,h=>by
  unfold D.unds at hb;rw [zWm] at hb;unfold zW at h ⊢;obtain ⟨v,r,rfl,h1,h2⟩:=h;exact ⟨v,r,rfl,Rep.less hb.1 h1,zW.less hb.2 h2⟩
end
theorem zBg.less {κ:Type} {kf:D -> Option κ} {L N:List Addr} {H:Hp}:∀ {ps:List (D × D)} {vs:List (κ × V)},(ps.all fun p=>D.und L.length p.1 && D.und L.length p.2) = true -> zBg kf (L ++ N) H ps vs -> zBg kf L H ps vs
 | [],_,_,h=>h
 | p :: r,_,hb,h=>by
  rw [List.all_cons,zWm,zWm] at hb;obtain ⟨k,v,r',rfl,e,h1,h2⟩:=h;exact ⟨k,v,r',rfl,e,Rep.less hb.1.2 h1,zBg.less hb.2 h2⟩
def MO.und (n:Nat):MO -> Bool
 | .lst xs=>D.unds n xs
 | .fro xs=>D.unds n xs
 | .dict kvs=>kvs.all fun p=>D.und n p.1 && D.und n p.2
 | .dicT kvs=>kvs.all fun p=>D.und n p.1 && D.und n p.2
 | .set xs=>D.unds n xs
def zF2 (g:FF):FF:=fun ds M=>match g ds M with
 | some (d,M')=>if D.und M.length d && (M'.take M.length).all (MO.und M.length) && decide (M.length <= M'.length) then some (d,M'.take M.length) else none
 | none=>none
theorem zHS {P:Program} {w:World} {K:PySem.W.Frag} {mg:Str -> Option Value} {base:Heap} {n:Nat} {g:FF} (h:FnOk P w K mg base CX0 k f fd ps (spF K n g)):FnOk P w K mg base CX0 k f fd ps (spF K n (zF2 g)) :=
 h.imp fun vs H Q E ⟨L,ds,M,d,M',c,r,hl,hf,q⟩=>by
  unfold zF2 at hf;split at hf
  ·rename_i d' M1 e1;split at hf
   ·rename_i hb;cases hf;simp only [zWm,zXP,zWn] at hb;obtain ⟨⟨hb1,hb2⟩,hb3⟩:=hb;refine ⟨L,ds,M,_,_,c,r,hl,e1,fun L1 H1 v s1 c1 r1=>?_⟩;obtain ⟨N,rfl⟩:=s1.pre;rw [<- c.len] at hb1 hb2 hb3;refine q L H1 v ⟨⟨[],by simp⟩,fun a ha=> .inl ha,s1.old,s1.tup,s1.frz⟩ ⟨?_,?_,fun i a m e2 e3=>?_⟩ (Rep.less hb1 r1)
    ·rw [zXa,<- c.len]; omega
    ·exact (zXQ.mp c1.nd).1
    ·rw [<- c.len] at e3;have hi:i < L.length:=(zWF.mp e2).1;have hm:m ∈ M1.take L.length:=List.mem_of_getElem? e3;rw [List.getElem?_take_of_lt hi] at e3;have z:=c1.obj i a m (zCR e2) e3;have bl:=hb2 m hm;cases m with
     | lst xs=>obtain ⟨ws,e4,r4⟩:=z; exact ⟨ws,e4,zW.less bl r4⟩
     | fro xs=>obtain ⟨o,ws,e4,r4⟩:=z; exact ⟨o,ws,e4,zW.less bl r4⟩
     | dict ps=>obtain ⟨vs,e,r⟩:=z; exact ⟨vs,e,zBg.less bl r⟩
     | dicT ps=>obtain ⟨vs,e,r⟩:=z; exact ⟨vs,e,zBg.less bl r⟩
     | set _=>exact z
   ·cases hf
  ·cases hf
def zEX (g:FF):FF:=fun ds M=>if D.unds 0 ds then match g ds [] with
  | some (d,_)=>if D.und 0 d then some (d,M) else none
  | none=>none
 else none
theorem zDa {P:Program} {w:World} {K:PySem.W.Frag} {mg:Str -> Option Value} {base:Heap} {n:Nat} {g:FF} (h:FnOk P w K mg base CX0 k f fd ps (spF K n g)):FnOk P w K mg base CX0 k f fd ps (spF K n (zEX g)) :=
 h.imp fun vs H Q E ⟨L,ds,M,d,M',c,r,hl,hf,q⟩=>by
  unfold zEX at hf;split at hf
  ·rename_i hb0;split at hf
   ·rename_i d' M1 e1;split at hf
    ·rename_i hb;cases hf;refine ⟨[],ds,[],_,_,⟨rfl,.nil,fun i a m e=>by simp at e⟩,zW.less (L:=[]) (N:=L) hb0 (by simpa using r),hl,e1,fun L1 H1 v s1 c1 r1=>?_⟩;have gr:∀ a o,H a = some o -> H1 a = some o:=fun a o e=>s1.old a o e (by simp);exact q L H1 v (.grow gr) (c.grow gr) ((Rep.less (L:=[]) (N:=L1) hb (by simpa using r1)).more L |> fun z=>by simpa using z)
    ·cases hf
   ·cases hf
  ·cases hf
theorem zUQ (hl:PE X l tl):PI X tg l (fun σ H R=>tl σ H fun x H1=>∃ a,x = .ref a /\ ((∃ xs,SqL X.K H1 a xs) /\ R (Itl X.K a) H1 \/ (∃ xs,SqT X.K H1 a xs) /\ R (Itt X.K a) H1)):=by
 intro zB s σ H R I h;refine thn (hl zB s σ H _ I h) fun v s1 ⟨y,H1,I1,r1,a,hy,h1⟩=>?_;subst hy;cases r1;have fpk:∀ b ∈ [s1.heap.objs.size],zDB X zB H1 b:=fun b hb=>by
  have e:b = s1.heap.objs.size:=by simpa using hb
  subst e;exact I1.fpOk (zWI _) (I1.hok.fresh (zWI _))
 rcases h1 with ⟨⟨xs,hq⟩,q⟩ | ⟨⟨xs,hq⟩,q⟩
 ·obtain ⟨its,rv,pl,hz⟩:=I1.list hq;exact wpAny_pyIter_list pl.isList ⟨s1.heap.objs.size,[s1.heap.objs.size],_,_,H1,rfl,I1.kept (t':=s1.toks) fun b o e=>zWD _ e,zPE a _,⟨_,zWM _ rfl,rfl,rfl⟩,fpk,q⟩
 ·obtain ⟨its,rv,pl,hz⟩:=I1.tuple hq;exact wpAny_pyIter_tuple (show s1.heap.IsTuple a its.toArray from pl) ⟨s1.heap.objs.size,[s1.heap.objs.size],_,_,H1,rfl,I1.kept (t':=s1.toks) fun b o e=>zWD _ e,zMQ a _,⟨_,zWM _ rfl,rfl,rfl⟩,fpk,q⟩
def zFZ (x:EV) (xs:List D):Option (Mem -> Prop):=match x with
 | .dat (.ref n)=>some fun M=>M[n]? = some (.lst xs) \/ M[n]? = some (.fro xs)
 | _=>none
def zAi (f:FE):FI:=fun σ M=>match f σ M with
 | some (x,M1)=>match zAc M1 x with
  | some xs=>some (xs,zFZ x xs,M1)
  | none=>none
 | none=>none
def zAY (f:FA):FI:=fun σ M=>match f σ M with
 | some ([.int j],M1)=>if -(2 ^ 62) <= j /\ j < 2 ^ 62 then some ((List.range j.toNat).map fun (k:Nat)=>D.int k,none,M1) else none
 | some ([.int i,.int j],M1)=>if -(2 ^ 62) <= i /\ i < 2 ^ 62 /\ -(2 ^ 62) <= j /\ j < 2 ^ 62 then some ((List.range (j - i).toNat).map fun (k:Nat)=>D.int (i + k),none,M1) else none
 | _=>none
theorem zAq (h:QE X e g):QI X tg e (zAi g):=.mk <| PI.imp (zUQ h.un) fun τ H R zz=>by
 obtain ⟨L,σ,M,xs,gd,M',c,rs,hf,q⟩:=zz;unfold zAi at hf;split at hf
 ·rename_i y M1 e1;split at hf
  ·rename_i zs e2;cases hf;refine ⟨L,σ,M,_,_,c,rs,e1,fun L1 H1 v s1 c1 r1=>?_⟩;unfold zAc at e2;cases t:zCm y with
   | some ws=>
    rw [t] at e2; cases e2;obtain ⟨a,vs,rfl,e3,r3⟩:=zBO r1 t;refine ⟨a,rfl,.inr ⟨⟨vs,.of e3⟩,q L1 H1 _ s1 c1 fun L2 H2 M2 s2 c2 _=>?_⟩⟩;have e4:=s2.tup a vs e3;have r4:=r3.stp s2;refine ⟨fun i d hd=>?_,⟨vs,.of e4,by rw [r4.length]; exact zWI _⟩⟩;obtain ⟨u,hu,ru⟩:=r4.get hd;refine ⟨⟨vs,u,.of e4,hu⟩,fun v H3 ⟨hH,hv⟩=>?_⟩;subst hH;have:=hv vs (.of e4);rw [hu] at this; cases this;exact ⟨fun _ _ z=>z,ru⟩
   | none=>
    rw [t] at e2;dsimp only at e2;obtain ⟨a,vs,rfl,e3,r3⟩:=zA8 c1 r1 e2;refine ⟨a,rfl,.inl ⟨⟨vs,.inl e3⟩,q L1 H1 _ s1 c1 fun L2 H2 M2 s2 c2 hgd=>?_⟩⟩;have key:∃ vs',SqL X.K H2 a vs' /\ zW L2 H2 xs vs':=by
     cases y with
     | fl ys=>
      cases e2;obtain ⟨p',vs',hp',_,e5,e6,r6⟩:=r1;cases hp';exact ⟨vs',.of (s2.old _ _ e5 e6),r6.stp s2⟩
     | dat d=>
      cases d with
      | ref n=>
       unfold zl Rep at r1;obtain ⟨a',ha',e5⟩:=r1;cases ha';have e6:L2[n]? = some a:=by obtain ⟨N,hN⟩:=s2.pre; rw [hN]; exact zCR e5
       rcases hgd with z | z
       ·obtain ⟨vs',e7,r7⟩:=c2.obj n a _ e6 z; exact ⟨vs',.of e7,r7⟩
       ·obtain ⟨o,vs',e7,r7⟩:=c2.obj n a _ e6 z; exact ⟨vs',.inl (.inr ⟨o,e7⟩),r7⟩
      | _=>cases e2
    obtain ⟨vs',hq,r7⟩:=key;refine ⟨fun i d hd=>?_,⟨vs',hq,by rw [r7.length]; exact zWI _⟩⟩;obtain ⟨u,hu,ru⟩:=r7.get hd;refine ⟨⟨vs',u,hq,hu⟩,fun v H3 ⟨hH,hv⟩=>?_⟩;subst hH;have:=hv vs' hq;rw [hu] at this; cases this;exact ⟨fun _ _ z=>z,ru⟩
  ·cases hf
 ·cases hf
theorem zI7 (h:zW L H [.int j] vs):vs = [.int j]:=by
 unfold zW at h;obtain ⟨v,r,rfl,h1,h2⟩:=h;unfold zW at h2;unfold Rep at h1;subst h1 h2; rfl
theorem zRP {K:PySem.W.Frag} {L:List Addr} {H:Hp} {lo:Int} {n:Nat}:zVZ K (Itr lo n) L H ((List.range n).map fun (k:Nat)=>D.int (lo + k)) none:=by
 intro L' H' M' s c _;refine ⟨fun i d hd=>?_,by simp [Itr]⟩;rw [zWZ] at hd;cases q:(List.range n)[i]? with
 | none=>rw [q] at hd; cases hd
 | some k=>
  rw [q] at hd; cases hd;have hi:i < n:=by have:=(zWF.mp q).1; simpa using this
  rw [List.getElem?_range hi] at q; cases q;refine ⟨hi,fun v H'' ⟨hH,hv⟩=>?_⟩;subst hH hv;exact ⟨fun _ _ z=>z,zAj⟩
theorem zAP {tg a:Expr} {g:FA} (hg:Gl X "range") (hm:X.mg "range" = none) (ha:QA X [a] g) (hl:zRb g 1) (hs:starEach [a] X.env = [(false,eval a X.env)]:=by rfl):QI X tg (.Call (.Name "range" p) [a] [] pos) (zAY g) :=
 .mk <| PI.imp (zPD hg hm ha.un hs) fun τ H R zz=>by
  obtain ⟨L,σ,M,xs,gd,M',c,rs,hf,q⟩:=zz;unfold zAY at hf;split at hf
  ·rename_i j M1 e1;split at hf
   ·rename_i hb;cases hf;refine ⟨L,σ,M,_,_,c,rs,e1,fun L1 H1 vs s1 c1 r1=>⟨j,zI7 r1,hb.1,hb.2,q L1 H1 _ s1 c1 ?_⟩⟩;have z:=zRP (K:=X.K) (L:=L1) (H:=H1) (lo:=0) (n:=j.toNat);simpa using z
   ·cases hf
  ·rename_i e1;have:=hl _ _ _ _ e1;simp at this
  ·cases hf
end
section
variable {X:Cx} {a b c e:Expr} {es rest:List Expr} {pos p apos cpos:Pos}
def zCl (f g:FT):FT:=fun σ M=>match f σ M with
 | some (true,M1)=>g σ M1
 | r=>r
def zFk (f g:FT):FT:=fun σ M=>match f σ M with
 | some (false,M1)=>g σ M1
 | r=>r
def zDU (f:FT):FT:=fun σ M=>match f σ M with
 | some (k,M1)=>some (!k,M1)
 | none=>none
structure QW (X:Cx) (e:Expr) (f:FT):Prop where
 un:PW X e (trT X.K f)
theorem PW.imp (h:PW X e t) (hi:∀ τ H Q,t' τ H Q -> t τ H Q):PW X e t':=fun wh zB s σ H Q I q=>h wh zB s σ H Q I (hi _ _ _ q)
theorem zHU (h:QT X a f):QW X (.BoolOp .And [a] pos) f:=.mk (zRk h.un)
theorem zFr (h:QT X a f):QW X (.BoolOp .Or [a] pos) f:=.mk (zTu h.un)
theorem zJ0 (h1:QT X a f) (h2:QW X (.BoolOp .And (b :: rest) pos) g):QW X (.BoolOp .And (a :: b :: rest) pos) (zCl f g):=.mk <| PW.imp (zTz h1.un h2.un) fun τ H Q zz=>by
 obtain ⟨L,σ,M,d,M',c,rs,hf,q⟩:=zz;unfold zCl at hf;split at hf
 ·rename_i M1 e1;exact ⟨L,σ,M,_,_,c,rs,e1,fun L1 H1 s1 c1=>zHN ⟨L1,σ,M1,_,_,c1,rs.stp s1,hf,fun L2 H2 s2 c2=>q L2 H2 (s1.trans s2) c2⟩⟩
 ·rename_i hne;cases d with
  | true=>exact absurd hf (hne M')
  | false=>exact ⟨L,σ,M,_,_,c,rs,hf,fun L1 H1 s1 c1=>zHH (q L1 H1 s1 c1)⟩
theorem zGG (h1:QT X a f) (h2:QW X (.BoolOp .Or (b :: rest) pos) g):QW X (.BoolOp .Or (a :: b :: rest) pos) (zFk f g):=.mk <| PW.imp (zU7 h1.un h2.un) fun τ H Q zz=>by
 obtain ⟨L,σ,M,d,M',c,rs,hf,q⟩:=zz;unfold zFk at hf;split at hf
 ·rename_i M1 e1;exact ⟨L,σ,M,_,_,c,rs,e1,fun L1 H1 s1 c1=>zHH ⟨L1,σ,M1,_,_,c1,rs.stp s1,hf,fun L2 H2 s2 c2=>q L2 H2 (s1.trans s2) c2⟩⟩
 ·rename_i hne;cases d with
  | false=>exact absurd hf (hne M')
  | true=>exact ⟨L,σ,M,_,_,c,rs,hf,fun L1 H1 s1 c1=>zHN (q L1 H1 s1 c1)⟩
theorem zH2 (h:QW X e f):QT X e f:=.mk (PW.pt h.un)
theorem zDh (h:QT X a f):QT X (.UnaryOp .Not a pos) (zDU f):=.mk <| PT.imp (zUb h.un) fun τ H Q zz=>by
 obtain ⟨L,σ,M,d,M',c,rs,hf,q⟩:=zz;unfold zDU at hf;split at hf
 ·rename_i k M1 e1;cases hf;exact ⟨L,σ,M,_,_,c,rs,e1,fun L1 H1 s1 c1=>q L1 H1 s1 c1⟩
 ·cases hf
def zLc (f g:FE):FE:=fun σ M=>match f σ M with
 | some (.dat (.bl true),M1)=>g σ M1
 | some (.dat (.bl false),M1)=>some (.dat (.bl false),M1)
 | _=>none
def zPo (f:FE):FE:=fun σ M=>match f σ M with
 | some (.dat (.bl k),M1)=>some (.dat (.bl (!k)),M1)
 | _=>none
theorem zBy (h:zl H0 L H (.dat (.bl k)) v):v = .bl k:=by unfold zl Rep at h; exact h
theorem zMs {op} (h:QE X a f):QE X (.BoolOp op [a] pos) f:=.mk (zUB h.un)
theorem zMg (h1:QE X a f) (h2:QE X (.BoolOp .And (b :: rest) pos) g):QE X (.BoolOp .And (a :: b :: rest) pos) (zLc f g):=.mk <| PE.imp (zUH h1.un h2.un) fun τ H Q zz=>by
 obtain ⟨L,σ,M,d,M',c,rs,hf,q⟩:=zz;unfold zLc at hf;split at hf
 ·rename_i M1 e1;exact ⟨L,σ,M,_,_,c,rs,e1,fun L1 H1 v s1 c1 r1=>⟨true,zBy r1,zHN ⟨L1,σ,M1,_,_,c1,rs.stp s1,hf,fun L2 H2 w s2 c2 r2=>q L2 H2 w (s1.trans s2) c2 (r2.back s1 c s2.sub)⟩⟩⟩
 ·rename_i M1 e1;cases hf;exact ⟨L,σ,M,_,_,c,rs,e1,fun L1 H1 v s1 c1 r1=>⟨false,zBy r1,zHH (q L1 H1 _ s1 c1 (by have:=zBy r1; subst this; exact r1))⟩⟩
 ·cases hf
theorem zTh (h:QE X a f):QE X (.UnaryOp .Not a pos) (zPo f):=.mk <| PE.imp (zUR h.un) fun τ H Q zz=>by
 obtain ⟨L,σ,M,d,M',c,rs,hf,q⟩:=zz;unfold zPo at hf;split at hf
 ·rename_i k M1 e1;cases hf;exact ⟨L,σ,M,_,_,c,rs,e1,fun L1 H1 v s1 c1 r1=>⟨k,zBy r1,q L1 H1 _ s1 c1 (by unfold zl Rep; rfl)⟩⟩
 ·cases hf
def vIf (t:FT) (f g:FE):FE:=fun σ M=>match t σ M with
 | some (true,M1)=>f σ M1
 | some (false,M1)=>g σ M1
 | none=>none
theorem zSp (hc:QT X c t) (h1:QE X a f) (h2:QE X b g):QE X (.IfExp c a b pos) (vIf t f g):=.mk <| PE.imp (zRT hc.un h1.un h2.un) fun τ H Q zz=>by
 obtain ⟨L,σ,M,d,M',c,rs,hf,q⟩:=zz;unfold vIf at hf;split at hf
 ·rename_i M1 e1;exact ⟨L,σ,M,_,_,c,rs,e1,fun L1 H1 s1 c1=>zHN ⟨L1,σ,M1,_,_,c1,rs.stp s1,hf,fun L2 H2 w s2 c2 r2=>q L2 H2 w (s1.trans s2) c2 (r2.back s1 c s2.sub)⟩⟩
 ·rename_i M1 e1;exact ⟨L,σ,M,_,_,c,rs,e1,fun L1 H1 s1 c1=>zHH ⟨L1,σ,M1,_,_,c1,rs.stp s1,hf,fun L2 H2 w s2 c2 r2=>q L2 H2 w (s1.trans s2) c2 (r2.back s1 c s2.sub)⟩⟩
 ·cases hf
abbrev KM:=EV -> List D -> Mem -> Option (D × Mem)
def fM (k:KM) (f:FE) (g:FA):FE:=fun σ M=>match f σ M with
 | some (x,M1)=>match zBh M1 x with
  | some _=>match g σ M1 with
   | some (ds,M2)=>match k x ds M2 with
    | some (d,M3)=>some (.dat d,M3)
    | none=>none
   | none=>none
  | none=>none
 | none=>none
def zPN (K:PySem.W.Frag) (r:V -> List V -> Hp -> VK -> Prop) (k:KM):Prop:=∀ {L:List Addr} {M M':Mem} {H H0:Hp} {x:EV} {ds:List D} {d:D} {v:V} {vs:List V} {Q:VK},Cor K L M H -> zl H0 L H x v -> zW L H ds vs -> k x ds M = some (d,M') ->
 (∀ L' H' u,Stp L H L' H' -> Cor K L' M' H' -> Rep L' H' d u -> Q u H') -> r v vs H Q
theorem zKU {K:PySem.W.Frag} {r:V -> List V -> Hp -> VK -> Prop} {k:KM} {f:FE} {g:FA} (hk:zPN K r k) {τ:Sv} {H:Hp} {Q:VK} (h:trE K (fM k f g) τ H Q):tBM K "list" r (trE K f) (trA K g) τ H Q:=by
 obtain ⟨L,σ,M,d,M',c,rs,hf,q⟩:=h;unfold fM at hf;split at hf
 ·rename_i x M1 e1;split at hf
  ·rename_i xs e2;split at hf
   ·rename_i ds M2 e3;split at hf
    ·rename_i d' M3 e4;cases hf;refine ⟨L,σ,M,_,_,c,rs,e1,fun L1 H1 v s1 c1 r1=>?_⟩;obtain ⟨a,vs,rfl,e5,r5⟩:=zA8 c1 r1 e2;refine ⟨.inl ⟨rfl,vs,.inl e5⟩,L1,σ,M1,_,_,c1,rs.stp s1,e3,fun L2 H2 ws s2 c2 r2=>?_⟩;exact hk c2 (r1.stp s2) r2 e4 fun L3 H3 u s3 c3 r3=>q L3 H3 u ((s1.trans s2).trans s3) c3 r3
    ·cases hf
   ·cases hf
  ·cases hf
 ·cases hf
def zA0:KM:=fun x ds M=>match x,ds with
 | .dat (.ref n),[d]=>match M[n]? with
  | some (.lst xs)=>if xs.length < sizeLine then some (.non,M.set n (.lst (xs ++ [d]))) else none
  | _=>none
 | _,_=>none
theorem zW.one (h:zW L H [d] vs):∃ v,vs = [v] /\ Rep L H d v:=by
 unfold zW at h;obtain ⟨v,r,rfl,h1,h2⟩:=h;unfold zW at h2;subst h2;exact ⟨v,rfl,h1⟩
theorem zM0 {K:PySem.W.Frag}:zPN K zNX zA0:=by
 intro L M M' H H0 x ds d v vs Q c rx rd hk q;unfold zA0 at hk;split at hk
 ·rename_i n d';split at hk
  ·rename_i xs e1;split at hk
   ·rename_i hz;cases hk;unfold zl Rep at rx;obtain ⟨a,rfl,e2⟩:=rx;obtain ⟨ws,e3,r3⟩:=c.obj n a _ e2 e1;obtain ⟨w,rfl,r4⟩:=rd.one;obtain ⟨c5,s5⟩:=c.write e2 e1 (r3.app (.cons r4 .nil));exact ⟨a,ws,w,rfl,rfl,e3,by rw [r3.length]; exact hz,q L _ _ s5 c5 (by unfold Rep; rfl)⟩
   ·cases hk
  ·cases hk
 ·cases hk
theorem zDz (h:QE X a f) (hg:QA X [e] g) (hbase:attributeBase a "append" X.env (eval a X.env) = eval a X.env:=by rfl)
  (hfew:((backTo cpos (starEach [e] X.env)).all (fun x=> !x.1) && (backToKw cpos (keywordEach [] X.env)).all (fun x=>x.1.isSome) && decide ([e].length + ([]:List Keyword).length + (if ([]:List Keyword).isEmpty then 0 else 1) < 30)) = true:=by rfl)
  (hline:(apos.endLine == cpos.line) = true:=by rfl) (hs:starEach [e] X.env = (false,eval e X.env) :: starEach [] X.env:=by rfl) (hplain:(backTo cpos (starEach [] X.env)).any (·.1) = false:=by rfl) :
  QE X (.Call (.Attribute a "append" apos) [e] [] cpos) (fM zA0 f g) :=
 .mk <| PE.imp (zNP PySem.F.plainAttrs_list PySem.F.slot_list_append PySem.F.type_list_append zOb h.un hg.un hbase hfew hline hs hplain) fun _ _ _ z=>zKU zM0 z
def zLa:KM:=fun x ds M=>match x,ds with
 | .dat (.ref n),[.int i]=>match M[n]? with
  | some (.lst xs)=>match ixN xs.length i with
   | some k=>match xs[k]? with
    | some d=>if -(2 ^ 63) <= i /\ i < 2 ^ 63 then some (d,M.set n (.lst (xs.eraseIdx k))) else none
    | none=>none
   | none=>none
  | _=>none
 | _,_=>none
theorem zSo {K:PySem.W.Frag}:zPN K zPS zLa:=by
 intro L M M' H H0 x ds d v vs Q c rx rd hk q;unfold zLa at hk;split at hk
 ·rename_i n i;split at hk
  ·rename_i xs e1;split at hk
   ·rename_i k e2;split at hk
    ·rename_i d' e3;split at hk
     ·rename_i hb;cases hk;unfold zl Rep at rx;obtain ⟨a,rfl,e4⟩:=rx;obtain ⟨ws,e5,r5⟩:=c.obj n a _ e4 e1;obtain ⟨u,e6,r6⟩:=r5.get e3;obtain ⟨c5,s5⟩:=c.write e4 e1 (r5.eraseIdx k);exact ⟨a,ws,i,k,u,rfl,zI7 rd,e5,hb.1,hb.2,by rw [r5.length]; exact (zKJ e2).1,e6,q L _ _ s5 c5 (r6.stp s5)⟩
     ·cases hk
    ·cases hk
   ·cases hk
  ·cases hk
 ·cases hk
theorem zVi (h:QE X a f) (hg:QA X [e] g) (hbase:attributeBase a "pop" X.env (eval a X.env) = eval a X.env:=by rfl)
  (hfew:((backTo cpos (starEach [e] X.env)).all (fun x=> !x.1) && (backToKw cpos (keywordEach [] X.env)).all (fun x=>x.1.isSome) && decide ([e].length + ([]:List Keyword).length + (if ([]:List Keyword).isEmpty then 0 else 1) < 30)) = true:=by rfl)
  (hline:(apos.endLine == cpos.line) = true:=by rfl) (hs:starEach [e] X.env = (false,eval e X.env) :: starEach [] X.env:=by rfl) (hplain:(backTo cpos (starEach [] X.env)).any (·.1) = false:=by rfl) :
  QE X (.Call (.Attribute a "pop" apos) [e] [] cpos) (fM zLa f g) :=
 .mk <| PE.imp (zNP PySem.F.plainAttrs_list PySem.F.slot_list_pop PySem.F.type_list_pop zQ8 h.un hg.un hbase hfew hline hs hplain) fun _ _ _ z=>zKU zSo z
def zKz (x:EV) (i:D) (d:D) (M:Mem):Option Mem:=match x,i with
 | .dat (.ref n),.int i=>match M[n]? with
  | some (.lst xs)=>match ixN xs.length i with
   | some j=>some (M.set n (.lst (xs.set j d)))
   | none=>none
  | _=>none
 | _,_=>none
def zMx (fv fo fi:FE):FS:=fun σ M=>match toD fv σ M with
 | some (d,M1)=>match fo σ M1 with
  | some (x,M2)=>match toD fi σ M2 with
   | some (i,M3)=>match zKz x i d M3 with
    | some M4=>some (.nx,σ,M4)
    | none=>none
   | none=>none
  | none=>none
 | none=>none
theorem zIU (hv:QE X v fv) (ho:QE X o fo) (hi:QE X i fi)
  (ha:∀ v,assign (.Subscript o i p) X.env v = (do
   let ov <- holding [v] (eval o X.env);let iv <- holding [v,ov] (eval i X.env);standAt p;holding [v,ov,iv] (setItem ov iv v);release [v,ov,iv] []):=by intro _; rfl)
  (hs:swapsWithSole [.Subscript o i p] v pos.line X.env = pure false:=by rfl) (hw:swappedStores [.Subscript o i p] v X.env = pure none:=by rfl) (h1:(assignEach [.Subscript o i p] X.env).map (·.2) = [assign (.Subscript o i p) X.env]:=by rfl) :
  QS X (.Assign [.Subscript o i p] v pos) (zMx fv fo fi):=.mk <| PS.imp (zPl (zI hv).un (zUD ho.un (zI hi).un zQN ha) hs hw h1) fun E τ H zz=>by
 obtain ⟨L,σ,M,out,σ',M',c,rs,hf,q⟩:=zz;unfold zMx at hf;split at hf
 ·rename_i d M1 e1;split at hf
  ·rename_i x M2 e2;split at hf
   ·rename_i j M3 e3;split at hf
    ·rename_i M4 e4;cases hf;refine ⟨L,σ,M,_,_,c,rs,e1,fun L1 H1 u s1 c1 r1=>⟨L1,σ,M1,_,_,c1,rs.stp s1,e2,fun L2 H2 w s2 c2 r2=>⟨L2,σ,M2,_,_,c2,rs.stp (s1.trans s2),e3,fun L3 H3 z s3 c3 r3=>?_⟩⟩⟩;have st:=(s1.trans s2).trans s3;unfold zKz at e4;split at e4
     ·rename_i n k;split at e4
      ·rename_i xs e5;split at e4
       ·rename_i m e6;cases e4;have r2':=r2.stp s3;unfold zl Rep at r2';obtain ⟨a,rfl,e7⟩:=r2';obtain ⟨ws,e8,r8⟩:=c3.obj n a _ e7 e5;obtain ⟨c9,s9⟩:=c3.write e7 e5 (zW.set ((r1.stp s2).stp s3) m r8);exact ⟨a,ws,k,m,rfl,by unfold Rep at r3; exact r3,e8,by rw [r8.length]; exact e6,q L3 _ (st.trans s9) c9 τ ((rs.stp st).stp s9)⟩
       ·cases e4
      ·cases e4
     ·cases e4
    ·cases hf
   ·cases hf
  ·cases hf
 ·cases hf
def zI1:D -> Option V
 | .non=>some .non
 | .bl k=>some (.bl k)
 | .int i=>some (.int i)
 | .str x=>some (.str x)
 | _=>none
theorem zF7 (h:Rep L H d v) (e:zI1 d = some u):v = u:=by
 cases d with
 | non=>cases e; unfold Rep at h; exact h
 | bl _=>cases e; unfold Rep at h; exact h
 | int _=>cases e; unfold Rep at h; exact h
 | str _=>cases e; unfold Rep at h; exact h
 | tup _=>cases e
 | ref _=>cases e
def zLf (neg:Bool):K2:=fun x y M=>match x,y with
 | .dat d,.dat d'=>match zI1 d,zI1 d' with
  | some u,some w=>if zRv u w then some (.dat (.bl (if neg then !decide (u = w) else decide (u = w))),M) else none
  | _,_=>none
 | _,_=>none
theorem zJf (h:zLf neg x y M = some (r,M')):∃ d d' u w,x = .dat d /\ y = .dat d' /\ zI1 d = some u /\ zI1 d' = some w /\ zRv u w = true /\ r = .dat (.bl (if neg then !decide (u = w) else decide (u = w))) /\ M' = M:=by
 unfold zLf at h;split at h
 ·rename_i d d';split at h
  ·rename_i u w e1 e2;split at h
   ·rename_i hs;cases h;exact ⟨d,d',u,w,rfl,rfl,e1,e2,hs,rfl,rfl⟩
   ·cases h
  ·cases h
 ·cases h
theorem zNT {K:PySem.W.Frag}:zCc K rEq (zLf false):=by
 intro L M M' H H0 x y d v w Q c rx ry hk q;obtain ⟨d1,d2,u,z,rfl,rfl,e1,e2,hs,rfl,rfl⟩:=zJf hk;have a1:=zF7 rx e1;have a2:=zF7 ry e2;subst a1 a2;exact ⟨hs,q L H _ (.refl L H) c (zBQ (L:=L) (H:=H))⟩
theorem zSg {K:PySem.W.Frag}:zCc K rNe (zLf true):=by
 intro L M M' H H0 x y d v w Q c rx ry hk q;obtain ⟨d1,d2,u,z,rfl,rfl,e1,e2,hs,rfl,rfl⟩:=zJf hk;have a1:=zF7 rx e1;have a2:=zF7 ry e2;subst a1 a2;exact ⟨hs,q L H _ (.refl L H) c (zBQ (L:=L) (H:=H))⟩
def zTW (neg:Bool) (K:PySem.W.Frag):R2:=fun x y H Q=>∃ p q xs,x = .ref p /\ y = .ref q /\ SqL K H p xs /\ SqL K H q [] /\ Q (.bl (if neg then !xs.isEmpty else xs.isEmpty)) H
theorem zJ7 (r:zm [] its):its = []:=by cases r; rfl
theorem zKy (hu:X.A.units < cLine):OpR X (compareOp .Eq) (zTW false X.K):=by
 intro zB s σ H x y v u Q I rx ry h;obtain ⟨p,q,xs,rfl,rfl,h1,h2,hq⟩:=h;cases rx;cases ry;obtain ⟨its,rv,pl,_⟩:=I.list h1;obtain ⟨its2,rv2,pl2,_⟩:=I.list h2;cases zJ7 rv2;cases rv with
 | nil=>exact SeqAt.eq_listAt (e:=fun _=>true) pl.isList pl2.isList rfl hu (fun j h1=>by simp at h1) ⟨.bl true,H,I,rfl,hq⟩
 | cons _ _=>exact SeqAt.eq_list_lengthsAt pl.isList pl2.isList (by simp) hu ⟨.bl false,H,I,rfl,hq⟩
theorem zPx (hu:X.A.units < cLine):OpR X (compareOp .NotEq) (zTW true X.K):=by
 intro zB s σ H x y v u Q I rx ry h;obtain ⟨p,q,xs,rfl,rfl,h1,h2,hq⟩:=h;cases rx;cases ry;obtain ⟨its,rv,pl,_⟩:=I.list h1;obtain ⟨its2,rv2,pl2,_⟩:=I.list h2;cases zJ7 rv2;cases rv with
 | nil=>exact SeqAt.RcNeAt.lists (e:=fun _=>true) pl.isList pl2.isList rfl hu (fun j h1=>by simp at h1) _ _ _ _ ⟨.bl false,H,I,rfl,hq⟩
 | cons _ _=>exact SeqAt.RcNeAt.lists_lengths pl.isList pl2.isList (by simp) hu _ _ _ _ ⟨.bl true,H,I,rfl,hq⟩
def zO3 (neg:Bool):K2:=fun x y M=>match zBh M x,zBh M y with
 | some xs,some []=>some (.dat (.bl (if neg then !xs.isEmpty else xs.isEmpty)),M)
 | _,_=>none
theorem zKV {K:PySem.W.Frag} {neg:Bool}:zCc K (zTW neg K) (zO3 neg):=by
 intro L M M' H H0 x y d v w Q c rx ry hk q;unfold zO3 at hk;split at hk
 ·rename_i xs e1 e2;cases hk;obtain ⟨p1,vs,rfl,h1,r1⟩:=zA8 c rx e1;obtain ⟨p2,ws,rfl,h2,r2⟩:=zA8 c ry e2;unfold zW at r2;subst r2;refine ⟨p1,p2,vs,rfl,rfl,.inl h1,.inl h2,q L H _ (.refl L H) c ?_⟩;have:vs.isEmpty = xs.isEmpty:=by
   have:=r1.length;cases vs <;> cases xs <;> simp_all
  rw [this];exact (zBQ (L:=L) (H:=H))
 ·cases hk
def kOr (k1 k2:K2):K2:=fun x y M=>match k1 x y M with
 | some r=>some r
 | none=>k2 x y M
theorem zJt {K:PySem.W.Frag} {r1 r2:R2} {k1 k2:K2} (h1:zCc K r1 k1) (h2:zCc K r2 k2):zCc K (fun x y H Q=>r1 x y H Q \/ r2 x y H Q) (kOr k1 k2):=by
 intro L M M' H H0 x y d v w Q c rx ry hk q;unfold kOr at hk;split at hk
 ·rename_i r e1;cases hk;exact .inl (h1 c rx ry e1 q)
 ·exact .inr (h2 c rx ry hk q)
abbrev kEq:K2:=kOr (zLf false) (zO3 false)
abbrev kNe:K2:=kOr (zLf true) (zO3 true)
variable {f g:FE}
theorem zUd (hu:X.A.units < cLine) (h1:QE X a f) (h2:QE X b g):QE X (.Compare a [.Eq] [b] pos) (fOp kEq f g):=zQp (zJt zNT zKV) (zTP.or (zKy hu)) h1 h2 (zC4 _)
theorem zC6 (hu:X.A.units < cLine) (h1:QE X a f) (h2:QE X b g):QT X (.Compare a [.Eq] [b] pos) (tst (fOp kEq f g)):=zEy (zJt zNT zKV) (zTP.or (zKy hu)) h1 h2 (zC4 _)
theorem zJY (hu:X.A.units < cLine) (h1:QE X a f) (h2:QE X b g):QT X (.Compare a [.NotEq] [b] pos) (tst (fOp kNe f g)):=zEy (zJt zSg zKV) (zVb.or (zPx hu)) h1 h2 (zC4 _)
def zOa:KB:=fun xs M=>match xs with
 | [.dat (.int i)]=>some (.dat (.int (if i < 0 then -i else i)),M)
 | _=>none
theorem zSP {K:PySem.W.Frag}:zGi K (fun xs H Q=>∃ i,xs = [.int i] /\ Q (.int (if i < 0 then -i else i)) H) zOa:=by
 intro L M M' H H0 xs d vs Q c r hk q;unfold zOa at hk;split at hk
 ·rename_i i;cases hk;obtain ⟨v,rfl,r1⟩:=r.one;have:v = .int i:=by unfold zl Rep at r1; exact r1
  subst this;exact ⟨i,rfl,q L H _ (.refl L H) c (zAj (L:=L) (H:=H))⟩
 ·cases hk
def zMO:KB:=fun xs M=>match xs with
 | [.dat (.int i)]=>some (.dat (.int i),M)
 | [.dat (.bl k)]=>some (.dat (.int (if k then 1 else 0)),M)
 | _=>none
theorem zSN {K:PySem.W.Frag}:zGi K (fun xs H Q=>(∃ i,xs = [.int i] /\ Q (.int i) H) \/ ∃ k,xs = [.bl k] /\ Q (.int (if k then 1 else 0)) H) zMO:=by
 intro L M M' H H0 xs d vs Q c r hk q;unfold zMO at hk;split at hk
 ·rename_i i;cases hk;obtain ⟨v,rfl,r1⟩:=r.one;have:v = .int i:=by unfold zl Rep at r1; exact r1
  subst this;exact .inl ⟨i,rfl,q L H _ (.refl L H) c (zAj (L:=L) (H:=H))⟩
 ·rename_i k;cases hk;obtain ⟨v,rfl,r1⟩:=r.one;have:=zBy r1;subst this;exact .inr ⟨k,rfl,q L H _ (.refl L H) c (zAj (L:=L) (H:=H))⟩
 ·cases hk
end
section
variable {X:Cx} {a b c e:Expr} {es rest:List Expr} {pos p apos cpos:Pos}
theorem zQH {prog:Program} {w:World} {A:Around} {E:Value -> Shared -> Prop} {s:Shared} {t b:Addr} {ws:List Value} {Q:Value -> Shared -> Prop} (ht:IsTup s.heap t #[]) (hb:IsTup s.heap b ws.toArray) (h1:Q (.ref b) s) :
  wpAny (model prog w) A (binaryOp .Add (.ref t) (.ref b)) Q E s:=by
 obtain ⟨⟨cls,dd,data,sl⟩,ho,hc,n,hd⟩:=id ht;obtain ⟨⟨cls2,dd2,data2,sl2⟩,ho2,hc2,n2,hd2⟩:=id hb;simp only at hc hd hc2 hd2;subst hc hd hc2 hd2
 exact concat_meets ⟨_,ho,rfl⟩ ⟨_,ho2,rfl⟩ noFill_tuple_add seq_tuple_add PySem.F.slot_tuple_add PySem.F.entry_tuple_add (PySem.F.args_tuple_add_2 _ _)
   (tuple_addW0 t b #[] ws.toArray n n2 dd dd2 sl sl2 (by simp)) ⟨ho,ho2,h1⟩
def zQh (K:PySem.W.Frag):R2:=fun x y H Q=>∃ a b ys,x = .ref a /\ y = .ref b /\ SqT K H a [] /\ SqT K H b ys /\ Q (.ref b) H
theorem zPP:OpR X (binaryOp .Add) (zQh X.K):=by
 intro zB s σ H x y v u Q I rx ry h;obtain ⟨a,b,ys,rfl,rfl,ha,hb,q⟩:=h;cases rx;cases ry;obtain ⟨its,r1,p1,_⟩:=I.tuple ha;obtain ⟨its2,r2,p2,_⟩:=I.tuple hb;cases zJ7 r1;exact zQH p1 p2 ⟨.ref b,H,I,rfl,q⟩
def zK2:K2:=fun x y M=>match zCm x,zCm y with
 | some xs,some ys=>if xs.length + ys.length <= sizeLine then some (.dat (.tup (xs ++ ys)),M) else none
 | _,_=>none
theorem zQ0 {K:PySem.W.Frag}:zCc K (fun x y H Q=>zTD K x y H Q \/ zQh K x y H Q) zK2:=by
 intro L M M' H H0 x y d v w Q c rx ry hk q;unfold zK2 at hk;split at hk
 ·rename_i xs ys e1 e2;split at hk
  ·rename_i hz;cases hk;obtain ⟨p1,vs,rfl,h1,r1⟩:=zBO rx e1;obtain ⟨p2,ws,rfl,h2,r2⟩:=zBO ry e2;cases xs with
   | nil=>
    refine .inr ⟨p1,p2,ws,rfl,rfl,.of (by unfold zW at r1; subst r1; exact h1),.of h2,q L H _ (.refl L H) c ?_⟩;unfold zl Rep;exact ⟨p2,ws,rfl,h2,r2⟩
   | cons x0 xr=>
    have hv:vs ≠ []:=fun z=>by have:=r1.length; rw [z] at this; simp at this
    refine .inl ⟨p1,p2,vs,ws,rfl,rfl,.of h1,.of h2,hv,by rw [r1.length,r2.length]; exact hz,fun z=>?_,fun z pp hp=>?_⟩
    ·have:ys = []:=by
      have:=r2.length; rw [z] at this;cases ys with
      | nil=>rfl
      | cons _ _=>simp at this
     subst this;refine q L H _ (.refl L H) c ?_;unfold zl Rep;rw [zWw];exact ⟨p1,vs,rfl,h1,r1⟩
    ·exact q L _ _ (.upd hp) (c.upd hp) (Rep.newTup hp (r1.app r2))
  ·cases hk
 ·cases hk
abbrev zAl:K2:=kOr zVr zK2
variable {f g:FE}
theorem zBZ (h1:QE X a f) (h2:QE X b g):QE X (.BinOp a .Add b pos) (fOp zAl f g):=zMu (zJt (zFo fun _ _ _ _=>zAj) zQ0) (zTn.or (zSv.or zPP)) h1 h2
structure Kinds (K:PySem.W.Frag):Prop where
 k:∀ t T,t ∈ ["NoneType", "bool", "int", "str", "list", "tuple", "dict"] -> T ∈ ["int", "bool", "str", "tuple"] -> PySem.W.kitOne K (.type t) (.type T) = some (decide (t = T) || (decide (t = "bool") && decide (T = "int")))
def zSG (M:Mem):EV -> Option String
 | .dat .non=>some "NoneType"
 | .dat (.bl _)=>some "bool"
 | .dat (.int _)=>some "int"
 | .dat (.str _)=>some "str"
 | .dat (.tup _)=>some "tuple"
 | .fl _=>some "list"
 | .dat (.ref n)=>match M[n]? with
  | some (.lst _)=>some "list"
  | some (.fro _)=>some "list"
  | some (.dict _)=>some "dict"
  | some (.dicT _)=>some "dict"
  | _=>none
theorem zUk {K:PySem.W.Frag} {L:List Addr} {M:Mem} {H H0:Hp} {x:EV} {v:V} {t:String} (c:Cor K L M H) (r:zl H0 L H x v) (h:zSG M x = some t):TyOf K H v (.type t) /\ t ∈ ["NoneType", "bool", "int", "str", "list", "tuple", "dict"]:=by
 unfold zSG at h;split at h
 ·cases h; unfold zl Rep at r; subst r; exact ⟨.non,by simp⟩
 ·cases h; unfold zl Rep at r; subst r; exact ⟨.bl _,by simp⟩
 ·cases h; unfold zl Rep at r; subst r; exact ⟨.int _,by simp⟩
 ·cases h; unfold zl Rep at r; subst r; exact ⟨.str _,by simp⟩
 ·cases h; unfold zl Rep at r; obtain ⟨a,vs,rfl,e,_⟩:=r; exact ⟨.tup e,by simp⟩
 ·cases h;obtain ⟨p,vs,rfl,_,e,_⟩:=r;exact ⟨.lst e,by simp⟩
 ·unfold zl Rep at r;obtain ⟨a,rfl,e⟩:=r;split at h
  ·rename_i e1; cases h; obtain ⟨vs,q,_⟩:=c.obj _ a _ e e1; exact ⟨.lst q,by simp⟩
  ·rename_i e1; cases h; obtain ⟨o,vs,q,_⟩:=c.obj _ a _ e e1; exact ⟨.frz q,by simp⟩
  ·rename_i e1; cases h; obtain ⟨vs,q,_⟩:=c.obj _ a _ e e1; exact ⟨.dK q,by simp⟩
  ·rename_i e1; cases h; obtain ⟨vs,q,_⟩:=c.obj _ a _ e e1; exact ⟨.dT q,by simp⟩
  ·cases h
def isT (t T:String):Bool:=decide (t = T) || (decide (t = "bool") && decide (T = "int"))
def zH4 (T:String) (f:FE):FE:=fun σ M=>match f σ M with
 | some (x,M1)=>match zSG M1 x with
  | some t=>some (.dat (.bl (isT t T)),M1)
  | none=>none
 | none=>none
def zVW (K:PySem.W.Frag) (T:String):List V -> Hp -> VK -> Prop:=fun xs H Q=>∃ x t b,xs = [x,.ty T] /\ TyOf K H x t /\ PySem.W.kitOne K t (.type T) = some b /\ Q (.bl b) H
theorem zQF:zCb X (.builtin "isinstance") (zVW X.K T):=by
 intro zB s σ H xs us Q I r h;obtain ⟨x,t,b,rfl,ty,e,q⟩:=h;cases r with
 | cons r1 r2=>
  cases r2 with
  | cons r3 r4=>
   cases r4;cases r3;exact zOv I r1 ty e fun tk=>⟨.bl b,H,I.tok _,rfl,q⟩
theorem zHh (hK:Kinds X.K) (hT:T ∈ ["int", "bool", "str", "tuple"]) (hg:Gl X "isinstance") (hm:X.mg "isinstance" = none) (hg2:Gl X y) (hm2:X.mg y = none) (hv2:bootBuiltins y = some (.type T)) (hn2:y ≠ "__name__") (hd2:(y == ("__debug__" : Str)) = false) (h:QE X e f)
  (he:starEach (e :: [.Name y p2]) X.env = (false,eval e X.env) :: starEach [.Name y p2] X.env:=by rfl) (he2:starEach [.Name y p2] X.env = (false,eval (.Name y p2) X.env) :: starEach [] X.env:=by rfl) (hpl:(backTo pos (starEach [.Name y p2] X.env)).any (·.1) = false:=by rfl) :
  QE X (.Call (.Name "isinstance" p1) [e,.Name y p2] [] pos) (zH4 T f) :=
 .mk <| PE.imp (zLY (r:=zVW X.K T) zQF hg hm (by rfl) (zFL h.un (zFL (zSf (v:=.ty T) hg2 hm2 hv2 rfl hn2 hd2) zIE he2) he) (by decide) (by decide) he hpl) fun τ H Q zz=>by
  obtain ⟨L,σ,M,d,M',c,rs,hf,q⟩:=zz;unfold zH4 at hf;split at hf
  ·rename_i x M1 e1;split at hf
   ·rename_i t e2;cases hf;refine ⟨L,σ,M,_,_,c,rs,e1,fun L1 H1 v s1 c1 r1=>?_⟩;obtain ⟨ty,ht⟩:=zUk c1 r1 e2;exact ⟨v,_,_,rfl,ty,hK.k t T ht hT,q L1 H1 _ s1 c1 (zBQ (L:=L1) (H:=H1))⟩
   ·cases hf
  ·cases hf
theorem zW.two (h:zW L H [d,d'] vs):∃ v v',vs = [v,v'] /\ Rep L H d v /\ Rep L H d' v':=by
 unfold zW at h;obtain ⟨v,r,rfl,h1,h2⟩:=h;obtain ⟨v',rfl,h3⟩:=h2.one;exact ⟨v,v',rfl,h1,h3⟩
section
variable {fa:FAE}
theorem zC9 (hg:Gl X "len") (hm:X.mg "len" = none) (ha:QAE X [e] fa) (he:starEach [e] X.env = (false,eval e X.env) :: starEach [] X.env:=by rfl) (hpl:(backTo pos (starEach [] X.env)).any (·.1) = false:=by rfl):QE X (.Call (.Name "len" p) [e] [] pos) (fB zB1 fa) :=
 zED zSI zKQ PySem.boot_len hg hm ha (by decide) (by decide) he hpl
theorem zCS (hg:Gl X "tuple") (hm:X.mg "tuple" = none) (ha:QAE X [e] fa) (he:starEach [e] X.env = (false,eval e X.env) :: starEach [] X.env:=by rfl) (hpl:(backTo pos (starEach [] X.env)).any (·.1) = false:=by rfl):QE X (.Call (.Name "tuple" p) [e] [] pos) (fB zBR fa) :=
 zHr zO6 zIw (by rfl) hg hm ha (by decide) (by decide) he hpl
theorem zTB (hg:Gl X "abs") (hm:X.mg "abs" = none) (ha:QAE X [e] fa) (he:starEach [e] X.env = (false,eval e X.env) :: starEach [] X.env:=by rfl) (hpl:(backTo pos (starEach [] X.env)).any (·.1) = false:=by rfl):QE X (.Call (.Name "abs" p) [e] [] pos) (fB zOa fa) :=
 zED zSP zP4 (by rfl) hg hm ha (by decide) (by decide) he hpl
theorem zQT (hg:Gl X "int") (hm:X.mg "int" = none) (ha:QAE X [e] fa) (he:starEach [e] X.env = (false,eval e X.env) :: starEach [] X.env:=by rfl) (hpl:(backTo pos (starEach [] X.env)).any (·.1) = false:=by rfl):QE X (.Call (.Name "int" p) [e] [] pos) (fB zMO fa) :=
 zHr zSN zOG (by rfl) hg hm ha (by decide) (by decide) he hpl
end
end
def zMC (sc scope:Scope):Bool:=scope.names.all fun y=>
 (y.2 != .local || scope.names.lookup y.1 == some .local) && (y.2 != .cell || scope.names.lookup y.1 == some .cell) && (y.2 != .free || (sc.names.lookup y.1 == some .cell || sc.names.lookup y.1 == some .free))
def zNW (N:List Str) (scope:Scope) (own:List Nat):Bool:=(List.range N.length).all fun i=>match N[i]? with
 | some x=>decide (i ∈ own) || (scope.names.lookup x == none) || (scope.names.lookup x == some .free)
 | none=>true
theorem zi (hk:scope.kind = .function) (hs:X.env.scope = sc) (hN:X.N = N) (h1:zMC sc scope = true) (h2:zNW N scope own = true):CompIn X scope own:=by
 unfold zMC at h1;rw [zWn] at h1;refine ⟨⟨hk,fun y hy e=>?_,fun y hy e=>?_,fun y hy e=>?_⟩,fun i x e=>?_⟩
 ·have:=h1 y hy;simp [e] at this;exact this
 ·have:=h1 y hy;simp [e] at this;exact this
 ·have:=h1 y hy;simp [e] at this;show X.env.scope.names.lookup y.1 = _ \/ X.env.scope.names.lookup y.1 = _;rw [hs];exact this
 ·unfold zNW at h2;rw [zWn] at h2;rw [hN] at e;have hi:i < N.length:=(zWF.mp e).1;have:=h2 i (by simpa using hi);rw [e] at this;simp only [Bool.or_eq_true,zXP,beq_iff_eq,or_assoc] at this;exact this
def zKE (K:PySem.W.Frag):Bool:=K.all fun p=>match p.2.cls with
 | .type n=>n != "list"
 | _=>true
theorem zLo:∀ {K:PySem.W.Frag},K.lookup a = some o -> (a,o) ∈ K
 | [],h=>by cases h
 | (b,u) :: r,h=>by
  have h':List.lookup a ((b,u) :: r) = some o:=h;rw [zYH] at h';cases q:a == b with
  | true=>rw [q] at h'; cases h'; rw [beq_iff_eq.mp q]; exact zWQ
  | false=>rw [q] at h'; exact zWP _ (zLo h')
theorem zO2 {K:PySem.W.Frag} (h:zKE K = true) {o:Obj} (e:K.lookup a = some o) (hc:o.cls = .type "list"):False:=by
 unfold zKE at h;rw [zWn] at h;have:=h (a,o) (zLo e);simp [hc] at this
theorem zI8:∀ (ns:List Int),zW L H (ns.map D.int) (ns.map V.int)
 | []=> .nil
 | n :: r=> .cons (by unfold Rep; rfl) (zI8 r)
theorem zOy {K:PySem.W.Frag} {m:FF} {H:Hp} {a:Addr} {ns:List Int} {E:XK} (hL:zKE K = true) (hO:zSt H) (hS:SqL K H a (ns.map V.int)) (h:∃ M',m [.ref 0] [.fro (ns.map D.int)] = some (.bl true,M')) :
  spF K 1 m [.ref a] H (fun v _=>v = .bl true) E:=by
 obtain ⟨M',e⟩:=h;have hf:∃ o,H a = some (.frz o (.lst (ns.map V.int))):=by
  rcases hS with (h1 | h1) | ⟨o,its,n,h1,h2,_⟩
  ·rcases hO a with z | ⟨o,xs,z⟩
   ·rw [h1] at z; cases z
   ·rw [h1] at z; cases z
  ·exact h1
  ·exact (zO2 hL h1 h2).elim
 obtain ⟨o,hf⟩:=hf;refine ⟨[a],[.ref 0],[.fro (ns.map D.int)],_,_,⟨rfl,by simp,fun n b m e1 e2=>?_⟩,.cons ?_ .nil,rfl,e,fun L' H' v s c r=>?_⟩
 ·cases n with
  | zero=>simp at e1 e2; subst e1; subst e2; exact ⟨o,_,hf,zI8 ns⟩
  | succ n=>simp at e1
 ·unfold Rep; exact ⟨a,rfl,rfl⟩
 ·unfold Rep at r; exact r
def Ok {α:Type} (x:Option (α × Mem)) (P:α -> Mem -> Prop):Prop:=∃ a M,x = some (a,M) /\ P a M
def OkS (x:Option (Out × Sd × Mem)) (P:Out -> Sd -> Mem -> Prop):Prop:=∃ o σ M,x = some (o,σ,M) /\ P o σ M
theorem Ok.mono {α:Type} {x:Option (α × Mem)} {P Q:α -> Mem -> Prop} (h:Ok x P) (hq:∀ a M,P a M -> Q a M):Ok x Q:=let ⟨a,M,e,p⟩:=h; ⟨a,M,e,hq a M p⟩
theorem OkS.mono {x:Option (Out × Sd × Mem)} {P Q:Out -> Sd -> Mem -> Prop} (h:OkS x P) (hq:∀ o σ M,P o σ M -> Q o σ M):OkS x Q:=let ⟨a,σ,M,e,p⟩:=h; ⟨a,σ,M,e,hq a σ M p⟩
theorem zAG {α:Type} {a:α} {M:Mem} {P:α -> Mem -> Prop}:Ok (some (a,M)) P ↔ P a M:=⟨fun ⟨_,_,e,p⟩=>by cases e; exact p,fun p=>⟨a,M,rfl,p⟩⟩
theorem zF8 {α:Type} {P:α -> Mem -> Prop}:Ok (none:Option (α × Mem)) P ↔ False:=⟨(fun ⟨_,_,e,_⟩=>(nomatch e)),fun h=>h.elim⟩
theorem zRL {o:Out} {σ:Sd} {M:Mem} {P:Out -> Sd -> Mem -> Prop}:OkS (some (o,σ,M)) P ↔ P o σ M:=⟨fun ⟨_,_,_,e,p⟩=>by cases e; exact p,fun p=>⟨o,σ,M,rfl,p⟩⟩
section
variable {σ:Sd} {M:Mem} {f g:FE} {P:EV -> Mem -> Prop}
theorem zAQ {i:Nat}:Ok (zD i σ M) P ↔ ∃ d,σ[i]? = some (some d) /\ P (.dat d) M:=by
 unfold zD;constructor
 ·rintro ⟨a,M1,e,p⟩;split at e
  ·rename_i d e1; cases e; exact ⟨d,e1,p⟩
  ·cases e
 ·rintro ⟨d,e1,p⟩;rw [e1]; exact ⟨_,_,rfl,p⟩
theorem zCj {d:D}:Ok (fC d σ M) P ↔ P (.dat d) M:=zAG
theorem zAm {k:K2}:Ok (fOp k f g σ M) P ↔ Ok (f σ M) fun x M1=>Ok (g σ M1) fun y M2=>Ok (k x y M2) P:=by
 unfold fOp;constructor
 ·rintro ⟨a,M1,e,p⟩;split at e
  ·rename_i x M2 e1;split at e
   ·rename_i y M3 e2;exact ⟨x,M2,e1,y,M3,e2,a,M1,e,p⟩
   ·cases e
  ·cases e
 ·rintro ⟨x,M2,e1,y,M3,e2,a,M1,e,p⟩;rw [e1]; dsimp only; rw [e2]; exact ⟨a,M1,e,p⟩
def zIC (P:D -> Mem -> Prop):EV -> Mem -> Prop
 | .dat d,M=>P d M
 | .fl xs,M=>P (.ref M.length) (M ++ [.lst xs])
theorem zAu {P:D -> Mem -> Prop}:Ok (toD f σ M) P ↔ Ok (f σ M) (zIC P):=by
 unfold toD;constructor
 ·rintro ⟨a,M1,e,p⟩;split at e
  ·rename_i d M2 e1; cases e; exact ⟨_,_,e1,p⟩
  ·rename_i xs M2 e1; cases e; exact ⟨_,_,e1,p⟩
  ·cases e
 ·rintro ⟨x,M2,e1,p⟩;rw [e1];cases x with
  | dat d=>exact ⟨d,M2,rfl,p⟩
  | fl xs=>exact ⟨_,_,rfl,p⟩
theorem zU {P:D -> Mem -> Prop} {d:D} {M:Mem}:zIC P (.dat d) M ↔ P d M:=Iff.rfl
theorem zGL {P:D -> Mem -> Prop} {xs:List D} {M:Mem}:zIC P (.fl xs) M ↔ P (.ref M.length) (M ++ [.lst xs]):=Iff.rfl
section
variable {P:List D -> Mem -> Prop}
theorem zB6:Ok (zQ σ M) P ↔ P [] M:=zAG
theorem zAp {f:FD} {g:FA}:Ok (zH f g σ M) P ↔ Ok (f σ M) fun d M1=>Ok (g σ M1) fun ds M2=>P (d :: ds) M2:=by
 unfold zH;constructor
 ·rintro ⟨a,M1,e,p⟩;split at e
  ·rename_i x M2 e1;split at e
   ·rename_i y M3 e2;cases e;exact ⟨x,M2,e1,y,_,e2,p⟩
   ·cases e
  ·cases e
 ·rintro ⟨x,M2,e1,y,M3,e2,p⟩;rw [e1]; dsimp only; rw [e2]; exact ⟨_,_,rfl,p⟩
end
section
variable {P:List EV -> Mem -> Prop}
theorem zF1:Ok (zv σ M) P ↔ P [] M:=zAG
theorem zE1 {f:FE} {g:FAE}:Ok (zb f g σ M) P ↔ Ok (f σ M) fun d M1=>Ok (g σ M1) fun ds M2=>P (d :: ds) M2:=by
 unfold zb;constructor
 ·rintro ⟨a,M1,e,p⟩;split at e
  ·rename_i x M2 e1;split at e
   ·rename_i y M3 e2;cases e;exact ⟨x,M2,e1,y,_,e2,p⟩
   ·cases e
  ·cases e
 ·rintro ⟨x,M2,e1,y,M3,e2,p⟩;rw [e1]; dsimp only; rw [e2]; exact ⟨_,_,rfl,p⟩
end
theorem zT9 {a:FA}:Ok (zBd a σ M) P ↔ Ok (a σ M) fun ds M1=>ds.length <= sizeLine /\ P (.dat (.tup ds)) M1:=by
 unfold zBd;constructor
 ·rintro ⟨x,M1,e,p⟩;split at e
  ·rename_i ds M2 e1;split at e
   ·rename_i hz; cases e; exact ⟨ds,_,e1,hz,p⟩
   ·cases e
  ·cases e
 ·rintro ⟨ds,M1,e1,hz,p⟩;rw [e1]; dsimp only; rw [zWR hz]; exact ⟨_,_,rfl,p⟩
theorem zKC {a:FA}:Ok (zBN a σ M) P ↔ Ok (a σ M) fun ds M1=>ds.length <= sizeLine /\ P (.fl ds) M1:=by
 unfold zBN;constructor
 ·rintro ⟨x,M1,e,p⟩;split at e
  ·rename_i ds M2 e1;split at e
   ·rename_i hz; cases e; exact ⟨ds,_,e1,hz,p⟩
   ·cases e
  ·cases e
 ·rintro ⟨ds,M1,e1,hz,p⟩;rw [e1]; dsimp only; rw [zWR hz]; exact ⟨_,_,rfl,p⟩
theorem zP8 {k:KB} {a:FAE}:Ok (fB k a σ M) P ↔ Ok (a σ M) fun xs M1=>Ok (k xs M1) P:=by
 unfold fB;constructor
 ·rintro ⟨x,M1,e,p⟩;split at e
  ·rename_i ds M2 e1; exact ⟨ds,_,e1,x,M1,e,p⟩
  ·cases e
 ·rintro ⟨ds,M1,e1,p⟩;rw [e1]; exact p
theorem zDR {m:FF} {a:FA}:Ok (za m a σ M) P ↔ Ok (a σ M) fun ds M1=>Ok (m ds M1) fun d M2=>P (.dat d) M2:=by
 unfold za;constructor
 ·rintro ⟨x,M1,e,p⟩;split at e
  ·rename_i ds M2 e1;split at e
   ·rename_i d M3 e2; cases e; exact ⟨ds,_,e1,d,_,e2,p⟩
   ·cases e
  ·cases e
 ·rintro ⟨ds,M1,e1,d,M2,e2,p⟩;rw [e1]; dsimp only; rw [e2]; exact ⟨_,_,rfl,p⟩
theorem zKc {k:KM} {a:FA}:Ok (fM k f a σ M) P ↔ Ok (f σ M) fun x M1=>(∃ xs,zBh M1 x = some xs) /\ Ok (a σ M1) fun ds M2=>Ok (k x ds M2) fun d M3=>P (.dat d) M3:=by
 unfold fM;constructor
 ·rintro ⟨x,M1,e,p⟩;split at e
  ·rename_i y M2 e1;split at e
   ·rename_i xs e2;split at e
    ·rename_i ds M3 e3;split at e
     ·rename_i d M4 e4; cases e; exact ⟨y,_,e1,⟨xs,e2⟩,ds,_,e3,d,_,e4,p⟩
     ·cases e
    ·cases e
   ·cases e
  ·cases e
 ·rintro ⟨y,M1,e1,⟨xs,e2⟩,ds,M2,e3,d,M3,e4,p⟩;rw [e1]; dsimp only; rw [e2]; dsimp only; rw [e3]; dsimp only; rw [e4]; exact ⟨_,_,rfl,p⟩
section
variable {P:Option Int -> Mem -> Prop}
theorem zHw:Ok (zFh σ M) P ↔ P none M:=zAG
def zVX (P:Option Int -> Mem -> Prop):EV -> Mem -> Prop
 | .dat (.int i),M=>P (some i) M
 | _,_=>False
theorem zHV {i:Int} {M:Mem}:zVX P (.dat (.int i)) M ↔ P (some i) M:=Iff.rfl
theorem zHo:Ok (zCX f σ M) P ↔ Ok (f σ M) (zVX P):=by
 unfold zCX;constructor
 ·rintro ⟨x,M1,e,p⟩;split at e
  ·rename_i i M2 e1; cases e; exact ⟨_,_,e1,p⟩
  ·cases e
 ·rintro ⟨x,M1,e1,p⟩;rw [e1];cases x with
  | fl xs=>exact p.elim
  | dat d=>
   cases d with
   | int i=>exact ⟨_,_,rfl,p⟩
   | _=>exact p.elim
end
theorem zQO {l h:FO}:Ok (fSl f l h σ M) P ↔ Ok (f σ M) fun x M1=>Ok (l σ M1) fun lo M2=>Ok (h σ M2) fun hi M3=>Ok (kSl x lo hi M3) P:=by
 unfold fSl;constructor
 ·rintro ⟨x,M1,e,p⟩;split at e
  ·rename_i y M2 e1;split at e
   ·rename_i lo M3 e2;split at e
    ·rename_i hi M4 e3; exact ⟨y,_,e1,lo,_,e2,hi,_,e3,x,M1,e,p⟩
    ·cases e
   ·cases e
  ·cases e
 ·rintro ⟨y,M1,e1,lo,M2,e2,hi,M3,e3,p⟩;rw [e1]; dsimp only; rw [e2]; dsimp only; rw [e3]; exact p
def blP (P:Bool -> Mem -> Prop):EV -> Mem -> Prop
 | .dat (.bl k),M=>P k M
 | _,_=>False
theorem zEP {P:Bool -> Mem -> Prop} {k:Bool} {M:Mem}:blP P (.dat (.bl k)) M ↔ P k M:=Iff.rfl
theorem zHY {P:Bool -> Mem -> Prop}:Ok (tst f σ M) P ↔ Ok (f σ M) (blP P):=by
 unfold tst;constructor
 ·rintro ⟨x,M1,e,p⟩;split at e
  ·rename_i i M2 e1; cases e; exact ⟨_,_,e1,p⟩
  ·cases e
 ·rintro ⟨x,M1,e1,p⟩;rw [e1];cases x with
  | fl xs=>exact p.elim
  | dat d=>
   cases d with
   | bl i=>exact ⟨_,_,rfl,p⟩
   | _=>exact p.elim
section
variable {P:Bool -> Mem -> Prop} {s t:FT}
theorem zLi:Ok (zAJ σ M) P ↔ P true M:=zAG
theorem zSh:Ok (zCl s t σ M) P ↔ Ok (s σ M) fun k M1=>if k then Ok (t σ M1) P else P false M1:=by
 unfold zCl;constructor
 ·rintro ⟨x,M1,e,p⟩;split at e
  ·rename_i M2 e1; exact ⟨true,M2,e1,by dsimp only; rw [zWR rfl]; exact ⟨x,M1,e,p⟩⟩
  ·rename_i hn;cases x with
   | true=>exact absurd e (hn M1)
   | false=>exact ⟨false,M1,e,by simpa using p⟩
 ·rintro ⟨x,M1,e1,p⟩;rw [e1];cases x with
  | true=>simpa using p
  | false=>exact ⟨false,M1,rfl,by simpa using p⟩
end
theorem zTq {t:FT}:Ok (vIf t f g σ M) P ↔ Ok (t σ M) fun k M1=>if k then Ok (f σ M1) P else Ok (g σ M1) P:=by
 unfold vIf;constructor
 ·rintro ⟨x,M1,e,p⟩;split at e
  ·rename_i M2 e1; exact ⟨_,_,e1,by dsimp only; rw [zWR rfl]; exact ⟨x,M1,e,p⟩⟩
  ·rename_i M2 e1; exact ⟨_,_,e1,by simpa using ⟨x,M1,e,p⟩⟩
  ·cases e
 ·rintro ⟨x,M1,e1,p⟩;rw [e1];cases x with
  | true=>simpa using p
  | false=>simpa using p
end
section
variable {σ:Sd} {M:Mem} {f g:FS} {P:Out -> Sd -> Mem -> Prop}
def nxP (k:Sd -> Mem -> Prop) (P:Out -> Sd -> Mem -> Prop):Out -> Sd -> Mem -> Prop
 | .nx,σ,M=>k σ M
 | o,σ,M=>P o σ M
theorem zZ {k:Sd -> Mem -> Prop}:nxP k P .nx σ M ↔ k σ M:=Iff.rfl
theorem zD5 {k:Sd -> Mem -> Prop} {d:D}:nxP k P (.ret d) σ M ↔ P (.ret d) σ M:=Iff.rfl
theorem zBC:OkS (zBt σ M) P ↔ P .nx σ M:=zRL
theorem zR:OkS (zT f g σ M) P ↔ OkS (f σ M) (nxP (fun σ1 M1=>OkS (g σ1 M1) P) P):=by
 unfold zT;constructor
 ·rintro ⟨o,σ1,M1,e,p⟩;split at e
  ·rename_i σ2 M2 e1; exact ⟨_,_,_,e1,o,σ1,M1,e,p⟩
  ·rename_i hn;refine ⟨o,σ1,M1,e,?_⟩;cases o with
   | nx=>exact absurd e (hn σ1 M1)
   | _=>exact p
 ·rintro ⟨o,σ1,M1,e1,p⟩;rw [e1];cases o with
  | nx=>exact p
  | _=>exact ⟨_,_,_,rfl,p⟩
theorem zBs {c:FT}:OkS (sIf c f g σ M) P ↔ Ok (c σ M) fun k M1=>if k then OkS (f σ M1) P else OkS (g σ M1) P:=by
 unfold sIf;constructor
 ·rintro ⟨o,σ1,M1,e,p⟩;split at e
  ·rename_i M2 e1; exact ⟨_,_,e1,by dsimp only; rw [zWR rfl]; exact ⟨o,σ1,M1,e,p⟩⟩
  ·rename_i M2 e1; exact ⟨_,_,e1,by simpa using ⟨o,σ1,M1,e,p⟩⟩
  ·cases e
 ·rintro ⟨x,M1,e1,p⟩;rw [e1];cases x with
  | true=>simpa using p
  | false=>simpa using p
theorem zAt {h:FE}:OkS (zAI h σ M) P ↔ Ok (h σ M) (zIC fun d M1=>P (.ret d) σ M1):=by
 rw [<- zAu];unfold zAI;constructor
 ·rintro ⟨o,σ1,M1,e,p⟩;split at e
  ·rename_i d M2 e1; cases e; exact ⟨_,_,e1,p⟩
  ·cases e
 ·rintro ⟨x,M1,e1,p⟩;rw [e1]; exact ⟨_,_,_,rfl,p⟩
theorem zg {i:Nat} {h:FE}:OkS (zAC i h σ M) P ↔ Ok (h σ M) (zIC fun d M1=>P .nx (σ.set i (some d)) M1):=by
 rw [<- zAu];unfold zAC;constructor
 ·rintro ⟨o,σ1,M1,e,p⟩;split at e
  ·rename_i d M2 e1; cases e; exact ⟨_,_,e1,p⟩
  ·cases e
 ·rintro ⟨x,M1,e1,p⟩;rw [e1]; exact ⟨_,_,_,rfl,p⟩
theorem zCB {h:FE}:OkS (zBr h σ M) P ↔ Ok (h σ M) fun _ M1=>P .nx σ M1:=by
 unfold zBr;constructor
 ·rintro ⟨o,σ1,M1,e,p⟩;split at e
  ·rename_i d M2 e1; cases e; exact ⟨_,_,e1,p⟩
  ·cases e
 ·rintro ⟨x,M1,e1,p⟩;rw [e1]; exact ⟨_,_,_,rfl,p⟩
theorem zKR {v o i:FE}:OkS (zMx v o i σ M) P ↔ Ok (v σ M) (zIC fun d M1=>Ok (o σ M1) fun x M2=>Ok (i σ M2) (zIC fun j M3=>∃ M4,zKz x j d M3 = some M4 /\ P .nx σ M4)):=by
 rw [<- zAu];unfold zMx;constructor
 ·rintro ⟨o,σ1,M1,e,p⟩;split at e
  ·rename_i d M2 e1;split at e
   ·rename_i x M3 e2;split at e
    ·rename_i j M4 e3;split at e
     ·rename_i M5 e4;cases e;refine ⟨_,_,e1,_,_,e2,?_⟩;dsimp only; rw [<- zAu];exact ⟨_,_,e3,_,e4,p⟩
     ·cases e
    ·cases e
   ·cases e
  ·cases e
 ·rintro ⟨d,M1,e1,x,M2,e2,p⟩;rw [<- zAu] at p;obtain ⟨j,M3,e3,M4,e4,p⟩:=p;rw [e1]; dsimp only; rw [e2]; dsimp only; rw [e3]; dsimp only; rw [e4]; exact ⟨_,_,_,rfl,p⟩
theorem zAM {n:Nat} {ds:List D} {Q:D -> Mem -> Prop}:Ok (zBX n f ds M) Q ↔ OkS (f (ds.map some ++ List.replicate (n - ds.length) none) M) fun o _ M1=>match o with | .ret d=>Q d M1 | .nx=>Q .non M1 | _=>False:=by
 unfold zBX;constructor
 ·rintro ⟨o,M1,e,p⟩;split at e
  ·rename_i d σ1 M2 e1; cases e; exact ⟨_,_,_,e1,p⟩
  ·rename_i σ1 M2 e1; cases e; exact ⟨_,_,_,e1,p⟩
  ·cases e
 ·rintro ⟨o,σ1,M1,e1,p⟩;rw [e1];cases o with
  | ret d=>exact ⟨_,_,rfl,p⟩
  | nx=>exact ⟨_,_,rfl,p⟩
  | brk=>exact p.elim
  | cnt=>exact p.elim
theorem zCM {c:FT} {b:FS} (I:Nat -> Sd -> Mem -> Prop) (hs:∀ m σ M,I m σ M -> Ok (c σ M) fun k M1=>if k then OkS (b σ M1) fun o σ2 M2=>match o with | .nx=>∃ m',m' < m /\ I m' σ2 M2 | .cnt=>∃ m',m' < m /\ I m' σ2 M2 | .brk=>P .nx σ2 M2 | .ret d=>P (.ret d) σ2 M2 else P .nx σ M1) :
  ∀ (n m:Nat) (σ:Sd) (M:Mem),m < n -> I m σ M -> OkS (zBM c b n σ M) P
 | 0,m,σ,M,h,_=>absurd h (Nat.not_lt_zero _)
 | n + 1,m,σ,M,h,hi=>by
  obtain ⟨k,M1,e,q⟩:=hs m σ M hi;unfold zBM;rw [e];cases k with
  | false=>exact ⟨_,_,_,rfl,by simpa using q⟩
  | true=>
   rw [zWR rfl] at q;obtain ⟨o,σ2,M2,e2,q⟩:=q;dsimp only;rw [e2];cases o with
   | nx=>obtain ⟨m',hm,q⟩:=q; exact zCM I hs n m' σ2 M2 (by omega) q
   | cnt=>obtain ⟨m',hm,q⟩:=q; exact zCM I hs n m' σ2 M2 (by omega) q
   | brk=>exact ⟨_,_,_,rfl,q⟩
   | ret d=>exact ⟨_,_,_,rfl,q⟩
theorem zBG {g:FG} {b:FS} {all:List D} {gd:Option (Mem -> Prop)} (I:List D -> Sd -> Mem -> Prop)
  (hs:∀ x r σ M,I (x :: r) σ M -> zBE gd all M /\ ∃ σ1,g x σ = some σ1 /\ OkS (b σ1 M) fun o σ2 M2=>match o with | .nx=>I r σ2 M2 | .cnt=>I r σ2 M2 | .brk=>P .nx σ2 M2 | .ret d=>P (.ret d) σ2 M2)
  (he:∀ σ M,I [] σ M -> zBE gd all M /\ P .nx σ M):∀ (xs:List D) (σ:Sd) (M:Mem),I xs σ M -> OkS (zC5 g b all gd xs σ M) P
 | [],σ,M,hi=>by
  unfold zC5;obtain ⟨h1,h2⟩:=he σ M hi;rw [zWR h1];exact ⟨_,_,_,rfl,h2⟩
 | x :: r,σ,M,hi=>by
  unfold zC5;obtain ⟨h1,σ1,e1,o,σ2,M2,e2,q⟩:=hs x r σ M hi;rw [zWR h1,e1];dsimp only;rw [e2];cases o with
  | nx=>exact zBG I hs he r σ2 M2 q
  | cnt=>exact zBG I hs he r σ2 M2 q
  | brk=>exact ⟨_,_,_,rfl,q⟩
  | ret d=>exact ⟨_,_,_,rfl,q⟩
theorem zBa {i:FI} {g:FG} {b:FS}:OkS (zDJ i g b σ M) P ↔ ∃ xs gd M1,i σ M = some (xs,gd,M1) /\ OkS (zC5 g b xs gd xs σ M1) P:=by
 unfold zDJ;constructor
 ·rintro ⟨o,σ1,M1,e,p⟩;split at e
  ·rename_i xs gd M2 e1; exact ⟨_,_,_,e1,_,_,_,e,p⟩
  ·cases e
 ·rintro ⟨xs,gd,M1,e1,p⟩;rw [e1]; exact p
theorem zDw {g:FG} {tc:FT} {te:FE} {all:List D} {gd:Option (Mem -> Prop)} (I:List D -> List D -> Mem -> Prop)
  (hs:∀ x r acc M,I (x :: r) acc M -> zBE gd all M /\ ∃ σ1,g x σ = some σ1 /\ Ok (tc σ1 M) fun k M1=>if k then Ok (te σ1 M1) (zIC fun d M2=>I r (acc ++ [d]) M2) else I r acc M1)
  {Q:List D -> Mem -> Prop} (he:∀ acc M,I [] acc M -> zBE gd all M /\ Q acc M):∀ (xs acc:List D) (M:Mem),I xs acc M -> Ok (zBF g tc te σ all gd xs M) fun ys M1=>Q (acc ++ ys) M1
 | [],acc,M,hi=>by
  unfold zBF;obtain ⟨h1,h2⟩:=he acc M hi;rw [zWR h1];exact ⟨_,_,rfl,by simpa using h2⟩
 | x :: r,acc,M,hi=>by
  unfold zBF;obtain ⟨h1,σ1,e1,k,M1,e2,q⟩:=hs x r acc M hi;rw [zWR h1,e1];dsimp only;rw [e2];cases k with
  | false=>exact zDw I hs he r acc M1 (by simpa using q)
  | true=>
   rw [zWR rfl,<- zAu] at q;obtain ⟨d,M2,e3,q⟩:=q;dsimp only;rw [e3];obtain ⟨ys,M3,e4,p⟩:=zDw I hs he r (acc ++ [d]) M2 q;dsimp only;rw [e4];exact ⟨_,_,rfl,by simpa using p⟩
theorem zFD {own:List Nat} {i:FI} {g:FG} {tc:FT} {te:FE} {Q:EV -> Mem -> Prop}:Ok (zAO own i g tc te σ M) Q ↔ ∃ xs gd M1,i σ M = some (xs,gd,M1) /\ xs.length <= sizeLine /\ Ok (zBF g tc te (zBl own σ) xs gd xs M1) fun ys M2=>Q (.fl ys) M2:=by
 unfold zAO;constructor
 ·rintro ⟨o,M1,e,p⟩;split at e
  ·rename_i xs gd M2 e1;split at e
   ·rename_i hz;split at e
    ·rename_i ys M3 e2; cases e; exact ⟨_,_,_,e1,hz,_,_,e2,p⟩
    ·cases e
   ·cases e
  ·cases e
 ·rintro ⟨xs,gd,M1,e1,hz,ys,M2,e2,p⟩;rw [e1]; dsimp only; rw [zWR hz,e2]; exact ⟨_,_,rfl,p⟩
theorem zFP {h:FE} {x:EV} {M1:Mem} {xs:List D} (e:h σ M = some (x,M1)) (e2:zAc M1 x = some xs):zAi h σ M = some (xs,zFZ x xs,M1):=by
 unfold zAi; rw [e]; dsimp only; rw [e2]
theorem zMF {a:FA} {M1:Mem} {j:Int} (e:a σ M = some ([.int j],M1)) (h1:0 <= j) (h2:j < 2 ^ 62):zAY a σ M = some ((List.range j.toNat).map fun (k:Nat)=>D.int k,none,M1):=by
 unfold zAY; rw [e]; dsimp only; rw [zWR ⟨by omega,h2⟩]
end
section
variable {M:Mem} {P:EV -> Mem -> Prop} {i j:Int}
theorem zGf:Ok (zAl (.dat (.int i)) (.dat (.int j)) M) P ↔ P (.dat (.int (i + j))) M:=zAG
theorem zRO:Ok (zN2 (.dat (.int i)) (.dat (.int j)) M) P ↔ zOX i j = true /\ P (.dat (.int (i * j))) M:=by
 unfold zN2 kI; dsimp only; split
 ·rename_i h; rw [zAG]; simp [h]
 ·rename_i h; rw [zF8]; simp [h]
theorem zHA:Ok (zGs (.dat (.int i)) (.dat (.int j)) M) P ↔ 0 < j /\ P (.dat (.int (i % j))) M:=by
 unfold zGs kI; dsimp only; split
 ·rename_i h; rw [zAG]; simp at h; simp [h]
 ·rename_i h; rw [zF8]; simp at h; simp; intro h'; omega
theorem zQw:Ok (zOp (.dat (.int i)) (.dat (.int j)) M) P ↔ (0 < j /\ j < 1073741824) /\ P (.dat (.int (i / j))) M:=by
 unfold zOp kI; dsimp only; split
 ·rename_i h; rw [zAG]; simp at h; simp [h]
 ·rename_i h; rw [zF8]; simp at h; simp; intro h' h2; have:=h h'; omega
theorem zTH:Ok (zRD (.dat (.int i)) (.dat (.int j)) M) P ↔ (0 <= j /\ j <= 1000000 /\ i.natAbs < 2 ^ 64) /\ P (.dat (.int (i ^ j.toNat))) M:=by
 unfold zRD kI; dsimp only; split
 ·rename_i h; rw [zAG]; simp only [zWm,zXP] at h; simp [h]
 ·rename_i h; rw [zF8]; simp only [zWm,zXP,not_and] at h; simp only [false_iff,not_and]; intro ⟨a,b,c⟩; exact absurd c (h ⟨a,b⟩)
theorem zTe:Ok (kLt (.dat (.int i)) (.dat (.int j)) M) P ↔ P (.dat (.bl (decide (i < j)))) M:=zAG
theorem zVz:Ok (kLe (.dat (.int i)) (.dat (.int j)) M) P ↔ P (.dat (.bl (decide (i <= j)))) M:=zAG
theorem zVp:Ok (kGe (.dat (.int i)) (.dat (.int j)) M) P ↔ P (.dat (.bl (decide (j <= i)))) M:=zAG
theorem zK6:Ok (kEq (.dat (.int i)) (.dat (.int j)) M) P ↔ P (.dat (.bl (decide (i = j)))) M:=by
 have:kEq (.dat (.int i)) (.dat (.int j)) M = some (.dat (.bl (decide (V.int i = V.int j))),M):=rfl;rw [this,zAG]; simp
theorem zS0:Ok (kNe (.dat (.int i)) (.dat (.int j)) M) P ↔ P (.dat (.bl (decide (i ≠ j)))) M:=by
 have:kNe (.dat (.int i)) (.dat (.int j)) M = some (.dat (.bl (!decide (V.int i = V.int j))),M):=rfl;rw [this,zAG]; simp
theorem zUu {xs ys:List D}:Ok (zAl (.dat (.tup xs)) (.dat (.tup ys)) M) P ↔ xs.length + ys.length <= sizeLine /\ P (.dat (.tup (xs ++ ys))) M:=by
 have:zAl (.dat (.tup xs)) (.dat (.tup ys)) M = zK2 (.dat (.tup xs)) (.dat (.tup ys)) M:=rfl;rw [this]; unfold zK2; dsimp only [zCm]; split
 ·rename_i h; rw [zAG]; simp [h]
 ·rename_i h; rw [zF8]; simp [h]
theorem zRh {x:EV} {xs:List D} (h:zBh M x = some xs) (hx:∀ d,x = .dat d -> zI1 d = none):Ok (kNe x (.fl []) M) P ↔ P (.dat (.bl (!xs.isEmpty))) M:=by
 have e1:zLf true x (.fl []) M = none:=by cases x <;> rfl
 have e2:kNe x (.fl []) M = some (.dat (.bl (!xs.isEmpty)),M):=by
  unfold kNe kOr; rw [e1]; unfold zO3; rw [h]; rfl
 rw [e2,zAG]
theorem zRF {x:EV} {xs:List D} {d:D} (h:zAc M x = some xs) (hd:atI xs i = some d) (p:P (.dat d) M):Ok (kIx x (.dat (.int i)) M) P:=by
 have:kIx x (.dat (.int i)) M = some (.dat d,M):=by unfold kIx; dsimp only; rw [h]; dsimp only; rw [hd]
 rw [this,zAG]; exact p
theorem zM6 {xs:List D} {k:Nat} {d:D} (h:xs[k]? = some d):atI xs (k:Int) = some d:=zNb h
theorem zQC {xs:List D} {i:Int} {d:D} (h0:0 <= i) (h:xs[i.toNat]? = some d):atI xs i = some d:=by
 have:i = ((i.toNat:Nat):Int):=by omega
 rw [this]; exact zNb h
theorem zTE {x:EV} {xs:List D} (h:zAc M x = some xs):Ok (zB1 [x] M) P ↔ P (.dat (.int xs.length)) M:=by
 have:zB1 [x] M = some (.dat (.int xs.length),M):=by unfold zB1; dsimp only; rw [h]
 rw [this,zAG]
theorem zKl {x:EV} {xs:List D} (h:zAc M x = some xs):Ok (zBR [x] M) P ↔ P (.dat (.tup xs)) M:=by
 have:zBR [x] M = some (.dat (.tup xs),M):=by unfold zBR; dsimp only; rw [h]
 rw [this,zAG]
theorem zTS:Ok (zOa [.dat (.int i)] M) P ↔ P (.dat (.int (if i < 0 then -i else i))) M:=zAG
theorem zMr {x:EV} {xs:List D} {lo hi:Option Int} (h:zBh M x = some xs) (ht:zCm x = none):Ok (kSl x lo hi M) P ↔ P (.fl (zEw xs lo hi)) M:=by
 have:kSl x lo hi M = some (.fl (zEw xs lo hi),M):=by unfold kSl; rw [ht]; dsimp only; rw [h]
 rw [this,zAG]
theorem zAA {xs:List D}:zAc M (.dat (.tup xs)) = some xs:=rfl
theorem zER {xs:List D}:zAc M (.fl xs) = some xs:=rfl
theorem zUm {xs:List D}:zBh M (.fl xs) = some xs:=rfl
theorem zBb {n:Nat} {xs:List D} (h:M[n]? = some (.lst xs)):zBh M (.dat (.ref n)) = some xs:=by unfold zBh; dsimp only; rw [h]
theorem zJo {n:Nat} {xs:List D} (h:M[n]? = some (.fro xs)):zBh M (.dat (.ref n)) = some xs:=by unfold zBh; dsimp only; rw [h]
theorem zAH {n:Nat} {xs:List D} (h:M[n]? = some (.lst xs)):zAc M (.dat (.ref n)) = some xs:=zBb h
theorem zSR {n:Nat} {xs:List D} (h:M[n]? = some (.fro xs)):zAc M (.dat (.ref n)) = some xs:=zJo h
theorem zD2 {n:Nat} {xs:List D} {d:D} {Q:D -> Mem -> Prop} (h:M[n]? = some (.lst xs)) (hz:xs.length < sizeLine):Ok (zA0 (.dat (.ref n)) [d] M) Q ↔ Q .non (M.set n (.lst (xs ++ [d]))):=by
 have:zA0 (.dat (.ref n)) [d] M = some (.non,M.set n (.lst (xs ++ [d]))):=by unfold zA0; dsimp only; rw [h]; dsimp only; rw [zWR hz]
 rw [this,zAG]
theorem zTp {n:Nat} {x:D} {xs:List D} {Q:D -> Mem -> Prop} (h:M[n]? = some (.lst (x :: xs))):Ok (zLa (.dat (.ref n)) [.int 0] M) Q ↔ Q x (M.set n (.lst xs)):=by
 have:zLa (.dat (.ref n)) [.int 0] M = some (x,M.set n (.lst xs)):=by
  unfold zLa; dsimp only; rw [h]; dsimp only;have e:ixN (x :: xs).length 0 = some 0:=by unfold ixN; rw [zWR (by omega),zWR (by simp)]; rfl
  rw [e]; dsimp only [List.getElem?_cons_zero]; rw [zWR (by decide)]; rfl
 rw [this,zAG]
theorem zHu {n k:Nat} {xs:List D} {d:D} (h:M[n]? = some (.lst xs)) (hk:k < xs.length):zKz (.dat (.ref n)) (.int k) d M = some (M.set n (.lst (xs.set k d))):=by
 unfold zKz; dsimp only; rw [h]; dsimp only;have e:ixN xs.length (k:Int) = some k:=by unfold ixN; rw [zWR (by omega),zWR (by omega)]; simp
 rw [e]
end
theorem zNp {m:FF} {ds:List D} {M:Mem} {Q:D -> Mem -> Prop} (h:Ok (m ds M) fun d M1=>(D.und M.length d = true /\ M.length <= M1.length /\ ∀ (j:Nat) u,j < M.length -> M1[j]? = some u -> MO.und M.length u = true) /\ Q d (M1.take M.length)):Ok (zF2 m ds M) Q:=by
 obtain ⟨d,M1,e,⟨h1,h2,h3⟩,q⟩:=h;unfold zF2;rw [e];dsimp only;rw [zWR]
 ·exact ⟨_,_,rfl,q⟩
 ·simp only [zWm,zXP,zWn];refine ⟨⟨h1,fun u hu=>?_⟩,h2⟩;obtain ⟨j,hj⟩:=List.getElem?_of_mem hu;have hlt:j < M.length:=by
   have:=(zWF.mp hj).1;rw [zXa] at this; omega
  rw [List.getElem?_take_of_lt hlt] at hj;exact h3 j u hlt hj
theorem zDb {m:FF} {ds:List D} {M:Mem} {Q:D -> Mem -> Prop} (h0:D.unds 0 ds = true) (h:Ok (m ds []) fun d _=>D.und 0 d = true /\ Q d M):Ok (zEX m ds M) Q:=by
 obtain ⟨d,M1,e,h1,q⟩:=h;unfold zEX;rw [zWR h0,e];dsimp only;rw [zWR h1];exact ⟨_,_,rfl,q⟩
section
variable {prog:Program} {w:World} {A:Around} {E:Value -> Shared -> Prop} {s:Shared}
theorem Tup.but (x:h.IsTuple a its) (hs:Heap.ExtBut b h h') (n:a ≠ b):h'.IsTuple a its:=x.extBut hs n
theorem zM9 (I:s.heap.IsTupleIter it t i) (T:s.heap.IsTuple t its) (hx:its[i]? = some x)
  (q:∀ h',h'.IsTupleIter it t (i + 1) -> Heap.SameBut it s.heap h' -> Q x { s with heap:=h' }):wpAny (model prog w) A (Builtin.SmallTypes.nextOf (.ref it)) Q E s:=by
 obtain ⟨o,O,C,FD⟩:=id I;obtain ⟨u,U,_,m,G⟩:=T;unfold Builtin.SmallTypes.nextOf;refine zWC (zWo (name:=Str.ofString "__next__") I.typeIs PySem.F.slot_tuple_iterator_next (zWp PySem.F.slot_tuple_iterator_next I.typeIs PySem.F.entry_tuple_iterator_next ?_ (PySem.F.args_tuple_iterator_next_1 _)));refine zWC (m:=field (.ref it) 0) (zWr O FD (x:=.ref t) rfl ?_);rw [zWU (show ¬ ((Value.ref t == Value.none) = true) by exact zWY)];refine zWC (m:=field (.ref it) 1) (zWr O FD (x:=.int i 0) rfl ?_);refine zWC (m:=seqItems? (.ref t)) (wpAny_seqItems U G ?_);simp only [hx,Int.toNat_natCast];refine zWC (zXx O FD (by simp) (zWE ⟨x,rfl,zWE (q _ ⟨_,zWz _ O (Obj.isFreed_of_fields (zXT FD _)),(Obj.cls_mapFields ..).trans C,?_⟩ (zXF ..))⟩));rw [zXT FD];simp [rawInt]
theorem zJD (hh:A.handled = none) (I:s.heap.IsTupleIter it t i) (T:s.heap.IsTuple t its) (hx:its[i]? = none)
  (q:∀ h' e,Heap.ExtBut it s.heap h' -> (∃ o,h'.get? e = some o /\ o.cls = .type "StopIteration") -> E (.ref e) { s with heap:=h' }):wpAny (model prog w) A (Builtin.SmallTypes.nextOf (.ref it)) Q E s:=by
 obtain ⟨o,O,C,FD⟩:=id I;obtain ⟨u,U,_,m,G⟩:=T;unfold Builtin.SmallTypes.nextOf;refine zWC (zWo (name:=Str.ofString "__next__") I.typeIs PySem.F.slot_tuple_iterator_next (zWp PySem.F.slot_tuple_iterator_next I.typeIs PySem.F.entry_tuple_iterator_next ?_ (PySem.F.args_tuple_iterator_next_1 _)));refine zWC (m:=field (.ref it) 0) (zWr O FD (x:=.ref t) rfl ?_);rw [zWU (show ¬ ((Value.ref t == Value.none) = true) by exact zWY)];refine zWC (m:=field (.ref it) 1) (zWr O FD (x:=.int i 0) rfl ?_);refine zWC (m:=seqItems? (.ref t)) (wpAny_seqItems U G ?_);simp only [hx,Int.toNat_natCast];refine zWC (wpAny_rule (zWC (zXx O FD (by simp) ?_)));refine zWC (m:=newExc (.type "StopIteration") []) ?_;simp only [newTuple,newExc];refine zWC (zWf (zWC (m:=firstArgMember _ _) (wpAny_of_eq (a:=Value.none) (by first | rfl | (simp only [firstArgMember]; rfl)) (zWf ?_ (by size_fits)))) (by size_fits));simp only [raiseNew];refine zWC (wpAny_handled ?_);first | rw [hh] | rw [show A.in1.handled = none from hh]
 exact zWC (zWE (wpAny_throw (q _ _ (((zXF ..).extBut.push _).push _) ⟨_,zWM _ rfl,rfl⟩)))
end
theorem zHF {X:Cx} {zB:List (Addr × Obj)} {σ:L2.St} {H:Hp} {s:Shared} {h':Heap} {t':Nat} {ch:List Addr} {T:Addr} {o:HO} (I:Inv X zB σ H s) (hf:∀ b ∈ ch,zDB X zB H b)
  (k:∀ b u,b ∉ ch -> s.heap.get? b = some u -> h'.get? b = some u) (hT:s.heap.objs.size <= T) (new:zAo X.prog X.w (upd H T o) h' T o):Inv X zB σ (upd H T o) { s with heap:=h',toks:=t' }:=by
 have hn:H T = none:=I.hok.fresh hT;have nch:∀ b u,H b = some u -> b ∉ ch:=fun b u e z=>by rw [(hf b z).1] at e; cases e
 have un:∀ b u,H b = some u -> upd H T o b = some u:=fun b u e=>by rw [zh (zAS e hn)]; exact e
 refine I.step (g':=s.gens) (d':=s.drawn) (ch:=ch) (fun b hb=>⟨(hf b hb).2.2.2.1,(hf b hb).2.1,(hf b hb).2.2.2.2.1,(hf b hb).2.2.2.2.2⟩) (fun b u _ _ hc e _=>k b u hc e) (fun b u _ _ hc e _=>⟨u.slots,k b u hc e⟩)
  (fun b u _ e n=>by rw [zh (fun z=>by rw [z] at e; exact absurd (zWN e) (Nat.not_lt.mpr hT))]; exact n) (fun b u hc e=>⟨u,k b u hc e⟩) (fun b xs e=>un b _ e) (fun b p u e=>un b _ e) (fun b ps e=>⟨#[],by rw [un b _ e]; simp⟩) (fun m hm=>?_) (fun b u e=>?_) I.bare
 ·obtain ⟨p,es,ep,ho,r⟩:=hm;exact ⟨p,es,ep,k _ p (fun z=>(hf _ z).2.1 rfl) ho,r⟩
 ·by_cases hb:b = T
  ·subst hb; rw [zAe] at e; cases e; exact new
  ·rw [zh hb] at e;refine (I.hok b u e).stay (fun c v hc q=>k c v ?_ q) (fun c q=>un c _ q) fun c xs q=>un c _ q;rcases hc with z | z
   ·rw [z]; exact nch b u e
   ·exact nch c _ z
theorem zJP {X:Cx} {zB:List (Addr × Obj)} {σ:L2.St} {H:Hp} {s:Shared} {h':Heap} {t':Nat} {ch:List Addr} (I:Inv X zB σ H s) (hf:∀ b ∈ ch,zDB X zB H b)
  (k:∀ b u,b ∉ ch -> s.heap.get? b = some u -> h'.get? b = some u):Inv X zB σ H { s with heap:=h',toks:=t' }:=by
 have nch:∀ b u,H b = some u -> b ∉ ch:=fun b u e z=>by rw [(hf b z).1] at e; cases e
 refine I.step (g':=s.gens) (d':=s.drawn) (ch:=ch) (fun b hb=>⟨(hf b hb).2.2.2.1,(hf b hb).2.1,(hf b hb).2.2.2.2.1,(hf b hb).2.2.2.2.2⟩) (fun b u _ _ hc e _=>k b u hc e) (fun b u _ _ hc e _=>⟨u.slots,k b u hc e⟩)
  (fun b u _ e n=>n) (fun b u hc e=>⟨u,k b u hc e⟩) (fun b xs e=>e) (fun b p u e=>e) (fun b ps e=>⟨#[],by rw [e]; simp⟩) (fun m hm=>?_) (fun b u e=>?_) I.bare
 ·obtain ⟨p,es,ep,ho,r⟩:=hm;exact ⟨p,es,ep,k _ p (fun z=>(hf _ z).2.1 rfl) ho,r⟩
 ·refine (I.hok b u e).stay (fun c v hc q=>k c v ?_ q) (fun c q=>q) fun c xs q=>q;rcases hc with z | z
  ·rw [z]; exact nch b u e
  ·exact nch c _ z
section
variable {X:Cx} {a b:Expr} {es:List Expr} {ek:Nat} {ep p pos:Pos}
def zG7 (i j:Nat):FG:=fun d σ=>match d with
 | .tup [x,y]=>some ((σ.set i (some x)).set j (some y))
 | _=>none
abbrev gP2 (K:PySem.W.Frag) (i j:Nat):TG:=zRS K 2 (zFc (zCI i) (zFc (zCI j) zPd))
theorem zLC {K:PySem.W.Frag} {i j:Nat}:GOk (gP2 K i j) (zG7 i j):=by
 intro L H σ σ' τ d v Q rs r hf q;unfold zG7 at hf;split at hf
 ·rename_i x y;cases hf;unfold Rep at r;obtain ⟨a,vs,rfl,e,r⟩:=r;obtain ⟨v1,v2,rfl,r1,r2⟩:=r.two;exact ⟨a,_,rfl,.of e,rfl,v1,[v2],rfl,v2,[],rfl,rfl,q _ ((rs.set r1).set r2)⟩
 ·cases hf
theorem zOe {K:PySem.W.Frag} {own:List Nat} {i j:Nat} (hi:i ∈ own) (hj:j ∈ own):zFi own (gP2 K i j) (zG7 i j):=by
 intro L H σ σ' τ τ0 d v Q rs ex r hf q;unfold zG7 at hf;split at hf
 ·rename_i x y;cases hf;unfold Rep at r;obtain ⟨a,vs,rfl,e,r⟩:=r;obtain ⟨v1,v2,rfl,r1,r2⟩:=r.two;exact ⟨a,_,rfl,.of e,rfl,v1,[v2],rfl,v2,[],rfl,rfl,q _ ((rs.set r1).set r2) ((ex.set hi).set hj)⟩
 ·cases hf
end
section
variable {X:Cx} {a b c e:Expr} {es:List Expr} {pos p p2 pos2:Pos} {f g h:FE}
theorem zNv:∀ {bs:List Bool} {its:List Value},zm (bs.map V.bl) its -> ∀ (i:Nat) v,its[i]? = some v -> ∃ k,bs[i]? = some k /\ v = .bool k
 | [],_,.nil,_,_,h=>by simp at h
 | k :: bs,_,.cons r t,0,v,h=>by
  simp at h; subst h;exact ⟨k,rfl,r⟩
 | k :: bs,_,.cons r t,i + 1,v,h=>by
  obtain ⟨k',e1,e2⟩:=zNv t i v (by simpa using h);exact ⟨k',by simpa using e1,e2⟩
theorem zMa (bs:List Bool):((List.range bs.length).all fun i=>(bs[i]?).getD true) = bs.all id:=by
 rw [Bool.eq_iff_iff,zWn,zWn];constructor
 ·intro q k hk;obtain ⟨i,hi,rfl⟩:=zYF hk;have:=q i (zWq.mpr hi);rw [zWG hi] at this;exact this
 ·intro q i hi;rw [zWG (zWq.mp hi)];exact q _ (zWk _)
def zVC (K:PySem.W.Frag) (F:List Bool -> Bool):List V -> Hp -> VK -> Prop:=fun xs H Q=>∃ q bs,xs = [.ref q] /\ SqL K H q (bs.map V.bl) /\ Q (.bl (F bs)) H
theorem zOP (hc:X.calm = true):zCb X (.builtin "all") (zVC X.K fun bs=>bs.all id):=by
 intro zB s σ H xs us Q I r h;obtain ⟨l,bs,rfl,hq,q⟩:=h;obtain ⟨u,rfl,rx⟩:=zEi r;cases rx;obtain ⟨its,rv,pl,_⟩:=I.list hq;have hlt:l < s.heap.objs.size:=by obtain ⟨_,z,_⟩:=pl.isList; exact zWN z
 refine call_all_walk (wpAny_pyIter_list pl.isList ⟨s.heap.objs.size,[s.heap.objs.size,l],[s.heap.objs.size],its.toArray.size,_,_,fun i=>(bs[i]?).getD true,rfl,Walks.list (A:=X.A.in1) (I.ok.hd hc) _ l (zWX hlt) its.toArray,
  ⟨⟨_,zWM _ rfl,rfl,rfl⟩,pl.isList.push _⟩,fun i v s' Q' E' hP hQ=>?_,fun h' tk hk=>?_⟩)
 ·obtain ⟨k,z,rfl⟩:=zNv rv i v (by simpa using hP);dsimp only at hQ; rw [z] at hQ;exact zXO hQ
 ·have hl:=rv.length;rw [zWL] at hl;rw [zWK,<- hl,zMa];exact ⟨.bl _,H,I.kept (t':=tk) fun b o z=>hk b o (fun m=>by rw [zWe.mp m] at z; exact zWu _ (zWN z)) (zWD _ z),rfl,q⟩
def zHD:List D -> Option (List Bool)
 | []=>some []
 | .bl k :: r=>match zHD r with
  | some bs=>some (k :: bs)
  | none=>none
 | _=>none
theorem zNo:∀ {ds:List D} {bs:List Bool} {vs:List V},zHD ds = some bs -> zW L H ds vs -> vs = bs.map V.bl
 | [],bs,vs,e,r=>by cases e; unfold zW at r; exact r
 | d :: ds,bs,vs,e,r=>by
  unfold zW at r;obtain ⟨v,r',rfl,r1,r2⟩:=r;cases d with
  | bl k=>
   unfold zHD at e;cases q:zHD ds with
   | none=>rw [q] at e; cases e
   | some bs'=>
    rw [q] at e; cases e;unfold Rep at r1;rw [r1,zNo q r2]; rfl
  | _=>cases e
def zN8 (F:List Bool -> Bool):KB:=fun xs M=>match xs with
 | [x]=>match zBh M x with
  | some ds=>match zHD ds with
   | some bs=>some (.dat (.bl (F bs)),M)
   | none=>none
  | none=>none
 | _=>none
theorem zSi {K:PySem.W.Frag} {F:List Bool -> Bool}:zGi K (zVC K F) (zN8 F):=by
 intro L M M' H H0 xs d vs Q c r hk q;unfold zN8 at hk;split at hk
 ·rename_i x;split at hk
  ·rename_i ds e1;split at hk
   ·rename_i bs e2;cases hk;obtain ⟨v,rfl,r1⟩:=r.one;obtain ⟨l,ws,rfl,h1,r2⟩:=zA8 c r1 e1;have:=zNo e2 r2;subst this;exact ⟨l,bs,rfl,.inl h1,q L H _ (.refl L H) c (zBQ (L:=L) (H:=H))⟩
   ·cases hk
  ·cases hk
 ·cases hk
abbrev zQg:KB:=zN8 fun bs=>bs.all id
section
variable {fa:FAE}
theorem zTF (hc:X.calm = true) (hg:Gl X "all") (hm:X.mg "all" = none) (ha:QAE X [e] fa) (he:starEach [e] X.env = (false,eval e X.env) :: starEach [] X.env:=by rfl) (hpl:(backTo pos (starEach [] X.env)).any (·.1) = false:=by rfl):QE X (.Call (.Name "all" p) [e] [] pos) (fB zQg fa) :=
 zED zSi (zOP hc) (by rfl) hg hm ha (by decide) (by decide) he hpl
end
theorem zUz (h:zBh M x = some ds) (hb:zHD ds = some bs):Ok (zN8 F [x] M) P ↔ P (.dat (.bl (F bs))) M:=by
 have:zN8 F [x] M = some (.dat (.bl (F bs)),M):=by unfold zN8; dsimp only; rw [h]; dsimp only; rw [hb]
 rw [this,zAG]
theorem zJQ:∀ bs:List Bool,zHD (bs.map D.bl) = some bs
 | []=>rfl
 | k :: bs=>by rw [zWV]; unfold zHD; rw [zJQ bs]
def zHg:V -> Bool
 | .non=>true
 | .bl _=>true
 | _=>false
theorem zUI:OpR X (compareOp .Is) (fun x y H Q=>zHg y = true /\ Q (.bl (decide (x = y))) H):=by
 intro zB s σ H x y v u Q I rx ry h;obtain ⟨hp,q⟩:=h;cases y with
 | non=>
  cases ry;refine wpAny_is_plain (by cases x <;> first | (cases rx; rfl) | (obtain ⟨t,rfl⟩:=rx; rfl)) (zAB I q ?_);cases x <;> first | (cases rx; rfl) | (obtain ⟨t,rfl⟩:=rx; rfl)
 | bl k=>
  cases ry;refine wpAny_is_plain (by cases x <;> first | (cases rx; rfl) | (obtain ⟨t,rfl⟩:=rx; rfl)) (zAB I q ?_);cases x with
  | bl k'=>cases rx; cases k <;> cases k' <;> rfl
  | _=>first | (cases rx; rfl) | (obtain ⟨t,rfl⟩:=rx; rfl)
 | _=>cases hp
theorem zPL:OpR X (compareOp .IsNot) (fun x y H Q=>zHg y = true /\ Q (.bl (!decide (x = y))) H):=by
 intro zB s σ H x y v u Q I rx ry h;obtain ⟨hp,q⟩:=h;cases y with
 | non=>
  cases ry;refine wpAny_isNot_plain (by cases x <;> first | (cases rx; rfl) | (obtain ⟨t,rfl⟩:=rx; rfl)) (zAB I q ?_);cases x <;> first | (cases rx; rfl) | (obtain ⟨t,rfl⟩:=rx; rfl)
 | bl k=>
  cases ry;refine wpAny_isNot_plain (by cases x <;> first | (cases rx; rfl) | (obtain ⟨t,rfl⟩:=rx; rfl)) (zAB I q ?_);cases x with
  | bl k'=>cases rx; cases k <;> cases k' <;> rfl
  | _=>first | (cases rx; rfl) | (obtain ⟨t,rfl⟩:=rx; rfl)
 | _=>cases hp
def isD:EV -> D -> Option Bool
 | x,.non=>match x with
  | .dat .non=>some true
  | _=>some false
 | x,.bl k=>match x with
  | .dat (.bl k')=>some (decide (k' = k))
  | _=>some false
 | _,_=>none
def kIs (neg:Bool):K2:=fun x y M=>match y with
 | .dat d=>match isD x d with
  | some k=>some (.dat (.bl (if neg then !k else k)),M)
  | none=>none
 | _=>none
theorem zNY (rx:zl H0 L H x v) (ry:Rep L H d w) (e:isD x d = some k):zHg w = true /\ decide (v = w) = k:=by
 cases d with
 | non=>
  unfold Rep at ry; subst ry;refine ⟨rfl,?_⟩;cases x with
  | fl xs=>obtain ⟨q,vs,rfl,_⟩:=rx; cases e; rfl
  | dat d'=>
   cases d' with
   | non=>unfold zl Rep at rx; subst rx; cases e; rfl
   | bl _=>unfold zl Rep at rx; subst rx; cases e; rfl
   | int _=>unfold zl Rep at rx; subst rx; cases e; rfl
   | str _=>unfold zl Rep at rx; subst rx; cases e; rfl
   | tup _=>unfold zl Rep at rx; obtain ⟨q,vs,rfl,_⟩:=rx; cases e; rfl
   | ref _=>unfold zl Rep at rx; obtain ⟨q,rfl,_⟩:=rx; cases e; rfl
 | bl k'=>
  unfold Rep at ry; subst ry;refine ⟨rfl,?_⟩;cases x with
  | fl xs=>obtain ⟨q,vs,rfl,_⟩:=rx; cases e; rfl
  | dat d'=>
   cases d' with
   | non=>unfold zl Rep at rx; subst rx; cases e; rfl
   | bl j=>unfold zl Rep at rx; subst rx; cases e; cases j <;> cases k' <;> rfl
   | int _=>unfold zl Rep at rx; subst rx; cases e; rfl
   | str _=>unfold zl Rep at rx; subst rx; cases e; rfl
   | tup _=>unfold zl Rep at rx; obtain ⟨q,vs,rfl,_⟩:=rx; cases e; rfl
   | ref _=>unfold zl Rep at rx; obtain ⟨q,rfl,_⟩:=rx; cases e; rfl
 | _=>cases e
theorem zK7 (h:kIs neg x y M = some (r,M')):∃ d k,y = .dat d /\ isD x d = some k /\ r = .dat (.bl (if neg then !k else k)) /\ M' = M:=by
 unfold kIs at h;split at h
 ·rename_i d;split at h
  ·rename_i k e1; cases h; exact ⟨d,k,rfl,e1,rfl,rfl⟩
  ·cases h
 ·cases h
theorem zTw {K:PySem.W.Frag}:zCc K (fun x y H Q=>zHg y = true /\ Q (.bl (decide (x = y))) H) (kIs false):=by
 intro L M M' H H0 x y d v w Q cc rx ry hk q;obtain ⟨d',k,rfl,e,rfl,rfl⟩:=zK7 hk;obtain ⟨h1,h2⟩:=zNY rx ry e;refine ⟨h1,?_⟩;rw [h2];exact q L H _ (.refl L H) cc (zBQ (L:=L) (H:=H))
theorem zPr {K:PySem.W.Frag}:zCc K (fun x y H Q=>zHg y = true /\ Q (.bl (!decide (x = y))) H) (kIs true):=by
 intro L M M' H H0 x y d v w Q cc rx ry hk q;obtain ⟨d',k,rfl,e,rfl,rfl⟩:=zK7 hk;obtain ⟨h1,h2⟩:=zNY rx ry e;refine ⟨h1,?_⟩;rw [h2];exact q L H _ (.refl L H) cc (zBQ (L:=L) (H:=H))
theorem zVk (h1:QE X a f) (h2:QE X b g):QE X (.Compare a [.Is] [b] pos) (fOp (kIs false) f g):=zQp zTw zUI h1 h2 (zC4 _)
theorem zRg (h1:QE X a f) (h2:QE X b g):QT X (.Compare a [.IsNot] [b] pos) (tst (fOp (kIs true) f g)):=zEy zPr zPL h1 h2 (zC4 _)
def zFl (k k':K2) (f g h:FE):FE:=fun σ M=>match f σ M with
 | some (x,M1)=>match g σ M1 with
  | some (y,M2)=>match k x y M2 with
   | some (.dat (.bl true),M3)=>match h σ M3 with
    | some (w,M4)=>k' y w M4
    | none=>none
   | some (.dat (.bl false),M3)=>some (.dat (.bl false),M3)
   | _=>none
  | none=>none
 | none=>none
theorem zMh {K:PySem.W.Frag} {r r':R2} {k k':K2} (hk:zCc K r k) (hk':zCc K r' k') {τ:Sv} {H:Hp} {Q:VK} (z:trE K (zFl k k' f g h) τ H Q):zPp r r' (trE K f) (trE K g) (trE K h) τ H Q:=by
 obtain ⟨L,σ,M,d,M',cc,rs,hf,q⟩:=z;unfold zFl at hf;split at hf
 ·rename_i x M1 e1;split at hf
  ·rename_i y M2 e2;refine ⟨L,σ,M,_,_,cc,rs,e1,fun L1 H1 v s1 c1 r1=>⟨L1,σ,M1,_,_,c1,rs.stp s1,e2,fun L2 H2 w s2 c2 r2=>?_⟩⟩;split at hf
   ·rename_i M3 e3;split at hf
    ·rename_i u M4 e4;refine hk (H0:=H) c2 (r1.stp s2) (r2.back s1 cc s2.sub) e3 fun L3 H3 t s3 c3 r3=>⟨true,zBy r3,zHN ?_⟩;refine ⟨L3,σ,M3,_,_,c3,rs.stp ((s1.trans s2).trans s3),e4,fun L4 H4 w4 s4 c4 r4=>?_⟩;have s13:=(s1.trans s2).trans s3;refine hk' (H0:=H) c4 (((r2.back s1 cc s2.sub).stp s3).stp s4) (r4.back s13 cc s4.sub) hf fun L5 H5 u5 s5 c5 r5=>?_;exact q L5 H5 u5 ((s13.trans s4).trans s5) c5 (r5.back (s13.trans s4) cc s5.sub)
    ·cases hf
   ·rename_i M3 e3;cases hf;refine hk (H0:=H) c2 (r1.stp s2) (r2.back s1 cc s2.sub) e3 fun L3 H3 t s3 c3 r3=>⟨false,zBy r3,zHH ?_⟩;exact q L3 H3 _ ((s1.trans s2).trans s3) c3 (by have:=zBy r3; subst this; exact r3)
   ·cases hf
  ·cases hf
 ·cases hf
theorem zRn (hk:zCc X.K r k) (hk':zCc X.K r' k') (ho:OpR X (compareOp op) r) (ho':OpR X (compareOp op') r') (h1:QE X a f) (h2:QE X b g) (h3:QE X c h)
  (hm:lastMarks [op,op'] [b,c] = false:=by with_unfolding_all rfl):QE X (.Compare a [op,op'] [b,c] pos) (zFl k k' f g h):=.mk <| PE.imp (zPa ho ho' h1.un h2.un h3.un hm) fun _ _ _ z=>zMh hk hk' z
section
variable {M:Mem} {σ:Sd} {P:EV -> Mem -> Prop}
theorem zQB:Ok (zFl k k' f g h σ M) P ↔ Ok (f σ M) fun x M1=>Ok (g σ M1) fun y M2=>Ok (k x y M2) (blP fun t M3=>if t then Ok (h σ M3) fun w M4=>Ok (k' y w M4) P else P (.dat (.bl false)) M3):=by
 unfold zFl;constructor
 ·rintro ⟨x,M1,z,q⟩;split at z
  ·rename_i y M2 e1;split at z
   ·rename_i y' M3 e2;split at z
    ·rename_i M4 e3;split at z
     ·rename_i w M5 e4;exact ⟨_,_,e1,_,_,e2,_,_,e3,by rw [zEP,zWR rfl]; exact ⟨_,_,e4,_,_,z,q⟩⟩
     ·cases z
    ·rename_i M4 e3;cases z;exact ⟨_,_,e1,_,_,e2,_,_,e3,by rw [zEP]; simpa using q⟩
    ·cases z
   ·cases z
  ·cases z
 ·rintro ⟨x,M1,e1,y,M2,e2,t,M3,e3,q⟩;rw [e1]; dsimp only; rw [e2]; dsimp only; rw [e3];cases t with
  | fl _=>exact q.elim
  | dat d=>
   cases d with
   | bl t=>
    rw [zEP] at q;cases t with
    | true=>
     rw [zWR rfl] at q;obtain ⟨w,M4,e4,q⟩:=q;dsimp only; rw [e4]; exact q
    | false=>exact ⟨_,_,rfl,by simpa using q⟩
   | _=>exact q.elim
end
def zOA (f:FE):FE:=fun σ M=>match f σ M with
 | some (.dat (.int i),M1)=>some (.dat (.int (-i)),M1)
 | _=>none
theorem zTT (h1:QE X a f):QE X (.UnaryOp .USub a pos) (zOA f):=.mk <| PE.imp (zVf zUW h1.un) fun τ H Q zz=>by
 obtain ⟨L,σ,M,d,M',cc,rs,hf,q⟩:=zz;unfold zOA at hf;split at hf
 ·rename_i i M1 e1;cases hf;refine ⟨L,σ,M,_,_,cc,rs,e1,fun L1 H1 v s1 c1 r1=>?_⟩;exact ⟨i,by unfold zl Rep at r1; exact r1,q L1 H1 _ s1 c1 (zAj (L:=L1) (H:=H1))⟩
 ·cases hf
def zG9:KB:=fun xs M=>match xs with
 | [x]=>match zAc M x with
  | some ys=>some (.fl ys,M)
  | none=>none
 | _=>none
theorem zPM:zGi X.K (fun xs H Q=>∃ q ys,xs = [.ref q] /\ (SqL X.K H q ys \/ SqT X.K H q ys) /\ ∀ l,H l = none -> Q (.ref l) (upd H l (.lst ys))) zG9:=by
 intro L M M' H H0 xs d vs Q cc r hk q;unfold zG9 at hk;split at hk
 ·rename_i x;split at hk
  ·rename_i ys e1;cases hk;obtain ⟨v,rfl,r1⟩:=r.one;obtain ⟨l,ws,rfl,hs,r2⟩:=zHP cc r1 e1;refine ⟨l,ws,rfl,hs,fun k hk=>?_⟩;exact q L _ _ (.upd hk) (cc.upd hk) (zl.newLst (.refl L H) cc cc hk r2)
  ·cases hk
 ·cases hk
theorem zP1 (hg:Gl X "list") (hm:X.mg "list" = none) (ha:QAE X [e] fa) (he:starEach [e] X.env = (false,eval e X.env) :: starEach [] X.env:=by rfl) (hpl:(backTo pos (starEach [] X.env)).any (·.1) = false:=by rfl):QE X (.Call (.Name "list" p) [e] [] pos) (fB zG9 fa) :=
 zHr zPM zJs (by rfl) hg hm ha (by decide) (by decide) he hpl
end
open AutoSeq1 (wpAny_loadPart')
section
variable {prog:Program} {w:World} {A:Around} {E:Value -> Shared -> Prop} {s:Shared}
theorem zQX {r:Addr} {lo hi:Int} {t u v:Tok} {n:Nat} {Q:List Value -> Shared -> Prop} (hh:A.handled = none) (R:IsRange s.heap r lo hi 1 t u v) (sm:Builtin.Range.small lo hi 1 = true) (hn:Builtin.Range.rangeSize lo hi 1 = n) (hz:n <= 2 ^ 24)
  (q:∀ h' tk (acc:Array Value),(∀ b o,s.heap.get? b = some o -> h'.get? b = some o) -> ItemsOf (fun i v=>∃ t,v = .int (lo + i * 1) t) acc n -> Q acc.toList { s with heap:=h',toks:=tk }):wpAny (model prog w) A (collect (.ref r)) Q E s:=by
 unfold collect;refine zWC (wpAny_runValue (zXH PySem.F.entry_proto_collect ?_));rw [zW7 PySem.F.plain_proto_collect _];refine zWC (m:=newList []) (zWf (zWE ⟨plainId_quiet PySem.F.plain_list_iadd _,zXH PySem.F.entry_list_iadd ?_⟩));rw [zW7 PySem.F.plain_list_iadd _];have S0:(s.heap.push { cls:=.type "list", data:=.seq ([]:List Value).toArray }).get? s.heap.objs.size = some { cls:=.type "list", data:=.seq #[] 0 }:=zWM _ rfl
 have fin:∀ (h':Heap) (tk:Nat) (acc:Array Value) (k:Nat),(∀ b o,b ≠ s.heap.objs.size -> (s.heap.push { cls:=.type "list", data:=.seq ([]:List Value).toArray }).get? b = some o -> h'.get? b = some o) ->
   h'.get? s.heap.objs.size = some { cls:=.type "list", dict:=none,data:=.seq acc k,slots:=#[] } -> ItemsOf (fun i v=>∃ t,v = .int (lo + i * 1) t) acc n ->
   wpAny (model prog w) A (match Value.ref s.heap.objs.size with
    | Value.ref a=>do
     match (<- load a).data with
      | Data.seq xs _=>pure xs.toList
      | _=>unsupported "internal:collect"
    | _=>unsupported "internal:collect") Q E { s with heap:=h',toks:=tk }:=fun h' tk acc k kp e it=>by
  refine zWC (m:=load s.heap.objs.size) (wpAny_load e (zWE (q h' tk acc (fun b o m=>kp b o (zWX (zWN m)) (zWD _ m)) it)))
 refine zWi (wpAny_extend_range (A:=A) (s:={ s with heap:=s.heap.push { cls:=.type "list", data:=.seq ([]:List Value).toArray } })
  (R:=fun r s'=>r = .ok (.ret (.ref s.heap.objs.size)) /\ ∃ h' tk acc k,s' = { s with heap:=h',toks:=tk } /\ (∀ b o,b ≠ s.heap.objs.size -> (s.heap.push { cls:=.type "list", data:=.seq ([]:List Value).toArray }).get? b = some o -> h'.get? b = some o) /\
   h'.get? s.heap.objs.size = some { cls:=.type "list", dict:=none,data:=.seq acc k,slots:=#[] } /\ ItemsOf (fun i v=>∃ t,v = .int (lo + i * 1) t) acc n)
  hh (zWD _ R) sm hn hz s.heap.objs.size (.ref s.heap.objs.size) 0 S0 fun h' tk acc k kp e it=>⟨rfl,h',tk,acc,k,rfl,kp,e,it⟩) (fun f s' z=>?_) (fun e s' z=>?_)
 ·cases f with
  | done f=>
   obtain ⟨e,h',tk,acc,k,rfl,z1,z2,z3⟩:=z;cases e;exact fin h' tk acc k z1 z2 z3
  | again c'=>exact ⟨z.1,codeAny_mono z.2 fun r s'' z=>by obtain ⟨rfl,h',tk,acc,k,rfl,z1,z2,z3⟩:=z; exact fin h' tk acc k z1 z2 z3⟩
 ·exact absurd z.1 (by simp)
end
theorem zKd (r:Addr) (lo hi:Int) (t u v:Tok) (n:Nat) (sm:Builtin.Range.small lo hi 1 = true) (hn:Builtin.Range.rangeSize lo hi 1 = n) (hz:n <= 2 ^ 24) :
  Meets (Builtin.«tuple.__new__» ⟨[.type "tuple", .ref r],[]⟩) (fun A R s=>A.handled = none /\ IsRange s.heap r lo hi 1 t u v /\
   ∀ (h':Heap) (tk:Nat) (acc:Array Value),(∀ b o,s.heap.get? b = some o -> h'.get? b = some o) -> ItemsOf (fun i v=>∃ t,v = .int (lo + i * 1) t) acc n -> R (.ok (.ret (.ref h'.objs.size))) { s with heap:=h'.push { cls:=.type "tuple", data:=.seq acc },toks:=tk }) :=
 .of_wp fun prog w A R s h=>by
  obtain ⟨hp,g,d,tk,os⟩:=s;obtain ⟨hh,Ra,h⟩:=h;have h1:=sub_tuple_self;have h2:=init_tuple_lookup;have h3:=madeHere_tuple;have T:Shared.TypeIs ⟨hp,g,d,tk,os⟩ (.ref r) "range" := ⟨_,Ra,rfl⟩;wp_walk using wpAny_loadPart' Ra,wpAny_typeOf T,zQX (show A.in1.handled = none from hh) Ra sm hn hz;intro h' tk' acc kp it;refine zWC (m:=Builtin.Tuple.tupleExact acc.toList.toArray) ?_;unfold Builtin.Tuple.tupleExact;have sz:acc.toList.toArray.size <= sizeLine:=by rw [zWK,zWv,it.1,sizeLine_eq]; omega
  refine zWf (zWE ⟨_,rfl,?_⟩) sz;have e:acc.toList.toArray = acc:=by simp
  rw [e];exact h h' tk' acc kp it
section
variable {X:Cx} {a e:Expr} {es:List Expr} {pos p p2 pos2:Pos} {f:FE}
theorem zPj:zCb X (.type "range") (fun xs H Q=>∃ j,xs = [.int j] /\ ∀ l,H l = none -> Q (.ref l) (upd H l (.rng 0 j))):=by
 intro zB s σ H xs us Q I r h;obtain ⟨j,rfl,q⟩:=h;obtain ⟨u,rfl,rx⟩:=zEi r;obtain ⟨t,rfl⟩:=rx;refine call_range_1 ⟨.ref s.heap.objs.size,_,I.laid (fun b o z=>zWD _ z) (zWI _) ?_,rfl,q _ (I.hok.fresh (zWI _))⟩;exact ⟨_,_,_,zWM _ rfl⟩
def upV (n:Nat):List V:=(List.range n).map fun (k:Nat)=>V.int k
theorem zQV (h:ItemsOf (fun i v=>∃ t,v = .int ((0:Int) + i * 1) t) acc n):zm (upV n) acc.toList:=by
 obtain ⟨hz,hi⟩:=h;have:∀ (xs:List Value) (k:Nat),(∀ j v,xs[j]? = some v -> ∃ t,v = Value.int ((k + j:Nat):Int) t) -> zm ((List.range' k xs.length).map fun (k:Nat)=>V.int k) xs:=by
  intro xs;induction xs with
  | nil=>intro k _; exact .nil
  | cons x xs ih=>
   intro k hk;rw [zWj,List.range'_succ,zWV];refine .cons ?_ (ih (k + 1) fun j v e=>?_)
   ·obtain ⟨t,e⟩:=hk 0 x rfl;exact ⟨t,by simpa using e⟩
   ·obtain ⟨t,e'⟩:=hk (j + 1) v (by simpa using e);exact ⟨t,by rw [e']; congr 2; omega⟩
 have q:=this acc.toList 0 (fun j v e=>by
  obtain ⟨t,e'⟩:=hi j v (by simpa using e);exact ⟨t,by rw [e']; congr 1; omega⟩)
 unfold upV;rw [List.range_eq_range'];rw [zWv,hz] at q;exact q
theorem zPC (h0:0 <= j) (h1:j <= 16777216):Builtin.Range.small 0 j 1 = true /\ Builtin.Range.rangeSize 0 j 1 = (j.toNat:Int):=by
 refine ⟨small_one (by omega) (by omega) (by omega) (by omega),?_⟩;rw [rangeSize_one]; split <;> omega
def zV2 (mk:List V -> HO):List V -> Hp -> VK -> Prop:=fun xs H Q=>∃ r j,xs = [.ref r] /\ H r = some (.rng 0 j) /\ 0 <= j /\ j <= 16777216 /\ ∀ l,H l = none -> Q (.ref l) (upd H l (mk (upV j.toNat)))
theorem zM5 (n:Nat):(upV n).length = n:=by unfold upV; simp
theorem zN0 (hc:X.calm = true):zCb X (.type "tuple") (zV2 HO.tup):=by
 intro zB s σ H xs us Q I r h;obtain ⟨l,j,rfl,hr,h0,h1,q⟩:=h;obtain ⟨u,rfl,rx⟩:=zEi r;cases rx;obtain ⟨t,u,v,er⟩:=(show zAo X.prog X.w H s.heap l (.rng 0 j) from I.hok l _ hr);obtain ⟨sm,sz⟩:=zPC h0 h1
 refine callType_new PySem.F.called_tuple (by decide) (PySem.F.typeCall_tuple_1 _) (PySem.F.newCall_tuple_1 _) (fun obj=>PySem.F.args_object_init_2 obj _) PySem.F.entry_tuple_new (zKd l 0 j t u v j.toNat sm sz (by omega))
  ⟨I.ok.hd hc,er,fun h' tk acc kp it=>⟨⟨_,zWM _ rfl,rfl⟩,?_⟩⟩
 have I1:Inv X zB σ H { s with heap:=h',toks:=tk }:=I.kept kp;refine ⟨.ref h'.objs.size,_,I1.laid (t':=tk) (fun b o z=>zWD _ z) (zWI _) ?_,rfl,q _ (I1.hok.fresh (zWI _))⟩;exact ⟨by rw [zM5,sizeLine_eq]; omega,acc.toList,zQV it,by simpa using zDH.new h' acc⟩
def upD (n:Nat):List D:=(List.range n).map fun (k:Nat)=>D.int k
theorem zR3 (n:Nat):zW L H (upD n) (upV n):=by
 have:∀ xs:List Nat,zW L H (xs.map fun (k:Nat)=>D.int k) (xs.map fun (k:Nat)=>V.int k):=by
  intro xs;induction xs with
  | nil=>exact .nil
  | cons x xs ih=>exact .cons zAj ih
 exact this _
def zIh (f:FE):FE:=fun σ M=>match f σ M with
 | some (.dat (.int j),M1)=>if 0 <= j /\ j <= 16777216 then some (.dat (.tup (upD j.toNat)),M1) else none
 | _=>none
theorem zP9 (hc:X.calm = true) (hg:Gl X "tuple") (hm:X.mg "tuple" = none) (hg2:Gl X "range") (hm2:X.mg "range" = none) (ha:QE X a f)
  (he:starEach [Expr.Call (.Name "range" p2) [a] [] pos2] X.env = (false,eval (Expr.Call (.Name "range" p2) [a] [] pos2) X.env) :: starEach [] X.env:=by rfl) (hpl:(backTo pos (starEach [] X.env)).any (·.1) = false:=by rfl)
  (he2:starEach [a] X.env = (false,eval a X.env) :: starEach [] X.env:=by rfl) (hpl2:(backTo pos2 (starEach [] X.env)).any (·.1) = false:=by rfl) :
  QE X (.Call (.Name "tuple" p) [.Call (.Name "range" p2) [a] [] pos2] [] pos) (zIh f) :=
 .mk <| PE.imp (zGZ (zN0 hc) hg hm (by rfl) (zFL (zGZ zPj hg2 hm2 boot_range (zFL ha.un zIE he2) (by decide) (by decide) he2 hpl2) zIE he) (by decide) (by decide) he hpl) fun τ H Q zz=>by
  obtain ⟨L,σ,M,d,M',c,rs,hf,q⟩:=zz;unfold zIh at hf;split at hf
  ·rename_i j M1 e1;split at hf
   ·rename_i hb;cases hf;refine ⟨L,σ,M,_,_,c,rs,e1,fun L1 H1 v s1 c1 r1=>⟨j,by unfold zl Rep at r1; rw [r1],fun l hl=>⟨l,j,rfl,zAe,hb.1,hb.2,fun k hk=>?_⟩⟩⟩;exact q L1 _ _ ((s1.trans (.upd hl)).trans (.upd hk)) ((c1.upd hl).upd hk) (Rep.newTup hk (zR3 _))
   ·cases hf
  ·cases hf
section
variable {M:Mem} {σ:Sd} {P:EV -> Mem -> Prop}
theorem zSw (e:f σ M = some (.dat (.int j),M)) (h0:0 <= j) (h1:j <= 16777216) (q:P (.dat (.tup (upD j.toNat))) M):Ok (zIh f σ M) P:=by
 refine ⟨_,_,?_,q⟩;unfold zIh; rw [e]; dsimp only; rw [zWR ⟨h0,h1⟩]
end
end
def zKn:Expr -> Bool
 | .Starred .. =>false
 | _=>true
theorem zC (h:zKn e = true):starEach (e :: es) env = (false,eval e env) :: starEach es env:=by
 cases e <;> first | rfl | cases h
theorem zAd (h:zKn e = true):starEach [e] env = [(false,eval e env)]:=zC h
theorem zP:∀ {es:List Expr},es.all zKn = true -> (backTo pos (starEach es env)).any (·.1) = false
 | [],_=>rfl
 | e :: es,h=>by
  rw [List.all_cons,zWm] at h;rw [zC h.1];have:=zP (pos:=pos) (env:=env) h.2;simpa [backTo] using this
theorem Cor.pushO {K:PySem.W.Frag} {L:List Addr} {M:List MO} {H:Hp} {p:Addr} {o:HO} {m:MO} (c:Cor K L M H) (h:H p = none) (new:zIB K (L ++ [p]) (L2.upd H p o) p m) :
  Cor K (L ++ [p]) (M ++ [m]) (L2.upd H p o) /\ Stp L H (L ++ [p]) (L2.upd H p o):=by
 have hp:p ∉ L:=fun z=>by obtain ⟨o,e⟩:=c.tracked z; rw [h] at e; cases e
 have st:Stp L H (L ++ [p]) (L2.upd H p o):=by
  refine ⟨⟨[p],rfl⟩,fun a ha=>?_,fun a o e _=>?_,fun a o e=>?_,fun a o u e=>?_⟩
  ·rcases zWc.mp ha with z | z
   ·exact .inl z
   ·have:a = p:=by simpa using z
    subst this; exact .inr h
  all_goals (rw [zh (zAS e h)]; exact e)
 refine ⟨⟨by simp [c.len],?_,fun n a m e1 e2=>?_⟩,st⟩
 ·rw [zXQ];exact ⟨c.nd,by simp,fun a ha b hb z=>by
   have:b = p:=by simpa using hb
   subst this; subst z; exact hp ha⟩
 ·by_cases hn:n < L.length
  ·rw [zWJ hn] at e1;rw [zWJ (by rw [<- c.len]; exact hn)] at e2;exact (c.obj n a m e1 e2).stp st fun o e=>by rw [zh (zAS e h)]; exact e
  ·have hn':n = L.length:=by
    have:=(zWF.mp e1).1;rw [zWS] at this;simp at this; omega
   subst hn';simp at e1;rw [c.len] at e2;simp at e2;subst e1; subst e2;exact new
theorem Cor.put {K:PySem.W.Frag} {L:List Addr} {M:List MO} {H:Hp} {n:Nat} {p:Addr} {o o':HO} {m:MO} (c:Cor K L M H) (h1:L[n]? = some p) (ho:H p = some o) (ht:∀ xs,o ≠ .tup xs) (hf:∀ a u,o ≠ .frz a u)
  (new:Stp L H L (L2.upd H p o') -> zIB K L (L2.upd H p o') p m):Cor K L (M.set n m) (L2.upd H p o') /\ Stp L H L (L2.upd H p o'):=by
 have st:Stp L H L (L2.upd H p o'):=by
  refine ⟨⟨[],by simp⟩,fun a ha=> .inl ha,fun a o e ha=>?_,fun a xs e=>?_,fun a b u e=>?_⟩
  ·rw [zh (show a ≠ p from fun z=>ha (by rw [z]; exact List.mem_of_getElem? h1))]; exact e
  ·rw [zh (zIW e ho (fun z=>ht xs z.symm))]; exact e
  ·rw [zh (zIW e ho (fun z=>hf b u z.symm))]; exact e
 refine ⟨⟨by simp [c.len],c.nd,fun k a m' e1 e2=>?_⟩,st⟩;rw [zXl] at e2;split at e2
 ·rename_i hk;subst hk;rw [h1] at e1; cases e1;split at e2
  ·cases e2; exact new st
  ·cases e2
 ·rename_i hk;have hne:a ≠ p:=fun z=>hk (by
   subst z;exact (List.getElem?_inj (zWF.mp h1).1 c.nd).mp (h1.trans e1.symm))
  exact (c.obj k a m' e1 e2).stp st fun o e=>by rw [zh hne]; exact e
section
variable {X:Cx} {a b e:Expr} {pos:Pos} {f g:FE}
def zKL:FE:=fun _ M=>some (.dat (.ref M.length),M ++ [.dicT []])
theorem zNK:QE X (.Dict [] [] pos) zKL:=.mk <| PE.imp zPn fun τ H Q ⟨L,σ,M,d,M',c,rs,hf,q⟩ p hp=>by
 unfold zKL at hf;cases hf;obtain ⟨c2,s2⟩:=c.pushO (m:=.dicT []) hp ⟨[],zAe,rfl⟩;refine q _ _ _ s2 c2 ?_;unfold zl Rep;exact ⟨p,rfl,by rw [<- c.len]; simp⟩
theorem zJp (h:Rep L H d v) (e:zGt d = some k):v = kV k:=by
 cases d with
 | int i=>cases e; unfold Rep at h; exact h
 | str x=>cases e; unfold Rep at h; exact h
 | _=>cases e
def zMd (M:Mem):EV -> Option (List D)
 | .fl xs=>some xs
 | .dat (.ref n)=>match M[n]? with
  | some (.lst xs)=>some xs
  | _=>none
 | _=>none
theorem zPW {K:PySem.W.Frag} {L:List Addr} {M:Mem} {H H0:Hp} {x:EV} {v:V} {xs:List D} (c:Cor K L M H) (r:zl H0 L H x v) (h:zMd M x = some xs):∃ a vs,v = .ref a /\ H a = some (.lst vs) /\ zW L H xs vs:=by
 cases x with
 | fl ys=>
  cases h;obtain ⟨p,vs,rfl,_,e,_,r⟩:=r;exact ⟨p,vs,rfl,e,r⟩
 | dat d=>
  cases d with
  | ref n=>
   unfold zl Rep at r;obtain ⟨a,rfl,e⟩:=r;unfold zMd at h;dsimp only at h;split at h
   ·rename_i ys q;cases h;obtain ⟨vs,e1,r1⟩:=c.obj n a _ e q;exact ⟨a,vs,rfl,e1,r1⟩
   ·cases h
  | _=>cases h
def zJg:K2:=fun x y M=>match zMd M x,zMd M y with
 | some xs,some ys=>if xs.length + ys.length <= sizeLine then some (.fl (xs ++ ys),M) else none
 | _,_=>none
theorem zP6 {K:PySem.W.Frag}:zCc K zVN zJg:=by
 intro L M M' H H0 x y d v w Q c rx ry hk q;unfold zJg at hk;split at hk
 ·rename_i xs ys e1 e2;split at hk
  ·rename_i hz;cases hk;obtain ⟨l,vs,rfl,h1,r1⟩:=zPW c rx e1;obtain ⟨l2,ws,rfl,h2,r2⟩:=zPW c ry e2;refine ⟨l,l2,vs,ws,rfl,rfl,h1,h2,by rw [r1.length,r2.length]; exact hz,fun p hp=>?_⟩;exact q L _ _ (.upd hp) (c.upd hp) (zl.newLst (.refl L H) c c hp (r1.app r2))
  ·cases hk
 ·cases hk
theorem zUX (h1:QE X a f) (h2:QE X b g):QE X (.BinOp a .Add b pos) (fOp zJg f g):=zMu zP6 zTo h1 h2
theorem zUN (h1:zMd M x = some xs) (h2:zMd M y = some ys) (hz:xs.length + ys.length <= 100000) (q:P (.fl (xs ++ ys)) M):Ok (zJg x y M) P:=by
 refine ⟨_,_,?_,q⟩;unfold zJg; rw [h1,h2]; dsimp only; rw [zWR (zWd hz (by decide))]
end
end L3
namespace LR
open PySem PySem.Spec PyProof.Rows
open Sem (wp)
open Sem (wp)
open AutoSeq1 (wpAny_loadPart')
open Sem (wp)
open AutoSeq1 (wpAny_loadPart')
end LR
namespace L3
open PySem PySem.Spec PyProof.Rows L2
section
variable {X:Cx} {a b e:Expr} {p p2 pos pos2:Pos} {f g:FE}
theorem zSu (hu:X.A.units < cLine):OpR X (compareOp .Eq) (fun x y H Q=>∃ p q xs,x = .ref p /\ y = .ref q /\ SqT X.K H p xs /\ SqT X.K H q [] /\ Q (.bl xs.isEmpty) H):=by
 intro zB s σ H x y v u Q I rx ry z;obtain ⟨p,q,xs,rfl,rfl,hp,hq,z⟩:=z;cases rx;cases ry;obtain ⟨its,r,ht,hz⟩:=I.tuple hp;obtain ⟨its2,r2,ht2,_⟩:=I.tuple hq;have e2:=r2.zero;subst e2;refine SeqAt.eq_tupleAt (e:=fun _=>true) ht ht2 hu (fun j h1 h2=>by simp at h2) ?_;have e:((List.range (min its.toArray.size ([]:List Value).toArray.size)).all (fun _=>true) && its.toArray.size == ([]:List Value).toArray.size) = xs.isEmpty:=by
  have hl:=r.length;rw [zWK,<- hl];cases xs with
  | nil=>rfl
  | cons x r=>simp
 rw [e];exact zAB I z rfl
def zLl:K2:=fun x y M=>match x,y with
 | .dat (.tup xs),.dat (.tup [])=>some (.dat (.bl xs.isEmpty),M)
 | _,_=>none
theorem zPu {K:PySem.W.Frag}:zCc K (fun x y H Q=>∃ p q xs,x = .ref p /\ y = .ref q /\ SqT K H p xs /\ SqT K H q [] /\ Q (.bl xs.isEmpty) H) zLl:=by
 intro L M M' H H0 x y d v w Q cc rx ry hk q;unfold zLl at hk;split at hk
 ·rename_i xs;cases hk;obtain ⟨a,ws,rfl,e2,r2⟩:=zBO (xs:=xs) rx rfl;obtain ⟨b,ws',rfl,e3,r3⟩:=zBO (xs:=[]) ry rfl;have:ws' = []:=by unfold zW at r3; exact r3
  subst this;refine ⟨a,b,ws,rfl,rfl,.of e2,.of e3,?_⟩;have e:ws.isEmpty = xs.isEmpty:=by
   have hl:=r2.length;cases xs <;> cases ws <;> first | rfl | (simp at hl)
  rw [e];exact q L H _ (.refl L H) cc (zBQ (L:=L) (H:=H))
 ·cases hk
theorem zR9 (hu:X.A.units < cLine) (h1:QE X a f) (h2:QE X b g):QT X (.Compare a [.Eq] [b] pos) (tst (fOp zLl f g)):=zEy zPu (zSu hu) h1 h2 (zC4 _)
end
section
variable {X:Cx} {a b e o:Expr} {pos p apos cpos:Pos} {f g:FE}
def zBB:List D -> Option (List Int)
 | []=>some []
 | .int i :: r=>match zBB r with
  | some bs=>some (i :: bs)
  | none=>none
 | _=>none
theorem zEE:∀ {ds:List D} {bs:List Int} {vs:List V},zBB ds = some bs -> zW L H ds vs -> vs = bs.map V.int
 | [],bs,vs,e,r=>by cases e; unfold zW at r; exact r
 | d :: ds,bs,vs,e,r=>by
  unfold zW at r;obtain ⟨v,r',rfl,r1,r2⟩:=r;cases d with
  | int k=>
   unfold zBB at e;cases q:zBB ds with
   | none=>rw [q] at e; cases e
   | some bs'=>
    rw [q] at e; cases e;unfold Rep at r1;rw [r1,zEE q r2]; rfl
  | _=>cases e
theorem zD3:∀ xs:List Int,zBB (xs.map D.int) = some xs
 | []=>rfl
 | x :: r=>by rw [zWV]; unfold zBB; rw [zD3 r]
end
end L3
namespace L2
open PySem PySem.Spec PyProof.Rows
section
variable {prog:Program} {w:World} {A:Around} {E:Value -> Shared -> Prop} {R:Result -> Shared -> Prop} {s:Shared}
theorem zIn (I:Nat -> Shared -> Prop)
  (turn:∀ n s,I n s -> wpAny (model prog w) A (pyNext it) (fun r s₁=>match r with
   | none=>R (.ok .next) s₁
   | some v=>wpAny (model prog w) A (letOwnedTupleGo target it v) (fun _ s₁'=>wpAny (model prog w) A (assign target env v) (fun _ s₂=>
     wpAny (model prog w) A (forIn ifs true fun c r=>if r = true then do let ok <- isTrue c env (eval c env); pure (ForInStep.yield ok) else pure (ForInStep.yield r)) (fun ok s₃=>
      if ok = true then wpAny (model prog w) A (eval kx env) (fun kv s₄=>wpAny (model prog w) A (eval vx env) (fun vv s₅=>
       wpAny (model prog w) A (dictSet D kv vv) (fun _ s₆=>∃ m,m < n /\ I m s₆) (fun _ _=>False) s₅) (fun _ _=>False) s₄) (fun _ _=>False) s₃
      else ∃ m,m < n /\ I m s₃) (fun _ _=>False) s₂) (fun _ _=>False) s₁') (fun _ _=>False) s₁) (fun _ _=>False) s)
  (n:Nat) (h:I n s) :
  codeAny (model prog w) A (.compLoop (.DictComp kx vx [⟨target,iter,ifs,0⟩] scope pos) 0 it (.ref D) env) R s:=by
 refine codeAny_loop rfl I (fun n s hI=>?_) n h;show wpAny _ A ((compTurn (.DictComp kx vx [⟨target,iter,ifs,0⟩] scope pos) 0 it (.ref D) env).onRaise (fun x=>do noteFrame x env; theTreesLotGoes x)) _ _ s;refine wpAny_noted ?_;rw [compTurn_dict];refine zWC (zXA (zWC (zWi (turn n s hI) (fun r s₁ h₁=>?_) fun _ _ h'=>h'.elim)));cases r with
 | none=>exact zWE h₁
 | some v=>
  refine zWC (zWi h₁ (fun _ s₁' h₁'=>?_) fun _ _ h'=>h'.elim);refine zWC (zWi h₁' (fun _ s₂ h₂=>zWC (zWi h₂ (fun ok s₃ h₃=>?_) fun _ _ h'=>h'.elim)) fun _ _ h'=>h'.elim);cases ok with
  | false=>exact zWE ⟨rfl,h₃⟩
  | true=>
   exact zWC (zWC (zWi h₃ (fun kv s₄ h₄=>zWC (zW5 (zWi h₄ (fun vv s₅ h₅=>zWC (zXA (zW5 (zWi h₅ (fun _ s₆ h₆=>zWE ⟨rfl,h₆⟩) fun _ _ h'=>h'.elim)))) fun _ _ h'=>h'.elim))) fun _ _ h'=>h'.elim))
theorem zJw (elt target iter:Expr) (ifs:List Expr) (scope:Scope) (pos:Pos) (it acc:Value) (env:Env) :
  compTurn (.SetComp elt [⟨target,iter,ifs,0⟩] scope pos) 0 it acc env = (do
   standAt iter.pos;match <- pyNext it with
   | none=>pure (.done .next)
   | some v=>
    letOwnedTupleGo target it v;assign target env v;let mut ok:=true
    for c in ifs do
     if ok then ok <- isTrue c env (eval c env)
    if ok then (do let v <- eval elt env; standAt elt.pos; let _ <- call (.builtin "set.add") [acc,v])
    again (.compLoop (.SetComp elt [⟨target,iter,ifs,0⟩] scope pos) 0 it acc env)):=by rfl
theorem zKK (I:Nat -> Shared -> Prop)
  (turn:∀ n s,I n s -> wpAny (model prog w) A (pyNext it) (fun r s₁=>match r with
   | none=>R (.ok .next) s₁
   | some v=>wpAny (model prog w) A (letOwnedTupleGo target it v) (fun _ s₁'=>wpAny (model prog w) A (assign target env v) (fun _ s₂=>
     wpAny (model prog w) A (forIn ifs true fun c r=>if r = true then do let ok <- isTrue c env (eval c env); pure (ForInStep.yield ok) else pure (ForInStep.yield r)) (fun ok s₃=>
      if ok = true then wpAny (model prog w) A (eval elt env) (fun x s₄=>
       wpAny (model prog w) A (call (.builtin "set.add") [acc,x]) (fun _ s₅=>∃ m,m < n /\ I m s₅) (fun _ _=>False) s₄) (fun _ _=>False) s₃
      else ∃ m,m < n /\ I m s₃) (fun _ _=>False) s₂) (fun _ _=>False) s₁') (fun _ _=>False) s₁) (fun _ _=>False) s)
  (n:Nat) (h:I n s) :
  codeAny (model prog w) A (.compLoop (.SetComp elt [⟨target,iter,ifs,0⟩] scope pos) 0 it acc env) R s:=by
 refine codeAny_loop rfl I (fun n s hI=>?_) n h;show wpAny _ A ((compTurn (.SetComp elt [⟨target,iter,ifs,0⟩] scope pos) 0 it acc env).onRaise (fun x=>do noteFrame x env; theTreesLotGoes x)) _ _ s;refine wpAny_noted ?_;rw [zJw];refine zWC (zXA (zWC (zWi (turn n s hI) (fun r s₁ h₁=>?_) fun _ _ h'=>h'.elim)));cases r with
 | none=>exact zWE h₁
 | some v=>
  refine zWC (zWi h₁ (fun _ s₁' h₁'=>?_) fun _ _ h'=>h'.elim);refine zWC (zWi h₁' (fun _ s₂ h₂=>zWC (zWi h₂ (fun ok s₃ h₃=>?_) fun _ _ h'=>h'.elim)) fun _ _ h'=>h'.elim);cases ok with
  | false=>exact zWE ⟨rfl,h₃⟩
  | true=>
   exact zWC (zWC (zWi h₃ (fun x s₄ h₄=>zWC (zXA (zWC (zWi h₄ (fun _ s₅ h₅=>zWE (zWE ⟨rfl,h₅⟩)) fun _ _ h'=>h'.elim)))) fun _ _ h'=>h'.elim))
end
end L2
namespace LR
open PySem PySem.Spec PyProof.Rows
open Sem (wp)
end LR
namespace L3
open PySem PySem.Spec PyProof.Rows L2
end L3
namespace ST
open PySem
abbrev Up (xs:Array Nat):Prop:=xs.toList.Pairwise (· < ·)
theorem Up.get (h:Up xs) (hik:i < k) (hk:k < xs.size):xs[i]'(by omega) < xs[k]:=by
 have:=List.pairwise_iff_getElem.mp h i k (by simpa using (show i < xs.size by omega)) (by simpa using hk) hik;simpa using this
theorem zKB (h:Up xs) (j:Nat):∀ (fuel lo hi:Nat),lo <= hi -> hi <= xs.size -> hi - lo <= fuel -> (∀ i (hi':i < xs.size),i < lo -> xs[i] < j) -> (∀ i (hi':i < xs.size),hi <= i -> j <= xs[i]) ->
  (SetTable.below.go xs j fuel lo hi <= xs.size) /\ (∀ i (hi':i < xs.size),i < SetTable.below.go xs j fuel lo hi -> xs[i] < j) /\ (∀ i (hi':i < xs.size),SetTable.below.go xs j fuel lo hi <= i -> j <= xs[i])
 | 0,lo,hi,h1,h2,h3,a,b=>by
  have:lo = hi:=by omega
  subst this;unfold SetTable.below.go;exact ⟨h2,a,b⟩
 | fuel + 1,lo,hi,h1,h2,h3,a,b=>by
  unfold SetTable.below.go;by_cases hl:lo < hi
  ·rw [zWR hl];dsimp only;have hm:(lo + hi) / 2 < xs.size:=by omega
   have eg:xs.getD ((lo + hi) / 2) j = xs[(lo + hi) / 2]:=by simp [Array.getD,hm]
   rw [eg];by_cases hc:xs[(lo + hi) / 2] < j
   ·rw [zWR hc];refine zKB h j fuel _ _ (by omega) h2 (by omega) (fun i hi' hlt=>?_) b;rcases zXY i ((lo + hi) / 2) with z | z
    ·exact Nat.lt_trans (h.get z hm) hc
    ·have:i = (lo + hi) / 2:=by omega
     subst this; exact hc
   ·rw [zWU hc];refine zKB h j fuel _ _ (by omega) (by omega) (by omega) a (fun i hi' hge=>?_);rcases zXY ((lo + hi) / 2) i with z | z
    ·have:=h.get z hi'; omega
    ·have:i = (lo + hi) / 2:=by omega
     subst this; omega
  ·rw [zWU hl];have:lo = hi:=by omega
   subst this;exact ⟨h2,a,b⟩
theorem zD6 (h:Up xs) (j:Nat):SetTable.below xs j <= xs.size /\ (∀ i (hi':i < xs.size),i < SetTable.below xs j -> xs[i] < j) /\ (∀ i (hi':i < xs.size),SetTable.below xs j <= i -> j <= xs[i]):=by
 unfold SetTable.below;exact zKB h j xs.size 0 xs.size (zWy _) (zWI _) (by omega) (fun i _ z=>by omega) (fun i hi' z=>by omega)
theorem zMX (h:Up xs):SetTable.below xs 0 = 0:=by
 obtain ⟨a,b,c⟩:=zD6 h 0;rcases Nat.eq_zero_or_pos (SetTable.below xs 0) with z | z
 ·exact z
 ·have:=b 0 (by omega) z; omega
theorem zMc (h:Up xs) (hk:k < xs.size):SetTable.below xs (xs[k] + 1) = k + 1:=by
 obtain ⟨a,b,c⟩:=zD6 h (xs[k] + 1);rcases Nat.lt_trichotomy (SetTable.below xs (xs[k] + 1)) (k + 1) with z | z | z
 ·have:=c k hk (by omega); omega
 ·exact z
 ·have h1:k + 1 < xs.size:=by omega
  have:=b (k + 1) h1 z;have:=h.get (show k < k + 1 by omega) h1;omega
theorem zHJ {α:Type} (xs:Array α) (p:Nat) (x:α):(SetTable.insertAt xs p x).toList = xs.toList.take p ++ x :: xs.toList.drop p:=by
  unfold SetTable.insertAt;simp;have:xs.toList.length <= xs.size:=by simp
  rw [List.take_of_length_le (by simp)]
theorem zOF (h : Up xs) (hj : j ∉ xs.toList) : Up (SetTable.insertAt xs (SetTable.below xs j) j) := by
  obtain ⟨a, b, c⟩ := zD6 h j;unfold Up;rw [zHJ];rw [List.pairwise_append];have hT : ∀ x ∈ xs.toList.take (SetTable.below xs j), x < j := fun x hx => by
    obtain ⟨i,hi,e⟩:=zYF hx;rw [List.getElem_take] at e;rw [zXa] at hi
    have h1 : i < xs.size := by have : xs.toList.length = xs.size := by simp
                                omega
    have:=b i h1 (by omega);rw [<- e]; simpa using this
  have hD : ∀ x ∈ xs.toList.drop (SetTable.below xs j), j < x := fun x hx => by
    obtain ⟨i,hi,e⟩:=zYF hx;rw [List.getElem_drop] at e;rw [zYf] at hi
    have h1 : SetTable.below xs j + i < xs.size := by have : xs.toList.length = xs.size := by simp
                                                      omega
    have h2:=c _ h1 (by omega);have h3:x ≠ j:=fun z=>hj (z ▸ List.mem_of_mem_drop hx);have e':xs[SetTable.below xs j + i] = x:=by simpa using e
    omega
  refine ⟨h.sublist (List.take_sublist _ _),List.pairwise_cons.mpr ⟨hD,h.sublist (List.drop_sublist _ _)⟩,fun x hx y hy=>?_⟩;rcases zWO.mp hy with z | z
  · rw [z]; exact hT x hx
  · exact Nat.lt_trans (hT x hx) (hD y z)
theorem zJc (j:Nat):SetTable.has #[] j = false:=by
 unfold SetTable.has; simp
theorem zMT {t:SetTable} (h:Up t.place) (he:t.slot j = .empty):j ∉ t.place.toList:=fun hm=>by
 obtain ⟨a,b,c⟩:=zD6 h j;obtain ⟨k,hk,e⟩:=zYF hm;have hk':k < t.place.size:=by simpa using hk
 have e':t.place[k] = j:=by simpa using e
 have eb:SetTable.below t.place j = k:=by
  rcases Nat.lt_trichotomy (SetTable.below t.place j) k with z | z | z
  ·have h1:SetTable.below t.place j < t.place.size:=by omega
   have:=c _ h1 (zWI _);have:=h.get z hk';omega
  ·exact z
  ·have:=b k hk' z; omega
 unfold SetTable.slot at he;dsimp only at he;rw [eb,zWR (by simp [hk',e'])] at he;cases he
theorem zLI (hd:t.dummies = #[]):∀ (fuel:Nat) (p:SetTable.Probe) {j:Nat} {d:Option Nat},p.dummy = none -> SetTable.probe.go t hashAt h fuel p = some (.empty j d) -> d = none /\ t.slot j = .empty
 | 0,_,_,_,_,e=>by unfold SetTable.probe.go at e; cases e
 | fuel + 1,p,j,d,hp,e=>by
  unfold SetTable.probe.go at e;split at e
  ·rename_i hs;cases e;exact ⟨hp,hs⟩
  ·rename_i hs;unfold SetTable.slot at hs;dsimp only at hs;rw [hd,zJc] at hs;split at hs <;> first | cases hs | simp at hs
  ·split at e
   ·cases e
   ·refine zLI hd fuel _ ?_ e;unfold SetTable.advance;split <;> simp [hp]
theorem zOg {t:SetTable} (hu:Up t.place) (hd:t.dummies = #[]) (e:t.freeSlot h = some (j,b)):b = false /\ j ∉ t.place.toList:=by
 unfold SetTable.freeSlot at e;split at e
 ·rename_i j' d hp;unfold SetTable.probe at hp;obtain ⟨h1,h2⟩:=zLI hd _ _ (by rfl) hp;subst h1;simp at e;obtain ⟨rfl,rfl⟩:=e;exact ⟨rfl,zMT hu h2⟩
 ·cases e
structure TabOk (w:World) (t:SetTable):Prop where
 led:t.led = !w.params.followText "set-order"
 up:Up t.place
 nod:t.dummies = #[]
theorem zQK (n:Nat):Up (Array.range n):=by
 unfold Up;rw [Array.toList_range];exact List.pairwise_lt_range
theorem TabOk.standIn (h:TabOk w t) (n:Nat):TabOk w (t.standIn n):=⟨h.led,zQK n,rfl⟩
theorem TabOk.orStandIn (h:TabOk w t) (n:Nat):TabOk w (t.orStandIn n):=by
 unfold SetTable.orStandIn;split
 ·exact h
 ·exact h.standIn n
theorem TabOk.put (h:TabOk w t) (hj:j ∉ t.place.toList):TabOk w (t.put j).1:=by
 unfold SetTable.put;refine ⟨h.led,zOF h.up hj,?_⟩;show (if SetTable.has t.dummies j = true then _ else t.dummies) = #[];rw [h.nod,zJc]; rfl
theorem TabOk.layNew (h:TabOk w t) (es:Array (Int × Value)) (hh:Int) (x:Value):TabOk w (layNew t es hh x).2.1:=by
 unfold PySem.layNew;split
 ·rename_i j b e;exact (h.put (zOg h.up h.nod e).2).orStandIn _
 ·exact h.standIn _
theorem TabOk.relaid (h:TabOk w t) (e:t.relaid hs wanted = some (t',order)):TabOk w t':=by
 unfold SetTable.relaid SetTable.laid at e;cases q:SetTable.layClean (SetTable.sizeAbove wanted - 1) hs with
 | none=>rw [q] at e; cases e
 | some owner=>
  rw [q] at e;simp only [Option.bind_eq_bind,Option.bind_some,Option.pure_def,Option.some.injEq,Prod.mk.injEq] at e;obtain ⟨rfl,_⟩:=e;refine ⟨h.led,?_,rfl⟩;unfold Up;dsimp only;rw [List.pairwise_map,List.pairwise_filterMap];refine List.pairwise_lt_range.imp fun {a b} hab x hx y hy=>?_;cases o1:owner.getD a none with
  | none=>rw [o1] at hx; cases hx
  | some u=>
   cases o2:owner.getD b none with
   | none=>rw [o2] at hy; cases hy
   | some v=>
    rw [o1] at hx; rw [o2] at hy;cases hx; cases hy;exact hab
theorem TabOk.relayAll (h:TabOk w t) (es:Array (Int × Value)) (wanted:Nat):TabOk w (relayAll t es wanted).2.1:=by
 unfold PySem.relayAll;split
 ·rename_i t' order e;dsimp only;split
  ·exact h.relaid e
  ·exact h.standIn _
 ·exact h.standIn _
theorem TabOk.plain (h:TabOk w t) (b:Bool):TabOk w { t with plain:=b }:=⟨h.led,h.up,h.nod⟩
theorem TabOk.fresh:TabOk w (SetTable.fresh 0 0 (!w.params.followText "set-order")):=⟨rfl,List.Pairwise.nil,rfl⟩
open Sem (wp)
set_option genInjectivity true in
inductive F2 {α β:Type} (R:α -> β -> Prop):List α -> List β -> Prop
 | nil:F2 R [] []
 | cons {x y xs ys}:R x y -> F2 R xs ys -> F2 R (x :: xs) (y :: ys)
section
variable {prog:Program} {w:World} {K:Type} [DecidableEq K]
def zT8 (knd:KeyKind prog w K) (e:Int × Value) (k:K):Prop:=(knd.is k e.2 = true /\ e.1 = knd.hash k) /\ e.2.scannable = true
structure SetK (knd:KeyKind prog w K) (o:Obj) (es:Array (Int × Value)) (ep:Nat) (t:SetTable) (ks:List K):Prop where
 ex:o.ExactSet
 data:o.data = .set es ep t
 tab:TabOk w t
 fits:t.fits es.size = true
 bound:es.size < scanBound
 ent:∃ ks',ks'.Perm ks /\ F2 (zT8 knd) es.toList ks'
def ins (ks:List K) (k:K):List K:=if k ∈ ks then ks else ks ++ [k]
variable {knd:KeyKind prog w K} {o:Obj} {es:Array (Int × Value)} {ep:Nat} {t:SetTable} {ks:List K}
theorem zC1 {α β:Type} {R:α -> β -> Prop}:∀ {xs:List α} {ys:List β},F2 R xs ys -> xs.length = ys.length
 | _,_,.nil=>rfl
 | _,_,.cons _ h=>by simp [zC1 h]
theorem zEl {α β:Type} {R:α -> β -> Prop}:∀ {xs:List α} {ys:List β},F2 R xs ys -> ∀ x ∈ xs,∃ y ∈ ys,R x y
 | _,_,.nil,x,hx=>by cases hx
 | _,_,.cons h r,x,hx=>by
  rcases zWO.mp hx with z | z
  ·subst z; exact ⟨_,zWQ,h⟩
  ·obtain ⟨y,hy,q⟩:=zEl r x z; exact ⟨y,zWP _ hy,q⟩
theorem zGT {α β:Type} {R:α -> β -> Prop}:∀ {xs:List α} {ys:List β},F2 R xs ys -> ∀ y ∈ ys,∃ x ∈ xs,R x y
 | _,_,.nil,x,hx=>by cases hx
 | _,_,.cons h r,x,hx=>by
  rcases zWO.mp hx with z | z
  ·subst z; exact ⟨_,zWQ,h⟩
  ·obtain ⟨y,hy,q⟩:=zGT r x z; exact ⟨y,zWP _ hy,q⟩
theorem zE8 {α β:Type} {R:α -> β -> Prop}:∀ {xs:List α} {ys:List β} {us:List α} {vs:List β},F2 R xs ys -> F2 R us vs -> F2 R (xs ++ us) (ys ++ vs)
 | _,_,_,_,.nil,h=>h
 | _,_,_,_,.cons h r,q=> .cons h (zE8 r q)
theorem zGB {α β:Type} {R:α -> β -> Prop} {xs xs':List α} (p:xs'.Perm xs):∀ {ys:List β},F2 R xs ys -> ∃ ys',ys'.Perm ys /\ F2 R xs' ys':=by
 have p':=p.symm;clear p;induction p' with
 | nil=>intro ys h; exact ⟨ys,.refl _,h⟩
 | cons x _ ih=>
  intro ys h;cases h with
  | cons h r=>
   obtain ⟨ys',q1,q2⟩:=ih r;exact ⟨_,q1.cons _,.cons h q2⟩
 | swap x y l=>
  intro ys h;cases h with
  | cons h r=>
   cases r with
   | cons h2 r=>
    exact ⟨_,List.Perm.swap _ _ _,.cons h2 (.cons h r)⟩
 | trans _ _ ih1 ih2=>
  intro ys h;obtain ⟨ys',q1,q2⟩:=ih1 h;obtain ⟨ys'',r1,r2⟩:=ih2 q2;exact ⟨ys'',r1.trans q1,r2⟩
theorem SetK.size (h:SetK knd o es ep t ks):es.size = ks.length:=by
 obtain ⟨ks',p,f⟩:=h.ent;rw [<- p.length_eq,<- zC1 f,zWv]
theorem SetK.elems (h:SetK knd o es ep t ks):ElemsOf knd es.toList:=fun e he=>by
 obtain ⟨ks',p,f⟩:=h.ent;obtain ⟨k,_,q⟩:=zEl f e he;exact ⟨⟨k,q.1⟩,q.2⟩
theorem SetK.mem (h:SetK knd o es ep t ks) (k:K):k ∈ ks ↔ ∃ e ∈ es.toList,knd.is k e.2 = true:=by
 obtain ⟨ks',p,f⟩:=h.ent;rw [<- p.mem_iff];constructor
 ·intro hk;obtain ⟨e,he,q⟩:=zGT f k hk;exact ⟨e,he,q.1.1⟩
 ·rintro ⟨e,he,q⟩;obtain ⟨k',hk',q'⟩:=zEl f e he;rw [knd.inj e.2 k k' q q'.1.1]; exact hk'
variable {A:Around} {E:Value -> Shared -> Prop} {s:Shared} {a:Addr} {k:K} {x:Value}
theorem SetK.typeIs (h:SetK knd o es ep t ks) (ho:s.heap.get? a = some o):s.TypeIs (.ref a) "set" := ⟨o,ho,h.ex.1⟩
theorem zJb {h:Heap} (ho:h.get? a = some o) (hd:o.data = .set es ep t) :
  (h.update a (Obj.putSet es' t')).get? a = some { o with data:=.set es' (ep + 1) t' }:=by
 have:=zWz (Obj.putSet es' t') ho (by rw [putSet_of es' t' hd]; rfl);rw [putSet_of es' t' hd] at this; exact this
theorem zEZ {Q:Bool -> Shared -> Prop} (hkey:knd.is k x = true) (hsc:x.scannable = true) (ho:s.heap.get? a = some o) (hS:SetK knd o es ep t ks) (hroom:ks.length + 1 < scanBound)
  (h:∀ h' o' es' ep' t' b,Heap.SameBut a s.heap h' -> h'.get? a = some o' -> SetK knd o' es' ep' t' (ins ks k) -> Q b { s with heap:=h' }) :
  wpAny (model prog w) A (setAddHashed a x (knd.hash k)) Q E s:=by
 have hd:=hS.data;have hf:=hS.fits;have hel:=hS.elems;have hb:=hS.bound;have hb1:es.size + 1 < scanBound:=by rw [hS.size]; exact hroom
 unfold setAddHashed setAddHashedIn;refine zW5 (zWC (wpAny_setState_of ho hd hf ?_));dsimp only;rw [byScan_of hsc hb hel];simp only [↓reduceIte];unfold setAddByScan;refine zWC ?_;refine zWC (wpAny_rule ?_);refine zWC (wpAny_setScan_of hkey ho hd hf hel ?_);cases hr:List.findIdx? (fun e=>knd.is k e.2) es.toList with
 | some j=>
  dsimp only;obtain ⟨hj,hpj,_⟩:=List.findIdx?_eq_some_iff_getElem.mp hr;have hSk:k ∈ ks:=(hS.mem k).mpr ⟨es.toList[j],zWk hj,hpj⟩;refine zWE (zWE ?_);have e:s = { s with heap:=s.heap }:=by cases s; rfl
  rw [e];refine h s.heap o es ep t _ (Heap.SameBut.refl a s.heap) ho ?_;unfold ins;rw [zWR hSk]; exact hS
 | none=>
  dsimp only;have hSk:k ∉ ks:=fun hk=>by
   obtain ⟨e,he,hp⟩:=(hS.mem k).mp hk; have:=List.findIdx?_eq_none_iff.mp hr e he; rw [hp] at this; exact Bool.noConfusion this
  have hgw:∀ (b:Bool) {s₁:Shared} {Q':Unit -> Shared -> Prop},Q' () s₁ -> wpAny (model prog w) A (match b with | true=>rule "set.scan.the-table-gave-way" | false=>pure ()) Q' E s₁ :=
   fun b s₁ Q' hq=>by cases b <;> first | exact zWE hq | exact wpAny_rule hq
  have hperm:=layNew_perm t es (knd.hash k) x;have hfits:=layNew_fits t es (knd.hash k) x;have htab:=hS.tab.layNew es (knd.hash k) x;generalize hL:layNew t es (knd.hash k) x = L at hperm hfits htab ⊢;obtain ⟨es1,t1,wasDummy,gave⟩:=L;dsimp only at hperm hfits htab ⊢;rw [Array.toList_push] at hperm;have hb1':es1.size < scanBound:=by rw [<- zWv,hperm.length_eq,zWS,zWv]; simpa using hb1
  obtain ⟨ks',p,f⟩:=hS.ent;have f1:F2 (zT8 knd) (es.toList ++ [(knd.hash k,x)]) (ks' ++ [k]):=zE8 f (.cons ⟨⟨hkey,rfl⟩,hsc⟩ .nil);obtain ⟨ks1,p1,f2⟩:=zGB hperm f1;have pI:ks1.Perm (ins ks k):=by
   unfold ins;rw [zWU hSk];exact p1.trans (p.append_right _)
  refine zWC (hgw _ ?_)
  have tail:∀ t2:SetTable,TabOk w t2 -> t2.fits es1.size = true -> wpAny (model prog w) A (do
    storeSet a es1 t2
    if (!wasDummy && t2.tooFull) = true then do
      (match (relayAll t2 es1 (SetTable.grown es1.size)).2.2 with | true=>rule "set.scan.the-table-gave-way" | false=>pure ())
      storeSet a (relayAll t2 es1 (SetTable.grown es1.size)).1 (relayAll t2 es1 (SetTable.grown es1.size)).2.1;pure (some true)
     else pure (some true)) (fun r s'=>wpAny (model prog w) A (match r with | some added=>pure added | none=>setAddHashedIn a x (knd.hash k) 99999) Q E s') E s:=by
   intro t2 T2 F2;refine zWC (wpAny_storeSet_of ho hd ?_ (fits_of_scanBound hb1'));have g1:=zJb (es':=es1) (t':=t2) ho hd;have sb1:=zXF s.heap a (Obj.putSet es1 t2);have S1:SetK knd { o with data:=.set es1 (ep + 1) t2 } es1 (ep + 1) t2 (ins ks k):=⟨hS.ex,rfl,T2,F2,hb1',ks1,pI,f2⟩;split
   ·have hp:=relayAll_perm t2 es1 (SetTable.grown es1.size);have hfr:=relayAll_fits t2 es1 (SetTable.grown es1.size);have htr:=T2.relayAll es1 (SetTable.grown es1.size);generalize hRl:relayAll t2 es1 (SetTable.grown es1.size) = Rl at hp hfr htr ⊢;obtain ⟨es2,t3,gave2⟩:=Rl;dsimp only at hp hfr htr ⊢;have hsz:es2.size = es1.size:=by rw [<- zWv,hp.length_eq,zWv]
    have hb2:es2.size < scanBound:=by rw [hsz]; exact hb1'
    obtain ⟨ks2,p2,f3⟩:=zGB hp f2;refine zWC (hgw _ ?_);refine zWC (wpAny_storeSet_of g1 rfl ?_ (fits_of_scanBound hb2));have g2:=zJb (es':=es2) (t':=t3) g1 rfl;exact zWE (zWE (h _ _ _ _ _ _ (sb1.trans (zXF _ a _)) g2 ⟨hS.ex,rfl,htr,hfr,hb2,ks2,p2.trans pI,f3⟩))
   ·exact zWE (zWE (h _ _ _ _ _ _ sb1 g1 S1))
  split
  ·refine zWC ?_;rw [hashByValue_scannable 8 hsc];refine zWE ?_;refine tail _ ?_ ?_
   ·split
    ·exact htab
    ·exact htab.plain _
   ·split
    ·exact hfits
    ·exact SetTable.fits_plain_off hfits
  ·refine zWC (zWE ?_);simp only [↓reduceIte];exact tail _ htab hfits
theorem zP5 (hkey:knd.is k x = true) (hsc:x.scannable = true) (ho:s.heap.get? a = some o) (hS:SetK knd o es ep t ks) (hroom:ks.length + 1 < scanBound)
  (h:∀ h' o' es' ep' t',Heap.SameBut a s.heap h' -> h'.get? a = some o' -> SetK knd o' es' ep' t' (ins ks k) -> Q .none { s with heap:=h',toks:=s.toks + 1 }) :
  wpAny (model prog w) A (call (.builtin "set.add") [.ref a,x]) Q E s:=by
 refine zWp F.slot_set_add (hS.typeIs ho) F.entry_set_add ?_ (F.args_set_add_2 _ _);unfold Builtin.«set.add» Builtin.Frozenset.oneOther;simp only [List.isEmpty_nil,bind_assoc];unfold Builtin.Frozenset.addrOf setAdd;refine zWC (zWE ?_);try dsimp only
 refine zWC (zWE ?_);try dsimp only
 refine zWC ?_;refine zW5 ?_;refine zWC (knd.pyHash hkey ?_);refine zEZ (s:={ s with toks:=s.toks + 1 }) hkey hsc ho hS hroom fun h' o' es' ep' t' b hsb ho' hS'=>?_;show wpAny _ _ (ret Value.none) _ _ _;exact zWE ⟨_,rfl,h h' o' es' ep' t' hsb ho' hS'⟩
def zn (w:World):Obj:={ cls:=.type "set", dict:=none,data:=.set #[] 0 (.fresh 0 0 (!w.params.followText "set-order")) }
theorem SetK.fresh:SetK knd (zn w) #[] 0 (.fresh 0 0 (!w.params.followText "set-order")) []:=⟨⟨rfl,rfl,rfl⟩,rfl,.fresh,by rfl,by decide,[],.refl _,.nil⟩
theorem zPK (h:Q (.ref s.heap.objs.size) { s with heap:=s.heap.push (zn w) }) :
  wpAny (model prog w) A (newSet (.type "set")) Q E s:=by
 unfold newSet setsByText;refine zWC (zWC (wpAny_askSetting (zWE ?_)));dsimp only;simp only [newObj];exact zWC (wpAny_alloc (zWE h))
end
open PySem.Spec PyProof.Rows
open Sem (wp)
theorem zK8:Manifest.owners.lookup (String.ofList ['r','o','t','a','r','e','t','i','_','t','e','s'].reverse) = some Manifest.sig_set_iterator:=by kernel_rfl
theorem zAW:Slot "set_iterator" "__next__" "set_iterator.__next__" := .of (owner := "set_iterator") (n := "__next__") (by rw [typeLookup_type,builtinLookup_eq_fast]; kernel_rfl) (by decide +kernel) (by decide +kernel) (by decide +kernel) (by first | exact .inl (by decide +kernel) | exact .inr (by decide +kernel)) (by rw [isSubtype_type]; kernel_rfl)
theorem zGE:Slot "set_iterator" "__iter__" "set_iterator.__iter__" := .of (owner := "set_iterator") (n := "__iter__") (by rw [typeLookup_type,builtinLookup_eq_fast]; kernel_rfl) (by decide +kernel) (by decide +kernel) (by decide +kernel) (by first | exact .inl (by decide +kernel) | exact .inr (by decide +kernel)) (by rw [isSubtype_type]; kernel_rfl)
theorem zCs (a:Value):argsOk "set_iterator.__next__" ⟨[a],[]⟩:=by
 unfold argsOk; rw [signature?_of (id := "set_iterator.__next__") (n:=['_','_','t','x','e','n','_','_']) (o:=['r','o','t','a','r','e','t','i','_','t','e','s']) (by kernel_rfl) zK8]; kernel_rfl
theorem zKW (a:Value):argsOk "set_iterator.__iter__" ⟨[a],[]⟩:=by
 unfold argsOk; rw [signature?_of (id := "set_iterator.__iter__") (n:=['_','_','r','e','t','i','_','_']) (o:=['r','o','t','a','r','e','t','i','_','t','e','s']) (by kernel_rfl) zK8]; kernel_rfl
theorem zCP:entryFor table "set_iterator.__next__" = some Builtin.«set_iterator.__next__»:=entryFor_of_tree (by kernel_rfl)
theorem zIy:entryFor table "set_iterator.__iter__" = some Builtin.«dict_keyiterator.__iter__» :=
 entryFor_alias (id' := "dict_keyiterator.__iter__") (by kernel_rfl) (by first | rfl | decide +kernel | (unfold String.splitOn; simp +decide [String.splitOnAux])) (by decide +kernel) (by kernel_rfl)
theorem zIS:entryFor table "set.__iter__" = some Builtin.«frozenset.__iter__» :=
 entryFor_alias (id' := "frozenset.__iter__") (by kernel_rfl) rfl (by decide +kernel) (by kernel_rfl)
def zBn (f:Value) (i:Nat) (a:Addr) (n ep:Nat):Obj:={ cls:=.type "set_iterator", data:=.fields #[f,rawInt i,.ref a,rawInt n,rawInt ep] }
theorem zFx {α:Type}:∀ {l:List α} {i:Nat} (h:i < l.length),(l[i] :: l.eraseIdx i).Perm l
 | [],i,h=>by simp at h
 | x :: l,0,h=>by simp
 | x :: l,i + 1,h=>by
  have:=zFx (l:=l) (i:=i) (by simpa using h);rw [List.getElem_cons_succ,List.eraseIdx_cons_succ];exact (List.Perm.swap _ _ _).trans (this.cons x)
theorem zJK {α:Type} {l:List α} (h:i < l.length) (e:n + 1 = l.length):n = (l.eraseIdx i).length:=by
 rw [List.length_eraseIdx,zWR h]; omega
theorem zJZ {α:Type} (next:Nat -> Nat):∀ (fuel k:Nat) (left:List α) (out:Array α),fuel = left.length -> (pickOrder.go next fuel k left out).toList.Perm (out.toList ++ left)
 | 0,k,left,out,h=>by
  have:left = []:=List.length_eq_zero_iff.mp h.symm;subst this;unfold pickOrder.go;simp
 | fuel + 1,k,left,out,h=>by
  unfold pickOrder.go;have hl:0 < left.length:=by omega
  have hm:next k % left.length < left.length:=Nat.mod_lt _ hl
  rw [zWG hm];dsimp only;refine (zJZ next fuel (k + 1) _ _ (zJK hm h)).trans ?_;rw [Array.toList_push,zXI];exact (zFx hm).append_left _
theorem zE0 {α:Type} (next:Nat -> Nat) (xs:Array α):(pickOrder next xs).toList.Perm xs.toList:=by
 unfold pickOrder;simpa using zJZ next xs.size 0 xs.toList #[] (by simp)
section
variable {prog:Program} {w:World} {A:Around} {E:Value -> Shared -> Prop} {s:Shared}
theorem zJ4 (h0:n ≠ 0) (h:∀ r d,r < n -> Q r { s with drawn:=d }):wpAny (model prog w) A (choose src n) Q E s :=
 fun Γ p hΓ=>⟨h0,h _ _ (Nat.mod_lt _ (by omega))⟩
theorem zEa {α:Type}:∀ (n:Nat) (xs:List α) {s:Shared} {Q:List α -> Shared -> Prop},n = xs.length -> (∀ ys d,ys.Perm xs -> Q ys { s with drawn:=d }) -> wpAny (model prog w) A (drawOrder n xs) Q E s
 | 0,xs,s,Q,h,q=>by
  have:xs = []:=List.length_eq_zero_iff.mp h.symm;subst this;have e:s = { s with drawn:=s.drawn }:=by cases s; rfl
  rw [e];exact zWE (q [] s.drawn (.refl _))
 | n + 1,[],s,Q,h,q=>by cases h
 | n + 1,x :: xs,s,Q,h,q=>by
  unfold drawOrder;refine zWC (zJ4 (by simp) fun r d hr=>?_);rw [zWG hr];dsimp only;refine zWC (zEa n _ (zJK hr h) fun ys d' hp=>zWE ?_);exact q _ d' ((hp.cons _).trans (zFx hr))
variable {K:Type} [DecidableEq K] {knd:KeyKind prog w K} {o:Obj} {es:Array (Int × Value)} {ep:Nat} {t:SetTable} {ks:List K} {a I:Addr}
theorem zH3 (h:s.heap.get? I = some (zBn f i a n ep)):s.TypeIs (.ref I) "set_iterator" := ⟨_,h,rfl⟩
theorem zNf (hI:s.heap.get? I = some (zBn f i a n ep)) (h:Q (.ref I) s):wpAny (model prog w) A (pyIter (.ref I)) Q E s:=by
 refine wpAny_pyIter_slot (zH3 hI) zGE (zWp zGE (zH3 hI) zIy ?_ (zKW _));show wpAny _ _ (ret (.ref I)) _ _ s;exact zWE ⟨_,rfl, "set_iterator", _,zH3 hI,zAW.lookup,h⟩
structure Nexts (prog:Program) (w:World) (o:Obj) (a:Addr) (ep:Nat) (n:Nat) (at_:Nat -> Nat) (ord:List Value):Prop where
 len:ord.length = n
 nx:∀ (A:Around) (E:Value -> Shared -> Prop) (i:Nat) (s:Shared) (Q:Option (Value × Nat) -> Shared -> Prop),i <= n -> s.heap.get? a = some o -> Q ((ord[i]?).map fun x=>(x,at_ (i + 1))) s -> wpAny (model prog w) A (setNext a (at_ i) i ep) Q E s
theorem zN4 (N:Nexts prog w o a ep ks.length at_ ord) (hS:SetK knd o es ep t ks) (hI:s.heap.get? I = some (zBn (rawInt (at_ i)) i a ks.length ep)) (ho:s.heap.get? a = some o)
  (hx:ord[i]? = some x) (hQ:∀ h',h'.get? I = some (zBn (rawInt (at_ (i + 1))) (i + 1) a ks.length ep) -> Heap.SameBut I s.heap h' -> Q (some x) { s with heap:=h' }):wpAny (model prog w) A (pyNext (.ref I)) Q E s:=by
 have hT:=zH3 hI;have hi:i < ks.length:=by have:=(zWF.mp hx).1; rw [N.len] at this; exact this
 unfold pyNext;refine zWC (wpAny_attempt (zWo (name:=Str.ofString "__next__") hT zAW (zWp zAW hT zCP ?_ (zCs _))));unfold Builtin.«set_iterator.__next__» slotArgs;simp only [List.isEmpty_nil,Bool.not_true,zXD,↓reduceIte,List.length_nil,bne_self_eq_false,pure_bind,bind_assoc];refine zWC (wpAny_fieldsOf hI rfl ?_);dsimp only [rawInt];refine zWC (wpAny_setEntries_of ho hS.data hS.fits ?_);rw [zWU (by rw [hS.size]; simp)];refine zWC (N.nx _ _ i s _ (by omega) ho ?_);rw [hx];dsimp only [Option.map];refine zWC (zXx hI rfl (by simp) ?_);have e1:=zWz (Obj.mapFields fun vs=>vs.set! 0 (rawInt (at_ (i + 1)))) hI (Obj.isFreed_of_fields (zXT rfl _));refine zWC (zXx e1 (zXT rfl _) (by simp) ?_);have e2:=zWz (Obj.mapFields fun vs=>vs.set! 1 (rawInt ((i:Int) + 1))) e1 (Obj.isFreed_of_fields (zXT (zXT rfl _) _));refine zWE ⟨x,rfl,zWE (hQ _ ?_ ((zXF ..).trans (zXF ..)))⟩;refine e2.trans ?_;simp [Obj.mapFields,zBn,rawInt]
end
open Sem (wp)
section
variable {prog:Program} {w:World} {A:Around} {E:Value -> Shared -> Prop} {s:Shared}
variable {K:Type} [DecidableEq K] {knd:KeyKind prog w K} {o:Obj} {es:Array (Int × Value)} {ep:Nat} {t:SetTable} {ks:List K} {a I:Addr}
theorem zH7 (hh:A.handled = none) (N:Nexts prog w o a ep ks.length at_ ord) (hS:SetK knd o es ep t ks) (hI:s.heap.get? I = some (zBn (rawInt (at_ ks.length)) ks.length a ks.length ep)) (ho:s.heap.get? a = some o)
  (hQ:∀ h',Heap.ExtBut I s.heap h' -> Q none { s with heap:=h' }):wpAny (model prog w) A (pyNext (.ref I)) Q E s:=by
 have hT:=zH3 hI;unfold pyNext;refine zWC (wpAny_attempt (zWo (name:=Str.ofString "__next__") hT zAW (zWp zAW hT zCP ?_ (zCs _))));unfold Builtin.«set_iterator.__next__» slotArgs;simp only [List.isEmpty_nil,Bool.not_true,zXD,↓reduceIte,List.length_nil,bne_self_eq_false,pure_bind,bind_assoc];refine zWC (wpAny_fieldsOf hI rfl ?_);dsimp only [rawInt];refine zWC (wpAny_setEntries_of ho hS.data hS.fits ?_);rw [zWU (by rw [hS.size]; simp)];refine zWC (N.nx _ _ ks.length s _ (zWI _) ho ?_);rw [zXL (by rw [N.len]; exact zWI _)];dsimp only [Option.map];refine zWC (zXx hI rfl (by simp) ?_);simp only [newExc,newTuple,bind_assoc,pure_bind];refine zWC (zWf (zWC (m:=firstArgMember _ _) (wpAny_of_eq (a:=Value.none) (by first | rfl | (simp only [firstArgMember]; rfl)) (zWC (zWf ?_ (by size_fits))))) (by size_fits));simp only [raiseNew];refine zWC (wpAny_handled ?_);rw [show A.in1.handled = none from hh];refine zWC (zWE (wpAny_throw ?_));refine zWC (wpAny_isInstance (T := "StopIteration") (b:=true) ⟨_,zWM _ rfl,rfl⟩ isSubtype_stop (zWE ?_));exact hQ _ (((zXF ..).extBut.push _).push _)
theorem zLk (hh:A.handled = none) (hne:a ≠ I) (N:Nexts prog w o a ep ks.length at_ ord) (hS:SetK knd o es ep t ks) :
  Walks prog w A I [I,a] [I] ks.length (fun i v=>ord[i]? = some v) (fun i h=>h.get? I = some (zBn (rawInt (at_ i)) i a ks.length ep) /\ h.get? a = some o) where
 sub:=fun b hb=>by simp at hb; simp [hb]
 frame:=fun _ _ _ st hk=>⟨hk I (by simp) _ st.1,hk a (by simp) _ st.2⟩;item:=fun i s Q E hi st hQ=>by
  have hx:ord[i]? = some (ord[i]'(by rw [N.len]; exact hi)):=zWG _;refine zN4 N hS st.1 st.2 hx fun h' hI' hs'=>?_;exact hQ _ h' s.toks hx ⟨hI',hs'.extBut a o hne st.2⟩ fun b u hb ee=>hs'.extBut b u (fun h=>hb (by simp [h])) ee
 done:=fun s Q E st hQ=>zH7 hh N hS st.1 st.2 fun h' he'=>hQ h' s.toks fun b u hb ee=>he' b u (fun h=>hb (by simp [h])) ee;self:=fun _ _ _ _ st hQ=>zNf st.1 hQ
theorem zMG {pl:List Nat} (hS:SetK knd o es ep t ks) (hl:pl.length = ks.length) (hI:s.heap.get? I = some (zBn (.ref T) i a ks.length ep)) (ho:s.heap.get? a = some o)
  (hT:IsTup s.heap T (pl.map fun (k:Nat)=>rawInt k).toArray)
  (hx:(pl[i]?).bind (fun k=>(es[k]?).map (·.2)) = some x) (hQ:∀ h',h'.get? I = some (zBn (.ref T) (i + 1) a ks.length ep) -> Heap.SameBut I s.heap h' -> Q (some x) { s with heap:=h' }):wpAny (model prog w) A (pyNext (.ref I)) Q E s:=by
 have hTy:=zH3 hI;obtain ⟨oT,hoT,hcT,nT,hdT⟩:=id hT;cases hp:pl[i]? with
 | none=>rw [hp] at hx; cases hx
 | some k=>
  rw [hp] at hx;cases he:es[k]? with
  | none=>simp only [Option.bind_some] at hx; rw [he] at hx; cases hx
  | some e=>
   simp only [Option.bind_some] at hx;rw [he] at hx;cases hx;unfold pyNext;refine zWC (wpAny_attempt (zWo (name:=Str.ofString "__next__") hTy zAW (zWp zAW hTy zCP ?_ (zCs _))));unfold Builtin.«set_iterator.__next__» slotArgs;simp only [List.isEmpty_nil,Bool.not_true,zXD,↓reduceIte,List.length_nil,bne_self_eq_false,pure_bind,bind_assoc];refine zWC (wpAny_fieldsOf hI rfl ?_);dsimp only [rawInt];refine zWC (wpAny_setEntries_of ho hS.data hS.fits ?_);rw [zWU (by rw [hS.size]; simp)];refine zWC (wpAny_seqItems hoT hdT ?_);dsimp only;have e5:(List.map (fun (k:Nat)=>rawInt k) pl).toArray[(i:Int).toNat]? = some (rawInt k):=by simp [hp]
   rw [e5];dsimp only [rawInt];unfold setNextDrawn;simp only [bind_assoc];refine zWC (wpAny_setState_of ho hS.data hS.fits ?_);dsimp only;rw [zWU (by simp)];have e6:es[(k:Int).toNat]? = some e:=by simpa using he
   rw [e6];obtain ⟨e1,e2⟩:=e;dsimp only;simp only [pure_bind];refine zWC (zXx hI rfl (by simp) ?_);refine zWE ⟨e2,rfl,zWE (hQ _ ?_ (zXF ..))⟩;refine (zWz _ hI (Obj.isFreed_of_fields (zXT rfl _))).trans ?_;simp [Obj.mapFields,zBn,rawInt]
theorem zOx {pl:List Nat} (hh:A.handled = none) (hS:SetK knd o es ep t ks) (hl:pl.length = ks.length) (hI:s.heap.get? I = some (zBn (.ref T) ks.length a ks.length ep)) (ho:s.heap.get? a = some o)
  (hT:IsTup s.heap T (pl.map fun (k:Nat)=>rawInt k).toArray) (hQ:∀ h',Heap.ExtBut I s.heap h' -> Q none { s with heap:=h' }):wpAny (model prog w) A (pyNext (.ref I)) Q E s:=by
 have hTy:=zH3 hI;obtain ⟨oT,hoT,hcT,nT,hdT⟩:=id hT;unfold pyNext;refine zWC (wpAny_attempt (zWo (name:=Str.ofString "__next__") hTy zAW (zWp zAW hTy zCP ?_ (zCs _))));unfold Builtin.«set_iterator.__next__» slotArgs;simp only [List.isEmpty_nil,Bool.not_true,zXD,↓reduceIte,List.length_nil,bne_self_eq_false,pure_bind,bind_assoc];refine zWC (wpAny_fieldsOf hI rfl ?_);dsimp only [rawInt];refine zWC (wpAny_setEntries_of ho hS.data hS.fits ?_);rw [zWU (by rw [hS.size]; simp)];refine zWC (wpAny_seqItems hoT hdT ?_);dsimp only;have e5:(List.map (fun (k:Nat)=>rawInt k) pl).toArray[(ks.length:Int).toNat]? = none:=by simp [hl]
 rw [e5];dsimp only [rawInt];refine zWC (zXx hI rfl (by simp) ?_);have e1:=zWz (Obj.mapFields fun vs=>vs.set! 0 (rawInt 0)) hI (Obj.isFreed_of_fields (zXT rfl _));refine zWC (zXx e1 (zXT rfl _) (by simp) ?_);simp only [newExc,newTuple,bind_assoc,pure_bind];refine zWC (zWf (zWC (m:=firstArgMember _ _) (wpAny_of_eq (a:=Value.none) (by first | rfl | (simp only [firstArgMember]; rfl)) (zWC (zWf ?_ (by size_fits))))) (by size_fits));simp only [raiseNew];refine zWC (wpAny_handled ?_);rw [show A.in1.handled = none from hh];refine zWC (zWE (wpAny_throw ?_));refine zWC (wpAny_isInstance (T := "StopIteration") (b:=true) ⟨_,zWM _ rfl,rfl⟩ isSubtype_stop (zWE ?_));exact hQ _ ((((zXF ..).trans (zXF ..)).extBut.push _).push _)
theorem zLp {pl:List Nat} (hh:A.handled = none) (hne:a ≠ I) (hneT:T ≠ I) (hS:SetK knd o es ep t ks) (hl:pl.length = ks.length) (hb:∀ k ∈ pl,k < es.size) :
  Walks prog w A I [I,a,T] [I] ks.length (fun i v=>(pl[i]?).bind (fun k=>(es[k]?).map (·.2)) = some v) (fun i h=>h.get? I = some (zBn (.ref T) i a ks.length ep) /\ h.get? a = some o /\ IsTup h T (pl.map fun (k:Nat)=>rawInt k).toArray) where
 sub:=fun b hb=>by simp at hb; simp [hb]
 frame:=fun _ _ _ st hk=>⟨hk I (by simp) _ st.1,hk a (by simp) _ st.2.1,let ⟨oT,ho,r⟩:=st.2.2; ⟨oT,hk T (by simp) oT ho,r⟩⟩;item:=fun i s Q E hi st hQ=>by
  have hi':i < pl.length:=by rw [hl]; exact hi
  have hk:pl[i] < es.size:=hb _ (zWk hi');have hx:(pl[i]?).bind (fun k=>(es[k]?).map (·.2)) = some (es[pl[i]].2):=by
   rw [zWG hi']; simp [hk]
  refine zMG hS hl st.1 st.2.1 st.2.2 hx fun h' hI' hs'=>?_;exact hQ _ h' s.toks hx ⟨hI',hs'.extBut a o hne st.2.1,st.2.2.extBut hs'.extBut hneT⟩ fun b u hb ee=>hs'.extBut b u (fun h=>hb (by simp [h])) ee
 done:=fun s Q E st hQ=>zOx hh hS hl st.1 st.2.1 st.2.2 fun h' he'=>hQ h' s.toks fun b u hb ee=>he' b u (fun h=>hb (by simp [h])) ee;self:=fun _ _ _ _ st hQ=>zNf st.1 hQ
end
open Sem (wp)
theorem zOW {prog:Program} {w:World} {A:Around} {I:Addr} {fp wr:List Addr} {n:Nat} {P P':Nat -> Value -> Prop} {St:Nat -> Heap -> Prop} (W:Walks prog w A I fp wr n P St) (h:∀ i v,P i v -> P' i v):Walks prog w A I fp wr n P' St where
 sub:=W.sub;frame:=W.frame;item:=fun i s Q E hi st hQ=>W.item i s Q E hi st fun v h' tk hP=>hQ v h' tk (h i v hP);done:=W.done;self:=W.self
section
variable {prog:Program} {w:World} {A:Around} {E:Value -> Shared -> Prop} {s:Shared}
variable {K:Type} [DecidableEq K] {knd:KeyKind prog w K} {o:Obj} {es:Array (Int × Value)} {ep:Nat} {t:SetTable} {ks:List K} {a I:Addr}
theorem zDS (h:Q (w.params.followText "set-order") s):wpAny (model prog w) A setsByText Q E s:=by
 unfold setsByText;exact zWC (wpAny_askSetting (zWE h))
theorem zMb (hS:SetK knd o es ep t ks) (hT:w.params.followText "set-order" = true):Nexts prog w o a ep ks.length (fun _=>0) ((pickOrder (w.params.setOrder a ep) es).toList.map (·.2)) where
 len:=by rw [zWL,(zE0 _ es).length_eq,zWv,hS.size]
 nx:=fun A E i s Q hi ho hQ=>by
  unfold setNext;refine zWC (wpAny_setState_of ho hS.data hS.fits ?_);dsimp only;refine zWC (zDS ?_);rw [hT,zWR rfl,zWU (by simp)];refine zWC ?_;unfold setWalk;refine zWC (wpAny_setState_of ho hS.data hS.fits ?_);dsimp only;refine zWC (zDS ?_);rw [hT,zWR rfl];refine zWC (wpAny_askSetting (zWE ?_));refine zWE ?_;have e:(Option.map (fun (e:Int × Value)=>(e.2,0)) (pickOrder (w.params.setOrder a ep) es)[i]?) = Option.map (fun x=>(x,0)) ((pickOrder (w.params.setOrder a ep) es).toList.map (·.2))[i]?:=by
   rw [zWZ,zXr];cases (pickOrder (w.params.setOrder a ep) es)[i]? <;> rfl
  show Q (Option.map (fun (e:Int × Value)=>(e.2,0)) (pickOrder (w.params.setOrder a ep) es)[i]?) s;rw [e]; exact hQ
def zMZ (t:SetTable):Nat -> Nat
 | 0=>0
 | i + 1=>t.place.getD i 0 + 1
theorem zQY (h:Up t.place) (hi:i <= t.place.size):SetTable.below t.place (zMZ t i) = i:=by
 cases i with
 | zero=>exact zMX h
 | succ i=>
  show SetTable.below t.place (t.place.getD i 0 + 1) = i + 1;have hl:i < t.place.size:=by omega
  have e:t.place.getD i 0 = t.place[i]:=by simp [Array.getD,hl]
  rw [e]; exact zMc h hl
theorem zOd (hS:SetK knd o es ep t ks):t.place.size = es.size:=by
 have:=hS.fits;simp only [SetTable.fits,zWm,beq_iff_eq] at this;exact this.1
theorem zLE (hS:SetK knd o es ep t ks) (hT:w.params.followText "set-order" = false) (hd:(!t.plain && decide (es.size > 1)) = false):Nexts prog w o a ep ks.length (zMZ t) (es.toList.map (·.2)) where
 len:=by rw [zWL,zWv,hS.size]
 nx:=fun A E i s Q hi ho hQ=>by
  have hz:=zOd hS;unfold setNext;refine zWC (wpAny_setState_of ho hS.data hS.fits ?_);dsimp only;refine zWC (zDS ?_);rw [hT,zWU (by decide)];show wpAny _ _ (if (!t.plain && decide (es.size > 1)) = true then _ else _) _ _ _;rw [zWU (by rw [hd]; decide)];have hl:t.led = true:=by rw [hS.tab.led,hT]; rfl
  refine zWC ?_;show wpAny _ _ (if (!t.led && !es.isEmpty) = true then unsupported "set:maker-not-led" else pure ()) _ _ _;rw [zWU (by rw [hl]; simp)];refine zWE ?_;rw [zQY hS.tab.up (by rw [hz,hS.size]; exact hi)];refine zWE ?_;rw [zWZ,zXr] at hQ;by_cases q:i < es.size
  ·have q2:i < t.place.size:=by rw [hz]; exact q
   rw [zWx q,zWx q2];rw [zWx q] at hQ;have e:zMZ t (i + 1) = t.place[i] + 1:=by
    show t.place.getD i 0 + 1 = _;simp [Array.getD,q2]
   simp only [Option.map] at hQ;rw [e] at hQ;exact hQ
  ·have:i = es.size:=by rw [hS.size] at q ⊢; omega
   rw [Array.getElem?_eq_none (by omega)] at hQ ⊢;exact hQ
theorem zRW (ho:s.heap.get? a = some o) (hS:SetK knd o es ep t ks)
  (h:∀ (h':Heap) (d:Drawn) (I:Addr) (fp:List Addr) (ord:List Value) (St:Nat -> Heap -> Prop),(∀ b u,s.heap.get? b = some u -> h'.get? b = some u) -> s.heap.objs.size <= I -> (∀ b ∈ fp,b < h'.objs.size /\ (b = a \/ s.heap.objs.size <= b)) ->
   (∀ A:Around,A.handled = none -> Walks prog w A I fp [I] ks.length (fun i v=>ord[i]? = some v) St) -> St 0 h' -> ord.Perm (es.toList.map (·.2)) -> Q (.ref I) { s with heap:=h',drawn:=d }) :
  wpAny (model prog w) A (pyIter (.ref a)) Q E s:=by
 have hT:=hS.typeIs ho;have hal:a < s.heap.objs.size:=zWN ho;refine wpAny_pyIter_slot hT F.slot_set_iter (zWp F.slot_set_iter hT zIS ?_ (F.args_set_iter_1 _));unfold Builtin.«frozenset.__iter__» Builtin.Frozenset.slot0 slotArgs Builtin.Frozenset.addrOf Builtin.Frozenset.sizeOf;simp only [List.isEmpty_nil,Bool.not_true,zXD,↓reduceIte,List.length_nil,bne_self_eq_false,pure_bind,bind_assoc];refine zWC (wpAny_setEntries_of ho hS.data hS.fits ?_);unfold setDrawn;simp only [bind_assoc];refine zWC (wpAny_setState_of ho hS.data hS.fits ?_);dsimp only;refine zWC (zDS ?_);simp only [pure_bind];have hsz:=hS.size;have plain:∀ (at_:Nat -> Nat) (ord:List Value),at_ 0 = 0 -> Nexts prog w o a ep ks.length at_ ord -> ord.Perm (es.toList.map (·.2)) -> Q (.ref s.heap.objs.size) { s with heap:=s.heap.push (zBn (rawInt 0) 0 a ks.length ep) }:=by
  intro at_ ord h0 N hp;have e:s.heap.push (zBn (rawInt 0) 0 a ks.length ep) = s.heap.push (zBn (rawInt 0) 0 a ks.length ep):=rfl
  have:=h (s.heap.push (zBn (rawInt 0) 0 a ks.length ep)) s.drawn s.heap.objs.size [s.heap.objs.size,a] ord (fun i h=>h.get? s.heap.objs.size = some (zBn (rawInt (at_ i)) i a ks.length ep) /\ h.get? a = some o)
   (fun b u e=>zWD _ e) (zWI _) (fun b hb=>by
    rw [zWs];rcases zWO.mp hb with z | z
    ·rw [z]; exact ⟨zW9 _,.inr (zWI _)⟩
    ·rw [zWe.mp z]; exact ⟨zW1 hal,.inl rfl⟩)
   (fun A hh=>zLk hh (zWX hal) N hS) ⟨by rw [h0]; exact zWM _ rfl,zWD _ ho⟩ hp
  exact this
 have mk:∀ (s1:Shared) (f:Value) (hv:s1.heap.get? a = some o) {Q':Fin -> Shared -> Prop},Q' (.done (.ret (.ref s1.heap.objs.size))) { s1 with heap:=s1.heap.push (zBn f 0 a ks.length ep) } -> wpAny (model prog w) A.in1 (do
   let e <- setEpoch a;let r <- newFields "set_iterator" [f,rawInt 0,Value.ref a,rawInt es.size,rawInt e];ret r) Q' E s1:=by
  intro s1 f hv Q' hq;refine zWC (wpAny_setEpoch_of hv hS.data hS.fits ?_);unfold newFields;refine zWC (zWf (zWE ?_));rw [hsz]; exact hq
 have ty:∀ (s1:Shared) (f:Value),(∃ T' r,Shared.TypeIs { s1 with heap:=s1.heap.push (zBn f 0 a ks.length ep) } (.ref s1.heap.objs.size) T' /\ typeLookup (Value.type T') (Str.ofString "__next__") = pure (some r) /\ True):=fun s1 f=>⟨"set_iterator", _,⟨_,zWM _ rfl,rfl⟩,zAW.lookup,trivial⟩;show wpAny _ _ (if (!w.params.followText "set-order" && (!t.plain && decide (es.size > 1))) = true then _ else _) _ _ _;by_cases hc:(!w.params.followText "set-order" && (!t.plain && decide (es.size > 1))) = true
 ·rw [zWR hc];refine zWC (zEa _ _ (by simp) fun pl d hp=>?_);refine zWC ?_;unfold newTuple;have hpl:pl.length = ks.length:=by rw [hp.length_eq,zX9,hsz]
  refine zWf ?_ (by
   show (List.map (fun (i:Nat)=>rawInt i) pl).toArray.size <= sizeLine;rw [zWK,zWL,hpl,<- hsz]; exact fits_of_scanBound hS.bound)
  generalize hH:s.heap.push { cls:=.type "tuple", data:=.seq (List.map (fun (i:Nat)=>rawInt i) pl).toArray } = H;have kH:∀ b u,s.heap.get? b = some u -> H.get? b = some u:=fun b u e=>by rw [<- hH]; exact zWD _ e
  have hT1:IsTup H s.heap.objs.size (pl.map fun (k:Nat)=>rawInt k).toArray:=⟨_,by rw [<- hH]; exact zWM _ rfl,rfl,0,rfl⟩;have szH:H.objs.size = s.heap.objs.size + 1:=by rw [<- hH]; exact zWs ..
  have szlt:s.heap.objs.size < H.objs.size:=by rw [szH]; exact zW9 _
  have alt:a < H.objs.size:=Nat.lt_trans hal szlt;refine mk { s with heap:=H,drawn:=d } (.ref s.heap.objs.size) (kH _ _ ho) ?_;obtain ⟨T',r,e1,e2,_⟩:=ty { s with heap:=H,drawn:=d } (.ref s.heap.objs.size);refine ⟨_,rfl,T',r,e1,e2,?_⟩;have kH2:∀ b u,s.heap.get? b = some u -> (H.push (zBn (.ref s.heap.objs.size) 0 a ks.length ep)).get? b = some u:=fun b u e=>zWD _ (kH b u e);refine h _ d H.objs.size [H.objs.size,a,s.heap.objs.size] (pl.map fun k=>((es[k]?).map (·.2)).getD .none) (fun i h=>h.get? H.objs.size = some (zBn (.ref s.heap.objs.size) i a ks.length ep) /\ h.get? a = some o /\ IsTup h s.heap.objs.size (pl.map fun (k:Nat)=>rawInt k).toArray) kH2 (by rw [szH]; exact zXu _) (fun b hb=>?_) (fun A hh=>?_) ⟨zWM _ rfl,kH2 a o ho,?_⟩ ?_
  ·rw [zWs];simp only [zWO,zWh,or_false] at hb;rcases hb with z | z | z
   ·rw [z]; exact ⟨zW9 _,.inr (Nat.le_of_lt szlt)⟩
   ·rw [z]; exact ⟨zW1 alt,.inl rfl⟩
   ·rw [z]; exact ⟨zW1 szlt,.inr (zWI _)⟩
  ·have hb:∀ k ∈ pl,k < es.size:=fun k hk=>by have:=hp.mem_iff.mp hk; simpa using this
   refine zOW (zLp hh (a:=a) (I:=H.objs.size) (T:=s.heap.objs.size) (zWX alt) (zWX szlt) hS hpl hb) fun i v hv=>?_;rw [zWZ];cases q:pl[i]? with
   | none=>rw [q] at hv; cases hv
   | some k=>
    rw [q] at hv;simp only [Option.bind_some] at hv;rw [Option.map_some,hv]; rfl
  ·exact hT1.push _
  ·have e:es.toList.map (·.2) = (List.range es.size).map fun k=>((es[k]?).map (·.2)).getD .none:=by
    apply List.ext_getElem?;intro i;rw [zWZ,zWZ,zXr];by_cases q:i < es.size
    ·rw [List.getElem?_range q,zWx q]; simp [q]
    ·rw [Array.getElem?_eq_none (by omega),zXL (by simp; omega)]; rfl
   rw [e];exact hp.map _
 ·rw [zWU hc];refine mk s (rawInt 0) ho ?_;obtain ⟨T',r,e1,e2,_⟩:=ty s (rawInt 0);refine ⟨_,rfl,T',r,e1,e2,?_⟩;cases hX:w.params.followText "set-order" with
  | true=>exact plain _ _ rfl (zMb hS hX) ((zE0 _ es).map _)
  | false=>
   rw [hX] at hc;exact plain _ _ rfl (zLE hS hX (by simpa using hc)) (.refl _)
end
open Sem (wp)
section
variable {prog:Program} {w:World} {A:Around} {E:Value -> Shared -> Prop} {s:Shared}
variable {K:Type} [DecidableEq K] {knd:KeyKind prog w K} {o:Obj} {es:Array (Int × Value)} {ep:Nat} {t:SetTable} {ks:List K} {a I:Addr}
theorem zQt:isSubtype (.type "set") (.type "set") = pure true:=sub_set_self
theorem zOC (hT:s.TypeIs (.ref a) "set") (h:Q false s):wpAny (model prog w) A (Builtin.List.listLengthHint (.ref a)) Q E s:=by
 unfold Builtin.List.listLengthHint;refine zWC (wpAny_specialOf hT F.slot_set_len.lookup ?_);have hsp:splitId "set.__len__" = some ("set", "__len__"):=by decide +kernel
 dsimp only;rw [hsp];dsimp only;refine zWC (wpAny_isInstance hT zQt ?_);rw [zWU (by decide),zWR (by decide +kernel)];refine zWC (wpAny_typeOf hT ?_);exact zWE h
theorem zLQ (hh:A.handled = none) (ho:s.heap.get? a = some o) (hS:SetK knd o es ep t ks)
  (hQ:∀ (s':Shared) (acc:List Value),(∀ b u,s.heap.get? b = some u -> s'.heap.get? b = some u) -> s'.os = s.os -> s'.gens = s.gens -> acc.Perm (es.toList.map (·.2)) -> Q acc s'):wpAny (model prog w) A (collect (.ref a)) Q E s:=by
 have hal:a < s.heap.objs.size:=zWN ho;have hn:ks.length <= sizeLine:=by rw [<- hS.size]; exact fits_of_scanBound hS.bound
 unfold collect;refine zWC (wpAny_runValue (zXH F.entry_proto_collect ?_));rw [zW7 F.plain_proto_collect _];show wpAny _ A.in1 (newList [] >>= fun l=>again (.builtin "list.__iadd__" ⟨[l,.ref a],[]⟩)) _ _ s;refine zWC (zWf (zWE ⟨plainId_quiet F.plain_list_iadd _,zXH F.entry_list_iadd ?_⟩));rw [zW7 F.plain_list_iadd _];generalize hH:s.heap.push { cls:=.type "list", data:=.seq ([]:List Value).toArray } = H;have kH:∀ b u,s.heap.get? b = some u -> H.get? b = some u:=fun b u e=>by rw [<- hH]; exact zWD _ e
 have szH:H.objs.size = s.heap.objs.size + 1:=by rw [<- hH]; exact zWs ..
 have hL1:H.get? s.heap.objs.size = some { cls:=.type "list", data:=.seq ([]:List Value).toArray }:=by rw [<- hH]; exact zWM _ rfl
 have ho1:=kH a o ho;show wpAny _ A.in1 (Builtin.List.listExtendWith (.ref s.heap.objs.size) (.ref a) (.ref s.heap.objs.size)) _ _ { s with heap:=H };unfold Builtin.List.listExtendWith;have hT1:Shared.TypeIs { s with heap:=H } (.ref a) "set" := ⟨o,ho1,hS.ex.1⟩;refine zWC (wpAny_typeOf hT1 ?_);have hneL:s.heap.objs.size ≠ a:=zXh hal;have h1:Builtin.List.listSameRef (.ref s.heap.objs.size) (.ref a) = false:=by simp [Builtin.List.listSameRef,hneL]
 have h2:(Value.type "set" == Value.type "list") = false:=by decide
 have h3:(Value.type "set" == Value.type "tuple") = false:=by decide
 simp only [h1,h2,h3,Bool.or_false,zXD,if_false];refine zWC (zRW (s:={ s with heap:=H }) ho1 hS fun h2 d I fp ord St k2 hI2 hfp W st0 hp=>?_);have ho2:=k2 a o ho1;refine zWC (zW5 (zOC (s:={ s with heap:=h2,drawn:=d }) ⟨o,ho2,hS.ex.1⟩ ?_));rw [zWR (by decide +kernel)];refine zWC (wpAny_rule (zWC ?_));show wpAny _ A.in1 (updateSeq s.heap.objs.size (·.push .none) >>= fun _=>updateSeq s.heap.objs.size (·.pop)) _ _ _;have hL2:=k2 _ _ hL1;refine zWC (wpAny_updateSeq (s:={ s with heap:=h2,drawn:=d }) hL2 rfl ?_);have hS2:=zWz (Obj.mapSeq (·.push Value.none)) hL2 rfl;refine wpAny_updateSeq hS2 rfl ?_;have hS3:=zWz (Obj.mapSeq (·.pop)) hS2 rfl;generalize hH3:(h2.update s.heap.objs.size (Obj.mapSeq (·.push Value.none))).update s.heap.objs.size (Obj.mapSeq (·.pop)) = H3 at hS3;have oth:∀ b u,b ≠ s.heap.objs.size -> h2.get? b = some u -> H3.get? b = some u:=fun b u hb e=>by
  rw [<- hH3]; exact (zWt _ _ (Ne.symm hb)).trans ((zWt _ _ (Ne.symm hb)).trans e)
 have hSf:s.heap.objs.size ∉ fp:=fun hm=>by
  rcases (hfp _ hm).2 with z | z
  ·exact hneL z
  ·have z':H.objs.size <= s.heap.objs.size:=z;rw [szH] at z'; exact absurd z' (Nat.not_succ_le_self _)
 have WS:=(W A.in1.in1 hh).toS;have st3:St 0 H3:=(W A.in1.in1 hh).frame 0 _ _ st0 fun b hb u e=>oth b u (fun z=>hSf (z ▸ hb)) e;have hI3:I ≠ s.heap.objs.size:=fun z=>by
  have z':H.objs.size <= I:=hI2;rw [szH,z] at z'; exact absurd z' (Nat.not_succ_le_self _)
 refine zWE ⟨plainId_quiet F.plain_extend_loop _,codeAny_extend_loopS (A:=A) (WalksS.of_in1 WS) hn _ hSf _ ks.length 0 { s with heap:=H3,drawn:=d } _ _ rfl (zWy _) st3 hS3 (ItemsOf.nil _) fun s' acc' c' hm hS' hacc=>?_⟩;show wpAny _ A (load s.heap.objs.size >>= _) _ _ s';refine zWC (wpAny_load hS' (zWE (hQ s' _ (fun b u e=>hm.heap b u (fun q=>?_) (oth b u (fun z=>zWu _ (z ▸ zWN e)) (k2 b u (kH b u e)))) hm.os hm.gens ?_)))
 ·rcases zWO.mp q with z | z
  ·exact zWu _ (z ▸ zWN e)
  ·have z':H.objs.size <= I:=hI2;rw [<- zWe.mp z,szH] at z';exact zWu _ (Nat.lt_trans (zWb (zW9 _) z') (zWN e))
 ·have e:acc'.toList = ord:=by
   have hl:ord.length = ks.length:=by rw [hp.length_eq,zWL,zWv,hS.size]
   apply List.ext_getElem?;intro i;rw [zXr];by_cases q:i < ks.length
   ·have q':i < acc'.size:=by rw [hacc.1]; exact q
    rw [zWx q'];exact (hacc.2 i _ (zWx q')).symm
   ·rw [Array.getElem?_eq_none (by rw [hacc.1]; omega),zXL (by omega)]
  rw [e]; exact hp
end
end ST
namespace L2
open PySem PySem.Spec PyProof.Rows ST
section
variable {prog:Program} {w:World} {A:Around} {R:Result -> Shared -> Prop} {s:Shared}
theorem zEd {elt target iter ifs rest scope pos it acc env}
  (h0:codeAny (model prog w) A (.compLoop (.SetComp elt (⟨target,iter,ifs,0⟩ :: rest) scope pos) 0 it acc env) R s)
  (h:wpAny (model prog w) A (pyIter it) (fun it' s'=>codeAny (model prog w) A (.compLoop (.SetComp elt (⟨target,iter,ifs,0⟩ :: rest) scope pos) 0 it' acc env) R s')
   (notedBy (model prog w) A env fun x s'=>R (.error x) s') s) :
  codeAny (model prog w) A (.compStart (.SetComp elt (⟨target,iter,ifs,0⟩ :: rest) scope pos) 0 it acc env) R s:=by
 refine codeAny_of_tree ?_;show wpAny _ _ ((compStart (.SetComp elt (⟨target,iter,ifs,0⟩ :: rest) scope pos) 0 it acc env).onRaise (fun x=>do noteFrame x env; standAt theWindowsPlace)) _ _ s;refine wpAny_notedAt ?_;unfold compStart;show wpAny _ _ (ask >>= _) _ _ s;refine zWC (wpAny_askSetting (wpAny_ite ?_));split
 ·first
   | exact zWC (zWE (zWE (And.intro rfl h0)))
   | exact zWE (And.intro rfl h0)
 ·first
   | exact zWC (wpAny_rule (zWC (zXA (zWC (zWi h (fun it' s' h'=>zWE (And.intro rfl h')) fun _ _ x=>x)))))
   | (refine zWC (wpAny_rule ?_); show wpAny _ _ (standAt iter.pos >>= _) _ _ s; exact zWC (zXA (zWC (zWi h (fun it' s' h'=>zWE (And.intro rfl h')) fun _ _ x=>x))))
end
section
variable {X:Cx} {zB:List (Addr × Obj)} {σ:St} {H:Hp} {s:Shared} {scope:Scope} {cl:List (Str × Addr)} {fp:List Addr} {it:Addr} {tn:Nat -> Heap -> Prop} {J:It} {tg elt iter:Expr} {ifs:List Expr} {pos:Pos}
 {own:List Nat} {g:TG} {tc:TT} {te:TE} {E:Value -> Shared -> Prop}
theorem zMi (h:SetK (intKind prog w) o es ep t ks):∀ v,o.data ≠ .cell v:=fun v z=>by rw [h.data] at z; cases z
theorem zIA (C:CompIn X scope own) (hcalm:X.calm = true) (I:Inv X zB σ H s) (T:Turn X.prog X.w X.K tg J fp it tn) (st:tn 0 s.heap) (hf:∀ b ∈ fp,zDB X zB H b)
  (c1:∀ x c,cl.lookup x = some c -> X.env.cells.lookup x = some c) (c2:∀ y ∈ scope.names,y.2 = .free -> (cl.lookup y.1).isSome = true)
  (hg:PG (zS X zB scope cl s H fp) tg g) (hi:zHM (zS X zB scope cl s H fp) ifs tc) (he:PE (zS X zB scope cl s H fp) elt te)
  {RR:Value -> Addr -> Result -> Shared -> Prop} {QQ:List Int -> Hp -> Prop} {W:Nat -> Nat -> List Int -> Hp -> Prop} {m0:Nat} (w0:W 0 m0 [] H)
  (turn:∀ i m ys H,W i m ys H -> (J.stop i H /\ QQ ys H) \/
   (J.go i H /\ ∀ x H',J.yld i H x H' -> g x (clr own σ) H' fun σ2 H2=>Ext (clr own σ) σ2 /\ tc σ2 H2 fun b H3=>
    if b = true then te σ2 H3 fun v H4=>∃ k,v = .int k /\ ys.length + 1 < scanBound /\ ∃ m',m' < m /\ W (i + 1) m' (ins ys k) H4 else ∃ m',m' < m /\ W (i + 1) m' ys H3))
  (fin:∀ σc H' s' o es ep t ys,Inv (zS X zB scope cl s H fp) [(s.heap.objs.size,o)] σc H' s' -> SetK (intKind X.prog X.w) o es ep t ys -> QQ ys H' -> RR (.ref s.heap.objs.size) (s.heap.objs.size + 1) (.ok .next) s') :
  wpAny (model X.prog X.w) X.A (newSet (.type "set")) (fun acc s₃=>wpAny (model X.prog X.w) X.A (newFunctionEnv scope X.env.globals cl [] X.env.qual none .none (some X.env)) (fun cenv s₄=>
   codeAny (model X.prog X.w) X.A (.compStart (.SetComp elt [⟨tg,iter,ifs,0⟩] scope pos) 0 (.ref it) acc { cenv with scope:=relabel scope X.env }) (RR acc cenv.locals) s₄) E s₃) E s:=by
 have ob:∀ b:Nat,b ∈ fp -> b < s.heap.objs.size:=fun b hb=>let ⟨_,e,_⟩:=T.obj 0 _ st b hb; zWN e;refine zPK (zDM ?_);have sz1:(s.heap.push (zn X.w)).objs.size = s.heap.objs.size + 1:=zWs ..;have I4:=zF3 (X:=X) (zB:=zB) (σ:=σ) (σc:=clr own σ) (H:=H) (s:=s) (scope:=scope) (cl:=cl) (fp:=fp) C.sc I hf ob c1 c2 (zBu own σ) (fun i x v h1 h2 h3=>by
  obtain ⟨a,b⟩:=zDW own σ i v h2;rcases C.nm i x h1 with z | z | z
  ·exact absurd z b
  ·exact absurd (zCr x z) h3
  ·exact ⟨z,a⟩) (zn X.w) (by intro v z; cases z) rfl rfl
 have st4:tn 0 (pushCells ((s.heap.push (zn X.w)).push { cls:=.type "dict", data:=.dict #[] }) scope.names):=T.keep 0 _ _ st fun b _ o e=>pushCells_keeps _ _ b o (zWD _ (zWD _ e));dsimp only;unfold newEnv;dsimp only;rw [sz1];have hDfp:s.heap.objs.size ∉ fp:=fun z=>zWu _ (ob _ z);have hcD:∀ x c,(zS X zB scope cl s H fp).env.cells.lookup x = some c -> c ≠ s.heap.objs.size:=fun x c e z=>by
  obtain ⟨v,o,ho,hd⟩:=I4.cell x c e;obtain ⟨q,_⟩:=I4.pin (s.heap.objs.size,zn X.w) (by simp);rw [z,q] at ho;cases ho; cases hd
 have fpk:∀ {H':Hp} {pl:List (Addr × Obj)},(∀ b ∈ fp,H' b = none) -> (∀ p ∈ pl,p.1 = s.heap.objs.size) -> ∀ b ∈ fp,zDB (zS X zB scope cl s H fp) pl H' b:=fun {H' pl} hn hp b hb=>
  ⟨hn b hb,(I4.ok.exf b hb).1,I4.ok.exfs b hb,.inl hb,(I4.ok.exf b hb).2,fun p hq=>by
   rcases zWc.mp hq with z | z
   ·exact (hf b hb).2.2.2.2.2 p z
   ·intro e;have e2:=hp p z;rw [e] at e2;exact hDfp (e2 ▸ hb)⟩
 have loop:codeAny (model X.prog X.w) X.A (.compLoop (.SetComp elt [⟨tg,iter,ifs,0⟩] scope pos) 0 (.ref it) (.ref s.heap.objs.size) (zS X zB scope cl s H fp).env) (RR (.ref s.heap.objs.size) (s.heap.objs.size + 1))
   { s with heap:=pushCells ((s.heap.push (zn X.w)).push { cls:=.type "dict", data:=.dict #[] }) scope.names }:=by
  refine zKK (fun n s'=>∃ i H' ys o es ep t,Inv (zS X zB scope cl s H fp) [(s.heap.objs.size,o)] (clr own σ) H' s' /\ SetK (intKind X.prog X.w) o es ep t ys /\ tn i s'.heap /\ (∀ b ∈ fp,H' b = none) /\ W i n ys H') ?_ m0
   ⟨0,H,[],zn X.w,_,_,_,I4,.fresh,st4,fun b hb=>(hf b hb).1,w0⟩
  rintro n s5 ⟨i,H5,ys,o,es,ep,t,I5,r5,st5,f5,w5⟩;have pinD:∀ p ∈ [(s.heap.objs.size,o)],p.1 = s.heap.objs.size:=fun p hp=>by
   have:p = (s.heap.objs.size,o):=by simpa using hp
   rw [this]
  rcases turn i n ys H5 w5 with ⟨stop,qq⟩ | ⟨go,step⟩
  ·refine thn (T.done (zS X zB scope cl s H fp) rfl rfl rfl hcalm i _ s5 _ H5 _ I5 (fpk f5 pinD) st5 stop) fun r s6 ⟨hr,I6⟩=>?_;subst hr;exact fin _ H5 s6 o es ep t ys I6 r5 qq
  ·refine thn (T.item (zS X zB scope cl s H fp) rfl rfl rfl hcalm i _ s5 _ H5 _ I5 (fpk f5 pinD) st5 go) fun r s6 ⟨u,hr,h6⟩=>?_;subst hr;refine thn h6 fun _ s7 ⟨x,H7,I7,r7,y7,st7,f7⟩=>?_;have I7':=I7.pinned (fpk f7 pinD) (T.obj _ _ st7);refine thn (hg _ s7 _ H7 x u _ I7' r7 (step x H7 y7)) fun _ s8 ⟨σ8,H8,I8,x8,q8⟩=>?_;refine thn (hi _ s8 σ8 H8 _ I8 q8) fun ok s9 ⟨H9,I9,q9⟩=>?_;have back:∀ {s':Shared} {Hx:Hp},Inv (zS X zB scope cl s H fp) ([(s.heap.objs.size,o)] ++ zDm fp s7.heap) σ8 Hx s' -> tn (i + 1) s'.heap /\ ∀ b ∈ fp,Hx b = none:=fun {s' Hx} Ix=>
    ⟨T.keep _ _ _ st7 fun b hb o e=>(Ix.pin (b,o) (zWW _ (zWW _ (zAb hb e)))).1,fun b hb=>by
     obtain ⟨o,e,d⟩:=T.obj _ _ st7 b hb;exact (Ix.pin (b,o) (zWW _ (zWW _ (zAb hb e)))).2.1⟩
   cases ok with
   | false=>
    obtain ⟨m',hm,w'⟩:=q9;obtain ⟨b1,b2⟩:=back I9;exact ⟨m',hm,i + 1,H9,ys,o,es,ep,t,(I9.weak (by rw [x8.1]) x8.2).unpinned,r5,b1,b2,w'⟩
   | true=>
    refine thn (he _ s9 σ8 H9 _ I9 q9) fun v s10 ⟨y,H10,I10,r10,k,hk,hlt,m',hm,w'⟩=>?_;subst hk;obtain ⟨b1,b2⟩:=back I10;have J10:=(I10.weak (by rw [x8.1]) x8.2).unpinned;obtain ⟨e10,n10,ne10,nf10,d10⟩:=J10.pin (s.heap.objs.size,o) (by simp);obtain ⟨tk,hv⟩:∃ tk,v = .int k tk:=r10;subst hv;refine zP5 (knd:=intKind X.prog X.w) (intKind_is _ _ _ _) rfl e10 r5 hlt fun h' o' es' ep' t' hs' e' S'=>?_;refine ⟨m',hm,i + 1,H10,ins ys k,o',es',ep',t',?_,S',T.keep _ _ _ b1 fun b hb o e=>hs'.extBut b o (fun z=>hDfp (z ▸ hb)) e,b2,w'⟩;refine (Inv.repin (pl:=[]) J10 (fun p hp=>?_) hs' (zWI _) hcD e' (zMi S')).tok _;rw [zWw] at hp;have hp':p ∈ X.pn ++ zB:=hp;exact zWX (zWN (I.pin p hp').1)
 exact zEd loop (T.self _ 0 _ _ _ st4 loop)
theorem zJ8 (I:Inv X zB σ H s) (hf:∀ b ∈ fp,zDB X zB H b)
  (Ic:Inv (zS X zB scope cl s H fp) [(s.heap.objs.size,oD)] σc H' s') (hs:Heap.SameBut (s.heap.objs.size + 1) s'.heap h') :
  Inv X zB σ H' { s' with heap:=h' } /\ h'.get? s.heap.objs.size = some oD:=by
 obtain ⟨eD,nD,_⟩:=Ic.pin (s.heap.objs.size,oD) (by simp);have nC:H' (s.heap.objs.size + 1) = none:=Ic.free;have eD':h'.get? s.heap.objs.size = some oD:=hs.extBut _ _ (zWX (zW9 _)) eD;have lt1:∀ {b:Addr} {o:Obj},s.heap.get? b = some o -> b ≠ s.heap.objs.size + 1:=fun e=>zWX (zW1 (zWN e));have tr:∀ b u,H' b = some u -> b ≠ s.heap.objs.size + 1:=fun b u e z=>by rw [z,nC] at e; cases e
 refine ⟨?_,eD'⟩;have B:=Ic.base;have un:Un (frs X.stack) fp H H' s.heap h':=by
  refine ⟨fun b o e q hb hx=>hs.extBut b o (lt1 e) (B.keep b o e q hb hx),fun b o e q hb hx=>?_,fun b o e q hx=>B.free b o e q hx,fun b o e hx=>?_,fun b xs e=>B.tups b xs e,fun b o xs e=>B.frzs b o xs e,fun b ps e=>B.tbls b ps e⟩
  ·obtain ⟨sl,e1⟩:=B.slot b o e q hb hx;exact ⟨sl,hs.extBut b _ (lt1 e) e1⟩
  ·obtain ⟨o',e1⟩:=B.there b o e hx;exact ⟨o',hs.extBut b _ (lt1 e) e1⟩
 have hok:HOk X.prog X.w H' h':=fun b u e=>by
  refine (Ic.hok b u e).stay (fun c v hc q=>hs.extBut c v ?_ q) (fun c q=>q) fun c xs q=>q;rcases hc with z | z
  ·rw [z]; exact tr b u e
  ·exact tr c _ z
 exact I.call' (s':={ s' with heap:=h' }) (ch:=fp) Ic.os un hok Ic.bare fun b hb=>⟨(hf b hb).2.2.2.1,(hf b hb).2.1,(hf b hb).2.2.2.2.1,(hf b hb).2.2.2.2.2⟩
end
abbrev TZ:=St -> Hp -> (List Int -> Hp -> Prop) -> Prop
def PZ (X:Cx) (e:Expr) (t:TZ):Prop:=∀ (zB:List (Addr × Obj)) (s:Shared) (σ:St) (H:Hp) (Q:List Int -> Hp -> Prop),Inv X zB σ H s -> t σ H Q ->
 wpAny (model X.prog X.w) X.A (eval e X.env) (fun v s'=>∃ a o es ep tb ks H',v = .ref a /\ s'.heap.get? a = some o /\ SetK (intKind X.prog X.w) o es ep tb ks /\ Inv X zB σ H' s' /\ Q ks H') X.xe s
def zL3 (own:List Nat) (wi:TI) (g:TG) (tc:TT) (te:TE):TZ:=fun σ H Q=>wi σ H fun J H1=>∃ W:Nat -> Nat -> List Int -> Hp -> Prop,(∃ m,W 0 m [] H1) /\ ∀ i m ys H,W i m ys H ->
 (J.stop i H /\ Q ys H) \/
 (J.go i H /\ ∀ x H',J.yld i H x H' -> g x (clr own σ) H' fun σ2 H2=>Ext (clr own σ) σ2 /\ tc σ2 H2 fun b H3=>
  if b = true then te σ2 H3 fun v H4=>∃ k,v = .int k /\ ys.length + 1 < scanBound /\ ∃ m',m' < m /\ W (i + 1) m' (ins ys k) H4 else ∃ m',m' < m /\ W (i + 1) m' ys H3)
section
variable {X:Cx} {scope:Scope} {tg elt iter:Expr} {ifs:List Expr} {pos:Pos} {own:List Nat} {wi:TI} {g:TG} {tc:TT} {te:TE}
theorem zRc (C:CompIn X scope own) (hcalm:X.calm = true) (hi:PI X tg iter wi) (p:CompParts X scope tg ifs elt g tc te) (hs:∀ x,foldedSetIterable iter X.env x = pure x:=by intro _; rfl) :
  PZ X (.SetComp elt [⟨tg,iter,ifs,0⟩] scope pos) (zL3 own wi g tc te):=by
 intro zB s σ H Q I h;obtain ⟨cl,hcl,c1,c2⟩:=C.sc.closure I;rw [arm_eval_SetComp];refine zX6 (use:=none) rfl hs hcl C.sc.kind C.sc.names (thn (hi zB s σ H _ I h) fun v s1 h1=>thn h1 fun itv s2 h2=>?_);obtain ⟨it,fp,tn,J,H2,e,I2,T,st2,f2,W,⟨m0,w0⟩,turn⟩:=h2;subst e;refine zIA C hcalm I2 T st2 f2 c1 c2 (p.g _ _ _ _ _) (p.c _ _ _ _ _) (p.e _ _ _ _ _) (RR:=fun acc C r s'=>compPost (model X.prog X.w) X.A X.xe none (fun v s'=>∃ a o es ep tb ks H',v = .ref a /\ s'.heap.get? a = some o /\ SetK (intKind X.prog X.w) o es ep tb ks /\ Inv X zB σ H' s' /\ Q ks H') acc C r s') (QQ:=Q) w0 turn ?_;intro σc H' s' o es ep t ys Ic rv qq;obtain ⟨m,hn,_⟩:=Ic.loc;refine ⟨m,hn,fun h' hs'=>?_⟩;obtain ⟨J',eD⟩:=zJ8 I2 f2 Ic hs';exact ⟨_,o,es,ep,t,ys,H',rfl,eD,rv,J',qq⟩
end
end L2
namespace ST
open PySem PySem.Spec PyProof.Rows
open Sem (wp)
section
variable {prog:Program} {w:World} {A:Around} {E:Value -> Shared -> Prop} {s:Shared}
variable {K:Type} [DecidableEq K] {knd:KeyKind prog w K}
def zAN (ks:List K):List K:=ks.foldl ins []
theorem zG6 (ks:List K) (k:K):zAN (ks ++ [k]) = ins (zAN ks) k:=by unfold zAN; rw [List.foldl_append]; rfl
theorem zSj (ks:List K) (k:K):(ins ks k).length <= ks.length + 1:=by unfold ins; split <;> simp
theorem zDK (ks:List K):(zAN ks).length <= ks.length:=by
 have:∀ (l acc:List K),(l.foldl ins acc).length <= acc.length + l.length:=by
  intro l;induction l with
  | nil=>intro acc; simp
  | cons x r ih=>intro acc; have:=ih (ins acc x); have:=zSj acc x; simp only [List.foldl_cons,zWj]; omega
 simpa [zAN] using this ks []
theorem zSQ (ks:List K) (k x:K):x ∈ ins ks k ↔ x ∈ ks \/ x = k:=by
 unfold ins;split
 ·rename_i h; constructor
  ·exact .inl
  ·rintro (z | z)
   ·exact z
   ·rw [z]; exact h
 ·simp
theorem zMq (ks:List K) (x:K):x ∈ zAN ks ↔ x ∈ ks:=by
  have:∀ (l acc:List K),x ∈ l.foldl ins acc ↔ x ∈ acc \/ x ∈ l:=by
    intro l;induction l with
    | nil=>intro acc; simp
    | cons y r ih=>intro acc; rw [List.foldl_cons,ih,zSQ,zWO]; simp [or_assoc]
  simpa [zAN] using this ks []
theorem zOw (h : ks.Nodup) (k : K) : (ins ks k).Nodup := by
  unfold ins;split
  · exact h
  · rename_i q
    rw [zXQ]
    exact ⟨h, by simp, fun a ha b hb z => by have : b = k := by simpa using hb
                                             subst this; subst z; exact q ha⟩
theorem zKO (ks:List K):(zAN ks).Nodup:=by
 have:∀ (l acc:List K),acc.Nodup -> (l.foldl ins acc).Nodup:=by
  intro l;induction l with
  | nil=>intro acc h; exact h
  | cons y r ih=>intro acc h; exact ih _ (zOw h y)
 exact this ks [] (by simp)
theorem zQf (a:Value) (h:Q₁ (.ref s.heap.objs.size) { s with heap:=s.heap.push (zn w) }) :
  codeAny (model prog w) A (.call (.builtin "set.__new__") ⟨[.type "set", a],[]⟩) (wants Q₁ E) s:=by
 refine codeAny_of_tree ?_;show wpAny _ A.in1 (do checkBuiltinCall "set.__new__" ⟨[.type "set", a],[]⟩; again (.builtin "set.__new__" ⟨[.type "set", a],[]⟩)) _ _ s;refine zWC (wpAny_of_eq (F.newCall_set_1 a) (zWE ⟨plainId_quiet F.plain_set_new _,zXH F.entry_set_new ?_⟩));rw [zW7 F.plain_set_new _];unfold Builtin.«set.__new__» Builtin.Frozenset.newClass;have hsub:=sub_set_self;obtain ⟨hp,g,d,tk,os⟩:=s;dsimp only;wp_walk;refine wpAny_askSetting (zWE ?_);dsimp only;simp only [newObj];refine zWC (wpAny_alloc (zWE ?_));exact zWE h
variable {R:Result -> Shared -> Prop} {I:Addr} {fp wr:List Addr} {G:Array GenState -> Array GenState -> Prop} {n:Nat} {P:Nat -> Value -> Prop} {St:Nat -> Shared -> Prop}
theorem zLZ (W:WalksS prog w A.in1 I fp wr G n P St) (S:Addr) (hSf:S ∉ fp) (val:Nat -> K) (hval:∀ i v,P i v -> knd.is (val i) v = true /\ v.scannable = true) (hb:n + 1 < scanBound) :
  ∀ (k i:Nat) (s:Shared) (o:Obj) (es:Array (Int × Value)) (ep:Nat) (t:SetTable),n - i = k -> i <= n -> St i s -> s.heap.get? S = some o -> SetK knd o es ep t (zAN ((List.range i).map val)) ->
   (∀ s' o' es' ep' t',Moved (S :: wr) G s s' -> s'.heap.get? S = some o' -> SetK knd o' es' ep' t' (zAN ((List.range n).map val)) -> R (.ok (.ret .none)) s') ->
   codeAny (model prog w) A (.builtin "set.update.loop" ⟨[.ref S,.ref I],[]⟩) R s:=by
 have hSw:S ∉ wr:=fun h=>hSf (W.sub _ h);have hsub:∀ b ∈ wr,b ∈ S :: wr:=fun b hb=>zWP _ hb;intro k;induction k with
 | zero=>
  intro i s o es ep t hk hi hst ho hS hR;have hin:i = n:=by omega
  subst hin;refine zXH F.entry_set_update_loop ?_;rw [zW7 F.plain_set_update_loop _];show wpAny _ A.in1 (pyNext (.ref I) >>= _) _ _ s;refine zWC (W.done s _ _ hst fun s' hm=>?_);show wpAny _ A.in1 (ret Value.none) _ _ s';exact zWE (hR s' o es ep t (hm.mono hsub) (hm.heap S _ hSw ho) hS)
 | succ k ih=>
  intro i s o es ep t hk hi hst ho hS hR;have hlt:i < n:=by omega
  refine zXH F.entry_set_update_loop ?_;rw [zW7 F.plain_set_update_loop _];show wpAny _ A.in1 (pyNext (.ref I) >>= _) _ _ s;refine zWC (W.item i s _ _ hlt hst fun v s' hP hst' hm=>?_);obtain ⟨hv1,hv2⟩:=hval i v hP;have ho':=hm.heap S _ hSw ho;show wpAny _ A.in1 (holding [v] (setAdd S v) >>= _) _ _ s';refine zWC (zW5 ?_);unfold setAdd;refine zW5 ?_;refine zWC (knd.pyHash (k:=val i) hv1 ?_);have hroom:(zAN ((List.range i).map val)).length + 1 < scanBound:=by have:=zDK ((List.range i).map val); simp at this; omega
  refine zEZ (s:={ s' with toks:=s'.toks + 1 }) hv1 hv2 ho' hS hroom fun h' o2 es2 ep2 t2 b hsb ho2 hS2=>?_;have hS3:SetK knd o2 es2 ep2 t2 (zAN ((List.range (i + 1)).map val)):=by
   rw [List.range_succ,zW4];rw [show List.map val [i] = [val i] from rfl,zG6];exact hS2
  refine zWE ⟨plainId_quiet F.plain_set_update_loop _,ih (i + 1) _ o2 es2 ep2 t2 (by omega) hlt (W.frame _ s' _ _ hst' (zXu _) fun b hb o e=>?_) ho2 hS3 fun s'' o' es' ep' t' hm'' ho'' hS''=>?_⟩
  ·rw [hsb.2 b (fun h:b = S=>hSf (by rw [<- h]; exact hb))]; exact e
  ·refine hR s'' o' es' ep' t' (Moved.trans W.gtrans ((hm.mono hsub).then_heap (zXu _) fun b o hb e=>?_) hm'') ho'' hS'';rw [hsb.2 b (fun h:b = S=>hb (by rw [h]; exact zWQ))]; exact e
end
section
variable {prog:Program} {w:World} {A:Around} {E:Value -> Shared -> Prop} {s:Shared}
variable {K:Type} [DecidableEq K] {knd:KeyKind prog w K}
theorem zIj:isSubtype (.type "tuple") (.type "set") = pure false:=by rw [isSubtype_type]; kernel_rfl
theorem zFY:isSubtype (.type "tuple") (.type "frozenset") = pure false:=by rw [isSubtype_type]; kernel_rfl
theorem zNF {K:Type} (ks:List K) (d:K):(List.range ks.length).map (fun i=>ks.getD i d) = ks:=by
 apply List.ext_getElem?;intro i;rw [zWZ];by_cases q:i < ks.length
 ·rw [List.getElem?_range q,zWG q]; simp [q]
 ·rw [zXL (l:=List.range ks.length) (by simpa using q),zXL (l:=ks) (Nat.le_of_not_lt q)]; rfl
set_option maxHeartbeats 3200000 in
theorem zP7 [Inhabited K] (hty:ty = "list" \/ ty = "tuple")
  (hh:A.handled = none) (hl:∃ ol,s.heap.get? l = some ol /\ ol.cls = .type ty /\ ∃ nl,ol.data = .seq items nl) (hi:F2 (fun v k=>knd.is k v = true /\ v.scannable = true) items.toList ks) (hb:ks.length + 1 < scanBound)
  (h:∀ (h':Heap) (tk:Nat) (o:Obj) (es:Array (Int × Value)) (ep:Nat) (t:SetTable),h'.get? s.heap.objs.size = some o -> SetK knd o es ep t (zAN ks) ->
   (∀ b o,b < s.heap.objs.size -> s.heap.get? b = some o -> h'.get? b = some o) -> Q (.ref s.heap.objs.size) { s with heap:=h',toks:=tk }) :
  wpAny (model prog w) A (call (.type "set") [.ref l]) Q E s:=by
 obtain ⟨c,tl,hmro⟩:=F.called_set.mro;have hmade:=F.called_set.made;have hsub:=F.called_set.sub;have hlen:items.size = ks.length:=by rw [<- zWv]; exact zC1 hi
 refine wpAny_call (codeAny_of_tree ?_);show wpAny _ _ (callAny (.type "set") _) _ _ _;refine zWE ⟨Code.quiet_builtin _ (by decide +kernel),zXH F.entry_type_call ?_⟩;rw [Around.under_plain (weight_type_call_type "set" [.ref l] []) rfl];have h1:=F.called_set.notType;have h2:=F.called_set.canCreate;have hct:=F.typeCall_set_1 (.ref l);repeat (any_goals (first | assumption | wp_step))
 refine codeAny_mono (zQf (.ref l) (E:=E) (Q₁:=fun obj s₁=>obj = .ref s.heap.objs.size /\ s₁ = { s with heap:=s.heap.push (zn w) }) ⟨rfl,rfl⟩) fun r s₁ hr=>?_;cases r with
 | error e=>exact hr
 | ok fl=>
  cases fl with
  | ret obj=>
   obtain ⟨rfl,rfl⟩:=hr;have hS:(s.heap.push (zn w)).get? s.heap.objs.size = some (zn w):=zWM _ rfl;have hT:Shared.TypeIs { s with heap:=s.heap.push (zn w) } (.ref s.heap.objs.size) "set" := ⟨_,hS,rfl⟩;have hli:=F.called_set.init.lookup;have hbi:=F.called_set.init.bind (.ref s.heap.objs.size);repeat (any_goals (first | assumption | wp_step))
   refine codeAny_mono (codeAny_call_builtin (R:=wants (fun r s₂=>r = .none /\ ∃ h' tk o es ep t,s₂ = { s with heap:=h',toks:=tk } /\ h'.get? s.heap.objs.size = some o /\ SetK knd o es ep t (zAN ks) /\
     (∀ b o,b < s.heap.objs.size -> s.heap.get? b = some o -> h'.get? b = some o)) E) F.called_set.init.plain F.entry_set_init (check_set_init_1 hT ?_)) fun r₂ s₂ hr₂=>?_
   ·obtain ⟨ol,hol,hcl,nl,hdl⟩:=hl;obtain ⟨ocls,odict,odata,oslots⟩:=ol;simp only at hcl hdl;subst hcl; subst hdl;have hlS:l < s.heap.objs.size:=zWN hol;have hol':(s.heap.push (zn w)).get? l = some { cls:=.type ty,dict:=odict,data:=.seq items nl,slots:=oslots }:=zWD _ hol;have hh3:A.in1.in1.in1.handled = none:=by simp [hh]
    have hneI:l ≠ (s.heap.push (zn w)).objs.size:=by
     rw [zWs]; exact zWX (zW1 hlS)
    have hSf:s.heap.objs.size ∉ [(s.heap.push (zn w)).objs.size,l]:=by
     rw [zWs]; simp only [zWO,zWe,zWh,or_false,not_or];exact ⟨zWX (zW9 _),zXh hlS⟩
    have hval:∀ (d:K) (i:Nat) (v:Value),items[i]? = some v -> knd.is (ks.getD i d) v = true /\ v.scannable = true:=fun d i v hv=>by
     have e:items.toList[i]? = some v:=by rw [zXr]; exact hv
     have:∀ {xs:List Value} {ys:List K},F2 (fun v k=>knd.is k v = true /\ v.scannable = true) xs ys -> ∀ (i:Nat),xs[i]? = some v -> knd.is (ys.getD i d) v = true /\ v.scannable = true:=by
      intro xs ys f;induction f with
      | nil=>intro i e; simp at e
      | cons q _ ih=>
       intro i e;cases i with
       | zero=>simp at e; subst e; exact q
       | succ i=>exact ih i (by simpa using e)
     exact this hi i e
    have fin:∀ (I:Addr) (hI:I = (s.heap.push (zn w)).objs.size) (P':Fin -> Shared -> Prop) (s':Shared) (o':Obj) (es':Array (Int × Value)) (ep':Nat) (t':SetTable) (itO:Obj),
      Moved (s.heap.objs.size :: [I]) (fun a b=>b = a) { s with heap:=(s.heap.push (zn w)).push itO } s' -> s'.heap.get? s.heap.objs.size = some o' -> SetK knd o' es' ep' t' (zAN ks) ->
      (∃ h' tk o es ep t,s' = { s with heap:=h',toks:=tk } /\ h'.get? s.heap.objs.size = some o /\ SetK knd o es ep t (zAN ks) /\ (∀ b o,b < s.heap.objs.size -> s.heap.get? b = some o -> h'.get? b = some o)):=by
     intro I hI P' s' o' es' ep' t' itO hm ho' hS';obtain ⟨h',g',d',tk',os'⟩:=s';have eg:g' = s.gens:=hm.gens;have ed:d' = s.drawn:=hm.drawn;have eo:os' = s.os:=hm.os;subst eg; subst ed; subst eo;refine ⟨h',tk',o',es',ep',t',rfl,ho',hS',fun b o hb e=>?_⟩;have hb1:b ≠ s.heap.objs.size:=zWX hb;have hb2:b ≠ I:=by rw [hI,zWs]; exact zWX (zW1 hb)
     exact hm.heap b o (by simp only [zWO,zWe,zWh,or_false,not_or]; exact ⟨hb1,hb2⟩) (zWD _ (zWD _ e))
    have go:∀ (d:K) (St:Nat -> Heap -> Prop) (itO:Obj) (W:Walks prog w A.in1.in1.in1 (s.heap.push (zn w)).objs.size [(s.heap.push (zn w)).objs.size,l] [(s.heap.push (zn w)).objs.size] items.size (fun i v=>items[i]? = some v) St),St 0 ((s.heap.push (zn w)).push itO) ->
      ∀ {R':Result -> Shared -> Prop},(∀ s',(∃ h' tk o es ep t,s' = { s with heap:=h',toks:=tk } /\ h'.get? s.heap.objs.size = some o /\ SetK knd o es ep t (zAN ks) /\ (∀ b o,b < s.heap.objs.size -> s.heap.get? b = some o -> h'.get? b = some o)) -> R' (.ok (.ret .none)) s') ->
      codeAny (model prog w) A.in1.in1 (.builtin "set.update.loop" ⟨[.ref s.heap.objs.size,.ref (s.heap.push (zn w)).objs.size],[]⟩) R' { s with heap:=(s.heap.push (zn w)).push itO }:=by
     intro d St itO W st R' hR;refine zLZ (knd:=knd) W.toS s.heap.objs.size hSf (fun i=>ks.getD i d) (hval d) (by rw [hlen]; exact hb) (items.size - 0) 0 _ (zn w) _ _ _ (by omega) (zWy _) st (zWD _ hS) .fresh fun s' o' es' ep' t' hm ho' hS'=>?_;refine hR s' (fin _ rfl (fun _ _=>True) s' o' es' ep' t' itO hm ho' ?_);rw [hlen,zNF] at hS';exact hS'
    rcases hty with rfl | rfl
    ·have hsls:=F.sub_list_set;have hslf:=F.sub_list_frozenset;have hne:(Value.type "list" == Value.type "dict") = false:=by decide
     have hl1:(s.heap.push (zn w)).IsList l items:=⟨_,hol',rfl,nl,rfl⟩;unfold Builtin.«set.__init__» noKeywords Builtin.Frozenset.updateFrom;generalize hPI:pyIter = PI;wp_walk;subst hPI;refine wpAny_pyIter_list hl1 ?_;refine zWC (wpAny_runValue ?_);refine go default _ _ (Walks.list hh3 _ l hneI items) ⟨⟨_,zWM _ rfl,rfl,rfl⟩,(hl1.push _)⟩ fun s' q=>?_;refine zWE ?_;show wpAny _ _ (ret Value.none) _ _ _;exact zWE ⟨rfl,q⟩
    ·have hsls:=zIj;have hslf:=zFY;have hne:(Value.type "tuple" == Value.type "dict") = false:=by decide
     have hl1:(s.heap.push (zn w)).IsTuple l items:=⟨_,hol',rfl,nl,rfl⟩;unfold Builtin.«set.__init__» noKeywords Builtin.Frozenset.updateFrom;generalize hPI:pyIter = PI;wp_walk;subst hPI;refine wpAny_pyIter_tuple hl1 ?_;refine zWC (wpAny_runValue ?_);refine go default _ _ (Walks.tuple hh3 _ l hneI items) ⟨⟨_,zWM _ rfl,rfl,rfl⟩,(hl1.push _)⟩ fun s' q=>?_;refine zWE ?_;show wpAny _ _ (ret Value.none) _ _ _;exact zWE ⟨rfl,q⟩
   ·cases r₂ with
    | error e=>exact hr₂
    | ok fl₂=>
     cases fl₂ with
     | ret r=>
      obtain ⟨rfl,h',tk,o,es,ep,t,rfl,ho',hS',hk'⟩:=hr₂;repeat (any_goals (first | assumption | wp_step))
      exact h _ _ _ _ _ _ ho' hS' hk'
     | _=>exact hr₂.elim
  | _=>exact hr.elim
end
def zEb (ks:List Int):List Int:=ks.mergeSort fun a b=>decide (a <= b)
theorem zCK (ks:List Int):(zEb ks).Perm ks:=List.mergeSort_perm _ _
theorem zHW (ks:List Int):(zEb ks).Pairwise (· <= ·):=by
 have:=List.pairwise_mergeSort (le:=fun (a b:Int)=>decide (a <= b)) (fun a b c h1 h2=>by simp at h1 h2 ⊢; omega) (fun a b=>by simp; omega) ks;exact this.imp fun h=>by simpa using h
theorem zJe:∀ {xs ys:List Int},xs.Perm ys -> xs.Pairwise (· <= ·) -> ys.Pairwise (· <= ·) -> xs = ys
 | [],ys,p,_,_=>by have:=p.length_eq; simp at this; rw [List.length_eq_zero_iff.mp this.symm]
 | x :: xs,[],p,_,_=>by have:=p.length_eq; simp at this
 | x :: xs,y :: ys,p,h1,h2=>by
  have hx:=List.pairwise_cons.mp h1;have hy:=List.pairwise_cons.mp h2;have e:x = y:=by
   have a:x ∈ y :: ys:=p.mem_iff.mp zWQ;have b:y ∈ x :: xs:=p.mem_iff.mpr zWQ;rcases zWO.mp a with z | z
   ·exact z
   ·rcases zWO.mp b with q | q
    ·exact q.symm
    ·exact Int.le_antisymm (hx.1 y q) (hy.1 x z)
  subst e;rw [zJe (p.cons_inv) hx.2 hy.2]
theorem zL7 (p:xs.Perm ys) (h:xs.Pairwise (· <= ·)):xs = zEb ys:=zJe (p.trans (zCK ys).symm) h (zHW ys)
section
variable {prog:Program} {w:World} {A:Around} {E:Value -> Shared -> Prop} {s:Shared}
theorem zNC
  (hc:wpAny (model prog w) A.in1 (collect v) (fun vs s1=>∃ ns,IntsAre vs ns /\ vs.length < 64 /\ ∀ (h':Heap) (out:List Value) (n:Nat),(∀ b u,s1.heap.get? b = some u -> h'.get? b = some u) -> h'.get? s1.heap.objs.size = some (seqObj "list" out.toArray n) -> IntsAre out (zEb ns) -> Q (.ref s1.heap.objs.size) { s1 with heap:=h' }) E s) :
  wpAny (model prog w) A (call (.builtin "sorted") [v]) Q E s:=by
 refine Calls.call_function_entry kind_sorted plain_sorted entry_sorted (args_sorted1 _) ?_;unfold Builtin.«sorted»;refine zWC (m:=checkCount "sorted" 1 1 _) (zWE ?_);refine zWC (zWi hc (fun vs s1 h1=>?_) fun _ _ h'=>h');obtain ⟨ns,hI,h64,h⟩:=h1;refine zWC (wpAny_newList ?_ (by rw [sizeLine_eq]; omega));have hoL:(s1.heap.push (seqObj "list" vs.toArray 0)).get? s1.heap.objs.size = some (seqObj "list" vs.toArray 0):=zWM _ rfl;refine zWC (zW5 (zWp slot_list_sort ⟨_,hoL,rfl⟩ entry_list_sort (list_sort_tree (s:={ s1 with heap:=s1.heap.push (seqObj "list" vs.toArray 0) }) hoL hI h64 fun out ns' a1 a2 a3=>⟨_,rfl,?_⟩) (args_list_sort _)));refine zWE ⟨_,rfl,?_⟩;have g1:=get?_update_seq hoL (fun _=> #[]);have g2:(((s1.heap.push (seqObj "list" vs.toArray 0)).update s1.heap.objs.size (Obj.mapSeq fun _=> #[])).push (seqObj "tuple" vs.toArray 0)).get? s1.heap.objs.size = _:=zWD _ g1;have g3:=zWD (seqObj "list" #[] 0) g2;have g4:=get?_update_seq g3 (fun _=>out);have eS:=zL7 a2 a3;subst eS;refine h _ out.toList _ (fun b u e=>?_) (by rw [Array.toArray_toList]; exact g4) a1;have hb:s1.heap.objs.size ≠ b:=fun z=>zWu _ (z ▸ zWN e);exact (zWt _ _ hb).trans (zWD _ (zWD _ ((zWt _ _ hb).trans (zWD _ e))))
theorem zOs (h:F2 (zT8 (intKind prog w)) es ks):IntsAre (es.map (·.2)) ks:=by
 induction h with
 | nil=>exact .nil
 | cons h _ ih=>
  obtain ⟨⟨h1,_⟩,_⟩:=h;obtain ⟨t,e⟩:=Value.isInt_shape h1;rw [zWV,e];exact .cons _ _ ih
theorem zNy (p:us.Perm vs):∀ {ks:List Int},IntsAre vs ks -> ∃ ks',ks'.Perm ks /\ IntsAre us ks':=by
 have p':=p.symm;clear p;induction p' with
 | nil=>intro ks h; exact ⟨ks,.refl _,h⟩
 | cons x _ ih=>
  intro ks h;cases h with
  | cons n t r=>
   obtain ⟨ys',q1,q2⟩:=ih r;exact ⟨_,q1.cons _,.cons _ _ q2⟩
 | swap x y l=>
  intro ks h;cases h with
  | cons n t r=>
   cases r with
   | cons n2 t2 r=>exact ⟨_,List.Perm.swap _ _ _,.cons _ _ (.cons _ _ r)⟩
 | trans _ _ ih1 ih2=>
  intro ks h;obtain ⟨ys',q1,q2⟩:=ih1 h;obtain ⟨ys'',r1,r2⟩:=ih2 q2;exact ⟨ys'',r1.trans q1,r2⟩
theorem zLv (p:xs.Perm ys):zEb xs = zEb ys:=zL7 ((zCK xs).trans p) (zHW xs)
theorem zMt (hh:A.handled = none) (ho:s.heap.get? a = some o) (hS:SetK (intKind prog w) o es ep t ks) (h64:ks.length < 64)
  (h:∀ (s1:Shared) (h':Heap) (out:List Value) (n:Nat),(∀ b u,s.heap.get? b = some u -> s1.heap.get? b = some u) -> s1.os = s.os -> s1.gens = s.gens -> (∀ b u,s1.heap.get? b = some u -> h'.get? b = some u) -> h'.get? s1.heap.objs.size = some (seqObj "list" out.toArray n) -> IntsAre out (zEb ks) -> Q (.ref s1.heap.objs.size) { s1 with heap:=h' }) :
  wpAny (model prog w) A (call (.builtin "sorted") [.ref a]) Q E s:=by
 refine zNC (zLQ (A:=A.in1) hh ho hS fun s' acc k1 k2 k3 hp=>?_);obtain ⟨ks',p,f⟩:=hS.ent;obtain ⟨ks2,p2,f2⟩:=zNy hp (zOs f);refine ⟨ks2,f2,?_,fun h' out n e1 e2 e3=>?_⟩
 ·rw [hp.length_eq,zWL,zWv,hS.size]; exact h64
 ·rw [zLv (p2.trans p)] at e3;exact h s' h' out n k1 k2 k3 e1 e2 e3
end
end ST
namespace L2
open PySem PySem.Spec PyProof.Rows ST
section
variable {X:Cx} {e:Expr} {p pos:Pos} {zB:List (Addr × Obj)} {σ:St} {H:Hp} {s:Shared}
theorem Inv.kept' (I:Inv X zB σ H s) (k:∀ b u,s.heap.get? b = some u -> s1.heap.get? b = some u) (ho:s1.os = s.os) (hg:s1.gens = s.gens):Inv X zB σ H s1 :=
 I.call' (ch:=[]) ho (Un.kept k) (I.hok.kept k) (by rw [hg]; exact I.bare) fun b hb=>nomatch hb
theorem zID:∀ {ns:List Int} {us:List Value},IntsAre us ns -> zm (ns.map V.int) us
 | _,_,.nil=> .nil
 | _,_,.cons n t h=> .cons ⟨t,rfl⟩ (zID h)
theorem zIe:∀ {ns:List Int} {us:List Value},zm (ns.map V.int) us -> IntsAre us ns
 | [],_,.nil=> .nil
 | n :: ns,_,.cons r h=>by obtain ⟨t,rfl⟩:=r; exact .cons n t (zIe h)
theorem zPO (ks:List Int):(zEb ks).length = ks.length:=(zCK ks).length_eq
theorem zPc (hc:X.calm = true) (hg:Gl X "sorted") (hm:X.mg "sorted" = none) (ha:PZ X e t) (hs:starEach [e] X.env = (false,eval e X.env) :: starEach [] X.env:=by rfl) (hpl:(backTo pos (starEach [] X.env)).any (·.1) = false:=by rfl) :
  PE X (.Call (.Name "sorted" p) [e] [] pos) (fun σ H Q=>t σ H fun ks H1=>ks.length < 64 /\ ∀ q,H1 q = none -> Q (.ref q) (upd H1 q (.lst ((zEb ks).map V.int)))):=by
 intro zB s σ H Q I h;refine wpAny_Call_Name_kw (zFp I hg hm (by rfl) ?_ (by decide) (by decide));refine callWith_builtin1 ?_ hs hpl;rw [hs];show wpAny _ _ (spliced ((false,eval e X.env) :: backTo pos (starEach [] X.env))) _ _ s;refine Calls.spliced_cons (thn (ha zB s σ H _ I h) fun u s1 ⟨a,o,es,ep,tb,ks,H1,hv,ho,hS,I1,h64,q⟩=>Calls.spliced_nil ?_);subst hv;refine zMt (I1.ok.hd hc) ho hS h64 fun s2 h' out n k1 k2 k3 k4 e4 i4=>?_;have I2:Inv X zB σ H1 s2:=I1.kept' k1 k2 k3;have hf:H1 s2.heap.objs.size = none:=I2.hok.fresh (zWI _);refine ⟨.ref s2.heap.objs.size,upd H1 s2.heap.objs.size (.lst ((zEb ks).map V.int)),I2.laid (t':=s2.toks) k4 (zWI _) ⟨by rw [zWL,zPO,sizeLine_eq]; omega,out,n,zID i4,e4⟩,rfl,q _ hf⟩
theorem zTt (hc:X.calm = true) (hg:Gl X "set") (hm:X.mg "set" = none) (ha:PE X e te) (hs:starEach [e] X.env = (false,eval e X.env) :: starEach [] X.env:=by rfl) (hpl:(backTo pos (starEach [] X.env)).any (·.1) = false:=by rfl) :
  PZ X (.Call (.Name "set" p) [e] [] pos) (fun σ H Q=>te σ H fun x H1=>∃ a ns,x = .ref a /\ (SqL X.K H1 a (ns.map V.int) \/ SqT X.K H1 a (ns.map V.int)) /\ ns.length + 1 < scanBound /\ Q (zAN ns) H1):=by
 intro zB s σ H Q I h;refine wpAny_Call_Name_kw (zFp I hg hm (by rfl) ?_ (by decide) (by decide));refine callWith_type1 ?_ hs hpl;rw [hs];show wpAny _ _ (spliced ((false,eval e X.env) :: backTo pos (starEach [] X.env))) _ _ s;refine Calls.spliced_cons (thn (ha zB s σ H _ I h) fun u s1 ⟨x,H1,I1,r1,a,ns,hx,hq,hb,q⟩=>Calls.spliced_nil ?_);subst hx;cases r1;have key:∃ (ty:String) (its:List Value),(ty = "list" \/ ty = "tuple") /\ (∃ ol,s1.heap.get? a = some ol /\ ol.cls = .type ty /\ ∃ nl,ol.data = .seq its.toArray nl) /\ zm (ns.map V.int) its:=by
  rcases hq with hq | hq
  ·obtain ⟨its,rv,⟨ol,nl,e1,e2,_,e3⟩,_⟩:=I1.list hq;exact ⟨"list", its,.inl rfl,⟨ol,e1,e2,nl,e3⟩,rv⟩
  ·obtain ⟨its,rv,⟨ol,e1,e2,nl,e3⟩,_⟩:=I1.tuple hq;exact ⟨"tuple", its,.inr rfl,⟨ol,e1,e2,nl,e3⟩,rv⟩
 obtain ⟨ty,its,hty,hl,rv⟩:=key;have hi:F2 (fun v k=>(intKind X.prog X.w).is k v = true /\ v.scannable = true) its.toArray.toList ns:=by
  rw [List.toList_toArray];have:=zIe rv;clear rv hq q hb hl;induction this with
  | nil=>exact .nil
  | cons n t _ ih=>exact .cons ⟨intKind_is _ _ _ _,rfl⟩ ih
 refine zP7 (knd:=intKind X.prog X.w) hty (I1.ok.hd hc) hl hi hb fun h' tk o es ep t ho hS k=>?_;have I2:Inv X zB σ H1 { s1 with heap:=h',toks:=tk }:=I1.kept (t':=tk) fun b u e=>k b u (zWN e) e;exact ⟨_,o,es,ep,t,_,H1,rfl,ho,hS,I2,q⟩
end
end L2
namespace L3
open PySem PySem.Spec PyProof.Rows L2 ST
abbrev FZ:=Sd -> Mem -> Option (List Int × Mem)
def trZ (K:PySem.W.Frag) (f:FZ):TZ:=fun τ H Q=>∃ L σ M ks M',Cor K L M H /\ zB2 L H σ τ /\ f σ M = some (ks,M') /\ ∀ L' H',Stp L H L' H' -> Cor K L' M' H' -> Q ks H'
structure QZ (X:Cx) (e:Expr) (f:FZ):Prop where
 un:PZ X e (trZ X.K f)
theorem PZ.imp (h:PZ X e t) (hi:∀ τ H Q,t' τ H Q -> t τ H Q):PZ X e t':=fun zB s σ H Q I q=>h zB s σ H Q I (hi _ _ _ q)
noncomputable def zJj (own:List Nat) (fi:FI) (g:FG) (tc:FT) (te:FE):FZ:=fun σ M=>match zAO own fi g tc te σ M with
 | some (.fl ys,M2)=>match zBB ys with
  | some ks=>if ks.length + 1 < scanBound then some (zAN ks,M2) else none
  | none=>none
 | _=>none
theorem zHy:∀ {as bs:List D} {zs:List Int},zBB (as ++ bs) = some zs -> ∃ xs ys,zBB as = some xs /\ zBB bs = some ys /\ zs = xs ++ ys
 | [],bs,zs,h=>⟨[],zs,rfl,h,rfl⟩
 | a :: as,bs,zs,h=>by
  cases a with
  | int i=>
   rw [List.cons_append] at h;unfold zBB at h;split at h
   ·rename_i us e;cases h;obtain ⟨xs,ys,e1,e2,e3⟩:=zHy e;refine ⟨i :: xs,ys,?_,e2,by rw [e3]; rfl⟩;unfold zBB; rw [e1]
   ·cases h
  | _=>cases h
theorem zLK (h:zBB as = some xs):zBB (as ++ [.int i]) = some (xs ++ [i]):=by
 induction as generalizing xs with
 | nil=>cases h; rfl
 | cons a as ih=>
  cases a with
  | int j=>
   unfold zBB at h;split at h
   ·rename_i us e; cases h;rw [List.cons_append]; unfold zBB; rw [ih e]; rfl
   ·cases h
  | _=>cases h
theorem zOf {K:PySem.W.Frag} {own:List Nat} {fi:FI} {g:TG} {fg:FG} {tc:FT} {te:FE} (hg:zFi own g fg) {τ:Sv} {H:Hp} {Q:List Int -> Hp -> Prop} (h:trZ K (zJj own fi fg tc te) τ H Q):zL3 own (trI K fi) g (trT K tc) (trD K (toD te)) τ H Q:=by
 obtain ⟨L,σ,M,d,Mf,c,rs,hf,q⟩:=h;unfold zJj zAO at hf;cases e1:fi σ M with
 | none=>rw [e1] at hf; cases hf
 | some r=>
  obtain ⟨xs,gd,M1⟩:=r;rw [e1] at hf;dsimp only at hf;by_cases hz:xs.length <= sizeLine
  ·rw [zWR hz] at hf;cases e2:zBF fg tc te (zBl own σ) xs gd xs M1 with
   | none=>rw [e2] at hf; cases hf
   | some r=>
    obtain ⟨zs,M2⟩:=r;rw [e2] at hf;dsimp only at hf;split at hf
    ·rename_i kz ez;split at hf
     ·rename_i hb;cases hf;refine ⟨L,σ,M,_,_,_,c,rs,e1,fun L1 H1 J s1 c1 it=>?_⟩
      refine ⟨fun i m ys H'=>m = xs.length - i /\ i <= xs.length /\ ∃ L' M' as bs ka,Stp L1 H1 L' H' /\ Cor K L' M' H' /\ zBB as = some ka /\ ys = zAN ka /\ zBF fg tc te (zBl own σ) xs gd (xs.drop i) M' = some (bs,Mf) /\ as ++ bs = zs,
       ⟨xs.length,by simp,zWy _,L1,M1,[],zs,[],.refl _ _,c1,rfl,rfl,by simpa using e2,rfl⟩,?_⟩
      rintro i m ys H' ⟨rfl,hi,L',M',as,bs,ka,s',c',r',hl,e',hab⟩;by_cases hlt:i < xs.length
      ·rw [zCz hlt] at e';unfold zBF at e';split at e'
       ·rename_i hgd;obtain ⟨step,_⟩:=it L' H' M' s' c' hgd;obtain ⟨go,yl⟩:=step i xs[i] (zWG hlt);split at e'
        ·rename_i σ1 eg;refine .inr ⟨go,fun v H2 hy=>?_⟩;obtain ⟨gr,rv⟩:=yl v H2 hy;have s2:Stp L1 H1 L' H2:=s'.yld gr;refine hg (zFU own ((rs.stp s1).stp s2)) (.refl _) rv eg fun τ2 r2 x2=>⟨x2,?_⟩;split at e'
         ·rename_i M3 e3;split at e'
          ·rename_i d M4 e4;split at e'
           ·rename_i ds M5 e5;cases e';refine ⟨L',σ1,M',_,_,c'.grow gr,r2,e3,fun L3 H3 s3 c3=>zHN ?_⟩;refine ⟨L3,σ1,M3,_,_,c3,r2.stp s3,e4,fun L4 H4 w s4 c4 r4=>?_⟩;have st:Stp L' H' L4 H4:=((Stp.grow gr).trans s3).trans s4;have ez':=ez;rw [<- hab] at ez';obtain ⟨x1,y1,g1,g2,g3⟩:=zHy ez';obtain ⟨k,hk⟩:∃ k,d = .int k:=by
             cases d with
             | int k=>exact ⟨k,rfl⟩
             | _=>cases g2
            subst hk;have ew:w = .int k:=by unfold Rep at r4; exact r4
            have hka:ka.length <= kz.length:=by
             rw [r'] at g1; cases g1;rw [g3,zWS]; omega
            refine ⟨k,ew,?_,xs.length - (i + 1),by omega,rfl,hlt,L4,M4,as ++ [.int k],ds,ka ++ [k],s'.trans st,c4,zLK r',by rw [hl,zG6],e5,by rw [<- hab]; simp⟩;rw [hl];have:=zDK ka;omega
           ·cases e'
          ·cases e'
         ·rename_i M3 e3;refine ⟨L',σ1,M',_,_,c'.grow gr,r2,e3,fun L3 H3 s3 c3=>zHH ?_⟩;have st:Stp L' H' L3 H3:=(Stp.grow gr).trans s3;exact ⟨xs.length - (i + 1),by omega,rfl,hlt,L3,M3,as,bs,ka,s'.trans st,c3,r',hl,e',hab⟩
         ·cases e'
        ·cases e'
       ·cases e'
      ·have hi':i = xs.length:=by omega
       subst hi';rw [List.drop_length] at e';unfold zBF at e';split at e'
       ·rename_i hgd;cases e';obtain ⟨_,stop⟩:=it L' H' _ s' c' hgd;rw [zWw] at hab;subst hab;rw [r'] at ez; cases ez;refine .inl ⟨stop,?_⟩;rw [hl];exact q L' H' (s1.trans s') c'
       ·cases e'
     ·cases hf
    ·cases hf
  ·rw [zWU hz] at hf; cases hf
section
variable {X:Cx} {scope:Scope} {tg elt iter:Expr} {ifs:List Expr} {pos p:Pos} {own:List Nat} {e:Expr} {f:FE}
theorem zUG (hg:zFi own g fg) (C:CompIn X scope own) (hcalm:X.calm = true) (hi:QI X tg iter fi) (p:QParts X scope tg ifs elt g tc te) (hs:∀ x,foldedSetIterable iter X.env x = pure x:=by intro _; rfl) :
  QZ X (.SetComp elt [⟨tg,iter,ifs,0⟩] scope pos) (zJj own fi fg tc te) :=
 .mk <| PZ.imp (zRc C hcalm hi.un p.parts hs) fun _ _ _ h=>zOf hg h
def zHd (f:FE):FZ:=fun σ M=>match f σ M with
 | some (x,M1)=>match zAc M1 x with
  | some ds=>match zBB ds with
   | some ks=>if ks.length + 1 < scanBound then some (zAN ks,M1) else none
   | none=>none
  | none=>none
 | none=>none
theorem zSA (hc:X.calm = true) (hg:Gl X "set") (hm:X.mg "set" = none) (h:QE X e f) (hs:starEach [e] X.env = (false,eval e X.env) :: starEach [] X.env:=by rfl) (hpl:(backTo pos (starEach [] X.env)).any (·.1) = false:=by rfl) :
  QZ X (.Call (.Name "set" p) [e] [] pos) (zHd f):=.mk <| PZ.imp (zTt hc hg hm h.un hs hpl) fun τ H Q zz=>by
 obtain ⟨L,σ,M,d,M',c,rs,hf,q⟩:=zz;unfold zHd at hf;split at hf
 ·rename_i x M1 e1;split at hf
  ·rename_i ds e2;split at hf
   ·rename_i ks e3;split at hf
    ·rename_i hb;cases hf;refine ⟨L,σ,M,_,_,c,rs,e1,fun L1 H1 v s1 c1 r1=>?_⟩;obtain ⟨a,vs,rfl,hsq,r⟩:=zHP c1 r1 e2;have:=zEE e3 r;subst this;exact ⟨a,ks,rfl,hsq,hb,q L1 H1 s1 c1⟩
    ·cases hf
   ·cases hf
  ·cases hf
 ·cases hf
def zGv (f:FZ):FE:=fun σ M=>match f σ M with
 | some (ks,M1)=>if ks.length < 64 then some (.fl ((zEb ks).map D.int),M1) else none
 | none=>none
theorem zJd:∀ (ns:List Int),zW L H (ns.map D.int) (ns.map V.int)
 | []=> .nil
 | n :: ns=> .cons zAj (zJd ns)
theorem zNj (hc:X.calm = true) (hg:Gl X "sorted") (hm:X.mg "sorted" = none) (h:QZ X e fz) (hs:starEach [e] X.env = (false,eval e X.env) :: starEach [] X.env:=by rfl) (hpl:(backTo pos (starEach [] X.env)).any (·.1) = false:=by rfl) :
  QE X (.Call (.Name "sorted" p) [e] [] pos) (zGv fz):=.mk <| PE.imp (zPc hc hg hm h.un hs hpl) fun τ H Q zz=>by
 obtain ⟨L,σ,M,d,M',c,rs,hf,q⟩:=zz;unfold zGv at hf;split at hf
 ·rename_i ks M1 e1;split at hf
  ·rename_i hb;cases hf;refine ⟨L,σ,M,_,_,c,rs,e1,fun L1 H1 s1 c1=>⟨hb,fun p hp=>?_⟩⟩;exact q L1 _ _ (s1.trans (.upd hp)) (c1.upd hp) (zl.newLst s1 c c1 hp (zJd _))
  ·cases hf
 ·cases hf
end
open AutoSeq1 (wpAny_loadPart')
theorem zTa (hh:A.handled = none) (it l:Addr) (hne:l ≠ it) (items:Array Value) :
  Draws prog w A it [it,l] items.size (fun i v=>items[i]? = some v) (fun i h=>h.IsTupleIter it l i /\ h.IsTuple l items) where
 live:=fun _ _ st=>let ⟨o,ho,_⟩:=st.1; ⟨o,ho⟩;frame:=fun _ _ _ st hk=>⟨let ⟨o,ho,r⟩:=st.1; ⟨o,hk it (by simp) o ho,r⟩,let ⟨o,ho,r⟩:=st.2; ⟨o,hk l (by simp) o ho,r⟩⟩;item:=fun i s Q E hi st hQ=>by
  refine zM9 st.1 st.2 (x:=items[i]) (by simp [hi]) fun h' hit' hs'=>?_;exact hQ _ h' s.toks (by simp [hi]) ⟨hit',Tup.but st.2 hs'.extBut hne⟩ hs'
 done:=fun s Q E st hE=>zJD hh st.1 st.2 (by simp) hE
theorem zLA (l:Addr) (items:Array Value) (n:Nat) (dct:Option Addr) (sl:Array (Option Value)) :
  Meets (Builtin.«enumerate.__new__» ⟨[.type "enumerate", .ref l],[]⟩) (fun _ R s=>s.heap.get? l = some { cls:=.type "tuple", dict:=dct,data:=.seq items n,slots:=sl } /\
   R (.ok (.ret (.ref (s.heap.push { cls:=.type "tuple_iterator", data:=.fields #[.ref l,.int 0 0] }).objs.size)))
    { s with heap:=(s.heap.push { cls:=.type "tuple_iterator", data:=.fields #[.ref l,.int 0 0] }).push { cls:=.type "enumerate", data:=.fields #[.none,.bool false,.ref s.heap.objs.size,rawInt 0,.none,.none] } }) :=
 .of_wp fun prog w A R s h=>by
  obtain ⟨hp,g,d,tk,os⟩:=s; obtain ⟨hl,h⟩:=h;have hsub:=sub_enumerate;have hL:Heap.IsTuple (Shared.heap ⟨hp,g,d,tk,os⟩) l items:=⟨_,hl,rfl,n,rfl⟩;wp_walk using wpAny_loadPart' hl;refine wpAny_stack_any fun st=>zWE ?_;split
  ·rename_i c _ _ _ _ _;cases (c == Value.type "enumerate")
   ·wp_walk using wpAny_loadPart' hl,wpAny_pyIter_tuple hL;exact ⟨_,rfl,h⟩
   ·wp_walk using wpAny_loadPart' hl,wpAny_pyIter_tuple hL;exact ⟨_,rfl,h⟩
  ·wp_walk using wpAny_loadPart' hl,wpAny_pyIter_tuple hL;exact ⟨_,rfl,h⟩
section
variable {prog:Program} {w:World} {A:Around} {E:Value -> Shared -> Prop} {s:Shared}
theorem zMK (hL:s.heap.IsTuple l items)
  (h:∀ h',IsEnum h' (s.heap.objs.size + 1) s.heap.objs.size 0 .none -> h'.IsTupleIter s.heap.objs.size l 0 -> (∀ c o,s.heap.get? c = some o -> h'.get? c = some o) -> Q (.ref (s.heap.objs.size + 1)) { s with heap:=h' }) :
  wpAny (model prog w) A (call (.type "enumerate") [.ref l]) Q E s:=by
 obtain ⟨o,ho,hc,n,hd⟩:=hL;obtain ⟨ocls,odict,odata,oslots⟩:=o;simp only at hc hd;subst hc; subst hd;refine callType_new PySem.F.called_enumerate (by decide) (PySem.F.typeCall_enumerate_1 _) (PySem.F.newCall_enumerate_1 _) (fun obj=>PySem.F.args_object_init_2 obj _) PySem.F.entry_enumerate_new (zLA l items n odict oslots) ⟨ho,?_⟩;have q1:(s.heap.push { cls:=.type "tuple_iterator", data:=.fields #[.ref l,.int 0 0] }).objs.size = s.heap.objs.size + 1:=zWs ..;have p2:((s.heap.push { cls:=.type "tuple_iterator", data:=.fields #[.ref l,.int 0 0] }).push { cls:=.type "enumerate", data:=.fields #[.none,.bool false,.ref s.heap.objs.size,rawInt 0,.none,.none] }).get? (s.heap.push { cls:=.type "tuple_iterator", data:=.fields #[.ref l,.int 0 0] }).objs.size = some _:=zWM _ rfl;show _ /\ _;rw [q1] at p2;rw [q1];exact ⟨⟨_,p2,rfl⟩,h _ p2 ⟨_,zWD _ (zWM _ rfl),rfl,rfl⟩ fun c o x=>zWD _ (zWD _ x)⟩
theorem zLB (he:IsEnum s.heap e it i old)
  (hn:∀ (Q':Value -> Shared -> Prop) (E':Value -> Shared -> Prop),(∀ h' x,Heap.ExtBut it s.heap h' -> (∃ o,h'.get? x = some o /\ o.cls = .type "StopIteration") -> E' (.ref x) { s with heap:=h' }) -> wpAny (model prog w) A.in1 (Builtin.SmallTypes.nextOf (.ref it)) Q' E' s)
  (hQ:∀ h',Heap.ExtBut it s.heap h' -> Q none { s with heap:=h' }):wpAny (model prog w) A (pyNext (.ref e)) Q E s:=by
 have hT:s.TypeIs (.ref e) "enumerate" := ⟨_,he,rfl⟩;unfold pyNext
 refine zWC (wpAny_attempt (zWo (name:=Str.ofString "__next__") hT PySem.F.slot_enumerate_next
  (zWp PySem.F.slot_enumerate_next hT PySem.F.entry_enumerate_next ?_ (PySem.F.args_enumerate_next_1 _))))
 show wpAny _ _ (field (.ref e) 2 >>= _) _ _ _;refine zWC (zWr he rfl (x:=.ref it) rfl ?_);refine zWC (hn _ _ fun h' x he' hx'=>?_);obtain ⟨o,ho,hc⟩:=hx';refine zWC (wpAny_isInstance (T := "StopIteration") (b:=true) ⟨o,ho,hc⟩ isSubtype_stop ?_);exact zWE (hQ _ he')
end
def zLj (K:PySem.W.Frag) (isT:Bool) (a:Addr):It :=
 ⟨fun i H=>∃ xs x,(if isT then SqT K H a xs else SqL K H a xs) /\ xs[i]? = some x,
  fun i H v H'=>∃ T x,v = .ref T /\ H T = none /\ H' = upd H T (.tup [.int i,x]) /\ ∀ xs,(if isT then SqT K H a xs else SqL K H a xs) -> xs[i]? = some x,
  fun i H=>∃ xs,(if isT then SqT K H a xs else SqL K H a xs) /\ xs.length <= i⟩
def zSK (isT:Bool) (it a:Addr) (i:Nat) (h:Heap):Prop:=if isT then h.IsTupleIter it a i else h.IsListIter it a i
theorem zN7 {P:Program} {w:World} {K:PySem.W.Frag} {es:List Expr} {ek:Nat} {ep:Pos} {isT:Bool} {e it a:Addr} (hei:e ≠ it) (hae:a ≠ e) (hai:a ≠ it) :
  Turn P w K (.Tuple es ek ep) (zLj K isT a) [e,it] e (fun i h=>(∃ old,IsEnum h e it i old) /\ zSK isT it a i h) where
 mem:=by simp
 obj:=fun i h ⟨⟨old,he⟩,st⟩ c hc=>by
  simp only [zWO,zWh,or_false] at hc;rcases hc with rfl | rfl
  ·exact ⟨_,he,fun v m=>by cases m⟩
  ·cases isT with
   | true=>obtain ⟨o1,e1,_,d1⟩:=(show h.IsTupleIter c a i from st); exact ⟨_,e1,fun v m=>by rw [d1] at m; cases m⟩
   | false=>obtain ⟨o1,e1,_,d1⟩:=(show h.IsListIter c a i from st); exact ⟨_,e1,fun v m=>by rw [d1] at m; cases m⟩
 keep:=fun i h h' ⟨⟨old,he⟩,st⟩ k=>by
  refine ⟨⟨old,k e (by simp) _ he⟩,?_⟩;cases isT with
  | true=>obtain ⟨o1,e1,r⟩:=(show h.IsTupleIter it a i from st); exact ⟨o1,k it (by simp) _ e1,r⟩
  | false=>obtain ⟨o1,e1,r⟩:=(show h.IsListIter it a i from st); exact ⟨o1,k it (by simp) _ e1,r⟩
 item:=by
  intro X hP hw hK hc i zB s σ H E I hf Z hg;subst hP hw hK;obtain ⟨⟨old,he⟩,st⟩:=Z;obtain ⟨xs,x,sa,hx⟩:=hg;have hch:∀ c ∈ [e,it],zDB X zB H c:=hf;have elt:e < s.heap.objs.size:=zWN he
  have fin:∀ (its:List Value) (u:Value) (h':Heap) (tk:Nat),zm xs its -> its[i]? = some u -> IsEnumOut h' e it ((i:Int) + 1) u s.heap.objs.size -> zSK isT it a (i + 1) h' -> h'.get? s.heap.objs.size = some { cls:=.type "tuple", data:=.seq #[.int i tk,u] } ->
    (∀ b o,b ≠ e -> b ≠ it -> s.heap.get? b = some o -> h'.get? b = some o) -> it < s.heap.objs.size ->
    ∃ u',some (Value.ref s.heap.objs.size) = some u' /\ wpAny (model X.prog X.w) X.A (letOwnedTupleGo (.Tuple es ek ep) (.ref e) u') (fun _ s2=>∃ x H',Inv X zB σ H' s2 /\ zw x u' /\ (zLj X.K isT a).yld i H x H' /\ ((∃ old,IsEnum s2.heap e it ((i + 1:Nat):Int) old) /\ zSK isT it a (i + 1) s2.heap) /\ ∀ b ∈ [e,it],H' b = none) E { s with heap:=h',toks:=tk + 1 }:=by
   intro its u h' tk rv hu ho st' hT hk ilt;refine ⟨_,rfl,wpAny_letOwnedTupleGo_enum ho fun h2 he2 e2=>?_⟩;have kk:∀ c o,c ∉ [e,it] -> s.heap.get? c = some o -> h2.get? c = some o:=fun c o n q=>by
    simp only [zWO,zWh,or_false,not_or] at n;exact e2.extBut _ _ n.1 (hk c o n.1 n.2 q)
   have NT:=e2.extBut _ _ (zXh elt) hT;have hfr:H s.heap.objs.size = none:=I.hok.fresh (zWI _);obtain ⟨u2,hu2,ru⟩:=rv.get hx;rw [hu] at hu2; cases hu2;refine ⟨.ref s.heap.objs.size,upd H s.heap.objs.size (.tup [.int i,x]),zHF (s:=s) (h':=h2) (t':=tk + 1) I hch kk (zWI _) ?_,rfl,⟨_,x,rfl,hfr,rfl,fun ws hw=>?_⟩,⟨⟨u,by simpa using he2⟩,?_⟩,fun c hm=>?_⟩
   ·exact ⟨by show 2 <= sizeLine; decide,[.int i tk,u],.cons ⟨tk,rfl⟩ (.cons ru .nil),⟨_,NT,rfl,⟨_,rfl⟩,rfl⟩⟩
   ·cases isT with
    | true=>rw [I.tuple_inj hw sa]; exact hx
    | false=>rw [I.list_inj hw sa]; exact hx
   ·cases isT with
    | true=>obtain ⟨o1,e1,r⟩:=(show h'.IsTupleIter it a (i + 1) from st'); exact ⟨o1,e2.extBut _ _ hei.symm e1,r⟩
    | false=>obtain ⟨o1,e1,r⟩:=(show h'.IsListIter it a (i + 1) from st'); exact ⟨o1,e2.extBut _ _ hei.symm e1,r⟩
   ·have lt:c < s.heap.objs.size:=by
     simp only [zWO,zWh,or_false] at hm;rcases hm with rfl | rfl
     ·exact elt
     ·exact ilt
    rw [zh (zWX lt)];exact (hf c hm).1
  have hef:e ∉ [it,a]:=by simp only [zWO,zWh,or_false,not_or]; exact ⟨hei,hae.symm⟩
  cases isT with
  | true=>
   obtain ⟨its,rv,p1,z1⟩:=I.tuple sa;have st':s.heap.IsTupleIter it a i:=st;obtain ⟨o1,e1,_⟩:=id st';refine wpAny_pyNext_enum_itemD (zTa (prog:=X.prog) (w:=X.w) (A:=X.A.in1) (I.ok.hd hc) it a hai its.toArray) he ⟨st',show s.heap.IsTuple a its.toArray from p1⟩ (by have:=rv.length; have:=(zWF.mp hx).1; rw [zWK]; omega) hei hef fun u h' tk hu ho hs hT _ hk=>?_;exact fin its u h' tk rv (by simpa using hu) ho hs.1 hT hk (zWN e1)
  | false=>
   obtain ⟨its,rv,p1,z1⟩:=I.list sa;have st':s.heap.IsListIter it a i:=st;obtain ⟨o1,e1,_⟩:=id st';refine wpAny_pyNext_enum_itemD (Draws.list (prog:=X.prog) (w:=X.w) (A:=X.A.in1) (I.ok.hd hc) it a hai its.toArray) he ⟨st',p1.isList⟩ (by have:=rv.length; have:=(zWF.mp hx).1; rw [zWK]; omega) hei hef fun u h' tk hu ho hs hT _ hk=>?_;exact fin its u h' tk rv (by simpa using hu) ho hs.1 hT hk (zWN e1)
 done:=by
  intro X hP hw hK hc i zB s σ H E I hf Z hg;subst hP hw hK;obtain ⟨⟨old,he⟩,st⟩:=Z;obtain ⟨xs,sa,hz⟩:=hg;have out:∀ h',Heap.ExtBut it s.heap h' -> (none:Option Value) = none /\ Inv X zB σ H { s with heap:=h' }:=fun h' x=>⟨rfl,zJP (s:=s) (h':=h') (t':=s.toks) I hf fun c o n q=>x c o (fun m=>n (by simp [m])) q⟩;cases isT with
  | true=>
   obtain ⟨its,rv,p1,z1⟩:=I.tuple sa;refine zLB he (fun Q' E' hq=>zJD (I.ok.hd hc) (show s.heap.IsTupleIter it a i from st) (show s.heap.IsTuple a its.toArray from p1) (by have:=rv.length; simp; omega) hq) out
  | false=>
   obtain ⟨its,rv,p1,z1⟩:=I.list sa;refine zLB he (fun Q' E' hq=>wpAny_nextOf_list_end (I.ok.hd hc) (show s.heap.IsListIter it a i from st) p1.isList (by have:=rv.length; simp; omega) hq) out
 self:=fun _ _ _ _ _ Z h=>let ⟨⟨_,he⟩,_⟩:=Z; wpAny_pyIter_enum he h
section
variable {X:Cx} {a:Expr} {es:List Expr} {ek:Nat} {ep p pos:Pos}
theorem zRm {te:TE} (hg:Gl X "enumerate") (hm:X.mg "enumerate" = none) (ha:PE X a te) (hs:starEach [a] X.env = (false,eval a X.env) :: starEach [] X.env:=by rfl) (hpl:(backTo pos (starEach [] X.env)).any (·.1) = false:=by rfl) :
  PI X (.Tuple es ek ep) (.Call (.Name "enumerate" p) [a] [] pos) (fun σ H R=>te σ H fun x H1=>∃ l,x = .ref l /\ ((∃ xs,SqT X.K H1 l xs) /\ R (zLj X.K true l) H1 \/ (∃ xs,SqL X.K H1 l xs) /\ R (zLj X.K false l) H1)):=by
 intro zB s σ H R I h;refine wpAny_Call_Name_kw (zFp I hg hm (by rfl) ?_ (by decide) (by decide));refine callWith_type1 ?_ hs hpl;rw [hs];show wpAny _ _ (spliced ((false,eval a X.env) :: backTo pos (starEach [] X.env))) _ _ s;refine Calls.spliced_cons (thn (ha zB s σ H _ I h) fun u s1 ⟨x,H1,I1,r1,l,hx,q⟩=>Calls.spliced_nil ?_);subst hx;cases r1
 have out:∀ (isT:Bool) (h':Heap),l < s1.heap.objs.size -> IsEnum h' (s1.heap.objs.size + 1) s1.heap.objs.size 0 .none -> zSK isT s1.heap.objs.size l 0 h' -> (∀ c o,s1.heap.get? c = some o -> h'.get? c = some o) -> R (zLj X.K isT l) H1 ->
   wpAny (model X.prog X.w) X.A (pyIter (.ref (s1.heap.objs.size + 1))) (PIE X zB σ (.Tuple es ek ep) R) X.xe { s1 with heap:=h' }:=by
  intro isT h' hl he st kp q;refine wpAny_pyIter_enum (s:={ s1 with heap:=h' }) he ?_;refine ⟨s1.heap.objs.size + 1,[s1.heap.objs.size + 1,s1.heap.objs.size],_,_,H1,rfl,I1.kept (t':=s1.toks) kp,zN7 (isT:=isT) (zXh (zW9 _)) (zWX (zW1 hl)) (zWX hl),⟨⟨_,he⟩,st⟩,fun c hc=>?_,q⟩;have ge:s1.heap.objs.size <= c:=by
   simp only [zWO,zWh,or_false] at hc;rcases hc with rfl | rfl
   ·exact zXu _
   ·exact zWI _
  exact I1.fpOk ge (I1.hok.fresh ge)
 rcases q with ⟨⟨xs,hq⟩,q⟩ | ⟨⟨xs,hq⟩,q⟩
 ·obtain ⟨its,rv,p1,_⟩:=I1.tuple hq;have hl:l < s1.heap.objs.size:=by obtain ⟨_,e,_⟩:=p1; exact zWN e
  exact zMK (show s1.heap.IsTuple l its.toArray from p1) fun h' he st kp=>out true h' hl he st kp q
 ·obtain ⟨its,rv,p1,_⟩:=I1.list hq;have hl:l < s1.heap.objs.size:=by obtain ⟨_,_,e,_⟩:=p1; exact zWN e
  exact call_enumerate_list p1.isList fun h' he st _ kp=>out false h' hl he st kp q
def zK1 (xs:List D):List D:=((List.range xs.length).zip xs).map fun q=>D.tup [.int (q.1:Nat),q.2]
theorem zQQ {xs:List D} {i:Nat} {d:D} (h:(zK1 xs)[i]? = some d):∃ x,xs[i]? = some x /\ d = .tup [.int (i:Nat),x]:=by
 unfold zK1 at h;rw [zWZ] at h;cases e:((List.range xs.length).zip xs)[i]? with
 | none=>rw [e] at h; cases h
 | some pr=>
  rw [e] at h;cases h;obtain ⟨f1,f2⟩:=List.getElem?_zip_eq_some.mp e;have hi:i < xs.length:=(zWF.mp f2).1;rw [List.getElem?_range hi] at f1;cases f1;exact ⟨pr.2,f2,rfl⟩
theorem zQS (xs:List D):(zK1 xs).length = xs.length:=by unfold zK1; simp
def zLx (f:FE):FI:=fun σ M=>match f σ M with
 | some (x,M1)=>match zAc M1 x with
  | some xs=>some (zK1 xs,zFZ x xs,M1)
  | none=>none
 | none=>none
theorem zRe {g:FE} (hg:Gl X "enumerate") (hm:X.mg "enumerate" = none) (h:QE X a g) (hs:starEach [a] X.env = (false,eval a X.env) :: starEach [] X.env:=by rfl) (hpl:(backTo pos (starEach [] X.env)).any (·.1) = false:=by rfl) :
  QI X (.Tuple es ek ep) (.Call (.Name "enumerate" p) [a] [] pos) (zLx g):=.mk <| PI.imp (zRm hg hm h.un hs hpl) fun τ H R zz=>by
 obtain ⟨L,σ,M,xs,gd,M',c,rs,hf,q⟩:=zz;unfold zLx at hf;split at hf
 ·rename_i y M1 e1;split at hf
  ·rename_i zs e2;cases hf;refine ⟨L,σ,M,_,_,c,rs,e1,fun L1 H1 v s1 c1 r1=>?_⟩
   have step:∀ (isT:Bool) (l:Addr) (L2:List Addr) (H2:Hp) (vs:List V),(if isT then SqT X.K H2 l vs else SqL X.K H2 l vs) -> zW L2 H2 zs vs ->
     (∀ (i:Nat) d,(zK1 zs)[i]? = some d -> (zLj X.K isT l).go i H2 /\ ∀ v H'',(zLj X.K isT l).yld i H2 v H'' -> (∀ a o,H2 a = some o -> H'' a = some o) /\ Rep L2 H'' d v) /\ (zLj X.K isT l).stop (zK1 zs).length H2:=by
    intro isT l L2 H2 vs hq r;refine ⟨fun i d hd=>?_,⟨vs,hq,by rw [zQS,r.length]; exact zWI _⟩⟩;obtain ⟨x,hx,rfl⟩:=zQQ hd;obtain ⟨u,hu,ru⟩:=r.get hx;refine ⟨⟨vs,u,hq,hu⟩,fun v H3 hy=>?_⟩;obtain ⟨T,x',rfl,hT,rfl,hxx⟩:=hy;have ex:=hxx vs hq;rw [hu] at ex; cases ex;exact ⟨fun a o e=>by rw [zh (zAS e hT)]; exact e,Rep.newTup hT (.cons zAj (.cons ru .nil))⟩
   unfold zAc at e2;cases t:zCm y with
   | some ws=>
    rw [t] at e2; cases e2;obtain ⟨a,vs,rfl,e3,r3⟩:=zBO r1 t;refine ⟨a,rfl,.inl ⟨⟨vs,.of e3⟩,q L1 H1 _ s1 c1 fun L2 H2 M2 s2 c2 _=>?_⟩⟩;exact step true a L2 H2 vs (.of (s2.tup a vs e3)) (r3.stp s2)
   | none=>
    rw [t] at e2;dsimp only at e2;obtain ⟨a,vs,rfl,e3,r3⟩:=zA8 c1 r1 e2;refine ⟨a,rfl,.inr ⟨⟨vs,.inl e3⟩,q L1 H1 _ s1 c1 fun L2 H2 M2 s2 c2 hgd=>?_⟩⟩;have key:∃ vs',SqL X.K H2 a vs' /\ zW L2 H2 zs vs':=by
     cases y with
     | fl ys=>
      cases e2;obtain ⟨p',vs',hp',_,e5,e6,r6⟩:=r1;cases hp';exact ⟨vs',.of (s2.old _ _ e5 e6),r6.stp s2⟩
     | dat d=>
      cases d with
      | ref n=>
       unfold zl Rep at r1;obtain ⟨a',ha',e5⟩:=r1;cases ha';have e6:L2[n]? = some a:=by obtain ⟨N,hN⟩:=s2.pre; rw [hN]; exact zCR e5
       rcases hgd with z | z
       ·obtain ⟨vs',e7,r7⟩:=c2.obj n a _ e6 z; exact ⟨vs',.of e7,r7⟩
       ·obtain ⟨o,vs',e7,r7⟩:=c2.obj n a _ e6 z; exact ⟨vs',.inl (.inr ⟨o,e7⟩),r7⟩
      | _=>cases e2
    obtain ⟨vs',hq,r7⟩:=key;exact step false a L2 H2 vs' hq r7
  ·cases hf
 ·cases hf
end
section
variable {κ:Type} [DecidableEq κ]
def zFb (kf:D -> Option κ) (kvs:List (D × D)) (k:κ):Option D:=(kvs.find? fun p=>decide (kf p.1 = some k)).map (·.2)
def zKv (kf:D -> Option κ) (kvs:List (D × D)) (k:κ) (kd v:D):List (D × D) :=
 if (kvs.any fun p=>decide (kf p.1 = some k)) = true then kvs.map fun p=>if kf p.1 = some k then (p.1,v) else p else kvs ++ [(kd,v)]
theorem zIP (k:κ):∀ {kvs:List (D × D)} {vs:List (κ × V)},zBg kf L H kvs vs -> (zFb kf kvs k = none /\ zFX vs k = none) \/ ∃ d v,zFb kf kvs k = some d /\ zFX vs k = some v /\ Rep L H d v
 | [],vs,h=>by unfold zBg at h; subst h; exact .inl ⟨rfl,rfl⟩
 | p :: r,vs,h=>by
  obtain ⟨k',v,r',rfl,e,h1,h2⟩:=h;by_cases q:k' = k
  ·subst q;exact .inr ⟨p.2,v,by unfold zFb; rw [zXy,e]; simp,by rw [zGQ rfl],h1⟩
  ·have e1:zFb kf (p :: r) k = zFb kf r k:=by unfold zFb; rw [zXy,e]; simp [q]
   rw [e1,zF6 q];exact zIP k h2
theorem zLO (k:κ):∀ {kvs:List (D × D)} {vs:List (κ × V)},zBg kf L H kvs vs -> (kvs.any fun p=>decide (kf p.1 = some k)) = (vs.any fun kv=>decide (kv.1 = k))
 | [],vs,h=>by unfold zBg at h; subst h; rfl
 | p :: r,vs,h=>by
  obtain ⟨k',v,r',rfl,e,h1,h2⟩:=h;rw [List.any_cons,List.any_cons,zLO k h2,e];simp
theorem zIK (k:κ) (hd:Rep L H d u):∀ {kvs:List (D × D)} {vs:List (κ × V)},zBg kf L H kvs vs -> zBg kf L H (kvs.map fun p=>if kf p.1 = some k then (p.1,d) else p) (vs.map fun kv=>if kv.1 = k then (kv.1,u) else kv)
 | [],vs,h=>by unfold zBg at h; subst h; rfl
 | p :: r,vs,h=>by
  obtain ⟨k',v,r',rfl,e,h1,h2⟩:=h;rw [zWV,zWV];by_cases q:k' = k
  ·subst q;rw [zWR e,zWR rfl];exact ⟨k',u,_,rfl,e,hd,zIK k' hd h2⟩
  ·rw [zWU (by rw [e]; simpa using q),zWU q];exact ⟨k',v,_,rfl,e,h1,zIK k hd h2⟩
theorem zJV (hk:kf kd = some k) (hd:Rep L H d u):∀ {kvs:List (D × D)} {vs:List (κ × V)},zBg kf L H kvs vs -> zBg kf L H (kvs ++ [(kd,d)]) (vs ++ [(k,u)])
 | [],vs,h=>by unfold zBg at h; subst h; exact ⟨k,u,[],rfl,hk,hd,rfl⟩
 | p :: r,vs,h=>by
  obtain ⟨k',v,r',rfl,e,h1,h2⟩:=h;exact ⟨k',v,_,rfl,e,h1,zJV hk hd h2⟩
theorem zNt {kf:D -> Option κ} {L:List Addr} {H:Hp} {k:κ} {kd d:D} {u:V} (hk:kf kd = some k) (hd:Rep L H d u) {kvs:List (D × D)} {vs:List (κ × V)} (h:zBg kf L H kvs vs):zBg kf L H (zKv kf kvs k kd d) (zEf vs k u):=by
 unfold zKv zEf;rw [zLO k h];split
 ·exact zIK k hd h
 ·exact zJV hk hd h
end
theorem zLU:∀ {ds:List D} {vs:List V} {ks:List Key},zW L H ds vs -> zFa ds = some ks -> vs = ks.map kV
 | [],vs,ks,h,e=>by cases e; unfold zW at h; exact h
 | d :: ds,vs,ks,h,e=>by
  unfold zW at h;obtain ⟨v,r,rfl,h1,h2⟩:=h;unfold zFa at e;cases e1:zGt d with
  | none=>rw [e1] at e; cases e
  | some k=>
   cases e2:zFa ds with
   | none=>rw [e1,e2] at e; cases e
   | some ks'=>
    rw [e1,e2] at e; cases e;rw [zJp h1 e1,zLU h2 e2]; rfl
theorem zQa (h:Rep L H d v) (e:tkD d = some ks):∃ b,v = .ref b /\ H b = some (.tup (ks.map kV)):=by
 cases d with
 | tup ds=>
  unfold Rep at h;obtain ⟨a,vs,rfl,e1,r⟩:=h;exact ⟨a,rfl,by rw [e1,zLU r e]⟩
 | _=>cases e
def zG5 (M:Mem) (x:EV) (k:D):Option (Option D):=match x with
 | .dat (.ref n)=>match M[n]? with
  | some (.dict kvs)=>match zGt k with
   | some kk=>some (zFb zGt kvs kk)
   | none=>none
  | some (.dicT kvs)=>match tkD k with
   | some kk=>some (zFb tkD kvs kk)
   | none=>none
  | _=>none
 | _=>none
def zVT (L:List Addr) (H:Hp):Option D -> Option V -> Prop
 | none,o=>o = none
 | some d,o=>∃ v,o = some v /\ Rep L H d v
theorem zF5 {K:PySem.W.Frag} {L:List Addr} {M:Mem} {H H0:Hp} {x:EV} {v w:V} {k:D} {o:Option D} (c:Cor K L M H) (rx:zl H0 L H x v) (rk:Rep L H k w) (e:zG5 M x k = some o):∃ a ov,v = .ref a /\ zD4 H a w ov /\ zVT L H o ov:=by
 cases x with
 | fl xs=>cases e
 | dat d=>
  cases d with
  | ref n=>
   unfold zl Rep at rx;obtain ⟨a,rfl,ea⟩:=rx;unfold zG5 at e;dsimp only at e;cases q:M[n]? with
   | none=>rw [q] at e; cases e
   | some m=>
    rw [q] at e;have z:=c.obj n a m ea q;cases m with
    | dict kvs=>
     dsimp only at e;cases e2:zGt k with
     | none=>rw [e2] at e; cases e
     | some kk=>
      rw [e2] at e;cases e;obtain ⟨vs,e3,r⟩:=z;refine ⟨a,zFX vs kk,rfl,?_,?_⟩
      ·rw [zJp rk e2]; exact zD4.k e3
      ·rcases zIP kk r with ⟨h1,h2⟩ | ⟨d,v,h1,h2,h3⟩
       ·rw [h1,h2]; rfl
       ·rw [h1,h2]; exact ⟨v,rfl,h3⟩
    | dicT kvs=>
     dsimp only at e;cases e2:tkD k with
     | none=>rw [e2] at e; cases e
     | some kk=>
      rw [e2] at e;cases e;obtain ⟨vs,e3,r⟩:=z;obtain ⟨b,rfl,eb⟩:=zQa rk e2;refine ⟨a,zFX vs kk,rfl,zD4.t e3 eb,?_⟩;rcases zIP kk r with ⟨h1,h2⟩ | ⟨d,v,h1,h2,h3⟩
      ·rw [h1,h2]; rfl
      ·rw [h1,h2]; exact ⟨v,rfl,h3⟩
    | _=>cases e
  | _=>cases e
def zG4 (M:Mem) (n:Nat) (k v:D):Option Mem:=match M[n]? with
 | some (.dict kvs)=>match zGt k with
  | some kk=>if kvs.length < sizeLine then some (M.set n (.dict (zKv zGt kvs kk k v))) else none
  | none=>none
 | some (.dicT kvs)=>match tkD k with
  | some kk=>if kvs.length < sizeLine then some (M.set n (.dicT (zKv tkD kvs kk k v))) else none
  | none=>none
 | _=>none
theorem zLR {K:PySem.W.Frag} {L:List Addr} {M M':Mem} {H:Hp} {n:Nat} {a:Addr} {k v:D} {w u:V} (c:Cor K L M H) (ea:L[n]? = some a) (rk:Rep L H k w) (rv:Rep L H v u) (e:zG4 M n k v = some M'):∃ H',zHI H a w u H' /\ Cor K L M' H' /\ Stp L H L H':=by
 unfold zG4 at e;cases q:M[n]? with
 | none=>rw [q] at e; cases e
 | some m=>
  rw [q] at e;have z:=c.obj n a m ea q;cases m with
  | dict kvs=>
   dsimp only at e;cases e2:zGt k with
   | none=>rw [e2] at e; cases e
   | some kk=>
    rw [e2] at e;dsimp only at e;split at e
    ·rename_i hl;cases e;obtain ⟨vs,e3,r⟩:=z;obtain ⟨c3,s3⟩:=c.put (m:=.dict (zKv zGt kvs kk k v)) (o':=.dK (zEf vs kk u)) ea e3 (fun _ z=>by cases z) (fun _ _ z=>by cases z) fun s3=>⟨_,zAe,(zNt e2 rv r).stp s3⟩;refine ⟨_,?_,c3,s3⟩;rw [zJp rk e2]; exact zHI.k e3 (by rw [r.length]; exact hl)
    ·cases e
  | dicT kvs=>
   dsimp only at e;cases e2:tkD k with
   | none=>rw [e2] at e; cases e
   | some kk=>
    rw [e2] at e;dsimp only at e;split at e
    ·rename_i hl;cases e;obtain ⟨vs,e3,r⟩:=z;obtain ⟨b,rfl,eb⟩:=zQa rk e2;obtain ⟨c3,s3⟩:=c.put (m:=.dicT (zKv tkD kvs kk k v)) (o':=.dT (zEf vs kk u)) ea e3 (fun _ z=>by cases z) (fun _ _ z=>by cases z) fun s3=>⟨_,zAe,(zNt e2 rv r).stp s3⟩;exact ⟨_,zHI.t e3 eb (by rw [r.length]; exact hl),c3,s3⟩
    ·cases e
  | _=>cases e
section
variable {X:Cx} {a b e o i value:Expr} {pos pos' apos cpos:Pos} {f g h:FE}
def zAw:K2:=fun x y M=>match y with
 | .dat k=>match zG5 M x k with
  | some (some d)=>some (.dat d,M)
  | _=>none
 | _=>none
theorem zQd {K:PySem.W.Frag}:zCc K (fun x y H Q=>∃ a v,x = .ref a /\ zD4 H a y (some v) /\ Q v H) zAw:=by
 intro L M M' H H0 x y d v w Q c rx ry hk q;unfold zAw at hk;split at hk
 ·rename_i k;split at hk
  ·rename_i d' e1;cases hk;obtain ⟨a,ov,rfl,h1,h2⟩:=zF5 c rx ry e1;obtain ⟨u,rfl,r⟩:=h2;exact ⟨a,u,rfl,h1,q L H u (.refl L H) c r⟩
  ·cases hk
 ·cases hk
theorem zEM (hu:X.A.units + 1 < cLine) (h1:QE X o f) (h2:QE X i g) (hs:zTV i:=by intro _ _; rfl):QE X (.Subscript o i pos) (fOp zAw f g):=.mk <| PE.imp (zRj hu h1.un h2.un hs) fun _ _ _ h=>zEQ zQd h
def zCg (neg:Bool):K2:=fun x y M=>match x with
  | .dat k=>match zG5 M y k with
    | some o=>some (.dat (.bl (if neg then !o.isSome else o.isSome)),M)
    | none=>none
  | _=>none
theorem zLh {o:Option D} {ov:Option V} (h:zVT L H o ov):ov.isSome = o.isSome:=by
  cases o with
  | none => have h' : ov = none := h
            rw [h']; rfl
  | some d=>obtain ⟨v,rfl,_⟩:=h; rfl
theorem zSC {K:PySem.W.Frag}:zCc K (fun y x H Q=>∃ a o,x = .ref a /\ zD4 H a y o /\ Q (.bl o.isSome) H) (zCg false):=by
 intro L M M' H H0 x y d v w Q c rx ry hk q;unfold zCg at hk;split at hk
 ·rename_i k;split at hk
  ·rename_i o e1;cases hk;obtain ⟨a,ov,rfl,h1,h2⟩:=zF5 c ry rx e1;refine ⟨a,ov,rfl,h1,?_⟩;rw [zLh h2];exact q L H _ (.refl L H) c (zBQ (L:=L) (H:=H))
  ·cases hk
 ·cases hk
theorem zM3 {K:PySem.W.Frag}:zCc K (fun y x H Q=>∃ a o,x = .ref a /\ zD4 H a y o /\ Q (.bl (!o.isSome)) H) (zCg true):=by
 intro L M M' H H0 x y d v w Q c rx ry hk q;unfold zCg at hk;split at hk
 ·rename_i k;split at hk
  ·rename_i o e1;cases hk;obtain ⟨a,ov,rfl,h1,h2⟩:=zF5 c ry rx e1;refine ⟨a,ov,rfl,h1,?_⟩;rw [zLh h2];exact q L H _ (.refl L H) c (zBQ (L:=L) (H:=H))
  ·cases hk
 ·cases hk
theorem zJl (hu:X.A.units + 1 < cLine) (h1:QE X a f) (h2:QE X b g) (hm:behindInMarks .In b = false:=by rfl):QT X (.Compare a [.In] [b] pos) (tst (fOp (zCg false) f g)):=.mk <| PT.imp (zRN (zT1 hu h1.un h2.un) hm) fun _ _ _ h=>zFv (fun _ _ _ z=>zEQ zSC z) (zFI h)
theorem zIz (hu:X.A.units + 1 < cLine) (h1:QE X a f) (h2:QE X b g) (hm:behindInMarks .NotIn b = false:=by rfl):QT X (.Compare a [.NotIn] [b] pos) (tst (fOp (zCg true) f g)):=.mk <| PT.imp (zRN (zO4 hu h1.un h2.un) hm) fun _ _ _ h=>zFv (fun _ _ _ z=>zEQ zM3 z) (zFI h)
def zDX (fv fo fi:FE):FS:=fun σ M=>match toD fv σ M with
 | some (v,M1)=>match toD fo σ M1 with
  | some (.ref n,M2)=>match toD fi σ M2 with
   | some (k,M3)=>match zG4 M3 n k v with
    | some M4=>some (.nx,σ,M4)
    | none=>none
   | none=>none
  | _=>none
 | none=>none
theorem zMl (hu:X.A.units + 1 < cLine) (hv:QE X value f) (ho:QE X o g) (hi:QE X i h) (hs:swapsWith value (some (.Subscript o i pos')) pos.line X.env = pure false:=by rfl):QS X (.Assign [.Subscript o i pos'] value pos) (zDX f g h) :=
 .mk <| PS.imp (zS2 hu (zI ho).un (zI hi).un (zI hv).un hs) fun E τ H zz=>by
  obtain ⟨L,σ,M,out,σ',M',c,rs,hf,q⟩:=zz;unfold zDX at hf;split at hf
  ·rename_i v M1 e1;split at hf
   ·rename_i n M2 e2;split at hf
    ·rename_i k M3 e3;split at hf
     ·rename_i M4 e4;cases hf;refine ⟨L,σ,M,_,_,c,rs,e1,fun L1 H1 u s1 c1 r1=>⟨L1,σ,M1,_,_,c1,rs.stp s1,e2,fun L2 H2 y s2 c2 r2=>⟨L2,σ,M2,_,_,c2,(rs.stp s1).stp s2,e3,fun L3 H3 z s3 c3 r3=>?_⟩⟩⟩;unfold Rep at r2;obtain ⟨a,rfl,ea⟩:=r2;have ea3:L3[n]? = some a:=by obtain ⟨N,hN⟩:=s3.pre; rw [hN]; exact zCR ea
      obtain ⟨H4,h1,h2,h3⟩:=zLR c3 ea3 r3 ((r1.stp s2).stp s3) e4;exact ⟨a,H4,rfl,h1,q L3 H4 (((s1.trans s2).trans s3).trans h3) h2 τ ((((rs.stp s1).stp s2).stp s3).stp h3)⟩
     ·cases hf
    ·cases hf
   ·cases hf
  ·cases hf
def zCL (fo fi fx:FE):FE:=fun σ M=>match toD fo σ M with
 | some (.ref n,M1)=>match M1[n]? with
  | some (.dict _) | some (.dicT _)=>match toD fi σ M1 with
   | some (k,M2)=>match toD fx σ M2 with
    | some (x,M3)=>match zG5 M3 (.dat (.ref n)) k with
     | some o=>some (.dat (o.getD x),M3)
     | none=>none
    | none=>none
   | none=>none
  | _=>none
 | _=>none
theorem zNN (hu:X.A.units + 1 < cLine) (ho:QE X o f) (hi:QE X i g) (hx:QE X e h) (m:M2 X o "get" apos i e cpos):QE X (.Call (.Attribute o "get" apos) [i,e] [] cpos) (zCL f g h) :=
 .mk <| PE.imp (zPZ hu (zI ho).un (zI hi).un (zI hx).un m) fun τ H Q zz=>by
  obtain ⟨L,σ,M,d,M',c,rs,hf,q⟩:=zz
  have key:∀ n M1,toD f σ M = some (.ref n,M1) -> (∃ kvs,M1[n]? = some (.dict kvs) \/ M1[n]? = some (.dicT kvs)) -> (match toD g σ M1 with
   | some (k,M2)=>match toD h σ M2 with
    | some (x,M3)=>match zG5 M3 (.dat (.ref n)) k with
     | some o=>some (EV.dat (o.getD x),M3)
     | none=>none
    | none=>none
   | none=>none) = some (d,M') -> zPR (trD X.K (toD f)) (trD X.K (toD g)) (trD X.K (toD h)) τ H Q:=by
   intro n M1 e1 hd hf;split at hf
   ·rename_i k M2 e2;split at hf
    ·rename_i x M3 e3;split at hf
     ·rename_i ov e4;cases hf;refine ⟨L,σ,M,_,_,c,rs,e1,fun L1 H1 u s1 c1 r1=>?_⟩;unfold Rep at r1;obtain ⟨a,rfl,ea⟩:=r1;refine ⟨a,rfl,?_,L1,σ,M1,_,_,c1,rs.stp s1,e2,fun L2 H2 y s2 c2 r2=>⟨L2,σ,M2,_,_,c2,(rs.stp s1).stp s2,e3,fun L3 H3 z s3 c3 r3=>?_⟩⟩
      ·obtain ⟨kvs,hk | hk⟩:=hd
       ·obtain ⟨vs,e5,_⟩:=c1.obj n a _ ea hk; exact .inl ⟨vs,.inl e5⟩
       ·obtain ⟨vs,e5,_⟩:=c1.obj n a _ ea hk; exact .inr ⟨vs,.inl e5⟩
      ·have ra:zl H L3 H3 (.dat (.ref n)) (.ref a):=by
        unfold zl Rep;exact ⟨a,rfl,by obtain ⟨N,hN⟩:=(s2.trans s3).pre; rw [hN]; exact zCR ea⟩
       obtain ⟨a',o',e6,h1,h2⟩:=zF5 c3 ra (r2.stp s3) e4;cases e6;refine ⟨o',h1,?_⟩;cases ov with
       | none=>
        have h':o' = none:=h2;subst h';exact q L3 H3 _ ((s1.trans s2).trans s3) c3 r3
       | some dd=>
        obtain ⟨v,rfl,rv⟩:=h2;exact q L3 H3 _ ((s1.trans s2).trans s3) c3 rv
     ·cases hf
    ·cases hf
   ·cases hf
  unfold zCL at hf;split at hf
  ·rename_i n M1 e1;split at hf
   ·rename_i kvs e5; exact key n M1 e1 ⟨kvs,.inl e5⟩ hf
   ·rename_i kvs e5; exact key n M1 e1 ⟨kvs,.inr e5⟩ hf
   ·cases hf
  ·cases hf
end
end L3
namespace L2
open PySem PySem.Spec PyProof.Rows
section
variable {prog:Program} {w:World} {A:Around} {R:Result -> Shared -> Prop} {s:Shared}
theorem zDs {kx vx target iter ifs rest scope pos it acc env}
  (h0:codeAny (model prog w) A (.compLoop (.DictComp kx vx (⟨target,iter,ifs,0⟩ :: rest) scope pos) 0 it acc env) R s)
  (h:wpAny (model prog w) A (pyIter it) (fun it' s'=>codeAny (model prog w) A (.compLoop (.DictComp kx vx (⟨target,iter,ifs,0⟩ :: rest) scope pos) 0 it' acc env) R s')
   (notedBy (model prog w) A env fun x s'=>R (.error x) s') s) :
  codeAny (model prog w) A (.compStart (.DictComp kx vx (⟨target,iter,ifs,0⟩ :: rest) scope pos) 0 it acc env) R s:=by
 refine codeAny_of_tree ?_;show wpAny _ _ ((compStart (.DictComp kx vx (⟨target,iter,ifs,0⟩ :: rest) scope pos) 0 it acc env).onRaise (fun x=>do noteFrame x env; standAt theWindowsPlace)) _ _ s;refine wpAny_notedAt ?_;unfold compStart;show wpAny _ _ (ask >>= _) _ _ s;refine zWC (wpAny_askSetting (wpAny_ite ?_));split
 ·first
   | exact zWC (zWE (zWE (And.intro rfl h0)))
   | exact zWE (And.intro rfl h0)
 ·first
   | exact zWC (wpAny_rule (zWC (zXA (zWC (zWi h (fun it' s' h'=>zWE (And.intro rfl h')) fun _ _ x=>x)))))
   | (refine zWC (wpAny_rule ?_); show wpAny _ _ (standAt iter.pos >>= _) _ _ s; exact zWC (zXA (zWC (zWi h (fun it' s' h'=>zWE (And.intro rfl h')) fun _ _ x=>x))))
end
section
variable {X:Cx} {zB:List (Addr × Obj)} {σ:St} {H:Hp} {s:Shared}
theorem Inv.trackAt (I:Inv X zB σ H s) (ho:s.heap.get? D = some o) (hn:H D = none) (h0:X.s₀.heap.objs.size <= D) (hL:D ≠ X.env.locals) (hc:∀ x c,X.env.cells.lookup x = some c -> c ≠ D) (hp:∀ p ∈ X.pn ++ zB,p.1 ≠ D)
  (new:zAo X.prog X.w (upd H D u) s.heap D u):Inv X zB σ (upd H D u) s:=by
 have un:∀ b v,H b = some v -> upd H D u b = some v:=fun b v e=>by rw [zh (zAS e hn)]; exact e
 have e0:s = { s with heap:=s.heap,gens:=s.gens,drawn:=s.drawn,toks:=s.toks }:=by cases s; rfl
 rw [e0];refine I.step (g':=s.gens) (d':=s.drawn) (ch:=[D]) (fun b hb=>?_) (fun b v _ _ _ e _=>e) (fun b v _ _ _ e _=>⟨v.slots,e⟩) (fun b v hb e n=>?_) (fun b v _ e=>⟨v,e⟩) (fun b xs e=>un b _ e) (fun b p v e=>un b _ e) (fun b ps e=>⟨#[],by rw [un b _ e]; simp⟩) (fun m hm=>hm) (fun b v e=>?_) I.bare
 ·have:b = D:=by simpa using hb
  subst this;exact ⟨.inr h0,hL,hc,hp⟩
 ·rw [zh (fun z=>hb (by simp [z]))]; exact n
 ·by_cases hb:b = D
  ·subst hb; rw [zAe] at e; cases e; exact new
  ·rw [zh hb] at e;exact (I.hok b v e).stay (fun c v hc q=>q) (fun c q=>un c _ q) fun c xs q=>un c _ q
theorem zOS (hu:A.units + 1 < cLine) (I:Inv X zB σ H s) (g:zHI H a y v H') (ry:zw y u) (rv:zw v r) (h:∀ s',Inv X zB σ H' s' -> Heap.SameBut a s.heap s'.heap -> Q () s') :
  wpAny (model X.prog X.w) A (dictSet a u r) Q E s:=by
 rcases g with ⟨kvs,k,e,ey,l,eH⟩ | ⟨kvs,k,b,e,ey,eb,l,eH⟩
 ·subst ey eH;obtain ⟨z,hd,vs,rel,dd⟩:=zTL I.hok e;have hz:vs.length <= sizeLine:=by rw [<- rel.length]; exact z
  have hl:(zEf kvs k v).length <= sizeLine:=by have:=zDQ kvs k v; omega
  refine wpAny_dictSet_pairs (hsz:=hz) (zHn ry) dd fun h' dd' hs=>h _ ?_ hs;have he:∃ q,h'.get? a = some q:=let ⟨q,_,_,hq,_⟩:=dd'; ⟨q,hq⟩;exact zGR I (by rw [e]; exact True.intro) hs he (zQI hl hd (rel.put k rv) dd')
 ·subst ey eH;cases (show u = Value.ref b from ry);obtain ⟨z,hd,xs,rel,dd⟩:=zTC I.hok e;have hz:xs.length <= sizeLine:=by rw [<- Paired.length rel]; exact z
  have hl:(zEf kvs k v).length <= sizeLine:=by have:=zDQ kvs k v; omega
  refine wpAny_dictSet_heap (hsz:=hz) (show (tupleKind (zAh X.prog X.w)).room A from Nat.lt_of_succ_lt hu) (zFs I.hok eb) dd fun h' dd' hs=>h _ ?_ hs;obtain ⟨q,es,ep,hq,h2,h3,h4,_,h5⟩:=dd';refine zGR I (by rw [e]; exact True.intro) hs ⟨q,hq⟩ ⟨hl,hd,_,(rel.put k eb rv).keeps fun c ys ec=>?_,q,es,ep,hq,h2,h3,h4,h5⟩;rw [zh (zIW ec e (fun z=>nomatch z))];exact ec
end
def zFt (isT:Bool):HO:=if isT then .dT [] else .dK []
abbrev zCo:Obj:={ cls:=.type "dict", data:=.dict #[] }
section
variable {X:Cx} {zB:List (Addr × Obj)} {σ:St} {H:Hp} {s:Shared} {scope:Scope} {cl:List (Str × Addr)} {fp:List Addr} {it:Addr} {tn:Nat -> Heap -> Prop} {J:It} {tg kx vx iter:Expr} {ifs:List Expr} {pos:Pos}
 {own:List Nat} {g:TG} {tc:TT} {tk tv:TE} {E:Value -> Shared -> Prop} {isT:Bool}
theorem zEc (hu:X.A.units + 1 < cLine) (C:CompIn X scope own) (hcalm:X.calm = true) (I:Inv X zB σ H s) (T:Turn X.prog X.w X.K tg J fp it tn) (st:tn 0 s.heap) (hf:∀ b ∈ fp,zDB X zB H b)
  (c1:∀ x c,cl.lookup x = some c -> X.env.cells.lookup x = some c) (c2:∀ y ∈ scope.names,y.2 = .free -> (cl.lookup y.1).isSome = true)
  (hg:PG (zS X zB scope cl s H fp) tg g) (hi:zHM (zS X zB scope cl s H fp) ifs tc) (hk:PE (zS X zB scope cl s H fp) kx tk) (hv:PE (zS X zB scope cl s H fp) vx tv)
  {RR:Value -> Addr -> Result -> Shared -> Prop} {QQ:Hp -> Prop} {W:Nat -> Nat -> Hp -> Prop} {m0:Nat} (w0:W 0 m0 (upd H s.heap.objs.size (zFt isT)))
  (turn:∀ i m H,W i m H -> (J.stop i H /\ QQ H) \/
   (J.go i H /\ ∀ x H',J.yld i H x H' -> g x (clr own σ) H' fun σ2 H2=>Ext (clr own σ) σ2 /\ tc σ2 H2 fun b H3=>
    if b = true then tk σ2 H3 fun k H4=>tv σ2 H4 fun v H5=>∃ H6 m',zHI H5 s.heap.objs.size k v H6 /\ m' < m /\ W (i + 1) m' H6 else ∃ m',m' < m /\ W (i + 1) m' H3))
  (fin:∀ σc H' s',Inv (zS X zB scope cl s H fp) [] σc H' s' -> QQ H' -> RR (.ref s.heap.objs.size) (s.heap.objs.size + 1) (.ok .next) s') :
  wpAny (model X.prog X.w) X.A newDict (fun acc s₃=>wpAny (model X.prog X.w) X.A (newFunctionEnv scope X.env.globals cl [] X.env.qual none .none (some X.env)) (fun cenv s₄=>
   codeAny (model X.prog X.w) X.A (.compStart (.DictComp kx vx [⟨tg,iter,ifs,0⟩] scope pos) 0 (.ref it) acc { cenv with scope:=relabel scope X.env }) (RR acc cenv.locals) s₄) E s₃) E s:=by
 have ob:∀ b:Nat,b ∈ fp -> b < s.heap.objs.size:=fun b hb=>let ⟨_,e,_⟩:=T.obj 0 _ st b hb; zWN e;show wpAny _ _ (newObj (.type "dict") (.dict #[])) _ _ _;refine zWf (zDM ?_);have sz1:(s.heap.push zCo).objs.size = s.heap.objs.size + 1:=zWs ..;have I4:=zF3 (X:=X) (zB:=zB) (σ:=σ) (σc:=clr own σ) (H:=H) (s:=s) (scope:=scope) (cl:=cl) (fp:=fp) C.sc I hf ob c1 c2 (zBu own σ) (fun i x v h1 h2 h3=>by
  obtain ⟨a,b⟩:=zDW own σ i v h2;rcases C.nm i x h1 with z | z | z
  ·exact absurd z b
  ·exact absurd (zCr x z) h3
  ·exact ⟨z,a⟩) zCo (by intro v z; cases z) rfl rfl
 have st4:tn 0 (pushCells ((s.heap.push zCo).push { cls:=.type "dict", data:=.dict #[] }) scope.names):=T.keep 0 _ _ st fun b _ o e=>pushCells_keeps _ _ b o (zWD _ (zWD _ e));dsimp only;unfold newEnv;dsimp only;rw [sz1];have hDfp:s.heap.objs.size ∉ fp:=fun z=>zWu _ (ob _ z);obtain ⟨pD,nD,neD,nfD,dD⟩:=I4.pin (s.heap.objs.size,zCo) (by simp);have hcD:∀ x c,(zS X zB scope cl s H fp).env.cells.lookup x = some c -> c ≠ s.heap.objs.size:=fun x c e z=>by
  obtain ⟨v,o,ho,hd⟩:=I4.cell x c e;rw [z,pD] at ho;cases ho; cases hd
 have hpn:∀ p ∈ (zS X zB scope cl s H fp).pn ++ [],p.1 ≠ s.heap.objs.size:=fun p hp=>by
  rw [zWw] at hp;have hp':p ∈ X.pn ++ zB:=hp;exact zWX (zWN (I.pin p hp').1)
 have big:sysModules < s.heap.objs.size:=I.big;have hsm:(s.heap.objs.size == sysModules) = false:=by rw [beq_eq_false_iff_ne]; exact zXh big
 have I5:Inv (zS X zB scope cl s H fp) [] (clr own σ) (upd H s.heap.objs.size (zFt isT)) { s with heap:=pushCells ((s.heap.push zCo).push { cls:=.type "dict", data:=.dict #[] }) scope.names }:=by
  have I4':Inv (zS X zB scope cl s H fp) [] (clr own σ) H { s with heap:=pushCells ((s.heap.push zCo).push { cls:=.type "dict", data:=.dict #[] }) scope.names }:=I4.pins_of fun p hp=>nomatch hp;refine I4'.trackAt pD nD (zWI _) neD hcD hpn ?_;cases isT with
  | false=>exact ⟨zWy _,hsm,[],.nil,zCo,#[],0,pD,⟨rfl,rfl,rfl⟩,rfl,fun _ he=>by simp at he,.nil,List.nodup_nil⟩
  | true=>exact ⟨zWy _,hsm,[],.nil,zCo,#[],0,pD,⟨rfl,rfl,rfl⟩,rfl,rfl,List.nodup_nil⟩
 have fpk:∀ {H':Hp},(∀ b ∈ fp,H' b = none) -> ∀ b ∈ fp,zDB (zS X zB scope cl s H fp) [] H' b:=fun {H'} hn b hb=>
  ⟨hn b hb,(I4.ok.exf b hb).1,I4.ok.exfs b hb,.inl hb,(I4.ok.exf b hb).2,fun p hq=>by
   rw [zWw] at hq;exact (hf b hb).2.2.2.2.2 p hq⟩
 have loop:codeAny (model X.prog X.w) X.A (.compLoop (.DictComp kx vx [⟨tg,iter,ifs,0⟩] scope pos) 0 (.ref it) (.ref s.heap.objs.size) (zS X zB scope cl s H fp).env) (RR (.ref s.heap.objs.size) (s.heap.objs.size + 1))
   { s with heap:=pushCells ((s.heap.push zCo).push { cls:=.type "dict", data:=.dict #[] }) scope.names }:=by
  refine zIn (fun n s'=>∃ i H',Inv (zS X zB scope cl s H fp) [] (clr own σ) H' s' /\ tn i s'.heap /\ (∀ b ∈ fp,H' b = none) /\ W i n H') ?_ m0
   ⟨0,_,I5,st4,fun b hb=>by rw [zh (show b ≠ s.heap.objs.size from fun z=>hDfp (by rw [<- z]; exact hb))]; exact (hf b hb).1,w0⟩
  rintro n s5 ⟨i,H5,J5,st5,f5,w5⟩;rcases turn i n H5 w5 with ⟨stop,qq⟩ | ⟨go,step⟩
  ·refine thn (T.done (zS X zB scope cl s H fp) rfl rfl rfl hcalm i _ s5 _ H5 _ J5 (fpk f5) st5 stop) fun r s6 ⟨hr,I6⟩=>?_;subst hr;exact fin _ H5 s6 I6 qq
  ·refine thn (T.item (zS X zB scope cl s H fp) rfl rfl rfl hcalm i _ s5 _ H5 _ J5 (fpk f5) st5 go) fun r s6 ⟨u,hr,h6⟩=>?_;subst hr;refine thn h6 fun _ s7 ⟨x,H7,I7,r7,y7,st7,f7⟩=>?_;have I7':=I7.pinned (fpk f7) (T.obj _ _ st7);refine thn (hg _ s7 _ H7 x u _ I7' r7 (step x H7 y7)) fun _ s8 ⟨σ8,H8,I8,x8,q8⟩=>?_;refine thn (hi _ s8 σ8 H8 _ I8 q8) fun ok s9 ⟨H9,I9,q9⟩=>?_;have back:∀ {s':Shared} {Hx:Hp},Inv (zS X zB scope cl s H fp) ([] ++ zDm fp s7.heap) σ8 Hx s' -> tn (i + 1) s'.heap /\ ∀ b ∈ fp,Hx b = none:=fun {s' Hx} Ix=>
    ⟨T.keep _ _ _ st7 fun b hb o e=>(Ix.pin (b,o) (zWW _ (zWW _ (zAb hb e)))).1,fun b hb=>by
     obtain ⟨o,e,d⟩:=T.obj _ _ st7 b hb;exact (Ix.pin (b,o) (zWW _ (zWW _ (zAb hb e)))).2.1⟩
   cases ok with
   | false=>
    obtain ⟨m',hm,w'⟩:=q9;obtain ⟨b1,b2⟩:=back I9;exact ⟨m',hm,i + 1,H9,(I9.weak (by rw [x8.1]) x8.2).unpinned,b1,b2,w'⟩
   | true=>
    refine thn (hk _ s9 σ8 H9 _ I9 q9) fun kv s10 ⟨y,H10,I10,r10,q10⟩=>?_;refine thn (hv _ s10 σ8 H10 _ I10 q10) fun vv s11 ⟨z,H11,I11,r11,H12,m',hp,hm,w'⟩=>?_;refine zOS (X:=zS X zB scope cl s H fp) hu I11 hp r10 r11 fun s12 I12 hs=>?_;obtain ⟨b1,b2⟩:=back I12;exact ⟨m',hm,i + 1,H12,(I12.weak (by rw [x8.1]) x8.2).unpinned,b1,b2,w'⟩
 exact zDs loop (T.self _ 0 _ _ _ st4 loop)
theorem zFe (I:Inv X zB σ H s) (hf:∀ b ∈ fp,zDB X zB H b)
  (Ic:Inv (zS X zB scope cl s H fp) [] σc H' s') (hs:Heap.SameBut (s.heap.objs.size + 1) s'.heap h'):Inv X zB σ H' { s' with heap:=h' }:=by
 have nC:H' (s.heap.objs.size + 1) = none:=Ic.free;have lt1:∀ {b:Addr} {o:Obj},s.heap.get? b = some o -> b ≠ s.heap.objs.size + 1:=fun e=>zWX (zW1 (zWN e));have tr:∀ b u,H' b = some u -> b ≠ s.heap.objs.size + 1:=fun b u e z=>by rw [z,nC] at e; cases e
 have B:=Ic.base;have un:Un (frs X.stack) fp H H' s.heap h':=by
  refine ⟨fun b o e q hb hx=>hs.extBut b o (lt1 e) (B.keep b o e q hb hx),fun b o e q hb hx=>?_,fun b o e q hx=>B.free b o e q hx,fun b o e hx=>?_,fun b xs e=>B.tups b xs e,fun b o xs e=>B.frzs b o xs e,fun b ps e=>B.tbls b ps e⟩
  ·obtain ⟨sl,e1⟩:=B.slot b o e q hb hx;exact ⟨sl,hs.extBut b _ (lt1 e) e1⟩
  ·obtain ⟨o',e1⟩:=B.there b o e hx;exact ⟨o',hs.extBut b _ (lt1 e) e1⟩
 have hok:HOk X.prog X.w H' h':=fun b u e=>by
  refine (Ic.hok b u e).stay (fun c v hc q=>hs.extBut c v ?_ q) (fun c q=>q) fun c xs q=>q;rcases hc with z | z
  ·rw [z]; exact tr b u e
  ·exact tr c _ z
 exact I.call' (s':={ s' with heap:=h' }) (ch:=fp) Ic.os un hok Ic.bare fun b hb=>⟨(hf b hb).2.2.2.1,(hf b hb).2.1,(hf b hb).2.2.2.2.1,(hf b hb).2.2.2.2.2⟩
end
def zGl (isT:Bool) (own:List Nat) (wi:TI) (g:TG) (tc:TT) (tk tv:TE):TE:=fun σ H Q=>wi σ H fun J H1=>∀ D,H1 D = none -> ∃ W:Nat -> Nat -> Hp -> Prop,(∃ m,W 0 m (upd H1 D (zFt isT))) /\ ∀ i m H,W i m H ->
 (J.stop i H /\ Q (.ref D) H) \/
 (J.go i H /\ ∀ x H',J.yld i H x H' -> g x (clr own σ) H' fun σ2 H2=>Ext (clr own σ) σ2 /\ tc σ2 H2 fun b H3=>
  if b = true then tk σ2 H3 fun k H4=>tv σ2 H4 fun v H5=>∃ H6 m',zHI H5 D k v H6 /\ m' < m /\ W (i + 1) m' H6 else ∃ m',m' < m /\ W (i + 1) m' H3)
section
variable {X:Cx} {scope:Scope} {tg kx vx iter:Expr} {ifs:List Expr} {pos:Pos} {own:List Nat} {wi:TI} {g:TG} {tc:TT} {tk tv:TE} {isT:Bool}
theorem zK4 (hu:X.A.units + 1 < cLine) (C:CompIn X scope own) (hcalm:X.calm = true) (hi:PI X tg iter wi) (p:CompParts X scope tg ifs kx g tc tk) (p2:∀ zB cl s H fp,PE (zS X zB scope cl s H fp) vx tv) (hs:∀ x,foldedSetIterable iter X.env x = pure x:=by intro _; rfl) :
  PE X (.DictComp kx vx [⟨tg,iter,ifs,0⟩] scope pos) (zGl isT own wi g tc tk tv):=by
 intro zB s σ H Q I h;obtain ⟨cl,hcl,c1,c2⟩:=C.sc.closure I;rw [arm_eval_DictComp];refine zX6 (use:=none) rfl hs hcl C.sc.kind C.sc.names (thn (hi zB s σ H _ I h) fun v s1 h1=>thn h1 fun itv s2 h2=>?_);obtain ⟨it,fp,tn,J,H2,e,I2,T,st2,f2,hD⟩:=h2;subst e;obtain ⟨W,⟨m0,w0⟩,turn⟩:=hD s2.heap.objs.size (I2.hok.fresh (zWI _));refine zEc hu C hcalm I2 T st2 f2 c1 c2 (p.g _ _ _ _ _) (p.c _ _ _ _ _) (p.e _ _ _ _ _) (p2 _ _ _ _ _) (RR:=fun acc C r s'=>compPost (model X.prog X.w) X.A X.xe none (EP X zB σ Q) acc C r s') (QQ:=fun H=>Q (.ref s2.heap.objs.size) H) w0 turn ?_;intro σc H' s' Ic qq;obtain ⟨m,hn,_⟩:=Ic.loc;refine ⟨m,hn,fun h' hs'=>?_⟩;exact ⟨.ref s2.heap.objs.size,_,zFe I2 f2 Ic hs',rfl,qq⟩
end
end L2
namespace L3
open PySem PySem.Spec PyProof.Rows L2
def zKa (isT:Bool):MO:=if isT then .dicT [] else .dict []
noncomputable def zC8 (g:FG) (tc:FT) (tk tv:FE) (σ:Sd) (n:Nat) (all:List D) (gd:Option (Mem -> Prop)):List D -> Mem -> Option Mem
 | [],M=>open Classical in if zBE gd all M then some M else none
 | x :: r,M=>open Classical in if zBE gd all M then match g x σ with
   | some σ1=>match tc σ1 M with
    | some (true,M1)=>match toD tk σ1 M1 with
     | some (k,M2)=>match toD tv σ1 M2 with
      | some (v,M3)=>match zG4 M3 n k v with
       | some M4=>zC8 g tc tk tv σ n all gd r M4
       | none=>none
      | none=>none
     | none=>none
    | some (false,M1)=>zC8 g tc tk tv σ n all gd r M1
    | none=>none
   | none=>none
  else none
noncomputable def zDg (isT:Bool) (own:List Nat) (fi:FI) (g:FG) (tc:FT) (tk tv:FE):FE:=fun σ M=>match fi σ M with
 | some (xs,gd,M1)=>match zC8 g tc tk tv (zBl own σ) M1.length xs gd xs (M1 ++ [zKa isT]) with
  | some M2=>some (.dat (.ref M1.length),M2)
  | none=>none
 | none=>none
theorem zHf {K:PySem.W.Frag} {isT:Bool} {own:List Nat} {fi:FI} {g:TG} {fg:FG} {tc:FT} {tk tv:FE} (hg:zFi own g fg) {τ:Sv} {H:Hp} {Q:VK} (h:trE K (zDg isT own fi fg tc tk tv) τ H Q):zGl isT own (trI K fi) g (trT K tc) (trD K (toD tk)) (trD K (toD tv)) τ H Q:=by
 obtain ⟨L,σ,M,d,Mf,c,rs,hf,q⟩:=h;unfold zDg at hf;split at hf
 ·rename_i xs gd M1 e1;split at hf
  ·rename_i M2 e2;cases hf;refine ⟨L,σ,M,_,_,_,c,rs,e1,fun L1 H1 J s1 c1 it p hp=>?_⟩;obtain ⟨c0,s0⟩:Cor K (L1 ++ [p]) (M1 ++ [zKa isT]) (upd H1 p (zFt isT)) /\ Stp L1 H1 (L1 ++ [p]) (upd H1 p (zFt isT)):=by
    cases isT with
    | true=>exact c1.pushO (m:=.dicT []) hp ⟨[],zAe,rfl⟩
    | false=>exact c1.pushO (m:=.dict []) hp ⟨[],zAe,rfl⟩
   have lp0:(L1 ++ [p])[M1.length]? = some p:=by rw [<- c1.len]; simp
   refine ⟨fun i m H'=>m = xs.length - i /\ i <= xs.length /\ ∃ L' M',Stp (L1 ++ [p]) (upd H1 p (zFt isT)) L' H' /\ Cor K L' M' H' /\ zC8 fg tc tk tv (zBl own σ) M1.length xs gd (xs.drop i) M' = some Mf,
    ⟨xs.length,by simp,zWy _,_,_,.refl _ _,c0,by simpa using e2⟩,?_⟩
   rintro i m H' ⟨rfl,hi,L',M',s',c',e'⟩;have lp:L'[M1.length]? = some p:=by obtain ⟨N,hN⟩:=s'.pre; rw [hN]; exact zCR lp0
   by_cases hlt:i < xs.length
   ·rw [zCz hlt] at e';unfold zC8 at e';split at e'
    ·rename_i hgd;obtain ⟨step,_⟩:=it L' H' M' (s0.trans s') c' hgd;obtain ⟨go,yl⟩:=step i xs[i] (zWG hlt);split at e'
     ·rename_i σ1 eg;refine .inr ⟨go,fun v H2 hy=>?_⟩;obtain ⟨gr,rv⟩:=yl v H2 hy;have s2:Stp (L1 ++ [p]) (upd H1 p (zFt isT)) L' H2:=s'.yld gr;refine hg (zFU own (((rs.stp s1).stp s0).stp s2)) (.refl _) rv eg fun τ2 r2 x2=>⟨x2,?_⟩;split at e'
      ·rename_i M3 e3;split at e'
       ·rename_i kd M4 e4;split at e'
        ·rename_i vd M5 e5;split at e'
         ·rename_i M6 e6;refine ⟨L',σ1,M',_,_,c'.grow gr,r2,e3,fun L3 H3 s3 c3=>zHN ?_⟩;refine ⟨L3,σ1,M3,_,_,c3,r2.stp s3,e4,fun L4 H4 w s4 c4 r4=>?_⟩;refine ⟨L4,σ1,M4,_,_,c4,(r2.stp s3).stp s4,e5,fun L5 H5 u s5 c5 r5=>?_⟩;have st:Stp L' H' L5 H5:=(((Stp.grow gr).trans s3).trans s4).trans s5;have lp5:L5[M1.length]? = some p:=by obtain ⟨N,hN⟩:=st.pre; rw [hN]; exact zCR lp
          obtain ⟨H6,h1,h2,h3⟩:=zLR c5 lp5 (r4.stp s5) r5 e6;exact ⟨H6,xs.length - (i + 1),h1,by omega,rfl,hlt,L5,M6,(s'.trans st).trans h3,h2,e'⟩
         ·cases e'
        ·cases e'
       ·cases e'
      ·rename_i M3 e3;refine ⟨L',σ1,M',_,_,c'.grow gr,r2,e3,fun L3 H3 s3 c3=>zHH ?_⟩;have st:Stp L' H' L3 H3:=(Stp.grow gr).trans s3;exact ⟨xs.length - (i + 1),by omega,rfl,hlt,L3,M3,s'.trans st,c3,e'⟩
      ·cases e'
     ·cases e'
    ·cases e'
   ·have hi':i = xs.length:=by omega
    subst hi';rw [List.drop_length] at e';unfold zC8 at e';split at e'
    ·rename_i hgd;cases e';obtain ⟨_,stop⟩:=it L' H' _ (s0.trans s') c' hgd;refine .inl ⟨stop,?_⟩;refine q L' _ _ ((s1.trans s0).trans s') c' ?_;unfold zl Rep;exact ⟨p,rfl,lp⟩
    ·cases e'
  ·cases hf
 ·cases hf
section
variable {X:Cx} {scope:Scope} {tg kx vx iter:Expr} {ifs:List Expr} {pos:Pos} {own:List Nat} {isT:Bool}
theorem zSM {fi:FI} {g:TG} {fg:FG} {tc:FT} {tk tv:FE} (hu:X.A.units + 1 < cLine) (hg:zFi own g fg) (C:CompIn X scope own) (hcalm:X.calm = true) (hi:QI X tg iter fi) (p:QParts X scope tg ifs kx g tc tk) (p2:∀ zB cl s H fp,QE (zS X zB scope cl s H fp) vx tv) (hs:∀ x,foldedSetIterable iter X.env x = pure x:=by intro _; rfl) :
  QE X (.DictComp kx vx [⟨tg,iter,ifs,0⟩] scope pos) (zDg isT own fi fg tc tk tv) :=
 .mk <| PE.imp (zK4 (isT:=isT) hu C hcalm hi.un p.parts (fun _ _ _ _ _=>(zI (p2 _ _ _ _ _)).un) hs) fun _ _ _ h=>zHf hg h
end
def zA7:Nat -> D -> Bool
 | 0,.int _=>true
 | n + 1,.tup ds=>ds.all (zA7 n)
 | _,_=>false
def zBe:Nat -> D -> D -> Bool
 | 0,.int i,.int j=>decide (i = j)
 | n + 1,.tup xs,.tup ys=>xs.length == ys.length && (xs.zip ys).all fun q=>zBe n q.1 q.2
 | _,_,_=>false
theorem zGm:∀ (n:Nat) (x:D),zA7 n x = true -> zBe n x x = true
 | 0,.int i,_=>by simp [zBe]
 | n + 1,.tup xs,h=>by
  unfold zA7 at h;unfold zBe;rw [zWn] at h;simp only [beq_self_eq_true,Bool.true_and];rw [zWn];intro q hq;have:q.1 = q.2:=by
   obtain ⟨i,hi,e⟩:=zYF hq;rw [List.getElem_zip] at e;rw [<- e]
  rw [<- this];exact zGm n _ (h q.1 (List.of_mem_zip hq).1)
 | 0,.non,h=>by cases h
 | 0,.bl _,h=>by cases h
 | 0,.str _,h=>by cases h
 | 0,.tup _,h=>by cases h
 | 0,.ref _,h=>by cases h
 | n + 1,.non,h=>by cases h
 | n + 1,.bl _,h=>by cases h
 | n + 1,.int _,h=>by cases h
 | n + 1,.str _,h=>by cases h
 | n + 1,.ref _,h=>by cases h
theorem zPY:∀ (n:Nat) (x y:D) (v:V),zA7 n x = true -> zA7 n y = true -> Rep L H x v -> Rep L H y v -> x = y:=by
 intro n;induction n with
 | zero=>
  intro x y v hx hy rx ry;cases x <;> first | cases hx | skip
  cases y <;> first | cases hy | skip
  unfold Rep at rx ry;rw [rx] at ry;cases ry; rfl
 | succ n ih=>
  intro x y v hx hy rx ry;cases x <;> first | cases hx | skip
  cases y <;> first | cases hy | skip
  rename_i xs ys;unfold zA7 at hx hy;rw [zWn] at hx hy;unfold Rep at rx ry;obtain ⟨a,vs,rfl,e,r⟩:=rx;obtain ⟨a',vs',e1,e2,r'⟩:=ry;cases e1;rw [e] at e2; cases e2;congr 1;have hl:xs.length = ys.length:=by rw [<- r.length,r'.length]
  apply List.ext_getElem hl;intro i h1 h2;obtain ⟨u,hu,ru⟩:=r.get (zWG h1);obtain ⟨u',hu',ru'⟩:=r'.get (zWG h2);rw [hu] at hu'; cases hu';exact ih _ _ u (hx _ (zWk h1)) (hy _ (zWk h2)) ru ru'
section
variable {X:Cx} {zB:List (Addr × Obj)} {σ:L2.St} {H:Hp} {s:Shared} {L:List Addr}
theorem zNn {xs ys:List D} (f:D -> D -> Bool) (h:xs.length = ys.length):((List.range xs.length).all fun j=>f (xs.getD j .non) (ys.getD j .non)) = (xs.zip ys).all fun q=>f q.1 q.2:=by
  rw [Bool.eq_iff_iff,zWn,zWn];constructor
  · intro hh q hq
    obtain ⟨i,hi,e⟩:=zYF hq;rw [List.getElem_zip] at e;rw [List.length_zip] at hi;have:=hh i (by simp; omega);rw [<- e];simpa [zWH,show i < xs.length by omega,show i < ys.length by omega] using this
  · intro hh i hi
    have h1:i < xs.length:=by simpa using hi
    have h2:i < ys.length:=by omega
    have hz:i < (xs.zip ys).length:=by rw [List.length_zip]; omega
    have:=hh (xs.zip ys)[i] (zWk hz);rw [List.getElem_zip] at this;simpa [zWH,h1,h2] using this
theorem zI9 (I : Inv X zB σ H s) : ∀ (n : Nat) (A : Around) (x y : D) (v w : V) (u u' : Value), A.units + n < cLine -> zA7 n x = true -> zA7 n y = true -> Rep L H x v -> Rep L H y w -> zw v u -> zw w u' -> SeqAt.EqAt A s u u' (zBe n x y) := by
  intro n;induction n with
  | zero=>
    intro A x y v w u u' hu hx hy rx ry ru ru';cases x <;> first | cases hx | skip
    cases y <;> first | cases hy | skip
    unfold Rep at rx ry;subst rx; subst ry;obtain ⟨t,rfl⟩:=ru;obtain ⟨t',rfl⟩:=ru';have:=SeqAt.EqAt.int_int (A:=A) (s:=s) ‹Int› t ‹Int› t';unfold zBe;rename_i i j;have h:=SeqAt.EqAt.int_int (A:=A) (s:=s) i t j t';have e:(i == j) = decide (i = j):=by by_cases q:i = j <;> simp [q]
    rw [e] at h;exact h
  | succ n ih =>
    intro A x y v w u u' hu hx hy rx ry ru ru';cases x <;> first | cases hx | skip
    cases y <;> first | cases hy | skip
    rename_i xs ys;have hx':=hx;have hy':=hy;have rx':=rx;have ry':=ry;unfold zA7 at hx hy;rw [zWn] at hx hy;unfold Rep at rx ry;obtain ⟨a,vs,rfl,e,r⟩:=rx;obtain ⟨b,ws,rfl,e2,r2⟩:=ry;cases ru;cases ru';by_cases hab:a = b
    · subst hab
      have:=zPY (n + 1) _ _ _ hx' hy' rx' ry';rw [this,zGm (n + 1) _ hy'];exact SeqAt.EqAt.same _
    · refine SeqAt.EqAt.of_refs hab ?_
      obtain ⟨its,rv,p1,_⟩:=I.tuple (.of e);obtain ⟨its2,rv2,p2,_⟩:=I.tuple (.of e2);have l1:its.toArray.size = xs.length:=by rw [zWK,<- rv.length,r.length]
      have l2:its2.toArray.size = ys.length:=by rw [zWK,<- rv2.length,r2.length]
      have key := SeqAt.RcAt.tuples (A := A) (s := s) (l := a) (b := b) (items := its.toArray) (items2 := its2.toArray) (e := fun j => zBe n (xs.getD j .non) (ys.getD j .non)) p1 p2 (by omega) (fun j h1 h2 => by
        have j1:j < xs.length:=by omega
        have j2:j < ys.length:=by omega
        obtain ⟨q1,g1,t1⟩:=r.get (zWG j1);obtain ⟨q2,g2,t2⟩:=r2.get (zWG j2);obtain ⟨o1,k1,m1⟩:=rv.get g1;obtain ⟨o2,k2,m2⟩:=rv2.get g2
        have z1 : its.toArray[j] = o1 := by have : its.toArray[j]? = some o1 := by simpa using k1
                                            rw [zWx h1] at this; exact zXC this
        have z2 : its2.toArray[j] = o2 := by have : its2.toArray[j]? = some o2 := by simpa using k2
                                             rw [zWx h2] at this; exact zXC this
        rw [z1,z2];have w1:xs.getD j .non = xs[j]:=by simp [zWH,j1]
        have w2:ys.getD j .non = ys[j]:=by simp [zWH,j2]
        show SeqAt.EqAt A.in1 s o1 o2 (zBe n (xs.getD j .non) (ys.getD j .non));rw [w1,w2];exact ih A.in1 _ _ _ _ _ _ (by show A.units + 1 + n < cLine; omega) (hx _ (zWk j1)) (hy _ (zWk j2)) t1 t2 m1 m2)
      have fin:((List.range (min its.toArray.size its2.toArray.size)).all (fun j=>zBe n (xs.getD j .non) (ys.getD j .non)) && its.toArray.size == its2.toArray.size) = zBe (n + 1) (.tup xs) (.tup ys):=by
        rw [l1,l2];show _ = (xs.length == ys.length && (xs.zip ys).all fun q=>zBe n q.1 q.2);by_cases hl:xs.length = ys.length
        · rw [hl,Nat.min_self,<- hl,zNn (zBe n) hl,Bool.and_comm]
        · have:(xs.length == ys.length) = false:=by simpa using hl
          rw [this]; simp
      rw [fin] at key;exact key
end
def nb (neg b:Bool):Bool:=if neg then !b else b
def rTr (neg:Bool) (K:PySem.W.Frag) (n:Nat):R2:=fun x y H Q=>∃ (L:List Addr) (xs ys:List D),(xs.all (zA7 n) = true /\ ys.all (zA7 n) = true) /\
 ((Rep L H (.tup xs) x /\ Rep L H (.tup ys) y) \/ ∃ a b vs ws,x = .ref a /\ y = .ref b /\ SqL K H a vs /\ SqL K H b ws /\ zW L H xs vs /\ zW L H ys ws) /\ Q (.bl (nb neg (zBe (n + 1) (.tup xs) (.tup ys)))) H
section
variable {X:Cx}
theorem zEN (I:Inv X zB σ H s) (hu:A.units + n < cLine) (hx:xs.all (zA7 n) = true) (hy:ys.all (zA7 n) = true) (r:zW L H xs vs) (r2:zW L H ys ws) (rv:zm vs its) (rv2:zm ws its2) (j:Nat) (h1:j < its.toArray.size) (h2:j < its2.toArray.size) :
  SeqAt.EqAt A s its.toArray[j] its2.toArray[j] (zBe n (xs.getD j .non) (ys.getD j .non)):=by
 rw [zWn] at hx hy;have l1:its.toArray.size = xs.length:=by rw [zWK,<- rv.length,r.length]
 have l2:its2.toArray.size = ys.length:=by rw [zWK,<- rv2.length,r2.length]
 have j1:j < xs.length:=by omega
 have j2:j < ys.length:=by omega
 obtain ⟨q1,g1,t1⟩:=r.get (zWG j1);obtain ⟨q2,g2,t2⟩:=r2.get (zWG j2);obtain ⟨o1,k1,m1⟩:=rv.get g1;obtain ⟨o2,k2,m2⟩:=rv2.get g2;have z1:its.toArray[j] = o1:=by
  have:its.toArray[j]? = some o1:=by simpa using k1
  rw [zWx h1] at this; exact zXC this
 have z2:its2.toArray[j] = o2:=by
  have:its2.toArray[j]? = some o2:=by simpa using k2
  rw [zWx h2] at this; exact zXC this
 have w1:xs.getD j .non = xs[j]:=by simp [zWH,j1]
 have w2:ys.getD j .non = ys[j]:=by simp [zWH,j2]
 rw [z1,z2,w1,w2];exact zI9 I n A _ _ _ _ _ _ hu (hx _ (zWk j1)) (hy _ (zWk j2)) t1 t2 m1 m2
theorem zMo (l1:a = xs.length) (l2:b = ys.length):((List.range (min a b)).all (fun j=>zBe n (xs.getD j .non) (ys.getD j .non)) && a == b) = zBe (n + 1) (.tup xs) (.tup ys):=by
 subst l1 l2;show _ = (xs.length == ys.length && (xs.zip ys).all fun q=>zBe n q.1 q.2);by_cases hl:xs.length = ys.length
 ·rw [hl,Nat.min_self,<- hl,zNn (zBe n) hl,Bool.and_comm]
 ·have:(xs.length == ys.length) = false:=by simpa using hl
  rw [this]; simp
theorem zQ6 (hl:xs.length = ys.length):((List.range xs.length).all fun j=>zBe n (xs.getD j .non) (ys.getD j .non)) = zBe (n + 1) (.tup xs) (.tup ys):=by
 rw [<- zMo (n:=n) rfl rfl,hl,Nat.min_self]; simp
theorem zRa (hl:xs.length ≠ ys.length):zBe (n + 1) (.tup xs) (.tup ys) = false:=by
 show (xs.length == ys.length && _) = false;rw [show (xs.length == ys.length) = false by simpa using hl]; rfl
theorem zRx (n:Nat) (hu:X.A.units + 1 + n < cLine):OpR X (compareOp .Eq) (rTr false X.K n):=by
 intro zB s σ H x y v u Q I rx ry h;obtain ⟨L,xs,ys,⟨hx,hy⟩,hc,q⟩:=h;have hu1:X.A.in1.units + n < cLine:=hu;rcases hc with ⟨p1,p2⟩ | ⟨a,b,vs,ws,rfl,rfl,s1,s2,r1,r2⟩
 ·unfold Rep at p1 p2;obtain ⟨a,vs,rfl,e1,r1⟩:=p1;obtain ⟨b,ws,rfl,e2,r2⟩:=p2;cases rx;cases ry;obtain ⟨its,rv,t1,_⟩:=I.tuple (.of e1);obtain ⟨its2,rv2,t2,_⟩:=I.tuple (.of e2);refine SeqAt.eq_tupleAt (e:=fun j=>zBe n (xs.getD j .non) (ys.getD j .non)) t1 t2 (by omega) (fun j h1 h2=>zEN I hu1 hx hy r1 r2 rv rv2 j h1 h2) ?_;rw [zMo (by rw [zWK,<- rv.length,r1.length]) (by rw [zWK,<- rv2.length,r2.length])];exact ⟨.bl _,H,I,rfl,q⟩
 ·cases rx;cases ry;obtain ⟨its,rv,t1,_⟩:=I.list s1;obtain ⟨its2,rv2,t2,_⟩:=I.list s2;have l1:its.toArray.size = xs.length:=by rw [zWK,<- rv.length,r1.length]
  have l2:its2.toArray.size = ys.length:=by rw [zWK,<- rv2.length,r2.length]
  by_cases hl:xs.length = ys.length
  ·refine SeqAt.eq_listAt (e:=fun j=>zBe n (xs.getD j .non) (ys.getD j .non)) t1.isList t2.isList (by omega) (by omega) (fun j h1 h2=>zEN I hu1 hx hy r1 r2 rv rv2 j h1 h2) ?_;rw [l1,zQ6 hl];exact ⟨.bl _,H,I,rfl,q⟩
  ·refine SeqAt.eq_list_lengthsAt t1.isList t2.isList (by rw [l1,l2]; simpa using hl) (by omega) ?_;rw [zRa hl] at q;exact ⟨.bl false,H,I,rfl,q⟩
theorem zST (n:Nat) (hu:X.A.units + 1 + n < cLine):OpR X (compareOp .NotEq) (rTr true X.K n):=by
 intro zB s σ H x y v u Q I rx ry h;obtain ⟨L,xs,ys,⟨hx,hy⟩,hc,q⟩:=h;have hu1:X.A.in1.units + n < cLine:=hu;rcases hc with ⟨p1,p2⟩ | ⟨a,b,vs,ws,rfl,rfl,s1,s2,r1,r2⟩
 ·unfold Rep at p1 p2;obtain ⟨a,vs,rfl,e1,r1⟩:=p1;obtain ⟨b,ws,rfl,e2,r2⟩:=p2;cases rx;cases ry;obtain ⟨its,rv,t1,_⟩:=I.tuple (.of e1);obtain ⟨its2,rv2,t2,_⟩:=I.tuple (.of e2);refine SeqAt.RcNeAt.tuples (e:=fun j=>zBe n (xs.getD j .non) (ys.getD j .non)) t1 t2 (by omega) (fun j h1 h2=>zEN I hu1 hx hy r1 r2 rv rv2 j h1 h2) _ _ _ _ ?_;rw [zMo (by rw [zWK,<- rv.length,r1.length]) (by rw [zWK,<- rv2.length,r2.length])];exact ⟨.bl _,H,I,rfl,q⟩
 ·cases rx;cases ry;obtain ⟨its,rv,t1,_⟩:=I.list s1;obtain ⟨its2,rv2,t2,_⟩:=I.list s2;have l1:its.toArray.size = xs.length:=by rw [zWK,<- rv.length,r1.length]
  have l2:its2.toArray.size = ys.length:=by rw [zWK,<- rv2.length,r2.length]
  by_cases hl:xs.length = ys.length
  ·refine SeqAt.RcNeAt.lists (e:=fun j=>zBe n (xs.getD j .non) (ys.getD j .non)) t1.isList t2.isList (by omega) (by omega) (fun j h1 h2=>zEN I hu1 hx hy r1 r2 rv rv2 j h1 h2) _ _ _ _ ?_;rw [l1,zQ6 hl];exact ⟨.bl _,H,I,rfl,q⟩
  ·refine SeqAt.RcNeAt.lists_lengths t1.isList t2.isList (by rw [l1,l2]; simpa using hl) (by omega) _ _ _ _ ?_;rw [zRa hl] at q;exact ⟨.bl true,H,I,rfl,q⟩
end
section
variable {X:Cx} {a b e o:Expr} {pos apos cpos:Pos} {f g:FE}
def kTr (neg:Bool) (n:Nat):K2:=fun x y M=>match zCm x,zCm y with
 | some xs,some ys=>if xs.all (zA7 n) && ys.all (zA7 n) then some (.dat (.bl (nb neg (zBe (n + 1) (.tup xs) (.tup ys)))),M) else none
 | _,_=>match zBh M x,zBh M y with
  | some xs,some ys=>if xs.all (zA7 n) && ys.all (zA7 n) then some (.dat (.bl (nb neg (zBe (n + 1) (.tup xs) (.tup ys)))),M) else none
  | _,_=>none
theorem zPy {K:PySem.W.Frag} {neg:Bool} {n:Nat}:zCc K (rTr neg K n) (kTr neg n):=by
 intro L M M' H H0 x y d v w Q c rx ry hk q;unfold kTr at hk;split at hk
 ·rename_i xs ys e1 e2;split at hk
  ·rename_i hb;cases hk;rw [zWm] at hb;obtain ⟨p,vs,rfl,h1,r1⟩:=zBO rx e1;obtain ⟨p',ws,rfl,h2,r2⟩:=zBO ry e2;refine ⟨L,xs,ys,hb,.inl ⟨?_,?_⟩,q L H _ (.refl L H) c (zBQ (L:=L) (H:=H))⟩
   ·unfold Rep; exact ⟨p,vs,rfl,h1,r1⟩
   ·unfold Rep; exact ⟨p',ws,rfl,h2,r2⟩
  ·cases hk
 ·split at hk
  ·rename_i xs ys e1 e2;split at hk
   ·rename_i hb;cases hk;rw [zWm] at hb;obtain ⟨p,vs,rfl,h1,r1⟩:=zA8 c rx e1;obtain ⟨p',ws,rfl,h2,r2⟩:=zA8 c ry e2;exact ⟨L,xs,ys,hb,.inr ⟨p,p',vs,ws,rfl,rfl,.inl h1,.inl h2,r1,r2⟩,q L H _ (.refl L H) c (zBQ (L:=L) (H:=H))⟩
   ·cases hk
  ·cases hk
theorem zUT (n:Nat) (hu:X.A.units + 1 + n < cLine) (h1:QE X a f) (h2:QE X b g):QE X (.Compare a [.Eq] [b] pos) (fOp (kTr false n) f g):=zQp zPy (zRx n hu) h1 h2 (zC4 _)
theorem zNq (n:Nat) (hu:X.A.units + 1 + n < cLine) (h1:QE X a f) (h2:QE X b g):QT X (.Compare a [.NotEq] [b] pos) (tst (fOp (kTr true n) f g)):=zEy zPy (zST n hu) h1 h2 (zC4 _)
theorem zKu (n:Nat) (hn:n <= 8) (hr:Room k A):A.units + 1 + n < cLine:=by
 have:=hr.units;omega
end
open Builtin
section
variable {X:Cx} {a b o e e2:Expr} {pos p apos cpos:Pos} {f g:FE}
def zL6:KB:=fun xs M=>match xs with
 | [.dat (.int i),.dat (.int j)]=>some (.dat (.int (if j > i then j else i)),M)
 | _=>none
def zLz:KB:=fun xs M=>match xs with
 | [.dat (.int i),.dat (.int j)]=>some (.dat (.int (if j < i then j else i)),M)
 | _=>none
theorem zG8 (r:zDP H0 L H [.dat (.int i),.dat (.int j)] vs):vs = [.int i,.int j]:=by
 unfold zDP at r;obtain ⟨v,r1,rfl,a1,a2⟩:=r;unfold zDP at a2;obtain ⟨v2,r2,rfl,b1,b2⟩:=a2;unfold zDP at b2;subst b2;unfold zl Rep at a1 b1;subst a1 b1;rfl
theorem zQA {K:PySem.W.Frag}:zGi K (fun xs H Q=>∃ i j,xs = [.int i,.int j] /\ Q (.int (if j > i then j else i)) H) zL6:=by
 intro L M M' H H0 xs d vs Q c r hk q;unfold zL6 at hk;split at hk
 ·rename_i i j;cases hk;exact ⟨i,j,zG8 r,q L H _ (.refl L H) c (zAj (L:=L) (H:=H))⟩
 ·cases hk
theorem zPh {K:PySem.W.Frag}:zGi K (fun xs H Q=>∃ i j,xs = [.int i,.int j] /\ Q (.int (if j < i then j else i)) H) zLz:=by
 intro L M M' H H0 xs d vs Q c r hk q;unfold zLz at hk;split at hk
 ·rename_i i j;cases hk;exact ⟨i,j,zG8 r,q L H _ (.refl L H) c (zAj (L:=L) (H:=H))⟩
 ·cases hk
theorem zTf (hcalm:X.calm = true) (hg:Gl X "max") (hm:X.mg "max" = none) (ha:QAE X [e,e2] fa) (he:starEach [e,e2] X.env = (false,eval e X.env) :: starEach [e2] X.env:=by rfl) (hpl:(backTo pos (starEach [e2] X.env)).any (·.1) = false:=by rfl):QE X (.Call (.Name "max" p) [e,e2] [] pos) (fB zL6 fa) :=
 zED zQA (zOT hcalm) (by rfl) hg hm ha (by decide) (by decide) he hpl
theorem zUY (hcalm:X.calm = true) (hg:Gl X "min") (hm:X.mg "min" = none) (ha:QAE X [e,e2] fa) (he:starEach [e,e2] X.env = (false,eval e X.env) :: starEach [e2] X.env:=by rfl) (hpl:(backTo pos (starEach [e2] X.env)).any (·.1) = false:=by rfl):QE X (.Call (.Name "min" p) [e,e2] [] pos) (fB zLz fa) :=
 zED zPh (zOD hcalm) (by rfl) hg hm ha (by decide) (by decide) he hpl
def zFS:KM:=fun x ds M=>match x,ds with
 | .dat (.ref n),[.ref m]=>match M[n]?,M[m]? with
  | some (.lst xs),some (.lst ys)=>if xs.length + ys.length <= sizeLine then some (.non,M.set n (.lst (xs ++ ys))) else none
  | _,_=>none
 | _,_=>none
theorem zMp {K:PySem.W.Frag}:zPN K zNe zFS:=by
 intro L M M' H H0 x ds d v vs Q c rx rd hk q;unfold zFS at hk;split at hk
 ·rename_i n m;split at hk
  ·rename_i xs ys e1 e1';split at hk
   ·rename_i hz;cases hk;unfold zl Rep at rx;obtain ⟨a,rfl,e2⟩:=rx;obtain ⟨ws,e3,r3⟩:=c.obj n a _ e2 e1;obtain ⟨w,rfl,r4⟩:=rd.one;unfold Rep at r4;obtain ⟨b,rfl,e4⟩:=r4;obtain ⟨zs,e5,r5⟩:=c.obj m b _ e4 e1';obtain ⟨c5,s5⟩:=c.write e2 e1 (r3.app r5);exact ⟨a,b,ws,zs,rfl,rfl,e3,e5,by rw [r3.length,r5.length]; exact hz,q L _ _ s5 c5 (by unfold Rep; rfl)⟩
   ·cases hk
  ·cases hk
 ·cases hk
theorem zPk (h:QE X a f) (hg:QA X [e] fg) (hbase:attributeBase a "extend" X.env (eval a X.env) = eval a X.env:=by rfl)
  (hfew:((backTo cpos (starEach [e] X.env)).all (fun x=> !x.1) && (backToKw cpos (keywordEach [] X.env)).all (fun x=>x.1.isSome) && decide ([e].length + ([]:List Keyword).length + (if ([]:List Keyword).isEmpty then 0 else 1) < 30)) = true:=by rfl)
  (hline:(apos.endLine == cpos.line) = true:=by rfl) (hs:starEach [e] X.env = (false,eval e X.env) :: starEach [] X.env:=by rfl) (hplain:(backTo cpos (starEach [] X.env)).any (·.1) = false:=by rfl) :
  QE X (.Call (.Attribute a "extend" apos) [e] [] cpos) (fM zFS f fg) :=
 .mk <| PE.imp (zNP PySem.F.plainAttrs_list PySem.F.slot_list_extend PySem.F.type_list_extend zOk h.un hg.un hbase hfew hline hs hplain) fun _ _ _ z=>zKU zMp z
end
end L3
namespace HT
open PySem PySem.Spec PyProof.Rows
end HT
namespace L3
open PySem PySem.Spec PyProof.Rows L2
section
variable {X:Cx} {e tg:Expr} {pos:Pos}
def zQ5 (fg:FG) (f:FE):FS:=fun σ M=>match toD f σ M with
 | some (d,M1)=>match fg d σ with
  | some σ1=>some (.nx,σ1,M1)
  | none=>none
 | none=>none
theorem zUq (hk:GOk g fg) (h:QE X e f) (hg:PG X tg g) (hs:swapsWithSole [tg] e pos.line X.env = pure false:=by rfl) (hw:swappedStores [tg] e X.env = pure none:=by rfl)
  (h1:(assignEach [tg] X.env).map (·.2) = [assign tg X.env]:=by rfl):QS X (.Assign [tg] e pos) (zQ5 fg f) :=
 .mk <| PS.imp (zPl h.un hg hs hw h1) fun E τ H zz=>by
  obtain ⟨L,σ,M,o,σ',M',c,rs,hf,q⟩:=zz;unfold zQ5 at hf;split at hf
  ·rename_i d M1 e1;split at hf
   ·rename_i σ1 e2;cases hf;refine zLH ⟨L,σ,M,_,_,c,rs,e1,fun L1 H1 v s1 c1 r1=>?_⟩;exact hk (rs.stp s1) r1 e2 fun τ' rs'=>q L1 H1 s1 c1 τ' rs'
   ·cases hf
  ·cases hf
variable {σ:Sd} {M:Mem} {P:Out -> Sd -> Mem -> Prop} {fg:FG} {f:FE}
theorem zSW:OkS (zQ5 fg f σ M) P ↔ Ok (f σ M) (zIC fun d M1=>∃ σ1,fg d σ = some σ1 /\ P .nx σ1 M1):=by
 rw [<- zAu];unfold zQ5;constructor
 ·rintro ⟨o,σ',M',e,p⟩;split at e
  ·rename_i d M1 e1;split at e
   ·rename_i σ1 e2;cases e;exact ⟨d,_,e1,_,e2,p⟩
   ·cases e
  ·cases e
 ·rintro ⟨d,M1,e1,σ1,e2,p⟩;refine ⟨.nx,σ1,M1,?_,p⟩;rw [e1]; dsimp only; rw [e2]
end
def SI (b:Bool) (h:Heap) (it t:Addr) (k:Nat):Prop:=if b then h.IsTupleIter it t k else h.IsListIter it t k
def SO (b:Bool) (h:Heap) (t:Addr) (xs:Array Value):Prop:=if b then h.IsTuple t xs else h.IsList t xs
abbrev itO (b:Bool) (t:Addr):Obj:={ cls:=.type (if b then "tuple_iterator" else "list_iterator"),data:=.fields #[.ref t,.int 0 0] }
theorem SO.keep (x:SO b h t xs) (e:∀ o,h.get? t = some o -> h'.get? t = some o):SO b h' t xs:=by
 cases b with
 | true=>obtain ⟨o,q,r⟩:=(show h.IsTuple t xs from x); exact (show h'.IsTuple t xs from ⟨o,e o q,r⟩)
 | false=>obtain ⟨o,q,r⟩:=(show h.IsList t xs from x); exact (show h'.IsList t xs from ⟨o,e o q,r⟩)
section
variable {prog:Program} {w:World} {A:Around} {E:Value -> Shared -> Prop} {s:Shared}
theorem zRU (hl:SO b s.heap l items) (hQ:Q (.ref s.heap.objs.size) { s with heap:=s.heap.push (itO b l) }):wpAny (model prog w) A (pyIter (.ref l)) Q E s:=by
 cases b with
 | true=>exact wpAny_pyIter_tuple (show s.heap.IsTuple l items from hl) hQ
 | false=>exact wpAny_pyIter_list (show s.heap.IsList l items from hl) hQ
theorem zS9 (e:h.get? it = some (itO b t)):SI b h it t 0:=by
 cases b with
 | true=>exact (show h.IsTupleIter it t 0 from ⟨_,e,rfl,rfl⟩)
 | false=>exact (show h.IsListIter it t 0 from ⟨_,e,rfl,rfl⟩)
end
def SqG (K:PySem.W.Frag) (b:Bool) (H:Hp) (a:Addr) (xs:List V):Prop:=if b then SqT K H a xs else SqL K H a xs
theorem zQs (I:Inv X zB σ H s) (h:SqG X.K b H a xs):∃ its,zm xs its /\ SO b s.heap a its.toArray:=by
 cases b with
 | true=>obtain ⟨its,rv,p1,_⟩:=I.tuple h; exact ⟨its,rv,p1⟩
 | false=>obtain ⟨its,rv,p1,_⟩:=I.list h; exact ⟨its,rv,p1.isList⟩
theorem zVH (x:SO b h a its):a < h.objs.size:=by
 cases b with
 | true=>obtain ⟨_,e,_⟩:=(show h.IsTuple a its from x); exact zWN e
 | false=>obtain ⟨_,e,_⟩:=(show h.IsList a its from x); exact zWN e
section
variable {X:Cx} {a b:Expr} {es:List Expr} {ek:Nat} {ep p pos:Pos}
theorem zTg {K:PySem.W.Frag} {L1:List Addr} {M1:Mem} {H1:Hp} {x:D} {v:V} {xs:List D} (c1:Cor K L1 M1 H1) (r1:Rep L1 H1 x v) (e:zAc M1 (.dat x) = some xs) :
  ∃ b l,v = .ref l /\ (∃ vs,SqG K b H1 l vs) /\ ∀ L2 H2 M2,Stp L1 H1 L2 H2 -> Cor K L2 M2 H2 -> zAc M2 (.dat x) = some xs -> ∃ vs',SqG K b H2 l vs' /\ zW L2 H2 xs vs':=by
 have r1':zl H1 L1 H1 (.dat x) v:=r1;cases x with
 | tup ds=>
  cases e;obtain ⟨a,vs,rfl,e3,r3⟩:=zBO r1' (xs:=xs) rfl;exact ⟨true,a,rfl,⟨vs,(show SqT K H1 a vs from .of e3)⟩,fun L2 H2 M2 s2 c2 _=>⟨vs,(show SqT K H2 a vs from .of (s2.tup a vs e3)),r3.stp s2⟩⟩
 | ref n=>
  have e2:zBh M1 (.dat (.ref n)) = some xs:=e;obtain ⟨a,vs,rfl,e3,r3⟩:=zA8 c1 r1' e2;refine ⟨false,a,rfl,⟨vs,(show SqL K H1 a vs from .inl e3)⟩,fun L2 H2 M2 s2 c2 hq=>?_⟩;unfold Rep at r1;obtain ⟨a',ha',e5⟩:=r1;cases ha';have e6:L2[n]? = some a:=by obtain ⟨N,hN⟩:=s2.pre; rw [hN]; exact zCR e5
  have r2:zl H2 L2 H2 (.dat (.ref n)) (.ref a):=by unfold zl Rep; exact ⟨a,rfl,e6⟩
  obtain ⟨a2,vs',h2,e7,r7⟩:=zA8 c2 r2 (show zBh M2 (.dat (.ref n)) = some xs from hq);cases h2;exact ⟨vs',(show SqL K H2 a vs' from .inl e7),r7⟩
 | _=>cases e
end
theorem zHb {ns:List Int} {its:List Value} (r:zm (ns.map V.int) its) {i:Nat} {v:Value} (h:its.toArray[i]? = some v):∃ t,v = .int (ns.getD i 0) t:=by
 have h':its[i]? = some v:=by simpa using h
 have hi:i < its.length:=(zWF.mp h').1;have hl:=r.length;rw [zWL] at hl;have hx:(ns.map V.int)[i]? = some (.int (ns.getD i 0)):=by
  rw [zWZ,zWH,zWG (by omega)]; rfl
 obtain ⟨u,hu,ru⟩:=r.get hx;rw [h'] at hu;cases hu;obtain ⟨t,rfl⟩:=ru;exact ⟨t,rfl⟩
theorem zMf (hh:A.handled = none) (b:Bool) (I ax:Addr) (hne:ax ≠ I) (items:Array Value) :
  Walks prog w A I [I,ax] [I] items.size (fun i v=>items[i]? = some v) (fun i h=>SI b h I ax i /\ SO b h ax items):=by
 cases b with
 | true=>exact Walks.tuple hh I ax hne items
 | false=>exact Walks.list hh I ax hne items
section
variable {X:Cx} {e:Expr} {pos p:Pos}
theorem zO0 (gt:Bool) (hc:X.calm = true):zCb X (.builtin (if gt then "max" else "min")) (fun xs H Q=>∃ (b:Bool) (a:Addr) (ns:List Int) (m:Int),xs = [.ref a] /\ SqG X.K b H a (ns.map V.int) /\ m ∈ ns /\ (∀ x ∈ ns,if gt then x <= m else m <= x) /\ Q (.int m) H):=by
 intro zB s σ H xs us Q I r h;obtain ⟨b,a,ns,m,rfl,hs,hm,hb,q⟩:=h;obtain ⟨u,rfl,ru⟩:=zEi r;cases ru;obtain ⟨its,rv,p1⟩:=zQs I hs;have hl:its.toArray.size = ns.length:=by have:=rv.length; simp at this ⊢; omega
 have hpos:0 < ns.length:=List.length_pos_of_mem hm;have hlt:=zVH p1;have hfp:∀ c ∈ [s.heap.objs.size,a],c < (s.heap.push (itO b a)).objs.size:=fun c hc'=>by
  rw [zWs];simp only [zWO,zWh,or_false] at hc';rcases hc' with rfl | rfl
  ·exact zW9 _
  ·exact zW1 hlt
 have st:SI b (s.heap.push (itO b a)) s.heap.objs.size a 0 /\ SO b (s.heap.push (itO b a)) a its.toArray:=⟨zS9 (zWM _ rfl),p1.keep fun o e=>zWD _ e⟩;have kp:∀ h':Heap,(∀ c o,c ∉ [s.heap.objs.size] -> (s.heap.push (itO b a)).get? c = some o -> h'.get? c = some o) -> ∀ c o,s.heap.get? c = some o -> h'.get? c = some o:=fun h' hk c o e0=>
  hk c o (by simp only [zWO,zWh,or_false]; exact zWX (zWN e0)) (zWD _ e0)
 have fin:∀ (i:Nat) (v:Value) (h':Heap) (tk:Nat),its.toArray[i]? = some v -> ns.getD i 0 = m -> (∀ c o,s.heap.get? c = some o -> h'.get? c = some o) -> EP X zB σ Q v { s with heap:=h',toks:=tk }:=fun i v h' tk hv hi hk=>by
  obtain ⟨t,rfl⟩:=zHb rv hv;rw [hi];exact ⟨.int m,H,I.kept hk,⟨t,rfl⟩,q⟩
 cases gt with
 | true=>
  refine call_max_walk (zRU p1 ⟨s.heap.objs.size,[s.heap.objs.size,a],[s.heap.objs.size],its.toArray.size,fun i v=>its.toArray[i]? = some v,fun i h=>SI b h s.heap.objs.size a i /\ SO b h a its.toArray,_,rfl,zMf (A:=X.A.in1) (I.ok.hd hc) b _ a (zWX hlt) its.toArray,st,hfp,by omega,CmpOf.ints_gt (fun i=>ns.getD i 0) (fun _ _ hv=>zHb rv hv),fun v h' tk hP hk=>?_⟩);refine fin _ v h' tk hP ?_ (kp h' hk);obtain ⟨h1,h2⟩:=argBest_gt (fun i=>ns.getD i 0) (its.toArray.size - 1);rw [hl] at h1 h2 ⊢;generalize argBest _ (ns.length - 1) = q at h1 h2 ⊢;obtain ⟨j,hj,ej⟩:=List.mem_iff_getElem.mp hm;have h3:=h2 j (by omega);have e3:ns.getD j 0 = m:=by rw [zWH,zWG hj]; exact ej
  have hq:q < ns.length:=by omega
  have h4:ns.getD q 0 <= m:=by
   have:=hb (ns.getD q 0) (by rw [zWH,zWG hq]; exact zWk hq);simpa using this
  rw [e3] at h3;omega
 | false=>
  refine call_min_walk (zRU p1 ⟨s.heap.objs.size,[s.heap.objs.size,a],[s.heap.objs.size],its.toArray.size,fun i v=>its.toArray[i]? = some v,fun i h=>SI b h s.heap.objs.size a i /\ SO b h a its.toArray,_,rfl,zMf (A:=X.A.in1) (I.ok.hd hc) b _ a (zWX hlt) its.toArray,st,hfp,by omega,CmpOf.ints_lt (fun i=>ns.getD i 0) (fun _ _ hv=>zHb rv hv),fun v h' tk hP hk=>?_⟩);refine fin _ v h' tk hP ?_ (kp h' hk);obtain ⟨h1,h2⟩:=argBest_lt (fun i=>ns.getD i 0) (its.toArray.size - 1);rw [hl] at h1 h2 ⊢;generalize argBest _ (ns.length - 1) = q at h1 h2 ⊢;obtain ⟨j,hj,ej⟩:=List.mem_iff_getElem.mp hm;have h3:=h2 j (by omega);have e3:ns.getD j 0 = m:=by rw [zWH,zWG hj]; exact ej
  have hq:q < ns.length:=by omega
  have h4:m <= ns.getD q 0:=by
   have:=hb (ns.getD q 0) (by rw [zWH,zWG hq]; exact zWk hq);simpa using this
  rw [e3] at h3;omega
def zDr (gt:Bool):Int -> List Int -> Int
 | m,[]=>m
 | m,x :: r=>zDr gt (if (if gt then m < x else x < m) then x else m) r
theorem zEV (gt:Bool):∀ (r:List Int) (m:Int),zDr gt m r ∈ m :: r /\ ∀ x ∈ m :: r,if gt then x <= zDr gt m r else zDr gt m r <= x
 | [],m=>by
  refine ⟨by simp [zDr],fun x hx=>?_⟩;have:x = m:=by simpa using hx
  subst this; cases gt <;> simp [zDr]
 | y :: r,m=>by
  unfold zDr;obtain ⟨h1,h2⟩:=zEV gt r (if (if gt then m < y else y < m) then y else m);generalize hb:zDr gt (if (if gt then m < y else y < m) then y else m) r = B at h1 h2;constructor
  ·rcases zWO.mp h1 with q | q
   ·rw [q];by_cases hc:(if gt = true then m < y else y < m)
    ·rw [zWR hc]; simp
    ·rw [zWU hc]; simp
   ·simp [q]
  ·intro x hx;have h0:=h2 _ zWQ;rcases zWO.mp hx with q | q
   ·subst q;cases gt with
    | true=>simp at h0 ⊢; split at h0 <;> omega
    | false=>simp at h0 ⊢; split at h0 <;> omega
   ·rcases zWO.mp q with z | z
    ·subst z;cases gt with
     | true=>simp at h0 ⊢; split at h0 <;> omega
     | false=>simp at h0 ⊢; split at h0 <;> omega
    ·exact h2 x (zWP _ z)
def zHt (gt:Bool):KB:=fun xs M=>match xs with
 | [.dat d]=>match zAc M (.dat d) with
  | some ds=>match zBB ds with
   | some (n :: ns)=>some (.dat (.int (zDr gt n ns)),M)
   | _=>none
  | none=>none
 | [.fl ds]=>match zBB ds with
  | some (n :: ns)=>some (.dat (.int (zDr gt n ns)),M)
  | _=>none
 | _=>none
theorem zPg {K:PySem.W.Frag} {gt:Bool}:zGi K (fun xs H Q=>∃ (b:Bool) (a:Addr) (ns:List Int) (m:Int),xs = [.ref a] /\ SqG K b H a (ns.map V.int) /\ m ∈ ns /\ (∀ x ∈ ns,if gt then x <= m else m <= x) /\ Q (.int m) H) (zHt gt):=by
 intro L M M' H H0 xs d vs Q c r hk q;unfold zHt at hk;split at hk
 ·rename_i d0;split at hk
  ·rename_i ds e1;split at hk
   ·rename_i n ns e2;cases hk;obtain ⟨v,rfl,r1⟩:=r.one;have r1':Rep L H d0 v:=r1;obtain ⟨b,l,rfl,_,key⟩:=zTg c r1' e1;obtain ⟨vs',hq,rr⟩:=key L H M (.refl L H) c e1;have ev:=zEE e2 rr;subst ev;obtain ⟨h1,h2⟩:=zEV gt ns n;exact ⟨b,l,n :: ns,zDr gt n ns,rfl,hq,h1,h2,q L H _ (.refl L H) c (zAj (L:=L) (H:=H))⟩
   ·cases hk
  ·cases hk
 ·rename_i ds;split at hk
  ·rename_i n ns e2;cases hk;obtain ⟨v,rfl,r1⟩:=r.one;obtain ⟨l,vs',rfl,hq,rr⟩:=zA8 c r1 (show zBh M (.fl ds) = some ds from rfl);have ev:=zEE e2 rr;subst ev;obtain ⟨h1,h2⟩:=zEV gt ns n;exact ⟨false,l,n :: ns,zDr gt n ns,rfl,.inl hq,h1,h2,q L H _ (.refl L H) c (zAj (L:=L) (H:=H))⟩
  ·cases hk
 ·cases hk
theorem zTm (hcalm:X.calm = true) (hg:Gl X "min") (hm:X.mg "min" = none) (ha:QAE X [e] fa) (he:starEach [e] X.env = (false,eval e X.env) :: starEach [] X.env:=by rfl) (hpl:(backTo pos (starEach [] X.env)).any (·.1) = false:=by rfl):QE X (.Call (.Name "min" p) [e] [] pos) (fB (zHt false) fa) :=
 zED zPg (zO0 false hcalm) (by rfl) hg hm ha (by decide) (by decide) he hpl
end
section
variable {X:Cx} {a e e2 o:Expr} {pos p apos cpos:Pos} {f:FE}
def zMU (f:FE):FT:=fun σ M=>match f σ M with
 | some (x,M1)=>match zAc M1 x with
  | some xs=>some (!xs.isEmpty,M1)
  | none=>none
 | none=>none
theorem zNd (h:QE X a f) (he:∀ whole,isTrue a X.env whole = (do let v <- whole; standAt a.pos; holding [v] (truthy v)):=by intro _; rfl):QT X a (zMU f) :=
 .mk <| PT.imp (zQy h.un he) fun τ H Q zz=>by
  obtain ⟨L,σ,M,d,M',c,rs,hf,q⟩:=zz;unfold zMU at hf;split at hf
  ·rename_i x M1 e1;split at hf
   ·rename_i xs e2;cases hf;refine ⟨L,σ,M,_,_,c,rs,e1,fun L1 H1 v s1 c1 r1=>⟨!xs.isEmpty,?_,q L1 H1 s1 c1⟩⟩;unfold zAc at e2;have emp:∀ {vs:List V},zW L1 H1 xs vs -> (!xs.isEmpty) = !vs.isEmpty:=fun {vs} r=>by
     have:=r.length;cases xs <;> cases vs <;> first | rfl | simp at this
    cases t:zCm x with
    | some ws=>
     rw [t] at e2; cases e2;obtain ⟨l,vs,rfl,e3,r3⟩:=zBO r1 t;exact .inr (.inl ⟨vs,.of e3,emp r3⟩)
    | none=>
     rw [t] at e2;dsimp only at e2;obtain ⟨l,vs,rfl,e3,r3⟩:=zA8 c1 r1 e2;exact .inl ⟨vs,.inl e3,emp r3⟩
   ·cases hf
  ·cases hf
def zUZ (i j k:Nat):FG:=fun d σ=>match d with
 | .tup [x,y,z]=>some (((σ.set i (some x)).set j (some y)).set k (some z))
 | _=>none
abbrev gP3 (K:PySem.W.Frag) (i j k:Nat):TG:=zRS K 3 (zFc (zCI i) (zFc (zCI j) (zFc (zCI k) zPd)))
theorem zU2 (r:zW L H [x,y,z] vs):∃ v1 v2 v3,vs = [v1,v2,v3] /\ Rep L H x v1 /\ Rep L H y v2 /\ Rep L H z v3:=by
 unfold zW at r;obtain ⟨v1,r',rfl,h1,r⟩:=r;obtain ⟨v2,v3,rfl,h2,h3⟩:=r.two;exact ⟨v1,v2,v3,rfl,h1,h2,h3⟩
theorem zS4 {K:PySem.W.Frag} {i j k:Nat}:GOk (gP3 K i j k) (zUZ i j k):=by
 intro L H σ σ' τ d v Q rs r hf q;unfold zUZ at hf;split at hf
 ·rename_i x y z;cases hf;unfold Rep at r;obtain ⟨a,vs,rfl,e,r⟩:=r;obtain ⟨v1,v2,v3,rfl,r1,r2,r3⟩:=zU2 r;exact ⟨a,_,rfl,.of e,rfl,v1,[v2,v3],rfl,v2,[v3],rfl,v3,[],rfl,rfl,q _ (((rs.set r1).set r2).set r3)⟩
 ·cases hf
end
section
variable {prog:Program} {w:World} {A:Around} {E:Value -> Shared -> Prop} {s:Shared}
theorem zRH {its:List Value} {i:Int} (e:s.heap.get? l = some { cls:=.type "list", data:=.seq its.toArray n }) (hfit:¬ (!Builtin.List.listFitsIndex i) = true) (h0:¬ (i < 0)) (hz:its.toArray.size <= sizeLine)
  (h:∀ g:Array Value -> Array Value,g its.toArray = (its.take (min i.toNat its.length) ++ [u2] ++ its.drop (min i.toNat its.length)).toArray -> Q .none { s with heap:=s.heap.update l (Obj.mapSeq g),toks:=s.toks }) :
  wpAny (model prog w) A (call (.builtin "list.insert") [.ref l,.int i t,u2]) Q E s:=by
 have hm:=@AutoSeq1.list_insert_list_int_val_1 l its.toArray n i t u2 hfit hz;have h1:s.TypeIs (.ref l) "list" := ⟨_,e,rfl⟩;refine call_meets (B:=Builtin.«list.insert») (self:=.ref l) (rest:=[.int i t,u2]) F.slot_list_insert h1 F.entry_list_insert (F.args_list_insert_3 _ _ _) hm ⟨e,?_⟩;refine h _ ?_;simp only [h0,if_false,zWK];simp;exact List.take_of_length_le (by simp)
end
section
variable {X:Cx} {a o x1 x2:Expr} {pos p apos cpos:Pos} {f:FE}
def zNO:V -> List V -> Hp -> VK -> Prop:=fun x vs H Q=>∃ (l:Addr) (i:Int) (y:V) (xs:List V),x = .ref l /\ vs = [.int i,y] /\ H l = some (.lst xs) /\ 0 <= i /\ i.toNat <= xs.length /\ xs.length < sizeLine /\ Q .non (upd H l (.lst (xs.take i.toNat ++ [y] ++ xs.drop i.toNat)))
theorem zN1:MtM X "list.insert" zNO:=by
 intro zB s σ H x vs v us Q I rx rv h;obtain ⟨l,i,y,xs,rfl,rfl,hH,h0,hi,hz,q⟩:=h;cases rx;obtain ⟨u,u2,rfl,⟨t,rfl⟩,ru2⟩:=rv.two;obtain ⟨z,its,n,r,hl,e⟩:=I.lstM hH;have hs:(sizeLine:Nat) < 2 ^ 62:=by decide
 have hi1 : -(2 ^ 63) <= i:=by omega
 have hi2:i < 2 ^ 63:=by omega
 refine zRH (its:=its) e (by rw [fitsIndex_both hi1 hi2]; exact zWY) (by omega) (by rw [zWK,<- hl]; exact Nat.le_of_lt hz) fun g hg=>?_;rw [Nat.min_eq_left (by omega)] at hg;exact ⟨.non,_,I.lset (its':=its.take i.toNat ++ [u2] ++ its.drop i.toNat) (ys:=xs.take i.toNat ++ [y] ++ xs.drop i.toNat) hH e hg (((r.take i.toNat).append (.cons ru2 .nil)).append (r.drop i.toNat)) (by simp; omega),rfl,q⟩
def zFH:KM:=fun x ds M=>match x,ds with
 | .dat (.ref n),[.int i,d]=>match M[n]? with
  | some (.lst xs)=>if 0 <= i /\ i.toNat <= xs.length /\ xs.length < sizeLine then some (.non,M.set n (.lst (xs.take i.toNat ++ [d] ++ xs.drop i.toNat))) else none
  | _=>none
 | _,_=>none
theorem zJX:∀ (k:Nat) {ds:List D} {vs:List V},zW L H ds vs -> zW L H (ds.take k) (vs.take k)
 | 0,_,_,_=> .nil
 | k + 1,[],vs,h=>by unfold zW at h; subst h; exact .nil
 | k + 1,d :: ds,vs,h=>by
  unfold zW at h;obtain ⟨v,r,rfl,h1,h2⟩:=h;exact .cons h1 (zJX k h2)
theorem zI5:∀ (k:Nat) {ds:List D} {vs:List V},zW L H ds vs -> zW L H (ds.drop k) (vs.drop k)
 | 0,_,_,h=>h
 | k + 1,[],vs,h=>by unfold zW at h; subst h; exact .nil
 | k + 1,d :: ds,vs,h=>by
  unfold zW at h;obtain ⟨v,r,rfl,h1,h2⟩:=h;exact zI5 k h2
theorem zNB {K:PySem.W.Frag}:zPN K zNO zFH:=by
 intro L M M' H H0 x ds d v vs Q c rx rd hk q;unfold zFH at hk;split at hk
 ·rename_i n i d';split at hk
  ·rename_i xs e1;split at hk
   ·rename_i hz;cases hk;unfold zl Rep at rx;obtain ⟨a,rfl,e2⟩:=rx;obtain ⟨ws,e3,r3⟩:=c.obj n a _ e2 e1;obtain ⟨w1,w2,rfl,r4,r5⟩:=rd.two;have hw:w1 = .int i:=by unfold Rep at r4; exact r4
    subst hw;obtain ⟨c5,s5⟩:=c.write e2 e1 (((zJX i.toNat r3).app (.cons r5 .nil)).app (zI5 i.toNat r3));exact ⟨a,i,w2,ws,rfl,rfl,e3,hz.1,by rw [r3.length]; exact hz.2.1,by rw [r3.length]; exact hz.2.2,q L _ _ s5 c5 (by unfold Rep; rfl)⟩
   ·cases hk
  ·cases hk
 ·cases hk
theorem zRB (h:QE X a f) (hg:QA X [x1,x2] fg) (hbase:attributeBase a "insert" X.env (eval a X.env) = eval a X.env:=by rfl)
  (hfew:((backTo cpos (starEach [x1,x2] X.env)).all (fun x=> !x.1) && (backToKw cpos (keywordEach [] X.env)).all (fun x=>x.1.isSome) && decide ([x1,x2].length + ([]:List Keyword).length + (if ([]:List Keyword).isEmpty then 0 else 1) < 30)) = true:=by rfl)
  (hline:(apos.endLine == cpos.line) = true:=by rfl) (hs:starEach [x1,x2] X.env = (false,eval x1 X.env) :: starEach [x2] X.env:=by rfl) (hplain:(backTo cpos (starEach [x2] X.env)).any (·.1) = false:=by rfl) :
  QE X (.Call (.Attribute a "insert" apos) [x1,x2] [] cpos) (fM zFH f fg) :=
 .mk <| PE.imp (zNP PySem.F.plainAttrs_list PySem.F.slot_list_insert PySem.F.type_list_insert zN1 h.un hg.un hbase hfew hline hs hplain) fun _ _ _ z=>zKU zNB z
end
noncomputable def zKZ (fg:FG) (tc:FT) (fi2:FI) (own2:List Nat) (fg2:FG) (tc2:FT) (te:FE) (σ:Sd) (all:List D) (gd:Option (Mem -> Prop)):List D -> List D -> Mem -> Option (List D × Mem)
 | [],acc,M=>open Classical in if zBE gd all M then some (acc,M) else none
 | x :: r,acc,M=>open Classical in if zBE gd all M then match fg x σ with
   | some σ1=>match tc σ1 M with
    | some (true,M1)=>match fi2 σ1 M1 with
     | some (ys,gd2,M2)=>if acc.length + ys.length <= sizeLine then match zBF fg2 tc2 te (zBl own2 σ1) ys gd2 ys M2 with
       | some (ds,M3)=>zKZ fg tc fi2 own2 fg2 tc2 te σ all gd r (acc ++ ds) M3
       | none=>none
      else none
     | none=>none
    | some (false,M1)=>zKZ fg tc fi2 own2 fg2 tc2 te σ all gd r acc M1
    | none=>none
   | none=>none
  else none
noncomputable def zGe (own own2:List Nat) (fi:FI) (fg:FG) (tc:FT) (fi2:FI) (fg2:FG) (tc2:FT) (te:FE):FE:=fun σ M=>match fi σ M with
 | some (xs,gd,M1)=>match zKZ fg tc fi2 own2 fg2 tc2 te (zBl own σ) xs gd xs [] M1 with
  | some (ys,M2)=>some (.fl ys,M2)
  | none=>none
 | none=>none
theorem zNI {K:PySem.W.Frag} {own own2:List Nat} {fi fi2:FI} {g g2:TG} {fg fg2:FG} {tc tc2:FT} {te:FE} (hg:zFi own g fg) (hg2:zFi own2 g2 fg2) {τ:Sv} {H:Hp} {Q:VK} (h:trE K (zGe own own2 fi fg tc fi2 fg2 tc2 te) τ H Q) :
  zQr own own2 (trI K fi) g (trT K tc) (trI K fi2) g2 (trT K tc2) (trD K (toD te)) τ H Q:=by
 obtain ⟨L,σ,M,d,Mf,c,rs,hf,q⟩:=h;unfold zGe at hf;split at hf
 ·rename_i xs gd M1 e1;split at hf
  ·rename_i zs M2 e2;cases hf;refine ⟨L,σ,M,_,_,_,c,rs,e1,fun L1 H1 J s1 c1 it=>?_⟩
   refine ⟨fun i m ys H'=>m = xs.length - i /\ i <= xs.length /\ ∃ L' M' as,Stp L1 H1 L' H' /\ Cor K L' M' H' /\ zW L' H' as ys /\ as.length <= sizeLine /\ zKZ fg tc fi2 own2 fg2 tc2 te (zBl own σ) xs gd (xs.drop i) as M' = some (zs,Mf),
    ⟨xs.length,by simp,zWy _,L1,M1,[],.refl _ _,c1,.nil,zWy _,by simpa using e2⟩,?_⟩
   rintro i m ys H' ⟨rfl,hi,L',M',as,s',c',r',hl,e'⟩;by_cases hlt:i < xs.length
   ·rw [zCz hlt] at e';unfold zKZ at e';split at e'
    ·rename_i hgd;obtain ⟨step,_⟩:=it L' H' M' s' c' hgd;obtain ⟨go,yl⟩:=step i xs[i] (zWG hlt);split at e'
     ·rename_i σ1 eg;refine .inr ⟨go,fun v H2 hy=>?_⟩;obtain ⟨gr,rv⟩:=yl v H2 hy;have s2:Stp L1 H1 L' H2:=s'.yld gr;refine hg (zFU own ((rs.stp s1).stp s2)) (.refl _) rv eg fun τ2 r2 x2=>⟨x2,?_⟩;split at e'
      ·rename_i M3 e3;split at e'
       ·rename_i ys2 gd2 M4 e4;split at e'
        ·rename_i hz2;split at e'
         ·rename_i ds M5 e5;refine ⟨L',σ1,M',_,_,c'.grow gr,r2,e3,fun L3 H3 s3 c3=>zHN ?_⟩;have st3:Stp L' H' L3 H3:=(Stp.grow gr).trans s3;refine ⟨L3,σ1,M3,_,_,_,c3,r2.stp s3,e4,fun L4 H4 J2 s4 c4 it2=>?_⟩
          refine ⟨fun j m2 ws H5=>m2 = ys2.length - j /\ j <= ys2.length /\ ∃ L5 M6 bs cs,Stp L4 H4 L5 H5 /\ Cor K L5 M6 H5 /\ zW L5 H5 (as ++ bs) ws /\ bs.length <= j /\ zBF fg2 tc2 te (zBl own2 σ1) ys2 gd2 (ys2.drop j) M6 = some (cs,M5) /\ bs ++ cs = ds,
           ⟨ys2.length,by simp,zWy _,L4,M4,[],ds,.refl _ _,c4,by simpa using (r'.stp st3).stp s4,zWI _,by simpa using e5,rfl⟩,?_⟩
          rintro j m2 ws H5 ⟨rfl,hj,L5,M6,bs,cs,s5,c5,r5,hbl,e6,hbc⟩;have hws:ws.length <= as.length + j:=by rw [r5.length,zWS]; omega
          by_cases hlt2:j < ys2.length
          ·rw [zCz hlt2] at e6;unfold zBF at e6;split at e6
           ·rename_i hgd2;obtain ⟨step2,_⟩:=it2 L5 H5 M6 s5 c5 hgd2;obtain ⟨go2,yl2⟩:=step2 j ys2[j] (zWG hlt2);split at e6
            ·rename_i σ2 eg2;refine .inr ⟨go2,fun v2 H6 hy2=>?_⟩;obtain ⟨gr2,rv2⟩:=yl2 v2 H6 hy2;have s6:Stp L4 H4 L5 H6:=s5.yld gr2;refine hg2 (zFU own2 (((r2.stp s3).stp s4).stp s6)) (.refl _) rv2 eg2 fun τ3 r3 x3=>⟨x3,?_⟩;split at e6
             ·rename_i M7 e7;split at e6
              ·rename_i d M8 e8;split at e6
               ·rename_i ds' M9 e9;cases e6;refine ⟨L5,σ2,M6,_,_,c5.grow gr2,r3,e7,fun L7 H7 s7 c7=>zHN ?_⟩;refine ⟨L7,σ2,M7,_,_,c7,r3.stp s7,e8,fun L8 H8 w s8 c8 r8=>?_⟩;have st:Stp L5 H5 L8 H8:=((Stp.grow gr2).trans s7).trans s8;refine ⟨by omega,ys2.length - (j + 1),by omega,rfl,hlt2,L8,M8,bs ++ [d],ds',s5.trans st,c8,?_,by simp; omega,e9,by rw [<- hbc]; simp⟩;have:=(r5.stp st).app (.cons r8 .nil);simpa using this
               ·cases e6
              ·cases e6
             ·rename_i M7 e7;refine ⟨L5,σ2,M6,_,_,c5.grow gr2,r3,e7,fun L7 H7 s7 c7=>zHH ?_⟩;have st:Stp L5 H5 L7 H7:=(Stp.grow gr2).trans s7;exact ⟨ys2.length - (j + 1),by omega,rfl,hlt2,L7,M7,bs,cs,s5.trans st,c7,r5.stp st,by omega,e6,hbc⟩
             ·cases e6
            ·cases e6
           ·cases e6
          ·have hj':j = ys2.length:=by omega
           subst hj';rw [List.drop_length] at e6;unfold zBF at e6;split at e6
           ·rename_i hgd2;cases e6;obtain ⟨_,stop2⟩:=it2 L5 H5 _ s5 c5 hgd2;rw [zWw] at hbc;subst hbc;refine .inl ⟨stop2,xs.length - (i + 1),by omega,rfl,hlt,L5,M5,as ++ bs,s'.trans ((st3.trans s4).trans s5),c5,r5,by rw [zWS]; omega,e'⟩
           ·cases e6
         ·cases e'
        ·cases e'
       ·cases e'
      ·rename_i M3 e3;refine ⟨L',σ1,M',_,_,c'.grow gr,r2,e3,fun L3 H3 s3 c3=>zHH ?_⟩;have st:Stp L' H' L3 H3:=(Stp.grow gr).trans s3;exact ⟨xs.length - (i + 1),by omega,rfl,hlt,L3,M3,as,s'.trans st,c3,r'.stp st,hl,e'⟩
      ·cases e'
     ·cases e'
    ·cases e'
   ·have hi':i = xs.length:=by omega
    subst hi';rw [List.drop_length] at e';unfold zKZ at e';split at e'
    ·rename_i hgd;cases e';obtain ⟨_,stop⟩:=it L' H' _ s' c' hgd;refine .inl ⟨stop,by rw [r'.length]; exact hl,fun p hp=>?_⟩;exact q L' _ _ ((s1.trans s').trans (.upd hp)) (c'.upd hp) (zl.newLst (s1.trans s') c c' hp r')
    ·cases e'
  ·cases hf
 ·cases hf
section
variable {X:Cx} {scope:Scope} {elt t1 i1 t2 i2:Expr} {f1 f2:List Expr} {pos:Pos}
structure QParts2 (X:Cx) (scope:Scope) (t1:Expr) (f1:List Expr) (t2 i2:Expr) (f2:List Expr) (elt:Expr) (g:TG) (tc:FT) (fi2:FI) (g2:TG) (tc2:FT) (te:FE):Prop where
 g:∀ zB cl s H fp,PG (zS X zB scope cl s H fp) t1 g
 c:∀ zB cl s H fp,QIfs (zS X zB scope cl s H fp) f1 tc
 w2:∀ zB cl s H fp,QI (zS X zB scope cl s H fp) t2 i2 fi2
 g2:∀ zB cl s H fp,PG (zS X zB scope cl s H fp) t2 g2
 c2:∀ zB cl s H fp,QIfs (zS X zB scope cl s H fp) f2 tc2
 e:∀ zB cl s H fp,QE (zS X zB scope cl s H fp) elt te
 s2:∀ zB cl s H fp x,foldedSetIterable i2 (zS X zB scope cl s H fp).env x = pure x
theorem zSz {own own2:List Nat} {fi fi2:FI} {g g2:TG} {fg fg2:FG} {tc tc2:FT} {te:FE} (hsub:∀ i ∈ own2,i ∈ own) (hg:zFi own g fg) (hg2:zFi own2 g2 fg2) (C:CompIn X scope own) (hcalm:X.calm = true) (hi:QI X t1 i1 fi) (p:QParts2 X scope t1 f1 t2 i2 f2 elt g tc fi2 g2 tc2 te) (hs:∀ x,foldedSetIterable i1 X.env x = pure x:=by intro _; rfl) :
  QE X (zBw elt t1 i1 f1 t2 i2 f2 scope pos) (zGe own own2 fi fg tc fi2 fg2 tc2 te) :=
 .mk <| PE.imp (zRQ hsub C hcalm hi.un ⟨p.g,fun zB cl s H fp=>(p.c zB cl s H fp).un,fun zB cl s H fp=>(p.w2 zB cl s H fp).un,p.g2,fun zB cl s H fp=>(p.c2 zB cl s H fp).un,fun zB cl s H fp=>(zI (p.e zB cl s H fp)).un,p.s2⟩ hs) fun _ _ _ h=>zNI hg hg2 h
end
end L3
namespace L2
open PySem PySem.Spec PyProof.Rows
section
variable {X:Cx} {scope:Scope} {tg kx vx iter:Expr} {ifs:List Expr} {pos:Pos} {own:List Nat} {isT:Bool} {wi:TI} {g:TG} {tc:TT} {tk tv:TE}
theorem zHz (hN:X.N.Nodup) (hi':X.N[i]? = some x) (hx:Loc X.env.scope x) (hfn:X.fn x = true \/ X.env.scope.names.lookup x = some .local)
  (hsw:swapsWith (.DictComp kx vx [⟨tg,iter,ifs,0⟩] scope pos) (some (.Name x pos')) pos''.line X.env = pure true)
  (hu:X.A.units + 1 < cLine) (C:CompIn X scope own) (hcalm:X.calm = true) (hi:PI X tg iter wi) (p:CompParts X scope tg ifs kx g tc tk) (p2:∀ zB cl s H fp,PE (zS X zB scope cl s H fp) vx tv) (hs:∀ x,foldedSetIterable iter X.env x = pure x:=by intro _; rfl) :
  PS X (.Assign [.Name x pos'] (.DictComp kx vx [⟨tg,iter,ifs,0⟩] scope pos) pos'') (zPt (zGl isT own wi g tc tk tv) (zCI i)):=by
 intro zB s σ H D I h;obtain ⟨cl,hcl,c1,c2⟩:=C.sc.closure I;rw [exec_Assign_Name_used _ _ _ _ hsw];refine zWC (zXA (zWC ?_));show wpAny _ X.A (do let _ <- comprehension (.DictComp kx vx [⟨tg,iter,ifs,0⟩] scope pos) scope X.env _ newDict false (eval iter X.env) (some (assign (.Name x pos') X.env))) _ _ s
 refine zWC (zWi (zX6 (use:=some (assign (.Name x pos') X.env)) (Q:=fun _ s'=>SP X zB D .next s') rfl hs hcl C.sc.kind C.sc.names
  (thn (hi zB s σ H _ I h) fun v s1 h1=>thn h1 fun itv s2 h2=>?_)) (fun _ s' hq=>zWE (zWE hq)) fun _ _ e=>e)
 obtain ⟨it,fp,tn,J,H2,e,I2,T,st2,f2,hD⟩:=h2;subst e;obtain ⟨W,⟨m0,w0⟩,turn⟩:=hD s2.heap.objs.size (I2.hok.fresh (zWI _))
 refine zEc hu C hcalm I2 T st2 f2 c1 c2 (p.g _ _ _ _ _) (p.c _ _ _ _ _) (p.e _ _ _ _ _) (p2 _ _ _ _ _) (RR:=fun acc C r s'=>compPost (model X.prog X.w) X.A X.xe (some (assign (.Name x pos') X.env)) (fun _ s'=>SP X zB D .next s') acc C r s')
  (QQ:=fun H=>zCI i (.ref s2.heap.objs.size) σ H D.nx) w0 turn ?_
 intro σc H' s' Ic qq;obtain ⟨m,hn,_⟩:=Ic.loc;have J':=zFe (h':=s'.heap) I2 f2 Ic (.refl ..);obtain ⟨oC,es,ep,hoC,hdC,r1,r2⟩:=id hn;have nC:H' (s2.heap.objs.size + 1) = none:=Ic.free;have K':Inv X (zB ++ [(s2.heap.objs.size + 1,oC)]) σ H' s':=J'.pins_of fun q hq=>by
  rcases zWc.mp hq with z | z
  ·exact J'.pin q (zWW _ z)
  ·have e:q = (s2.heap.objs.size + 1,oC):=by simpa using z
   subst e;refine ⟨hoC,nC,zXh (zW1 I2.lt),I2.nofs (zXu _),fun v z=>?_⟩;have z':oC.data = .cell v:=z;rw [hdC] at z'; cases z'
 show wpAny _ X.A (assign (.Name x pos') X.env (.ref s2.heap.objs.size)) _ _ _;refine thn (zJr hN hi' hx hfn _ s' σ _ (.ref s2.heap.objs.size) (.ref s2.heap.objs.size) _ K' rfl qq) fun _ s'' ⟨σ'',H'',I'',q''⟩=>?_;obtain ⟨eC,_⟩:=I''.pin (s2.heap.objs.size + 1,oC) (by simp);refine ⟨m,⟨oC,es,ep,eC,hdC,r1,r2⟩,fun h' hs'=>⟨σ'',H'',?_,q''⟩⟩;have I3:Inv X zB σ'' H'' s'':=I''.unpinned;obtain ⟨_,nC'',neC,_,_⟩:=I''.pin (s2.heap.objs.size + 1,oC) (by simp);refine I3.turned (t':=s''.toks) (it:=s2.heap.objs.size + 1) (fun b o hb e=>hs'.extBut b o hb e) nC'' neC (.inr (zWd I2.sz (zXu _))) (fun x c e z=>?_) (fun q hq z=>?_)
 ·obtain ⟨v,o,ho,hd⟩:=I3.cell x c e;rw [z,eC] at ho; cases ho;rw [hdC] at hd; cases hd
 ·obtain ⟨e,_⟩:=I2.pin q hq;exact zWX (zW1 (zWN e)) z
end
end L2
namespace L3
open PySem PySem.Spec PyProof.Rows L2
section
variable {X:Cx} {scope:Scope} {tg kx vx iter:Expr} {ifs:List Expr} {pos:Pos} {own:List Nat} {isT:Bool}
theorem zM4 (hN:X.N.Nodup) (hi':X.N[i]? = some x) (hx:Loc X.env.scope x) (hfn:X.fn x = true \/ X.env.scope.names.lookup x = some .local)
  (hsw:swapsWith (.DictComp kx vx [⟨tg,iter,ifs,0⟩] scope pos) (some (.Name x pos')) pos''.line X.env = pure true)
  (hu:X.A.units + 1 < cLine) (hg:zFi own g fg) (C:CompIn X scope own) (hcalm:X.calm = true) (hi:QI X tg iter fi) (p:QParts X scope tg ifs kx g tc tk) (p2:∀ zB cl s H fp,QE (zS X zB scope cl s H fp) vx tv) (hs:∀ x,foldedSetIterable iter X.env x = pure x:=by intro _; rfl) :
  QS X (.Assign [.Name x pos'] (.DictComp kx vx [⟨tg,iter,ifs,0⟩] scope pos) pos'') (zAC i (zDg isT own fi fg tc tk tv)) :=
 .mk <| PS.imp (zHz (isT:=isT) hN hi' hx hfn hsw hu C hcalm hi.un p.parts (fun _ _ _ _ _=>(zI (p2 _ _ _ _ _)).un) hs) fun _ _ _ z=>zHm (fun _ _ _ z=>zHf hg z) z
end
end L3
namespace L2
open PySem PySem.Spec PyProof.Rows
end L2
namespace L3
open PySem PySem.Spec PyProof.Rows L2
open SeqAt
def zGd (A:Around) (s:Shared) (x y:Value) (b:Bool):Prop:=∀ (prog:Program) (w:World) (E Q:Value -> Shared -> Prop),Q (.bool b) s -> wpAny (model prog w) A (richCompare .Lt x y) Q E s
theorem zGd.ints (i:Int) (t:Tok) (j:Int) (u:Tok):zGd A s (.int i t) (.int j u) (decide (i < j)):=fun prog w E Q q=>
 richCompare_gives (op:=.Lt) (typeIs_int s i t) (typeIs_int s j u) F.slot_int_lt F.entry_int_lt (F.args_int_lt_2 _ _) (gives_int_lt i j t u) (fun x=>nomatch x) q
def zEk (e l:Nat -> Bool) (sz:Bool):Nat -> Nat -> Bool
 | 0,_=>sz
 | m + 1,k=>if e k then zEk e l sz m (k + 1) else l k
theorem zMJ (a b:Addr) (xs ys:Array Value) (n1 n2:Nat) (d1 d2:Option Addr) (s1 s2:Array (Option Value)) (e l:Nat -> Bool) :
  Meets (Builtin.«tuple.__lt__» ⟨[.ref a,.ref b],[]⟩)
   (fun A R s=>s.heap.get? a = some { cls:=.type "tuple", dict:=d1,data:=.seq xs n1,slots:=s1 } /\ s.heap.get? b = some { cls:=.type "tuple", dict:=d2,data:=.seq ys n2,slots:=s2 } /\
    (∀ j (h1:j < xs.size) (h2:j < ys.size),EqAt A.in1 s xs[j] ys[j] (e j)) /\ (∀ j (h1:j < xs.size) (h2:j < ys.size),e j = false -> zGd A.in1 s xs[j] ys[j] (l j)) /\
    R (.ok (.ret (.bool (zEk e l (decide (xs.size < ys.size)) (min xs.size ys.size) 0)))) s) :=
 .of_wp fun prog w A R s h=>by
  obtain ⟨hp,g,d,tk,os⟩:=s; obtain ⟨ha,hb,he,hl,q⟩:=h;have f2:=AutoSeq1.sub_tuple_tuple;have hZ:(xs.toList.zip ys.toList).length = min xs.size ys.size:=by simp
  wp_walk using wpAny_loadPart' ha,wpAny_loadPart' hb,wpAny_forIn_list _ (fun rest c s'=>c.1 = none /\ s' = ⟨hp,g,d,tk,os⟩ /\ ∃ i,i <= min xs.size ys.size /\ rest = (xs.toList.zip ys.toList).drop i /\
   R (.ok (.ret (.bool (zEk e l (decide (xs.size < ys.size)) (min xs.size ys.size - i) i)))) ⟨hp,g,d,tk,os⟩) _
  case turn=>
   rintro ⟨y,x⟩ rest c s' ⟨hc,rfl,i,hi,hz,q⟩;have hlt:i < (xs.toList.zip ys.toList).length:=by
    rcases zXY i (xs.toList.zip ys.toList).length with z | z
    ·exact z
    ·rw [List.drop_of_length_le z] at hz; cases hz
   have hm:i < min xs.size ys.size:=hZ ▸ hlt;have i1:i < xs.size:=by omega
   have i2:i < ys.size:=by omega
   rw [List.drop_eq_getElem_cons hlt] at hz;injection hz with hyx hrest
   have hy:y = xs[i]:=by have:=zXz Prod.fst hyx; simpa using this
   have hx:x = ys[i]:=by have:=zXz Prod.snd hyx; simpa using this
   subst hy hx;rw [show min xs.size ys.size - i = (min xs.size ys.size - (i + 1)) + 1 by omega,zEk] at q;refine zWC (he i i1 i2 prog w _ _ ?_);cases hq:e i with
   | true=>
    rw [hq,zWR rfl] at q;wp_walk;exact ⟨rfl,rfl,i + 1,by omega,hrest,q⟩
   | false=>
    rw [hq,zWU (by decide)] at q;refine wpAny_ite_split (fun _=>?_) (fun z=>absurd rfl z);show wpAny _ _ (rule _ >>= fun _=>richCompare .Lt xs[i] ys[i] >>= _) _ _ _;refine zWC (wpAny_rule (zWC (hl i i1 i2 hq prog w _ _ ?_)));wp_walk;exact ⟨_,rfl,q⟩
  case fin=>
   rintro ⟨c1,c2⟩ s' ⟨hc,rfl,i,hi,hz,q⟩;simp only at hc;subst hc;have hge:min xs.size ys.size <= i:=by
    rcases zXY i (xs.toList.zip ys.toList).length with z | z
    ·rw [List.drop_eq_getElem_cons z] at hz; cases hz
    ·exact hZ ▸ z
   rw [show min xs.size ys.size - i = 0 by omega,zEk] at q;wp_walk;exact ⟨_,rfl,by simpa [Builtin.Tuple.tupleCompareSizes] using q⟩
  case h=>
   exact ⟨rfl,rfl,0,by omega,rfl,q⟩
theorem zGd.tuples (ha:s.heap.IsTuple a xs) (hb:s.heap.IsTuple b ys) (hu:A.units < cLine)
  (he:∀ j (h1:j < xs.size) (h2:j < ys.size),EqAt A.in1 s xs[j] ys[j] (e j)) (hl:∀ j (h1:j < xs.size) (h2:j < ys.size),e j = false -> zGd A.in1 s xs[j] ys[j] (l j)) :
  zGd A s (.ref a) (.ref b) (zEk e l (decide (xs.size < ys.size)) (min xs.size ys.size) 0):=fun prog w E Q q=>by
 obtain ⟨⟨c1,d1,t1,s1⟩,o1,rfl,n1,rfl⟩:=id ha;obtain ⟨⟨c2,d2,t2,s2⟩,o2,rfl,n2,rfl⟩:=id hb;exact richCompare_meets_room (op:=.Lt) ⟨_,o1,rfl⟩ ⟨_,o2,rfl⟩ F.slot_tuple_lt F.entry_tuple_lt (F.args_tuple_lt_2 _ _) (zMJ a b xs ys n1 n2 d1 d2 s1 s2 e l) ⟨o1,o2,he,hl,(fun x=>nomatch x),q⟩ hu
section
variable {prog:Program} {w:World} {A:Around} {R:Result -> Shared -> Prop} {J:Addr} {fp wr:List Addr} {n:Nat} {P:Nat -> Value -> Prop} {St:Nat -> Heap -> Prop}
abbrev zI2 (s0:Shared) (h:Heap):Prop:=∀ b o,s0.heap.get? b = some o -> h.get? b = some o
def zTU (prog:Program) (w:World) (A:Around) (s0:Shared) (P:Nat -> Value -> Prop) (bt:Nat -> Nat -> Bool):Prop :=
 ∀ i j x y h t (Q E:Value -> Shared -> Prop),zI2 s0 h -> P i x -> P j y -> Q (.bool (bt i j)) { s0 with heap:=h,toks:=t } -> wpAny (model prog w) A (richCompare .Lt x y) Q E { s0 with heap:=h,toks:=t }
theorem zGU:(toString "min" ++ toString ".loop" : String) = "min.loop" := by decide
theorem zQv (W:Walks prog w A.in1 J fp wr n P St) (bt:Nat -> Nat -> Bool) (cmp:zTU prog w A.in1 s0 P bt) (S:Addr) (sf:S ∉ fp) (new:∀ b o,s0.heap.get? b = some o -> b ∉ wr /\ b ≠ S) :
  ∀ (k j:Nat) (h:Heap) (t:Nat) (best:Value) (c:Nat),n - (j + 1) = k -> j + 1 <= n -> St (j + 1) h -> P (argBest bt j) best -> zI2 s0 h ->
  h.get? S = some { cls:=.type "list", dict:=none,data:=.seq #[best,best] c,slots:=#[] } ->
  (∀ v h' t',P (argBest bt (n - 1)) v -> zI2 s0 h' -> R (.ok (.ret v)) { s0 with heap:=h',toks:=t' }) ->
  codeAny (model prog w) A (.builtin "min.loop" ⟨[.ref J,.none,.ref S],[]⟩) R { s0 with heap:=h,toks:=t }:=by
 have sw:S ∉ wr:=fun z=>sf (W.sub _ z);intro k;induction k with
 | zero=>
  intro j h t best c hk hj st pb ko hS q;have e:j + 1 = n:=by omega
  refine zXH F.entry_min_loop ?_;rw [zW7 F.plain_min_loop _];show wpAny _ A.in1 (seqItems? (.ref S) >>= _) _ _ { s0 with heap:=h,toks:=t };refine zWC (wpAny_seqItems (s:={ s0 with heap:=h,toks:=t }) hS rfl ?_);show wpAny _ A.in1 (tryCatch (pyNext (.ref J)) _ >>= _) _ _ _;refine zWC (wpAny_tryCatch (W.done { s0 with heap:=h,toks:=t } _ _ (e ▸ st) fun h1 t1 k1=>?_));have hS1:=k1 S _ sw hS;show wpAny _ A.in1 (updateSeq S (fun _=> #[]) >>= _) _ _ _;refine zWC ?_;refine wpAny_updateSeq hS1 rfl (zWC (wpAny_letGo (zWE ?_)));exact q best _ t1 (by rw [<- e]; exact pb) fun b o eo=>(zWt _ _ (Ne.symm (new b o eo).2)).trans (k1 b o (new b o eo).1 (ko b o eo))
 | succ k ih=>
  intro j h t best c hk hj st pb ko hS q;have lt:j + 1 < n:=by omega
  refine zXH F.entry_min_loop ?_;rw [zW7 F.plain_min_loop _];show wpAny _ A.in1 (seqItems? (.ref S) >>= _) _ _ { s0 with heap:=h,toks:=t };refine zWC (wpAny_seqItems (s:={ s0 with heap:=h,toks:=t }) hS rfl ?_);show wpAny _ A.in1 (tryCatch (pyNext (.ref J)) _ >>= _) _ _ _;refine zWC (wpAny_tryCatch (W.item (j + 1) { s0 with heap:=h,toks:=t } _ _ lt st fun v h1 t1 pv st1 k1=>?_));have hS1:=k1 S _ sw hS;have ko1:zI2 s0 h1:=fun b o eo=>k1 b o (new b o eo).1 (ko b o eo);show wpAny _ A.in1 (tryCatch (holding [v,v] (richCompare .Lt v best >>= _)) _ >>= _) _ _ { s0 with heap:=h1,toks:=t1 };refine zWC (wpAny_tryCatch (zW5 (zWC (cmp (j + 1) (argBest bt j) v best h1 t1 _ _ ko1 pv pb ?_))));refine zWC (zW5 (zXO ?_));refine zWC (wpAny_letGo (zWE ?_));cases hb:bt (j + 1) (argBest bt j) with
  | true=>
   simp only [if_true];refine zWC ?_;refine wpAny_updateSeq (s:={ s0 with heap:=h1,toks:=t1 }) hS1 rfl (zWC (wpAny_letGo ?_));rw [zGU];refine zWE ⟨plainId_quiet F.plain_min_loop _,ih (j + 1) _ t1 v _ (by omega) lt (W.frame _ _ _ st1 fun b hbf o e=>(zWt _ _ (fun z:S = b=>sf (by rw [z]; exact hbf))).trans e) (by simp only [argBest,hb,if_true]; exact pv) (fun b o eo=>(zWt _ _ (Ne.symm (new b o eo).2)).trans (ko1 b o eo)) (zWz _ hS1 rfl) q⟩
  | false=>
   simp only [zXD,if_false];refine zWC (wpAny_letGo ?_);rw [zGU];exact zWE ⟨plainId_quiet F.plain_min_loop _,ih (j + 1) h1 t1 best c (by omega) lt st1 (by simp only [argBest,hb,zXD,if_false]; exact pb) ko1 hS1 q⟩
end
section
variable {prog:Program} {w:World} {A:Around} {E:Value -> Shared -> Prop} {s:Shared}
theorem zLn
  (h:wpAny (model prog w) A.in1 (pyIter x) (fun it s2=>∃ J fp wr n P St bt h2,it = .ref J /\ s2 = { s with heap:=h2 } /\ Walks prog w A.in1 J fp wr n P St /\ St 0 h2 /\ zI2 s h2 /\ (∀ b o,s.heap.get? b = some o -> b ∉ wr) /\ (∀ b ∈ fp,b < h2.objs.size) /\ 0 < n /\ zTU prog w A.in1 s P bt /\
   ∀ v h' tk,P (argBest bt (n - 1)) v -> zI2 s h' -> Q v { s with heap:=h',toks:=tk }) E s) :
  wpAny (model prog w) A (call (.builtin "min") [x]) Q E s:=by
 refine call_function_tree F.kind_min F.plain_min F.entry_min (F.args_min1 _) ?_;show wpAny _ A.in1 (Builtin.Builtins.bindParams "min" ["key", "default"] 0 ⟨[],[]⟩ >>= _) _ _ s;refine zWC (wpAny_of_eq (show Builtin.Builtins.bindParams "min" ["key", "default"] 0 ⟨[],[]⟩ = pure [none,none] from rfl) ?_);refine zWC (zWE ?_);refine zWC (zWi h (fun it s2 g=>?_) fun _ _ e=>e);obtain ⟨J,fp,wr,n,P,St,bt,h2,rfl,rfl,W,st,ko,nw,hfp,n0,cmp,q⟩:=g;refine zWC (zWf ?_);have sf:h2.objs.size ∉ fp:=fun hm=>zWu _ (hfp _ hm);have sw:h2.objs.size ∉ wr:=fun z=>sf (W.sub _ z);rw [zGU];generalize hH:h2.push { cls:=.type "list", data:=.seq ([]:List Value).toArray } = H;have kH:∀ b u,h2.get? b = some u -> H.get? b = some u:=fun b u e=>by rw [<- hH]; exact zWD _ e
 have hS:H.get? h2.objs.size = some { cls:=.type "list", data:=.seq ([]:List Value).toArray }:=by rw [<- hH]; exact zWM _ rfl
 refine zWE ⟨plainId_quiet F.plain_min_loop _,?_⟩;refine zXH F.entry_min_loop ?_;rw [zW7 F.plain_min_loop _];show wpAny _ A.in1 (seqItems? (.ref h2.objs.size) >>= _) _ _ { s with heap:=H };refine zWC (wpAny_seqItems (s:={ s with heap:=H }) hS rfl ?_);show wpAny _ A.in1 (tryCatch (pyNext (.ref J)) _ >>= _) _ _ _;have st':St 0 H:=W.frame _ _ _ st fun b _ o e=>kH b o e;refine zWC (wpAny_tryCatch (W.item 0 { s with heap:=H } _ _ n0 st' fun v h1 t1 pv st1 k1=>?_));have hS1:=k1 _ _ sw hS;show wpAny _ A.in1 (updateSeq h2.objs.size (fun _=> #[v,v]) >>= _) _ _ { s with heap:=h1,toks:=t1 };refine zWC ?_;refine wpAny_updateSeq (s:={ s with heap:=h1,toks:=t1 }) hS1 rfl ?_;rw [zGU];have nS:∀ b o,s.heap.get? b = some o -> b ≠ h2.objs.size:=fun b o e=>zWX (zWN (ko b o e));refine zWE ⟨plainId_quiet F.plain_min_loop _,zQv (s0:=s) W bt cmp h2.objs.size sf (fun b o e=>⟨nw b o e,nS b o e⟩) _ 0 _ t1 v _ rfl n0 (W.frame _ _ _ st1 fun b hbf o e=>(zWt _ _ (fun z:h2.objs.size = b=>sf (by rw [z]; exact hbf))).trans e) pv (fun b o e=>(zWt _ _ (Ne.symm (nS b o e))).trans (k1 b o (nw b o e) (kH b o (ko b o e)))) (zWz _ hS1 rfl) q⟩
end
abbrev NP:=Int × Int × Int
def npD (t:NP):D:=.tup [.int t.1,.tup [.int t.2.1,.int t.2.2]]
def zUV:D -> Option NP
 | .tup [.int k,.tup [.int a,.int b]]=>some (k,a,b)
 | _=>none
theorem zRd (h:zUV d = some t):d = npD t:=by
 unfold zUV at h;split at h
 ·cases h; rfl
 ·cases h
def zI0:List D -> Option (List NP)
 | []=>some []
 | d :: r=>match zUV d,zI0 r with
  | some t,some ts=>some (t :: ts)
  | _,_=>none
theorem zLr:∀ {ds:List D} {ts:List NP},zI0 ds = some ts -> ds = ts.map npD
 | [],ts,h=>by cases h; rfl
 | d :: r,ts,h=>by
  unfold zI0 at h;split at h
  ·rename_i t ts' e1 e2;cases h;rw [zWV,zRd e1,zLr e2]
  ·cases h
theorem zGw:∀ ts:List NP,zI0 (ts.map npD) = some ts
 | []=>rfl
 | t :: r=>by rw [zWV,zI0,zGw r]; rfl
def ltP (x y:NP):Bool:=decide (x.1 < y.1 \/ (x.1 = y.1 /\ (x.2.1 < y.2.1 \/ (x.2.1 = y.2.1 /\ x.2.2 < y.2.2))))
section
variable {X:Cx} {zB:List (Addr × Obj)} {σ:L2.St} {H:Hp} {s:Shared} {L:List Addr}
theorem zNU (r:zW L H [x,y] vs):∃ v1 v2,vs = [v1,v2] /\ Rep L H x v1 /\ Rep L H y v2:=r.two
theorem zKq (r:zm [v1,v2] its):∃ u1 u2,its = [u1,u2] /\ zw v1 u1 /\ zw v2 u2:=by
 have hl:=r.length;obtain ⟨u1,e1,r1⟩:=r.get (i:=0) rfl;obtain ⟨u2,e2,r2⟩:=r.get (i:=1) rfl;match its,hl,e1,e2 with
 | [a,b],_,e1,e2=>cases e1; cases e2; exact ⟨_,_,rfl,r1,r2⟩
 | [],hl,_,_=>cases hl
 | [_],hl,_,_=>cases hl
 | _ :: _ :: _ :: _,hl,_,_=>simp at hl
theorem zOr (I:Inv X zB σ H s) (hu:A.units + 1 < cLine) (rx:Rep L H (.tup [.int a,.int b]) v) (ry:Rep L H (.tup [.int c,.int d]) w) (ru:zw v u) (ru':zw w u'):zGd A s u u' (decide (a < c \/ (a = c /\ b < d))):=by
 unfold Rep at rx ry;obtain ⟨p,vs,rfl,e,r⟩:=rx;obtain ⟨q,ws,rfl,e2,r2⟩:=ry;cases ru;cases ru';obtain ⟨v1,v2,rfl,t1,t2⟩:=zNU r;obtain ⟨w1,w2,rfl,t3,t4⟩:=zNU r2;unfold Rep at t1 t2 t3 t4;subst t1; subst t2; subst t3; subst t4;obtain ⟨its,rv,p1,_⟩:=I.tuple (.of e);obtain ⟨its2,rv2,p2,_⟩:=I.tuple (.of e2);obtain ⟨u1,u2,rfl,⟨k1,rfl⟩,⟨k2,rfl⟩⟩:=zKq rv;obtain ⟨u3,u4,rfl,⟨k3,rfl⟩,⟨k4,rfl⟩⟩:=zKq rv2;have key:=zGd.tuples (A:=A) (s:=s) (e:=fun j=>if j = 0 then a == c else b == d) (l:=fun j=>if j = 0 then decide (a < c) else decide (b < d)) p1 p2 (by omega) (fun j h1 h2=>by
  match j,h1,h2 with
  | 0,_,_=>exact EqAt.int_int a k1 c k3
  | 1,_,_=>exact EqAt.int_int b k2 d k4
  | j + 2,h1,_=>simp at h1; omega) (fun j h1 h2 _=>by
  match j,h1,h2 with
  | 0,_,_=>exact zGd.ints a k1 c k3
  | 1,_,_=>exact zGd.ints b k2 d k4
  | j + 2,h1,_=>simp at h1; omega)
 have ev:zEk (fun j=>if j = 0 then a == c else b == d) (fun j=>if j = 0 then decide (a < c) else decide (b < d)) (decide (2 < 2)) (min 2 2) 0 = decide (a < c \/ (a = c /\ b < d)):=by
  show (if (a == c) = true then (if (b == d) = true then false else decide (b < d)) else decide (a < c)) = _;by_cases h1:a = c
  ·subst h1;rw [zWR (by simp)];by_cases h2:b = d
   ·subst h2; rw [zWR (by simp)]; simp
   ·rw [zWU (by simpa using h2)]; simp
  ·rw [zWU (by simpa using h1)];exact decide_eq_decide.mpr ⟨.inl,fun h=>h.elim id fun z=>absurd z.1 h1⟩
 rw [<- ev]; exact key
theorem zS7 (I:Inv X zB σ H s) (hu:A.units + 2 < cLine) (rx:Rep L H (npD x) v) (ry:Rep L H (npD y) w) (ru:zw v u) (ru':zw w u'):zGd A s u u' (ltP x y):=by
 obtain ⟨k,a,b⟩:=x;obtain ⟨k',c,d⟩:=y;unfold npD Rep at rx ry;obtain ⟨p,vs,rfl,e,r⟩:=rx;obtain ⟨q,ws,rfl,e2,r2⟩:=ry;cases ru;cases ru';obtain ⟨v1,v2,rfl,t1,t2⟩:=zNU r;obtain ⟨w1,w2,rfl,t3,t4⟩:=zNU r2;unfold Rep at t1 t3;subst t1; subst t3;obtain ⟨its,rv,p1,_⟩:=I.tuple (.of e);obtain ⟨its2,rv2,p2,_⟩:=I.tuple (.of e2);obtain ⟨u1,u2,rfl,⟨k1,rfl⟩,z2⟩:=zKq rv;obtain ⟨u3,u4,rfl,⟨k3,rfl⟩,z4⟩:=zKq rv2;have hu1:A.in1.units + 1 < cLine:=by show A.units + 1 + 1 < cLine; omega
 have he:=zI9 I 1 A.in1 (.tup [.int a,.int b]) (.tup [.int c,.int d]) v2 w2 u2 u4 hu1 rfl rfl t2 t4 z2 z4;have hl:=zOr I hu1 t2 t4 z2 z4;have key:=zGd.tuples (A:=A) (s:=s) (e:=fun j=>if j = 0 then k == k' else zBe 1 (.tup [.int a,.int b]) (.tup [.int c,.int d])) (l:=fun j=>if j = 0 then decide (k < k') else decide (a < c \/ (a = c /\ b < d))) p1 p2 (by omega) (fun j h1 h2=>by
  match j,h1,h2 with
  | 0,_,_=>exact EqAt.int_int k k1 k' k3
  | 1,_,_=>exact he
  | j + 2,h1,_=>simp at h1; omega) (fun j h1 h2 _=>by
  match j,h1,h2 with
  | 0,_,_=>exact zGd.ints k k1 k' k3
  | 1,_,_=>exact hl
  | j + 2,h1,_=>simp at h1; omega)
 have ev:zEk (fun j=>if j = 0 then k == k' else zBe 1 (.tup [.int a,.int b]) (.tup [.int c,.int d])) (fun j=>if j = 0 then decide (k < k') else decide (a < c \/ (a = c /\ b < d))) (decide (2 < 2)) (min 2 2) 0 = ltP (k,a,b) (k',c,d):=by
  show (if (k == k') = true then (if zBe 1 (.tup [.int a,.int b]) (.tup [.int c,.int d]) = true then false else decide (a < c \/ (a = c /\ b < d))) else decide (k < k')) = _;unfold ltP;have he2:zBe 1 (.tup [.int a,.int b]) (.tup [.int c,.int d]) = decide (a = c /\ b = d):=by
   simp [zBe]
  rw [he2];by_cases h1:k = k'
  ·subst h1;rw [zWR (by simp)];by_cases h2:a = c /\ b = d
   ·obtain ⟨rfl,rfl⟩:=h2;simp
   ·rw [zWU (by simpa using h2)];exact decide_eq_decide.mpr (by dsimp only; constructor <;> intro h <;> omega)
  ·rw [zWU (by simpa using h1)];exact decide_eq_decide.mpr (by dsimp only; constructor <;> intro h <;> omega)
 rw [<- ev]; exact key
end
def zBj:NP -> List NP -> NP
 | m,[]=>m
 | m,x :: r=>zBj (if ltP x m then x else m) r
theorem zQL (ts:List NP) (d:NP):∀ k,k < ts.length -> ts.getD (argBest (fun i j=>ltP (ts.getD i d) (ts.getD j d)) k) d = zBj (ts.getD 0 d) ((ts.drop 1).take k) /\ argBest (fun i j=>ltP (ts.getD i d) (ts.getD j d)) k <= k:=by
 intro k;have snoc:∀ (r:List NP) (m x:NP),zBj m (r ++ [x]) = if ltP x (zBj m r) then x else zBj m r:=by
  intro r;induction r with
  | nil=>intro m x; rfl
  | cons y r ih=>intro m x; show zBj (if ltP y m then y else m) (r ++ [x]) = _; rw [ih]; rfl
 induction k with
 | zero=>intro _; exact ⟨by simp [argBest,zBj],zWI _⟩
 | succ k ih=>
  intro hk;obtain ⟨h1,h2⟩:=ih (by omega);have ht:(ts.drop 1).take (k + 1) = (ts.drop 1).take k ++ [ts.getD (k + 1) d]:=by
   have hlt:k < (ts.drop 1).length:=by rw [zYf]; omega
   rw [List.take_succ_eq_append_getElem hlt,List.getElem_drop,zWH,zWG (by omega)];simp [Nat.add_comm]
  have ha:argBest (fun i j=>ltP (ts.getD i d) (ts.getD j d)) (k + 1) = if ltP (ts.getD (k + 1) d) (ts.getD (argBest (fun i j=>ltP (ts.getD i d) (ts.getD j d)) k) d) then k + 1 else argBest (fun i j=>ltP (ts.getD i d) (ts.getD j d)) k:=rfl
  rw [ht,snoc,<- h1,ha];by_cases hb:ltP (ts.getD (k + 1) d) (ts.getD (argBest (fun i j=>ltP (ts.getD i d) (ts.getD j d)) k) d) = true
  ·rw [zWR hb,zWR hb]; exact ⟨rfl,zWI _⟩
  ·rw [zWU hb,zWU hb]; exact ⟨rfl,by omega⟩
section
variable {X:Cx} {e:Expr} {pos p:Pos}
theorem zOu (hc:X.calm = true) (hu:X.A.units + 1 + 3 < cLine):zCb X (.builtin "min") (fun xs H Q=>∃ (b:Bool) (a:Addr) (L:List Addr) (vs:List V) (ts:List NP),xs = [.ref a] /\ SqG X.K b H a vs /\ zW L H (ts.map npD) vs /\ 0 < ts.length /\ ∀ (i:Nat) v,vs[i]? = some v -> ts[i]? = some (zBj (ts.getD 0 (0,0,0)) (ts.drop 1)) -> Q v H):=by
 intro zB s σ H xs us Q I r h;obtain ⟨b,a,L,vs,ts,rfl,hs,hr,n0,q⟩:=h;obtain ⟨u,rfl,ru⟩:=zEi r;cases ru;obtain ⟨its,rv,p1⟩:=zQs I hs;have hvl:vs.length = ts.length:=by have:=hr.length; simpa using this
 have hl:its.toArray.size = ts.length:=by have:=rv.length; simp at this ⊢; omega
 have hlt:=zVH p1;have hfp:∀ c ∈ [s.heap.objs.size,a],c < (s.heap.push (itO b a)).objs.size:=fun c hc'=>by
  rw [zWs];simp only [zWO,zWh,or_false] at hc';rcases hc' with rfl | rfl
  ·exact zW9 _
  ·exact zW1 hlt
 have st:SI b (s.heap.push (itO b a)) s.heap.objs.size a 0 /\ SO b (s.heap.push (itO b a)) a its.toArray:=⟨zS9 (zWM _ rfl),p1.keep fun o e=>zWD _ e⟩;have item:∀ (i:Nat) (x:Value),its.toArray[i]? = some x -> ∃ t v,ts[i]? = some t /\ vs[i]? = some v /\ Rep L H (npD t) v /\ zw v x:=fun i x hx=>by
  have hx':its[i]? = some x:=by simpa using hx
  have hi:i < ts.length:=by have:=(Array.getElem?_eq_some_iff.mp hx).1; omega
  obtain ⟨v,hv,rt⟩:=hr.get (i:=i) (by rw [zWZ,zWG hi]; rfl);obtain ⟨y,hy,ry⟩:=rv.get hv;rw [hx'] at hy; cases hy;exact ⟨ts[i],v,zWG hi,hv,rt,ry⟩
 have hub:X.A.in1.units + 2 < cLine:=by show X.A.units + 1 + 2 < cLine; omega
 refine zLn (zRU p1 ⟨s.heap.objs.size,[s.heap.objs.size,a],[s.heap.objs.size],its.toArray.size,fun i v=>its.toArray[i]? = some v,fun i h=>SI b h s.heap.objs.size a i /\ SO b h a its.toArray,fun i j=>ltP (ts.getD i (0,0,0)) (ts.getD j (0,0,0)),_,rfl,rfl,zMf (A:=X.A.in1) (I.ok.hd hc) b _ a (zWX hlt) its.toArray,st,fun c o e=>zWD _ e,fun c o e z=>absurd (zWN e) (by rw [zWe.mp z]; exact zWu _),hfp,by omega,?_,fun v h' tk hP hk=>?_⟩)
 ·intro i j x y h t Q' E' ko hx hy q';obtain ⟨t1,v1,ht1,_,r1,w1⟩:=item i x hx;obtain ⟨t2,v2,ht2,_,r2,w2⟩:=item j y hy;have:=zS7 (I.kept (t':=t) ko) hub r1 r2 w1 w2 X.prog X.w E' Q';refine this ?_;dsimp only at q';rw [zWH,zWH,ht1,ht2] at q';exact q'
 ·obtain ⟨t,v',ht,hv,rt,rx⟩:=item _ v hP;obtain ⟨h1,h2⟩:=zQL ts (0,0,0) (its.toArray.size - 1) (by omega);refine ⟨v',H,I.kept hk,rx,q _ v' hv ?_⟩;rw [ht];rw [zWH,ht] at h1;rw [List.take_of_length_le (by rw [zYf]; omega)] at h1;rw [<- h1]; rfl
def zDx:KB:=fun xs M=>match xs with
 | [x]=>match zAc M x with
  | some ds=>match zI0 ds with
   | some (t :: ts)=>some (.dat (npD (zBj t ts)),M)
   | _=>none
  | none=>none
 | _=>none
theorem zJI:∀ (r:List NP) (m:NP),zBj m r ∈ m :: r
 | [],m=>by simp [zBj]
 | x :: r,m=>by
  unfold zBj;have:=zJI r (if ltP x m then x else m);rcases zWO.mp this with h | h
  ·rw [h]; split <;> simp
  ·simp [h]
theorem zQE {K:PySem.W.Frag} {L:List Addr} {M:Mem} {H H0:Hp} {x:EV} {v:V} {xs:List D} (c:Cor K L M H) (r:zl H0 L H x v) (h:zAc M x = some xs):∃ b a vs,v = .ref a /\ SqG K b H a vs /\ zW L H xs vs:=by
 unfold zAc at h;cases t:zCm x with
 | some zs=>
  rw [t] at h; cases h;obtain ⟨a,ws,rfl,e2,r2⟩:=zBO r t;exact ⟨true,a,ws,rfl,.of e2,r2⟩
 | none=>
  rw [t] at h;obtain ⟨a,ws,rfl,e2,r2⟩:=zA8 c r h;exact ⟨false,a,ws,rfl,.inl e2,r2⟩
theorem zRY {K:PySem.W.Frag}:zGi K (fun xs H Q=>∃ (b:Bool) (a:Addr) (L:List Addr) (vs:List V) (ts:List NP),xs = [.ref a] /\ SqG K b H a vs /\ zW L H (ts.map npD) vs /\ 0 < ts.length /\ ∀ (i:Nat) v,vs[i]? = some v -> ts[i]? = some (zBj (ts.getD 0 (0,0,0)) (ts.drop 1)) -> Q v H) zDx:=by
 intro L M M' H H0 xs d vs Q c r hk q;unfold zDx at hk;split at hk
 ·rename_i x;split at hk
  ·rename_i ds e1;split at hk
   ·rename_i t ts e2;cases hk;obtain ⟨v,rfl,r1⟩:=r.one;obtain ⟨b,a,ws,rfl,hq,rr⟩:=zQE c r1 e1;have ed:=zLr e2;subst ed;refine ⟨b,a,L,ws,t :: ts,rfl,hq,rr,by simp,fun i v hv ht=>?_⟩;refine q L H _ (.refl L H) c ?_;obtain ⟨v',hv',rt⟩:=rr.get (show ((t :: ts).map npD)[i]? = some (npD (zBj t ts)) by rw [zWZ,ht]; rfl);rw [hv] at hv'; cases hv';exact rt
   ·cases hk
  ·cases hk
 ·cases hk
theorem zQ7 (hcalm:X.calm = true) (hu:X.A.units + 1 + 3 < cLine) (hg:Gl X "min") (hm:X.mg "min" = none) (ha:QAE X [e] fa) (he:starEach [e] X.env = (false,eval e X.env) :: starEach [] X.env:=by rfl) (hpl:(backTo pos (starEach [] X.env)).any (·.1) = false:=by rfl):QE X (.Call (.Name "min" p) [e] [] pos) (fB zDx fa) :=
 zED zRY (zOu hcalm hu) (by rfl) hg hm ha (by decide) (by decide) he hpl
end
structure Df (K:PySem.W.Frag) (mg:Str -> Option Value) (x:Str) (st:Stmt) (ps:List Str) where
 f:Addr
 fd:FuncData
 F:Fun K x x st f fd
 b:zHs K fd ps []
 m:mg x = some (.ref f)
structure Dg (K:PySem.W.Frag) (x:Str) (st:Stmt) where
 f:Addr
 {od an:Option Addr}
 {sl:Array (Option Value)}
 {oc kV dc pm cd ct:Value}
 a:PySem.W.nsIn K mainGlobals x = some (some (.ref f))
 l:K.lookup f = some ⟨oc,od,.func (PySem.W.fnOf x x (zFF st) (zDY st) (zN st) .none kV dc pm an cd ct),sl⟩
 c:PySem.W.codeIn K cd x = true
 k:PySem.W.keepIn K (.ref f) = true
abbrev Dg.df {K:PySem.W.Frag} {x:Str} {st:Stmt} {ps:List Str} {h:Heap} {mg:Str -> Option Value} (g:Dg K x st) (X:K.In h) (G:h.Ns mainGlobals mg)
  (hb:∀ (kV doc pm:Value) (an:Option Addr) (cdv ct:Value) (us:List Value),us.length = ps.length -> bindArgs (PySem.W.fnOf x x (zFF st) (zDY st) (zN st) .none kV doc pm an cdv ct) ⟨us,[]⟩ = pure (ps.zip us)):Df K mg x st ps :=
 ⟨g.f,_,zQ1 g.l g.c g.k,(zQ1 g.l g.c g.k).binds hb,PySem.W.mg_of X G g.a⟩
abbrev Od (P:Program) (w:World) (base:Heap) (k:Nat) {K:PySem.W.Frag} {mg:Str -> Option Value} {x:Str} {st:Stmt} {ps:List Str} (d:Df K mg x st ps) (m:FF):Prop:=FnOk P w K mg base CX0 k d.f d.fd ps (spF K ps.length m)
abbrev Zn (K:PySem.W.Frag) (x:Str):Prop:=PySem.W.nsIn K mainGlobals x = some none
abbrev Ki (K:PySem.W.Frag) (t T:String) (b:Bool):Prop:=PySem.W.kitOne K (.type t) (.type T) = some b
theorem zIo {P:List Value -> Prop} (h:∀ a,P [a]):∀ us:List Value,us.length = 1 -> P us
 | [a],_=>h a
theorem zKj {P:List Value -> Prop} (h:∀ a b,P [a,b]):∀ us:List Value,us.length = 2 -> P us
 | [a,b],_=>h a b
theorem zKG {P:List Value -> Prop} (h:∀ a b c,P [a,b,c]):∀ us:List Value,us.length = 3 -> P us
 | [a,b,c],_=>h a b c
theorem zVY {P:List Value -> Prop} (h:∀ a b c d,P [a,b,c,d]):∀ us:List Value,us.length = 4 -> P us
 | [a,b,c,d],_=>h a b c d
section
variable {X:Cx} {e:Expr} {es:List Expr} {pos p:Pos} {x:Str} {k:Nat} {st:Stmt} {ps:List Str}
theorem zAT {d:Df X.K X.mg x st ps} (F:FnOk X.prog X.w X.K X.mg X.base CX0 k d.f d.fd ps (spF X.K (e :: es).length g)) (hr:Room k X.A) (hg:Gl X x)
  (ha:QA X (e :: es) fa) (hl:∀ σ M ds M1,fa σ M = some (ds,M1) -> ds.length = (e :: es).length) (hdb:(x == ("__debug__" : Str)) = false) (he:starEach (e :: es) X.env = (false,eval e X.env) :: starEach es X.env) (hpl:(backTo pos (starEach es X.env)).any (·.1) = false) :
  QE X (.Call (.Name x p) (e :: es) [] pos) (za g fa):=zTb F hr hg d.m d.F.kp d.b ha hl hdb he hpl
theorem zAr (hN:X.N.Nodup) (hi:X.N[i]? = some x) (h:QE X e f) (hx:Loc X.env.scope x:=by first | exact Or.inl rfl | exact Or.inr rfl) (hs:swapsWith e (some (.Name x pos')) pos.line X.env = pure false:=by rfl)
  (hf:X.fn x = true \/ X.env.scope.names.lookup x = some .local:=by first | exact .inl rfl | exact .inr rfl | assumption):QS X (.Assign [.Name x pos'] e pos) (zAC i f):=zVM hN hi hx h hs hf
theorem zu (hN:X.N.Nodup) (hi:X.N[i]? = some x) (hx:Loc X.env.scope x:=by first | exact Or.inl rfl | exact Or.inr rfl) (hf:X.fn x = true \/ X.env.scope.names.lookup x = some .local:=by first | exact .inl rfl | exact .inr rfl | assumption):PG X (.Name x pos) (zCI i):=zJr hN hi hx hf
end
section
variable {prog:Program} {w:World} {A:Around} {E:Value -> Shared -> Prop} {s:Shared} {it d v:Addr} {i ep:Nat} {ok ov:Value} {o:Obj} {es:Array DictEntry}
theorem zO9 {Q:Value -> Shared -> Prop} (hv:s.heap.IsItemsView v d) (ho:s.heap.get? d = some o) (hdat:o.data = .dict es ep)
  (hQ:Q (.ref s.heap.objs.size) { s with heap:=s.heap.push { cls:=.type "dict_itemiterator", data:=.fields #[.none,.bool false,.ref d,.int 0 0,.int es.size 0,.int ep 0,.none,.none] } }):wpAny (model prog w) A (pyIter (.ref v)) Q E s:=by
 obtain ⟨q,hq,_,hd⟩:=id hv;refine wpAny_pyIter_slot hv.typeIs F.slot_dict_items_iter (zWp F.slot_dict_items_iter hv.typeIs F.entry_dict_items_iter ?_ (F.args_dict_items_iter_1 _));unfold Builtin.«dict_items.__iter__»;refine zWC (zWE (zWC ?_));unfold Builtin.Dict_items.dictOf;refine zWC (zWr hq hd (x:=.ref d) rfl (zWE (zWC ?_)));unfold Builtin.Dict_items.newIterator;refine zWC (wpAny_dictEntries ho hdat (zWC (wpAny_dictEpoch ho hdat ?_)));simp only [show Builtin.Dict_items.ownsTuple "dict_itemiterator" = true by decide,if_true];refine zWf (zWE ⟨_,rfl, "dict_itemiterator", _,⟨_,zWM _ rfl,rfl⟩,F.slot_dict_itemiterator_next.lookup,?_⟩) (by simp only [sizeOk,Builtin.Dict_items.ownedTupleFields,zWK,zWS,zWj,List.length_nil,sizeLine_eq]; omega);simpa [rawInt,Builtin.Dict_items.ownedTupleFields] using hQ
theorem zH7 {Q:Option Value -> Shared -> Prop} (hh:A.handled = none) (hit:IsItemIter s.heap it d i es.size ep ok ov) (hod:s.heap.get? d = some o) (hdd:o.data = .dict es ep) (hge:es.size <= i)
  (hQ:∀ h',Heap.ExtBut it s.heap h' -> Q none { s with heap:=h' }):wpAny (model prog w) A (pyNext (.ref it)) Q E s:=by
 have hT:s.TypeIs (.ref it) "dict_itemiterator" := ⟨_,hit,rfl⟩;unfold pyNext;refine zWC (wpAny_attempt (zWo (name:=Str.ofString "__next__") hT F.slot_dict_itemiterator_next (zWp F.slot_dict_itemiterator_next hT F.entry_dict_itemiterator_next ?_ (F.args_dict_itemiterator_next_1 _))));refine zWC (zWE (zWC (zWC ?_)));first | refine zWC (wpAny_typeNameOfWhole_itemiter hT (zWE ?_)) | refine zWC (wpAny_typeNameOf_itemiter hT (zWE ?_))
 refine zWC (wpAny_fieldsOf hit rfl ?_);simp only [show Builtin.Dict_items.ownsTuple "dict_itemiterator" = true by decide,if_true];show wpAny _ _ (if (Value.ref d == Value.none) = true then _ else _) _ _ s;rw [zWU (show ¬ ((Value.ref d == Value.none) = true) from zWY)];refine zWC (zWE (zWC (wpAny_dictEntries hod hdd ?_)));rw [zWU (by simp)];refine zWC (zWE (zWC (wpAny_dictEpoch hod hdd ?_)));rw [zWU (by simp)];refine zWE ?_;simp only [show ¬ ((i:Int) < 0) from by omega,if_false,Int.toNat_natCast,Array.getElem?_eq_none hge];refine zWC ?_;first | refine zWC (wpAny_typeNameOfWhole_itemiter hT (zWE ?_)) | refine zWC (wpAny_typeNameOf_itemiter hT (zWE ?_))
 show wpAny _ _ (setField (.ref it) 2 .none >>= _) _ _ s;refine zWC (zXx hit rfl (by simp) ?_);show wpAny _ _ (newExc (.type "StopIteration") [] >>= _) _ _ _;refine zWC ?_;simp only [newExc,newTuple];refine zWC (zWf ?_ (by size_fits));refine zWC (m:=firstArgMember _ _) (wpAny_of_eq (a:=Value.none) (by first | rfl | (simp only [firstArgMember]; rfl)) ?_);refine zWf ?_ (by size_fits);simp only [raiseNew];refine zWC (wpAny_handled ?_);rw [show A.in1.handled = none from hh];refine zWC (zWE (wpAny_throw ?_));refine zWC (wpAny_isInstance (T := "StopIteration") (b:=true) ⟨_,zWM _ rfl,rfl⟩ isSubtype_stop ?_);exact zWE (hQ _ (((zXF ..).extBut.push _).push _))
theorem zMw {e:DictEntry} {Q:Option Value -> Shared -> Prop} (hit:IsItemIter s.heap it d i es.size ep ok ov) (hod:s.heap.get? d = some o) (hdd:o.data = .dict es ep) (hx:es[i]? = some e)
  (hQ:∀ h',IsItemIterOut h' it d (i + 1) es.size ep e.key e.val s.heap.objs.size -> h'.get? s.heap.objs.size = some { cls:=.type "tuple", data:=.seq #[e.key,e.val] } -> (∀ b o,b ≠ it -> s.heap.get? b = some o -> h'.get? b = some o) -> Q (some (.ref s.heap.objs.size)) { s with heap:=h' }) :
  wpAny (model prog w) A (pyNext (.ref it)) Q E s:=by
 obtain ⟨hp,g,dr,tk,os⟩:=s;have hT:Shared.TypeIs ⟨hp,g,dr,tk,os⟩ (.ref it) "dict_itemiterator" := ⟨_,hit,rfl⟩;obtain ⟨hlt,hxe⟩:=Array.getElem?_eq_some_iff.mp hx;unfold pyNext;refine zWC (wpAny_attempt (zWo (name:=Str.ofString "__next__") hT F.slot_dict_itemiterator_next (zWp F.slot_dict_itemiterator_next hT F.entry_dict_itemiterator_next ?_ (F.args_dict_itemiterator_next_1 _))));refine zWC (zWE (zWC (zWC ?_)));first | refine zWC (wpAny_typeNameOfWhole_itemiter hT (zWE ?_)) | refine zWC (wpAny_typeNameOf_itemiter hT (zWE ?_))
 refine zWC (wpAny_fieldsOf hit rfl ?_);simp only [show Builtin.Dict_items.ownsTuple "dict_itemiterator" = true by decide,if_true];show wpAny _ _ (if (Value.ref d == Value.none) = true then _ else _) _ _ _;rw [zWU (show ¬ ((Value.ref d == Value.none) = true) from zWY)];refine zWC (zWE (zWC (wpAny_dictEntries hod hdd ?_)));rw [zWU (by simp)];refine zWC (zWE (zWC (wpAny_dictEpoch hod hdd ?_)));rw [zWU (by simp)];refine zWE ?_;simp only [show ¬ ((i:Int) < 0) from by omega,if_false,Int.toNat_natCast,zWx hlt,hxe];refine zWC ?_;first | refine zWC (wpAny_typeNameOfWhole_itemiter hT (zWE ?_)) | refine zWC (wpAny_typeNameOf_itemiter hT (zWE ?_))
 refine zWC (wpAny_isOneOf_itemiter hT ?_);show wpAny _ _ (setField (.ref it) 3 (rawInt ((i:Int) + 1)) >>= _) _ _ ⟨hp,g,dr,tk,os⟩;refine zWC (wpAny_setField_rec hit (by simp) fun h1 he1 hs1=>?_);replace hs1:Heap.SameBut it hp h1:=hs1;replace he1:IsItemIter h1 it d (i + 1) es.size ep ok ov:=by
  have q:((i + 1:Nat):Int) = (i:Int) + 1:=by omega
  unfold IsItemIter; rw [q]; simpa [rawInt] using he1
 have hT1:Shared.TypeIs ⟨h1,g,dr,tk,os⟩ (.ref it) "dict_itemiterator" := ⟨_,he1,rfl⟩;refine zWC (zW5 (zWC (wpAny_isOneOf_itemiter hT1 (zWC (wpAny_isOneOf_itemiter hT1 ?_)))));show wpAny _ _ (Builtin.Dict_items.pairFromOwner (.ref it) 6 e.key e.val) _ _ ⟨h1,g,dr,tk,os⟩;unfold Builtin.Dict_items.pairFromOwner;refine zWC (wpAny_newTuple ?_);have he2:IsItemIter (h1.push { cls:=.type "tuple", data:=.seq #[e.key,e.val] }) it d (i + 1) es.size ep ok ov:=zWD _ he1;generalize hh2:h1.push { cls:=.type "tuple", data:=.seq #[e.key,e.val] } = h2 at he2;have z1:h1.objs.size = hp.objs.size:=hs1.1;have hil:it < hp.objs.size:=zWN hit;have t2:h2.get? hp.objs.size = some { cls:=.type "tuple", data:=.seq #[e.key,e.val] }:=by rw [<- hh2,<- z1]; exact zWM _ rfl
 have k2:∀ b o,b ≠ it -> hp.get? b = some o -> h2.get? b = some o:=fun b o hb q=>by rw [<- hh2]; exact zWD _ (hs1.extBut b o hb q)
 show wpAny _ _ (Builtin.Dict_items.ownedTupleIsFree (.ref it) >>= _) _ _ ⟨h2,g,dr,tk,os⟩;rw [z1];clear hh2 he1 hs1 hT1 z1 h1;refine zWC ?_;unfold Builtin.Dict_items.ownedTupleIsFree;refine zWC (zWr he2 rfl (x:=.none) rfl (zWE ?_));simp only [if_true];refine zWC (zWr he2 rfl (x:=ok) rfl (zWC (zWr he2 rfl (x:=ov) rfl ?_)));refine zWC (wpAny_setField_rec he2 (by simp) fun h3 he3 hs3=>?_);replace he3:IsItemIter h3 it d (i + 1) es.size ep e.key ov:=he3;replace hs3:Heap.SameBut it h2 h3:=hs3;refine zWC (wpAny_setField_rec he3 (by simp) fun h4 he4 hs4=>?_);replace he4:IsItemIter h4 it d (i + 1) es.size ep e.key e.val:=he4;replace hs4:Heap.SameBut it h3 h4:=hs4;refine zWC (wpAny_setField_rec he4 (by simp) fun h5 he5 hs5=>?_);replace he5:IsItemIterOut h5 it d (i + 1) es.size ep e.key e.val hp.objs.size:=he5;replace hs5:Heap.SameBut it h4 h5:=hs5;refine zWC (wpAny_setField_rec he5 (by simp) fun h6 he6 hs6=>?_);replace he6:IsItemIterOut h6 it d (i + 1) es.size ep e.key e.val hp.objs.size:=he6;replace hs6:Heap.SameBut it h5 h6:=hs6;have up:∀ b o,b ≠ it -> h2.get? b = some o -> h6.get? b = some o:=fun b o hb q=>hs6.extBut b o hb (hs5.extBut b o hb (hs4.extBut b o hb (hs3.extBut b o hb q)));exact zWC (wpAny_letGo (zWE (zWE ⟨_,rfl,zWE (hQ h6 he6 (up _ _ (zXh hil) t2) fun b o hb q=>up b o hb (k2 b o hb q))⟩)))
theorem zKD (d:Addr) (hd:(d == sysModules) = false) :
  MeetsIn prog w (Builtin.«dict.items» ⟨[.ref d],[]⟩) (fun _ R s=>s.TypeIs (.ref d) "dict" /\ R (.ok (.ret (.ref s.heap.objs.size))) { s with heap:=s.heap.push { cls:=.type "dict_items", data:=.fields #[.ref d] } }) :=
 .of_wp fun A R s ⟨hT,h⟩=>by
  unfold Builtin.«dict.items»;refine zWC ?_;unfold Builtin.Dict.noArgs;refine zWC (wpAny_notOrdered_dict hT ?_);show wpAny _ _ (pure d) _ _ s;refine zWE ?_;show wpAny _ _ (Builtin.Dict.showsAll d >>= _) _ _ s;unfold Builtin.Dict.showsAll;rw [zWU (by rw [hd]; exact zWY)];exact zWC (zWE (zWC (zWf (zWE ⟨_,rfl,h⟩))))
end
theorem zIY:entryFor table "dict_itemiterator.__iter__" = some Builtin.«dict_keyiterator.__iter__»:=entryFor_alias (id' := "dict_keyiterator.__iter__") (by kernel_rfl) rfl (by decide +kernel) (by kernel_rfl)
theorem zIi {prog:Program} {w:World} {A:Around} {E:Value -> Shared -> Prop} {s:Shared} {it d:Addr} {i n ep:Nat} {ok ov:Value} {Q:Value -> Shared -> Prop} (he:IsItemIter s.heap it d i n ep ok ov) (h:Q (.ref it) s):wpAny (model prog w) A (pyIter (.ref it)) Q E s:=by
 have hT:s.TypeIs (.ref it) "dict_itemiterator" := ⟨_,he,rfl⟩;refine wpAny_pyIter_slot hT F.slot_dict_itemiterator_iter (zWp F.slot_dict_itemiterator_iter hT zIY ?_ (F.args_dict_itemiterator_iter_1 _));show wpAny _ _ (ret (.ref it)) _ _ s;exact zWE ⟨_,rfl, "dict_itemiterator", _,hT,F.slot_dict_itemiterator_next.lookup,h⟩
def zVj (d:Addr) (o:Obj) (kvs:List (List Key × V)):It :=
 ⟨fun i H=>H d = some (.frz o (.dT kvs)) /\ i < kvs.length,
  fun i H v H'=>∃ T b k x,kvs[i]? = some (k,x) /\ v = .ref T /\ H T = none /\ H b = some (.tup (k.map kV)) /\ H' = upd H T (.tup [.ref b,x]),
  fun i H=>H d = some (.frz o (.dT kvs)) /\ kvs.length <= i⟩
theorem zPz {X:Cx} {zB:List (Addr × Obj)} {σ:L2.St} {H:Hp} {s:Shared} {d:Addr} {o:Obj} {kvs:List (List Key × V)} {es:Array DictEntry} {ep:Nat} (I:Inv X zB σ H s) (hd:o.data = .dict es ep) (e:H d = some (.frz o (.dT kvs))) :
  s.heap.get? d = some o /\ ∃ xs,KT H kvs xs /\ es.toList = xs.map (entryOfKey (tupleKind (zAh X.prog X.w))) /\ kvs.length = es.size:=by
 obtain ⟨h0,_,_,xs,r,o',es',ep',h1,_,h3,h4,_⟩:=(show zAo X.prog X.w H s.heap d (.frz o (.dT kvs)) from I.hok d _ e);rw [h0] at h1; cases h1;rw [hd] at h3; cases h3;refine ⟨h0,xs,r,h4,?_⟩;have h5:es.toList.length = xs.length:=by rw [h4,zWL]
 rw [Paired.length r,<- h5,zWv]
theorem zVB {H:Hp}:∀ {kvs:List (List Key × V)} {xs:List (List Key × Addr × Value)} {i:Nat} {k:List Key} {x:V},KT H kvs xs -> kvs[i]? = some (k,x) -> ∃ b u,xs[i]? = some (k,b,u) /\ H b = some (.tup (k.map kV)) /\ zw x u:=by
 intro kvs xs i k x r;induction r generalizing i with
 | nil=>intro e; cases e
 | @cons p q ps qs hq t ih=>
  intro e;cases i with
  | zero=>
   cases e;obtain ⟨q1,q2,q3⟩:=q;exact ⟨q2,q3,by rw [show k = q1 from hq.1]; rfl,hq.2.1,hq.2.2⟩
  | succ j=>exact ih e
theorem zMS {P:Program} {w:World} {K:PySem.W.Frag} {tes:List Expr} {ek:Nat} {ep:Pos} {it d:Addr} {o:Obj} {kvs:List (List Key × V)} {es:Array DictEntry} {en:Nat} (hd:o.data = .dict es en) :
  Turn P w K (.Tuple tes ek ep) (zVj d o kvs) [it] it (fun i h=>∃ ok ov,IsItemIter h it d i es.size en ok ov) where
 mem:=zWe.mpr rfl;obj:=fun i h ⟨ok,ov,he⟩ c hc=>by
  cases zWe.mp hc;exact ⟨_,he,fun v m=>by cases m⟩
 keep:=fun i h h' ⟨ok,ov,he⟩ k=>⟨ok,ov,k it (zWe.mpr rfl) _ he⟩;item:=by
  intro X hP hw hK hc i zB s σ H E I hf Z hg;subst hP hw hK;obtain ⟨ok,ov,he⟩:=Z;obtain ⟨hg,hi⟩:=hg;obtain ⟨h0,xs,r,h4,hl⟩:=zPz I hd hg;rcases hkx:kvs[i] with ⟨k,x⟩;have hk:kvs[i]? = some (k,x):=by rw [zWG hi,hkx]
  obtain ⟨b,u,h5,h6,h7⟩:=zVB r hk;have hx:es[i]? = some (entryOfKey (tupleKind (zAh X.prog X.w)) (k,b,u)):=by
   rw [<- zXr,h4,zWZ,h5]; rfl
  have ilt:it < s.heap.objs.size:=zWN he;refine zMw he h0 hd hx fun h' ho hT kp=>⟨_,rfl,wpAny_letOwnedTupleGo_items ho fun h2 he2 e2=>?_⟩;have kk:∀ c q,c ∉ [it] -> s.heap.get? c = some q -> h2.get? c = some q:=fun c q n z=>e2.extBut _ _ (fun y=>n (zWe.mpr y)) (kp c q (fun y=>n (zWe.mpr y)) z);have NT:=e2.extBut _ _ (zXh ilt) hT;have hfr:H s.heap.objs.size = none:=I.hok.fresh (zWI _);refine ⟨.ref s.heap.objs.size,upd H s.heap.objs.size (.tup [.ref b,x]),zHF (s:=s) (h':=h2) (t':=s.toks) I hf kk (zWI _) ?_,rfl,⟨_,b,k,x,hk,rfl,hfr,h6,rfl⟩,⟨_,_,he2⟩,fun c hm=>?_⟩
  ·exact ⟨by show 2 <= sizeLine; decide,[.ref b,u],.cons rfl (.cons h7 .nil),⟨_,NT,rfl,⟨_,rfl⟩,rfl⟩⟩
  ·cases zWe.mp hm;rw [zh (zWX ilt)];exact (hf it hm).1
 done:=by
  intro X hP hw hK hc i zB s σ H E I hf Z hg;subst hP hw hK;obtain ⟨ok,ov,he⟩:=Z;obtain ⟨hg,hi⟩:=hg;obtain ⟨h0,xs,r,h4,hl⟩:=zPz I hd hg;exact zH7 (I.ok.hd hc) he h0 hd (by omega) fun h' x=>⟨rfl,zJP (s:=s) (h':=h') (t':=s.toks) I hf fun c q n z=>x c q (fun y=>n (zWe.mpr y)) z⟩
 self:=fun A i s Q E Z h=>by
  obtain ⟨ok,ov,he⟩:=Z;exact zIi he h
theorem zUo {X:Cx} {zB:List (Addr × Obj)} {σ:L2.St} {H:Hp} {s:Shared} {d:Addr} {kvs:List (List Key × V)} (I:Inv X zB σ H s) (ed:H d = some (.dT kvs)):∃ o es en,s.heap.get? d = some o /\ o.data = .dict es en /\ Inv X zB σ (upd H d (.frz o (.dT kvs))) s:=by
 obtain ⟨z1,z2,xs,r,o,es',en,h1,h2,h3,h4,h5⟩:=(show zAo X.prog X.w H s.heap d (.dT kvs) from I.hok d _ ed);refine ⟨o,es',en,h1,h3,zGR (s:=s) (h':=s.heap) (t':=s.toks) (ob:=.frz o (.dT kvs)) I (by rw [ed]; exact True.intro) (Heap.SameBut.refl _ _) ⟨o,h1⟩ ⟨h1,z1,z2,xs,KT.keeps r fun c ys ec=>?_,o,es',en,h1,h2,h3,h4,h5⟩⟩;rw [zh (zIW ec ed (fun z=>nomatch z))];exact ec
section
variable {X:Cx} {e:Expr} {es:List Expr} {ek:Nat} {ep apos cpos:Pos}
theorem zRM {td:TE} (ho:PE X e td) (hbase:attributeBase e "items" X.env (eval e X.env) = eval e X.env:=by rfl) (hline:(apos.endLine == cpos.line) = true:=by rfl) :
  PI X (.Tuple es ek ep) (.Call (.Attribute e "items" apos) [] [] cpos) (fun σ H R=>td σ H fun x H1=>∃ d kvs,x = .ref d /\ H1 d = some (.dT kvs) /\ ∀ o,R (zVj d o kvs) (upd H1 d (.frz o (.dT kvs)))):=by
 intro zB s σ H R I h;refine wpAny_Call_method0_late hbase hline (thn (ho zB s σ H _ I h) fun v s1 ⟨x,H1,I1,r1,d,kvs,ex,ed,q⟩=>?_);subst ex;cases r1;obtain ⟨t1,t2,t3⟩:=zPs I1 (.inr ⟨kvs,.inl ed⟩);refine ⟨"dict", "dict.items", PySem.F.plainAttrs_dict,PySem.F.slot_dict_items,PySem.F.type_dict_items,t1,t2,Calls.callWith_builtin rfl (PySem.evalArgs_none ?_)⟩;refine call_meetsIn PySem.F.slot_dict_items t1 PySem.F.entry_dict_items (PySem.F.args_dict_items_1 _) (zKD d t3) ⟨t1,?_⟩;obtain ⟨o,es',en,h1,h3,I0⟩:=zUo I1 ed;refine zO9 (d:=d) (o:=o) (es:=es') (ep:=en) ⟨_,zWM _ rfl,rfl,rfl⟩ (zWD _ h1) h3 ?_;have ge:s1.heap.objs.size <= (s1.heap.push { cls:=.type "dict_items", data:=.fields #[.ref d] }).objs.size:=by rw [zWs]; exact zXu _
 refine ⟨_,[_],_,_,_,rfl,I0.kept (t':=s1.toks) fun b q z=>zWD _ (zWD _ z),zMS h3,⟨_,_,zWM _ rfl⟩,fun c hc=>?_,q o⟩;cases zWe.mp hc;exact I0.fpOk ge (I0.hok.fresh ge)
end
theorem zSS {L:List Addr} {H:Hp} {d:D} {k:Key} (h:zGt d = some k):Rep L H d (kV k):=by
 cases d with
 | int i=>cases h; unfold Rep; rfl
 | str x=>cases h; unfold Rep; rfl
 | _=>cases h
theorem zLT {L:List Addr} {H:Hp}:∀ {ds:List D} {ks:List Key},zFa ds = some ks -> zW L H ds (ks.map kV)
 | [],ks,h=>by cases h; exact .nil
 | d :: ds,ks,h=>by
  unfold zFa at h;cases e1:zGt d with
  | none=>rw [e1] at h; cases h
  | some k=>
   cases e2:zFa ds with
   | none=>rw [e1,e2] at h; cases h
   | some ks'=>rw [e1,e2] at h; cases h; exact .cons (zSS e1) (zLT e2)
theorem zTj {L:List Addr} {H:Hp} {d:D} {k:List Key} {b:Addr} (h:tkD d = some k) (e:H b = some (.tup (k.map kV))):Rep L H d (.ref b):=by
 cases d with
 | tup ds=>unfold Rep; exact ⟨b,_,rfl,e,zLT h⟩
 | _=>cases h
theorem zNw {L:List Addr} {H:Hp}:∀ {ps:List (D × D)} {vs:List (List Key × V)} {i:Nat} {p:D × D},zBg tkD L H ps vs -> ps[i]? = some p -> ∃ k x,vs[i]? = some (k,x) /\ tkD p.1 = some k /\ Rep L H p.2 x
 | [],_,i,p,_,e=>by cases e
 | q :: ps,vs,i,p,h,e=>by
  obtain ⟨k,v,r',rfl,e1,h1,h2⟩:=h;cases i with
  | zero=>cases e; exact ⟨k,v,rfl,e1,h1⟩
  | succ j=>exact zNw (ps:=ps) (i:=j) h2 (by rw [List.getElem?_cons_succ] at e; exact e)
def zIQ (f:FE):FI:=fun σ M=>match f σ M with
 | some (.dat (.ref n),M1)=>match M1[n]? with
  | some (.dicT ps)=>some (ps.map fun p=>D.tup [p.1,p.2],none,M1.set n (.set []))
  | _=>none
 | _=>none
section
variable {X:Cx} {e:Expr} {es:List Expr} {ek:Nat} {ep apos cpos:Pos} {f:FE}
theorem zPi (h:QE X e f) (hbase:attributeBase e "items" X.env (eval e X.env) = eval e X.env:=by rfl) (hline:(apos.endLine == cpos.line) = true:=by rfl) :
  QI X (.Tuple es ek ep) (.Call (.Attribute e "items" apos) [] [] cpos) (zIQ f):=.mk <| PI.imp (zRM h.un hbase hline) fun τ H R zz=>by
 obtain ⟨L,σ,M,xs,gd,M',c,rs,hf,q⟩:=zz;unfold zIQ at hf;split at hf
 ·rename_i n M1 e1;split at hf
  ·rename_i ps e2;cases hf;refine ⟨L,σ,M,_,_,c,rs,e1,fun L1 H1 v s1 c1 r1=>?_⟩;unfold zl Rep at r1;obtain ⟨a,rfl,ea⟩:=r1;obtain ⟨vs,e3,r3⟩:=c1.obj n a _ ea e2;refine ⟨a,vs,rfl,e3,fun o=>?_⟩;obtain ⟨c2,s2⟩:=c1.put (m:=.set []) (o':=.frz o (.dT vs)) ea e3 (fun _ z=>by cases z) (fun _ _ z=>by cases z) fun _=>⟨o,_,zAe⟩;refine q L1 _ _ (s1.trans s2) c2 fun L2 H2 M2 s3 c3 _=>?_;have hz:H2 a = some (.frz o (.dT vs)):=s3.frz _ _ _ zAe;have r4:=r3.stp (s2.trans s3);refine ⟨fun i d hd=>?_,hz,by rw [zWL,r4.length]; exact zWI _⟩;rw [zWZ] at hd;cases hp:ps[i]? with
   | none=>rw [hp] at hd; cases hd
   | some p=>
    rw [hp] at hd;cases hd;obtain ⟨k,x,hk,ek,rx⟩:=zNw r4 hp;refine ⟨⟨hz,(zWF.mp hk).1⟩,fun v H3 hy=>?_⟩;obtain ⟨T,b,k',x',hk',rfl,hT,hb,rfl⟩:=hy;rw [hk] at hk'; cases hk';exact ⟨fun a o e=>by rw [zh (zAS e hT)]; exact e,Rep.newTup hT (.cons (zTj ek hb) (.cons rx .nil))⟩
  ·cases hf
 ·cases hf
end
def zNV (i j k:Nat):FG:=fun d σ=>match d with
 | .tup [x,.tup [y,z]]=>some (((σ.set i (some x)).set j (some y)).set k (some z))
 | _=>none
abbrev gN3 (K:PySem.W.Frag) (i j k:Nat):TG:=zRS K 2 (zFc (zCI i) (zFc (zRS K 2 (zFc (zCI j) (zFc (zCI k) zPd))) zPd))
theorem zOl {K:PySem.W.Frag} {own:List Nat} {i j k:Nat} (hi:i ∈ own) (hj:j ∈ own) (hk:k ∈ own):zFi own (gN3 K i j k) (zNV i j k):=by
 intro L H σ σ' τ τ0 d v Q rs ex r hf q;unfold zNV at hf;split at hf
 ·rename_i x y z;cases hf;unfold Rep at r;obtain ⟨a,vs,rfl,e,r⟩:=r;obtain ⟨v1,v2,rfl,r1,r2⟩:=r.two;unfold Rep at r2;obtain ⟨b,ws,rfl,e2,r2⟩:=r2;obtain ⟨w1,w2,rfl,r3,r4⟩:=r2.two;exact ⟨a,_,rfl,.of e,rfl,v1,[.ref b],rfl,.ref b,[],rfl,b,_,rfl,.of e2,rfl,w1,[w2],rfl,w2,[],rfl,rfl,rfl,q _ (((rs.set r1).set r3).set r4) (((ex.set hi).set hj).set hk)⟩
 ·cases hf
end L3
namespace Law
open PySem PySem.Spec PyProof.Rows L2 L3
noncomputable def zEv:FS:=(zT (zAC 1 (fOp zAl (fB zB1 (zb (zD 0) zv)) (fC (.int 3))))
  (zT (zDJ (zAi (fSl (zD 0) zFh (zCX (fC (.int 63))))) (gN 2) (zAC 1 (fOp zGs (fOp zAl (fOp zAl (fOp zN2 (zD 1) (fC (.int 6364136223846793))) (fOp zGs (zD 2) (fOp zRD (fC (.int 10)) (fC (.int 30))))) (fC (.int 1442695040888963))) (fC (.int 2305843009213693951)))))
  (zAI (zBN (zH (toD (zAO [2] (zAi (fSl (zD 0) zFh (zCX (fC (.int 63))))) (gN 2) (tst (fOp kGe (fB zOa (zb (zD 2) zv)) (fOp zRD (fC (.int 10)) (fC (.int 18))))) (fB zOa (zb (zD 2) zv)))) (zH (toD (zD 1)) zQ))))))
noncomputable def zBz:FF:=zBX 3 zEv
noncomputable def zFn:FS:=(zT (zBM (zCl (tst (fOp kNe (fOp kIx (zD 0) (fC (.int 0))) (zBN zQ))) (tst (fOp kEq (fOp kIx (fOp kIx (zD 0) (fC (.int 0))) (fC (.int 0))) (fC (.int 0))))) (zBr (fM zLa (fOp kIx (zD 0) (fC (.int 0))) (zH (toD (fC (.int 0))) zQ))) 100)
  (zT (sIf (tst (fOp kNe (fOp kIx (zD 0) (fC (.int 0))) (zBN zQ))) (zT (zAC 2 (fOp zGs (fOp kIx (fOp kIx (zD 0) (fC (.int 0))) (fC (.int 0))) (zD 1)))
  (zT (zMx (fOp zOp (fOp kIx (fOp kIx (zD 0) (fC (.int 0))) (fC (.int 0))) (zD 1)) (fOp kIx (zD 0) (fC (.int 0))) (fC (.int 0)))
  (zAI (zD 2)))) zBt)
  (zT (zMx (fOp zGs (fOp zAl (fOp zN2 (fOp kIx (zD 0) (fC (.int 1))) (fC (.int 6364136223846793))) (fC (.int 1442695040888963))) (fC (.int 2305843009213693951))) (zD 0) (fC (.int 1)))
  (zAI (fOp zGs (fOp zOp (fOp zGs (fOp zN2 (fOp kIx (zD 0) (fC (.int 1))) (fOp kIx (zD 0) (fC (.int 1)))) (fC (.int 2305843009213693921))) (fC (.int 65537))) (zD 1))))))
noncomputable def zk:FF:=zBX 3 zFn
structure Gen (M:Mem) (n k:Nat):Prop where
 ex:∃ (c:List Int) (s:Int),M[n]? = some (.lst [.ref k,.int s]) /\ M[k]? = some (.lst (c.map D.int)) /\ (∀ x ∈ c,0 <= x) /\ c.length <= 63 /\ 0 <= s /\ s < 2305843009213693951
 ne:n ≠ k
 wf:∀ (j:Nat) u,M[j]? = some u -> MO.und M.length u = true
structure Nx (M M':Mem) (n k:Nat):Prop where
 gen:Gen M' n k
 len:M'.length = M.length
 fr:∀ j,j ≠ n -> j ≠ k -> M'[j]? = M[j]?
theorem Nx.refl (h:Gen M n k):Nx M M n k:=⟨h,rfl,fun _ _ _=>rfl⟩
theorem Nx.trans {M M1 M2:Mem} {n k:Nat} (a:Nx M M1 n k) (b:Nx M1 M2 n k):Nx M M2 n k:=⟨b.gen,b.len.trans a.len,fun j h1 h2=>(b.fr j h1 h2).trans (a.fr j h1 h2)⟩
theorem zAR (n:Nat):∀ c:List Int,D.unds n (c.map D.int) = true
 | []=>rfl
 | x :: r=>by
  show (D.und n (D.int x) && D.unds n (r.map D.int)) = true;rw [zAR n r]; rfl
theorem Gen.lt (h:Gen M n k):n < M.length /\ k < M.length:=by
 obtain ⟨c,s,e1,e2,_⟩:=h.ex;exact ⟨(zWF.mp e1).1,(zWF.mp e2).1⟩
theorem Gen.put {M:Mem} (h:Gen M n k) {c:List Int} (hc:∀ x ∈ c,0 <= x) (hl:c.length <= 63) (h0:0 <= s) (h1:s < 2305843009213693951) :
  Nx M ((M.set k (.lst (c.map D.int))).set n (.lst [.ref k,.int s])) n k:=by
 obtain ⟨hn,hk⟩:=h.lt;refine ⟨⟨⟨c,s,?_,?_,hc,hl,h0,h1⟩,h.ne,fun j u e=>?_⟩,by simp,fun j h1 h2=>?_⟩
 ·rw [zW6 (by simpa using hn)]
 ·rw [zWg h.ne,zW6 hk]
 ·rw [List.length_set,List.length_set];rw [zXl] at e;split at e
  ·split at e
   ·cases e;show D.unds _ _ = true;unfold D.unds D.unds D.unds D.und;simp [hk]
   ·cases e
  ·rw [zXl] at e;split at e
   ·rename_i z;subst z;cases e; exact zAR _ _
   ·exact h.wf j u e
 ·rw [zWg (Ne.symm h1),zWg (Ne.symm h2)]
theorem zIM {M:Mem} (h:M[k]? = some u):M.set k u = M:=by
 apply List.ext_getElem?;intro i;rw [zXl];split
 ·rename_i e; subst e;rw [zWR (zWF.mp h).1]; exact h.symm
 ·rfl
theorem zKw:∀ {a b:List Int},a.map D.int = b.map D.int -> a = b
 | [],[],_=>rfl
 | [],_ :: _,h=>by cases h
 | _ :: _,[],h=>by cases h
 | x :: a,y :: b,h=>by
  rw [zWV,zWV] at h;have h1:=(zXG h).1;have h2:=zKw (zXG h).2;cases h1; rw [h2]
theorem at0 {x:D} {xs:List D}:atI (x :: xs) 0 = some x:=zM6 (k:=0) rfl
theorem at1 {x y:D} {xs:List D}:atI (x :: y :: xs) 1 = some y:=zM6 (k:=1) rfl
theorem zS5 (h:Gen M n k) (h0:0 < m) (h1:m < 1073741824) :
  Ok (zk [.ref n,.int m] M) fun d M'=>(∃ i,d = .int i /\ 0 <= i /\ i < m) /\ Nx M M' n k:=by
 unfold zk;rw [zAM];unfold zFn;show OkS (zT _ _ [some (.ref n),some (.int m),none] M) _;rw [zR];have st:∀ {M:Mem} {c:List Int} {s:Int} {σ:Sd} {P:EV -> Mem -> Prop},σ[0]? = some (some (.ref n)) -> M[n]? = some (.lst [.ref k,.int s]) -> P (.dat (.ref k)) M -> Ok (fOp kIx (zD 0) (fC (.int 0)) σ M) P:=fun hσ hM p=>
  zAm.mpr (zAQ.mpr ⟨_,hσ,zCj.mpr (zRF (zAH hM) at0 p)⟩)
 have sd:∀ {M:Mem} {s:Int} {σ:Sd} {P:EV -> Mem -> Prop},σ[0]? = some (some (.ref n)) -> M[n]? = some (.lst [.ref k,.int s]) -> P (.dat (.int s)) M -> Ok (fOp kIx (zD 0) (fC (.int 1)) σ M) P:=fun hσ hM p=>
  zAm.mpr (zAQ.mpr ⟨_,hσ,zCj.mpr (zRF (zAH hM) at1 p)⟩)
 have hd:∀ {M:Mem} {c:List Int} {x s:Int} {σ:Sd} {P:EV -> Mem -> Prop},σ[0]? = some (some (.ref n)) -> M[n]? = some (.lst [.ref k,.int s]) -> M[k]? = some (.lst ((x :: c).map D.int)) -> P (.dat (.int x)) M -> Ok (fOp kIx (fOp kIx (zD 0) (fC (.int 0))) (fC (.int 0)) σ M) P:=fun {M c x s σ P} hσ hM hK p=>
  zAm.mpr (st (c:=c) hσ hM (zCj.mpr (zRF (zAH hK) at0 p)))
 have ne:∀ {M:Mem} {c:List Int} {s:Int} {σ:Sd} {P:Bool -> Mem -> Prop},σ[0]? = some (some (.ref n)) -> M[n]? = some (.lst [.ref k,.int s]) -> M[k]? = some (.lst (c.map D.int)) -> P (!c.isEmpty) M -> Ok (tst (fOp kNe (fOp kIx (zD 0) (fC (.int 0))) (zBN zQ)) σ M) P:=fun {M c s σ P} hσ hM hK p=>by
  refine zHY.mpr (zAm.mpr (st (c:=c) hσ hM (zKC.mpr (zB6.mpr ⟨zWy _,?_⟩))));rw [zRh (zBb hK) (by intro d e; cases e; rfl)];rw [zEP];simpa using p
 have W:∀ (fuel m':Nat) (σ:Sd) (M':Mem),m' < fuel -> ((σ = [some (.ref n),some (.int m),none] /\ Nx M M' n k) /\ ∃ (c:List Int) (s:Int),M'[n]? = some (.lst [.ref k,.int s]) /\ M'[k]? = some (.lst (c.map D.int)) /\ c.length = m') ->
   OkS (zBM (zCl (tst (fOp kNe (fOp kIx (zD 0) (fC (.int 0))) (zBN zQ))) (tst (fOp kEq (fOp kIx (fOp kIx (zD 0) (fC (.int 0))) (fC (.int 0))) (fC (.int 0))))) (zBr (fM zLa (fOp kIx (zD 0) (fC (.int 0))) (zH (toD (fC (.int 0))) zQ))) fuel σ M')
    (fun o σ1 M1=>o = .nx /\ σ1 = [some (.ref n),some (.int m),none] /\ Nx M M1 n k):=by
  intro fuel m' σ M' hlt hI;refine zCM (I:=fun m' σ M'=>(σ = [some (.ref n),some (.int m),none] /\ Nx M M' n k) /\ ∃ (c:List Int) (s:Int),M'[n]? = some (.lst [.ref k,.int s]) /\ M'[k]? = some (.lst (c.map D.int)) /\ c.length = m') ?_ fuel m' σ M' hlt hI;rintro m' σ M' ⟨⟨rfl,nx⟩,c,s,e1,e2,hl⟩;refine zSh.mpr (ne rfl e1 e2 ?_);cases c with
  | nil=>simp; exact nx
  | cons x c=>
   simp only [List.isEmpty_cons,Bool.not_false,if_true];refine zHY.mpr (zAm.mpr (hd rfl e1 e2 (zCj.mpr (zK6.mpr (zEP.mpr ?_)))));by_cases hx:x = 0
   ·rw [zWR (by simpa using hx)];refine zCB.mpr (zKc.mpr (st (c:=c) rfl e1 ⟨⟨_,zBb e2⟩,zAp.mpr (zAu.mpr (zCj.mpr (zU.mpr (zB6.mpr ?_))))⟩));rw [zWV] at e2;rw [zTp e2];refine ⟨c.length,by rw [<- hl]; simp,?_⟩;obtain ⟨c',s',z1,z2,z3,z4,z5,z6⟩:=nx.gen.ex;rw [e1] at z1; cases z1;rw [e2] at z2;have hcc:c' = x :: c:=by
     have:(x :: c).map D.int = c'.map D.int:=by have:=z2; simp only [Option.some.injEq,MO.lst.injEq] at this; simpa using this
     exact (zKw this).symm
    subst hcc;have P:=nx.gen.put (c:=c) (s:=s) (fun y hy=>z3 y (zWP _ hy)) (by simp at z4; omega) z5 z6;have q:((M'.set k (.lst (c.map D.int))).set n (.lst [.ref k,.int s])) = M'.set k (.lst (c.map D.int)):=zIM (by rw [zWg (Ne.symm nx.gen.ne)]; exact e1);rw [q] at P;have hk:=nx.gen.lt.2;refine ⟨⟨rfl,nx.trans P⟩,c,s,?_,?_,rfl⟩
    ·rw [zWg (Ne.symm nx.gen.ne)]; exact e1
    ·rw [zW6 hk]
   ·rw [zWU (by simpa using hx)];first | exact ⟨rfl,rfl,nx⟩ | exact ⟨trivial,trivial,nx⟩ | simpa using nx
 obtain ⟨c,s,e1,e2,e3,e4,_⟩:=h.ex;refine OkS.mono (W 100 c.length _ M (by omega) ⟨⟨rfl,.refl h⟩,c,s,e1,e2,rfl⟩) ?_;rintro o σ M1 ⟨rfl,rfl,nx⟩;rw [zZ,zR,zBs];obtain ⟨c,s,e1,e2,e3,e4,e5,e6⟩:=nx.gen.ex;refine ne rfl e1 e2 ?_;cases c with
 | nil=>
  simp only [List.isEmpty_nil,Bool.not_true,zXD,if_false];rw [zBC,zZ,zR,zKR];refine zAm.mpr (zAm.mpr (zAm.mpr (sd rfl e1 (zCj.mpr (zRO.mpr ⟨by simp [zOX] <;> omega,zCj.mpr (zGf.mpr (zCj.mpr (zHA.mpr ⟨by decide,?_⟩)))⟩)))));rw [zU];refine zAQ.mpr ⟨_,rfl,zCj.mpr ?_⟩;rw [zU];have hs0:0 <= (s * 6364136223846793 + 1442695040888963) % 2305843009213693951:=Int.emod_nonneg _ (by decide);have hs1:(s * 6364136223846793 + 1442695040888963) % 2305843009213693951 < 2305843009213693951:=Int.emod_lt_of_pos _ (by decide);generalize (s * 6364136223846793 + 1442695040888963) % 2305843009213693951 = s' at hs0 hs1;have P:=nx.gen.put (c:=[]) (s:=s') (fun _ h=>by cases h) (by simp) hs0 hs1;rw [zIM (show M1[k]? = some (.lst (([]:List Int).map D.int)) from e2)] at P;refine ⟨_,zHu (k:=1) e1 (by simp),?_⟩;rw [zZ,zAt];have e1':(M1.set n (.lst [.ref k,.int s']))[n]? = some (.lst [.ref k,.int s']):=zW6 nx.gen.lt.1;refine zAm.mpr (zAm.mpr (zAm.mpr (zAm.mpr (sd rfl e1' (sd rfl e1' (zRO.mpr ⟨by simp [zOX] <;> omega,zCj.mpr (zHA.mpr ⟨by decide,zCj.mpr (zQw.mpr ⟨by decide,zAQ.mpr ⟨_,rfl,zHA.mpr ⟨h0,?_⟩⟩⟩)⟩)⟩))))));rw [zU];exact ⟨⟨_,rfl,Int.emod_nonneg _ (by omega),Int.emod_lt_of_pos _ h0⟩,nx.trans P⟩
 | cons x c=>
  simp only [List.isEmpty_cons,Bool.not_false,if_true];rw [zR,zg];refine zAm.mpr (hd rfl e1 e2 (zAQ.mpr ⟨_,rfl,zHA.mpr ⟨h0,?_⟩⟩));rw [zU,zZ,zR,zKR];refine zAm.mpr (hd rfl e1 e2 (zAQ.mpr ⟨_,rfl,zQw.mpr ⟨⟨h0,h1⟩,?_⟩⟩));rw [zU];refine st (c:=c) rfl e1 (zCj.mpr ?_);rw [zU];refine ⟨_,zHu (k:=0) e2 (by simp),?_⟩;rw [zZ,zAt];refine zAQ.mpr ⟨_,rfl,?_⟩;rw [zU,zD5];have hx:=e3 x zWQ;have P:=nx.gen.put (c:=(x / m) :: c) (s:=s) (fun y hy=>by
   rcases zWO.mp hy with z | z
   ·subst z; exact Int.ediv_nonneg hx (by omega)
   ·exact e3 y (zWP _ z)) (by simpa using e4) e5 e6
  rw [zIM (k:=n) (by rw [zWg (Ne.symm nx.gen.ne)]; exact e1)] at P;exact ⟨⟨_,rfl,Int.emod_nonneg _ (by omega),Int.emod_lt_of_pos _ h0⟩,nx.trans P⟩
theorem zL2 (ns:List Int) (lo hi:Option Int):∃ c:List Int,L3.zEw (ns.map D.int) lo hi = c.map D.int /\ c.length <= ns.length:=by
 refine ⟨(ns.drop (HT.sIx ns.length 0 lo)).take (HT.sIx ns.length ns.length hi - HT.sIx ns.length 0 lo),?_,?_⟩
 ·unfold L3.zEw;rw [zWL,List.map_take,List.map_drop]
 ·rw [zXa,zYf]; omega
theorem zDd (h:x :: r = c.map D.int):∃ y c',c = y :: c' /\ x = .int y /\ r = c'.map D.int:=by
 cases c with
 | nil=>cases h
 | cons y c'=>rw [zWV] at h; exact ⟨y,c',rfl,(zXG h).1,(zXG h).2⟩
theorem zAK:zBE none xs M:=trivial
theorem zy (h:n <= 100000):n <= sizeLine:=zWd h (by decide)
theorem zQR {ns:List Int} (h:ns.length <= 63):Ok (zBz [.ref 0] [.fro (ns.map D.int)]) fun d M'=>d = .ref 2 /\ Gen M' 2 1 /\ M'[0]? = some (.fro (ns.map D.int)) /\ M'.length = 3:=by
 unfold zBz;rw [zAM];unfold zEv;show OkS (zT _ _ [some (.ref 0),none,none] _) _;have e0:([.fro (ns.map D.int)]:Mem)[0]? = some (.fro (ns.map D.int)):=rfl;obtain ⟨cut,ec,lc⟩:=zL2 ns none (some 63);have sl:∀ {σ:Sd} {P:EV -> Mem -> Prop},σ[0]? = some (some (.ref 0)) -> P (.fl (cut.map D.int)) [.fro (ns.map D.int)] -> Ok (fSl (zD 0) zFh (zCX (fC (.int 63))) σ [.fro (ns.map D.int)]) P:=fun hσ p=>by
  refine zQO.mpr (zAQ.mpr ⟨_,hσ,zHw.mpr (zHo.mpr (zCj.mpr (zHV.mpr ?_)))⟩);rw [zMr (zJo e0) rfl,ec]; exact p
 rw [zR,zg];refine zAm.mpr (zP8.mpr (zE1.mpr (zAQ.mpr ⟨_,rfl,zF1.mpr ((zTE (zSR e0)).mpr (zCj.mpr (zGf.mpr ?_)))⟩)));rw [zU,zZ,zR,zBa];obtain ⟨x,M1,ex,px⟩:=sl (σ:=[some (.ref 0),some (.int (((ns.map D.int).length:Int) + 3)),none]) (P:=fun x M=>x = .fl (cut.map D.int) /\ M = [.fro (ns.map D.int)]) rfl ⟨rfl,rfl⟩;obtain ⟨rfl,rfl⟩:=px;refine ⟨_,_,_,zFP ex zER,?_⟩;refine zBG (I:=fun r σ M=>M = [.fro (ns.map D.int)] /\ (∃ c:List Int,r = c.map D.int) /\ ∃ s y,σ = [some (.ref 0),some (.int s),y] /\ 0 <= s /\ s < 2305843009213693951) ?_ ?_ _ _ _ ⟨rfl,⟨cut,rfl⟩,_,none,rfl,by simp; omega,by simp; omega⟩
 ·rintro x r σ M ⟨rfl,⟨c,hc⟩,s,y,rfl,h0,h1⟩;obtain ⟨z,c',rfl,rfl,rfl⟩:=zDd hc;refine ⟨zAK,_,rfl,?_⟩;rw [zg];refine zAm.mpr (zAm.mpr (zAm.mpr (zAm.mpr (zAQ.mpr ⟨_,rfl,zCj.mpr (zRO.mpr ⟨by simp [zOX],?_⟩)⟩))));refine zAm.mpr (zAQ.mpr ⟨_,rfl,zAm.mpr (zCj.mpr (zCj.mpr (zTH.mpr ⟨by decide,zHA.mpr ⟨by decide,zGf.mpr (zCj.mpr (zGf.mpr (zCj.mpr (zHA.mpr ⟨by decide,?_⟩))))⟩⟩)))⟩);rw [zU];exact ⟨rfl,⟨c',rfl⟩,_,_,rfl,Int.emod_nonneg _ (by decide),Int.emod_lt_of_pos _ (by decide)⟩
 ·rintro σ M ⟨rfl,_,s,y,rfl,h0,h1⟩;refine ⟨zAK,?_⟩;rw [zZ,zAt,zKC,zAp,zAu,zFD];obtain ⟨x,M1,ex,px⟩:=sl (σ:=[some (.ref 0),some (.int s),y]) (P:=fun x M=>x = .fl (cut.map D.int) /\ M = [.fro (ns.map D.int)]) rfl ⟨rfl,rfl⟩;obtain ⟨rfl,rfl⟩:=px;refine ⟨_,_,_,zFP ex zER,by rw [zWL]; exact zy (by omega),?_⟩;refine Ok.mono (zDw (I:=fun r acc M=>M = [.fro (ns.map D.int)] /\ (∃ c:List Int,r = c.map D.int) /\ r.length + acc.length <= 63 /\ ∃ b:List Int,acc = b.map D.int /\ ∀ x ∈ b,0 <= x) (Q:=fun acc M=>M = [.fro (ns.map D.int)] /\ acc.length <= 63 /\ ∃ b:List Int,acc = b.map D.int /\ ∀ x ∈ b,0 <= x) ?_ ?_ _ [] _ ⟨rfl,⟨cut,rfl⟩,by simp; omega,[],rfl,fun _ h=>by cases h⟩) ?_
  ·rintro x r acc M ⟨rfl,⟨c,hc⟩,hl,b,rfl,hb⟩;obtain ⟨z,c',rfl,rfl,rfl⟩:=zDd hc;refine ⟨zAK,_,rfl,?_⟩;refine zHY.mpr (zAm.mpr (zP8.mpr (zE1.mpr (zAQ.mpr ⟨_,rfl,zF1.mpr (zTS.mpr (zAm.mpr (zCj.mpr (zCj.mpr (zTH.mpr ⟨by decide,zVp.mpr (zEP.mpr ?_)⟩)))))⟩))));by_cases hz:(10:Int) ^ (18:Int).toNat <= (if z < 0 then -z else z)
   ·rw [zWR (by simpa using hz)];refine zP8.mpr (zE1.mpr (zAQ.mpr ⟨_,rfl,zF1.mpr (zTS.mpr (zU.mpr ⟨rfl,⟨c',rfl⟩,?_,b ++ [if z < 0 then -z else z],by simp,?_⟩))⟩))
    ·simp at hl ⊢; omega
    ·intro y hy;rcases zWc.mp hy with q | q
     ·exact hb y q
     ·have:y = if z < 0 then -z else z:=by simpa using q
      rw [this]; split <;> omega
   ·rw [zWU (by simpa using hz)];exact ⟨rfl,⟨c',rfl⟩,by simp at hl ⊢; omega,b,rfl,hb⟩
  ·rintro acc M ⟨rfl,_,hl,hb⟩;exact ⟨zAK,rfl,by simpa using hl,hb⟩
  ·rintro ys M ⟨rfl,hl,b,hb,hp⟩;rw [List.nil_append] at hb hl;subst hb;rw [zGL,zAp,zAu,zAQ];refine ⟨_,rfl,?_⟩;rw [zU,zB6];refine ⟨zy (by simp),?_⟩;rw [zGL];refine ⟨rfl,⟨⟨b,s,rfl,rfl,hp,by simpa using hl,h0,h1⟩,by decide,?_⟩,rfl,rfl⟩;intro j u e;match j,e with
   | 0,e=>cases e; exact zAR _ _
   | 1,e=>cases e; exact zAR _ _
   | 2,e=>cases e; rfl
   | j + 3,e=>simp at e
mutual
theorem zDp (h:a <= b):∀ {d:D},D.und a d = true -> D.und b d = true
 | .non,_=>by unfold D.und; rfl
 | .bl _,_=>by unfold D.und; rfl
 | .int _,_=>by unfold D.und; rfl
 | .str _,_=>by unfold D.und; rfl
 | .tup ds,e=>by unfold D.und at e ⊢; exact zCy h e
 | .ref k,e=>by unfold D.und at e ⊢; simp at e ⊢; omega
theorem zCy (h:a <= b):∀ {ds:List D},D.unds a ds = true -> D.unds b ds = true
 | [],_=>by unfold D.unds; rfl
 | d :: ds,e=>by
  unfold D.unds at e ⊢;rw [zWm] at e ⊢;exact ⟨zDp h e.1,zCy h e.2⟩
end
theorem zO7 (h:a <= b) (e:MO.und a u = true):MO.und b u = true:=by
 cases u with
 | lst xs=>exact zCy h e
 | fro xs=>exact zCy h e
 | set xs=>exact zCy h e
 | dict kvs=>
  unfold MO.und at e ⊢;rw [zWn] at e ⊢;intro p hp;have:=e p hp;rw [zWm] at this ⊢;exact ⟨zDp h this.1,zDp h this.2⟩
 | dicT kvs=>
  unfold MO.und at e ⊢;rw [zWn] at e ⊢;intro p hp;have:=e p hp;rw [zWm] at this ⊢;exact ⟨zDp h this.1,zDp h this.2⟩
theorem zIG:∀ {xs ys:List D},D.unds n (xs ++ ys) = (D.unds n xs && D.unds n ys)
 | [],ys=>by simp [D.unds]
 | x :: xs,ys=>by
  show (D.und n x && D.unds n (xs ++ ys)) = ((D.und n x && D.unds n xs) && D.unds n ys);rw [zIG,Bool.and_assoc]
theorem zGP:∀ {xs:List D},(∀ x ∈ xs,D.und n x = true) -> D.unds n xs = true
 | [],_=>rfl
 | x :: xs,h=>by
  show (D.und n x && D.unds n xs) = true;rw [h x zWQ,zGP fun y hy=>h y (zWP _ hy)]; rfl
theorem zAE (c:List Int):D.und n (.tup (c.map D.int)) = true:=by unfold D.und; exact zAR n c
theorem Gen.app (h:Gen A n k) (hu:∀ u ∈ us,MO.und (A.length + us.length) u = true):Gen (A ++ us) n k:=by
 obtain ⟨c,s,e1,e2,r⟩:=h.ex;obtain ⟨hn,hk⟩:=h.lt;refine ⟨⟨c,s,by rw [zWJ hn]; exact e1,by rw [zWJ hk]; exact e2,r⟩,h.ne,fun j u e=>?_⟩;rw [zWS];by_cases hj:j < A.length
 ·rw [zWJ hj] at e;exact zO7 (by omega) (h.wf j u e)
 ·rw [zXM (by omega)] at e;exact hu u (List.mem_of_getElem? e)
theorem zAa (h:Gen M n k) (ha:fa σ M = some (.dat (.ref n),M)) (hb:fb σ M = some (.dat (.int m),M)) (h0:0 < m) (h1:m < 1073741824)
  (q:∀ i M',0 <= i -> i < m -> Nx M M' n k -> P (.dat (.int i)) M'):Ok (za zk (zH (toD fa) (zH (toD fb) zQ)) σ M) P:=by
 rw [zDR,zAp,zAu];refine ⟨_,_,ha,?_⟩;rw [zU,zAp,zAu];refine ⟨_,_,hb,?_⟩;rw [zU,zB6];refine Ok.mono (zS5 h h0 h1) ?_;rintro d M' ⟨⟨i,rfl,i0,i1⟩,nx⟩;exact q i M' i0 i1 nx
def zCi (i:Nat):Nat -> List D
 | 0=>[]
 | n + 1=> .int i :: zCi (i + 1) n
theorem zJ1 (n:Nat):∀ i,((List.range' i n).map fun (k:Nat)=>D.int k) = zCi i n:=by
 induction n with
 | zero=>intro i; rfl
 | succ n ih=>intro i; rw [List.range'_succ,zWV,ih]; rfl
theorem zIR (n:Nat):((List.range n).map fun (k:Nat)=>D.int k) = zCi 0 n:=by rw [List.range_eq_range',zJ1]
theorem zCV:∀ (n i:Nat),(zCi i n).length = n
 | 0,_=>rfl
 | n + 1,i=>by show (zCi (i + 1) n).length + 1 = _; rw [zCV n]
theorem zJ3 (n:Nat) (I:Nat -> Sd -> Mem -> Prop)
  (hs:∀ i σ M,i < n -> I i σ M -> ∃ σ1,g (.int i) σ = some σ1 /\ OkS (b σ1 M) fun o σ2 M2=>match o with | .nx=>I (i + 1) σ2 M2 | .cnt=>I (i + 1) σ2 M2 | .brk=>P .nx σ2 M2 | .ret d=>P (.ret d) σ2 M2)
  (he:∀ σ M,I n σ M -> P .nx σ M) (σ:Sd) (M:Mem) (h0:I 0 σ M):OkS (zC5 g b all none (zCi 0 n) σ M) P:=by
 refine zBG (I:=fun r σ M=>∃ i,i <= n /\ r = zCi i (n - i) /\ I i σ M) ?_ ?_ _ _ _ ⟨0,zWy _,by simp,h0⟩
 ·rintro x r σ M ⟨i,hi,e,hI⟩;have hlt:i < n:=by
   rcases zXY i n with z | z
   ·exact z
   ·rw [show n - i = 0 by omega] at e; cases e
  rw [show n - i = (n - (i + 1)) + 1 by omega] at e;obtain ⟨rfl,rfl⟩:=zXG e;obtain ⟨σ1,e1,q⟩:=hs i σ M hlt hI;refine ⟨zAK,σ1,e1,OkS.mono q ?_⟩;intro o σ2 M2 z;cases o with
  | nx=>exact ⟨i + 1,hlt,rfl,z⟩
  | cnt=>exact ⟨i + 1,hlt,rfl,z⟩
  | brk=>exact z
  | ret d=>exact z
 ·rintro σ M ⟨i,hi,e,hI⟩;have:i = n:=by
   rcases zXY i n with z | z
   ·rw [show n - i = (n - (i + 1)) + 1 by omega] at e; cases e
   ·omega
  subst this;exact ⟨zAK,he σ M hI⟩
theorem zPX (n:Nat) (I:Nat -> List D -> Mem -> Prop)
  (hs:∀ i acc M,i < n -> I i acc M -> ∃ σ1,g (.int i) σ = some σ1 /\ Ok (te σ1 M) (zIC fun d M2=>I (i + 1) (acc ++ [d]) M2)) (h0:I 0 [] M) :
  Ok (zBF g zAJ te σ all none (zCi 0 n) M) fun ys M1=>I n ys M1:=by
 refine Ok.mono (zDw (I:=fun r acc M=>∃ i,i <= n /\ r = zCi i (n - i) /\ I i acc M) (Q:=fun acc M=>I n acc M) ?_ ?_ _ [] _ ⟨0,zWy _,by simp,h0⟩) fun ys M1 q=>by simpa using q
 ·rintro x r acc M ⟨i,hi,e,hI⟩;have hlt:i < n:=by
   rcases zXY i n with z | z
   ·exact z
   ·rw [show n - i = 0 by omega] at e; cases e
  rw [show n - i = (n - (i + 1)) + 1 by omega] at e;obtain ⟨rfl,rfl⟩:=zXG e;obtain ⟨σ1,e1,q⟩:=hs i acc M hlt hI;refine ⟨zAK,σ1,e1,zLi.mpr ?_⟩;rw [zWR rfl];refine Ok.mono q ?_;intro x M2 z;cases x with
  | dat d=>exact ⟨i + 1,hlt,rfl,z⟩
  | fl xs=>exact ⟨i + 1,hlt,rfl,z⟩
 ·rintro acc M ⟨i,hi,e,hI⟩;have:i = n:=by
   rcases zXY i n with z | z
   ·rw [show n - i = (n - (i + 1)) + 1 by omega] at e; cases e
   ·omega
  subst this;exact ⟨zAK,hI⟩
theorem zCC (e:f σ M = some (.dat (.int j),M)) (h1:0 <= j) (h2:j < 2 ^ 62):zAY (zH (toD f) zQ) σ M = some (zCi 0 j.toNat,none,M):=by
 have e':(zH (toD f) zQ) σ M = some ([.int j],M):=by unfold zH toD zQ; rw [e]
 rw [zMF e' h1 h2,zIR]
def mD (zA:List (List Int)):D:=.tup (zA.map fun r=> .tup (r.map D.int))
structure IsM (zA:List (List Int)) (l:Nat):Prop where
 r0:0 < zA.length
 l0:0 < l
 row:∀ r ∈ zA,r.length = l /\ ∀ g ∈ r,0 <= g /\ g < zA.length
theorem zEB (zA:List (List Int)):D.und n (mD zA) = true:=by
 unfold mD D.und;refine zGP fun x hx=>?_;obtain ⟨r,_,rfl⟩:=zWT.mp hx;exact zAE r
theorem ze {α:Type} {x:Option (α × Mem)} {a:α} {M:Mem} (h:Ok x fun b M'=>b = a /\ M' = M):x = some (a,M):=by
 obtain ⟨b,M',e,rfl,rfl⟩:=h; exact e
theorem zJ {α:Type} {x:Option (α × Mem)} {a:α} {M:Mem} {P:α -> Mem -> Prop} (h:x = some (a,M)) (p:P a M):Ok x P:=⟨a,M,h,p⟩
theorem zFW {c:FT} {a g:FS} {σ:Sd} {M:Mem} {P:Out -> Sd -> Mem -> Prop} (hc:c σ M = some (false,M)) (h:OkS (g σ M) P):OkS (zT (sIf c a zBt) g σ M) P:=by
 rw [zR,zBs];refine zJ hc ?_;rw [zWU (by decide),zBC];exact h
theorem zME {c:FT} {a:FS} {σ:Sd} {M:Mem} {P:Out -> Sd -> Mem -> Prop} (hc:c σ M = some (false,M)) (h:P .nx σ M):OkS (sIf c a zBt σ M) P:=by
 rw [zBs];refine zJ hc ?_;rw [zWU (by decide),zBC];exact h
theorem zDi {f:FE} {σ:Sd} {M M':Mem} {k:Bool} (h:f σ M = some (.dat (.bl k),M')):zDU (tst f) σ M = some (!k,M'):=by
 unfold zDU tst; rw [h]
theorem zo {f:FE} {σ:Sd} {M:Mem} {d:D} (h:f σ M = some (.dat d,M)):zH (toD f) zQ σ M = some ([d],M):=by
 unfold zH toD zQ; rw [h]
theorem zt {f:FE} {g:FA} {σ:Sd} {M:Mem} {d:D} {ds:List D} (h:f σ M = some (.dat d,M)) (hg:g σ M = some (ds,M)):zH (toD f) g σ M = some (d :: ds,M):=by
 unfold zH toD; rw [h]; dsimp only; rw [hg]
theorem z0 {m:FF} {a:FA} {σ:Sd} {M M':Mem} {ds:List D} {d:D} (h:a σ M = some (ds,M)) (hm:m ds M = some (d,M')):za m a σ M = some (.dat d,M'):=by
 unfold za; rw [h]; dsimp only; rw [hm]
theorem zV {k:K2} {f g:FE} {σ:Sd} {M:Mem} {x y:EV} {r:Option (EV × Mem)} (hf:f σ M = some (x,M)) (hg:g σ M = some (y,M)) (hk:k x y M = r):fOp k f g σ M = r:=by
 unfold fOp; rw [hf]; dsimp only; rw [hg]; exact hk
theorem zTY {xs ys:List D} {M:Mem} (h:xs.length + ys.length <= sizeLine):zAl (.dat (.tup xs)) (.dat (.tup ys)) M = some (.dat (.tup (xs ++ ys)),M):=ze (zUu.mpr ⟨h,rfl,rfl⟩)
theorem zBp {x:EV} {xs:List D} {i:Int} {d:D} {M:Mem} (h:zAc M x = some xs) (hd:atI xs i = some d):kIx x (.dat (.int i)) M = some (.dat d,M):=ze (zRF h hd ⟨rfl,rfl⟩)
theorem zFA {f:FE} {x:EV} {xs:List D} {σ:Sd} {M:Mem} (hf:f σ M = some (x,M)) (h:zAc M x = some xs):fB zB1 (zb f zv) σ M = some (.dat (.int xs.length),M):=by
 unfold fB zb zv; rw [hf]; exact ze ((zTE h).mpr ⟨rfl,rfl⟩)
def zAx (zA:List (List Int)) (h g:Int):Int:=(zA.getD h.toNat []).getD g.toNat 0
def zCZ (zA:List (List Int)) (room:Int) (word:List Int):Int:=word.foldl (zAx zA) room
theorem zRA {zA:List (List Int)} {h:Int} (h0:0 <= h) (h1:h < zA.length):atI (zA.map fun r=>D.tup (r.map D.int)) h = some (.tup ((zA.getD h.toNat []).map D.int)):=by
 refine zQC h0 ?_;rw [zWZ,zWH,zWG (by omega)];rfl
theorem zM1 {r:List Int} {g:Int} (h0:0 <= g) (h1:g < r.length):atI (r.map D.int) g = some (.int (r.getD g.toNat 0)):=by
 refine zQC h0 ?_;rw [zWZ,zWH,zWG (by omega)];rfl
theorem IsM.get {zA:List (List Int)} {l:Nat} (m:IsM zA l) {h:Int} (h0:0 <= h) (h1:h < zA.length):(zA.getD h.toNat []).length = l /\ ∀ g ∈ zA.getD h.toNat [],0 <= g /\ g < zA.length:=by
 refine m.row _ ?_;rw [zWH,zWG (by omega)];exact zWk _
theorem IsM.step {zA:List (List Int)} {l:Nat} (m:IsM zA l) {h g:Int} (h0:0 <= h) (h1:h < zA.length) (g0:0 <= g) (g1:g < l):0 <= zAx zA h g /\ zAx zA h g < zA.length:=by
 obtain ⟨q1,q2⟩:=m.get h0 h1;refine q2 _ ?_;unfold zAx;rw [zWH (l:=zA.getD h.toNat []),zWG (by omega)];exact zWk _
theorem IsM.led {zA:List (List Int)} {l:Nat} (m:IsM zA l):∀ (word:List Int) {h:Int},0 <= h -> h < zA.length -> (∀ g ∈ word,0 <= g /\ g < l) -> 0 <= zCZ zA h word /\ zCZ zA h word < zA.length
 | [],h,h0,h1,_=>⟨h0,h1⟩
 | g :: r,h,h0,h1,hw=>by
  obtain ⟨g0,g1⟩:=hw g zWQ;obtain ⟨s0,s1⟩:=m.step h0 h1 g0 g1;exact IsM.led m r s0 s1 fun x hx=>hw x (zWP _ hx)
theorem IsM.ix {zA:List (List Int)} {l:Nat} (m:IsM zA l) {h g:Int} (h0:0 <= h) (h1:h < zA.length) (g0:0 <= g) (g1:g < l) {f1 f2 f3:FE} {σ:Sd} {M:Mem} (e1:f1 σ M = some (.dat (mD zA),M)) (e2:f2 σ M = some (.dat (.int h),M)) (e3:f3 σ M = some (.dat (.int g),M)) :
  fOp kIx (fOp kIx f1 f2) f3 σ M = some (.dat (.int (zAx zA h g)),M):=by
 obtain ⟨q1,_⟩:=m.get h0 h1;exact zV (zV e1 e2 (zBp zAA (zRA h0 h1))) e3 (zBp zAA (zM1 g0 (by omega)))
theorem zT5 {σ:Sd} {M:Mem} {ns:List Int} {j:Nat} {i:Int} (hσ:σ[i.toNat]? = σ[i.toNat]?) (hi:zD j σ M = some (.dat (.ref 0),M)) (h0:M[0]? = some (.fro (ns.map D.int))):∃ c:List Int,fSl (zD j) zFh (zCX (fC (.int i))) σ M = some (.fl (c.map D.int),M) /\ c.length <= ns.length:=by
 obtain ⟨c,ec,lc⟩:=zL2 ns none (some i);refine ⟨c,ze (zQO.mpr (zJ hi (zHw.mpr (zHo.mpr (zCj.mpr (zHV.mpr ?_)))))),lc⟩;rw [zMr (zJo h0) rfl,ec]; exact ⟨rfl,rfl⟩
theorem zFw (hf:f σ M = some (x,M)) (ht:zSG M x = some t):zH4 T f σ M = some (.dat (.bl (isT t T)),M):=by
 unfold zH4; rw [hf]; dsimp only; rw [ht]
theorem zAs (h:f σ M = some (.dat (.bl k),M')):tst f σ M = some (k,M'):=by unfold tst; rw [h]
theorem zAk (hf:f σ M = some (.dat d,M)) (h:P (.ret d) σ M):OkS (zAI f σ M) P:=by
 rw [zAt]; exact zJ hf h
theorem zCD {α:Type} (as:List α) (enc out:α -> D) (hi:fi σ M = some (as.map enc,gd,M)) (hgd:zBE gd (as.map enc) M) (hz:as.length <= 100000)
  (he:∀ a ∈ as,∃ σ1,g (enc a) (zBl own σ) = some σ1 /\ te σ1 M = some (.dat (out a),M)):zAO own fi g zAJ te σ M = some (.fl (as.map out),M):=by
 refine ze (zFD.mpr ⟨_,_,_,hi,by rw [zWL]; exact zy hz,?_⟩);refine Ok.mono (zDw (I:=fun r acc M'=>M' = M /\ ∃ ra rb:List α,as = rb ++ ra /\ r = ra.map enc /\ acc = rb.map out) (Q:=fun acc M'=>M' = M /\ acc = as.map out) ?_ ?_ _ [] _ ⟨rfl,as,[],rfl,rfl,rfl⟩) ?_
 ·rintro x r acc M' ⟨rfl,ra,rb,hab,hr,rfl⟩;cases ra with
  | nil=>cases hr
  | cons a ra=>
   rw [zWV] at hr;obtain ⟨rfl,rfl⟩:=zXG hr;obtain ⟨σ1,e1,e2⟩:=he a (by rw [hab]; simp);refine ⟨hgd,σ1,e1,zLi.mpr ?_⟩;rw [zWR rfl];refine zJ e2 ?_;rw [zU];exact ⟨rfl,ra,rb ++ [a],by rw [hab]; simp,rfl,by simp⟩
 ·rintro acc M' ⟨rfl,ra,rb,hab,hr,rfl⟩;cases ra with
  | nil=>rw [zWw] at hab; subst hab; exact ⟨hgd,rfl,rfl⟩
  | cons a ra=>cases hr
 ·rintro ys M' ⟨rfl,h⟩;rw [List.nil_append] at h;subst h;exact ⟨rfl,rfl⟩
theorem zCd (hf:f σ M = some (x,M)) (h:zAc M x = some xs):fB zBR (zb f zv) σ M = some (.dat (.tup xs),M):=by
 unfold fB zb zv; rw [hf]; exact ze ((zKl h).mpr ⟨rfl,rfl⟩)
theorem zCu (hf:f σ M = some (.dat (.tup xs),M)):zAi f σ M = some (xs,none,M):=zFP hf zAA
theorem zMj (n:Nat):zCi 0 n = (List.range n).map fun (k:Nat)=>D.int k:=(zIR n).symm
theorem zJG (e:f σ M = some (.dat (.int j),M)) (h1:0 <= j) (h2:j < 2 ^ 62):zAY (zH (toD f) zQ) σ M = some ((List.range j.toNat).map (fun (k:Nat)=>D.int k),none,M):=by
 rw [zCC e h1 h2,zMj]
theorem zBk (hf:f σ M = some (.dat d,M)) (h:OkS (g (σ.set i (some d)) M) P):OkS (zT (zAC i f) g σ M) P:=by
 rw [zR,zg]; exact zJ hf h
theorem zTA (h:f σ M = some (.dat d,M')):zH (toD f) zQ σ M = some ([d],M'):=by
 unfold zH toD zQ; rw [h]
theorem zHa {α β:Type} (f:α -> β) (d:α):∀ xs:List α,(List.range xs.length).map (fun i=>f (xs.getD i d)) = xs.map f
 | []=>rfl
 | x :: xs=>by
  rw [zWj,List.range_succ_eq_map,zWV,zWa,zWV,<- zHa f d xs];rfl
open ST
def ris (xs:List Int):List Int:=zEb (zAN xs)
theorem zCq (xs:List Int) (x:Int):x ∈ ris xs ↔ x ∈ xs:=by
 unfold ris; rw [(zCK _).mem_iff,zMq]
theorem zH9 (xs:List Int):(ris xs).Pairwise (· < ·):=by
 have h1:=zHW (zAN xs);have h2:(ris xs).Nodup:=(zCK _).nodup_iff.mpr (zKO xs);unfold ris at h2 ⊢;exact (h1.and h2).imp fun {a b} h=>by have:=h.1; have:=h.2; omega
theorem zGn:∀ {xs ys:List Int},xs.Pairwise (· < ·) -> ys.Pairwise (· < ·) -> (∀ x,x ∈ xs ↔ x ∈ ys) -> xs = ys
 | [],[],_,_,_=>rfl
 | [],y :: ys,_,_,h=>by have:=(h y).mpr zWQ; cases this
 | x :: xs,[],_,_,h=>by have:=(h x).mp zWQ; cases this
 | x :: xs,y :: ys,h1,h2,h=>by
  have hx:=List.pairwise_cons.mp h1;have hy:=List.pairwise_cons.mp h2;have e:x = y:=by
   have a:=(h x).mp zWQ;have b:=(h y).mpr zWQ;rcases zWO.mp a with z | z
   ·exact z
   ·rcases zWO.mp b with q | q
    ·exact q.symm
    ·have:=hx.1 y q; have:=hy.1 x z; omega
  subst e;rw [zGn hx.2 hy.2 fun z=>?_];constructor
  ·intro hz;rcases zWO.mp ((h z).mp (zWP _ hz)) with q | q
   ·subst q; have:=hx.1 _ hz; omega
   ·exact q
  ·intro hz;rcases zWO.mp ((h z).mpr (zWP _ hz)) with q | q
   ·subst q; have:=hy.1 _ hz; omega
   ·exact q
theorem zGC (h:∀ x,x ∈ xs ↔ x ∈ ys):ris xs = ris ys:=zGn (zH9 xs) (zH9 ys) fun x=>by rw [zCq,zCq]; exact h x
theorem zKA (h:xs.Pairwise (· < ·)):ris xs = xs:=zGn (zH9 xs) h fun x=>zCq xs x
theorem zNl (xs:List Int):(ris xs).length <= xs.length:=by
 unfold ris; rw [(zCK _).length_eq]; exact zDK xs
theorem zTv (h:0 < xs.length):0 < (ris xs).length:=by
 cases xs with
 | nil=>cases h
 | cons x r=>exact List.length_pos_of_mem ((zCq (x :: r) x).mpr zWQ)
theorem zSE (f:Int -> Int) (xs:List Int):ris ((ris xs).map f) = ris (xs.map f):=zGC fun x=>by simp [zCq]
theorem zSX (h:zAO own fi g tc te σ M = some (.fl (ks.map D.int),M)) (hz:ks.length <= 4000):zJj own fi g tc te σ M = some (zAN ks,M):=by
 unfold zJj; rw [h]; dsimp only; rw [zD3]; dsimp only; rw [zWR (by unfold scanBound; omega)]
theorem zRZ (h:f σ M = some (x,M)) (hx:zAc M x = some (ks.map D.int)) (hz:ks.length <= 4000):zHd f σ M = some (zAN ks,M):=by
 unfold zHd; rw [h]; dsimp only; rw [hx]; dsimp only; rw [zD3]; dsimp only; rw [zWR (by unfold scanBound; omega)]
theorem zLs (h:fz σ M = some (zAN ks,M)) (hz:(zAN ks).length < 64):zGv fz σ M = some (.fl ((ris ks).map D.int),M):=by
 unfold zGv; rw [h]; dsimp only; rw [zWR hz]; rfl
noncomputable def zGa:FS:=(zAI (fB zBR (zb (zGv (zJj [3] (zAi (zD 1)) (gN 3) zAJ (fOp kIx (fOp kIx (zD 0) (zD 3)) (zD 2)))) zv)))
noncomputable def zBL:FF:=zEX (zBX 4 zGa)
noncomputable def zHl:FS:=(zT (zAC 3 (zBN (zH (toD (zD 1)) zQ)))
  (zT (zDJ (zAi (zD 2)) (gN 4) (zBr (fM zA0 (zD 3) (zH (toD (za zBL (zH (toD (zD 0)) (zH (toD (fOp kIx (zD 3) (zOA (fC (.int 1))))) (zH (toD (zD 4)) zQ))))) zQ))))
  (zAI (fB zBR (zb (zD 3) zv)))))
noncomputable def zEt:FF:=zEX (zBX 5 zHl)
noncomputable def zGg:FS:=(zAI (fOp kIx (za zEt (zH (toD (zD 0)) (zH (toD (zD 1)) (zH (toD (zD 2)) zQ)))) (zOA (fC (.int 1)))))
noncomputable def zD0:FF:=zEX (zBX 3 zGg)
def setR (zA:List (List Int)) (S:List Int) (g:Int):List Int:=ris (S.map fun h=>zAx zA h g)
def broR (zA:List (List Int)) (S word:List Int):List Int:=word.foldl (setR zA) S
structure IsS (zA:List (List Int)) (S:List Int):Prop where
 pw:S.Pairwise (· < ·)
 n0:0 < S.length
 mem:∀ x ∈ S,0 <= x /\ x < (zA.length:Int)
theorem zMH:∀ {S:List Int} {a:Int} {n:Nat},S.Pairwise (· < ·) -> (∀ x ∈ S,a <= x /\ x < a + (n:Int)) -> S.length <= n
 | [],_,_,_,_=>zWy _
 | x :: S,a,n,h,hm=>by
  have hx:=List.pairwise_cons.mp h;obtain ⟨m0,m1⟩:=hm x zWQ;have hn:0 < n:=by omega
  have:=zMH (S:=S) (a:=x + 1) (n:=(a + n - (x + 1)).toNat) hx.2 fun y hy=>by
   have:=hx.1 y hy;have:=(hm y (zWP _ hy)).2;omega
  simp only [zWj]; omega
theorem IsS.len (h:IsS zA S):S.length <= zA.length:=zMH h.pw (a:=0) fun x hx=>by have:=h.mem x hx; omega
theorem IsM.setR {zA:List (List Int)} {l:Nat} (m:IsM zA l) {S:List Int} (s:IsS zA S) {g:Int} (g0:0 <= g) (g1:g < l):IsS zA (setR zA S g):=by
 refine ⟨zH9 _,zTv (by rw [zWL]; exact s.n0),fun x hx=>?_⟩;obtain ⟨y,hy,rfl⟩:=zWT.mp ((zCq _ _).mp hx);obtain ⟨y0,y1⟩:=s.mem y hy;exact m.step y0 y1 g0 g1
theorem IsM.broR {zA:List (List Int)} {l:Nat} (m:IsM zA l):∀ (word:List Int) {S:List Int},IsS zA S -> (∀ g ∈ word,0 <= g /\ g < (l:Int)) -> IsS zA (broR zA S word)
 | [],S,s,_=>s
 | g :: r,S,s,hw=>by
  obtain ⟨g0,g1⟩:=hw g zWQ;exact IsM.broR m r (m.setR s g0 g1) fun x hx=>hw x (zWP _ hx)
theorem zNu (zA:List (List Int)):∀ (word:List Int) (S:List Int),broR zA (ris S) word = ris (S.map fun r=>zCZ zA r word)
 | [],S=>by show ris S = ris (S.map fun r=>r); rw [List.map_id']
 | g :: w,S=>by
  show broR zA (setR zA (ris S) g) w = _;unfold setR;rw [zSE];rw [zNu zA w];rw [zWa]; rfl
theorem zH8 (h:S.Pairwise (· < ·)) (word:List Int):broR zA S word = ris (S.map fun r=>zCZ zA r word):=by
 have:=zNu zA word S;rw [zKA h] at this; exact this
def tI (xs:List Int):D:=.tup (xs.map D.int)
theorem zHR {zA:List (List Int)} {l:Nat} (m:IsM zA l) (hR:zA.length < 64) {S:List Int} (s:IsS zA S) {g:Int} (g0:0 <= g) (g1:g < l) {M:Mem}:zBL [mD zA,tI S,.int g] M = some (tI (setR zA S g),M):=by
 refine ze ?_;unfold zBL;refine zDb (by unfold D.unds D.unds D.unds D.unds; rw [zEB]; simp [tI,zAE,D.und,zAR]) ?_;rw [zAM];unfold zGa;have hl:=s.len;have hz:(zAN (S.map fun h=>zAx zA h g)).length < 64:=by have:=zDK (S.map fun h=>zAx zA h g); rw [zWL] at this; omega
 refine zAk (d:=tI (setR zA S g)) ?_ ⟨by unfold tI; exact zAE _,rfl,rfl⟩;refine zCd (zLs (ks:=S.map fun h=>zAx zA h g) (zSX ?_ (by rw [zWL]; omega)) hz) zER;refine (zCD S D.int (fun h=> .int (zAx zA h g)) (zCu rfl) trivial (by omega) fun h hh=>⟨_,rfl,?_⟩).trans ?_
 ·obtain ⟨h0,h1⟩:=s.mem h hh;exact m.ix h0 h1 g0 g1 rfl rfl rfl
 ·rw [zWa]; rfl
def zG0 (zA:List (List Int)) (S:List Int):List Int -> List (List Int)
 | []=>[S]
 | g :: w=>S :: zG0 zA (setR zA S g) w
theorem zLg {α:Type} (xs:List α) (x:α):atI (xs ++ [x]) (-1) = some x:=by
 unfold atI ixN;rw [zWU (by decide),zWR (by simp; omega)];have:((-1:Int) + ((xs ++ [x]).length:Int)).toNat = xs.length:=by simp; omega
 simp only [Option.bind_some];rw [this]; simp
theorem zSD {zA:List (List Int)} {l:Nat} (m:IsM zA l) (hR:zA.length < 64) {S word:List Int} (s:IsS zA S) (hw:∀ g ∈ word,0 <= g /\ g < (l:Int)) (hz:word.length <= 90000) {M:Mem}:zEt [mD zA,tI S,tI word] M = some (.tup ((zG0 zA S word).map tI),M):=by
 refine ze ?_;unfold zEt;refine zDb (by unfold D.unds D.unds D.unds D.unds; rw [zEB]; simp [tI,zAE,D.und,zAR]) ?_;rw [zAM];unfold zHl;show OkS (zT _ _ [some (mD zA),some (tI S),some (tI word),none,none] []) _;rw [zR,zg];refine zKC.mpr (zAp.mpr (zAu.mpr (zAQ.mpr ⟨_,rfl,zU.mpr (zB6.mpr ⟨zy (by simp),?_⟩)⟩)));rw [zGL,zZ,zR,zBa];refine ⟨_,_,_,zFP rfl zAA,?_⟩;show OkS (zC5 _ _ _ _ _ [some (mD zA),some (tI S),some (tI word),some (.ref 0),none] [.lst [tI S]]) _;refine zBG (I:=fun r σ M'=>∃ (y:Option D) (c:List Int) (acc:List (List Int)) (T:List Int),σ = [some (mD zA),some (tI S),some (tI word),some (.ref 0),y] /\ r = c.map D.int /\ (∀ g ∈ c,0 <= g /\ g < (l:Int)) /\ IsS zA T /\ M' = [.lst ((acc ++ [T]).map tI)] /\ acc ++ zG0 zA T c = zG0 zA S word /\ acc.length + c.length = word.length) ?_ ?_ _ _ _ ⟨none,word,[],S,rfl,rfl,hw,s,rfl,rfl,by simp⟩
 ·rintro x r σ M' ⟨y,c,acc,T,rfl,hc,hg,sT,rfl,e,hl⟩;obtain ⟨z,c',rfl,rfl,rfl⟩:=zDd hc;refine ⟨zAK,_,rfl,?_⟩;rw [zCB];obtain ⟨g0,g1⟩:=hg z zWQ;have eA:([MO.lst ((acc ++ [T]).map tI)]:Mem)[0]? = some (.lst ((acc ++ [T]).map tI)):=rfl;refine zKc.mpr (zAQ.mpr ⟨_,rfl,⟨_,zBb eA⟩,zAp.mpr (zAu.mpr ?_)⟩);refine zJ (z0 (zt rfl (zt (zV (f:=zD 3) (g:=zOA (fC (.int 1))) (y:=.dat (.int (-1))) rfl rfl (zBp (zAH eA) ?_)) (zo rfl))) (zHR m hR sT g0 g1)) ?_
  ·rw [zW4]; exact zLg _ _
  ·rw [zU,zB6,zD2 eA (by rw [zWL,zWS]; simp at hl ⊢; exact zWb (m:=95000) (by omega) (zy (by omega)))];refine ⟨_,c',acc ++ [T],setR zA T z,rfl,rfl,fun g hg'=>hg g (zWP _ hg'),m.setR sT g0 g1,?_,?_,by simp at hl ⊢; omega⟩
   ·simp
   ·rw [<- e]; simp [zG0]
 ·rintro σ M' ⟨y,c,acc,T,rfl,hc,hg,sT,rfl,e,hl⟩;have:c = []:=by cases c with | nil=>rfl | cons _ _=>cases hc
  subst this;refine ⟨zAK,?_⟩;rw [zZ];refine zAk (zCd rfl (zAH (show ([MO.lst ((acc ++ [T]).map tI)]:Mem)[0]? = some (.lst ((acc ++ [T]).map tI)) from rfl))) ?_;have e':acc ++ [T] = zG0 zA S word:=by rw [<- e]; rfl
  rw [e'];refine ⟨?_,rfl,rfl⟩;unfold D.und;refine zGP fun x hx=>?_;obtain ⟨r,_,rfl⟩:=zWT.mp hx;exact zAE r
theorem zJk (zA:List (List Int)):∀ (word S:List Int),∃ us,zG0 zA S word = us ++ [broR zA S word]
 | [],S=>⟨[],rfl⟩
 | g :: w,S=>by
  obtain ⟨us,e⟩:=zJk zA w (setR zA S g);exact ⟨S :: us,by show S :: zG0 zA _ w = _; rw [e]; rfl⟩
theorem zT4 (m:IsM zA l) (hR:zA.length < 64) (s:IsS zA S) (hw:∀ g ∈ word,0 <= g /\ g < (l:Int)) (hz:word.length <= 90000):zD0 [mD zA,tI S,tI word] M = some (tI (broR zA S word),M):=by
 refine ze ?_;unfold zD0;refine zDb (by unfold D.unds D.unds D.unds D.unds; rw [zEB]; simp [tI,zAE,D.und,zAR]) ?_;rw [zAM];unfold zGg;obtain ⟨us,e⟩:=zJk zA word S;refine zAk (d:=tI (broR zA S word)) (zV (z0 (zt rfl (zt rfl (zo rfl))) (zSD m hR s hw hz)) (g:=zOA (fC (.int 1))) (y:=.dat (.int (-1))) rfl (zBp zAA ?_)) ⟨by unfold tI; exact zAE _,rfl,rfl⟩;rw [e,zW4]; exact zLg _ _
end Law
namespace Law
open PySem PySem.Spec PyProof.Rows L2 L3 ST
theorem zM7 (hgd:zBE gd all M) (hg:g x σ = some σ1) (hk:tk σ1 M = some (.dat k,M)) (hv:tv σ1 M = some (.dat v,M)) (hp:zG4 M n k v = some M'):zC8 g zAJ tk tv σ n all gd (x :: r) M = zC8 g zAJ tk tv σ n all gd r M':=by
 rw [zC8];rw [zWR hgd,hg];have et:zAJ σ1 M = some (true,M):=rfl;have e1:toD tk σ1 M = some (k,M):=by unfold toD; rw [hk]
 have e2:toD tv σ1 M = some (v,M):=by unfold toD; rw [hv]
 dsimp only;rw [et]; dsimp only;rw [e1]; dsimp only;rw [e2]; dsimp only;rw [hp]
theorem zJL (hgd:zBE gd all M):zC8 g tc tk tv σ n all gd [] M = some M:=by
 rw [zC8,zWR hgd]
theorem zH1 (e:f σ M = some (.dat (mD zA),M)):fB zB1 (zb f zv) σ M = some (.dat (.int zA.length),M):=by
 have:=zFA e zAA;rw [zWL] at this; exact this
theorem zKf (m:IsM zA l) (e:f σ M = some (.dat (mD zA),M)):fB zB1 (zb (fOp kIx f (fC (.int 0))) zv) σ M = some (.dat (.int l),M):=by
 have r0:=m.r0;have:=zFA (zV (g:=fC (.int 0)) e rfl (zBp zAA (zRA (h:=0) (by omega) (by omega)))) zAA;rw [zWL,(m.get (h:=0) (by omega) (by omega)).1] at this; exact this
theorem zIT (e:f σ M = some (.dat (tI xs),M)):fB zB1 (zb f zv) σ M = some (.dat (.int xs.length),M):=by
 have:=zFA e zAA;rw [zWL] at this; exact this
theorem zKH (hf:f σ M = some (.dat (.bl a),M)) (hg:a = true -> g σ M = some (.dat (.bl b),M)):zLc f g σ M = some (.dat (.bl (a && b)),M):=by
 unfold zLc; rw [hf];cases a with
 | true=>exact hg rfl
 | false=>rfl
theorem zSk (hf:f σ M = some (.dat (.bl a),M)):zPo f σ M = some (.dat (.bl (!a)),M):=by unfold zPo; rw [hf]
theorem zRw (h:f (ds.map some ++ List.replicate (n - ds.length) none) M = some (.dat d,M)):zBX n (zAI f) ds M = some (d,M):=by
 refine ze ?_;rw [zAM];exact zAk h ⟨rfl,rfl⟩
theorem zPQ {bs:List Bool} (h:f σ M = some (.fl (bs.map D.bl),M)):fB zQg (zb f zv) σ M = some (.dat (.bl (bs.all id)),M):=by
 unfold fB zb zv; rw [h]; exact ze ((zUz zUm (zJQ bs)).mpr ⟨rfl,rfl⟩)
theorem zHj {α:Type} (xs:List α) (p:α -> Bool):(xs.map p).all id = xs.all p:=by rw [List.all_map]; rfl
theorem zRu {xs:List D} {lo hi:Option Int} {M:Mem}:kSl (.dat (.tup xs)) lo hi M = some (.dat (.tup (L3.zEw xs lo hi)),M):=rfl
theorem slE {f:FE} {fl fh:FO} {σ:Sd} {M:Mem} {xs:List D} {lo hi:Option Int} (hf:f σ M = some (.dat (.tup xs),M)) (hl:fl σ M = some (lo,M)) (hh:fh σ M = some (hi,M)):fSl f fl fh σ M = some (.dat (.tup (L3.zEw xs lo hi)),M):=by
 unfold fSl; rw [hf]; dsimp only; rw [hl]; dsimp only; rw [hh]; exact zRu
theorem oS (h:f σ M = some (.dat (.int i),M)):zCX f σ M = some (some i,M):=by unfold zCX; rw [h]
abbrev gL (k:Nat) (s:Int):MO:=.lst [.ref k,.int s]
theorem zUi (hk:k < N):MO.und N (gL k s) = true:=by
 show D.unds _ _ = true;unfold D.unds D.unds D.unds D.und;simp [hk]
structure Nw (M M':Mem) (n k:Nat):Prop where
 gen:Gen M' n k
 len:M.length <= M'.length
 fr:∀ j,j < M.length -> j ≠ n -> j ≠ k -> M'[j]? = M[j]?
theorem Nw.trans {M M1 M2:Mem} {n k:Nat} (a:Nw M M1 n k) (b:Nw M1 M2 n k):Nw M M2 n k :=
 ⟨b.gen,zWd a.len b.len,fun j h h1 h2=>(b.fr j (zWb h a.len) h1 h2).trans (a.fr j h h1 h2)⟩
theorem Nx.nw (x:Nx M M' n k):Nw M M' n k:=⟨x.gen,by rw [x.len]; exact zWI _,fun j _ h1 h2=>x.fr j h1 h2⟩
theorem Gen.lst (h:Gen A n k) (xs:List D) (hx:D.unds A.length xs = true):Nw A (A ++ [.lst xs]) n k:=⟨h.app fun u hu=>by
 have:u = .lst xs:=by simpa using hu
 subst this; exact zCy (by simp) hx,by simp,fun j hj _ _=>zWJ hj⟩
theorem Nw.setB (h:Nw M A n k) (g:Gen M n k) (hj:M.length <= j) (hu:MO.und A.length u = true):Nw M (A.set j u) n k:=by
 obtain ⟨hn,hk⟩:=g.lt;obtain ⟨c,s,e1,e2,r⟩:=h.gen.ex;refine ⟨⟨⟨c,s,by rw [zWg (by omega)]; exact e1,by rw [zWg (by omega)]; exact e2,r⟩,g.ne,fun i v e=>?_⟩,by rw [List.length_set]; exact h.len,fun i hi h1 h2=>by rw [zWg (by omega)]; exact h.fr i hi h1 h2⟩;rw [List.length_set];rw [zXl] at e;split at e
 ·split at e
  ·cases e; exact hu
  ·cases e
 ·exact h.gen.wf i v e
theorem Nw.wf0 (h:Nw M M' n k) (g:Gen M n k):∀ (j:Nat) u,j < M.length -> M'[j]? = some u -> MO.und M.length u = true:=fun j u hj e=>by
 obtain ⟨hn,hk⟩:=g.lt;obtain ⟨c,s,e1,e2,r⟩:=h.gen.ex;by_cases q1:j = n
 ·subst q1; rw [e1] at e; cases e; exact zUi hk
 ·by_cases q2:j = k
  ·subst q2; rw [e2] at e; cases e; exact zAR _ _
  ·rw [h.fr j hj q1 q2] at e; exact g.wf j u e
theorem Nw.trim (h:Nw M M' n k) (g:Gen M n k):Nw M (M'.take M.length) n k:=by
 obtain ⟨hn,hk⟩:=g.lt;have tk:∀ j,j < M.length -> (M'.take M.length)[j]? = M'[j]?:=fun j hj=>List.getElem?_take_of_lt hj;have tl:(M'.take M.length).length = M.length:=by have:=h.len; rw [zXa]; omega
 obtain ⟨c,s,e1,e2,r⟩:=h.gen.ex;refine ⟨⟨⟨c,s,(tk n hn).trans e1,(tk k hk).trans e2,r⟩,g.ne,fun j u e=>?_⟩,by omega,fun j hj h1 h2=>(tk j hj).trans (h.fr j hj h1 h2)⟩;have hj:j < M.length:=by have:=(zWF.mp e).1; omega
 rw [tk j hj] at e;rw [tl];exact h.wf0 g j u hj e
theorem Nw.get (h:Nw M M' n k) (e:M[j]? = some u) (h1:j ≠ n) (h2:j ≠ k):M'[j]? = some u :=
 (h.fr j (zWF.mp e).1 h1 h2).trans e
end Law
namespace Lac
open PySem PySem.Spec PyProof.Rows L2 L3 ST Law
noncomputable def zE4:FS:=(zT (zAC 2 (zBN zQ))
  (zT (zDJ (zAY (zH (toD (zD 1)) zQ)) (gN 3) (zBr (fM zFH (zD 2) (zH (toD (za zk (zH (toD (zD 0)) (zH (toD (fOp zAl (zD 3) (fC (.int 1)))) zQ)))) (zH (toD (zD 3)) zQ)))))
  (zAI (zD 2))))
noncomputable def zCa:FF:=zBX 4 zE4
noncomputable def zEO:FS:=(zT (sIf (tst (fOp kEq (zD 1) (fC (.int 0)))) (zAI (zAO [4] (zAY (zH (toD (zD 2)) zQ)) (gN 4) zAJ (za zk (zH (toD (zD 0)) (zH (toD (zD 2)) zQ))))) zBt)
  (zT (sIf (tst (fOp kEq (zD 1) (fC (.int 1)))) (zAI (zAO [4] (zAY (zH (toD (zD 2)) zQ)) (gN 4) zAJ (fOp zGs (fOp zAl (zD 4) (za zk (zH (toD (zD 0)) (zH (toD (fC (.int 3))) zQ)))) (zD 2)))) zBt)
  (zT (sIf (tst (fOp kEq (zD 1) (fC (.int 2)))) (zT (zAC 5 (fOp zOp (fOp zAl (zD 2) (fC (.int 1))) (fC (.int 2))))
  (zT (zAC 6 (zAO [4] (zAY (zH (toD (zD 5)) zQ)) (gN 4) zAJ (za zk (zH (toD (zD 0)) (zH (toD (zD 5)) zQ)))))
  (zAI (fOp zJg (zD 6) (zAO [4] (zAY (zH (toD (fOp zML (zD 2) (zD 5))) zQ)) (gN 4) zAJ (fOp zAl (zD 5) (za zk (zH (toD (zD 0)) (zH (toD (fOp zML (zD 2) (zD 5))) zQ))))))))) zBt)
  (zT (sIf (zCl (tst (fOp kEq (zD 1) (fC (.int 3)))) (tst (fOp kEq (zD 3) (fC (.int 0))))) (zAI (zAO [4] (zAY (zH (toD (zD 2)) zQ)) (gN 4) zAJ (fOp zGs (fOp zAl (zD 4) (fC (.int 1))) (zD 2)))) zBt)
  (zT (sIf (tst (fOp kEq (zD 1) (fC (.int 3)))) (zAI (zAO [4] (zAY (zH (toD (zD 2)) zQ)) (gN 4) zAJ (fOp kIx (zBN (zH (toD (zD 4)) (zH (toD (fC (.int 0))) zQ))) (fB zMO (zb (fOp kEq (zD 4) (fOp zML (zD 2) (fC (.int 1)))) zv))))) zBt)
  (zT (sIf (zFk (tst (fOp kEq (zD 1) (fC (.int 4)))) (tst (fOp kEq (zD 1) (fC (.int 7))))) (zT (zAC 7 (za zk (zH (toD (zD 0)) (zH (toD (zD 2)) zQ))))
  (zAI (zAO [4] (zAY (zH (toD (zD 2)) zQ)) (gN 4) zAJ (fOp kIx (zBN (zH (toD (fOp zGs (fOp zAl (zD 4) (zD 7)) (zD 2))) (zH (toD (zD 7)) zQ))) (fB zMO (zb (fOp kEq (zD 1) (fC (.int 7))) zv)))))) zBt)
  (zT (zAC 8 (za zCa (zH (toD (zD 0)) (zH (toD (zD 2)) zQ))))
  (zT (sIf (zCl (tst (fOp kEq (zD 1) (fC (.int 6)))) (tst (fOp kEq (zD 3) (fC (.int 0))))) (zT (zAC 9 (fOp kIx (zD 8) (za zk (zH (toD (zD 0)) (zH (toD (zD 2)) zQ)))))
  (zMx (zD 9) (zD 8) (za zk (zH (toD (zD 0)) (zH (toD (zD 2)) zQ))))) zBt)
  (zAI (zD 8))))))))))
noncomputable def zCA:FF:=zBX 10 zEO
noncomputable def zDe:FS:=(zT (zAC 3 (za zk (zH (toD (zD 0)) (zH (toD (fC (.int 8))) zQ))))
  (zT (zAC 4 (zAO [5] (zAY (zH (toD (zD 2)) zQ)) (gN 5) zAJ (za zCA (zH (toD (zD 0)) (zH (toD (zD 3)) (zH (toD (zD 1)) (zH (toD (zD 5)) zQ)))))))
  (zAI (fB zBR (zb (zAO [7] (zAY (zH (toD (zD 1)) zQ)) (gN 7) zAJ (fB zBR (zb (zAO [6] (zAi (zD 4)) (gN 6) zAJ (fOp kIx (zD 6) (zD 7))) zv))) zv)))))
noncomputable def zBJ:FF:=zF2 (zBX 8 zDe)
def Col (many:Int) (c:List Int):Prop:=(c.length:Int) = many /\ ∀ x ∈ c,0 <= x /\ x < many
theorem zAF (h:P (.ref M.length) (M ++ [.lst xs])):zIC P (.fl xs) M:=h
theorem zBD (A:Mem) (u:MO):(A ++ [u])[A.length]? = some u:=by simp
theorem zVe (h:0 < b):zGs (.dat (.int a)) (.dat (.int b)) M = some (.dat (.int (a % b)),M):=ze (zHA.mpr ⟨h,rfl,rfl⟩)
theorem zH6 {M:Mem} {n k:Nat} (h:Gen M n k) {own:List Nat} {i:Nat} {f te:FE} {σ:Sd} {cnt lo hi:Int} (c0:0 <= cnt) (c1:cnt <= 90000) (hf:f σ M = some (.dat (.int cnt),M))
  (ht:∀ (r:Nat) (M':Mem),(r:Int) < cnt -> Gen M' n k -> Ok (te ((zBl own σ).set i (some (.int r))) M') fun x M''=>∃ v:Int,x = .dat (.int v) /\ lo <= v /\ v < hi /\ Nx M' M'' n k) :
  Ok (zAO own (zAY (zH (toD f) zQ)) (gN i) zAJ te σ M) fun x M'=>(∃ c:List Int,x = .fl (c.map D.int) /\ (c.length:Int) = cnt /\ ∀ y ∈ c,lo <= y /\ y < hi) /\ Nx M M' n k:=by
 refine zFD.mpr ⟨_,_,_,zCC hf c0 (by omega),by rw [zCV]; exact zy (by omega),?_⟩;refine Ok.mono (zPX (n:=cnt.toNat) (I:=fun j acc M2=>(∃ c:List Int,acc = c.map D.int /\ c.length = j /\ ∀ y ∈ c,lo <= y /\ y < hi) /\ Nx M M2 n k) ?_ ⟨⟨[],rfl,rfl,fun _ h=>by cases h⟩,Nx.refl h⟩) ?_
 ·rintro j acc M2 hj ⟨⟨c,rfl,hcl,hc⟩,nx⟩;refine ⟨_,rfl,?_⟩;refine Ok.mono (ht j M2 (by omega) nx.gen) ?_;rintro x M3 ⟨v,rfl,v0,v1,nx3⟩;rw [zU];refine ⟨⟨c ++ [v],by simp,by simp [hcl],fun z hz=>?_⟩,nx.trans nx3⟩;rcases zWc.mp hz with q | q
  ·exact hc z q
  ·have:z = v:=by simpa using q
   subst this; exact ⟨v0,v1⟩
 ·rintro ys M2 ⟨⟨c,rfl,hcl,hc⟩,nx⟩;exact ⟨⟨c,rfl,by omega,hc⟩,nx⟩
theorem zVI (ha:a σ M = some (.dat x,M)) (hb:b σ M = some (.dat y,M)):zBN (zH (toD a) (zH (toD b) zQ)) σ M = some (.fl [x,y],M):=by
 unfold zBN; rw [zt ha (zo hb)]; dsimp only; rw [zWR (zy (by simp))]
theorem zTI (hl:l σ M = some (.fl [x,y],M)) (ht:t σ M = some (.dat (.bl b),M)):fOp kIx l (fB zMO (zb t zv)) σ M = some (.dat (if b then y else x),M):=by
 have e:fB zMO (zb t zv) σ M = some (.dat (.int (if b then 1 else 0)),M):=by unfold fB zb zv; rw [ht]; rfl
 cases b with
 | true=>exact zV hl e rfl
 | false=>exact zV hl e rfl
theorem zOZ (h:M[n]? = some (.lst xs)) (h0:0 <= i) (h1:i.toNat <= xs.length) (hz:xs.length < 90000):zFH (.dat (.ref n)) [.int i,d] M = some (.non,M.set n (.lst (xs.take i.toNat ++ [d] ++ xs.drop i.toNat))):=by
 unfold zFH; dsimp only; rw [h]; dsimp only; rw [zWR ⟨h0,h1,zWb hz (zy (by omega))⟩]
theorem zQb (h:Gen M n k) (m0:0 < many) (m1:many <= 1000):Ok (zCa [.ref n,.int many] M) fun d M'=>∃ j c,d = .ref j /\ M'[j]? = some (.lst (c.map D.int)) /\ Col many c /\ M.length <= j /\ Nw M M' n k /\ c.Perm ((List.range many.toNat).map fun (x:Nat)=>(x:Int)):=by
 obtain ⟨hn,hk⟩:=h.lt;unfold zCa;rw [zAM];unfold zE4;show OkS (zT _ _ [some (.ref n),some (.int many),none,none] M) _;rw [zR,zg];refine zKC.mpr (zB6.mpr ⟨zy (by simp),zAF ?_⟩);rw [zZ,zR,zBa];have nw1:=h.lst [] rfl;have e1:(M ++ [MO.lst ([]:List D)])[M.length]? = some (.lst []):=zBD _ _;generalize M ++ [MO.lst ([]:List D)] = M1 at nw1 e1;show ∃ xs gd M2,zAY _ [some (.ref n),some (.int many),some (.ref M.length),none] M1 = some (xs,gd,M2) /\ _;refine ⟨_,_,_,zCC rfl (by omega) (by omega),?_⟩;refine zJ3 (n:=many.toNat) (I:=fun i σ M'=>(∃ y,σ = [some (.ref n),some (.int many),some (.ref M.length),y]) /\ ∃ c:List Int,M'[M.length]? = some (.lst (c.map D.int)) /\ c.length = i /\ (∀ x ∈ c,0 <= x /\ x < many) /\ Nw M M' n k /\ c.Perm ((List.range i).map fun (x:Nat)=>(x:Int))) ?_ ?_ _ _ ⟨⟨_,rfl⟩,[],e1,rfl,(fun _ h=>by cases h),nw1,.refl _⟩
 ·rintro i σ M' hi ⟨⟨y,rfl⟩,c,ec,hcl,hc,nw,pm⟩;refine ⟨_,rfl,?_⟩;show OkS (zBr _ [some (.ref n),some (.int many),some (.ref M.length),some (.int (i:Nat))] M') _;rw [zCB];refine zKc.mpr (zAQ.mpr ⟨_,rfl,⟨_,zBb ec⟩,zAp.mpr (zAu.mpr ?_)⟩);refine zAa nw.gen rfl (zV (x:=.dat (.int (i:Nat))) rfl rfl rfl) (by omega) (by omega) fun q M2 q0 q1 nx=>?_;have ec2:=nx.nw.get ec (by omega) (by omega);rw [zU];refine zJ (zo (d:=.int (i:Nat)) rfl) ?_;refine zJ (zOZ ec2 q0 (by rw [zWL]; omega) (by rw [zWL]; omega)) ?_;have hl:M.length < M2.length:=(zWF.mp ec2).1;refine ⟨⟨_,rfl⟩,c.take q.toNat ++ [(i:Int)] ++ c.drop q.toNat,?_,by simp; omega,fun x hx=>?_,?_,?_⟩
  ·rw [zW6 hl];simp
  ·simp only [zWc,zWe] at hx;rcases hx with (w | w) | w
   ·exact hc x (List.mem_of_mem_take w)
   ·omega
   ·exact hc x (List.mem_of_mem_drop w)
  ·refine (nw.trans nx.nw).setB h (zWI _) ?_;show D.unds _ _ = true;rw [<- List.map_take,<- List.map_drop,zIG,zIG,zAR,zAR]; rfl
  ·rw [List.range_succ,zW4];refine List.Perm.trans ?_ (List.Perm.append_right _ pm);rw [zXI];refine List.Perm.trans (List.Perm.append_left _ List.perm_append_comm) ?_;rw [<- zXI,List.take_append_drop];exact .refl _
 ·rintro σ M' ⟨⟨y,rfl⟩,c,ec,hcl,hc,nw,pm⟩;rw [zZ];exact zAk rfl ⟨M.length,c,rfl,ec,⟨by omega,hc⟩,zWI _,nw,pm⟩
theorem zSx (h:Col many c) (hj:j < c.length):0 <= c.getD j 0 /\ c.getD j 0 < many:=by
 rw [zWH,zWG hj]; exact h.2 _ (zWk hj)
theorem zQu (h:Col many c) (hj:j < c.length):Col many (c.set i (c.getD j 0)):=by
 refine ⟨by rw [List.length_set]; exact h.1,fun x hx=>?_⟩;rcases List.mem_or_eq_of_mem_set hx with q | q
 ·exact h.2 x q
 ·rw [q,zWH,zWG hj]; exact h.2 _ (zWk hj)
theorem zOm {M:Mem} {n k:Nat} (h:Gen M n k) {fam many let_:Int} (m0:0 < many) (m1:many <= 1000) :
  Ok (zCA [.ref n,.int fam,.int many,.int let_] M) fun d M'=>∃ j c,d = .ref j /\ M'[j]? = some (.lst (c.map D.int)) /\ Col many c /\ M.length <= j /\ Nw M M' n k:=by
 obtain ⟨hn,hk⟩:=h.lt;unfold zCA;rw [zAM];unfold zEO;show OkS (zT _ _ [some (.ref n),some (.int fam),some (.int many),some (.int let_),none,none,none,none,none,none] M) _;have isf:∀ (j:Int) (σ:Sd) (M:Mem),σ[1]? = some (some (.int fam)) -> tst (fOp kEq (zD 1) (fC (.int j))) σ M = some (decide (fam = j),M):=fun j σ M e=>by
  have v4:zD 1 σ M = some (.dat (.int fam),M):=by unfold zD; rw [e]
  exact zAs (zV v4 rfl (ze (zK6.mpr ⟨rfl,rfl⟩)))
 have isl:∀ (σ:Sd) (M:Mem),σ[3]? = some (some (.int let_)) -> tst (fOp kEq (zD 3) (fC (.int 0))) σ M = some (decide (let_ = 0),M):=fun σ M e=>by
  have v4:zD 3 σ M = some (.dat (.int let_),M):=by unfold zD; rw [e]
  exact zAs (zV v4 rfl (ze (zK6.mpr ⟨rfl,rfl⟩)))
 have andE:∀ {a b:FT} {σ:Sd} {M:Mem} {x y:Bool},a σ M = some (x,M) -> b σ M = some (y,M) -> zCl a b σ M = some (x && y,M):=fun {a b σ M x y} ha hb=>by
  unfold zCl; rw [ha]; cases x <;> first | exact hb | rfl
 have orE:∀ {a b:FT} {σ:Sd} {M:Mem} {x y:Bool},a σ M = some (x,M) -> b σ M = some (y,M) -> zFk a b σ M = some (x || y,M):=fun {a b σ M x y} ha hb=>by
  unfold zFk; rw [ha]; cases x <;> first | exact hb | rfl
 have new:∀ (A:Mem) (c':List Int),Nw M A n k -> Col many c' -> ∃ j c,D.ref A.length = D.ref j /\ (A ++ [MO.lst (c'.map D.int)])[j]? = some (.lst (c.map D.int)) /\ Col many c /\ M.length <= j /\ Nw M (A ++ [MO.lst (c'.map D.int)]) n k:=fun A c' nw hc'=>
  ⟨A.length,c',rfl,zBD _ _,hc',nw.len,nw.trans (nw.gen.lst _ (zAR _ _))⟩
 rw [zR,zBs];refine zJ (isf 0 _ _ rfl) ?_;by_cases w0:fam = 0
 ·rw [zWR (by simpa using w0),zAt];refine Ok.mono (zH6 h (cnt:=many) (lo:=0) (hi:=many) (by omega) (by omega) rfl fun r M' hr g=>zAa g rfl rfl m0 (by omega) fun i M2 i0 i1 nx=>⟨i,rfl,i0,i1,nx⟩) ?_;rintro x M1 ⟨⟨c,rfl,hcl,hc⟩,nx⟩;refine zAF ?_;rw [zD5];exact new _ _ nx.nw ⟨hcl,hc⟩
 rw [zWU (by simpa using w0),zBC,zZ,zR,zBs];refine zJ (isf 1 _ _ rfl) ?_;by_cases w1:fam = 1
 ·rw [zWR (by simpa using w1),zAt];refine Ok.mono (zH6 h (cnt:=many) (lo:=0) (hi:=many) (by omega) (by omega) rfl fun r M' hr g=>?_) ?_
  ·refine zAm.mpr (zAm.mpr (zAQ.mpr ⟨_,rfl,zAa g rfl rfl (by decide) (by decide) fun i M2 i0 i1 nx=>zGf.mpr (zAQ.mpr ⟨_,rfl,zHA.mpr ⟨m0,_,rfl,Int.emod_nonneg _ (by omega),Int.emod_lt_of_pos _ m0,nx⟩⟩)⟩))
  rintro x M1 ⟨⟨c,rfl,hcl,hc⟩,nx⟩;refine zAF ?_;rw [zD5];exact new _ _ nx.nw ⟨hcl,hc⟩
 rw [zWU (by simpa using w1),zBC,zZ,zR,zBs];refine zJ (isf 2 _ _ rfl) ?_;by_cases w2:fam = 2
 ·rw [zWR (by simpa using w2)];refine zBk (d:=.int ((many + 1) / 2)) (zV (x:=.dat (.int (many + 1))) (zV rfl rfl rfl) rfl (ze (zQw.mpr ⟨⟨by decide,by decide⟩,rfl,rfl⟩))) ?_;obtain ⟨h0,h1⟩:0 < (many + 1) / 2 /\ (many + 1) / 2 <= many:=by omega
  generalize (many + 1) / 2 = half at h0 h1;rw [zR,zg];refine Ok.mono (zH6 h (cnt:=half) (lo:=0) (hi:=half) (by omega) (by omega) rfl fun r M' hr g=>zAa g rfl rfl h0 (by omega) fun i M2 i0 i1 nx=>⟨i,rfl,i0,i1,nx⟩) ?_;rintro x M1 ⟨⟨c,rfl,hcl,hc⟩,nx⟩;refine zAF ?_;rw [zZ,zAt];have nw2:=nx.nw.trans (nx.gen.lst (c.map D.int) (zAR _ _));have e6:(M1 ++ [MO.lst (c.map D.int)])[M1.length]? = some (.lst (c.map D.int)):=zBD _ _;have hj:M.length <= M1.length:=nx.nw.len;generalize M1 ++ [MO.lst (c.map D.int)] = M2 at nw2 e6;generalize M1.length = j6 at e6 hj;show Ok (fOp _ _ _ [some (.ref n),some (.int fam),some (.int many),some (.int let_),none,some (.int half),some (.ref j6),none,none,none] M2) _;refine zAm.mpr (zAQ.mpr ⟨_,rfl,?_⟩);refine Ok.mono (zH6 nw2.gen (cnt:=many - half) (lo:=half) (hi:=many) (by omega) (by omega) (zV rfl rfl rfl) fun r M' hr g=>?_) ?_
  ·refine zAm.mpr (zAQ.mpr ⟨_,rfl,zAa g rfl (zV (x:=.dat (.int many)) (y:=.dat (.int half)) rfl rfl rfl) (by omega) (by omega) fun i M3 i0 i1 nx3=>zGf.mpr ⟨_,rfl,by omega,by omega,nx3⟩⟩)
  rintro x M3 ⟨⟨c3,rfl,hcl3,hc3⟩,nx3⟩;have e6':=nx3.nw.get e6 (by omega) (by omega);refine zUN (xs:=c.map D.int) (ys:=c3.map D.int) ?_ rfl (by simp; omega) (zAF ?_)
  ·unfold zMd; dsimp only; rw [e6']
  rw [zD5,<- zW4];refine new _ _ (nw2.trans nx3.nw) ⟨by simp; omega,fun x hx=>?_⟩;rcases zWc.mp hx with q | q
  ·have:=hc x q; omega
  ·have:=hc3 x q; omega
 rw [zWU (by simpa using w2),zBC,zZ,zR,zBs];refine zJ (andE (isf 3 _ _ rfl) (isl _ _ rfl)) ?_;by_cases w3:(decide (fam = 3) && decide (let_ = 0)) = true
 ·rw [zWR w3,zAt];refine Ok.mono (zH6 h (cnt:=many) (lo:=0) (hi:=many) (by omega) (by omega) rfl fun r M' hr g=>?_) ?_
  ·exact zJ (zV (x:=.dat (.int ((r:Int) + 1))) (y:=.dat (.int many)) (zV rfl rfl rfl) rfl (zVe m0)) ⟨_,rfl,Int.emod_nonneg _ (by omega),Int.emod_lt_of_pos _ m0,Nx.refl g⟩
  rintro x M1 ⟨⟨c,rfl,hcl,hc⟩,nx⟩;refine zAF ?_;rw [zD5];exact new _ _ nx.nw ⟨hcl,hc⟩
 rw [zWU w3,zBC,zZ,zR,zBs];refine zJ (isf 3 _ _ rfl) ?_;by_cases w3':fam = 3
 ·rw [zWR (by simpa using w3'),zAt];refine Ok.mono (zH6 h (cnt:=many) (lo:=0) (hi:=many) (by omega) (by omega) rfl fun r M' hr g=>?_) ?_
  ·refine zJ (zTI (b:=decide ((r:Int) = many - 1)) (zVI (x:=.int r) (y:=.int 0) rfl rfl) (zV (x:=.dat (.int r)) (y:=.dat (.int (many - 1))) rfl (zV rfl rfl rfl) (ze (zK6.mpr ⟨rfl,rfl⟩)))) ?_;by_cases q:(r:Int) = many - 1
   ·rw [zXK q,zWR rfl]; exact ⟨0,rfl,by omega,by omega,Nx.refl g⟩
   ·rw [zWl q,zWU (by decide)]; exact ⟨r,rfl,by omega,by omega,Nx.refl g⟩
  rintro x M1 ⟨⟨c,rfl,hcl,hc⟩,nx⟩;refine zAF ?_;rw [zD5];exact new _ _ nx.nw ⟨hcl,hc⟩
 rw [zWU (by simpa using w3'),zBC,zZ,zR,zBs];refine zJ (orE (isf 4 _ _ rfl) (isf 7 _ _ rfl)) ?_;by_cases w4:(decide (fam = 4) || decide (fam = 7)) = true
 ·rw [zWR w4,zR,zg];refine zAa h rfl rfl m0 (by omega) fun far M1 a0 a1 nx1=>?_;rw [zU,zZ,zAt];show Ok (zAO _ _ _ _ _ [some (.ref n),some (.int fam),some (.int many),some (.int let_),none,none,none,some (.int far),none,none] M1) _;refine Ok.mono (zH6 nx1.gen (cnt:=many) (lo:=0) (hi:=many) (by omega) (by omega) rfl fun r M' hr g=>?_) ?_
  ·refine zJ (zTI (b:=decide (fam = 7)) (zVI (x:=.int (((r:Int) + far) % many)) (y:=.int far) (zV (x:=.dat (.int ((r:Int) + far))) (y:=.dat (.int many)) (zV rfl rfl rfl) rfl (zVe m0)) rfl) (zV (x:=.dat (.int fam)) (y:=.dat (.int 7)) rfl rfl (ze (zK6.mpr ⟨rfl,rfl⟩)))) ?_;by_cases q:fam = 7
   ·rw [zXK q,zWR rfl]; exact ⟨far,rfl,a0,a1,Nx.refl g⟩
   ·rw [zWl q,zWU (by decide)]; exact ⟨_,rfl,Int.emod_nonneg _ (by omega),Int.emod_lt_of_pos _ m0,Nx.refl g⟩
  rintro x M2 ⟨⟨c,rfl,hcl,hc⟩,nx⟩;refine zAF ?_;rw [zD5];exact new _ _ (nx1.trans nx).nw ⟨hcl,hc⟩
 rw [zWU w4,zBC,zZ,zR,zg];refine zDR.mpr (zJ (zt rfl (zo rfl)) ?_);refine Ok.mono (zQb h m0 m1) ?_;rintro d M1 ⟨j,c,rfl,ej,cc,hj,nw1,_⟩;have cl:=cc.1;rw [zU,zZ,zR,zBs];refine zJ (andE (isf 6 _ _ rfl) (isl _ _ rfl)) ?_;by_cases w6:(decide (fam = 6) && decide (let_ = 0)) = true
 ·rw [zWR w6,zR,zg];refine zAm.mpr (zAQ.mpr ⟨_,rfl,zAa nw1.gen rfl rfl m0 (by omega) fun p M2 p0 p1 nx2=>?_⟩);have ej2:=nx2.nw.get ej (by omega) (by omega);refine zRF (zAH ej2) (zM1 p0 (by omega)) ?_;rw [zU,zZ,zKR];refine zAQ.mpr ⟨_,rfl,?_⟩;rw [zU];refine zAQ.mpr ⟨_,rfl,zAa nx2.gen rfl rfl m0 (by omega) fun q M3 q0 q1 nx3=>?_⟩;have ej3:=nx3.nw.get ej2 (by omega) (by omega);rw [zU];have eq':q = ((q.toNat:Nat):Int):=by omega
  refine ⟨M3.set j (.lst ((c.map D.int).set q.toNat (.int (c.getD p.toNat 0)))),?_,?_⟩
  ·have:=zHu (k:=q.toNat) (d:=.int (c.getD p.toNat 0)) ej3 (by rw [zWL]; omega);rw [<- eq'] at this; exact this
  rw [zZ];refine zAk rfl ⟨j,c.set q.toNat (c.getD p.toNat 0),rfl,?_,zQu cc (by omega),hj,?_⟩
  ·rw [zW6 (zWF.mp ej3).1,List.map_set]
  ·refine ((nw1.trans nx2.nw).trans nx3.nw).setB h hj ?_;show D.unds _ _ = true;rw [<- List.map_set]; exact zAR _ _
 ·rw [zWU w6,zBC,zZ];exact zAk rfl ⟨j,c,rfl,ej,cc,hj,nw1⟩
def zEU (many:Int) (cs:List (List Int)):List (List Int):=(List.range many.toNat).map fun r=>cs.map fun c=>c.getD r 0
theorem zO1 (h0:0 < many) (hc:∀ c ∈ cs,Col many c) (hl:0 < cs.length):IsM (zEU many cs) cs.length:=by
 have hlen:(zEU many cs).length = many.toNat:=by unfold zEU; simp
 refine ⟨by omega,hl,fun r hr=>?_⟩;rw [hlen];unfold zEU at hr;obtain ⟨k,hk,rfl⟩:=zWT.mp hr;refine ⟨by simp,fun g hg=>?_⟩;obtain ⟨c,hcm,rfl⟩:=zWT.mp hg;have:=hc c hcm;have h1:=this.1;have:=zSx this (j:=k) (by have:=zWq.mp hk; omega);omega
def zQU (M:Mem) (lo:Nat) (many:Int) (js:List Nat) (cs:List (List Int)):Prop:=js.length = cs.length /\ ∀ (i:Nat) j c,js[i]? = some j -> cs[i]? = some c -> lo <= j /\ M[j]? = some (.lst (c.map D.int)) /\ Col many c
theorem zMV (h:Gen M n k) (hm:0 < many) (hm1:many <= 900) (hl:0 < lm) (hl1:lm <= 900) :
  Ok (zBJ [.ref n,.int many,.int lm] M) fun d M'=>(∃ zA l,d = mD zA /\ IsM zA l /\ (zA.length:Int) = many /\ (l:Int) = lm) /\ Nw M M' n k:=by
 obtain ⟨hn,hk⟩:=h.lt;unfold zBJ;refine zNp ?_;rw [zAM];unfold zDe;show OkS (zT _ _ [some (.ref n),some (.int many),some (.int lm),none,none,none,none,none] M) _;rw [zR,zg];refine zAa h rfl rfl (by decide) (by decide) fun fam M1 f0 f1 nx1=>?_;rw [zU,zZ,zR,zg];show Ok (zAO _ _ _ _ _ [some (.ref n),some (.int many),some (.int lm),some (.int fam),none,none,none,none] M1) _;refine zFD.mpr ⟨_,_,_,zCC (j:=lm) rfl (by omega) (by omega),by rw [zCV]; exact zy (by omega),?_⟩;refine Ok.mono (zPX (n:=lm.toNat) (I:=fun i acc M'=>∃ (js:List Nat) (cs:List (List Int)),acc = js.map D.ref /\ zQU M' M.length many js cs /\ cs.length = i /\ Nw M M' n k) ?_ ⟨[],[],rfl,⟨rfl,fun i j c h=>by simp at h⟩,rfl,nx1.nw⟩) ?_
 ·rintro i acc M' hi ⟨js,cs,rfl,hcs,hcl,nw⟩;refine ⟨_,rfl,?_⟩;refine zDR.mpr (zJ (zt (d:=.ref n) rfl (zt (d:=.int fam) rfl (zt (d:=.int many) rfl (zo (d:=.int (i:Nat)) rfl)))) ?_);refine Ok.mono (zOm nw.gen hm (by omega)) ?_;rintro d M2 ⟨j,c,rfl,ec,cc,hj,nw2⟩;have hle:=nw.len;rw [zU];refine ⟨js ++ [j],cs ++ [c],by simp,⟨by simp [hcs.1],fun a b c' h1 h2=>?_⟩,by simp [hcl],nw.trans nw2⟩;by_cases ha:a < js.length
  ·rw [zWJ ha] at h1;rw [zWJ (by rw [<- hcs.1]; exact ha)] at h2;obtain ⟨q1,q2,q3⟩:=hcs.2 a b c' h1 h2;exact ⟨q1,nw2.get q2 (by omega) (by omega),q3⟩
  ·have ha':a = js.length:=by
    have:=(zWF.mp h1).1;simp at this; omega
   subst ha';rw [zXM (zWI _)] at h1;rw [zXM (by rw [hcs.1]; exact zWI _)] at h2;simp at h1;rw [hcs.1] at h2;simp at h2;subst h1 h2;exact ⟨by omega,ec,cc⟩
 ·rintro ys M2 ⟨js,cs,rfl,hcs,hcl,nw⟩;refine zAF ?_;rw [zZ];have hju:D.unds M2.length (js.map D.ref) = true:=zGP fun z hz=>by
   obtain ⟨b,hb,rfl⟩:=zWT.mp hz;obtain ⟨i,hi,rfl⟩:=List.mem_iff_getElem.mp hb;have hi':i < cs.length:=by rw [<- hcs.1]; exact hi
   obtain ⟨_,q2,_⟩:=hcs.2 i js[i] cs[i] (zWG hi) (zWG hi');simp [D.und,(zWF.mp q2).1]
  have nwA:=nw.trans (nw.gen.lst (js.map D.ref) hju);have eA:(M2 ++ [MO.lst (js.map D.ref)])[M2.length]? = some (.lst (js.map D.ref)):=zBD _ _;have hA:zQU (M2 ++ [MO.lst (js.map D.ref)]) M.length many js cs:=⟨hcs.1,fun i j c h1 h2=>by
   obtain ⟨q1,q2,q3⟩:=hcs.2 i j c h1 h2;exact ⟨q1,by rw [zWJ (zWF.mp q2).1]; exact q2,q3⟩⟩
  generalize M2 ++ [MO.lst (js.map D.ref)] = A at nwA eA hA;generalize M2.length = j at eA;show OkS (zAI _ [some (.ref n),some (.int many),some (.int lm),some (.int fam),some (.ref j),none,none,none] A) _;have hcol:∀ c ∈ cs,Col many c:=fun c hc=>by
   obtain ⟨i,hi,rfl⟩:=List.mem_iff_getElem.mp hc;exact (hA.2 i (js[i]'(by rw [hA.1]; exact hi)) cs[i] (zWG _) (zWG _)).2.2
  have hlen:(zEU many cs).length = many.toNat:=by unfold zEU; simp
  refine zAk (d:=mD (zEU many cs)) ?_ ⟨⟨zEB _,nwA.len,nwA.wf0 h⟩,⟨zEU many cs,cs.length,rfl,zO1 hm hcol (by omega),by omega,by omega⟩,nwA.trim h⟩;refine (zCd (zCD (List.range many.toNat) (fun k=>D.int k) (fun k=> .tup ((cs.map fun c=>c.getD k 0).map D.int)) (zJG (f:=zD 1) rfl (by omega) (by omega)) trivial (by simp; omega) fun r hr=>⟨_,rfl,?_⟩) zER).trans ?_
  ·have hr':=zWq.mp hr;refine (zCd (zCD (gd:=zFZ (.dat (.ref j)) (js.map D.ref)) (List.range js.length) (fun i=>D.ref (js.getD i 0)) (fun i=> .int ((cs.getD i []).getD r 0)) ?_ ?_ (by rw [zX9,hA.1,hcl]; omega) fun i hi=>⟨_,rfl,?_⟩) zER).trans ?_
   ·rw [show ((List.range js.length).map fun i=>D.ref (js.getD i 0)) = js.map D.ref by
     apply List.ext_getElem
     ·simp
     ·intro i h1 h2;simp at h1;simp [h1]]
    exact zFP (x:=.dat (.ref j)) rfl (zAH eA)
   ·exact .inl eA
   ·have hi':=zWq.mp hi;have hc':i < cs.length:=by rw [<- hA.1]; exact hi'
    have ej':js[i]? = some (js.getD i 0):=by rw [zWH,zWG hi']; rfl
    have ec':cs[i]? = some (cs.getD i []):=by rw [zWH,zWG hc']; rfl
    obtain ⟨_,q2,q3⟩:=hA.2 i _ _ ej' ec';have hz:=q3.1;exact zV (x:=.dat (.ref (js.getD i 0))) (y:=.dat (.int (r:Nat))) rfl rfl (zBp (zAH q2) (zM1 (by omega) (by omega)))
   ·congr 3;rw [zWa];refine zXz D.tup ?_;apply List.ext_getElem
    ·simp [hA.1]
    ·intro i h1 h2;simp at h1 h2;have h2':i < cs.length:=h2;simp [h2']
  ·unfold mD zEU; rw [zWa]; rfl
noncomputable def zEz:FS:=(zAI (zIh (fB zB1 (zb (zD 0) zv))))
noncomputable def zBY:FF:=zBX 1 zEz
noncomputable def zFy:FS:=(zAI (zGe [1,2] [2] (zAi (zD 0)) (gN 1) zAJ (zAi (zD 0)) (gN 2) (tst (fOp kLt (zD 1) (zD 2))) (zBd (zH (toD (zD 1)) (zH (toD (zD 2)) zQ)))))
noncomputable def zA5:FF:=zBX 3 zFy
theorem zK9 {α:Type} (enc out:α -> D) (keep:α -> Bool):∀ (as:List α),(∀ a ∈ as,∃ σ1,g (enc a) σ = some σ1 /\ tc σ1 M = some (keep a,M) /\ (keep a = true -> te σ1 M = some (.dat (out a),M))) -> zBF g tc te σ all none (as.map enc) M = some ((as.filter keep).map out,M)
 | [],_=>by
  rw [List.map_nil];unfold zBF;rw [zWR (show zBE none all M from trivial)]; rfl
 | a :: r,h=>by
  obtain ⟨σ1,e1,e2,e3⟩:=h a zWQ;have ih:=zK9 (all:=all) (σ:=σ) enc out keep r fun b hb=>h b (zWP _ hb);rw [zWV];unfold zBF;rw [zWR (show zBE none all M from trivial),e1];dsimp only;rw [e2];cases hk:keep a with
  | false=>
   dsimp only;rw [ih,List.filter_cons_of_neg (by simp [hk])]
  | true=>
   dsimp only;rw [show toD te σ1 M = some (out a,M) by unfold toD; rw [e3 hk]];dsimp only;rw [ih,List.filter_cons_of_pos hk];rfl
theorem zRX {α β:Type} (as:List α) (enc:α -> D) (bs:α -> List β) (enc2:β -> D) (keep:α -> β -> Bool) (out:α -> β -> D) (B:Nat)
  (hi:fi σ M = some (as.map enc,none,M)) (hB:∀ a ∈ as,(bs a).length <= B) (hz:as.length * B <= 90000)
  (he:∀ a ∈ as,∃ σ1,fg (enc a) (zBl own σ) = some σ1 /\ fi2 σ1 M = some ((bs a).map enc2,none,M) /\ ∀ b ∈ bs a,∃ σ2,fg2 (enc2 b) (zBl own2 σ1) = some σ2 /\ tc2 σ2 M = some (keep a b,M) /\ (keep a b = true -> te σ2 M = some (.dat (out a b),M))) :
  zGe own own2 fi fg zAJ fi2 fg2 tc2 te σ M = some (.fl (as.flatMap fun a=>((bs a).filter (keep a)).map (out a)),M):=by
 have key:∀ (r:List α) (acc:List D),(∀ a ∈ r,a ∈ as) -> acc.length + r.length * B <= 90000 -> zKZ fg zAJ fi2 own2 fg2 tc2 te (zBl own σ) (as.map enc) none (r.map enc) acc M = some (acc ++ r.flatMap fun a=>((bs a).filter (keep a)).map (out a),M):=by
  intro r;induction r with
  | nil=>
   intro acc _ _;rw [List.map_nil];unfold zKZ;rw [zWR (show zBE none (as.map enc) M from trivial)]; simp
  | cons a r ih=>
   intro acc hs hl;have ha:=hs a zWQ;obtain ⟨σ1,e1,e2,e3⟩:=he a ha;have hb:=hB a ha;have hlen:(((bs a).filter (keep a)).map (out a)).length <= (bs a).length:=by rw [zWL]; exact List.length_filter_le _ _
   rw [zWj,Nat.add_mul] at hl;rw [zWV];unfold zKZ;rw [zWR (show zBE none (as.map enc) M from trivial),e1];dsimp only;rw [show zAJ σ1 M = some (true,M) from rfl];dsimp only;rw [e2];dsimp only;rw [zWR (zy (by rw [zWL]; omega)),zK9 enc2 (out a) (keep a) (bs a) e3];dsimp only;rw [ih _ (fun b hb=>hs b (zWP _ hb)) (by rw [zWS]; omega)];rw [List.flatMap_cons,zXI]
 unfold zGe;rw [hi];dsimp only;rw [key as [] (fun _ h=>h) (by simpa using hz)];simp
def zd (xs:List Int):List (List Int):=xs.flatMap fun a=>(xs.filter fun b=>decide (a < b)).map fun b=>[a,b]
theorem zHv (hz:xs.length <= 200):zA5 [tI xs] M = some (.ref M.length,M ++ [.lst ((zd xs).map tI)]):=by
 suffices h:Ok (zA5 [tI xs] M) fun d M'=>d = .ref M.length /\ M' = M ++ [.lst ((zd xs).map tI)] by
  obtain ⟨d,M',e,rfl,rfl⟩:=h; exact e
 unfold zA5;rw [zAM];unfold zFy;rw [zAt];have hq:xs.length * xs.length <= 90000:=zWd (zXo hz hz) (by decide);refine zJ (zRX xs D.int (fun _=>xs) D.int (fun a b=>decide (a < b)) (fun a b=>tI [a,b]) xs.length (zCu rfl) (fun _ _=>zWI _) hq fun a ha=>⟨_,rfl,zCu rfl,fun b hb=>⟨_,rfl,?_,fun _=>?_⟩⟩) (zAF ⟨rfl,?_⟩)
 ·exact zAs (zV (x:=.dat (.int a)) (y:=.dat (.int b)) rfl rfl (ze (zTe.mpr ⟨rfl,rfl⟩)))
 ·unfold zBd;rw [zt (d:=.int a) rfl (zo (d:=.int b) rfl)];dsimp only;rw [zWR (zy (by simp))]; rfl
 ·congr 3;unfold zd;rw [List.map_flatMap];congr 1;funext a;rw [zWa]; rfl
theorem zA1:p ∈ zd xs ↔ ∃ a b,p = [a,b] /\ a ∈ xs /\ b ∈ xs /\ a < b:=by
 unfold zd;rw [List.mem_flatMap];constructor
 ·rintro ⟨a,ha,h⟩;obtain ⟨b,hb,rfl⟩:=zWT.mp h;obtain ⟨h1,h2⟩:=zXN.mp hb;exact ⟨a,b,rfl,ha,h1,zW8 h2⟩
 ·rintro ⟨a,b,rfl,ha,hb,hlt⟩;exact ⟨a,ha,zWT.mpr ⟨b,zXN.mpr ⟨hb,zXK hlt⟩,rfl⟩⟩
theorem zMA (hz:zA.length <= 1000):zBY [mD zA] M = some (tI ((List.range zA.length).map fun (k:Nat)=>(k:Int)),M):=by
 refine ze ?_;unfold zBY;rw [zAM];unfold zEz;refine zAk (d:=tI ((List.range zA.length).map fun (k:Nat)=>(k:Int))) ?_ ⟨rfl,rfl⟩;unfold zIh;rw [show fB zB1 (zb (zD 0) zv) ([mD zA].map some ++ List.replicate (1 - [mD zA].length) none) M = some (.dat (.int zA.length),M) from zH1 rfl];dsimp only;rw [zWR ⟨by omega,by omega⟩];unfold upD tI;rw [zWa,show (zA.length:Int).toNat = zA.length by omega]; rfl
def zJq (g:List Int):List Key:=g.map Sum.inl
theorem zLq:∀ {a b:List Int},zJq a = zJq b -> a = b
 | [],[],_=>rfl
 | [],_ :: _,h=>by cases h
 | _ :: _,[],h=>by cases h
 | x :: a,y :: b,h=>by
  have h1:=(zXG h).1;have h2:=zLq (zXG h).2;cases h1; rw [h2]
theorem zIX:∀ g:List Int,zFa (g.map D.int) = some (zJq g)
 | []=>rfl
 | x :: r=>by
  rw [zWV];unfold zFa;rw [zIX r];rfl
theorem zHk (g:List Int):tkD (tI g) = some (zJq g):=zIX g
abbrev zHO (T:List (List Int × D)):List (D × D):=T.map fun q=>(tI q.1,q.2)
abbrev dT (T:List (List Int × D)):MO:=.dicT (zHO T)
def zO:List (List Int × D) -> List Int -> Option D
 | [],_=>none
 | q :: r,g=>if q.1 = g then some q.2 else zO r g
def zDG (T:List (List Int × D)) (g:List Int) (v:D):List (List Int × D):=match zO T g with
 | some _=>T.map fun q=>if q.1 = g then (q.1,v) else q
 | none=>T ++ [(g,v)]
theorem zJy (a g:List Int):decide (tkD (tI a) = some (zJq g)) = decide (a = g):=by
 rw [zHk];by_cases h:a = g
 ·subst h; simp
 ·rw [zWl h,zWl];intro e;exact h (zLq (zXC e))
theorem zPV (g:List Int):∀ T:List (List Int × D),zFb tkD (zHO T) (zJq g) = zO T g
 | []=>rfl
 | q :: r=>by
  have ih:=zPV g r;unfold zFb at ih ⊢;unfold zHO at ih ⊢;rw [zWV,zXy];dsimp only;rw [zJy];unfold zO;by_cases h:q.1 = g
  ·rw [zXK h,zWR h]; rfl
  ·rw [zWl h,zWU h]; exact ih
theorem zTR (g:List Int):∀ T:List (List Int × D),((zHO T).any fun p=>decide (tkD p.1 = some (zJq g))) = (zO T g).isSome
 | []=>rfl
 | q :: r=>by
  have ih:=zTR g r;unfold zHO at ih ⊢;rw [zWV,List.any_cons,zJy];unfold zO;by_cases h:q.1 = g
  ·rw [zXK h,zWR h]; rfl
  ·rw [zWl h,zWU h,Bool.false_or]; exact ih
theorem zU5 (T:List (List Int × D)) (g:List Int) (v:D):zKv tkD (zHO T) (zJq g) (tI g) v = zHO (zDG T g v):=by
 unfold zKv zDG;rw [zTR];cases h:zO T g with
 | none=>
  rw [zWU (by simp)];unfold zHO; rw [zW4]; rfl
 | some d=>
  rw [zWR (by simp)];unfold zHO;dsimp only;rw [zWa,zWa];apply List.map_congr_left;intro q _;show (if tkD (tI q.1) = some (zJq g) then (tI q.1,v) else (tI q.1,q.2)) = (tI (if q.1 = g then (q.1,v) else q).1,(if q.1 = g then (q.1,v) else q).2);have hd:=zJy q.1 g;by_cases hq:q.1 = g
  ·rw [zXK hq] at hd;rw [zWR (zW8 hd),zWR hq]
  ·rw [zWl hq] at hd;rw [zWU (of_decide_eq_false hd),zWU hq]
theorem zFO (T:List (List Int × D)) (g h:List Int) (v:D):zO (zDG T g v) h = if g = h then some v else zO T h:=by
 have app:∀ (T:List (List Int × D)),zO T g = none -> zO (T ++ [(g,v)]) h = if g = h then some v else zO T h:=by
  intro T;induction T with
  | nil=>intro _; rfl
  | cons q r ih=>
   intro e;unfold zO at e;by_cases hq:q.1 = g
   ·rw [zWR hq] at e; cases e
   ·rw [zWU hq] at e;show (if q.1 = h then some q.2 else zO (r ++ [(g,v)]) h) = if g = h then some v else if q.1 = h then some q.2 else zO r h
    rw [ih e];by_cases h1:q.1 = h
    ·rw [zWR h1,zWR h1,zWU (fun z=>hq (h1.trans z.symm))]
    ·rw [zWU h1,zWU h1]
 have mp:∀ (T:List (List Int × D)),(zO T g).isSome = true -> zO (T.map fun q=>if q.1 = g then (q.1,v) else q) h = if g = h then some v else zO T h:=by
  intro T;by_cases hgh:g = h
  ·subst hgh;induction T with
   | nil=>intro e; cases e
   | cons q r ih=>
    intro e;rw [zWV];unfold zO;by_cases hq:q.1 = g
    ·rw [zWR hq]; simp [hq]
    ·rw [zWU hq,zWU hq];unfold zO at e;rw [zWU hq] at e;rw [ih e,zWR rfl,zWR rfl]
  ·intro hx;clear hx;rw [zWU hgh];clear app;induction T with
   | nil=>rfl
   | cons q r ih=>
    rw [zWV];unfold zO;by_cases hq:q.1 = g
    ·have:¬ q.1 = h:=fun z=>hgh (hq.symm.trans z);rw [zWR hq];show (if q.1 = h then some v else _) = _;rw [zWU this,zWU this]; exact ih
    ·rw [zWU hq];by_cases h1:q.1 = h
     ·rw [zWR h1,zWR h1]
     ·rw [zWU h1,zWU h1]; exact ih
 unfold zDG;cases e:zO T g with
 | none=>exact app T e
 | some d=>exact mp T (by rw [e]; rfl)
theorem zL1 (T:List (List Int × D)) (g:List Int) (v:D):(zDG T g v).length <= T.length + 1:=by
 unfold zDG;cases zO T g with
 | none=>simp
 | some d=>simp
section
variable {M:Mem} {n:Nat} {T:List (List Int × D)} {g:List Int}
theorem dgT (h:M[n]? = some (dT T)):zG5 M (.dat (.ref n)) (tI g) = some (zO T g):=by
 unfold zG5; dsimp only; rw [h]; dsimp only; rw [zHk]; dsimp only; rw [zPV]
theorem zOH (h:M[n]? = some (dT T)):zCg neg (.dat (tI g)) (.dat (.ref n)) M = some (.dat (.bl (if neg then !(zO T g).isSome else (zO T g).isSome)),M):=by
 unfold zCg; dsimp only; rw [dgT h]
theorem zGJ (h:M[n]? = some (dT T)) (hd:zO T g = some d):zAw (.dat (.ref n)) (.dat (tI g)) M = some (.dat d,M):=by
 unfold zAw; dsimp only; rw [dgT h,hd]
theorem zLG (h:M[n]? = some (dT T)) (hz:T.length < 90000):zG4 M n (tI g) v = some (M.set n (dT (zDG T g v))):=by
 unfold zG4; rw [h]; dsimp only; rw [zHk]; dsimp only; rw [zWR (by rw [zWL]; exact zWb hz (zy (by omega))),zU5]
end
noncomputable def zEn:FS:=(zT (zAC 1 zKL)
  (zT (zDJ (zAi (za zA5 (zH (toD (za zBY (zH (toD (zD 0)) zQ))) zQ))) (gN 2) (zDJ (zAY (zH (toD (fB zB1 (zb (fOp kIx (zD 0) (fC (.int 0))) zv))) zQ)) (gN 3) (zT (zAC 4 (za zBL (zH (toD (zD 0)) (zH (toD (zD 2)) (zH (toD (zD 3)) zQ)))))
  (zT (sIf (tst (fOp (zCg true) (zD 4) (zD 1))) (zDX (zBN zQ) (zD 1) (zD 4)) zBt)
  (zBr (fM zA0 (fOp zAw (zD 1) (zD 4)) (zH (toD (zD 2)) zQ)))))))
  (zAI (zD 1))))
noncomputable def zCY:FF:=zBX 5 zEn
def zDv (zA:List (List Int)) (ps:List (List Int × Int)) (g:List Int):List (List Int):=(ps.filter fun q=>decide (setR zA q.1 q.2 = g)).map (·.1)
theorem zHx (zA:List (List Int)) (ps:List (List Int × Int)) (p:List Int) (x:Int) (g:List Int):zDv zA (ps ++ [(p,x)]) g = zDv zA ps g ++ (if setR zA p x = g then [p] else []):=by
 unfold zDv;rw [List.filter_append,zW4];congr 1;by_cases h:setR zA p x = g
 ·rw [zWR h,List.filter_cons_of_pos (by simpa using h)]; rfl
 ·rw [zWU h,List.filter_cons_of_neg (by simpa using h)]; rfl
structure Sr (zA:List (List Int)) (M:Mem) (jd lo:Nat) (ps:List (List Int × Int)):Prop where
 ex:∃ T:List (List Int × D),M[jd]? = some (dT T) /\ T.length <= ps.length /\ (∀ g d,zO T g = some d -> ∃ j,d = .ref j /\ lo < j /\ M[j]? = some (.lst ((zDv zA ps g).map tI))) /\ (∀ g,zO T g = none -> zDv zA ps g = []) /\ ∀ g g' j,zO T g = some (.ref j) -> zO T g' = some (.ref j) -> g = g'
theorem zOq {zA:List (List Int)} {l:Nat} (m:IsM zA l) (hR:zA.length < 64) {M:Mem} {jd lo:Nat} {ps:List (List Int × Int)} (hps:ps.length < 50000) (hlo:jd < lo) (hlo2:lo < M.length) (sr:Sr zA M jd lo ps) {p:List Int} (hp:IsS zA p) {x:Int} (x0:0 <= x) (x1:x < l) {y4:Option D} :
  OkS (zT (zAC 4 (za zBL (zH (toD (zD 0)) (zH (toD (zD 2)) (zH (toD (zD 3)) zQ))))) (zT (sIf (tst (fOp (zCg true) (zD 4) (zD 1))) (zDX (zBN zQ) (zD 1) (zD 4)) zBt) (zBr (fM zA0 (fOp zAw (zD 1) (zD 4)) (zH (toD (zD 2)) zQ)))) [some (mD zA),some (.ref jd),some (tI p),some (.int x),y4] M)
   fun o σ' M'=>o = .nx /\ (∃ y,σ' = [some (mD zA),some (.ref jd),some (tI p),some (.int x),y]) /\ Sr zA M' jd lo (ps ++ [(p,x)]) /\ M.length <= M'.length /\ ∀ j,j <= lo -> j ≠ jd -> M'[j]? = M[j]?:=by
 obtain ⟨T,ed,hT,h1,h2,h3⟩:=sr.ex;refine zBk (z0 (zt rfl (zt rfl (zo rfl))) (zHR m hR hp x0 x1)) ?_;generalize hg:setR zA p x = goal;show OkS (zT _ _ [some (mD zA),some (.ref jd),some (tI p),some (.int x),some (tI goal)] M) _;rw [zR,zBs];refine zJ (M:=M) (a:=!(zO T goal).isSome) (zAs (zV (x:=.dat (tI goal)) (y:=.dat (.ref jd)) rfl rfl (zOH ed))) ?_
 have last:∀ (A:Mem) (T':List (List Int × D)) (j:Nat),A[jd]? = some (dT T') -> zO T' goal = some (.ref j) -> lo < j -> A[j]? = some (.lst ((zDv zA ps goal).map tI)) -> T'.length <= ps.length + 1 -> M.length <= A.length -> (∀ j,j <= lo -> j ≠ jd -> A[j]? = M[j]?) ->
   (∀ g d,zO T' g = some d -> ∃ j,d = .ref j /\ lo < j /\ A[j]? = some (.lst ((zDv zA ps g).map tI))) -> (∀ g,zO T' g = none -> zDv zA ps g = []) -> (∀ g g' j,zO T' g = some (.ref j) -> zO T' g' = some (.ref j) -> g = g') ->
   OkS (zBr (fM zA0 (fOp zAw (zD 1) (zD 4)) (zH (toD (zD 2)) zQ)) [some (mD zA),some (.ref jd),some (tI p),some (.int x),some (tI goal)] A)
    fun o σ' M'=>o = .nx /\ (∃ y,σ' = [some (mD zA),some (.ref jd),some (tI p),some (.int x),y]) /\ Sr zA M' jd lo (ps ++ [(p,x)]) /\ M.length <= M'.length /\ ∀ j,j <= lo -> j ≠ jd -> M'[j]? = M[j]?:=by
  intro A T' j ea el hj ej hz hle hfr k1 k2 k3;rw [zCB];have hfl:(zDv zA ps goal).length <= ps.length:=by unfold zDv; rw [zWL]; exact List.length_filter_le _ _
  have jl:j < A.length:=(zWF.mp ej).1;refine zKc.mpr (zJ (zV (x:=.dat (.ref jd)) (y:=.dat (tI goal)) rfl rfl (zGJ ea el)) ⟨⟨_,zBb ej⟩,zJ (zo (d:=tI p) rfl) ?_⟩);rw [zD2 ej (by rw [zWL]; exact zWb (m:=95000) (by omega) (zy (by omega)))];refine ⟨rfl,⟨_,rfl⟩,⟨T',by rw [zWg (by omega)]; exact ea,by simpa using hz,fun g d hd=>?_,fun g hd=>?_,k3⟩,by simpa using hle,fun i hi hn=>by rw [zWg (by omega)]; exact hfr i hi hn⟩
  ·obtain ⟨j',rfl,hj',ej'⟩:=k1 g d hd;refine ⟨j',rfl,hj',?_⟩;rw [zHx,hg];by_cases hgg:goal = g
   ·subst hgg;rw [el] at hd;cases hd;rw [zW6 jl,zWR rfl,zW4]; rfl
   ·rw [zWU hgg,zWw];have:j ≠ j':=fun z=>hgg (k3 goal g j el (by rw [z]; exact hd));rw [zWg this]; exact ej'
  ·rw [zHx,hg,zWU (fun z=>by rw [<- z,el] at hd; cases hd),zWw];exact k2 g hd
 cases hl:zO T goal with
 | some d=>
  obtain ⟨j,rfl,hj,ej⟩:=h1 goal d hl;rw [zWU (by simp),zBC,zZ];exact last M T j ed hl hj ej (by omega) (zWI _) (fun _ _ _=>rfl) h1 h2 h3
 | none=>
  rw [zWR (by simp)];have e0:=h2 goal hl;have jdl:jd < M.length:=(zWF.mp ed).1;have ed':(M ++ [MO.lst ([]:List D)])[jd]? = some (dT T):=by rw [zWJ jdl]; exact ed
  refine ⟨.nx,[some (mD zA),some (.ref jd),some (tI p),some (.int x),some (tI goal)],(M ++ [MO.lst ([]:List D)]).set jd (dT (zDG T goal (.ref M.length))),?_,?_⟩
  ·unfold zDX;rw [show toD (zBN zQ) [some (mD zA),some (.ref jd),some (tI p),some (.int x),some (tI goal)] M = some (.ref M.length,M ++ [.lst []]) by
    unfold toD zBN zQ; dsimp only; rw [zWR (zy (by simp))]]
   dsimp only;rw [show toD (zD 1) [some (mD zA),some (.ref jd),some (tI p),some (.int x),some (tI goal)] (M ++ [.lst []]) = some (.ref jd,M ++ [.lst []]) from rfl];dsimp only;rw [show toD (zD 4) [some (mD zA),some (.ref jd),some (tI p),some (.int x),some (tI goal)] (M ++ [.lst []]) = some (tI goal,M ++ [.lst []]) from rfl];dsimp only;rw [zLG ed' (by omega)]
  rw [zZ];have hput:=fun g=>zFO T goal g (.ref M.length);refine last _ (zDG T goal (.ref M.length)) M.length (zW6 (by simp; omega)) (by rw [hput,zWR rfl]) hlo2 ?_ (by have:=zL1 T goal (.ref M.length); omega) (by simp) (fun i hi hn=>?_) (fun g d hd=>?_) (fun g hd=>?_) (fun g g' j hd hd'=>?_)
  ·rw [zWg (by omega),e0]; simp
  ·rw [zWg (Ne.symm hn),zWJ (by omega)]
  ·rw [hput] at hd;by_cases hgg:goal = g
   ·subst hgg;rw [zWR rfl] at hd;cases hd;exact ⟨M.length,rfl,hlo2,by rw [zWg (by omega),e0]; simp⟩
   ·rw [zWU hgg] at hd;obtain ⟨j,rfl,hj,ej⟩:=h1 g d hd;exact ⟨j,rfl,hj,by rw [zWg (by omega),zWJ (zWF.mp ej).1]; exact ej⟩
  ·rw [hput] at hd;by_cases hgg:goal = g
   ·rw [zWR hgg] at hd; cases hd
   ·rw [zWU hgg] at hd; exact h2 g hd
  ·rw [hput] at hd hd';by_cases a:goal = g
   ·by_cases b:goal = g'
    ·rw [<- a,<- b]
    ·rw [zWR a] at hd;rw [zWU b] at hd';cases hd;obtain ⟨j,e,_,ej⟩:=h1 g' _ hd';cases e;exact absurd (zWF.mp ej).1 (zWu _)
   ·rw [zWU a] at hd;by_cases b:goal = g'
    ·rw [zWR b] at hd';cases hd';obtain ⟨j,e,_,ej⟩:=h1 g _ hd;cases e;exact absurd (zWF.mp ej).1 (zWu _)
    ·rw [zWU b] at hd';exact h3 g g' j hd hd'
def zc (zA:List (List Int)):List Int:=(List.range zA.length).map fun (k:Nat)=>(k:Int)
def zC3 (l:Nat) (ps:List (List Int)):List (List Int × Int):=ps.flatMap fun p=>(List.range l).map fun (x:Nat)=>(p,(x:Int))
theorem zIH (l:Nat) (ps:List (List Int)):(zC3 l ps).length = ps.length * l:=by
 unfold zC3;induction ps with
 | nil=>simp
 | cons p r ih=>rw [List.flatMap_cons,zWS,ih,zWL,zX9,zWj,Nat.add_mul]; omega
theorem zBv (xs:List Int):(zd xs).length <= xs.length * xs.length:=by
 unfold zd;have:∀ (r:List Int),(r.flatMap fun a=>(xs.filter fun b=>decide (a < b)).map fun b=>[a,b]).length <= r.length * xs.length:=by
  intro r;induction r with
  | nil=>simp
  | cons a r ih=>
   rw [List.flatMap_cons,zWS,zWL,zWj,Nat.add_mul];have:=List.length_filter_le (fun b=>decide (a < b)) xs;omega
 exact this xs
theorem zNi (h:p ∈ zd (zc zA)):IsS zA p:=by
 obtain ⟨a,b,rfl,ha,hb,hlt⟩:=zA1.mp h;obtain ⟨i,hi,rfl⟩:=zWT.mp ha;obtain ⟨j,hj,rfl⟩:=zWT.mp hb;have:=zWq.mp hi;have:=zWq.mp hj;refine ⟨by simp; omega,by simp,fun x hx=>?_⟩;simp only [zWO,zWh,or_false] at hx;omega
theorem zJn {M M1:Mem} (ha:a σ M = some (ds,M)) (hg:g ds M = some (.ref j,M1)) (hj:M1[j]? = some (.lst xs)):zAi (za g a) σ M = some (xs,zFZ (.dat (.ref j)) xs,M1):=by
 have:za g a σ M = some (.dat (.ref j),M1):=by unfold za; rw [ha]; dsimp only; rw [hg]
 unfold zAi; rw [this]; dsimp only; rw [zAH hj]
theorem zSL {zA:List (List Int)} {l:Nat} (m:IsM zA l) (hR:zA.length < 64) (hl:l <= 12) {M:Mem}:Ok (zCY [mD zA] M) fun d M'=>d = .ref M.length /\ Sr zA M' M.length (M.length + 1) (zC3 l (zd (zc zA))) /\ M.length + 1 < M'.length /\ ∀ j,j < M.length -> M'[j]? = M[j]?:=by
 unfold zCY;rw [zAM];unfold zEn;show OkS (zT _ _ [some (mD zA),none,none,none,none] M) _;rw [zR,zg];refine zJ (M:=M ++ [.dicT []]) (a:=.dat (.ref M.length)) rfl ?_;rw [zU,zZ,zR,zBa];show ∃ xs gd M1,zAi _ [some (mD zA),some (.ref M.length),none,none,none] (M ++ [.dicT []]) = some (xs,gd,M1) /\ _;have hrl:(zc zA).length = zA.length:=by unfold zc; simp
 have epr:=zHv (xs:=zc zA) (by omega) (M:=M ++ [.dicT []]);refine ⟨_,_,_,zJn (zo (d:=tI (zc zA)) (z0 (zo (d:=mD zA) rfl) (zMA (by omega)))) epr (zBD _ _),?_⟩;rw [show (M ++ [MO.dicT []]).length = M.length + 1 by simp];generalize hP:zd (zc zA) = P;have hPl:P.length <= 3969:=by
  rw [<- hP];have h1:=zBv (zc zA);rw [hrl] at h1;exact zWd h1 (zXo (show zA.length <= 63 by omega) (show zA.length <= 63 by omega))
 have e1:(M ++ [MO.dicT []] ++ [MO.lst (P.map tI)])[M.length + 1]? = some (.lst (P.map tI)):=by
  rw [zXI,zXM (by omega)]; simp
 have e0:(M ++ [MO.dicT []] ++ [MO.lst (P.map tI)])[M.length]? = some (dT []):=by
  rw [zXI,zXM (by omega)]; simp
 have ef:∀ j,j < M.length -> (M ++ [MO.dicT []] ++ [MO.lst (P.map tI)])[j]? = M[j]?:=fun j hj=>by rw [zXI,zWJ hj]
 have el:(M ++ [MO.dicT []] ++ [MO.lst (P.map tI)]).length = M.length + 2:=by simp
 generalize M ++ [MO.dicT []] ++ [MO.lst (P.map tI)] = M1 at e1 e0 ef el;refine zBG (I:=fun r σ M'=>(∃ y2 y3 y4,σ = [some (mD zA),some (.ref M.length),y2,y3,y4]) /\ ∃ us vs:List (List Int),P = us ++ vs /\ r = vs.map tI /\ Sr zA M' M.length (M.length + 1) (zC3 l us) /\ M'[M.length + 1]? = some (.lst (P.map tI)) /\ M.length + 1 < M'.length /\ ∀ j,j < M.length -> M'[j]? = M[j]?) ?_ ?_ _ _ _ ⟨⟨_,_,_,rfl⟩,[],P,rfl,rfl,⟨[],e0,by simp,(fun g d h=>by cases h),(fun _ _=>rfl),(fun g g' j h=>by cases h)⟩,e1,by omega,ef⟩
 ·rintro x r σ M' ⟨⟨y2,y3,y4,rfl⟩,us,vs,hab,hr,sr,ep,hlen,hfr⟩;cases vs with
  | nil=>cases hr
  | cons p vs=>
   rw [zWV] at hr;obtain ⟨rfl,rfl⟩:=zXG hr;have hpm:p ∈ zd (zc zA):=by rw [hP,hab]; simp
   have hul:us.length < 3969:=by have:=zXz List.length hab; simp at this; omega
   refine ⟨.inl ep,_,rfl,?_⟩;show OkS (zDJ _ _ _ [some (mD zA),some (.ref M.length),some (tI p),y3,y4] M') _;rw [zBa];refine ⟨_,_,_,zCC (zKf m rfl) (by omega) (by omega),?_⟩;rw [show (l:Int).toNat = l by omega];refine zJ3 (n:=l) (I:=fun i σ M''=>(∃ y3 y4,σ = [some (mD zA),some (.ref M.length),some (tI p),y3,y4]) /\ Sr zA M'' M.length (M.length + 1) (zC3 l us ++ (List.range i).map fun (x:Nat)=>(p,(x:Int))) /\ M''[M.length + 1]? = some (.lst (P.map tI)) /\ M.length + 1 < M''.length /\ ∀ j,j < M.length -> M''[j]? = M[j]?) ?_ ?_ _ _ ⟨⟨_,_,rfl⟩,by simpa using sr,ep,hlen,hfr⟩
   ·rintro i σ M2 hi ⟨⟨y3,y4,rfl⟩,sr2,ep2,hlen2,hfr2⟩;refine ⟨_,rfl,?_⟩;have hcount:(zC3 l us ++ (List.range i).map fun (x:Nat)=>(p,(x:Int))).length < 50000:=by
     rw [zWS,zIH,zWL,zX9];have:=zXo (show us.length <= 3968 by omega) hl;omega
    refine OkS.mono (zOq m hR hcount (zW9 _) hlen2 sr2 (zNi hpm) (x:=(i:Int)) (by omega) (by omega)) ?_;rintro o σ' M3 ⟨rfl,⟨y,rfl⟩,sr3,hl3,hf3⟩;refine ⟨⟨_,_,rfl⟩,?_,by rw [hf3 _ (zWI _) (by omega)]; exact ep2,by omega,fun j hj=>by rw [hf3 j (by omega) (by omega)]; exact hfr2 j hj⟩;rw [List.range_succ,zW4,<- zXI];exact sr3
   ·rintro σ M2 ⟨⟨y3,y4,rfl⟩,sr2,ep2,hlen2,hfr2⟩;refine ⟨⟨_,_,_,rfl⟩,us ++ [p],vs,by rw [hab]; simp,rfl,?_,ep2,hlen2,hfr2⟩;have:zC3 l (us ++ [p]) = zC3 l us ++ (List.range l).map fun (x:Nat)=>(p,(x:Int)):=by
     unfold zC3; rw [List.flatMap_append]; simp
    rw [this]; exact sr2
 ·rintro σ M' ⟨⟨y2,y3,y4,rfl⟩,us,vs,hab,hr,sr,ep,hlen,hfr⟩;have:vs = []:=by cases vs with | nil=>rfl | cons _ _=>cases hr
  subst this;rw [zWw] at hab;subst hab;refine ⟨.inl ep,?_⟩;rw [zZ];exact zAk rfl ⟨rfl,sr,hlen,hfr⟩
noncomputable def zD7:FS:=(zT (zAC 2 (za zCY (zH (toD (zD 0)) zQ)))
  (zT (zAC 3 (zD 1))
  (zT (zAC 4 (zDg true [5] (zAi (zD 1)) (gN 5) zAJ (zD 5) (fC (.int 0))))
  (zT (zBM (zMU (zD 3)) (zT (zAC 6 (zBN zQ))
  (zT (zDJ (zAi (zD 3)) (gN 5) (zDJ (zAi (zCL (zD 2) (zD 5) (zBN zQ))) (gN 7) (sIf (tst (fOp (zCg true) (zD 7) (zD 4))) (zT (zDX (fOp zAl (fOp zAw (zD 4) (zD 5)) (fC (.int 1))) (zD 4) (zD 7))
  (zBr (fM zA0 (zD 6) (zH (toD (zD 7)) zQ)))) zBt)))
  (zAC 3 (zD 6)))) 1000)
  (zAI (zD 4))))))
noncomputable def zB3:FF:=zBX 8 zD7
abbrev Fd:=List (List Int × D) × List (List Int)
def zBP (k:Int) (st:Fd) (p:List Int):Fd:=if (zO st.1 p).isSome then st else (zDG st.1 p (.int k),st.2 ++ [p])
structure Lv (M0 M:Mem) (jf jb:Nat) (st:Fd):Prop where
 f:M[jf]? = some (dT st.1)
 b:M[jb]? = some (.lst (st.2.map tI))
 len:M0.length <= M.length
 fr:∀ j,j < M0.length -> j ≠ jf -> j ≠ jb -> M[j]? = M0[j]?
theorem zQ4 (k:Int) (st:Fd) (p:List Int):(zBP k st p).1.length <= st.1.length + 1 /\ (zBP k st p).2.length <= st.2.length + 1:=by
 unfold zBP;split
 ·exact ⟨by omega,by omega⟩
 ·exact ⟨zL1 _ _ _,by simp⟩
theorem zSa {M0:Mem} {jf jb js jd jl:Nat} {zA:List (List Int)} {x1 x3 y7:Option D} {goal:List Int} {k:Int} {ps:List (List Int)} (hne:jf ≠ jb) (h1:jf < M0.length) (h2:jb < M0.length) :
  ∀ (M:Mem) (st:Fd),Lv M0 M jf jb st -> M[js]? = some (.lst (ps.map tI)) -> js ≠ jf -> js ≠ jb -> zO st.1 goal = some (.int k) -> st.1.length + ps.length <= 80000 -> st.2.length + ps.length <= 80000 ->
  OkS (zC5 (gN 7) (sIf (tst (fOp (zCg true) (zD 7) (zD 4))) (zT (zDX (fOp zAl (fOp zAw (zD 4) (zD 5)) (fC (.int 1))) (zD 4) (zD 7)) (zBr (fM zA0 (zD 6) (zH (toD (zD 7)) zQ)))) zBt) (ps.map tI) (zFZ (.dat (.ref js)) (ps.map tI)) (ps.map tI) [some (mD zA),x1,some (.ref jd),x3,some (.ref jf),some (tI goal),some (.ref jb),y7] M)
   fun o σ' M'=>o = .nx /\ (∃ y,σ' = [some (mD zA),x1,some (.ref jd),x3,some (.ref jf),some (tI goal),some (.ref jb),y]) /\ Lv M0 M' jf jb (ps.foldl (zBP (k + 1)) st) /\ M'.length = M.length /\ ∀ j,j ≠ jf -> j ≠ jb -> M'[j]? = M[j]?:=by
 intro M st lv ejs n1 n2 hgl z1 z2;refine zBG (I:=fun r σ M'=>(∃ y,σ = [some (mD zA),x1,some (.ref jd),x3,some (.ref jf),some (tI goal),some (.ref jb),y]) /\ ∃ us vs:List (List Int),ps = us ++ vs /\ r = vs.map tI /\ Lv M0 M' jf jb (us.foldl (zBP (k + 1)) st) /\ zO (us.foldl (zBP (k + 1)) st).1 goal = some (.int k) /\ (us.foldl (zBP (k + 1)) st).1.length <= st.1.length + us.length /\ (us.foldl (zBP (k + 1)) st).2.length <= st.2.length + us.length /\ M'.length = M.length /\ ∀ j,j ≠ jf -> j ≠ jb -> M'[j]? = M[j]?) ?_ ?_ _ _ _ ⟨⟨_,rfl⟩,[],ps,rfl,rfl,lv,hgl,by simp,by simp,rfl,fun _ _ _=>rfl⟩
 ·rintro x r σ M' ⟨⟨y,rfl⟩,us,vs,hab,hr,lv',hg',l1,l2,hl,hfr⟩;cases vs with
  | nil=>cases hr
  | cons p vs=>
   rw [zWV] at hr;obtain ⟨rfl,rfl⟩:=zXG hr;have hul:us.length < ps.length:=by rw [hab]; simp
   refine ⟨.inl (by rw [hfr js n1 n2]; exact ejs),_,rfl,?_⟩;show OkS (sIf _ _ _ [some (mD zA),x1,some (.ref jd),x3,some (.ref jf),some (tI goal),some (.ref jb),some (tI p)] M') _;have hfold:(us ++ [p]).foldl (zBP (k + 1)) st = zBP (k + 1) (us.foldl (zBP (k + 1)) st) p:=by rw [List.foldl_append]; rfl
   generalize us.foldl (zBP (k + 1)) st = st' at lv' hg' l1 l2 hfold;have al:=zQ4 (k + 1) st' p;rw [zBs];refine zJ (M:=M') (a:=!(zO st'.1 p).isSome) (zAs (zV (x:=.dat (tI p)) (y:=.dat (.ref jf)) rfl rfl (zOH lv'.f))) ?_;cases hlk:zO st'.1 p with
   | some d=>
    have ea:zBP (k + 1) st' p = st':=by unfold zBP; rw [hlk]; rfl
    rw [zWU (by simp),zBC];refine ⟨⟨_,rfl⟩,us ++ [p],vs,by rw [hab]; simp,rfl,?_⟩;rw [hfold,ea];exact ⟨lv',hg',by simp; omega,by simp; omega,hl,hfr⟩
   | none=>
    have ea:zBP (k + 1) st' p = (zDG st'.1 p (.int (k + 1)),st'.2 ++ [p]):=by unfold zBP; rw [hlk]; rfl
    have hgp:p ≠ goal:=fun z=>by rw [z,hg'] at hlk; cases hlk
    rw [zWR (by simp),zR];have ev:fOp zAl (fOp zAw (zD 4) (zD 5)) (fC (.int 1)) [some (mD zA),x1,some (.ref jd),x3,some (.ref jf),some (tI goal),some (.ref jb),some (tI p)] M' = some (.dat (.int (k + 1)),M'):=zV (x:=.dat (.int k)) (zV (x:=.dat (.ref jf)) (y:=.dat (tI goal)) rfl rfl (zGJ lv'.f hg')) rfl rfl;have hd:OkS (zDX (fOp zAl (fOp zAw (zD 4) (zD 5)) (fC (.int 1))) (zD 4) (zD 7) [some (mD zA),x1,some (.ref jd),x3,some (.ref jf),some (tI goal),some (.ref jb),some (tI p)] M') fun o σ' M2=>o = .nx /\ σ' = [some (mD zA),x1,some (.ref jd),x3,some (.ref jf),some (tI goal),some (.ref jb),some (tI p)] /\ M2 = M'.set jf (dT (zDG st'.1 p (.int (k + 1)))):=by
     refine ⟨.nx,_,_,?_,rfl,rfl,rfl⟩;unfold zDX;rw [show toD (fOp zAl (fOp zAw (zD 4) (zD 5)) (fC (.int 1))) [some (mD zA),x1,some (.ref jd),x3,some (.ref jf),some (tI goal),some (.ref jb),some (tI p)] M' = some (.int (k + 1),M') by unfold toD; rw [ev]];dsimp only;rw [show toD (zD 4) [some (mD zA),x1,some (.ref jd),x3,some (.ref jf),some (tI goal),some (.ref jb),some (tI p)] M' = some (.ref jf,M') from rfl];dsimp only;rw [show toD (zD 7) [some (mD zA),x1,some (.ref jd),x3,some (.ref jf),some (tI goal),some (.ref jb),some (tI p)] M' = some (tI p,M') from rfl];dsimp only;rw [zLG lv'.f (by omega)]
    refine OkS.mono hd ?_;rintro o σ' M2 ⟨rfl,rfl,rfl⟩;rw [zZ,zCB];have eb:(M'.set jf (dT (zDG st'.1 p (.int (k + 1)))))[jb]? = some (.lst (st'.2.map tI)):=by rw [zWg hne]; exact lv'.b
    refine zKc.mpr (zAQ.mpr ⟨_,rfl,⟨_,zBb eb⟩,zJ (zo (d:=tI p) rfl) ?_⟩);rw [zD2 eb (by rw [zWL]; exact zWb (m:=95000) (by omega) (zy (by omega)))];have jfl:jf < M'.length:=zWb h1 lv'.len;have jbl:jb < M'.length:=zWb h2 lv'.len;refine ⟨⟨_,rfl⟩,us ++ [p],vs,by rw [hab]; simp,rfl,?_⟩;rw [hfold];refine ⟨?_,?_,by simp; omega,by simp; omega,by simp [hl],fun j q1 q2=>by rw [zWg (Ne.symm q2),zWg (Ne.symm q1)]; exact hfr j q1 q2⟩
    ·rw [ea];refine ⟨by rw [zWg (Ne.symm hne),zW6 jfl],by rw [zW6 (by simpa using jbl),zW4]; rfl,by simpa using lv'.len,fun j q0 q1 q2=>by rw [zWg (Ne.symm q2),zWg (Ne.symm q1)]; exact lv'.fr j q0 q1 q2⟩
    ·rw [ea];show zO (zDG st'.1 p (.int (k + 1))) goal = _;rw [zFO,zWU hgp]; exact hg'
 ·rintro σ M' ⟨⟨y,rfl⟩,us,vs,hab,hr,lv',hg',l1,l2,hl,hfr⟩;have:vs = []:=by cases vs with | nil=>rfl | cons _ _=>cases hr
  subst this;rw [zWw] at hab;subst hab;exact ⟨.inl (by rw [hfr js n1 n2]; exact ejs),rfl,⟨_,rfl⟩,lv',hl,hfr⟩
theorem zUx {f g:FE} {σ:Sd} {M:Mem} {n:Nat} {T:List (List Int × D)} {k:List Int} (hf:f σ M = some (.dat (.ref n),M)) (hn:M[n]? = some (dT T)) (hg:g σ M = some (.dat (tI k),M)):zCL f g (zBN zQ) σ M = some (.dat ((zO T k).getD (.ref M.length)),M ++ [.lst []]):=by
 have nl:n < M.length:=(zWF.mp hn).1;unfold zCL;rw [show toD f σ M = some (.ref n,M) by unfold toD; rw [hf]];dsimp only;rw [hn];dsimp only;rw [show toD g σ M = some (tI k,M) by unfold toD; rw [hg]];dsimp only;rw [show toD (zBN zQ) σ M = some (.ref M.length,M ++ [.lst []]) by
  unfold toD zBN zQ; dsimp only; rw [zWR (zy (by simp))]]
 dsimp only;rw [dgT (g:=k) (show (M ++ [MO.lst ([]:List D)])[n]? = some (dT T) by rw [zWJ nl]; exact hn)]
def zCG (src:List Int -> List (List Int)) (k:Int) (gs:List (List Int)) (st:Fd):Fd:=gs.foldl (fun st g=>(src g).foldl (zBP (k + 1)) st) st
theorem zOY {k:Int} {st:Fd} {p g:List Int} {d:D} (h:zO st.1 g = some d):zO (zBP k st p).1 g = some d:=by
 unfold zBP;split
 ·exact h
 ·rename_i q;show zO (zDG st.1 p (.int k)) g = some d;rw [zFO,zWU (fun z=>q (by rw [z,h]; rfl))]; exact h
theorem zHZ {k:Int} {g:List Int} {d:D}:∀ (ps:List (List Int)) {st:Fd},zO st.1 g = some d -> zO (ps.foldl (zBP k) st).1 g = some d
 | [],_,h=>h
 | p :: r,_,h=>zHZ r (zOY h)
def zU8 (M:Mem) (Ts:List (List Int × D)) (jf jb:Nat) (src:List Int -> List (List Int)):Prop:=∀ g,(∃ j,zO Ts g = some (.ref j) /\ j ≠ jf /\ j ≠ jb /\ M[j]? = some (.lst ((src g).map tI))) \/ (zO Ts g = none /\ src g = [])
theorem zR1 {M0:Mem} {jf jb jd jl:Nat} {zA:List (List Int)} {x1 y5 y7:Option D} {k:Int} {gs:List (List Int)} {src:List Int -> List (List Int)} {Ts:List (List Int × D)} (hne:jf ≠ jb) (h1:jf < M0.length) (h2:jb < M0.length) (hd:M0[jd]? = some (dT Ts)) (d1:jd ≠ jf) (d2:jd ≠ jb) (hl:M0[jl]? = some (.lst (gs.map tI))) (l1:jl ≠ jf) (l2:jl ≠ jb) (hs:zU8 M0 Ts jf jb src) (B:Nat) (hB:∀ g ∈ gs,(src g).length <= B)
  {st:Fd} (hg:∀ g ∈ gs,zO st.1 g = some (.int k)) (Z:Nat) (hZB:Z + B <= 80000) (hZ:∀ us vs,gs = us ++ vs -> (zCG src k us st).1.length <= Z /\ (zCG src k us st).2.length <= Z) (lv:Lv M0 M0 jf jb st) :
  OkS (zC5 (gN 5) (zDJ (zAi (zCL (zD 2) (zD 5) (zBN zQ))) (gN 7) (sIf (tst (fOp (zCg true) (zD 7) (zD 4))) (zT (zDX (fOp zAl (fOp zAw (zD 4) (zD 5)) (fC (.int 1))) (zD 4) (zD 7)) (zBr (fM zA0 (zD 6) (zH (toD (zD 7)) zQ)))) zBt)) (gs.map tI) (zFZ (.dat (.ref jl)) (gs.map tI)) (gs.map tI) [some (mD zA),x1,some (.ref jd),some (.ref jl),some (.ref jf),y5,some (.ref jb),y7] M0)
   fun o σ' M'=>o = .nx /\ (∃ y5 y7,σ' = [some (mD zA),x1,some (.ref jd),some (.ref jl),some (.ref jf),y5,some (.ref jb),y7]) /\ Lv M0 M' jf jb (zCG src k gs st):=by
 refine zBG (I:=fun r σ M'=>(∃ y5 y7,σ = [some (mD zA),x1,some (.ref jd),some (.ref jl),some (.ref jf),y5,some (.ref jb),y7]) /\ ∃ us vs:List (List Int),gs = us ++ vs /\ r = vs.map tI /\ Lv M0 M' jf jb (zCG src k us st) /\ (∀ g ∈ gs,zO (zCG src k us st).1 g = some (.int k))) ?_ ?_ _ _ _ ⟨⟨_,_,rfl⟩,[],gs,rfl,rfl,lv,hg⟩
 ·rintro x r σ M' ⟨⟨y5,y7,rfl⟩,us,vs,hab,hr,lv',hg'⟩;cases vs with
  | nil=>cases hr
  | cons g vs=>
   rw [zWV] at hr;obtain ⟨rfl,rfl⟩:=zXG hr;have hgm:g ∈ gs:=by rw [hab]; simp
   have hsb:=hB g hgm;obtain ⟨b1,b2⟩:=hZ us (g :: vs) hab;have keep:∀ {j:Nat} {u:MO},M0[j]? = some u -> j ≠ jf -> j ≠ jb -> M'[j]? = some u:=fun {j u} e q1 q2=>(lv'.fr j (zWF.mp e).1 q1 q2).trans e;refine ⟨.inl (keep hl l1 l2),_,rfl,?_⟩;show OkS (zDJ _ _ _ [some (mD zA),x1,some (.ref jd),some (.ref jl),some (.ref jf),some (tI g),some (.ref jb),y7] M') _;have hfold:zCG src k (us ++ [g]) st = (src g).foldl (zBP (k + 1)) (zCG src k us st):=by unfold zCG; rw [List.foldl_append]; rfl
   generalize zCG src k us st = st' at lv' hg' b1 b2 hfold;have e2:=zUx (f:=zD 2) (g:=zD 5) (σ:=[some (mD zA),x1,some (.ref jd),some (.ref jl),some (.ref jf),some (tI g),some (.ref jb),y7]) (M:=M') (k:=g) rfl (keep hd d1 d2) rfl;have lvA:Lv M0 (M' ++ [.lst []]) jf jb st':=by
    have f1:=(zWF.mp lv'.f).1;have f2:=(zWF.mp lv'.b).1;have f3:=lv'.len;exact ⟨by rw [zWJ f1]; exact lv'.f,by rw [zWJ f2]; exact lv'.b,by simp; omega,fun j q0 q1 q2=>by rw [zWJ (by omega)]; exact lv'.fr j q0 q1 q2⟩
   obtain ⟨js,ejs,n1,n2,el⟩:∃ js,(zO Ts g).getD (.ref M'.length) = .ref js /\ js ≠ jf /\ js ≠ jb /\ (M' ++ [MO.lst ([]:List D)])[js]? = some (.lst ((src g).map tI)):=by
    rcases hs g with ⟨j,e,q1,q2,q3⟩ | ⟨e,q⟩
    ·have:=keep q3 q1 q2;exact ⟨j,by rw [e]; rfl,q1,q2,by rw [zWJ (zWF.mp this).1]; exact this⟩
    ·have:=lv'.len;exact ⟨M'.length,by rw [e]; rfl,by omega,by omega,by rw [q]; simp⟩
   rw [ejs] at e2;rw [zBa];refine ⟨_,_,_,(show zAi (zCL (zD 2) (zD 5) (zBN zQ)) [some (mD zA),x1,some (.ref jd),some (.ref jl),some (.ref jf),some (tI g),some (.ref jb),y7] M' = some ((src g).map tI,zFZ (.dat (.ref js)) ((src g).map tI),M' ++ [.lst []]) by unfold zAi; rw [e2]; dsimp only; rw [zAH el]),?_⟩;refine OkS.mono (zSa (jl:=jl) (k:=k) hne h1 h2 _ st' lvA el n1 n2 (hg' g hgm) (by omega) (by omega)) ?_;rintro o σ' M2 ⟨rfl,⟨y,rfl⟩,lv2,_,_⟩;refine ⟨⟨_,_,rfl⟩,us ++ [g],vs,by rw [hab]; simp,rfl,?_⟩;rw [hfold];exact ⟨lv2,fun g' hg''=>zHZ _ (hg' g' hg'')⟩
 ·rintro σ M' ⟨⟨y5,y7,rfl⟩,us,vs,hab,hr,lv',hg'⟩;have:vs = []:=by cases vs with | nil=>rfl | cons _ _=>cases hr
  subst this;rw [zWw] at hab;subst hab;have keep:∀ {j:Nat} {u:MO},M0[j]? = some u -> j ≠ jf -> j ≠ jb -> M'[j]? = some u:=fun {j u} e q1 q2=>(lv'.fr j (zWF.mp e).1 q1 q2).trans e;exact ⟨.inl (keep hl l1 l2),rfl,⟨_,_,rfl⟩,lv'⟩
theorem zOU (k:Int) (st:Fd) (p t:List Int):zO (zBP k st p).1 t = (if (zO st.1 t).isSome then zO st.1 t else if t = p then some (.int k) else none) /\ (t ∈ (zBP k st p).2 ↔ t ∈ st.2 \/ (zO st.1 t = none /\ t = p)):=by
 unfold zBP;by_cases h:(zO st.1 p).isSome = true
 ·rw [zWR h];constructor
  ·by_cases ht:(zO st.1 t).isSome = true
   ·rw [zWR ht]
   ·rw [zWU ht,zWU (fun z=>ht (by rw [z]; exact h))];cases e:zO st.1 t with
    | none=>rfl
    | some d=>rw [e] at ht; simp at ht
  ·constructor
   ·exact .inl
   ·rintro (q | ⟨q,rfl⟩)
    ·exact q
    ·rw [q] at h; cases h
 ·rw [zWU h];have hn:zO st.1 p = none:=by
   cases e:zO st.1 p with
   | none=>rfl
   | some d=>rw [e] at h; simp at h
  constructor
  ·show zO (zDG st.1 p (.int k)) t = _;rw [zFO];by_cases ht:p = t
   ·subst ht;rw [zWR rfl,zWU h,zWR rfl]
   ·rw [zWU ht];by_cases hs:(zO st.1 t).isSome = true
    ·rw [zWR hs]
    ·rw [zWU hs,zWU (fun z=>ht z.symm)];cases e:zO st.1 t with
     | none=>rfl
     | some d=>rw [e] at hs; simp at hs
  ·show t ∈ st.2 ++ [p] ↔ _;rw [zWc,zWe];constructor
   ·rintro (q | rfl)
    ·exact .inl q
    ·exact .inr ⟨hn,rfl⟩
   ·rintro (q | ⟨_,q⟩)
    ·exact .inl q
    ·exact .inr q
theorem zHq (k:Int):∀ (ps:List (List Int)) (st:Fd) (t:List Int),zO (ps.foldl (zBP k) st).1 t = (if (zO st.1 t).isSome then zO st.1 t else if t ∈ ps then some (.int k) else none) /\ (t ∈ (ps.foldl (zBP k) st).2 ↔ t ∈ st.2 \/ (zO st.1 t = none /\ t ∈ ps))
 | [],st,t=>by
  constructor
  ·by_cases h:(zO st.1 t).isSome = true
   ·rw [zWR h]; rfl
   ·rw [zWU h,zWU (by simp)];cases e:zO st.1 t with
    | none=>exact e
    | some d=>rw [e] at h; simp at h
  ·simp
 | p :: r,st,t=>by
  obtain ⟨a1,a2⟩:=zOU k st p t;obtain ⟨b1,b2⟩:=zHq k r (zBP k st p) t;rw [List.foldl_cons,b1,b2,a2,a1];by_cases h:(zO st.1 t).isSome = true
  ·rw [zWR h,zWR h,zWR h];refine ⟨rfl,?_⟩;have hn:¬ zO st.1 t = none:=fun z=>by rw [z] at h; cases h
   simp [hn]
  ·have hn:zO st.1 t = none:=by
    cases e:zO st.1 t with
    | none=>rfl
    | some d=>rw [e] at h; simp at h
   rw [zWU h,zWU h];by_cases hp:t = p
   ·rw [zWR hp];refine ⟨?_,?_⟩
    ·rw [zWR (show (some (D.int k)).isSome = true from rfl),zWR (by rw [hp]; exact zWQ)]
    ·simp [hn,hp]
   ·rw [zWU hp];refine ⟨?_,?_⟩
    ·rw [zWU (by simp)];by_cases hr:t ∈ r
     ·rw [zWR hr,zWR (zWP _ hr)]
     ·rw [zWU hr,zWU (by simp [hp,hr])]
    ·simp [hn,hp]
theorem zJW (src:List Int -> List (List Int)) (k:Int) (gs:List (List Int)) (st:Fd) (t:List Int):zO (zCG src k gs st).1 t = (if (zO st.1 t).isSome then zO st.1 t else if t ∈ gs.flatMap src then some (.int (k + 1)) else none) /\ (t ∈ (zCG src k gs st).2 ↔ t ∈ st.2 \/ (zO st.1 t = none /\ t ∈ gs.flatMap src)):=by
 have:∀ (gs:List (List Int)) (st:Fd),zCG src k gs st = (gs.flatMap src).foldl (zBP (k + 1)) st:=by
  intro gs;induction gs with
  | nil=>intro st; rfl
  | cons g r ih=>
   intro st;show zCG src k r ((src g).foldl (zBP (k + 1)) st) = _;rw [ih,List.flatMap_cons,List.foldl_append]
 rw [this gs st];exact zHq (k + 1) (gs.flatMap src) st t
def Rch (zA:List (List Int)) (l:Nat) (G:List Int -> Prop) (t:List Int) (n:Nat):Prop:=∃ w:List Int,w.length = n /\ (∀ x ∈ w,0 <= x /\ x < (l:Int)) /\ G (broR zA t w)
def Dst (zA:List (List Int)) (l:Nat) (G:List Int -> Prop) (t:List Int) (n:Nat):Prop:=Rch zA l G t n /\ ∀ m,m < n -> ¬ Rch zA l G t m
theorem zIb:Rch zA l G t (n + 1) ↔ ∃ x:Int,(0 <= x /\ x < (l:Int)) /\ Rch zA l G (setR zA t x) n:=by
 constructor
 ·rintro ⟨w,hw,hb,hl⟩;cases w with
  | nil=>cases hw
  | cons x w=>exact ⟨x,hb x zWQ,w,by simpa using hw,fun y hy=>hb y (zWP _ hy),hl⟩
 ·rintro ⟨x,hx,w,hw,hb,hl⟩;exact ⟨x :: w,by simp [hw],fun y hy=>by rcases zWO.mp hy with rfl | q; exact hx; exact hb y q,hl⟩
theorem zKx:Rch zA l G t 0 ↔ G t:=by
 constructor
 ·rintro ⟨w,hw,_,hl⟩;have:w = []:=List.length_eq_zero_iff.mp hw;subst this; exact hl
 ·intro h; exact ⟨[],rfl,(fun _ h=>by cases h),h⟩
theorem zCh:Dst zA l G t 0 ↔ G t:=by
 unfold Dst;rw [zKx];exact ⟨fun h=>h.1,fun h=>⟨h,fun m hm=>by omega⟩⟩
theorem zDu:Dst zA l G t (n + 1) ↔ (∀ m,m <= n -> ¬ Rch zA l G t m) /\ ∃ x:Int,(0 <= x /\ x < (l:Int)) /\ Dst zA l G (setR zA t x) n:=by
 constructor
 ·rintro ⟨h1,h2⟩;obtain ⟨x,hx,hr⟩:=zIb.mp h1;exact ⟨fun m hm=>h2 m (by omega),x,hx,hr,fun m hm hq=>h2 (m + 1) (by omega) (zIb.mpr ⟨x,hx,hq⟩)⟩
 ·rintro ⟨h1,x,hx,hr,_⟩;exact ⟨zIb.mpr ⟨x,hx,hr⟩,fun m hm=>h1 m (by omega)⟩
theorem zMP:∀ n,Rch zA l G t n -> ∃ m,m <= n /\ Dst zA l G t m:=by
 intro n;induction n using Nat.strongRecOn with
 | ind n ih=>
  intro h;by_cases q:∃ m,m < n /\ Rch zA l G t m
  ·obtain ⟨m,hm,hr⟩:=q;obtain ⟨m',h1,h2⟩:=ih m hm hr;exact ⟨m',by omega,h2⟩
  ·exact ⟨n,zWI _,h,fun m hm hr=>q ⟨m,hm,hr⟩⟩
theorem zA2 (h1:Dst zA l G t a) (h2:Dst zA l G t b):a = b:=by
 rcases Nat.lt_trichotomy a b with q | q | q
 ·exact absurd h1.1 (h2.2 a q)
 ·exact q
 ·exact absurd h2.1 (h1.2 b q)
def zIJ (zA:List (List Int)) (l:Nat) (G:List Int -> Prop) (U:List Int -> Prop) (k:Nat) (fd:List (List Int × D)) (lev:List (List Int)):Prop:=(∀ t d,zO fd t = some d ↔ U t /\ ∃ n:Nat,n <= k /\ Dst zA l G t n /\ d = .int (n:Int)) /\ ∀ t,t ∈ lev ↔ U t /\ Dst zA l G t k
theorem zGx (h:zIJ zA l G U k fd lev) (u:U t):zO fd t = none ↔ ∀ m,m <= k -> ¬ Rch zA l G t m:=by
 constructor
 ·intro e m hm hr;obtain ⟨n,hn,hd⟩:=zMP m hr;rw [(h.1 t (.int (n:Int))).mpr ⟨u,n,by omega,hd,rfl⟩] at e;cases e
 ·intro q;cases e:zO fd t with
  | none=>rfl
  | some d=>
   obtain ⟨_,n,hn,hd,_⟩:=(h.1 t d).mp e;exact absurd hd.1 (q n hn)
theorem zOO {zA:List (List Int)} {l:Nat} {U P:List Int -> Prop} {src:List Int -> List (List Int)} (hs:∀ g t,t ∈ src g ↔ P t /\ ∃ x:Int,(0 <= x /\ x < (l:Int)) /\ setR zA t x = g) (hP:∀ t,P t -> U t) (hU:∀ t n,U t -> ¬ G t -> Rch zA l G t n -> P t) (hc:∀ t (x:Int),U t -> 0 <= x /\ x < (l:Int) -> U (setR zA t x))
  {k:Nat} {fd:List (List Int × D)} {lev:List (List Int)} (h:zIJ zA l G U k fd lev):zIJ zA l G U (k + 1) (zCG src (k:Int) lev (fd,[])).1 (zCG src (k:Int) lev (fd,[])).2:=by
 have key:∀ t,(zO fd t = none /\ t ∈ lev.flatMap src) ↔ U t /\ Dst zA l G t (k + 1):=by
  intro t;constructor
  ·rintro ⟨e,hm⟩;obtain ⟨g,hg,ht⟩:=List.mem_flatMap.mp hm;obtain ⟨p,x,hx,hq⟩:=(hs g t).mp ht;have u:=hP t p;refine ⟨u,zDu.mpr ⟨(zGx h u).mp e,x,hx,?_⟩⟩;rw [hq]; exact ((h.2 g).mp hg).2
  ·rintro ⟨u,hd⟩;obtain ⟨q,x,hx,hr⟩:=zDu.mp hd;refine ⟨(zGx h u).mpr q,List.mem_flatMap.mpr ⟨setR zA t x,(h.2 _).mpr ⟨hc t x u hx,hr⟩,(hs _ t).mpr ⟨hU t _ u ?_ hd.1,x,hx,rfl⟩⟩⟩;intro h1;exact q 0 (zWy _) (zKx.mpr h1)
 constructor
 ·intro t d;rw [(zJW src (k:Int) lev (fd,[]) t).1];show (if (zO fd t).isSome then zO fd t else if t ∈ lev.flatMap src then some (.int ((k:Int) + 1)) else none) = some d ↔ _;cases e:zO fd t with
  | some d'=>
   rw [zWR (show (some d').isSome = true from rfl)];obtain ⟨u,n,hn,hd,rfl⟩:=(h.1 t d').mp e;constructor
   ·intro z; cases z;exact ⟨u,n,by omega,hd,rfl⟩
   ·rintro ⟨_,m,_,hm,rfl⟩;rw [zA2 hm hd]
  | none=>
   rw [zWU (by simp)];by_cases hm:t ∈ lev.flatMap src
   ·rw [zWR hm];obtain ⟨u,hd⟩:=(key t).mp ⟨e,hm⟩;constructor
    ·intro z; cases z;exact ⟨u,k + 1,zWI _,hd,by simp⟩
    ·rintro ⟨_,m,_,hm',rfl⟩;rw [zA2 hm' hd]; simp
   ·rw [zWU hm];constructor
    ·intro z; cases z
    ·rintro ⟨u,m,hk,hd,rfl⟩;exfalso;by_cases hmk:m <= k
     ·exact (zGx h u).mp e m hmk hd.1
     ·have:m = k + 1:=by omega
      subst this;exact hm ((key t).mpr ⟨u,hd⟩).2
 ·intro t;rw [(zJW src (k:Int) lev (fd,[]) t).2];show t ∈ ([]:List (List Int)) \/ (zO fd t = none /\ t ∈ lev.flatMap src) ↔ _;rw [key t];simp
theorem zRJ {zA:List (List Int)} {l:Nat} {G:List Int -> Prop} {U:List Int -> Prop} (hc:∀ t (x:Int),U t -> 0 <= x /\ x < (l:Int) -> U (setR zA t x)) {k:Nat} {fd:List (List Int × D)} (h:zIJ zA l G U k fd []) (t:List Int) (d:D):zO fd t = some d ↔ U t /\ ∃ n:Nat,Dst zA l G t n /\ d = .int (n:Int):=by
 have far:∀ n t,U t -> ¬ Dst zA l G t (k + n):=by
  intro n;induction n with
  | zero=>intro t u hd; exact absurd ((h.2 t).mpr ⟨u,hd⟩) (by simp)
  | succ n ih=>
   intro t u hd;obtain ⟨_,x,hx,hr⟩:=zDu.mp (show Dst zA l G t ((k + n) + 1) from hd);exact ih _ (hc t x u hx) hr
 rw [h.1 t d];constructor
 ·rintro ⟨u,n,_,a,b⟩; exact ⟨u,n,a,b⟩
 ·rintro ⟨u,n,a,b⟩;refine ⟨u,n,?_,a,b⟩;by_cases q:n <= k
  ·exact q
  ·exfalso;have e:n = k + (n - k):=by omega
   rw [e] at a;exact far _ t u a
def Th (zA:List (List Int)) (t:List Int):Prop:=IsS zA t /\ t.length <= 2
def zEe (zA:List (List Int)) (l:Nat) (g:List Int):List (List Int):=zDv zA (zC3 l (zd (zc zA))) g
theorem zSU (g t:List Int):t ∈ zEe zA l g ↔ t ∈ zd (zc zA) /\ ∃ x:Int,(0 <= x /\ x < (l:Int)) /\ setR zA t x = g:=by
 unfold zEe zDv zC3;simp only [zWT,zXN,List.mem_flatMap,zWq,zXP];constructor
 ·rintro ⟨q,⟨⟨p,hp,k,hk,rfl⟩,hq⟩,rfl⟩;exact ⟨hp,(k:Int),⟨by omega,by omega⟩,hq⟩
 ·rintro ⟨hp,x,⟨x0,x1⟩,hq⟩;refine ⟨(t,x),⟨⟨t,hp,x.toNat,by omega,?_⟩,hq⟩,rfl⟩;rw [show ((x.toNat:Nat):Int) = x by omega]
theorem zBc:x ∈ zc zA ↔ 0 <= x /\ x < (zA.length:Int):=by
 unfold zc;simp only [zWT,zWq];constructor
 ·rintro ⟨k,hk,rfl⟩; omega
 ·rintro ⟨h0,h1⟩; exact ⟨x.toNat,by omega,by omega⟩
theorem zDN (t:List Int) (h:t ∈ zd (zc zA)):Th zA t:=by
 refine ⟨zNi h,?_⟩;obtain ⟨a,b,rfl,_⟩:=zA1.mp h;exact zWI _
theorem zNL (t:List Int) (h:Th zA t) (h1:t.length ≠ 1):t ∈ zd (zc zA):=by
 obtain ⟨⟨pw,n0,hm⟩,h2⟩:=h;match t,pw,n0,hm,h1,h2 with
 | [a,b],pw,_,hm,_,_=>
  exact zA1.mpr ⟨a,b,rfl,zBc.mpr (hm a (by simp)),zBc.mpr (hm b (by simp)),by simpa using pw⟩
 | [a],_,_,_,h1,_=>exact absurd rfl h1
 | [],_,n0,_,_,_=>cases n0
 | _ :: _ :: _ :: _,_,_,_,_,h2=>simp at h2
theorem zEW (m:IsM zA l) (t:List Int) (x:Int) (h:Th zA t) (hx:0 <= x /\ x < (l:Int)):Th zA (setR zA t x):=by
 refine ⟨m.setR h.1 hx.1 hx.2,?_⟩;have:=zNl (t.map fun h=>zAx zA h x);rw [zWL] at this;exact zWd this h.2
def zE6 (zA:List (List Int)) (G:List Int -> Prop):Prop:=(∀ t,Th zA t -> t.length = 1 -> G t) \/ ∀ t,t.length = 1 -> ¬ G t
theorem zJi (m:IsM zA l):∀ (w t:List Int),Th zA t -> t.length = 1 -> (∀ x ∈ w,0 <= x /\ x < (l:Int)) -> (broR zA t w).length = 1
 | [],_,_,h,_=>h
 | x :: w,t,u,h,hw=>by
  have hx:=hw x zWQ;have u':=zEW m t x u hx;refine zJi m w (setR zA t x) u' ?_ fun y hy=>hw y (zWP _ hy);have h1:=zNl (t.map fun h=>zAx zA h x);rw [zWL,h] at h1;have h2:=u'.1.n0;have h3:(setR zA t x).length <= 1:=h1;omega
theorem zGo (m:IsM zA l) (o:zE6 zA G) (t:List Int) (n:Nat) (u:Th zA t) (g:¬ G t) (r:Rch zA l G t n):t ∈ zd (zc zA):=by
 refine zNL t u fun h1=>?_;rcases o with o | o
 ·exact g (o t u h1)
 ·obtain ⟨w,_,hw,hg⟩:=r;exact o _ (zJi m w t u h1 hw) hg
theorem zK3 (m:IsM zA l) (o:zE6 zA G) (h:zIJ zA l G (Th zA) k fd lev):zIJ zA l G (Th zA) (k + 1) (zCG (zEe zA l) (k:Int) lev (fd,[])).1 (zCG (zEe zA l) (k:Int) lev (fd,[])).2 :=
 zOO (P:=fun t=>t ∈ zd (zc zA)) zSU zDN (zGo m o) (zEW m) h
theorem zOo (hts:∀ t,t ∈ ts ↔ Th zA t /\ G t) (h:∀ t d,zO fd t = some d ↔ t ∈ ts /\ d = .int 0):zIJ zA l G (Th zA) 0 fd ts:=by
 have key:∀ t,t ∈ ts ↔ Th zA t /\ Dst zA l G t 0:=fun t=>by rw [zCh,hts]
 refine ⟨fun t d=>?_,key⟩;rw [h t d,key t];constructor
 ·rintro ⟨⟨a,b⟩,rfl⟩; exact ⟨a,0,zWI _,b,by simp⟩
 ·rintro ⟨a,n,hn,b,rfl⟩;have:n = 0:=by omega
  subst this;exact ⟨⟨a,b⟩,by simp⟩
abbrev One (t:List Int):Prop:=t.length = 1
theorem zQW (t:List Int):t ∈ (zc zA).map (fun r=>[r]) ↔ Th zA t /\ One t:=by
 rw [zWT];constructor
 ·rintro ⟨r,hr,rfl⟩;have:=zBc.mp hr;refine ⟨⟨⟨by simp,by simp,fun x hx=>?_⟩,by simp⟩,rfl⟩;rw [zWe] at hx;subst hx; exact this
 ·rintro ⟨⟨s,_⟩,h1⟩;obtain ⟨r,rfl⟩:=List.length_eq_one_iff.mp h1;exact ⟨r,zBc.mpr (s.mem r (by simp)),rfl⟩
theorem zGA:zE6 zA One:=.inl fun _ _ h=>h
theorem whole (m:IsM zA l) (h:zIJ zA l G (Th zA) k fd []) (t:List Int) (d:D):zO fd t = some d ↔ Th zA t /\ ∃ n:Nat,Dst zA l G t n /\ d = .int (n:Int):=zRJ (zEW m) h t d
theorem zFG {α:Type} [DecidableEq α]:∀ (xs ys:List α),xs.Nodup -> (∀ x ∈ xs,x ∈ ys) -> xs.length <= ys.length
 | [],_,_,_=>zWy _
 | x :: r,ys,h,hm=>by
  obtain ⟨h1,h2⟩:=List.nodup_cons.mp h;have hx:x ∈ ys:=hm x zWQ;have:=zFG r (ys.erase x) h2 fun y hy=>(List.mem_erase_of_ne (fun z=>h1 (by rw [<- z]; exact hy))).mpr (hm y (zWP _ hy));rw [List.length_erase_of_mem hx] at this;have:=List.length_pos_of_mem hx;simp only [zWj]; omega
theorem zEj:∀ {T:List (List Int × D)} {g:List Int},(zO T g).isSome = true ↔ g ∈ T.map (·.1)
 | [],g=>by simp [zO]
 | q :: r,g=>by
  unfold zO;by_cases h:q.1 = g
  ·simp [h]
  ·rw [zWU h,zEj (T:=r)];simp only [zWV,zWO];constructor
   ·exact .inr
   ·rintro (z | z)
    ·exact absurd z.symm h
    ·exact z
structure Sz (n:Nat) (st:Fd):Prop where
 ks:(st.1.map (·.1)).Nodup
 nd:st.2.Nodup
 sub:∀ t ∈ st.2,t ∈ st.1.map (·.1)
 len:st.1.length = n + st.2.length
theorem zRs {n:Nat} {st:Fd} (k:Int) (p:List Int) (h:Sz n st):Sz n (zBP k st p):=by
 unfold zBP;by_cases q:(zO st.1 p).isSome = true
 ·rw [zWR q]; exact h
 ·rw [zWU q];have hn:zO st.1 p = none:=by
   cases e:zO st.1 p with
   | none=>rfl
   | some d=>rw [e] at q; simp at q
  have hk:p ∉ st.1.map (·.1):=fun z=>q (zEj.mpr z);have e:zDG st.1 p (.int k) = st.1 ++ [(p,.int k)]:=by unfold zDG; rw [hn]
  rw [e];refine ⟨?_,?_,?_,?_⟩
  ·show ((st.1 ++ [(p,D.int k)]).map (·.1)).Nodup;rw [zW4,zXQ];refine ⟨h.ks,by simp,fun a ha b hb=>?_⟩;simp at hb;subst hb;intro z; subst z; exact hk ha
  ·show (st.2 ++ [p]).Nodup;rw [zXQ];refine ⟨h.nd,by simp,fun a ha b hb=>?_⟩;simp at hb;subst hb;intro z; subst z; exact hk (h.sub _ ha)
  ·intro t ht;show t ∈ (st.1 ++ [(p,D.int k)]).map (·.1);rw [zW4,zWc];rcases zWc.mp (show t ∈ st.2 ++ [p] from ht) with z | z
   ·exact .inl (h.sub t z)
   ·right; simpa using z
  ·show (st.1 ++ [(p,D.int k)]).length = n + (st.2 ++ [p]).length;rw [zWS,zWS,h.len];simp; omega
theorem zHT (src:List Int -> List (List Int)) (k:Int):∀ (gs:List (List Int)) {st:Fd},Sz n st -> Sz n (zCG src k gs st)
 | [],st,h=>h
 | g :: r,st,h=>by
  show Sz n (zCG src k r ((src g).foldl (zBP (k + 1)) st));refine zHT src k r ?_;have:∀ (ps:List (List Int)) {st:Fd},Sz n st -> Sz n (ps.foldl (zBP (k + 1)) st):=by
   intro ps;induction ps with
   | nil=>intro st h; exact h
   | cons p ps ih=>intro st h; exact ih (zRs (k + 1) p h)
  exact this _ h
theorem zON (k:Int) (st:Fd) (p:List Int):st.1.length <= (zBP k st p).1.length:=by
 unfold zBP;split
 ·exact zWI _
 ·show st.1.length <= (zDG st.1 p _).length;unfold zDG;cases zO st.1 p <;> simp
theorem zJH (src:List Int -> List (List Int)) (k:Int):∀ (gs:List (List Int)) (st:Fd),st.1.length <= (zCG src k gs st).1.length
 | [],st=>zWI _
 | g :: r,st=>by
  have h1:∀ (ps:List (List Int)) (st:Fd),st.1.length <= (ps.foldl (zBP (k + 1)) st).1.length:=by
   intro ps;induction ps with
   | nil=>intro st; exact zWI _
   | cons p ps ih=>intro st; exact zWd (zON (k + 1) st p) (ih _)
  exact zWd (h1 (src g) st) (zJH src k r _)
theorem zGu (h:zIJ zA l G (Th zA) k fd lev) (hk:(fd.map (·.1)).Nodup):fd.length <= zA.length + zA.length * zA.length:=by
 have hr:(zc zA).length = zA.length:=by unfold zc; simp
 have h1:=zFG (fd.map (·.1)) ((zc zA).map (fun r=>[r]) ++ zd (zc zA)) hk fun t ht=>by
  have hs:=zEj.mpr ht;cases e:zO fd t with
  | none=>rw [e] at hs; cases hs
  | some d=>
   obtain ⟨u,_⟩:=(h.1 t d).mp e;rw [zWc];by_cases h1:t.length = 1
   ·obtain ⟨r,rfl⟩:=List.length_eq_one_iff.mp h1;exact .inl (zWT.mpr ⟨r,zBc.mpr (u.1.mem r (by simp)),rfl⟩)
   ·exact .inr (zNL t u h1)
 have h2:=zBv (zc zA);rw [zWL,zWS,zWL,hr] at h1;rw [hr] at h2;omega
theorem zQj (h:f σ M = some (.dat (.ref j),M)) (hj:M[j]? = some (.lst xs)):zMU f σ M = some (!xs.isEmpty,M):=by
 unfold zMU; rw [h]; dsimp only; rw [zAH hj]
theorem zRf (zA:List (List Int)) (l:Nat) (g:List Int):(zEe zA l g).length <= zA.length * zA.length * l:=by
 unfold zEe zDv;rw [zWL];refine zWd (List.length_filter_le _ _) ?_;rw [zIH];have:=zBv (zc zA);have hr:(zc zA).length = zA.length:=by unfold zc; simp
 rw [hr] at this;exact Nat.mul_le_mul_right l this
theorem zQn (m:IsM zA l) (oa:zE6 zA G) (hR:zA.length <= 26) (hl:l <= 12) (h1:jf < M0.length) (hd:M0[jd]? = some (dT Ts)) (d1:jd ≠ jf) (hs:∀ g,(∃ j,zO Ts g = some (.ref j) /\ j ≠ jf /\ M0[j]? = some (.lst ((zEe zA l g).map tI))) \/ (zO Ts g = none /\ zEe zA l g = [])) (hf:M0[jf]? = some (dT fd)) (hv:M0[jl]? = some (.lst (lev.map tI))) (l1:jl ≠ jf) (inv:zIJ zA l G (Th zA) 0 fd lev) (nk:(fd.map (·.1)).Nodup) (nl:lev.length <= fd.length) :
  OkS (zBM (zMU (zD 3)) (zT (zAC 6 (zBN zQ)) (zT (zDJ (zAi (zD 3)) (gN 5) (zDJ (zAi (zCL (zD 2) (zD 5) (zBN zQ))) (gN 7) (sIf (tst (fOp (zCg true) (zD 7) (zD 4))) (zT (zDX (fOp zAl (fOp zAw (zD 4) (zD 5)) (fC (.int 1))) (zD 4) (zD 7)) (zBr (fM zA0 (zD 6) (zH (toD (zD 7)) zQ)))) zBt))) (zAC 3 (zD 6)))) 1000 [some (mD zA),x1,some (.ref jd),some (.ref jl),some (.ref jf),y5,y6,y7] M0)
   fun o σ' M'=>o = .nx /\ (∃ y3 y5 y6 y7,σ' = [some (mD zA),x1,some (.ref jd),y3,some (.ref jf),y5,y6,y7]) /\ (∃ fd',M'[jf]? = some (dT fd') /\ fd'.length <= 702 /\ ∀ t d,zO fd' t = some d ↔ Th zA t /\ ∃ n:Nat,Dst zA l G t n /\ d = .int (n:Int)) /\ M0.length <= M'.length /\ ∀ j,j < M0.length -> j ≠ jf -> M'[j]? = M0[j]?:=by
 have hN:zA.length + zA.length * zA.length <= 702:=by
  have:=zXo hR hR;omega
 have hB:zA.length * zA.length * l <= 8112:=zXo (zXo hR hR) hl;refine zCM (I:=fun z σ M=>∃ (jl:Nat) (y5 y6 y7:Option D) (k:Nat) (fd:List (List Int × D)) (lev:List (List Int)),σ = [some (mD zA),x1,some (.ref jd),some (.ref jl),some (.ref jf),y5,y6,y7] /\ M[jf]? = some (dT fd) /\ M[jl]? = some (.lst (lev.map tI)) /\ jl ≠ jf /\ zIJ zA l G (Th zA) k fd lev /\ (fd.map (·.1)).Nodup /\ lev.length <= fd.length /\ M0.length <= M.length /\ (∀ j,j < M0.length -> j ≠ jf -> M[j]? = M0[j]?) /\ z = (702 - fd.length) + (if lev.isEmpty then 0 else 1)) ?_ 1000 ((702 - fd.length) + (if lev.isEmpty then 0 else 1)) _ _ (by split <;> omega) ⟨jl,y5,y6,y7,0,fd,lev,rfl,hf,hv,l1,inv,nk,nl,zWI _,fun _ _ _=>rfl,rfl⟩;rintro z σ M ⟨jl,y5,y6,y7,k,fd,lev,rfl,hf,hv,l1,inv,nk,nl,hlen,fr,rfl⟩;have hfl:=zWd (zGu inv nk) hN;refine zJ (M:=M) (a:=!(lev.map tI).isEmpty) (zQj rfl hv) ?_;cases lev with
 | nil=>
  exact ⟨rfl,⟨_,_,_,_,rfl⟩,⟨fd,hf,hfl,whole m inv⟩,hlen,fr⟩
 | cons g0 lev0=>
  show OkS (zT _ _ [some (mD zA),x1,some (.ref jd),some (.ref jl),some (.ref jf),y5,y6,y7] M) _;generalize hlv:g0 :: lev0 = lev at *;have hne0:lev.isEmpty = false:=by rw [<- hlv]; rfl
  rw [zR,zg];refine zJ (M:=M) (a:=.fl []) (by unfold zBN zQ; dsimp only; rw [zWR (zy (by simp))]) ?_;rw [zGL,zZ,zR,zBa];have fl:=(zWF.mp hf).1;have vl:=(zWF.mp hv).1;have up:∀ {j:Nat},j < M.length -> (M ++ [MO.lst ([]:List D)])[j]? = M[j]?:=fun h=>zWJ h;have dl:=(zWF.mp hd).1;refine ⟨_,_,_,(show zAi (zD 3) [some (mD zA),x1,some (.ref jd),some (.ref jl),some (.ref jf),y5,some (.ref M.length),y7] (M ++ [.lst []]) = some (lev.map tI,zFZ (.dat (.ref jl)) (lev.map tI),M ++ [.lst []]) by
   unfold zAi;rw [show zD 3 [some (mD zA),x1,some (.ref jd),some (.ref jl),some (.ref jf),y5,some (.ref M.length),y7] (M ++ [.lst []]) = some (.dat (.ref jl),M ++ [.lst []]) from rfl];dsimp only; rw [zAH ((up vl).trans hv)]),?_⟩
  have sz0:Sz fd.length (fd,([]:List (List Int))):=⟨nk,by simp,(fun t h=>by cases h),by simp⟩;have szw:Sz fd.length (zCG (zEe zA l) (k:Int) lev (fd,[])):=zHT _ _ lev sz0;have hflw:=zWd (zGu (zK3 m oa inv) szw.ks) hN;refine OkS.mono (zR1 (k:=(k:Int)) (src:=zEe zA l) (st:=(fd,[])) (Ts:=Ts) (by omega) (by simp; omega) (by simp) ((up (by omega)).trans ((fr _ dl d1).trans hd)) d1 (by omega) ((up vl).trans hv) l1 (by omega) ?_ 8112 (fun g _=>zWd (zRf zA l g) hB) ?_ 702 (by omega) (fun us vs e=>?_) ⟨(up fl).trans hf,by simp,zWI _,fun _ _ _ _=>rfl⟩) ?_
  ·intro g;rcases hs g with ⟨j,e,q1,q2⟩ | q
   ·have jl':=(zWF.mp q2).1;exact .inl ⟨j,e,q1,by omega,(up (by omega)).trans ((fr _ jl' q1).trans q2)⟩
   ·exact .inr q
  ·intro g hg;obtain ⟨u,hd'⟩:=(inv.2 g).mp hg;exact (inv.1 g _).mpr ⟨u,k,zWI _,hd',rfl⟩
  ·have h3:=zJH (zEe zA l) (k:Int) vs (zCG (zEe zA l) (k:Int) us (fd,[]));have h4:zCG (zEe zA l) (k:Int) vs (zCG (zEe zA l) (k:Int) us (fd,[])) = zCG (zEe zA l) (k:Int) lev (fd,[]):=by rw [e]; unfold zCG; rw [List.foldl_append]
   rw [h4] at h3;have h5:=(zHT (zEe zA l) (k:Int) us sz0).len;omega
  ·rintro o σ' M' ⟨rfl,⟨y5,y7,rfl⟩,lv⟩;rw [zZ,zg];refine zJ (M:=M') (a:=.dat (.ref M.length)) rfl ?_;rw [zU];have sz:Sz fd.length (zCG (zEe zA l) (k:Int) lev (fd,[])):=zHT _ _ lev ⟨nk,by simp,(fun t h=>by cases h),by simp⟩;have inv':=zK3 m oa inv;generalize zCG (zEe zA l) (k:Int) lev (fd,[]) = st at lv sz inv';have hfl':=zWd (zGu inv' sz.ks) hN;have hsl:=sz.len;refine ⟨(702 - st.1.length) + (if st.2.isEmpty then 0 else 1),?_,M.length,y5,_,y7,k + 1,st.1,st.2,rfl,lv.f,lv.b,by omega,inv',sz.ks,by omega,?_,?_,rfl⟩
   ·rw [hne0];cases e:st.2 with
    | nil=>simp; omega
    | cons a r=>rw [e] at hsl; simp at hsl ⊢; omega
   ·have:=lv.len; simp at this; omega
   ·intro j hj hjf;rw [lv.fr j (by simp; omega) hjf (by omega),up (by omega)];exact fr j hj hjf
theorem zOE {M:Mem} {ts:List (List Int)} (hf:f σ M = some (.dat (.ref jl),M)) (hj:M[jl]? = some (.lst (ts.map tI))) (nd:ts.Nodup) (hz:ts.length <= 80000) (hg:∀ a,gN i a (zBl own σ) = some ((zBl own σ).set i (some a))) (hs:∀ (a:D) M',zD i ((zBl own σ).set i (some a)) M' = some (.dat a,M')) :
  zDg true own (zAi f) (gN i) zAJ (zD i) (fC (.int 0)) σ M = some (.dat (.ref M.length),M ++ [dT (ts.map fun t=>(t,.int 0))]):=by
 have hjl:=(zWF.mp hj).1;unfold zDg zAi;rw [hf]; dsimp only;rw [zAH hj]; dsimp only;have loop:∀ (r q:List (List Int)),q ++ r = ts -> zC8 (gN i) zAJ (zD i) (fC (.int 0)) (zBl own σ) M.length (ts.map tI) (zFZ (.dat (.ref jl)) (ts.map tI)) (r.map tI) (M ++ [dT (q.map fun t=>(t,.int 0))]) = some (M ++ [dT (ts.map fun t=>(t,.int 0))]):=by
  intro r;induction r with
  | nil=>intro q e; rw [zWw] at e; subst e; exact zJL (.inl (by rw [zWJ hjl]; exact hj))
  | cons x r ih=>
   intro q e;have hx:x ∉ q:=fun z=>by
    rw [<- e,zXQ] at nd;exact nd.2.2 x z x zWQ rfl
   have hl:q.length < 90000:=by have:=zXz List.length e; simp at this; omega
   have hk:zO (q.map fun t=>(t,D.int 0)) x = none:=by
    cases e2:zO (q.map fun t=>(t,D.int 0)) x with
    | none=>rfl
    | some d=>
     have:=zEj.mp (show (zO (q.map fun t=>(t,D.int 0)) x).isSome = true by rw [e2]; rfl);rw [zWa] at this;obtain ⟨y,hy,rfl⟩:=zWT.mp this;exact absurd hy hx
   have hgd:zBE (zFZ (.dat (.ref jl)) (ts.map tI)) (ts.map tI) (M ++ [dT (q.map fun t=>(t,.int 0))]):=.inl (by rw [zWJ hjl]; exact hj);rw [zWV,zM7 (σ1:=(zBl own σ).set i (some (tI x))) (k:=tI x) (v:=.int 0) (M':=M ++ [dT ((q ++ [x]).map fun t=>(t,.int 0))]) hgd (hg _) (hs _ _) rfl]
   ·exact ih (q ++ [x]) (by rw [<- e]; simp)
   ·rw [zLG (T:=q.map fun t=>(t,.int 0)) (by simp) (by rw [zWL]; exact hl)];unfold zDG;rw [hk];simp
 have:=loop ts [] rfl;rw [show zKa true = dT [] from rfl];rw [show (([]:List (List Int)).map fun t=>(t,D.int 0)) = [] from rfl] at this;rw [this]
theorem zIv {zA:List (List Int)} (m:IsM zA l) (oa:zE6 zA G) (hR:zA.length <= 26) (hl:l <= 12) {M:Mem} {ts:List (List Int)} (hj:M[jg]? = some (.lst (ts.map tI))) (nd:ts.Nodup) (hts:∀ t,t ∈ ts ↔ Th zA t /\ G t) (hz:ts.length <= 80000):Ok (zB3 [mD zA,.ref jg] M) fun d M'=>∃ jf,d = .ref jf /\ M.length <= jf /\ (∃ fd,M'[jf]? = some (dT fd) /\ fd.length <= 702 /\ ∀ t d,zO fd t = some d ↔ Th zA t /\ ∃ n:Nat,Dst zA l G t n /\ d = .int (n:Int)) /\ M.length <= M'.length /\ ∀ j,j < M.length -> M'[j]? = M[j]?:=by
 have hjl:=(zWF.mp hj).1;unfold zB3;rw [zAM];unfold zD7;show OkS (zT _ _ [some (mD zA),some (.ref jg),none,none,none,none,none,none] M) _;rw [zR,zg];refine zDR.mpr (zJ (zo rfl) (Ok.mono (zSL m (by omega) hl) ?_));rintro d M1 ⟨rfl,sr,h1,fr⟩;rw [zU,zZ];refine zBk (d:=.ref jg) rfl ?_;show OkS (zT _ _ [some (mD zA),some (.ref jg),some (.ref M.length),some (.ref jg),none,none,none,none] M1) _;have hj1:=(fr _ hjl).trans hj;rw [zR,zg];refine zJ (zOE (jl:=jg) (ts:=ts) rfl hj1 nd hz (fun _=>rfl) (fun _ _=>rfl)) ?_;rw [zU,zZ];show OkS (zT _ _ [some (mD zA),some (.ref jg),some (.ref M.length),some (.ref jg),some (.ref M1.length),none,none,none] _) _;obtain ⟨T,ed,hT,a1,a2,a3⟩:=sr.ex;have up:∀ {j:Nat} {u:MO},M1[j]? = some u -> (M1 ++ [dT (ts.map fun t=>(t,D.int 0))])[j]? = some u:=fun {j u} h=>by rw [zWJ (zWF.mp h).1]; exact h
 have ed':=(zWF.mp ed).1;rw [zR];refine OkS.mono (zQn (jf:=M1.length) (jd:=M.length) (jl:=jg) (Ts:=T) (lev:=ts) (fd:=ts.map fun t=>(t,D.int 0)) m oa hR hl (by simp) (up ed) (by omega) ?_ (by simp) (up hj1) (by omega) (zOo hts ?_) ?_ (by simp)) ?_
 ·intro g;cases e:zO T g with
  | none=>exact .inr ⟨rfl,a2 g e⟩
  | some d=>
   obtain ⟨j,rfl,q1,q2⟩:=a1 g d e;have:=(zWF.mp q2).1;exact .inl ⟨j,rfl,by omega,up q2⟩
 ·intro t d;have gen:∀ (ts:List (List Int)),zO (ts.map fun t=>(t,D.int 0)) t = some d ↔ t ∈ ts /\ d = .int 0:=by
   intro ts;induction ts with
   | nil=>simp [zO]
   | cons x r ih=>
    rw [zWV,zO];by_cases q:x = t
    ·subst q; simp [eq_comm]
    ·rw [zWU q,ih,zWO];constructor
     ·rintro ⟨z1,z2⟩; exact ⟨.inr z1,z2⟩
     ·rintro ⟨z1 | z1,z2⟩
      ·exact absurd z1.symm q
      ·exact ⟨z1,z2⟩
  exact gen _
 ·rw [zWa];rw [show ((fun (x:List Int × D)=>x.1) ∘ fun (t:List Int)=>(t,D.int 0)) = id from rfl,List.map_id];exact nd
 ·rintro o σ' M' ⟨rfl,⟨y3,y5,y6,y7,rfl⟩,⟨fd,e1,e2,e3⟩,hlen,fr'⟩;rw [zZ];rw [zWS] at hlen fr';refine zAk (d:=.ref M1.length) rfl ⟨M1.length,rfl,by omega,⟨fd,e1,e2,e3⟩,by omega,fun j hj=>?_⟩;rw [fr' j (by omega) (by omega),zWJ (by omega)];exact fr j hj
noncomputable def zGb:FS:=(zAI (za zB3 (zH (toD (zD 0)) (zH (toD (zAO [1] (zAY (zH (toD (fB zB1 (zb (zD 0) zv))) zQ)) (gN 1) zAJ (zBd (zH (toD (zD 1)) zQ)))) zQ))))
noncomputable def zCw:FF:=zBX 2 zGb
theorem zMv (m:IsM zA l) (hR:zA.length <= 26) (hl:l <= 12):Ok (zCw [mD zA] M) fun d M'=>∃ jf,d = .ref jf /\ M.length <= jf /\ (∃ fd,M'[jf]? = some (dT fd) /\ fd.length <= 702 /\ ∀ t d,zO fd t = some d ↔ Th zA t /\ ∃ n:Nat,Dst zA l One t n /\ d = .int (n:Int)) /\ M.length <= M'.length /\ ∀ j,j < M.length -> M'[j]? = M[j]?:=by
 unfold zCw;rw [zAM];unfold zGb;show OkS (zAI _ [some (mD zA),none] M) _;have er:zAY (zH (toD (fB zB1 (zb (zD 0) zv))) zQ) [some (mD zA),none] M = some ((List.range zA.length).map (fun (k:Nat)=>D.int k),none,M):=by
  rw [zCC (j:=(zA.length:Int)) (zH1 rfl) (by omega) (by omega),zIR];rw [show (zA.length:Int).toNat = zA.length by omega]
 have ec:zAO [1] (zAY (zH (toD (fB zB1 (zb (zD 0) zv))) zQ)) (gN 1) zAJ (zBd (zH (toD (zD 1)) zQ)) [some (mD zA),none] M = some (.fl ((List.range zA.length).map fun (k:Nat)=>tI [(k:Int)]),M) :=
  zCD (List.range zA.length) (fun (k:Nat)=>D.int k) (fun (k:Nat)=>tI [(k:Int)]) er trivial (by rw [zX9]; omega) fun k _=>⟨_,rfl,rfl⟩
 have el:((List.range zA.length).map fun (k:Nat)=>tI [(k:Int)]) = ((zc zA).map fun r=>[r]).map tI:=by
  unfold zc; rw [zWa,zWa]; rfl
 rw [el] at ec;rw [zAt];refine zDR.mpr (zAp.mpr (zAu.mpr (zAQ.mpr ⟨_,rfl,?_⟩)));rw [zU];refine zAp.mpr (zAu.mpr (zJ ec ?_));rw [zGL,zB6];refine Ok.mono (zIv m zGA hR hl (jg:=M.length) (ts:=(zc zA).map fun r=>[r]) (by simp) ?_ zQW ?_) ?_
 ·unfold zc;rw [zWa];exact List.pairwise_map.mpr (List.Pairwise.imp (fun {a b} h z=>h (by simp at z; omega)) List.nodup_range)
 ·unfold zc; simp; omega
 rintro d M' ⟨jf,rfl,h1,h2,h3,h4⟩;rw [zU];rw [zWS] at h1 h3 h4;refine ⟨jf,rfl,by omega,h2,by omega,fun j hj=>?_⟩;rw [h4 j (by omega),zWJ hj]
set_option genInjectivity true in
inductive Climb (zA:List (List Int)) (l:Nat) (G:List Int -> Prop):List Int -> List Int -> Prop
 | nil {t:List Int}:G t -> Climb zA l G t []
 | cons {t:List Int} {x:Int} {w:List Int} {n:Nat}:Dst zA l G t (n + 1) -> 0 <= x -> x < (l:Int) -> Dst zA l G (setR zA t x) n -> (∀ y,0 <= y -> y < x -> ¬ Dst zA l G (setR zA t y) n) -> Climb zA l G (setR zA t x) w -> Climb zA l G t (x :: w)
theorem zJa:∀ {w t:List Int} {n:Nat},Climb zA l G t w -> Dst zA l G t n -> w.length = n
 | [],_,_,.nil h,d=>by have:=zA2 (zCh.mpr h) d; simpa using this
 | x :: w,_,n,.cons (n:=a) d1 _ _ e1 _ c1,d=>by
  have h1:=zJa c1 e1;have h2:=zA2 d1 d;rw [zWj]; omega
theorem zAv:∀ {w t:List Int},Climb zA l G t w -> (∀ x ∈ w,0 <= x /\ x < (l:Int)) /\ G (broR zA t w)
 | [],_,.nil h=>⟨fun _ h=>(by cases h),h⟩
 | x :: w,_,.cons _ x0 x1 _ _ c1=>by
  obtain ⟨h1,h2⟩:=zAv c1;refine ⟨fun y hy=>?_,h2⟩;rcases zWO.mp hy with rfl | q
  ·exact ⟨x0,x1⟩
  ·exact h1 y q
theorem zJ6 {P:Int -> Prop}:∀ (k:Nat),P (k:Int) -> ∃ x:Nat,x <= k /\ P (x:Int) /\ ∀ y:Int,0 <= y -> y < (x:Int) -> ¬ P y:=by
 intro k;induction k using Nat.strongRecOn with
 | ind k ih=>
  intro h;by_cases q:∃ j:Nat,j < k /\ P (j:Int)
  ·obtain ⟨j,hj,hp⟩:=q;obtain ⟨x,h1,h2,h3⟩:=ih j hj hp;exact ⟨x,by omega,h2,h3⟩
  ·refine ⟨k,zWI _,h,fun y y0 y1 hp=>q ⟨y.toNat,by omega,?_⟩⟩;rw [show ((y.toNat:Nat):Int) = y by omega]; exact hp
theorem zGO:∀ (n:Nat) {t:List Int},Dst zA l G t n -> ∃ w,Climb zA l G t w
 | 0,t,d=>⟨[],.nil (zCh.mp d)⟩
 | n + 1,t,d=>by
  obtain ⟨_,x,hx,hd⟩:=zDu.mp d;obtain ⟨y,h1,h2,h3⟩:=zJ6 (P:=fun x=>Dst zA l G (setR zA t x) n) x.toNat (by rw [show ((x.toNat:Nat):Int) = x by omega]; exact hd);obtain ⟨w,hw⟩:=zGO n h2;exact ⟨(y:Int) :: w,.cons d (by omega) (by omega) h2 h3 hw⟩
end Lac
namespace Lac
open PySem PySem.Spec PyProof.Rows L2 L3 ST Law
theorem zE3 (ha:a σ M = some (false,M)) (hb:b σ M = some (k,M)):zFk a b σ M = some (k,M):=by unfold zFk; rw [ha]; exact hb
theorem aC' {f:FE} {g:FA} {σ:Sd} {M M1 M2:Mem} {d:D} {ds:List D} (h:toD f σ M = some (d,M1)) (hg:g σ M1 = some (ds,M2)):zH (toD f) g σ M = some (d :: ds,M2):=by
 unfold zH; rw [h]; dsimp only; rw [hg]
theorem zTM (h:f σ M = some (.dat d,M)):toD f σ M = some (d,M):=by unfold toD; rw [h]
theorem zUr {M M1:Mem} (h:f σ M = some (.fl xs,M1)):toD f σ M = some (.ref M1.length,M1 ++ [.lst xs]):=by unfold toD; rw [h]
theorem zQx {g:FA} {σ:Sd} {M M1:Mem} {ds:List D} (h:g σ M = some (ds,M1)) (hz:ds.length <= 100000):zBN g σ M = some (.fl ds,M1):=by
 unfold zBN; rw [h]; dsimp only; rw [zWR (zy hz)]
theorem zGS {g:FA} {σ:Sd} {M M1:Mem} {ds:List D} (h:g σ M = some (ds,M1)) (hz:ds.length <= 100000):zBd g σ M = some (.dat (.tup ds),M1):=by
 unfold zBd; rw [h]; dsimp only; rw [zWR (zy hz)]
theorem zSe (hf:f σ M = some (.dat (.int i),M)) (hg:g σ M = some (.dat (.int j),M)):fB zLz (zb f (zb g zv)) σ M = some (.dat (.int (if j < i then j else i)),M):=by
 unfold fB zb zv; rw [hf]; dsimp only; rw [hg]; rfl
theorem zSy {f:FE} {σ:Sd} {M M1:Mem} {xs:List D} (h:f σ M = some (.fl xs,M1)):zAi f σ M = some (xs,none,M1):=by
 unfold zAi; rw [h]; rfl
theorem zOR (h1:M[n]? = some (.lst xs)) (h2:M[m]? = some (.lst ys)) (hz:xs.length + ys.length <= 90000):zFS (.dat (.ref n)) [.ref m] M = some (.non,M.set n (.lst (xs ++ ys))):=by
 unfold zFS; dsimp only; rw [h1,h2]; dsimp only; rw [zWR (zy (by omega))]
theorem zSn (hf:f σ M = some (.dat (.int i),M)) (hg:g σ M = some (.dat (.int j),M)):fB zL6 (zb f (zb g zv)) σ M = some (.dat (.int (if j > i then j else i)),M):=by
 unfold fB zb zv; rw [hf]; dsimp only; rw [hg]; rfl
theorem zNZ {m:FF} {a:FA} {σ:Sd} {M M1 M':Mem} {ds:List D} {d:D} (h:a σ M = some (ds,M1)) (hm:m ds M1 = some (d,M')):za m a σ M = some (.dat d,M'):=by
 unfold za; rw [h]; dsimp only; rw [hm]
noncomputable def zDE:FS:=(zT (zAC 3 (zAO [4] (zAY (zH (toD (fB zB1 (zb (fOp kIx (zD 0) (fC (.int 0))) zv))) zQ)) (gN 4) zAJ (za zBL (zH (toD (zD 0)) (zH (toD (zD 1)) (zH (toD (zD 4)) zQ))))))
  (zAI (fB (zHt false) (zb (zAO [4,5] (zLx (zD 3)) (zG7 4 5) (zCl (tst (fOp (zCg false) (zD 5) (zD 2))) (tst (fOp kEq (fOp zAw (zD 2) (zD 5)) (fOp zML (fOp zAw (zD 2) (zD 1)) (fC (.int 1)))))) (zD 4)) zv))))
noncomputable def zAZ:FF:=zBX 6 zDE
noncomputable def zFm:FS:=(zT (zAC 2 (zAO [3] (zAi (za zA5 (zH (toD (za zBY (zH (toD (zD 0)) zQ))) zQ))) (gN 3) (tst (fOp kGt (zCL (zD 1) (zD 3) (fC (.int 0))) (fC (.int 0)))) (zD 3)))
  (zAI (zDg true [3] (zAi (zD 2)) (gN 3) zAJ (zD 3) (zBd (zH (toD (fOp zAw (zD 1) (zD 3))) (zH (toD (za zAZ (zH (toD (zD 0)) (zH (toD (zD 3)) (zH (toD (zD 1)) zQ))))) zQ))))))
noncomputable def zCJ:FF:=zBX 4 zFm
noncomputable def zJ5:FS:=(zAI (za zCJ (zH (toD (zD 0)) (zH (toD (za zCw (zH (toD (zD 0)) zQ))) zQ))))
noncomputable def zFK:FF:=zBX 1 zJ5
noncomputable def zGW:FS:=(zT (zAC 3 (zBN zQ))
  (zT (zAC 4 (zD 2))
  (zT (zBM (tst (fOp (zCg false) (zD 4) (zD 1))) (zT (zAC 5 (fOp kIx (fOp zAw (zD 1) (zD 4)) (fC (.int 1))))
  (zT (zBr (fM zA0 (zD 3) (zH (toD (zD 5)) zQ)))
  (zAC 4 (za zBL (zH (toD (zD 0)) (zH (toD (zD 4)) (zH (toD (zD 5)) zQ))))))) 1000)
  (zAI (fB zBR (zb (zD 3) zv))))))
noncomputable def zDq:FF:=zBX 6 zGW
theorem zJR {α:Type} (hgd:zBE gd all M) (enc out:α -> D) (keep:α -> Bool):∀ (as:List α),(∀ a ∈ as,∃ σ1,g (enc a) σ = some σ1 /\ tc σ1 M = some (keep a,M) /\ (keep a = true -> te σ1 M = some (.dat (out a),M))) -> zBF g tc te σ all gd (as.map enc) M = some ((as.filter keep).map out,M)
 | [],_=>by
  rw [List.map_nil];unfold zBF;rw [zWR hgd]; rfl
 | a :: r,h=>by
  obtain ⟨σ1,e1,e2,e3⟩:=h a zWQ;have ih:=zJR (σ:=σ) hgd enc out keep r fun b hb=>h b (zWP _ hb);rw [zWV];unfold zBF;rw [zWR hgd,e1];dsimp only;rw [e2];cases hk:keep a with
  | false=>
   dsimp only;rw [ih,List.filter_cons_of_neg (by simp [hk])]
  | true=>
   dsimp only;rw [show toD te σ1 M = some (out a,M) by unfold toD; rw [e3 hk]];dsimp only;rw [ih,List.filter_cons_of_pos hk];rfl
theorem zCf {α:Type} {own:List Nat} {fi:FI} {g:FG} {tc:FT} {te:FE} {σ:Sd} {M M1:Mem} {gd:Option (Mem -> Prop)} (as:List α) (enc out:α -> D) (keep:α -> Bool) (hi:fi σ M = some (as.map enc,gd,M1)) (hgd:zBE gd (as.map enc) M1) (hz:as.length <= 100000)
  (he:∀ a ∈ as,∃ σ1,g (enc a) (zBl own σ) = some σ1 /\ tc σ1 M1 = some (keep a,M1) /\ (keep a = true -> te σ1 M1 = some (.dat (out a),M1))):zAO own fi g tc te σ M = some (.fl ((as.filter keep).map out),M1) :=
 ze (zFD.mpr ⟨_,_,_,hi,by rw [zWL]; exact zy hz,zJ (zJR hgd enc out keep as he) ⟨rfl,rfl⟩⟩)
theorem zS6 {f:FE} {σ:Sd} {M M1:Mem} {xs:List Int} (hf:f σ M = some (.fl (xs.map D.int),M1)) (hx:xs ≠ []):∃ b,fB (zHt false) (zb f zv) σ M = some (.dat (.int b),M1) /\ b ∈ xs /\ ∀ y ∈ xs,b <= y:=by
 cases xs with
 | nil=>exact absurd rfl hx
 | cons x r=>
  obtain ⟨h1,h2⟩:=zEV false r x;refine ⟨zDr false x r,?_,h1,fun y hy=>by simpa using h2 y hy⟩;unfold fB zb zv;rw [hf];show zHt false [.fl ((x :: r).map D.int)] M1 = _;unfold zHt;dsimp only;rw [zD3]
def zQJ (zA:List (List Int)) (l:Nat) (G:List Int -> Prop) (fd:List (List Int × D)):Prop:=∀ t d,zO fd t = some d ↔ Th zA t /\ ∃ n:Nat,Dst zA l G t n /\ d = .int (n:Int)
structure Fst (zA:List (List Int)) (l:Nat) (G:List Int -> Prop) (p:List Int) (n:Nat) (x:Int):Prop where
 x0:0 <= x
 x1:x < (l:Int)
 d:Dst zA l G (setR zA p x) n
 f:∀ y,0 <= y -> y < x -> ¬ Dst zA l G (setR zA p y) n
def isN (n:Nat):Option D -> Bool
 | some (.int v)=>decide (v = (n:Int))
 | _=>false
theorem zKp (sp:zQJ zA l G fd) (u:Th zA t):isN n (zO fd t) = true ↔ Dst zA l G t n:=by
 constructor
 ·intro h;cases e:zO fd t with
  | none=>rw [e] at h; cases h
  | some d=>
   obtain ⟨_,k,hk,rfl⟩:=(sp t d).mp e;rw [e] at h;have:(k:Int) = (n:Int):=zW8 h;rw [show n = k by omega]; exact hk
 ·intro h;rw [(sp t _).mpr ⟨u,n,h,rfl⟩];exact zXK rfl
theorem eqE:kEq (.dat (.int a)) (.dat (.int b)) M = some (.dat (.bl (decide (a = b))),M):=ze (zK6.mpr ⟨rfl,rfl⟩)
theorem zVm:zML (.dat (.int a)) (.dat (.int b)) M = some (.dat (.int (a - b)),M):=rfl
theorem gtE:kGt (.dat (.int a)) (.dat (.int b)) M = some (.dat (.bl (decide (b < a))),M):=rfl
theorem zSF (ha:a σ M = some (true,M)) (hb:b σ M = some (k,M)):zCl a b σ M = some (k,M):=by unfold zCl; rw [ha]; exact hb
theorem zSc (ha:a σ M = some (false,M)):zCl a b σ M = some (false,M):=by unfold zCl; rw [ha]
theorem zP2 {zA:List (List Int)} {l:Nat} {G:List Int -> Prop} (m:IsM zA l) (hR:zA.length <= 26) (hl:l <= 12) {M:Mem} {jf:Nat} {fd:List (List Int × D)} (hf:M[jf]? = some (dT fd)) (sp:zQJ zA l G fd) {p:List Int} (u:Th zA p) {n:Nat} (hd:Dst zA l G p (n + 1)) :
  Ok (zAZ [mD zA,tI p,.ref jf] M) fun d M'=>∃ x:Int,d = .int x /\ Fst zA l G p n x /\ ∃ us,M' = M ++ us:=by
 unfold zAZ;rw [zAM];unfold zDE;show OkS (zT _ _ [some (mD zA),some (tI p),some (.ref jf),none,none,none] M) _;have hfl:=(zWF.mp hf).1;have er:=zJG (σ:=[some (mD zA),some (tI p),some (.ref jf),none,none,none]) (M:=M) (zKf m (f:=zD 0) rfl) (by omega) (by omega);rw [show (l:Int).toNat = l by omega] at er;have ec:=zCD (own:=[4]) (g:=gN 4) (te:=za zBL (zH (toD (zD 0)) (zH (toD (zD 1)) (zH (toD (zD 4)) zQ)))) (List.range l) (fun (k:Nat)=>D.int k) (fun (k:Nat)=>tI (setR zA p (k:Int))) er trivial (by rw [zX9]; omega) fun k hk=>⟨_,rfl,z0 (zt (d:=mD zA) rfl (zt (d:=tI p) rfl (zo (d:=.int (k:Int)) rfl))) (zHR m (by omega) u.1 (by omega) (by have:=zWq.mp hk; omega))⟩;rw [zR,zg];refine zJ ec (zAF ?_);rw [zZ];show OkS (zAI _ [some (mD zA),some (tI p),some (.ref jf),some (.ref M.length),none,none] (M ++ [.lst ((List.range l).map fun (k:Nat)=>tI (setR zA p (k:Int)))])) _;generalize hA:M ++ [MO.lst ((List.range l).map fun (k:Nat)=>tI (setR zA p (k:Int)))] = A;have a1:A[M.length]? = some (.lst ((List.range l).map fun (k:Nat)=>tI (setR zA p (k:Int)))):=by rw [<- hA]; simp
 have a2:A[jf]? = some (dT fd):=by rw [<- hA,zWJ hfl]; exact hf
 have hen:zLx (zD 3) [some (mD zA),some (tI p),some (.ref jf),some (.ref M.length),none,none] A = some ((List.range l).map (fun (k:Nat)=>D.tup [.int (k:Nat),tI (setR zA p (k:Int))]),zFZ (.dat (.ref M.length)) ((List.range l).map fun (k:Nat)=>tI (setR zA p (k:Int))),A):=by
  unfold zLx;rw [show zD 3 [some (mD zA),some (tI p),some (.ref jf),some (.ref M.length),none,none] A = some (.dat (.ref M.length),A) from rfl];dsimp only;rw [zAH a1];dsimp only;congr 2;unfold zK1;rw [zWL,zX9];apply List.ext_getElem?;intro i;by_cases hi:i < l
  ·rw [zWZ,zWZ,List.zip_eq_zipWith,List.getElem?_zipWith,zWZ,List.getElem?_range hi];rfl
  ·rw [zXL (by simp; omega),zXL (by simp; omega)]
 have lp:zO fd p = some (.int ((n + 1:Nat):Int)):=(sp p _).mpr ⟨u,n + 1,hd,rfl⟩;have ef:=zCf (own:=[4,5]) (g:=zG7 4 5) (tc:=zCl (tst (fOp (zCg false) (zD 5) (zD 2))) (tst (fOp kEq (fOp zAw (zD 2) (zD 5)) (fOp zML (fOp zAw (zD 2) (zD 1)) (fC (.int 1)))))) (te:=zD 4) (List.range l) _ (fun (k:Nat)=>D.int (k:Int)) (fun (k:Nat)=>isN n (zO fd (setR zA p (k:Int)))) hen (.inl a1) (by rw [zX9]; omega) (fun k hk=>by
  have u':=zEW m p (k:Int) u ⟨by omega,by have:=zWq.mp hk; omega⟩;refine ⟨[some (mD zA),some (tI p),some (.ref jf),some (.ref M.length),some (.int (k:Int)),some (tI (setR zA p (k:Int)))],rfl,?_,fun _=>rfl⟩;have e1:fOp (zCg false) (zD 5) (zD 2) [some (mD zA),some (tI p),some (.ref jf),some (.ref M.length),some (.int (k:Int)),some (tI (setR zA p (k:Int)))] A = _:=zV (x:=.dat (tI (setR zA p (k:Int)))) (y:=.dat (.ref jf)) rfl rfl (zOH a2);rw [zWU (by decide)] at e1;cases e:zO fd (setR zA p (k:Int)) with
  | none=>
   rw [e] at e1;exact zSc (zAs e1)
  | some d=>
   obtain ⟨_,v,_,rfl⟩:=(sp _ d).mp e;rw [e] at e1;refine zSF (zAs e1) (zAs ?_);refine zV (x:=.dat (.int (v:Int))) (y:=.dat (.int (((n + 1:Nat):Int) - 1))) (zV (x:=.dat (.ref jf)) (y:=.dat (tI (setR zA p (k:Int)))) rfl rfl (zGJ a2 e)) (zV (x:=.dat (.int ((n + 1:Nat):Int))) (y:=.dat (.int 1)) (zV (x:=.dat (.ref jf)) (y:=.dat (tI p)) rfl rfl (zGJ a2 lp)) rfl zVm) ?_;rw [eqE];unfold isN;congr 5;exact propext ⟨fun h=>by omega,fun h=>by omega⟩)
 rw [show ((List.range l).filter fun (k:Nat)=>isN n (zO fd (setR zA p (k:Int)))).map (fun (k:Nat)=>D.int (k:Int)) = (((List.range l).filter fun (k:Nat)=>isN n (zO fd (setR zA p (k:Int)))).map fun (k:Nat)=>(k:Int)).map D.int by rw [zWa]; rfl] at ef;obtain ⟨b,eb,hb1,hb2⟩:=zS6 ef (by
  obtain ⟨_,x,hx,hr⟩:=zDu.mp hd;have:((x.toNat:Nat):Int) ∈ ((List.range l).filter fun (k:Nat)=>isN n (zO fd (setR zA p (k:Int)))).map fun (k:Nat)=>(k:Int):=zWT.mpr ⟨x.toNat,zXN.mpr ⟨zWq.mpr (by omega),by rw [show ((x.toNat:Nat):Int) = x by omega]; exact (zKp sp (zEW m p x u hx)).mpr hr⟩,rfl⟩;exact List.ne_nil_of_mem this)
 obtain ⟨k,hk,rfl⟩:=zWT.mp hb1;obtain ⟨k1,k2⟩:=zXN.mp hk;have k3:=zWq.mp k1;refine zAk eb ⟨(k:Int),rfl,⟨by omega,by omega,(zKp sp (zEW m p _ u ⟨by omega,by omega⟩)).mp k2,fun y y0 y1 hy=>?_⟩,_,hA.symm⟩;have:=hb2 y (zWT.mpr ⟨y.toNat,zXN.mpr ⟨zWq.mpr (by omega),by rw [show ((y.toNat:Nat):Int) = y by omega]; exact (zKp sp (zEW m p y u ⟨y0,by omega⟩)).mpr hy⟩,by omega⟩);omega
theorem zNA (a:Fst zA l G p n x) (b:Fst zA l G p n y):x = y:=by
 rcases Int.lt_trichotomy x y with q | q | q
 ·exact absurd a.d (b.f x a.x0 q)
 ·exact q
 ·exact absurd b.d (a.f y b.x0 q)
open Classical in
noncomputable def zDL (zA:List (List Int)) (l:Nat) (G:List Int -> Prop) (t:List Int):Nat:=if h:∃ n,Dst zA l G t n then Classical.choose h else 0
open Classical in
noncomputable def zMe (zA:List (List Int)) (l:Nat) (G:List Int -> Prop) (t:List Int):Int:=if h:∃ x,Fst zA l G t (zDL zA l G t - 1) x then Classical.choose h else 0
theorem zD8 (h:Dst zA l G t n):zDL zA l G t = n:=by
 unfold zDL;have hx:∃ n,Dst zA l G t n:=⟨n,h⟩;rw [dif_pos hx];exact zA2 (Classical.choose_spec hx) h
theorem zLX (h:0 < zDL zA l G t):Dst zA l G t (zDL zA l G t):=by
 by_cases hx:∃ n,Dst zA l G t n
 ·obtain ⟨n,hn⟩:=hx;rw [zD8 hn]; exact hn
 ·unfold zDL at h;rw [dif_neg hx] at h;omega
theorem zJx (hd:Dst zA l G t (n + 1)) (h:Fst zA l G t n x):zMe zA l G t = x:=by
 unfold zMe;rw [zD8 hd];have hx:∃ x,Fst zA l G t (n + 1 - 1) x:=⟨x,h⟩;rw [dif_pos hx];exact zNA (Classical.choose_spec hx) h
noncomputable def zNk (zA:List (List Int)) (l:Nat) (G:List Int -> Prop) (t:List Int):Bool:=decide (0 < zDL zA l G t)
noncomputable def zB0 (zA:List (List Int)) (l:Nat) (G:List Int -> Prop) (t:List Int):D:=.tup [.int (zDL zA l G t:Nat),.int (zMe zA l G t)]
noncomputable def zBU (zA:List (List Int)) (l:Nat) (G:List Int -> Prop):List (List Int):=(zd (zc zA)).filter (zNk zA l G)
noncomputable def zAf (zA:List (List Int)) (l:Nat) (G:List Int -> Prop):List (List Int × D):=(zBU zA l G).map fun p=>(p,zB0 zA l G p)
theorem zK0 {f:List Int -> D} {t:List Int}:∀ {ps:List (List Int)},zO (ps.map fun p=>(p,f p)) t = if t ∈ ps then some (f t) else none
 | []=>rfl
 | p :: r=>by
  rw [zWV,zO];by_cases h:p = t
  ·subst h; rw [zWR rfl,zWR zWQ]
  ·rw [zWU h,zK0 (ps:=r)];by_cases hr:t ∈ r
   ·rw [zWR hr,zWR (zWP _ hr)]
   ·rw [zWU hr,zWU (by simp [hr,Ne.symm h])]
theorem zNx (h:g ∉ T.map (·.1)):zDG T g v = T ++ [(g,v)]:=by
 unfold zDG;cases e:zO T g with
 | none=>rfl
 | some d=>exact absurd (zEj.mp (show (zO T g).isSome = true by rw [e]; rfl)) h
theorem zGF (h:xs.Nodup):(zd xs).Nodup:=by
 have gen:∀ r:List Int,r.Nodup -> (r.flatMap fun a=>(xs.filter fun b=>decide (a < b)).map fun b=>[a,b]).Nodup:=by
  intro r;induction r with
  | nil=>intro _; simp
  | cons a r ih=>
   intro hr;obtain ⟨h1,h2⟩:=List.nodup_cons.mp hr;rw [List.flatMap_cons,zXQ];refine ⟨?_,ih h2,fun u hu v hv=>?_⟩
   ·refine List.pairwise_map.mpr (List.Pairwise.imp (fun {x y} q z=>q (by simpa using z)) (List.Pairwise.filter _ h))
   ·obtain ⟨b,_,rfl⟩:=zWT.mp hu;obtain ⟨c,hc,hv⟩:=List.mem_flatMap.mp hv;obtain ⟨d,_,rfl⟩:=zWT.mp hv;intro z;have:a = c:=by simpa using (zXG z).1
    exact h1 (by rw [this]; exact hc)
 exact gen xs h
theorem zHC (zA:List (List Int)):(zc zA).Nodup:=by
 unfold zc;exact List.pairwise_map.mpr (List.Pairwise.imp (fun {a b} h z=>h (by omega)) List.nodup_range)
theorem zDo:t ∈ zBU zA l G ↔ t ∈ zd (zc zA) /\ ∃ n,Dst zA l G t (n + 1):=by
 unfold zBU zNk;rw [zXN];constructor
 ·rintro ⟨a,b⟩;have:=zLX (zW8 b);exact ⟨a,zDL zA l G t - 1,by rw [show zDL zA l G t - 1 + 1 = zDL zA l G t by have:=zW8 b; omega]; exact this⟩
 ·rintro ⟨a,n,h⟩;exact ⟨a,zXK (by rw [zD8 h]; omega)⟩
theorem zUA (hf:f σ M = some (.dat (.ref n),M)) (hn:M[n]? = some (dT T)) (hg:g σ M = some (.dat (tI k),M)):zCL f g (fC c) σ M = some (.dat ((zO T k).getD c),M):=by
 unfold zCL;rw [show toD f σ M = some (.ref n,M) by unfold toD; rw [hf]];dsimp only;rw [hn];dsimp only;rw [show toD g σ M = some (tI k,M) by unfold toD; rw [hg]];dsimp only;rw [show toD (fC c) σ M = some (c,M) from rfl];dsimp only;rw [dgT hn]
theorem zOQ {own:List Nat} {i:Nat} {tv:FE} {σ:Sd} {M:Mem} {jl jk:Nat} {K:MO} {ts:List (List Int)} {val:List Int -> D} (hj:M[jl]? = some (.lst (ts.map tI))) (hk:M[jk]? = some K) (nd:ts.Nodup) (hz:ts.length <= 80000)
  (hg:∀ a,gN i a (zBl own σ) = some ((zBl own σ).set i (some a))) (hs:∀ (a:D) M',zD i ((zBl own σ).set i (some a)) M' = some (.dat a,M'))
  (hv:∀ t ∈ ts,∀ M':Mem,M'[jk]? = some K -> ∃ us,tv ((zBl own σ).set i (some (tI t))) M' = some (.dat (val t),M' ++ us)) {n:Nat} (hn:n = M.length) :
  ∃ us,zC8 (gN i) zAJ (zD i) tv (zBl own σ) n (ts.map tI) (zFZ (.dat (.ref jl)) (ts.map tI)) (ts.map tI) (M ++ [dT []]) = some (M ++ dT (ts.map fun t=>(t,val t)) :: us):=by
 subst hn;have hjl:=(zWF.mp hj).1;have hkl:=(zWF.mp hk).1;have loop:∀ (r q:List (List Int)) (ws:Mem),q ++ r = ts -> ∃ us,zC8 (gN i) zAJ (zD i) tv (zBl own σ) M.length (ts.map tI) (zFZ (.dat (.ref jl)) (ts.map tI)) (r.map tI) (M ++ dT (q.map fun t=>(t,val t)) :: ws) = some (M ++ dT (ts.map fun t=>(t,val t)) :: us):=by
  intro r;induction r with
  | nil=>
   intro q ws e;rw [zWw] at e; subst e;exact ⟨ws,zJL (.inl (by rw [zWJ hjl]; exact hj))⟩
  | cons x r ih=>
   intro q ws e;have hx:x ∉ q:=fun z=>by
    rw [<- e,zXQ] at nd;exact nd.2.2 x z x zWQ rfl
   have hl:q.length < 90000:=by have:=zXz List.length e; simp at this; omega
   obtain ⟨us,hu⟩:=hv x (by rw [<- e]; simp) (M ++ dT (q.map fun t=>(t,val t)) :: ws) (by rw [zWJ hkl]; exact hk);obtain ⟨vs,hvs⟩:=ih (q ++ [x]) (ws ++ us) (by rw [<- e]; simp);refine ⟨vs,?_⟩;rw [<- hvs,zWV];have hgd:zBE (zFZ (.dat (.ref jl)) (ts.map tI)) (ts.map tI) (M ++ dT (q.map fun t=>(t,val t)) :: ws):=.inl (by rw [zWJ hjl]; exact hj);rw [zC8,zWR hgd,hg];dsimp only;rw [show zAJ ((zBl own σ).set i (some (tI x))) (M ++ dT (q.map fun t=>(t,val t)) :: ws) = some (true,M ++ dT (q.map fun t=>(t,val t)) :: ws) from rfl];dsimp only;rw [show toD (zD i) ((zBl own σ).set i (some (tI x))) (M ++ dT (q.map fun t=>(t,val t)) :: ws) = some (tI x,M ++ dT (q.map fun t=>(t,val t)) :: ws) by unfold toD; rw [hs]];dsimp only;rw [show toD tv ((zBl own σ).set i (some (tI x))) (M ++ dT (q.map fun t=>(t,val t)) :: ws) = some (val x,M ++ dT (q.map fun t=>(t,val t)) :: ws ++ us) by unfold toD; rw [hu]];dsimp only;rw [zLG (T:=q.map fun t=>(t,val t)) (by simp) (by rw [zWL]; exact hl),zNx (by rw [zWa]; simpa using hx)];dsimp only;congr 1;rw [zXI,List.set_append_right _ _ (zWI _)];simp
 exact loop ts [] [] rfl
theorem zLd {zA:List (List Int)} {l:Nat} {G:List Int -> Prop} (m:IsM zA l) (hR:zA.length <= 26) (hl:l <= 12) {M:Mem} {jf:Nat} {fd:List (List Int × D)} (hf:M[jf]? = some (dT fd)) (sp:zQJ zA l G fd) :
  Ok (zCJ [mD zA,.ref jf] M) fun d M'=>∃ jr us,d = .ref jr /\ M' = M ++ us /\ M.length <= jr /\ M'[jr]? = some (dT (zAf zA l G)):=by
 unfold zCJ;rw [zAM];unfold zFm;show OkS (zT _ _ [some (mD zA),some (.ref jf),none,none] M) _;have hfl:=(zWF.mp hf).1;have hrl:(zc zA).length = zA.length:=by unfold zc; simp
 have epr:=zHv (xs:=zc zA) (by omega) (M:=M);have ei:zAi (za zA5 (zH (toD (za zBY (zH (toD (zD 0)) zQ))) zQ)) [some (mD zA),some (.ref jf),none,none] M = _:=zJn (zo (d:=tI (zc zA)) (z0 (zo (d:=mD zA) rfl) (zMA (by omega)))) epr (zBD _ _);have hPl:(zd (zc zA)).length <= 676:=by
  have h1:=zBv (zc zA);rw [hrl] at h1;exact zWd h1 (zXo hR hR)
 generalize hA:M ++ [MO.lst ((zd (zc zA)).map tI)] = A at ei;have a1:A[M.length]? = some (.lst ((zd (zc zA)).map tI)):=by rw [<- hA]; simp
 have a2:A[jf]? = some (dT fd):=by rw [<- hA,zWJ hfl]; exact hf
 have ef:=zCf (own:=[3]) (g:=gN 3) (tc:=tst (fOp kGt (zCL (zD 1) (zD 3) (fC (.int 0))) (fC (.int 0)))) (te:=zD 3) (zd (zc zA)) tI tI (zNk zA l G) ei (.inl a1) (by omega) (fun p hp=>by
  refine ⟨[some (mD zA),some (.ref jf),none,some (tI p)],rfl,zAs ?_,fun _=>rfl⟩;have e1:zCL (zD 1) (zD 3) (fC (.int 0)) [some (mD zA),some (.ref jf),none,some (tI p)] A = _:=zUA (k:=p) rfl a2 rfl;unfold zNk;cases e:zO fd p with
  | none=>
   rw [e] at e1;rw [zV (x:=.dat (.int 0)) (y:=.dat (.int 0)) e1 rfl gtE];have:¬ 0 < zDL zA l G p:=fun h=>by
    rw [(sp p _).mpr ⟨zDN p hp,_,zLX h,rfl⟩] at e;cases e
   rw [zWl this]; rfl
  | some d=>
   obtain ⟨_,v,hv,rfl⟩:=(sp _ d).mp e;rw [e] at e1;rw [zV (x:=.dat (.int (v:Int))) (y:=.dat (.int 0)) e1 rfl gtE,zD8 hv];congr 5;exact propext ⟨fun h=>by omega,fun h=>by omega⟩)
 rw [zR,zg];refine zJ ef (zAF ?_);rw [zZ];show OkS (zAI _ [some (mD zA),some (.ref jf),some (.ref A.length),none] (A ++ [.lst ((zBU zA l G).map tI)])) _;have nd:(zBU zA l G).Nodup:=List.Pairwise.filter _ (zGF (zHC zA));have hrl2:(zBU zA l G).length <= 676:=zWd (List.length_filter_le _ _) hPl;generalize hB:A ++ [MO.lst ((zBU zA l G).map tI)] = B;have b1:B[A.length]? = some (.lst ((zBU zA l G).map tI)):=by rw [<- hB]; simp
 have b2:B[jf]? = some (dT fd):=by rw [<- hB,zWJ (zWF.mp a2).1]; exact a2
 obtain ⟨us,hu⟩:=zOQ (own:=[3]) (i:=3) (σ:=[some (mD zA),some (.ref jf),some (.ref A.length),none]) (tv:=zBd (zH (toD (fOp zAw (zD 1) (zD 3))) (zH (toD (za zAZ (zH (toD (zD 0)) (zH (toD (zD 3)) (zH (toD (zD 1)) zQ))))) zQ))) (val:=zB0 zA l G) b1 b2 nd (by omega) (fun _=>rfl) (fun _ _=>rfl) (fun t ht M' hM=>by
  obtain ⟨ht1,n,hn⟩:=zDo.mp ht;obtain ⟨d,M2,e,x,rfl,fx,us,rfl⟩:=zP2 m hR hl hM sp (zDN t ht1) hn;refine ⟨us,?_⟩;show zBd _ [some (mD zA),some (.ref jf),some (.ref A.length),some (tI t)] M' = _;have e1:fOp zAw (zD 1) (zD 3) [some (mD zA),some (.ref jf),some (.ref A.length),some (tI t)] M' = some (.dat (.int ((n + 1:Nat):Int)),M'):=zV (x:=.dat (.ref jf)) (y:=.dat (tI t)) rfl rfl (zGJ hM ((sp t _).mpr ⟨zDN t ht1,n + 1,hn,rfl⟩));have e2:za zAZ (zH (toD (zD 0)) (zH (toD (zD 3)) (zH (toD (zD 1)) zQ))) [some (mD zA),some (.ref jf),some (.ref A.length),some (tI t)] M' = some (.dat (.int x),M' ++ us):=z0 (zt (d:=mD zA) rfl (zt (d:=tI t) rfl (zo (d:=.ref jf) rfl))) e;rw [zGS (aC' (zTM e1) (zTA e2)) (by simp)];unfold zB0;rw [zD8 hn,zJx hn fx]) rfl
 have ed:zDg true [3] (zAi (zD 2)) (gN 3) zAJ (zD 3) (zBd (zH (toD (fOp zAw (zD 1) (zD 3))) (zH (toD (za zAZ (zH (toD (zD 0)) (zH (toD (zD 3)) (zH (toD (zD 1)) zQ))))) zQ))) [some (mD zA),some (.ref jf),some (.ref A.length),none] B = some (.dat (.ref B.length),B ++ dT (zAf zA l G) :: us):=by
  unfold zDg zAi;rw [show zD 2 [some (mD zA),some (.ref jf),some (.ref A.length),none] B = some (.dat (.ref A.length),B) from rfl];dsimp only;rw [zAH b1];dsimp only;rw [show zKa true = dT [] from rfl,hu];rfl
 rw [zAt];refine zJ ed ⟨B.length,[MO.lst ((zd (zc zA)).map tI)] ++ ([MO.lst ((zBU zA l G).map tI)] ++ dT (zAf zA l G) :: us),rfl,by rw [<- hB,<- hA]; simp only [zXI],?_,by simp⟩;rw [<- hB,<- hA]; simp only [zWS]; omega
theorem zL0 (m:IsM zA l) (hR:zA.length <= 26) (hl:l <= 12) :
  Ok (zFK [mD zA] M) fun d M'=>∃ jr,d = .ref jr /\ M.length <= jr /\ M'[jr]? = some (dT (zAf zA l One)) /\ M.length <= M'.length /\ ∀ j,j < M.length -> M'[j]? = M[j]?:=by
 unfold zFK;rw [zAM];unfold zJ5;show OkS (zAI _ [some (mD zA)] M) _;obtain ⟨d,M1,e,jf,rfl,h1,⟨fd,h2,_,sp⟩,h3,h4⟩:=zMv m hR hl (M:=M);obtain ⟨d2,M2,e2,jr,us,rfl,rfl,q1,q2⟩:=zLd m hR hl h2 sp;rw [zAt];have ec:za zCJ (zH (toD (zD 0)) (zH (toD (za zCw (zH (toD (zD 0)) zQ))) zQ)) [some (mD zA)] M = some (.dat (.ref jr),M1 ++ us):=by
  exact zNZ (aC' (zTM (d:=mD zA) rfl) (zTA (z0 (zo (d:=mD zA) rfl) e))) e2
 refine zJ ec ⟨jr,rfl,by omega,q2,by rw [zWS]; omega,fun j hj=>?_⟩;rw [zWJ (by omega)]; exact h4 j hj
theorem zJh (m:IsM zA l) (o:zE6 zA G):∀ (n:Nat) (t:List Int),Th zA t -> Dst zA l G t n -> ∃ ts:List (List Int),ts.length = n /\ ts.Nodup /\ ∀ s ∈ ts,s ∈ zd (zc zA) /\ ∃ k,k <= n /\ Dst zA l G s k
 | 0,_,_,_=>⟨[],rfl,List.nodup_nil,fun _ h=>by cases h⟩
 | n + 1,t,u,d=>by
  obtain ⟨q,x,hx,hd⟩:=zDu.mp d;obtain ⟨ts,h1,h2,h3⟩:=zJh m o n (setR zA t x) (zEW m t x u hx) hd;refine ⟨t :: ts,by simp [h1],List.nodup_cons.mpr ⟨fun z=>?_,h2⟩,fun s hs=>?_⟩
  ·obtain ⟨_,k,hk,hk2⟩:=h3 t z;have:=zA2 hk2 d;omega
  ·rcases zWO.mp hs with rfl | z
   ·exact ⟨zGo m o s (n + 1) u (fun g=>by have:=zA2 (zCh.mpr g) d; omega) d.1,n + 1,zWI _,d⟩
   ·obtain ⟨a,k,hk,b⟩:=h3 s z;exact ⟨a,k,by omega,b⟩
theorem zKN (m:IsM zA l) (o:zE6 zA G) (u:Th zA t) (d:Dst zA l G t n):n <= (zd (zc zA)).length:=by
 obtain ⟨ts,h1,h2,h3⟩:=zJh m o n t u d;rw [<- h1];exact zFG ts _ h2 fun s hs=>(h3 s hs).1
theorem zDt (hR:zA.length <= 26):(zd (zc zA)).length <= 676:=by
 have h1:=zBv (zc zA);have hrl:(zc zA).length = zA.length:=by unfold zc; simp
 rw [hrl] at h1;exact zWd h1 (zXo hR hR)
theorem zFN (c:Climb zA l G t w):Dst zA l G t w.length:=by
 cases c with
 | nil g=>exact zCh.mpr g
 | cons d x0 x1 e f c=>rw [zWj,zJa c e]; exact d
theorem zCN:zO (zAf zA l G) t = if t ∈ zBU zA l G then some (zB0 zA l G t) else none:=zK0
theorem zMy (m:IsM zA l) (o:zE6 zA G) (hR:zA.length <= 26) (hr:M[jr]? = some (dT (zAf zA l G))) (u:Th zA p) (c:Climb zA l G p w) :
  Ok (zDq [mD zA,.ref jr,tI p] M) fun d M'=>d = tI w /\ ∃ us,M' = M ++ us:=by
 have hrl:=(zWF.mp hr).1;have hw:w.length <= 676:=zWd (zKN m o u (zFN c)) (zDt hR);unfold zDq;rw [zAM];unfold zGW;show OkS (zT _ _ [some (mD zA),some (.ref jr),some (tI p),none,none,none] M) _;rw [zR,zg];refine zJ (M:=M) (a:=.fl []) (zQx rfl (by simp)) (zAF ?_);rw [zZ];show OkS (zT _ _ [some (mD zA),some (.ref jr),some (tI p),some (.ref M.length),none,none] (M ++ [.lst []])) _;refine zBk (d:=tI p) rfl ?_;show OkS (zT _ _ [some (mD zA),some (.ref jr),some (tI p),some (.ref M.length),some (tI p),none] (M ++ [.lst []])) _;rw [zR];refine zCM (I:=fun z σ M'=>∃ (w1 w2 here:List Int) (y:Option D),w = w1 ++ w2 /\ Climb zA l G here w2 /\ Th zA here /\ z = w2.length /\ σ = [some (mD zA),some (.ref jr),some (tI p),some (.ref M.length),some (tI here),y] /\ M' = M ++ [.lst (w1.map D.int)]) ?_ 1000 w.length _ _ (by omega) ⟨[],w,p,none,rfl,c,u,rfl,rfl,rfl⟩;rintro z σ M' ⟨w1,w2,here,y,hw12,c2,u2,rfl,rfl,rfl⟩;have hM:(M ++ [MO.lst (w1.map D.int)])[jr]? = some (dT (zAf zA l G)):=by rw [zWJ hrl]; exact hr
 have hL:(M ++ [MO.lst (w1.map D.int)])[M.length]? = some (.lst (w1.map D.int)):=by simp
 have et:tst (fOp (zCg false) (zD 4) (zD 1)) [some (mD zA),some (.ref jr),some (tI p),some (.ref M.length),some (tI here),y] (M ++ [MO.lst (w1.map D.int)]) = some ((zO (zAf zA l G) here).isSome,M ++ [MO.lst (w1.map D.int)]):=by
  have:=zV (k:=zCg false) (f:=zD 4) (g:=zD 1) (σ:=[some (mD zA),some (.ref jr),some (tI p),some (.ref M.length),some (tI here),y]) (x:=.dat (tI here)) (y:=.dat (.ref jr)) rfl rfl (zOH hM);rw [zWU (by decide)] at this;exact zAs this
 refine zJ et ?_;cases c2 with
 | nil g=>
  have hlk:zO (zAf zA l G) here = none:=by rw [zCN,zWU (fun h=>by obtain ⟨_,n,hn⟩:=zDo.mp h; have:=zA2 (zCh.mpr g) hn; omega)]
  rw [hlk];show OkS (zAI _ _ _) _;rw [zWw] at hw12;subst hw12;exact zAk (d:=tI w) (zCd (f:=zD 3) rfl (zAH hL)) ⟨rfl,_,rfl⟩
 | @cons _ x w3 n d x0 x1 e f c3=>
  have hp:=zGo m o here (n + 1) u2 (fun g=>by have:=zA2 (zCh.mpr g) d; omega) d.1;have hin:here ∈ zBU zA l G:=zDo.mpr ⟨hp,n,d⟩;have fx:Fst zA l G here n x:=⟨x0,x1,e,f⟩;have hv:zB0 zA l G here = .tup [.int ((n + 1:Nat):Int),.int x]:=by unfold zB0; rw [zD8 d,zJx d fx]
  have hlk:zO (zAf zA l G) here = some (.tup [.int ((n + 1:Nat):Int),.int x]):=by rw [zCN,zWR hin,hv]
  rw [hlk];have hlen:=zXz List.length hw12;rw [zWS,zWj] at hlen;show OkS (zT _ _ [some (mD zA),some (.ref jr),some (tI p),some (.ref M.length),some (tI here),y] (M ++ [MO.lst (w1.map D.int)])) _;refine zBk (d:=.int x) (zV (x:=.dat (.tup [.int ((n + 1:Nat):Int),.int x])) (y:=.dat (.int 1)) (zV (x:=.dat (.ref jr)) (y:=.dat (tI here)) rfl rfl (zGJ hM hlk)) rfl (zBp zAA rfl)) ?_;show OkS (zT _ _ [some (mD zA),some (.ref jr),some (tI p),some (.ref M.length),some (tI here),some (.int x)] (M ++ [MO.lst (w1.map D.int)])) _;rw [zR,zCB];refine zKc.mpr (zJ (a:=.dat (.ref M.length)) (M:=M ++ [MO.lst (w1.map D.int)]) rfl ⟨⟨_,zBb hL⟩,zJ (zo (d:=.int x) rfl) ((zD2 hL (by rw [zWL]; exact zWb (show w1.length < 1000 by omega) (zy (by omega)))).mpr ?_)⟩);rw [zZ];have hset:(M ++ [MO.lst (w1.map D.int)]).set M.length (.lst (w1.map D.int ++ [.int x])) = M ++ [MO.lst ((w1 ++ [x]).map D.int)]:=by
   rw [List.set_append_right _ _ (zWI _)]; simp
  rw [hset,zg];refine zJ (z0 (zt (d:=mD zA) rfl (zt (d:=tI here) rfl (zo (d:=.int x) rfl))) (zHR m (by omega) u2.1 x0 x1)) ?_;exact ⟨w3.length,by simp,w1 ++ [x],w3,setR zA here x,some (.int x),by rw [hw12]; simp,c3,zEW m here x u2 ⟨x0,x1⟩,rfl,rfl,rfl⟩
def zB8 (a b:Int):List Int:=[if b < a then b else a,if b > a then b else a]
theorem zOh (a0:0 <= a) (a1:a < zA.length) (b0:0 <= b) (b1:b < zA.length) (ne:a ≠ b):zB8 a b ∈ zd (zc zA):=by
 unfold zB8;refine zA1.mpr ⟨_,_,rfl,zBc.mpr ?_,zBc.mpr ?_,?_⟩
 ·split <;> omega
 ·split <;> omega
 ·split <;> split <;> omega
theorem zQP (zA:List (List Int)) (r:Int) (w:List Int) (x:Int):zCZ zA r (w ++ [x]) = zAx zA (zCZ zA r w) x:=by
 unfold zCZ; rw [List.foldl_append]; rfl
abbrev Wd (l:Nat) (w:List Int):Prop:=∀ x ∈ w,0 <= x /\ x < (l:Int)
theorem zTZ (h:Wd l u) (g:Wd l v):Wd l (u ++ v):=fun x hx=>(zWc.mp hx).elim (h x) (g x)
theorem zSb:(ris [a,b]).length = 1 ↔ a = b:=by
 constructor
 ·intro h;obtain ⟨r,e⟩:=List.length_eq_one_iff.mp h;have ha:a ∈ ris [a,b]:=(zCq _ _).mpr (by simp);have hb:b ∈ ris [a,b]:=(zCq _ _).mpr (by simp);rw [e,zWe] at ha hb;rw [ha,hb]
 ·rintro rfl;rw [show ris [a,a] = ris [a] from zGC (by simp),zKA (by simp)];rfl
theorem zLe (h:a ≠ b):(zB8 a b).Pairwise (· < ·):=by
 unfold zB8;simp only [List.pairwise_cons,zWe,forall_eq,zWh,false_implies,implies_true,List.Pairwise.nil,and_true];split <;> split <;> omega
theorem zPq (h:a ≠ b) (w:List Int):broR zA (zB8 a b) w = ris [zCZ zA a w,zCZ zA b w]:=by
 rw [zH8 (zLe h)];apply zGC;intro x;unfold zB8;by_cases q:b < a
 ·rw [zWR q,zWU (by omega)]; simp [or_comm]
 ·rw [zWU q,zWR (by omega)]; simp
theorem zRr (h:a ≠ b) (w:List Int):One (broR zA (zB8 a b) w) ↔ zCZ zA a w = zCZ zA b w:=by
 unfold One; rw [zPq h]; exact zSb
noncomputable def zGX:FS:=(zT (zAC 2 (zAO [3] (zAi (za zA5 (zH (toD (zD 1)) zQ))) (gN 3) (tst (fOp (zCg false) (zD 3) (zD 0))) (zBd (zH (toD (fOp kIx (fOp zAw (zD 0) (zD 3)) (fC (.int 0)))) (zH (toD (zD 3)) zQ)))))
  (zAI (vIf (zMU (zD 2)) (fOp kIx (fB zDx (zb (zD 2) zv)) (fC (.int 1))) (fC .non))))
noncomputable def zCv:FF:=zBX 4 zGX
noncomputable def zKo:FS:=(zT (zAC 2 (za zFK (zH (toD (zD 0)) zQ)))
  (zT (zAC 3 (zD 1))
  (zT (zAC 4 (zBd zQ))
  (zT (zAC 5 (zBN zQ))
  (zT (zAC 6 (za zCv (zH (toD (zD 2)) (zH (toD (zD 3)) zQ))))
  (zT (zBM (tst (fOp (kIs true) (zD 6) (fC .non))) (zT (zAC 7 (za zDq (zH (toD (zD 0)) (zH (toD (zD 2)) (zH (toD (zD 6)) zQ)))))
  (zT (zAC 3 (za zD0 (zH (toD (zD 0)) (zH (toD (zD 3)) (zH (toD (zD 7)) zQ)))))
  (zT (zAC 4 (fOp zAl (zD 4) (zD 7)))
  (zT (zBr (fM zA0 (zD 5) (zH (toD (zBd (zH (toD (zD 6)) (zH (toD (fB zB1 (zb (zD 4) zv))) zQ)))) zQ)))
  (zAC 6 (za zCv (zH (toD (zD 2)) (zH (toD (zD 3)) zQ)))))))) 100)
  (zAI (zBd (zH (toD (zD 4)) (zH (toD (fB zBR (zb (zD 5) zv))) zQ))))))))))
noncomputable def zFT:FF:=zEX (zBX 8 zKo)
open Classical in
noncomputable def zE7 (zA:List (List Int)) (l:Nat) (p:List Int):Bool:=decide (p ∈ zBU zA l One)
noncomputable def npR (zA:List (List Int)) (l:Nat) (p:List Int):NP:=((zDL zA l One p:Nat),p.getD 0 0,p.getD 1 0)
noncomputable def zBm (zA:List (List Int)) (l:Nat) (S:List Int):List (List Int):=(zd S).filter (zE7 zA l)
noncomputable def zDF (zA:List (List Int)) (l:Nat) (S:List Int):Option (List Int):=match (zBm zA l S).map (npR zA l) with
 | []=>none
 | t :: ts=>some [(zBj t ts).2.1,(zBj t ts).2.2]
noncomputable def zCk (zA:List (List Int)) (l:Nat) (S:List Int):D:=match zDF zA l S with
 | none=> .non
 | some p=>tI p
theorem zMY:zDF zA l S = none ↔ zBm zA l S = []:=by
 unfold zDF;cases h:zBm zA l S with
 | nil=>simp
 | cons a r=>simp
theorem zJA:p ∈ zBm zA l S ↔ p ∈ zd S /\ p ∈ zBU zA l One:=by
 unfold zBm zE7;rw [zXN,zXP]
theorem zNz (h:zDF zA l S = some p):p ∈ zBm zA l S:=by
 unfold zDF at h;cases e:(zBm zA l S).map (npR zA l) with
 | nil=>rw [e] at h; cases h
 | cons t ts=>
  rw [e] at h;cases h;have hm:=zJI ts t;rw [<- e] at hm;obtain ⟨q,hq,eq⟩:=zWT.mp hm;rw [<- eq];obtain ⟨a,b,rfl,_⟩:=zA1.mp (zJA.mp hq).1;exact hq
theorem zRI (h:p ∈ zd S):npD (npR zA l p) = .tup [.int (zDL zA l One p:Nat),tI p]:=by
 obtain ⟨a,b,rfl,_⟩:=zA1.mp h;rfl
theorem zFE (s:IsS zA S):S.length <= zA.length:=zMH (a:=0) s.pw fun x hx=>by have:=s.mem x hx; omega
theorem zHX (hR:zA.length <= 26) (hr:M[jr]? = some (dT (zAf zA l One))) (s:IsS zA S) :
  Ok (zCv [.ref jr,tI S] M) fun d M'=>d = zCk zA l S /\ ∃ us,M' = M ++ us:=by
 have hrl:=(zWF.mp hr).1;have hS:=zFE s;unfold zCv;rw [zAM];unfold zGX;show OkS (zT _ _ [some (.ref jr),some (tI S),none,none] M) _;have epr:=zHv (xs:=S) (by omega) (M:=M);have ei:zAi (za zA5 (zH (toD (zD 1)) zQ)) [some (.ref jr),some (tI S),none,none] M = _:=zJn (zo (d:=tI S) rfl) epr (zBD _ _);have hPl:(zd S).length <= 676:=zWd (zBv S) (zWd (zXo hS hS) (zXo hR hR));generalize hA:M ++ [MO.lst ((zd S).map tI)] = A at ei;have a1:A[M.length]? = some (.lst ((zd S).map tI)):=by rw [<- hA]; simp
 have a2:A[jr]? = some (dT (zAf zA l One)):=by rw [<- hA,zWJ hrl]; exact hr
 have ef:=zCf (own:=[3]) (g:=gN 3) (tc:=tst (fOp (zCg false) (zD 3) (zD 0))) (te:=zBd (zH (toD (fOp kIx (fOp zAw (zD 0) (zD 3)) (fC (.int 0)))) (zH (toD (zD 3)) zQ))) (zd S) tI (fun p=> .tup [.int (zDL zA l One p:Nat),tI p]) (zE7 zA l) ei (.inl a1) (by omega) (fun p hp=>by
  refine ⟨[some (.ref jr),some (tI S),none,some (tI p)],rfl,?_,fun hk=>?_⟩
  ·have e1:fOp (zCg false) (zD 3) (zD 0) [some (.ref jr),some (tI S),none,some (tI p)] A = _:=zV (x:=.dat (tI p)) (y:=.dat (.ref jr)) rfl rfl (zOH a2);rw [zWU (by decide),zCN] at e1;rw [zAs e1];unfold zE7;by_cases h:p ∈ zBU zA l One
   ·rw [zWR h,zXK h]; rfl
   ·rw [zWU h,zWl h]; rfl
  ·have h:p ∈ zBU zA l One:=zW8 hk;have hlk:zO (zAf zA l One) p = some (zB0 zA l One p):=by rw [zCN,zWR h]
   exact zGS (zt (zV (x:=.dat (zB0 zA l One p)) (y:=.dat (.int 0)) (zV (x:=.dat (.ref jr)) (y:=.dat (tI p)) rfl rfl (zGJ a2 hlk)) rfl (zBp zAA rfl)) (zo (d:=tI p) rfl)) (by simp))
 rw [zR,zg];refine zJ ef (zAF ?_);rw [zZ];have hmap:((zd S).filter (zE7 zA l)).map (fun p=>D.tup [.int (zDL zA l One p:Nat),tI p]) = ((zBm zA l S).map (npR zA l)).map npD:=by
  rw [zWa];exact List.map_congr_left fun p hp=>(zRI (zXN.mp hp).1).symm
 rw [hmap];show OkS (zAI _ [some (.ref jr),some (tI S),some (.ref A.length),none] (A ++ [.lst (((zBm zA l S).map (npR zA l)).map npD)])) _;generalize hB:A ++ [MO.lst (((zBm zA l S).map (npR zA l)).map npD)] = B;have b1:B[A.length]? = some (.lst (((zBm zA l S).map (npR zA l)).map npD)):=by rw [<- hB]; simp
 have hus:∃ us,B = M ++ us:=⟨[MO.lst ((zd S).map tI)] ++ [MO.lst (((zBm zA l S).map (npR zA l)).map npD)],by rw [<- hB,<- hA,zXI]⟩;rw [zAt,zTq];refine zJ (zQj (f:=zD 2) (σ:=[some (.ref jr),some (tI S),some (.ref A.length),none]) rfl b1) ?_;unfold zCk zDF;cases e:(zBm zA l S).map (npR zA l) with
 | nil=>
  show Ok (fC .non _ _) _;refine zJ (a:=.dat .non) (M:=B) rfl ?_;exact ⟨rfl,hus⟩
 | cons t ts=>
  rw [e] at b1;show Ok (fOp kIx (fB zDx (zb (zD 2) zv)) (fC (.int 1)) [some (.ref jr),some (tI S),some (.ref A.length),none] B) _;have em:fB zDx (zb (zD 2) zv) [some (.ref jr),some (tI S),some (.ref A.length),none] B = some (.dat (npD (zBj t ts)),B):=by
   unfold fB zb zv;rw [show zD 2 [some (.ref jr),some (tI S),some (.ref A.length),none] B = some (.dat (.ref A.length),B) from rfl];show zDx [.dat (.ref A.length)] B = _;unfold zDx;dsimp only;rw [zAH b1];dsimp only;rw [zGw]
  exact zJ (zV (y:=.dat (.int 1)) em rfl (zBp (d:=tI [(zBj t ts).2.1,(zBj t ts).2.2]) zAA rfl)) ⟨rfl,hus⟩
def stD (q:List Int × Int):D:=.tup [tI q.1,.int q.2]
set_option genInjectivity true in
inductive Quick (zA:List (List Int)) (l:Nat):Nat -> List Int -> List Int -> List (List Int × Int) -> Prop
 | nil {k:Nat} {S:List Int}:zDF zA l S = none -> Quick zA l k S [] []
 | cons {k:Nat} {S p v w:List Int} {st:List (List Int × Int)}:zDF zA l S = some p -> Climb zA l One p v -> Quick zA l (k + v.length) (broR zA S v) w st -> Quick zA l k S (v ++ w) ((p,((k + v.length:Nat):Int)) :: st)
theorem zOL (s:IsS zA S) (ha:a ∈ S) (hb:b ∈ S) (hne:a ≠ b) (he:zCZ zA a v = zCZ zA b v):(broR zA S v).length < S.length:=by
 rw [zH8 s.pw];have nd:(ris (S.map fun r=>zCZ zA r v)).Nodup:=List.Pairwise.imp (fun {x y} h=>Int.ne_of_lt h) (zH9 _);have h1:=zFG _ ((S.erase b).map fun r=>zCZ zA r v) nd fun x hx=>by
  obtain ⟨r,hr,rfl⟩:=zWT.mp ((zCq _ _).mp hx);by_cases q:r = b
  ·subst q;exact zWT.mpr ⟨a,(List.mem_erase_of_ne hne).mpr ha,he⟩
  ·exact zWT.mpr ⟨r,(List.mem_erase_of_ne q).mpr hr,rfl⟩
 rw [zWL,List.length_erase_of_mem hb] at h1;have:=List.length_pos_of_mem hb;omega
theorem zC0 (s:IsS zA S) (h:zDF zA l S = some p):p ∈ zd S /\ p ∈ zd (zc zA) /\ ∃ n,Dst zA l One p (n + 1):=by
 obtain ⟨h1,h2⟩:=zJA.mp (zNz h);obtain ⟨h3,h4⟩:=zDo.mp h2;exact ⟨h1,h3,h4⟩
theorem zQM (h:p ∈ zd S):∃ a b,p = [a,b] /\ p = zB8 a b /\ a ∈ S /\ b ∈ S /\ a < b:=by
 obtain ⟨a,b,rfl,ha,hb,hlt⟩:=zA1.mp h;exact ⟨a,b,rfl,by unfold zB8; rw [zWU (by omega),zWR (by omega)],ha,hb,hlt⟩
theorem zId (s:IsS zA S) (h:zDF zA l S = some p) (c:Climb zA l One p v):(broR zA S v).length < S.length:=by
 obtain ⟨h1,_,_⟩:=zC0 s h;obtain ⟨a,b,rfl,hp,ha,hb,hlt⟩:=zQM h1;have hm:=(zAv c).2;rw [hp,zRr (by omega)] at hm;exact zOL s ha hb (by omega) hm
theorem zGI (m:IsM zA l):∀ (n k:Nat) {S:List Int},S.length <= n -> IsS zA S -> ∃ w st,Quick zA l k S w st
 | 0,k,S,h,s=>by have:=s.n0; omega
 | n + 1,k,S,h,s=>by
  cases e:zDF zA l S with
  | none=>exact ⟨_,_,.nil e⟩
  | some p=>
   obtain ⟨_,_,j,hj⟩:=zC0 s e;obtain ⟨v,c⟩:=zGO _ hj;have hlt:=zId s e c;obtain ⟨w,st,q⟩:=zGI m n (k + v.length) (S:=broR zA S v) (by omega) (m.broR v s (zAv c).1);exact ⟨_,_,.cons e c q⟩
theorem zFd:∀ {k:Nat} {S w:List Int} {st:List (List Int × Int)},Quick zA l k S w st -> Wd l w
 | _,_,_,_,.nil _=>fun _ h=>by cases h
 | _,_,_,_,.cons _ c q=>zTZ (zAv c).1 (zFd q)
theorem zGp (m:IsM zA l) (hR:zA.length <= 26):∀ {k:Nat} {S w:List Int} {st:List (List Int × Int)},IsS zA S -> Quick zA l k S w st -> w.length <= 676 * S.length /\ st.length < S.length
 | _,_,_,_,s,.nil _=>⟨by simp,s.n0⟩
 | _,S,_,_,s,.cons (v:=v) e c q=>by
  have hlt:=zId s e c;obtain ⟨h1,h2⟩:=zGp m hR (m.broR v s (zAv c).1) q;obtain ⟨_,hp,_⟩:=zC0 s e;have h3:=zWd (zKN m zGA (zDN _ hp) (zFN c)) (zDt hR);have h4:=Nat.mul_le_mul_left 676 hlt;rw [Nat.mul_succ] at h4;rw [zWS,zWj];omega
theorem zL4 {zA:List (List Int)} (m:IsM zA l) (hR:zA.length <= 26) (hl:l <= 12) {st:List (List Int × Int)} (s:IsS zA S) (q:Quick zA l 0 S w st) :
  zFT [mD zA,tI S] M = some (.tup [tI w,.tup (st.map stD)],M):=by
 refine ze ?_;unfold zFT;refine zDb ?_ ?_
 ·unfold D.unds D.unds D.unds;rw [zEB]; simp [tI,zAE]
 rw [zAM];unfold zKo;show OkS (zT _ _ [some (mD zA),some (tI S),none,none,none,none,none,none] []) _;obtain ⟨d,M1,e,jr,rfl,_,h2,_,_⟩:=zL0 m hR hl (M:=[]);rw [zR,zg];refine zJ (z0 (zo (d:=mD zA) rfl) e) ?_;rw [zU,zZ];show OkS (zT _ _ [some (mD zA),some (tI S),some (.ref jr),none,none,none,none,none] M1) _;refine zBk (d:=tI S) rfl ?_;show OkS (zT _ _ [some (mD zA),some (tI S),some (.ref jr),some (tI S),none,none,none,none] M1) _;refine zBk (d:=tI []) (zGS rfl (by simp)) ?_;show OkS (zT _ _ [some (mD zA),some (tI S),some (.ref jr),some (tI S),some (tI []),none,none,none] M1) _;rw [zR,zg];refine zJ (M:=M1) (a:=.fl []) (zQx rfl (by simp)) (zAF ?_);rw [zZ];show OkS (zT _ _ [some (mD zA),some (tI S),some (.ref jr),some (tI S),some (tI []),some (.ref M1.length),none,none] (M1 ++ [.lst []])) _;have hjl:=(zWF.mp h2).1;have up:∀ xs:Mem,(M1 ++ xs)[jr]? = some (dT (zAf zA l One)):=fun xs=>by rw [zWJ hjl]; exact h2
 obtain ⟨d,M2,e2,rfl,us,rfl⟩:=zHX hR (up [.lst []]) s;rw [zR,zg];refine zJ (z0 (zt (d:=.ref jr) rfl (zo (d:=tI S) rfl)) e2) ?_;rw [zU,zZ,zR];show OkS (zBM _ _ _ [some (mD zA),some (tI S),some (.ref jr),some (tI S),some (tI []),some (.ref M1.length),some (zCk zA l S),none] (M1 ++ [.lst []] ++ us)) _;have hS:=zFE s;have ql:=zGp m hR s q;refine zCM (I:=fun z σ M'=>∃ (T W w2:List Int) (st1 st2:List (List Int × Int)) (us:Mem) (y:Option D),IsS zA T /\ Quick zA l W.length T w2 st2 /\ w = W ++ w2 /\ st = st1 ++ st2 /\ z = st2.length /\ σ = [some (mD zA),some (tI S),some (.ref jr),some (tI T),some (tI W),some (.ref M1.length),some (zCk zA l T),y] /\ M' = M1 ++ .lst (st1.map stD) :: us) ?_ 100 st.length _ _ (by omega) ⟨S,[],w,[],st,us,none,s,q,rfl,rfl,rfl,rfl,by simp⟩;rintro z σ M' ⟨T,W,w2,st1,st2,us,y,sT,q2,hw,hst,rfl,rfl,rfl⟩;have hL:(M1 ++ MO.lst (st1.map stD) :: us)[M1.length]? = some (.lst (st1.map stD)):=by simp
 have et:tst (fOp (kIs true) (zD 6) (fC .non)) [some (mD zA),some (tI S),some (.ref jr),some (tI T),some (tI W),some (.ref M1.length),some (zCk zA l T),y] (M1 ++ MO.lst (st1.map stD) :: us) = some ((zDF zA l T).isSome,M1 ++ MO.lst (st1.map stD) :: us):=by
  unfold zCk;cases h:zDF zA l T with
  | none=>exact zAs (zV (x:=.dat .non) (y:=.dat .non) rfl rfl rfl)
  | some p=>exact zAs (zV (x:=.dat (tI p)) (y:=.dat .non) rfl rfl rfl)
 refine zJ et ?_;cases q2 with
 | nil h=>
  rw [h];show OkS (zAI _ _ _) _;rw [zWw] at hw hst;subst hw; subst hst;refine zAk (d:=.tup [tI w,.tup (st.map stD)]) (zGS (zt (d:=tI w) rfl (zo (zCd (f:=zD 5) rfl (zAH hL)))) (by simp)) ⟨?_,rfl,rfl⟩;unfold D.und D.unds D.unds D.unds;rw [show D.und 0 (tI w) = true from zAE w];have:∀ xs:List (List Int × Int),D.und 0 (.tup (xs.map stD)) = true:=by
   intro xs;unfold D.und;induction xs with
   | nil=>rfl
   | cons x r ih=>
    rw [zWV];unfold D.unds;rw [ih];unfold stD;unfold D.und D.unds D.unds D.unds;rw [show D.und 0 (tI x.1) = true from zAE _];rfl
  rw [this]; rfl
 | @cons _ _ p v w3 st3 h c q3=>
  have hnd:zCk zA l T = tI p:=by unfold zCk; rw [h]
  rw [h,hnd];obtain ⟨hp1,hp2,_⟩:=zC0 sT h;have cb:=(zAv c).1;have hvl:=zWd (zKN m zGA (zDN _ hp2) (zFN c)) (zDt hR);have hwl:=zXz List.length hw;have hstl:=zXz List.length hst;simp only [zWS,zWj] at hwl hstl;show OkS (zT _ _ [some (mD zA),some (tI S),some (.ref jr),some (tI T),some (tI W),some (.ref M1.length),some (tI p),y] (M1 ++ MO.lst (st1.map stD) :: us)) _;obtain ⟨d,M3,e3,rfl,us3,rfl⟩:=zMy m zGA hR (up (.lst (st1.map stD) :: us)) (zDN _ hp2) c;rw [zR,zg];refine zJ (z0 (zt (d:=mD zA) rfl (zt (d:=.ref jr) rfl (zo (d:=tI p) rfl))) e3) ?_;rw [zU,zZ];show OkS (zT _ _ [some (mD zA),some (tI S),some (.ref jr),some (tI T),some (tI W),some (.ref M1.length),some (tI p),some (tI v)] (M1 ++ MO.lst (st1.map stD) :: us ++ us3)) _;rw [show M1 ++ MO.lst (st1.map stD) :: us ++ us3 = M1 ++ MO.lst (st1.map stD) :: (us ++ us3) by simp];generalize us ++ us3 = us4;have sB:=m.broR v sT cb;refine zBk (z0 (zt (d:=mD zA) rfl (zt (d:=tI T) rfl (zo (d:=tI v) rfl))) (zT4 m (by omega) sT cb (by omega))) ?_;show OkS (zT _ _ [some (mD zA),some (tI S),some (.ref jr),some (tI (broR zA T v)),some (tI W),some (.ref M1.length),some (tI p),some (tI v)] _) _;refine zBk (d:=tI (W ++ v)) ?_ ?_
  ·rw [zV (x:=.dat (tI W)) (y:=.dat (tI v)) rfl rfl (zTY (zy (by rw [zWL,zWL]; omega)))];unfold tI; rw [zW4]
  show OkS (zT _ _ [some (mD zA),some (tI S),some (.ref jr),some (tI (broR zA T v)),some (tI (W ++ v)),some (.ref M1.length),some (tI p),some (tI v)] _) _;have hL4:(M1 ++ MO.lst (st1.map stD) :: us4)[M1.length]? = some (.lst (st1.map stD)):=by simp
  have elen:fB zB1 (zb (zD 4) zv) [some (mD zA),some (tI S),some (.ref jr),some (tI (broR zA T v)),some (tI (W ++ v)),some (.ref M1.length),some (tI p),some (tI v)] (M1 ++ MO.lst (st1.map stD) :: us4) = some (.dat (.int ((W.length + v.length:Nat):Int)),M1 ++ MO.lst (st1.map stD) :: us4):=by
   rw [zIT (xs:=W ++ v) rfl,zWS]
  rw [zR,zCB];refine zKc.mpr (zJ (a:=.dat (.ref M1.length)) (M:=M1 ++ MO.lst (st1.map stD) :: us4) rfl ⟨⟨_,zBb hL4⟩,zJ (zo (d:=stD (p,((W.length + v.length:Nat):Int))) (zGS (zt (d:=tI p) rfl (zo elen)) (by simp))) ((zD2 hL4 (by rw [zWL]; exact zWb (show st1.length < 1000 by omega) (zy (by omega)))).mpr ?_)⟩);rw [zZ];have hset:(M1 ++ MO.lst (st1.map stD) :: us4).set M1.length (.lst (st1.map stD ++ [stD (p,((W.length + v.length:Nat):Int))])) = M1 ++ MO.lst ((st1 ++ [(p,((W.length + v.length:Nat):Int))]).map stD) :: us4:=by
   rw [List.set_append_right _ _ (zWI _)]; simp
  rw [hset];obtain ⟨d,M5,e5,rfl,us5,rfl⟩:=zHX hR (up (.lst ((st1 ++ [(p,((W.length + v.length:Nat):Int))]).map stD) :: us4)) sB;rw [zg];refine zJ (z0 (zt (d:=.ref jr) rfl (zo (d:=tI (broR zA T v)) rfl)) e5) ?_;rw [zU];exact ⟨st3.length,by simp,broR zA T v,W ++ v,w3,st1 ++ [(p,((W.length + v.length:Nat):Int))],st3,us4 ++ us5,some (tI v),sB,by rw [zWS]; exact q3,by rw [hw]; simp,by rw [hst]; simp,rfl,rfl,by simp⟩
noncomputable def zDc:FS:=(zT (zAC 3 (fB zG9 (zb (zD 1) zv)))
  (zT (zDJ (zAi (zD 2)) (gN 4) (zAC 3 (zAO [5] (zAi (zD 3)) (gN 5) zAJ (fOp kIx (fOp kIx (zD 0) (zD 5)) (zD 4)))))
  (zAI (fB zBR (zb (zGv (zHd (zD 3))) zv)))))
noncomputable def zBI:FF:=zEX (zBX 6 zDc)
theorem zNm (hf:f σ M = some (x,M)) (h:zAc M x = some xs):fB zG9 (zb f zv) σ M = some (.fl xs,M):=by
 unfold fB zb zv; rw [hf]; dsimp only; unfold zG9; dsimp only; rw [h]
theorem zIc (m:IsM zA l) (hR:zA.length <= 26) (hS:∀ x ∈ S,0 <= x /\ x < (zA.length:Int)) (hl:S.length <= 60) (hw:Wd l w) :
  zBI [mD zA,tI S,tI w] M = some (tI (ris (S.map fun r=>zCZ zA r w)),M):=by
 refine ze ?_;unfold zBI;refine zDb ?_ ?_
 ·unfold D.unds D.unds D.unds D.unds;rw [zEB]; simp [tI,zAE]
 rw [zAM];unfold zDc;show OkS (zT _ _ [some (mD zA),some (tI S),some (tI w),none,none,none] []) _;rw [zR,zg];refine zJ (zNm (f:=zD 1) (x:=.dat (tI S)) rfl zAA) (zAF ?_);rw [zZ];show OkS (zT _ _ [some (mD zA),some (tI S),some (tI w),some (.ref 0),none,none] [.lst (S.map D.int)]) _;rw [zR,zBa];refine ⟨_,_,_,zCu (xs:=w.map D.int) rfl,?_⟩;refine zBG (I:=fun r σ M'=>∃ (w1 w2:List Int) (j:Nat) (y4 y5:Option D),w = w1 ++ w2 /\ r = w2.map D.int /\ σ = [some (mD zA),some (tI S),some (tI w),some (.ref j),y4,y5] /\ M'[j]? = some (.lst ((S.map fun r=>zCZ zA r w1).map D.int))) ?_ ?_ _ _ _ ⟨[],w,0,none,none,rfl,rfl,rfl,by simp [zCZ]⟩
 ·rintro x r σ M' ⟨w1,w2,j,y4,y5,hw12,hr,rfl,hj⟩;cases w2 with
  | nil=>cases hr
  | cons g w2=>
   rw [zWV] at hr;obtain ⟨rfl,rfl⟩:=zXG hr;have hg:=hw g (by rw [hw12]; simp);have hw1:Wd l w1:=fun x hx=>hw x (by rw [hw12]; simp [hx]);refine ⟨zAK,_,rfl,?_⟩;show OkS (zAC _ _ [some (mD zA),some (tI S),some (tI w),some (.ref j),some (.int g),y5] M') _;rw [zg];have ei:zAi (zD 3) [some (mD zA),some (tI S),some (tI w),some (.ref j),some (.int g),y5] M' = some ((S.map fun r=>zCZ zA r w1).map D.int,zFZ (.dat (.ref j)) ((S.map fun r=>zCZ zA r w1).map D.int),M'):=by
    unfold zAi;rw [show zD 3 [some (mD zA),some (tI S),some (tI w),some (.ref j),some (.int g),y5] M' = some (.dat (.ref j),M') from rfl];dsimp only; rw [zAH hj]
   have ec:=zCD (own:=[5]) (g:=gN 5) (te:=fOp kIx (fOp kIx (zD 0) (zD 5)) (zD 4)) (S.map fun r=>zCZ zA r w1) D.int (fun r=> .int (zAx zA r g)) ei (.inl hj) (by rw [zWL]; omega) fun r hr=>by
    obtain ⟨q,hq,rfl⟩:=zWT.mp hr;have hq':=hS q hq;have hl':=m.led w1 hq'.1 hq'.2 hw1;exact ⟨_,rfl,m.ix hl'.1 hl'.2 hg.1 hg.2 rfl rfl rfl⟩
   refine zJ ec (zAF ?_);refine ⟨w1 ++ [g],w2,M'.length,_,_,by rw [hw12]; simp,rfl,rfl,?_⟩;rw [zBD];congr 2;rw [zWa,zWa];exact List.map_congr_left fun r _=>by show D.int (zAx zA (zCZ zA r w1) g) = D.int (zCZ zA r (w1 ++ [g])); rw [zQP]
 ·rintro σ M' ⟨w1,w2,j,y4,y5,hw12,hr,rfl,hj⟩;have:w2 = []:=by cases w2 with | nil=>rfl | cons _ _=>cases hr
  subst this;rw [zWw] at hw12;subst hw12;refine ⟨zAK,?_⟩;rw [zZ];have hz:(zAN (S.map fun r=>zCZ zA r w)).length < 64:=by
   have:=zDK (S.map fun r=>zCZ zA r w);rw [zWL] at this; omega
  refine zAk (d:=tI (ris (S.map fun r=>zCZ zA r w))) (zCd (zLs (zRZ (f:=zD 3) (x:=.dat (.ref j)) rfl (zAH hj) (by rw [zWL]; omega)) hz) zER) ⟨zAE _,rfl,rfl⟩
theorem zHK (m:IsM zA l) (hR:zA.length <= 26) (s:IsS zA S) (hw:Wd l w) :
  zBI [mD zA,tI S,tI w] M = some (tI (broR zA S w),M):=by
 have:=zFE s;rw [zIc m hR s.mem (by omega) hw,zH8 s.pw]
theorem zPw (h1:fv σ M = some (.dat v,M)) (h2:fo σ M = some (.dat (.ref n),M)) (h3:fi σ M = some (.dat k,M)) (h4:zG4 M n k v = some M4) (q:P .nx σ M4):OkS (zDX fv fo fi σ M) P:=by
 refine ⟨.nx,σ,M4,?_,q⟩;unfold zDX toD;rw [h1]; dsimp only; rw [h2]; dsimp only; rw [h3]; dsimp only; rw [h4]
end Lac
namespace Lac
open PySem PySem.Spec PyProof.Rows L2 L3 ST Law
theorem zO8 {c r:Int} (c0:1 <= c) (r0:0 < r) (cr:c + r <= 28) {rest:FS} {τ:Sd} {P:Out -> Sd -> Mem -> Prop} {ns:List Int} (h:ns.length <= 63)
  (q:∀ zA l M,IsM zA l -> c <= (zA.length:Int) -> (zA.length:Int) < c + r -> zA.length <= 27 -> l <= 6 -> Gen M 2 1 -> M[0]? = some (.fro (ns.map D.int)) -> OkS (rest (some (.ref 0) :: some (.ref 2) :: some (mD zA) :: τ) M) P) :
  OkS (zT (zAC 1 (za zBz (zH (toD (zD 0)) zQ))) (zT (zAC 2 (za zBJ (zH (toD (zD 1)) (zH (toD (fOp zAl (fC (.int c)) (za zk (zH (toD (zD 1)) (zH (toD (fC (.int r))) zQ))))) (zH (toD (fOp zAl (fC (.int 1)) (za zk (zH (toD (zD 1)) (zH (toD (fC (.int 6))) zQ))))) zQ))))) rest) (some (.ref 0) :: none :: none :: τ) [.fro (ns.map D.int)]) P:=by
 rw [zR,zg];refine zDR.mpr (zJ (zo rfl) ?_);refine Ok.mono (zQR h) ?_;rintro d M1 ⟨rfl,g1,e0,_⟩;rw [zU,zZ,zR,zg];show Ok (za _ _ (some (.ref 0) :: some (.ref 2) :: none :: τ) M1) _;refine zDR.mpr (zAp.mpr (zAu.mpr (zJ (a:=.dat (.ref 2)) rfl ?_)));rw [zU];refine zAp.mpr (zAu.mpr (zAm.mpr (zJ rfl (zAa g1 rfl rfl r0 (by omega) fun i M2 i0 i1 nx2=>zJ (a:=.dat (.int (c + i))) rfl ?_))));rw [zU];refine zAp.mpr (zAu.mpr (zAm.mpr (zJ rfl (zAa nx2.gen rfl rfl (by decide) (by decide) fun j M3 j0 j1 nx3=>zJ (a:=.dat (.int (1 + j))) rfl ?_))));rw [zU,zB6];refine Ok.mono (zMV nx3.gen (by omega) (by omega) (by omega) (by omega)) ?_;rintro d M4 ⟨⟨zA,l,rfl,m,hR,hL⟩,nx4⟩;rw [zU,zZ];have l3:0 < M3.length:=by rw [nx3.len,nx2.len]; exact (zWF.mp e0).1
 have e4:M4[0]? = some (.fro (ns.map D.int)):=(nx4.fr 0 l3 (by decide) (by decide)).trans ((nx3.fr 0 (by decide) (by decide)).trans ((nx2.fr 0 (by decide) (by decide)).trans e0));exact q zA l M4 m (by omega) (by omega) (by omega) (by omega) nx4.gen e4
noncomputable def zE9:FS:=(zT (sIf (tst (fOp kEq (za zk (zH (toD (zD 0)) (zH (toD (fC (.int 4))) zQ))) (fC (.int 0)))) (zAI (zIh (zD 1))) zBt)
  (zT (zAC 2 (fB zBR (zb (zAO [3] (zAY (zH (toD (zD 1)) zQ)) (gN 3) (tst (fOp kEq (za zk (zH (toD (zD 0)) (zH (toD (fC (.int 2))) zQ))) (fC (.int 0)))) (zD 3)) zv)))
  (zT (sIf (tst (fOp zLl (zD 2) (zBd zQ))) (zAI (zBd (zH (toD (za zk (zH (toD (zD 0)) (zH (toD (zD 1)) zQ)))) zQ))) zBt)
  (zAI (zD 2)))))
noncomputable def zCe:FF:=zBX 4 zE9
theorem zPB (h:Gen M n k) (h0:0 < R) (h1:R <= 1000):Ok (zCe [.ref n,.int R] M) fun d M'=>Nx M M' n k /\ ∃ xs:List Int,d = tI xs /\ 0 < xs.length /\ (∀ x ∈ xs,0 <= x /\ x < R) /\ xs.Pairwise (· < ·):=by
 unfold zCe;rw [zAM];unfold zE9;show OkS (zT _ _ [some (.ref n),some (.int R),none,none] M) _;rw [zR,zBs];refine zHY.mpr (zAm.mpr (zAa h rfl rfl (by decide) (by decide) fun t M1 t0 t1 nx1=>zCj.mpr (zK6.mpr (zEP.mpr ?_))));by_cases ht:t = 0
 ·rw [zXK ht,zWR rfl,zAt];refine zSw (j:=R) rfl (by omega) (by omega) ?_;rw [zU];refine ⟨nx1,(List.range R.toNat).map fun (x:Nat)=>(x:Int),?_,by simp; omega,fun x hx=>?_,?_⟩
  ·unfold upD tI; rw [zWa]; rfl
  ·obtain ⟨y,hy,rfl⟩:=zWT.mp hx;have:=zWq.mp hy;omega
  ·exact List.pairwise_map.mpr (List.Pairwise.imp (fun {a b} h=>by omega) List.pairwise_lt_range)
 rw [zWl ht,zWU (by decide),zBC,zZ,zR,zg];refine zP8.mpr (zE1.mpr ?_);rw [zFD];refine ⟨_,_,_,zCC (j:=R) rfl (by omega) (by omega),by rw [zCV]; exact zy (by omega),?_⟩;refine Ok.mono (zDw (I:=fun r acc M'=>Nx M M' n k /\ ∃ i,i <= R.toNat /\ r = zCi i (R.toNat - i) /\ ∃ xs:List Int,acc = xs.map D.int /\ (∀ x ∈ xs,0 <= x /\ x < (i:Int)) /\ xs.Pairwise (· < ·)) (Q:=fun acc M'=>Nx M M' n k /\ ∃ xs:List Int,acc = xs.map D.int /\ (∀ x ∈ xs,0 <= x /\ x < R) /\ xs.Pairwise (· < ·)) ?_ ?_ _ [] _ ⟨nx1,0,zWy _,by simp,[],rfl,(fun _ h=>by cases h),.nil⟩) ?_
 ·rintro x r acc M2 ⟨nx,i,hi,e,xs,rfl,hx,hp⟩;have hlt:i < R.toNat:=by
   rcases zXY i R.toNat with z | z
   ·exact z
   ·rw [show R.toNat - i = 0 by omega] at e; cases e
  rw [show R.toNat - i = (R.toNat - (i + 1)) + 1 by omega] at e;obtain ⟨rfl,rfl⟩:=zXG e;refine ⟨zAK,_,rfl,zHY.mpr (zAm.mpr (zAa nx.gen rfl rfl (by decide) (by decide) fun w M3 w0 w1 nx3=>zCj.mpr (zK6.mpr (zEP.mpr ?_))))⟩;by_cases hw:w = 0
  ·rw [zWR (by simpa using hw)];refine zAQ.mpr ⟨.int i,rfl,zU.mpr ⟨nx.trans nx3,i + 1,hlt,rfl,xs ++ [(i:Int)],by simp,fun y hy=>?_,?_⟩⟩
   ·rcases zWc.mp hy with q | q
    ·have:=hx y q; omega
    ·have:=zWe.mp q; omega
   ·rw [List.pairwise_append];exact ⟨hp,by simp,fun a ha b hb=>by have:=hx a ha; have:=zWe.mp hb; omega⟩
  ·rw [zWU (by simpa using hw)];exact ⟨nx.trans nx3,i + 1,hlt,rfl,xs,rfl,(fun y hy=>by have:=hx y hy; omega),hp⟩
 ·rintro acc M2 ⟨nx,i,hi,e,xs,rfl,hx,hp⟩;have:i = R.toNat:=by
   rcases zXY i R.toNat with z | z
   ·rw [show R.toNat - i = (R.toNat - (i + 1)) + 1 by omega] at e; cases e
   ·omega
  subst this;exact ⟨zAK,nx,xs,rfl,(fun y hy=>by have:=hx y hy; omega),hp⟩
 ·rintro ys M2 hh;obtain ⟨nx,xs,e,hx,hp⟩:=hh;rw [List.nil_append] at e;subst e;refine zF1.mpr ((zKl zER).mpr ?_);rw [zU,zZ,zR,zBs];refine zJ (zAs (zV (f:=zD 2) (g:=zBd zQ) (k:=zLl) (r:=some (.dat (.bl (xs.map D.int).isEmpty),M2)) rfl rfl rfl)) ?_;cases xs with
  | nil=>
   rw [zWR (by rfl),zAt];refine zT9.mpr (zAp.mpr (zAu.mpr (zAa nx.gen rfl rfl h0 (by omega) fun g M3 g0 g1 nx3=>?_)));rw [zU,zB6];refine ⟨zy (by simp),?_⟩;rw [zU];exact ⟨nx.trans nx3,[g],rfl,by simp,(fun x hx=>by rw [zWe.mp hx]; exact ⟨g0,g1⟩),by simp⟩
  | cons x r=>
   rw [zWU (by simp),zBC,zZ];exact zAk rfl ⟨nx,x :: r,rfl,by simp,hx,hp⟩
noncomputable def zEr:FS:=(zT (zAC 1 (zBN zQ))
  (zT (zDJ (zAY (zH (toD (fB zB1 (zb (zD 0) zv))) zQ)) (gN 2) (zBr (fM zFS (zD 1) (zH (toD (zAO [3] (zAi (fSl (zD 0) (zCX (fOp zAl (zD 2) (fC (.int 1)))) zFh)) (gN 3) zAJ (zBd (zH (toD (fOp kIx (zD 0) (zD 2))) (zH (toD (zD 3)) zQ))))) zQ))))
  (zAI (zD 1))))
noncomputable def zBx:FF:=zBX 4 zEr
noncomputable def zEF:FS:=(zT (zAC 3 (fOp kIx (fOp kIx (zD 0) (fOp kIx (zD 1) (fC (.int 0)))) (zD 2)))
  (zT (zAC 4 (fOp kIx (fOp kIx (zD 0) (fOp kIx (zD 1) (fC (.int 1)))) (zD 2)))
  (zAI (zBd (zH (toD (fB zLz (zb (zD 3) (zb (zD 4) zv)))) (zH (toD (fB zL6 (zb (zD 3) (zb (zD 4) zv)))) zQ))))))
noncomputable def zB4:FF:=zEX (zBX 5 zEF)
theorem zLF {xs:List Int} (h:xs.Pairwise (· < ·)) (hi:i < xs.length):xs.filter (fun b=>decide (xs[i] < b)) = xs.drop (i + 1):=by
 have hg:=List.pairwise_iff_getElem.mp h;have h1:(xs.take (i + 1)).filter (fun b=>decide (xs[i] < b)) = []:=by
  rw [List.filter_eq_nil_iff];intro b hb;obtain ⟨j,hj,rfl⟩:=zYF hb;rw [zXa] at hj;rw [List.getElem_take,zXP];rcases zXY j i with q | q
  ·have:=hg j i (by omega) hi q; omega
  ·have:j = i:=by omega
   subst this; omega
 have h2:(xs.drop (i + 1)).filter (fun b=>decide (xs[i] < b)) = xs.drop (i + 1):=by
  rw [List.filter_eq_self];intro b hb;obtain ⟨j,hj,rfl⟩:=zYF hb;rw [zYf] at hj;rw [List.getElem_drop,zXP];exact hg i (i + 1 + j) hi (by omega) (by omega)
 have key:∀ f:Int -> Bool,(xs.take (i + 1)).filter f = [] -> (xs.drop (i + 1)).filter f = xs.drop (i + 1) -> xs.filter f = xs.drop (i + 1):=fun f a b=>by
  have:=List.filter_append (p:=f) (xs.take (i + 1)) (xs.drop (i + 1));rw [List.take_append_drop,a,b] at this;simpa using this
 exact key _ h1 h2
def zF4 (xs:List Int) (k:Nat):List (List Int):=(List.range k).flatMap fun i=>(xs.drop (i + 1)).map fun b=>[xs.getD i 0,b]
theorem zPG {xs:List Int} (h:xs.Pairwise (· < ·)):zF4 xs xs.length = zd xs:=by
 have e:zd xs = (List.range xs.length).flatMap fun i=>(xs.filter fun b=>decide (xs.getD i 0 < b)).map fun b=>[xs.getD i 0,b]:=by
  unfold zd;have:xs = (List.range xs.length).map fun i=>xs.getD i 0:=by
   have:=zHa (fun x:Int=>x) 0 xs;simpa using this.symm
  conv=>lhs; arg 2; rw [this]
  rw [List.flatMap_map]
 rw [e];unfold zF4;have:∀ i ∈ List.range xs.length,(xs.drop (i + 1)).map (fun b=>[xs.getD i 0,b]) = (xs.filter fun b=>decide (xs.getD i 0 < b)).map fun b=>[xs.getD i 0,b]:=fun i hi=>by
  have hi':=zWq.mp hi;rw [<- zLF h hi'];congr 2;funext b;rw [zWH,zWG hi'];rfl
 rw [List.flatMap_def,List.flatMap_def,List.map_congr_left this]
theorem zSr (xs:List Int):∀ k,(zF4 xs k).length <= k * xs.length:=by
 intro k;induction k with
 | zero=>simp [zF4]
 | succ k ih=>
  unfold zF4 at ih ⊢;rw [List.range_succ,List.flatMap_append,zWS];simp only [List.flatMap_cons,List.flatMap_nil,zWw,zWL,zYf];rw [Nat.add_mul]; omega
theorem zQz {xs:List D} (hk:k <= xs.length):L3.zEw xs (some (k:Int)) none = xs.drop k:=by
 have ha:HT.sIx xs.length 0 (some (k:Int)) = k:=by rw [HT.zKM]; omega
 unfold L3.zEw;rw [ha,show HT.sIx xs.length xs.length none = xs.length from rfl];exact List.take_of_length_le (by simp)
theorem zSq (n:Nat) (ps:List (List Int)):D.unds n (ps.map tI) = true:=by
 induction ps with
 | nil=>rfl
 | cons p r ih=>rw [zWV]; unfold D.unds; rw [ih,show D.und n (tI p) = true from zAE p]; rfl
theorem zKk (hj:M[j]? = some (.lst (xs.map D.int))) (hx:xs.Pairwise (· < ·)) (hz:xs.length <= 100) :
  Ok (zBx [.ref j] M) fun d M'=>d = .ref M.length /\ ∃ us:Mem,M' = M ++ .lst ((zd xs).map tI) :: us /\ ∀ u ∈ us,MO.und 0 u = true:=by
 have hjl:=(zWF.mp hj).1;unfold zBx;rw [zAM];unfold zEr;show OkS (zT _ _ [some (.ref j),none,none,none] M) _;rw [zR,zg];refine zJ (M:=M) (a:=.fl []) (zQx rfl (by simp)) (zAF ?_);rw [zZ];show OkS (zT _ _ [some (.ref j),some (.ref M.length),none,none] (M ++ [.lst []])) _;have up:∀ us:Mem,(M ++ us)[j]? = some (.lst (xs.map D.int)):=fun us=>by rw [zWJ hjl]; exact hj
 rw [zR,zBa];have el:=zFA (f:=zD 0) (σ:=[some (.ref j),some (.ref M.length),none,none]) (M:=M ++ [.lst []]) (x:=.dat (.ref j)) rfl (zAH (up _));rw [zWL] at el;refine ⟨_,_,_,zCC el (by omega) (by omega),?_⟩;rw [show ((xs.length:Int)).toNat = xs.length by omega];refine zJ3 (n:=xs.length) (I:=fun k σ M'=>(∃ y2 y3,σ = [some (.ref j),some (.ref M.length),y2,y3]) /\ ∃ us:Mem,M' = M ++ .lst ((zF4 xs k).map tI) :: us /\ ∀ u ∈ us,MO.und 0 u = true) ?_ ?_ _ _ ⟨⟨_,_,rfl⟩,[],by simp [zF4],(fun _ h=>by cases h)⟩
 ·rintro k σ M' hk ⟨⟨y2,y3,rfl⟩,us,rfl,hu⟩;refine ⟨_,rfl,?_⟩;show OkS (zBr _ [some (.ref j),some (.ref M.length),some (.int (k:Int)),y3] (M ++ .lst ((zF4 xs k).map tI) :: us)) _;generalize hA:M ++ MO.lst ((zF4 xs k).map tI) :: us = A;have a0:A[j]? = some (.lst (xs.map D.int)):=by rw [<- hA]; exact up _
  have a1:A[M.length]? = some (.lst ((zF4 xs k).map tI)):=by rw [<- hA]; simp
  have al:M.length < A.length:=(zWF.mp a1).1;rw [zCB];have esl:fSl (zD 0) (zCX (fOp zAl (zD 2) (fC (.int 1)))) zFh [some (.ref j),some (.ref M.length),some (.int (k:Int)),y3] A = some (.fl ((xs.drop (k + 1)).map D.int),A):=by
   refine ze (zQO.mpr (zJ (a:=.dat (.ref j)) (M:=A) rfl (zHo.mpr (zJ (a:=.dat (.int ((k + 1:Nat):Int))) (M:=A) rfl (zHV.mpr (zHw.mpr ?_))))));rw [zMr (zBb a0) rfl,zQz (by rw [zWL]; omega),List.map_drop];exact ⟨rfl,rfl⟩
  have ec:=zCD (own:=[3]) (g:=gN 3) (te:=zBd (zH (toD (fOp kIx (zD 0) (zD 2))) (zH (toD (zD 3)) zQ))) (σ:=[some (.ref j),some (.ref M.length),some (.int (k:Int)),y3]) (M:=A) (xs.drop (k + 1)) D.int (fun b=>tI [xs.getD k 0,b]) (zSy esl) trivial (by rw [zYf]; omega) fun b _=>⟨_,rfl,zGS (zt (zV (x:=.dat (.ref j)) (y:=.dat (.int (k:Int))) rfl rfl (zBp (zAH a0) (zM6 (by rw [zWZ,zWG hk,zWH,zWG hk]; rfl)))) (zo (d:=.int b) rfl)) (by simp)⟩;have htl:=zSr xs k;have hmul:k * xs.length <= 100 * 100:=zXo (by omega) hz;refine zKc.mpr (zJ (a:=.dat (.ref M.length)) (M:=A) rfl ⟨⟨_,zBb a1⟩,zAp.mpr (zAu.mpr (zJ ec (zAF ?_)))⟩);rw [zB6];refine zJ (zOR (n:=M.length) (m:=A.length) (xs:=(zF4 xs k).map tI) (ys:=(xs.drop (k + 1)).map fun b=>tI [xs.getD k 0,b]) (by rw [zWJ al]; exact a1) (zBD _ _) (by rw [zWL,zWL,zYf]; omega)) ?_;refine ⟨⟨_,_,rfl⟩,us ++ [.lst ((xs.drop (k + 1)).map fun b=>tI [xs.getD k 0,b])],?_,fun u hu'=>?_⟩
  ·rw [<- hA,zXI,List.set_append_right _ _ (zWI _)];have:(zF4 xs (k + 1)).map tI = (zF4 xs k).map tI ++ (xs.drop (k + 1)).map fun b=>tI [xs.getD k 0,b]:=by
    unfold zF4;rw [List.range_succ,List.flatMap_append,zW4];simp [zWa,Function.comp_def]
   rw [this];simp
  ·rcases zWc.mp hu' with q | q
   ·exact hu u q
   ·rw [zWe] at q; subst q;show D.unds 0 _ = true;rw [show (xs.drop (k + 1)).map (fun b=>tI [xs.getD k 0,b]) = ((xs.drop (k + 1)).map fun b=>[xs.getD k 0,b]).map tI by rw [zWa]; rfl];exact zSq 0 _
 ·rintro σ M' ⟨⟨y2,y3,rfl⟩,us,rfl,hu⟩;rw [zZ];exact zAk (d:=.ref M.length) rfl ⟨rfl,us,by rw [zPG hx],hu⟩
theorem zOc {zA:List (List Int)} {l:Nat} (m:IsM zA l) {a b x:Int} (a0:0 <= a) (a1:a < zA.length) (b0:0 <= b) (b1:b < zA.length) (x0:0 <= x) (x1:x < l) {M:Mem}:zB4 [mD zA,tI [a,b],.int x] M = some (tI (zB8 (zAx zA a x) (zAx zA b x)),M):=by
 refine ze ?_;unfold zB4;refine zDb ?_ ?_
 ·unfold D.unds D.unds D.unds D.unds;rw [zEB,show D.und 0 (tI [a,b]) = true from zAE _]; rfl
 rw [zAM];unfold zEF;show OkS (zT _ _ [some (mD zA),some (tI [a,b]),some (.int x),none,none] []) _;refine zBk (m.ix a0 a1 x0 x1 (f1:=zD 0) (f2:=fOp kIx (zD 1) (fC (.int 0))) (f3:=zD 2) rfl (zV (x:=.dat (tI [a,b])) (y:=.dat (.int 0)) rfl rfl (zBp zAA rfl)) rfl) ?_;refine zBk (m.ix b0 b1 x0 x1 (f1:=zD 0) (f2:=fOp kIx (zD 1) (fC (.int 1))) (f3:=zD 2) rfl (zV (x:=.dat (tI [a,b])) (y:=.dat (.int 1)) rfl rfl (zBp zAA rfl)) rfl) ?_;exact zAk (d:=tI (zB8 (zAx zA a x) (zAx zA b x))) (zGS (zt (zSe (i:=zAx zA a x) (j:=zAx zA b x) rfl rfl) (zo (zSn (i:=zAx zA a x) (j:=zAx zA b x) rfl rfl))) (by simp [zB8])) ⟨zAE _,rfl,rfl⟩
theorem zN6 (h:p ≠ q):zB8 p q = ris [p,q]:=by
 refine (zKA (zLe h)).symm.trans (zGC fun x=>?_);unfold zB8;by_cases z:q < p
 ·rw [zWR z,zWU (by omega)]; simp [or_comm]
 ·rw [zWU z,zWR (by omega)]
theorem zQm:(zB8 p q).getD 0 0 < (zB8 p q).getD 1 0 ↔ p ≠ q:=by
 unfold zB8;show (if q < p then q else p) < (if q > p then q else p) ↔ _;constructor
 ·intro h e; subst e; simp at h
 ·intro h; split <;> split <;> omega
noncomputable def zH5:FS:=(zAI (fB zBR (zb (zAO [1,2,3] (zIQ (za zFK (zH (toD (zD 0)) zQ))) (zNV 1 2 3) zAJ (zBd (zH (toD (zD 1)) (zH (toD (zD 2)) (zH (toD (zD 3)) zQ))))) zv)))
noncomputable def zEs:FF:=zEX (zBX 4 zH5)
noncomputable def zEo:FS:=(zAI (zLc (zH4 "int" (zD 0)) (zPo (zH4 "bool" (zD 0)))))
noncomputable def zAn:FF:=zBX 1 zEo
noncomputable def zEJ:FS:=(zT (sIf (zFk (zDU (tst (zH4 "tuple" (zD 1)))) (tst (fOp kNe (fB zB1 (zb (zD 1) zv)) (fC (.int 2))))) (zAI (fC (.bl false))) zBt)
  (zT (sIf (zFk (zDU (tst (zH4 "tuple" (fOp kIx (zD 1) (fC (.int 0)))))) (zDU (tst (zH4 "tuple" (fOp kIx (zD 1) (fC (.int 1))))))) (zAI (fC (.bl false))) zBt)
  (zT (sIf (zDU (tst (fB zQg (zb (zAO [2] (zAi (fOp kIx (zD 1) (fC (.int 0)))) (gN 2) zAJ (zLc (za zAn (zH (toD (zD 2)) zQ)) (zFl kLe kLt (fC (.int 0)) (zD 2) (fB zB1 (zb (fOp kIx (zD 0) (fC (.int 0))) zv))))) zv)))) (zAI (fC (.bl false))) zBt)
  (zT (zDJ (zAi (fOp kIx (zD 1) (fC (.int 1)))) (gN 3) (zT (sIf (zFk (zDU (tst (zH4 "tuple" (zD 3)))) (zFk (tst (fOp kNe (fB zB1 (zb (zD 3) zv)) (fC (.int 2)))) (zDU (tst (za zAn (zH (toD (fOp kIx (zD 3) (fC (.int 1)))) zQ)))))) (zAI (fC (.bl false))) zBt)
  (sIf (zFk (zDU (tst (zH4 "tuple" (fOp kIx (zD 3) (fC (.int 0)))))) (zFk (tst (fOp kNe (fB zB1 (zb (fOp kIx (zD 3) (fC (.int 0))) zv)) (fC (.int 2)))) (zDU (tst (fB zQg (zb (zAO [4] (zAi (fOp kIx (zD 3) (fC (.int 0)))) (gN 4) zAJ (za zAn (zH (toD (zD 4)) zQ))) zv)))))) (zAI (fC (.bl false))) zBt)))
  (zAI (fC (.bl true)))))))
noncomputable def zCE:FF:=zEX (zBX 5 zEJ)
noncomputable def zEx:FS:=(zT (zAC 3 (zBN zQ))
  (zT (zBM (tst (fOp kLt (fOp kIx (zD 2) (fC (.int 0))) (fOp kIx (zD 2) (fC (.int 1))))) (zT (zAC 4 (fOp kIx (fOp zAw (zD 1) (zD 2)) (fC (.int 1))))
  (zT (zBr (fM zA0 (zD 3) (zH (toD (zD 4)) zQ)))
  (zAC 2 (za zB4 (zH (toD (zD 0)) (zH (toD (zD 2)) (zH (toD (zD 4)) zQ))))))) 1000)
  (zAI (fB zBR (zb (zD 3) zv)))))
noncomputable def zCW:FF:=zF2 (zBX 5 zEx)
noncomputable def zDf:FS:=(zT (zAC 2 (zAO [3] (zAi (za zBx (zH (toD (fB zG9 (zb (zD 1) zv))) zQ))) (gN 3) (tst (fOp (zCg false) (zD 3) (zD 0))) (zBd (zH (toD (fOp kIx (fOp zAw (zD 0) (zD 3)) (fC (.int 0)))) (zH (toD (zD 3)) zQ)))))
  (zT (sIf (tst (fOp kEq (zD 2) (zBN zQ))) (zAI (fC .non)) zBt)
  (zAI (fOp kIx (fB zDx (zb (zD 2) zv)) (fC (.int 1))))))
noncomputable def zBK:FF:=zF2 (zBX 4 zDf)
noncomputable def zEL:FS:=(zT (zQ5 (zG7 4 5) (zD 3))
  (zT (zAC 6 (fC (.int 0)))
  (zT (zDJ (zAi (zD 5)) (zG7 7 8) (zT (sIf (tst (fOp (kTr true 0) (za zBK (zH (toD (zD 1)) (zH (toD (zD 2)) zQ))) (zD 7))) (zAI (fC (.bl false))) zBt)
  (zT (zAC 9 (za zCW (zH (toD (zD 0)) (zH (toD (zD 1)) (zH (toD (zD 7)) zQ)))))
  (zT (sIf (zFk (tst (fOp kNe (zD 8) (fOp zAl (zD 6) (fB zB1 (zb (zD 9) zv))))) (tst (fOp (kTr true 0) (fSl (zD 4) (zCX (zD 6)) (zCX (zD 8))) (zD 9)))) (zAI (fC (.bl false))) zBt)
  (zT (zAC 2 (za zBI (zH (toD (zD 0)) (zH (toD (zD 2)) (zH (toD (zD 9)) zQ)))))
  (zAC 6 (zD 8)))))))
  (zAI (zLc (fOp kEq (zD 6) (fB zB1 (zb (zD 4) zv))) (fOp (kIs false) (za zBK (zH (toD (zD 1)) (zH (toD (zD 2)) zQ))) (fC .non)))))))
noncomputable def zB9:FF:=zF2 (zBX 10 zEL)
noncomputable def zQ9:FS:=(zT (zAC 1 (za zBz (zH (toD (zD 0)) zQ)))
  (zT (zAC 2 (za zBJ (zH (toD (zD 1)) (zH (toD (fOp zAl (fC (.int 1)) (za zk (zH (toD (zD 1)) (zH (toD (fC (.int 26))) zQ))))) (zH (toD (fOp zAl (fC (.int 1)) (za zk (zH (toD (zD 1)) (zH (toD (fC (.int 6))) zQ))))) zQ)))))
  (zT (zAC 3 zKL)
  (zT (zDJ (zAi (za zEs (zH (toD (zD 2)) zQ))) (zUZ 4 5 6) (zDX (zBd (zH (toD (zD 5)) (zH (toD (zD 6)) zQ))) (zD 3) (zD 4)))
  (zT (zDJ (zAY (zH (toD (fOp zAl (fC (.int 2)) (fB zB1 (zb (fSl (zD 0) zFh (zCX (fC (.int 4)))) zv)))) zQ)) (gN 7) (zT (zAC 8 (za zCe (zH (toD (zD 1)) (zH (toD (fB zB1 (zb (zD 2) zv))) zQ))))
  (zT (zAC 9 (za zFT (zH (toD (zD 2)) (zH (toD (zD 8)) zQ))))
  (sIf (zFk (zDU (tst (za zCE (zH (toD (zD 2)) (zH (toD (zD 9)) zQ))))) (zDU (tst (za zB9 (zH (toD (zD 2)) (zH (toD (zD 3)) (zH (toD (zD 8)) (zH (toD (zD 9)) zQ)))))))) (zAI (fC (.bl false))) zBt))))
  (zAI (fOp (kTr false 1) (za zFT (zH (toD (zD 2)) (zH (toD (zBd (zH (toD (fC (.int 0))) zQ))) zQ))) (zBd (zH (toD (zBd zQ)) (zH (toD (zBd zQ)) zQ))))))))))
noncomputable def zHB:FF:=zBX 10 zQ9
noncomputable def zMM (zA:List (List Int)) (l:Nat) (p:List Int):D:=.tup [tI p,.int (zDL zA l One p:Nat),.int (zMe zA l One p)]
theorem zRl (zA:List (List Int)) (l:Nat) (ps:List (List Int)):D.und 0 (.tup (ps.map (zMM zA l))) = true:=by
 unfold D.und;induction ps with
 | nil=>rfl
 | cons p r ih=>
  rw [zWV];unfold D.unds;rw [ih];unfold zMM D.und D.unds D.unds D.unds D.unds;rw [show D.und 0 (tI p) = true from zAE _];rfl
theorem zLD {zA:List (List Int)} {l:Nat} (hR:zA.length <= 26):(zBU zA l One).length <= 676:=zWd (List.length_filter_le _ _) (zDt hR)
theorem zQl {g:FF} {a:FA} {σ:Sd} {M M1:Mem} {ds:List D} {jr:Nat} {T:List (List Int × D)} (ha:a σ M = some (ds,M)) (hg:g ds M = some (.ref jr,M1)) (hr:M1[jr]? = some (dT T)):zIQ (za g a) σ M = some (T.map (fun q=>D.tup [tI q.1,q.2]),none,M1.set jr (.set [])):=by
 unfold zIQ;rw [z0 ha hg];dsimp only;rw [hr];show some ((zHO T).map (fun p=>D.tup [p.1,p.2]),_,_) = _;unfold zHO;rw [zWa]; rfl
theorem zOV {zA:List (List Int)} {l:Nat} (m:IsM zA l) (hR:zA.length <= 26) (hl:l <= 12) {M:Mem}:zEs [mD zA] M = some (.tup ((zBU zA l One).map (zMM zA l)),M):=by
 refine ze ?_;unfold zEs;refine zDb ?_ ?_
 ·unfold D.unds D.unds;rw [zEB]; rfl
 rw [zAM];unfold zH5;show OkS (zAI _ [some (mD zA),none,none,none] []) _;obtain ⟨d,M1,e,jr,rfl,_,hr,_,_⟩:=zL0 m hR hl (M:=[]);have ei:=zQl (σ:=[some (mD zA),none,none,none]) (zo (f:=zD 0) (d:=mD zA) rfl) e hr;clear e;have ef:=zCf (own:=[1,2,3]) (g:=zNV 1 2 3) (tc:=zAJ) (te:=zBd (zH (toD (zD 1)) (zH (toD (zD 2)) (zH (toD (zD 3)) zQ)))) (zAf zA l One) (fun q=>D.tup [tI q.1,q.2]) (fun q=>zMM zA l q.1) (fun _=>true) ei trivial (by have:=zLD (l:=l) hR; unfold zAf; rw [zWL]; omega) (fun q hq=>by
  obtain ⟨p,_,rfl⟩:=zWT.mp hq;exact ⟨[some (mD zA),some (tI p),some (.int (zDL zA l One p:Nat)),some (.int (zMe zA l One p))],rfl,rfl,fun _=>zGS (zt (d:=tI p) rfl (zt (d:=.int (zDL zA l One p:Nat)) rfl (zo (d:=.int (zMe zA l One p)) rfl))) (by simp)⟩)
 have hft:((zAf zA l One).filter fun _=>true).map (fun q=>zMM zA l q.1) = (zBU zA l One).map (zMM zA l):=by
  rw [List.filter_eq_self.mpr fun _ _=>rfl];unfold zAf;rw [zWa]; rfl
 rw [hft] at ef;rw [zAt];refine zP8.mpr (zE1.mpr (zJ ef (zF1.mpr ((zKl zER).mpr ?_))));rw [zU];exact ⟨zRl _ _ _,rfl,rfl⟩
theorem zKb {m:FF} {ds:List D} {M:Mem} {d:D} (wf:∀ (j:Nat) u,M[j]? = some u -> MO.und M.length u = true) (hd:D.und 0 d = true) (h:Ok (m ds M) fun d' M'=>d' = d /\ ∃ us,M' = M ++ us):zF2 m ds M = some (d,M):=by
 refine ze (zNp (Ok.mono h ?_));rintro d' M' ⟨rfl,us,rfl⟩;refine ⟨⟨zDp (zWy _) hd,by simp,fun j u hj e=>?_⟩,rfl,by simp⟩;rw [zWJ hj] at e;exact wf j u e
theorem zN5 (zA:List (List Int)) (l:Nat) (S:List Int):D.und 0 (zCk zA l S) = true:=by
 unfold zCk;cases zDF zA l S with
 | none=>rfl
 | some p=>exact zAE p
theorem zEm {zA:List (List Int)} {l:Nat} (hR:zA.length <= 26) {M:Mem} {jr:Nat} (wf:∀ (j:Nat) u,M[j]? = some u -> MO.und M.length u = true) (hr:M[jr]? = some (dT (zAf zA l One))) {S:List Int} (s:IsS zA S) :
  zBK [.ref jr,tI S] M = some (zCk zA l S,M):=by
 have hrl:=(zWF.mp hr).1;have hS:=zFE s;unfold zBK;refine zKb wf (zN5 _ _ _) ?_;rw [zAM];unfold zDf;show OkS (zT _ _ [some (.ref jr),some (tI S),none,none] M) _;have eL:=zUr (zNm (f:=zD 1) (σ:=[some (.ref jr),some (tI S),none,none]) (M:=M) rfl (zAA (xs:=S.map D.int)));obtain ⟨d,A,ep,rfl,us,hA,hus⟩:=zKk (M:=M ++ [.lst (S.map D.int)]) (j:=M.length) (xs:=S) (zBD _ _) s.pw (by omega);have b1l:(M ++ [MO.lst (S.map D.int)]).length = M.length + 1:=by simp
 have a1:A[M.length + 1]? = some (.lst ((zd S).map tI)):=by rw [hA,<- b1l]; simp
 have a2:A[jr]? = some (dT (zAf zA l One)):=by rw [hA,zXI,zWJ hrl]; exact hr
 have ec:za zBx (zH (toD (fB zG9 (zb (zD 1) zv))) zQ) [some (.ref jr),some (tI S),none,none] M = some (.dat (.ref (M.length + 1)),A):=by
  rw [<- b1l];exact zNZ (aC' eL rfl) ep
 have ei:=zFP ec (zAH a1);clear ec ep;have hPl:(zd S).length <= 676:=zWd (zBv S) (zWd (zXo hS hS) (zXo hR hR));have ef:=zCf (own:=[3]) (g:=gN 3) (tc:=tst (fOp (zCg false) (zD 3) (zD 0))) (te:=zBd (zH (toD (fOp kIx (fOp zAw (zD 0) (zD 3)) (fC (.int 0)))) (zH (toD (zD 3)) zQ))) (zd S) tI (fun p=> .tup [.int (zDL zA l One p:Nat),tI p]) (zE7 zA l) ei (.inl a1) (by omega) (fun p hp=>by
  refine ⟨[some (.ref jr),some (tI S),none,some (tI p)],rfl,?_,fun hk=>?_⟩
  ·have e1:fOp (zCg false) (zD 3) (zD 0) [some (.ref jr),some (tI S),none,some (tI p)] A = _:=zV (x:=.dat (tI p)) (y:=.dat (.ref jr)) rfl rfl (zOH a2);rw [zWU (by decide),zCN] at e1;rw [zAs e1];unfold zE7;by_cases h:p ∈ zBU zA l One
   ·rw [zWR h,zXK h]; rfl
   ·rw [zWU h,zWl h]; rfl
  ·have h:p ∈ zBU zA l One:=zW8 hk;have hlk:zO (zAf zA l One) p = some (zB0 zA l One p):=by rw [zCN,zWR h]
   exact zGS (zt (zV (x:=.dat (zB0 zA l One p)) (y:=.dat (.int 0)) (zV (x:=.dat (.ref jr)) (y:=.dat (tI p)) rfl rfl (zGJ a2 hlk)) rfl (zBp zAA rfl)) (zo (d:=tI p) rfl)) (by simp))
 rw [zR,zg];refine zJ ef (zAF ?_);rw [zZ];have hmap:((zd S).filter (zE7 zA l)).map (fun p=>D.tup [.int (zDL zA l One p:Nat),tI p]) = ((zBm zA l S).map (npR zA l)).map npD:=by
  rw [zWa];exact List.map_congr_left fun p hp=>(zRI (zXN.mp hp).1).symm
 rw [hmap];show OkS (zT _ _ [some (.ref jr),some (tI S),some (.ref A.length),none] (A ++ [.lst (((zBm zA l S).map (npR zA l)).map npD)])) _;generalize hB:A ++ [MO.lst (((zBm zA l S).map (npR zA l)).map npD)] = B;have b1:B[A.length]? = some (.lst (((zBm zA l S).map (npR zA l)).map npD)):=by rw [<- hB]; simp
 have hus2:∃ us,B = M ++ us:=⟨[.lst (S.map D.int)] ++ (MO.lst ((zd S).map tI) :: us) ++ [MO.lst (((zBm zA l S).map (npR zA l)).map npD)],by rw [<- hB,hA]; simp⟩;have en:fOp kEq (zD 2) (zBN zQ) [some (.ref jr),some (tI S),some (.ref A.length),none] B = some (.dat (.bl (((zBm zA l S).map (npR zA l)).map npD).isEmpty),B):=by
  refine zV (x:=.dat (.ref A.length)) (y:=.fl []) rfl (zQx rfl (by simp)) ?_;unfold kEq kOr;rw [show zLf false (.dat (.ref A.length)) (.fl []) B = none from rfl];unfold zO3;rw [zBb b1]; rfl
 rw [zR,zBs];refine zJ (zAs en) ?_;unfold zCk zDF;cases e:(zBm zA l S).map (npR zA l) with
 | nil=>exact zAk (d:=.non) rfl ⟨rfl,hus2⟩
 | cons t ts=>
  rw [e] at b1;show OkS (zBt _ _) _;rw [zBC,zZ];show OkS (zAI (fOp kIx (fB zDx (zb (zD 2) zv)) (fC (.int 1))) [some (.ref jr),some (tI S),some (.ref A.length),none] B) _;have em:fB zDx (zb (zD 2) zv) [some (.ref jr),some (tI S),some (.ref A.length),none] B = some (.dat (npD (zBj t ts)),B):=by
   unfold fB zb zv;rw [show zD 2 [some (.ref jr),some (tI S),some (.ref A.length),none] B = some (.dat (.ref A.length),B) from rfl];show zDx [.dat (.ref A.length)] B = _;unfold zDx;dsimp only;rw [zAH b1];dsimp only;rw [zGw]
  exact zAk (d:=tI [(zBj t ts).2.1,(zBj t ts).2.2]) (zV (y:=.dat (.int 1)) em rfl (zBp zAA rfl)) ⟨rfl,hus2⟩
def Two (zA:List (List Int)) (l:Nat) (h w:List Int):Prop:=(∃ a b,h = [a,b] /\ a < b /\ h ∈ zd (zc zA) /\ Climb zA l One h w) \/ ∃ r,h = [r,r] /\ w = []
theorem zPf {zA:List (List Int)} {l:Nat} (m:IsM zA l) {a b x:Int} {w:List Int} (a0:0 <= a) (a1:a < zA.length) (b0:0 <= b) (b1:b < zA.length) (x0:0 <= x) (x1:x < l) (c:Climb zA l One (setR zA [a,b] x) w):Two zA l (zB8 (zAx zA a x) (zAx zA b x)) w:=by
 obtain ⟨p0,p1⟩:=m.step a0 a1 x0 x1;obtain ⟨q0,q1⟩:=m.step b0 b1 x0 x1;have hs:setR zA [a,b] x = ris [zAx zA a x,zAx zA b x]:=rfl;rw [hs] at c;generalize zAx zA a x = p at *;generalize zAx zA b x = q at *;by_cases hpq:p = q
 ·subst hpq;refine .inr ⟨p,by unfold zB8; simp,?_⟩;have h1:One (ris [p,p]):=by
   have:(ris [p,p]) = [p]:=(zGC fun x=>by simp).trans (zKA (by simp));rw [this]; rfl
  cases c with
  | nil _=>rfl
  | cons d _ _ _ _ _=>have:=zA2 (zCh.mpr h1) d; omega
 ·have hm:=zOh p0 p1 q0 q1 hpq;rw [<- zN6 hpq] at c;have hl:=(zQm (p:=p) (q:=q)).mpr hpq;exact .inl ⟨_,_,rfl,hl,hm,c⟩
theorem zKg {zA:List (List Int)} {l:Nat} (m:IsM zA l) (hR:zA.length <= 26) {M:Mem} {jr:Nat} (wf:∀ (j:Nat) u,M[j]? = some u -> MO.und M.length u = true) (hr:M[jr]? = some (dT (zAf zA l One))) {p w:List Int} (hp:p ∈ zd (zc zA)) (c:Climb zA l One p w) :
  zCW [mD zA,.ref jr,tI p] M = some (tI w,M):=by
 have hrl:=(zWF.mp hr).1;have hw:w.length <= 676:=zWd (zKN m zGA (zDN _ hp) (zFN c)) (zDt hR);unfold zCW;refine zKb wf (zAE w) ?_;rw [zAM];unfold zEx;show OkS (zT _ _ [some (mD zA),some (.ref jr),some (tI p),none,none] M) _;rw [zR,zg];refine zJ (M:=M) (a:=.fl []) (zQx rfl (by simp)) (zAF ?_);rw [zZ];show OkS (zT _ _ [some (mD zA),some (.ref jr),some (tI p),some (.ref M.length),none] (M ++ [.lst []])) _;rw [zR];have zEY:Two zA l p w:=by
  obtain ⟨a,b,rfl,_,_,hlt⟩:=zA1.mp hp;exact .inl ⟨a,b,rfl,hlt,hp,c⟩
 refine zCM (I:=fun z σ M'=>∃ (w1 w2 here:List Int) (y:Option D),w = w1 ++ w2 /\ Two zA l here w2 /\ z = w2.length /\ σ = [some (mD zA),some (.ref jr),some (tI here),some (.ref M.length),y] /\ M' = M ++ [.lst (w1.map D.int)]) ?_ 1000 w.length _ _ (by omega) ⟨[],w,p,none,rfl,zEY,rfl,rfl,rfl⟩;rintro z σ M' ⟨w1,w2,here,y,hw12,t2,rfl,rfl,rfl⟩;have hM:(M ++ [MO.lst (w1.map D.int)])[jr]? = some (dT (zAf zA l One)):=by rw [zWJ hrl]; exact hr
 have hL:(M ++ [MO.lst (w1.map D.int)])[M.length]? = some (.lst (w1.map D.int)):=by simp
 have et:∀ a b:Int,tst (fOp kLt (fOp kIx (zD 2) (fC (.int 0))) (fOp kIx (zD 2) (fC (.int 1)))) [some (mD zA),some (.ref jr),some (tI [a,b]),some (.ref M.length),y] (M ++ [MO.lst (w1.map D.int)]) = some (decide (a < b),M ++ [MO.lst (w1.map D.int)]):=fun a b=>
  zAs (zV (x:=.dat (.int a)) (y:=.dat (.int b)) (zV (x:=.dat (tI [a,b])) (y:=.dat (.int 0)) rfl rfl (zBp zAA rfl)) (zV (x:=.dat (tI [a,b])) (y:=.dat (.int 1)) rfl rfl (zBp zAA rfl)) (ze (zTe.mpr ⟨rfl,rfl⟩)))
 rcases t2 with ⟨a,b,rfl,hlt,hin2,c2⟩ | ⟨r,rfl,rfl⟩
 ·refine zJ (et a b) ?_;rw [zXK hlt,zWR rfl];obtain ⟨a',b',hab,ha,hb,_⟩:=zA1.mp hin2;cases hab;have ha:=zBc.mp ha;have hb:=zBc.mp hb;cases c2 with
  | nil g=>exact absurd g (by simp [One])
  | @cons _ x w3 n d x0 x1 e f c3=>
   have hin:=zDo.mpr ⟨hin2,n,d⟩;have fx:Fst zA l One [a,b] n x:=⟨x0,x1,e,f⟩;have hv:zB0 zA l One [a,b] = .tup [.int ((n + 1:Nat):Int),.int x]:=by unfold zB0; rw [zD8 d,zJx d fx]
   have hlk:zO (zAf zA l One) [a,b] = some (.tup [.int ((n + 1:Nat):Int),.int x]):=by rw [zCN,zWR hin,hv]
   have hlen:=zXz List.length hw12;rw [zWS,zWj] at hlen;refine zBk (d:=.int x) (zV (x:=.dat (.tup [.int ((n + 1:Nat):Int),.int x])) (y:=.dat (.int 1)) (zV (x:=.dat (.ref jr)) (y:=.dat (tI [a,b])) rfl rfl (zGJ hM hlk)) rfl (zBp zAA rfl)) ?_;show OkS (zT _ _ [some (mD zA),some (.ref jr),some (tI [a,b]),some (.ref M.length),some (.int x)] (M ++ [MO.lst (w1.map D.int)])) _;rw [zR,zCB];refine zKc.mpr (zJ (a:=.dat (.ref M.length)) (M:=M ++ [MO.lst (w1.map D.int)]) rfl ⟨⟨_,zBb hL⟩,zJ (zo (d:=.int x) rfl) ((zD2 hL (by rw [zWL]; exact zWb (show w1.length < 1000 by omega) (zy (by omega)))).mpr ?_)⟩);rw [zZ];have hset:(M ++ [MO.lst (w1.map D.int)]).set M.length (.lst (w1.map D.int ++ [.int x])) = M ++ [MO.lst ((w1 ++ [x]).map D.int)]:=by
    rw [List.set_append_right _ _ (zWI _)]; simp
   rw [hset,zg];refine zJ (z0 (zt (d:=mD zA) rfl (zt (d:=tI [a,b]) rfl (zo (d:=.int x) rfl))) (zOc m ha.1 ha.2 hb.1 hb.2 x0 x1)) ?_;exact ⟨w3.length,by simp,w1 ++ [x],w3,_,some (.int x),by rw [hw12]; simp,zPf m ha.1 ha.2 hb.1 hb.2 x0 x1 c3,rfl,rfl,rfl⟩
 ·refine zJ (et r r) ?_;rw [zWl (by omega),zWU (by decide)];rw [zWw] at hw12;subst hw12;rw [zZ];exact zAk (d:=tI w) (zCd (f:=zD 3) rfl (zAH hL)) ⟨rfl,_,rfl⟩
theorem zGk {i:Int} {M:Mem}:zAn [.int i] M = some (.bl true,M):=by
 unfold zAn zEo;refine zRw ?_;exact (zKH (a:=true) (b:=true) ((zFw (T := "int") (f:=zD 0) rfl rfl).trans rfl) fun _=>(zSk (a:=false) ((zFw (T := "bool") (f:=zD 0) rfl rfl).trans rfl)).trans rfl).trans rfl
theorem zOn {σ:Sd} {M:Mem} {f:FE} {i:Nat} {xs:List Int} (hf:f σ M = some (.dat (tI xs),M)) (hz:xs.length <= 100000) (hi:∀ x:Int,(zD i (((zBl [i] σ).set i (some (.int x)))) M = some (.dat (.int x),M))):fB zQg (zb (zAO [i] (zAi f) (gN i) zAJ (za zAn (zH (toD (zD i)) zQ))) zv) σ M = some (.dat (.bl true),M):=by
 have cm:=zCD (own:=[i]) (g:=gN i) (te:=za zAn (zH (toD (zD i)) zQ)) (gd:=none) xs D.int (fun _=>D.bl true) (zCu hf) trivial hz fun x hx=>⟨_,rfl,z0 (zo (hi x)) zGk⟩;have:=zPQ (bs:=xs.map fun _=>true) (by rw [zWa]; exact cm);rw [this,zHj];congr 4;rw [zWn]; intro _ _; rfl
theorem zRp (xs:List (List Int × Int)):D.und 0 (.tup (xs.map stD)) = true:=by
 unfold D.und;induction xs with
 | nil=>rfl
 | cons x r ih=>
  rw [zWV];unfold D.unds;rw [ih];unfold stD;unfold D.und D.unds D.unds D.unds;rw [show D.und 0 (tI x.1) = true from zAE _];rfl
theorem zG2 {zA:List (List Int)} {l:Nat} (m:IsM zA l):∀ {k:Nat} {S w:List Int} {st:List (List Int × Int)},IsS zA S -> Quick zA l k S w st -> ∀ q ∈ st,∃ a b,q.1 = [a,b]
 | _,_,_,_,_,.nil _=>fun q h=>by cases h
 | _,_,_,_,s,.cons e c q3=>fun q h=>by
  rcases zWO.mp h with z | z
  ·subst z;obtain ⟨a,b,hp,_⟩:=zA1.mp (zC0 s e).1;exact ⟨a,b,hp⟩
  ·exact zG2 m (m.broR _ s (zAv c).1) q3 q z
theorem zOI {zA:List (List Int)} {l:Nat} (m:IsM zA l) {w:List Int} {st:List (List Int × Int)} (hw:Wd l w) (hz:w.length <= 90000) (hs:∀ q ∈ st,∃ a b,q.1 = [a,b]) {M:Mem} :
  zCE [mD zA,.tup [tI w,.tup (st.map stD)]] M = some (.bl true,M):=by
 refine ze ?_;unfold zCE;refine zDb ?_ ?_
 ·unfold D.unds D.unds D.unds;rw [zEB];unfold D.und D.unds D.unds D.unds;rw [show D.und 0 (tI w) = true from zAE w,zRp]; rfl
 rw [zAM];unfold zEJ;show OkS (zT _ _ [some (mD zA),some (.tup [tI w,.tup (st.map stD)]),none,none,none] []) _;generalize hT:(D.tup [tI w,.tup (st.map stD)]) = T;have e0:∀ {y3 y4:Option D},fOp kIx (zD 1) (fC (.int 0)) [some (mD zA),some T,none,y3,y4] [] = some (.dat (tI w),[]):=by
  intro y3 y4; rw [<- hT]; exact zV (x:=.dat (.tup [tI w,.tup (st.map stD)])) (y:=.dat (.int 0)) rfl rfl (zBp zAA rfl)
 have e1:∀ {y3 y4:Option D},fOp kIx (zD 1) (fC (.int 1)) [some (mD zA),some T,none,y3,y4] [] = some (.dat (.tup (st.map stD)),[]):=by
  intro y3 y4; rw [<- hT]; exact zV (x:=.dat (.tup [tI w,.tup (st.map stD)])) (y:=.dat (.int 1)) rfl rfl (zBp zAA rfl)
 refine zFW (zE3 (zDi (k:=true) ?_) ?_) ?_
 ·rw [<- hT]; exact (zFw (T := "tuple") (f:=zD 1) rfl rfl).trans rfl
 ·rw [<- hT];exact zAs (zV (zFA (f:=zD 1) rfl zAA) rfl (ze (zS0.mpr ⟨rfl,rfl⟩)))
 refine zFW (zE3 (zDi (k:=true) ((zFw (T := "tuple") e0 rfl).trans rfl)) (zDi (k:=true) ((zFw (T := "tuple") e1 rfl).trans rfl))) ?_;refine zFW (zDi (k:=true) ?_) ?_
 ·have cm:=Law.zCD (own:=[2]) (g:=gN 2) (te:=zLc (za zAn (zH (toD (zD 2)) zQ)) (zFl kLe kLt (fC (.int 0)) (zD 2) (fB zB1 (zb (fOp kIx (zD 0) (fC (.int 0))) zv)))) (gd:=none) w D.int (fun _=>D.bl true) (zCu e0) trivial (by omega) fun x hx=>⟨[some (mD zA),some T,some (.int x),none,none],rfl,?_⟩
  ·have:=zPQ (bs:=w.map fun _=>true) (by rw [zWa]; exact cm);rw [this,zHj];congr 4;rw [zWn]; intro _ _; rfl
  ·obtain ⟨h0,h1⟩:=hw x hx;refine (zKH (a:=true) (b:=true) (z0 (zo (d:=.int x) rfl) zGk) fun _=>?_).trans rfl;refine ze (zQB.mpr (zCj.mpr (zAQ.mpr ⟨_,rfl,zVz.mpr (zEP.mpr ?_)⟩)));rw [zXK h0,zWR rfl];refine zJ (zKf m (f:=zD 0) rfl) (zTe.mpr ⟨?_,rfl⟩);rw [zXK h1]
 rw [zR,zBa];refine ⟨_,_,_,zCu (xs:=st.map stD) e1,?_⟩;refine zBG (I:=fun r σ M'=>∃ (st2:List (List Int × Int)) (y3:Option D),(∀ q ∈ st2,∃ a b,q.1 = [a,b]) /\ r = st2.map stD /\ σ = [some (mD zA),some T,none,y3,none] /\ M' = []) ?_ ?_ _ _ _ ⟨st,none,hs,rfl,rfl,rfl⟩
 ·rintro x r σ M' ⟨st2,y3,h2,hr,rfl,rfl⟩;cases st2 with
  | nil=>cases hr
  | cons q r2=>
   obtain ⟨rfl,rfl⟩:=zXG hr;obtain ⟨a,b,hq⟩:=h2 q zWQ;refine ⟨zAK,_,rfl,?_⟩;show OkS (zT _ _ [some (mD zA),some T,none,some (stD q),none] []) _;have hst:stD q = .tup [tI [a,b],.int q.2]:=by unfold stD; rw [hq]
   rw [hst];have f0:fOp kIx (zD 3) (fC (.int 0)) [some (mD zA),some T,none,some (.tup [tI [a,b],.int q.2]),none] [] = some (.dat (tI [a,b]),[]):=zV (x:=.dat (.tup [tI [a,b],.int q.2])) (y:=.dat (.int 0)) rfl rfl (zBp zAA rfl);have f1:fOp kIx (zD 3) (fC (.int 1)) [some (mD zA),some T,none,some (.tup [tI [a,b],.int q.2]),none] [] = some (.dat (.int q.2),[]):=zV (x:=.dat (.tup [tI [a,b],.int q.2])) (y:=.dat (.int 1)) rfl rfl (zBp zAA rfl);refine zFW (zE3 (zDi (k:=true) ((zFw (T := "tuple") (f:=zD 3) rfl rfl).trans rfl)) (zE3 (zAs (zV (zFA (f:=zD 3) rfl zAA) rfl (ze (zS0.mpr ⟨rfl,rfl⟩)))) (zDi (k:=true) (z0 (zo f1) zGk)))) ?_;refine zME (zE3 (zDi (k:=true) ((zFw (T := "tuple") f0 rfl).trans rfl)) (zE3 (zAs (zV (zFA f0 zAA) rfl (ze (zS0.mpr ⟨rfl,rfl⟩)))) (zDi (k:=true) (zOn (xs:=[a,b]) f0 (by simp) fun x=>rfl)))) ?_;exact ⟨r2,_,fun q hq=>h2 q (zWP _ hq),rfl,rfl,rfl⟩
 ·rintro σ M' ⟨st2,y3,h2,hr,rfl,rfl⟩;refine ⟨zAK,?_⟩;rw [zZ];exact zAk (d:=.bl true) rfl ⟨rfl,rfl,rfl⟩
theorem zNM {a:List Int} {M:Mem}:kTr true 0 (.dat (tI a)) (.dat (tI a)) M = some (.dat (.bl false),M):=by
 have tr:(a.map D.int).all (zA7 0) = true:=by
  rw [zWn];intro x hx;obtain ⟨i,_,rfl⟩:=zWT.mp hx;rfl
 have e:zBe 1 (.tup (a.map D.int)) (.tup (a.map D.int)) = true:=zGm 1 _ (by unfold zA7; exact tr);show (if ((a.map D.int).all (zA7 0) && (a.map D.int).all (zA7 0)) = true then some (EV.dat (.bl (nb true (zBe 1 (.tup (a.map D.int)) (.tup (a.map D.int))))),M) else none) = _;rw [tr,zWR (by decide),e];rfl
theorem zR7 {W v w3:List Int}:L3.zEw ((W ++ (v ++ w3)).map D.int) (some (W.length:Int)) (some ((W.length + v.length:Nat):Int)) = v.map D.int:=by
 have cut_of:∀ {xs:List D} {lo hi:Option Int} {a b:Nat},HT.sIx xs.length 0 lo = a -> HT.sIx xs.length xs.length hi = b -> L3.zEw xs lo hi = (xs.drop a).take (b - a):=by
  intro xs lo hi a b ha hb;unfold L3.zEw; rw [ha,hb]
 rw [cut_of (a:=W.length) (b:=W.length + v.length) (by rw [HT.zKM]; simp) (by rw [HT.zKM]; simp)];simp
theorem zPF {zA:List (List Int)} {l:Nat} (m:IsM zA l) (hR:zA.length <= 26) {M:Mem} {jr:Nat} (wf:∀ (j:Nat) u,M[j]? = some u -> MO.und M.length u = true) (hr:M[jr]? = some (dT (zAf zA l One))) {S w:List Int} {st:List (List Int × Int)} (s:IsS zA S) (q:Quick zA l 0 S w st) :
  zB9 [mD zA,.ref jr,tI S,.tup [tI w,.tup (st.map stD)]] M = some (.bl true,M):=by
 unfold zB9;refine zKb wf rfl ?_;refine Ok.mono (P:=fun d M'=>d = .bl true /\ M' = M) ?_ fun d M' ⟨h1,h2⟩=>⟨h1,[],by rw [h2,zWw]⟩;rw [zAM];unfold zEL;show OkS (zT _ _ [some (mD zA),some (.ref jr),some (tI S),some (.tup [tI w,.tup (st.map stD)]),none,none,none,none,none,none] M) _;rw [zR,zSW];refine zJ (a:=.dat (.tup [tI w,.tup (st.map stD)])) (M:=M) rfl ?_;rw [zU];refine ⟨_,rfl,?_⟩;rw [zZ];generalize hT:(D.tup [tI w,.tup (st.map stD)]) = T0;show OkS (zT _ _ [some (mD zA),some (.ref jr),some (tI S),some T0,some (tI w),some (.tup (st.map stD)),none,none,none,none] M) _;refine zBk (d:=.int 0) rfl ?_;show OkS (zT _ _ [some (mD zA),some (.ref jr),some (tI S),some T0,some (tI w),some (.tup (st.map stD)),some (.int 0),none,none,none] M) _;rw [zR,zBa];refine ⟨_,_,_,zCu (xs:=st.map stD) rfl,?_⟩;refine zBG (I:=fun r σ M'=>∃ (T W w2:List Int) (st2:List (List Int × Int)) (y7 y8 y9:Option D),r = st2.map stD /\ IsS zA T /\ Quick zA l W.length T w2 st2 /\ w = W ++ w2 /\ σ = [some (mD zA),some (.ref jr),some (tI T),some T0,some (tI w),some (.tup (st.map stD)),some (.int (W.length:Int)),y7,y8,y9] /\ M' = M) ?_ ?_ _ _ _ ⟨S,[],w,st,none,none,none,rfl,s,q,rfl,rfl,rfl⟩
 ·rintro x r σ M' ⟨T,W,w2,st2,y7,y8,y9,hr2,sT,q2,hw,rfl,rfl⟩;cases q2 with
  | nil h=>cases hr2
  | @cons _ _ p v w3 st3 h c q3=>
   rw [zWV] at hr2;obtain ⟨rfl,rfl⟩:=zXG hr2;refine ⟨zAK,_,rfl,?_⟩;show OkS (zT _ _ [some (mD zA),some (.ref jr),some (tI T),some T0,some (tI w),some (.tup (st.map stD)),some (.int (W.length:Int)),some (tI p),some (.int ((W.length + v.length:Nat):Int)),y9] M') _;obtain ⟨hp1,hp2,j,hj⟩:=zC0 sT h;have cb:=(zAv c).1;have hn:zCk zA l T = tI p:=by unfold zCk; rw [h]
   refine zFW (zAs (zV (x:=.dat (tI p)) (y:=.dat (tI p)) ((z0 (zt (d:=.ref jr) rfl (zo (d:=tI T) rfl)) (zEm hR wf hr sT)).trans (by rw [hn])) rfl zNM)) ?_;refine zBk (z0 (zt (d:=mD zA) rfl (zt (d:=.ref jr) rfl (zo (d:=tI p) rfl))) (zKg m hR wf hr hp2 c)) ?_;show OkS (zT _ _ [some (mD zA),some (.ref jr),some (tI T),some T0,some (tI w),some (.tup (st.map stD)),some (.int (W.length:Int)),some (tI p),some (.int ((W.length + v.length:Nat):Int)),some (tI v)] M') _;have esl:fSl (zD 4) (zCX (zD 6)) (zCX (zD 8)) [some (mD zA),some (.ref jr),some (tI T),some T0,some (tI w),some (.tup (st.map stD)),some (.int (W.length:Int)),some (tI p),some (.int ((W.length + v.length:Nat):Int)),some (tI v)] M' = some (.dat (tI v),M'):=by
    have e:=slE (f:=zD 4) (σ:=[some (mD zA),some (.ref jr),some (tI T),some T0,some (tI w),some (.tup (st.map stD)),some (.int (W.length:Int)),some (tI p),some (.int ((W.length + v.length:Nat):Int)),some (tI v)]) (M:=M') (xs:=w.map D.int) rfl (oS (f:=zD 6) (i:=(W.length:Int)) rfl) (oS (f:=zD 8) (i:=((W.length + v.length:Nat):Int)) rfl);rw [hw,zR7] at e;rw [<- hw] at e;exact e
   refine zFW (zE3 ?_ (zAs (zV (x:=.dat (tI v)) (y:=.dat (tI v)) esl rfl zNM))) ?_
   ·refine zAs (zV (x:=.dat (.int ((W.length + v.length:Nat):Int))) (y:=.dat (.int ((W.length:Int) + (v.length:Int)))) rfl (zV (x:=.dat (.int (W.length:Int))) rfl (zIT (xs:=v) rfl) rfl) (ze (zS0.mpr ⟨?_,rfl⟩)));rw [zWl (by omega)]
   refine zBk (z0 (zt (d:=mD zA) rfl (zt (d:=tI T) rfl (zo (d:=tI v) rfl))) (zHK m hR sT cb)) ?_;rw [zg];refine zJ (a:=.dat (.int ((W.length + v.length:Nat):Int))) (M:=M') rfl ?_;exact ⟨broR zA T v,W ++ v,w3,st3,_,_,_,rfl,m.broR v sT cb,by rw [zWS]; exact q3,by rw [hw]; simp,by rw [zWS]; rfl,rfl⟩
 ·rintro σ M' ⟨T,W,w2,st2,y7,y8,y9,hr2,sT,q2,hw,rfl,rfl⟩;refine ⟨zAK,?_⟩;cases q2 with
  | cons _ _ _=>cases hr2
  | nil h=>
   rw [zWw] at hw;rw [zZ];have hn:zCk zA l T = .non:=by unfold zCk; rw [h]
   refine zAk (d:=.bl true) (zKH (a:=true) (b:=true) (zV (x:=.dat (.int (W.length:Int))) rfl (zIT (xs:=w) rfl) (eqE.trans ?_)) fun _=>?_) ⟨rfl,rfl⟩
   ·rw [hw,zXK rfl]
   ·exact zV (x:=.dat .non) (y:=.dat .non) ((z0 (zt (d:=.ref jr) rfl (zo (d:=tI T) rfl)) (zEm hR wf hr sT)).trans (by rw [hn])) rfl rfl
theorem zPb (n:Nat) (zA:List (List Int)) (l:Nat) (ps:List (List Int)):MO.und n (dT (ps.map fun p=>(p,zB0 zA l One p))) = true:=by
 show ((zHO (ps.map fun p=>(p,zB0 zA l One p))).all fun p=>D.und n p.1 && D.und n p.2) = true;rw [zWn];intro p hp;obtain ⟨q,hq,rfl⟩:=zWT.mp hp;obtain ⟨r,_,rfl⟩:=zWT.mp hq;simp [tI,zAE,D.und,zAR,zB0,D.unds]
theorem zP3 (ns:List Int) (h:ns.length <= 63):∃ M',zHB [.ref 0] [.fro (ns.map D.int)] = some (.bl true,M'):=by
 suffices hh:Ok (zHB [.ref 0] [.fro (ns.map D.int)]) fun d _=>d = .bl true by
  obtain ⟨d,M',e,rfl⟩:=hh;exact ⟨M',e⟩
 unfold zHB;rw [zAM];unfold zQ9;refine zO8 (τ:=[none,none,none,none,none,none,none]) (by decide) (by decide) (by decide) h fun zA l M2 m hr1 hr2 hr3 hl g2 e02=>?_;have hR:zA.length <= 26:=by omega
 rw [zR,zg];refine zJ (M:=M2 ++ [.dicT []]) (a:=.dat (.ref M2.length)) rfl ?_;rw [zU,zZ];show OkS (zT _ _ [some (.ref 0),some (.ref 2),some (mD zA),some (.ref M2.length),none,none,none,none,none,none] (M2 ++ [dT []])) _;rw [zR,zBa];refine ⟨_,_,_,zCu (z0 (zo (f:=zD 2) (d:=mD zA) rfl) (zOV m hR (by omega))),?_⟩;have nd:(zBU zA l One).Nodup:=(zGF (zHC zA)).filter _;have hrl:=zLD (l:=l) hR;refine zBG (I:=fun r σ M'=>∃ (dn re:List (List Int)) (y4 y5 y6:Option D),zBU zA l One = dn ++ re /\ r = re.map (zMM zA l) /\ σ = [some (.ref 0),some (.ref 2),some (mD zA),some (.ref M2.length),y4,y5,y6,none,none,none] /\ M' = M2 ++ [dT (dn.map fun p=>(p,zB0 zA l One p))]) ?_ ?_ _ _ _ ⟨[],zBU zA l One,none,none,none,rfl,rfl,rfl,rfl⟩
 ·rintro x r σ M' ⟨dn,re,y4,y5,y6,hd,hr,rfl,rfl⟩;cases re with
  | nil=>cases hr
  | cons p r2=>
   obtain ⟨rfl,rfl⟩:=zXG hr;refine ⟨zAK,_,rfl,?_⟩;have hlen:=zXz List.length hd;rw [zWS,zWj] at hlen;have hnew:p ∉ (dn.map fun p=>(p,zB0 zA l One p)).map (·.1):=by
    rw [zWa,show ((fun x=>x.1) ∘ fun p=>(p,zB0 zA l One p)) = id from rfl,List.map_id];rw [hd] at nd;exact fun z=>(zXQ.mp nd).2.2 p z p zWQ rfl
   refine zPw (v:=zB0 zA l One p) (k:=tI p) (n:=M2.length) (zGS (zt (d:=.int (zDL zA l One p:Nat)) rfl (zo (d:=.int (zMe zA l One p)) rfl)) (by simp)) rfl rfl (zLG (T:=dn.map fun p=>(p,zB0 zA l One p)) (zBD _ _) (by rw [zWL]; omega)) ?_;refine ⟨dn ++ [p],r2,_,_,_,by rw [hd]; simp,rfl,rfl,?_⟩;rw [zNx hnew,List.set_append_right _ _ (zWI _)];simp
 rintro σ M' ⟨dn,re,y4,y5,y6,hd,hr,rfl,rfl⟩;refine ⟨zAK,?_⟩;rw [zZ]
 have hre:re = []:=by cases re with
  | nil=>rfl
  | cons _ _=>cases hr
 subst hre;rw [zWw] at hd;subst hd;generalize hJ:M2.length = jr;have g3:Gen (M2 ++ [dT (zAf zA l One)]) 2 1:=g2.app fun u hu=>by
  rw [zWe] at hu;subst hu;exact zPb _ _ _ _
 have e03:(M2 ++ [dT (zAf zA l One)])[0]? = some (.fro (ns.map D.int)):=by rw [zWJ (zWF.mp e02).1]; exact e02
 have eJ:(M2 ++ [dT (zAf zA l One)])[jr]? = some (dT (zAf zA l One)):=by rw [<- hJ]; exact zBD _ _
 have hj2:jr ≠ 2 /\ jr ≠ 1:=by obtain ⟨q1,q2⟩:=g2.lt; omega
 show OkS (zT _ _ [some (.ref 0),some (.ref 2),some (mD zA),some (.ref jr),y4,y5,y6,none,none,none] (M2 ++ [dT (zAf zA l One)])) _;generalize M2 ++ [dT (zAf zA l One)] = M3 at g3 e03 eJ ⊢;rw [zR,zBa];obtain ⟨c,ec,lc⟩:=zT5 (σ:=[some (.ref 0),some (.ref 2),some (mD zA),some (.ref jr),y4,y5,y6,none,none,none]) (i:=4) (j:=0) rfl rfl e03;have er:=zV (k:=zAl) (f:=fC (.int 2)) (r:=some (.dat (.int (2 + ((c.map D.int).length:Int))),M3)) rfl (zFA ec zER) rfl;refine ⟨_,_,_,zCC er (by omega) (by rw [zWL]; omega),?_⟩;refine zJ3 (n:=(2 + ((c.map D.int).length:Int)).toNat) (I:=fun i σ M'=>(∃ y7 y8 y9,σ = [some (.ref 0),some (.ref 2),some (mD zA),some (.ref jr),y4,y5,y6,y7,y8,y9]) /\ Gen M' 2 1 /\ M'[jr]? = some (dT (zAf zA l One))) ?_ ?_ _ _ ⟨⟨_,_,_,rfl⟩,g3,eJ⟩
 ·rintro i σ M' hi ⟨⟨y7,y8,y9,rfl⟩,g,eJ'⟩;refine ⟨_,rfl,?_⟩;show OkS (zT _ _ [some (.ref 0),some (.ref 2),some (mD zA),some (.ref jr),y4,y5,y6,some (.int (i:Int)),y8,y9] M') _;rw [zR,zg];refine zDR.mpr (zJ (zt (d:=.ref 2) rfl (zo (zH1 rfl))) (Ok.mono (zPB g (by omega) (by omega)) ?_));rintro d M4 ⟨nx4,S,rfl,s0,sm,sp⟩;rw [zU,zZ];have s:IsS zA S:=⟨sp,s0,sm⟩;have eJ4:M4[jr]? = some (dT (zAf zA l One)):=(nx4.fr jr hj2.1 hj2.2).trans eJ';obtain ⟨w,st,q⟩:=zGI m 100 0 (zWd (zFE s) (by omega)) s;have hS:=zFE s;have ql:=zGp m hR s q;show OkS (zT _ _ [some (.ref 0),some (.ref 2),some (mD zA),some (.ref jr),y4,y5,y6,some (.int (i:Int)),some (tI S),y9] M4) _;refine zBk (z0 (zt (d:=mD zA) rfl (zo (d:=tI S) rfl)) (zL4 m hR (by omega) s q)) ?_;show OkS (sIf _ _ _ [some (.ref 0),some (.ref 2),some (mD zA),some (.ref jr),y4,y5,y6,some (.int (i:Int)),some (tI S),some (.tup [tI w,.tup (st.map stD)])] M4) _;refine zME (zE3 ((zDi (k:=true) (z0 (zt (d:=mD zA) rfl (zo (d:=.tup [tI w,.tup (st.map stD)]) rfl)) (zOI m (zFd q) (by omega) (zG2 m s q)))).trans rfl) ((zDi (k:=true) (z0 (zt (d:=mD zA) rfl (zt (d:=.ref jr) rfl (zt (d:=tI S) rfl (zo (d:=.tup [tI w,.tup (st.map stD)]) rfl)))) (zPF m hR nx4.gen.wf eJ4 s q))).trans rfl)) ⟨⟨_,_,_,rfl⟩,nx4.gen,eJ4⟩
 ·rintro σ M' ⟨⟨y7,y8,y9,rfl⟩,g,eJ'⟩;have r0:=m.r0;have s:IsS zA [0]:=⟨by simp,by simp,fun x hx=>by rw [zWe] at hx; subst hx; omega⟩;have q:Quick zA l 0 [0] [] []:=.nil (zMY.mpr (by unfold zBm; rfl));exact zAk (d:=.bl true) (zV (x:=.dat (.tup [tI [],.tup ([].map stD)])) (y:=.dat (.tup [.tup [],.tup []])) (z0 (zt (d:=mD zA) rfl (zo (d:=tI [0]) (zGS (zo (d:=.int 0) rfl) (by simp)))) (zL4 m hR (by omega) s q)) (zGS (zt (d:=.tup []) (zGS rfl (by simp)) (zo (d:=.tup []) (zGS rfl (by simp)))) (by simp)) rfl) rfl
end Lac
set_option maxHeartbeats 4000000
namespace Lac
open PySem PySem.Spec PyProof.Rows L2 L3 Law
-- the text by places
def top (i:Nat):Stmt:=PySem.Challenge.pw_bringhome_k26_quick_step_by_step.main.body.getD i (.Pass ⟨0,0,0,0⟩)
abbrev zEg:Stmt:=top 1
abbrev zFQ:Stmt:=top 3
abbrev zIL:Stmt:=top 4
abbrev zGh:Stmt:=top 5
abbrev zEA:Stmt:=top 7
abbrev zEp:Stmt:=top 8
abbrev zCt:Stmt:=top 9
abbrev zFJ:Stmt:=top 10
abbrev zBW:Stmt:=top 11
abbrev zDD:Stmt:=top 12
abbrev zJm:Stmt:=top 13
abbrev zGr:Stmt:=top 14
abbrev zGV:Stmt:=top 15
abbrev zFC:Stmt:=top 17
abbrev zKe:Stmt:=top 18
abbrev zDZ:Stmt:=top 20
abbrev zFj:Stmt:=top 21
abbrev zEq:Stmt:=top 22
abbrev zAV:Stmt:=top 23
abbrev zBo:Stmt:=top 24
abbrev zDV:Stmt:=top 25
abbrev zEI:Stmt:=top 26
abbrev zDT:Stmt:=top 27
abbrev zCQ:Stmt:=top 28
abbrev zFB:Stmt:=top 29
abbrev zCF:Stmt:=top 30
abbrev zE5:Stmt:=top 31
abbrev zCT:Stmt:=top 32
abbrev zES:Stmt:=top 33
abbrev zPm:Stmt:=top 34
structure Txt (K:PySem.W.Frag) (mg:Str -> Option Value) where
  d_all_rooms:Df K mg "all_rooms" zEg ["machine"]
  d_stepped:Df K mg "stepped" zFQ ["machine", "rooms", "letter"]
  d_walked:Df K mg "walked" zIL ["machine", "rooms", "word"]
  d_brought:Df K mg "brought" zGh ["machine", "rooms", "word"]
  d_pairs_of:Df K mg "pairs_of" zEA ["rooms"]
  d_ways_back:Df K mg "ways_back" zEp ["machine"]
  d_lengths_to:Df K mg "lengths_to" zCt ["machine", "goals"]
  d_lengths:Df K mg "lengths" zFJ ["machine"]
  d_first_letter:Df K mg "first_letter" zBW ["machine", "pair", "found"]
  d_rungs_to:Df K mg "rungs_to" zDD ["machine", "found"]
  d_rungs:Df K mg "rungs" zJm ["machine"]
  d_climbed:Df K mg "climbed" zGr ["machine", "steps", "pair"]
  d_ladder:Df K mg "ladder" zGV ["machine"]
  d_nearest:Df K mg "nearest" zFC ["ways", "rooms"]
  d_quick:Df K mg "quick" zKe ["machine", "rooms"]
  d_law_begin:Df K mg "_law_begin" zDZ ["_law_script"]
  d_law_next:Df K mg "_law_next" zFj ["_law_state", "_law_many"]
  d_law_order:Df K mg "_law_order" zEq ["_law_state", "_law_many"]
  d_law_column:Df K mg "_law_column" zAV ["_law_state", "_law_family", "_law_rooms_here", "_law_letter"]
  d_law_machine:Df K mg "_law_machine" zBo ["_law_state", "_law_rooms_here", "_law_letters"]
  d_law_pairs:Df K mg "_law_pairs" zDV ["_law_rooms_here"]
  d_law_behind:Df K mg "_law_behind" zEI ["_law_machine_here", "_law_pair", "_law_letter"]
  d_law_rooms:Df K mg "_law_rooms" zDT ["_law_state", "_law_rooms_here"]
  d_law_brought:Df K mg "_law_brought" zCQ ["_law_machine_here", "_law_rooms_here", "_law_word"]
  d_law_whole:Df K mg "_law_whole" zFB ["_law_thing"]
  d_law_formed:Df K mg "_law_formed" zCF ["_law_machine_here", "_law_told"]
  d_law_piece:Df K mg "_law_piece" zE5 ["_law_machine_here", "_law_rungs", "_law_pair"]
  d_law_nearest:Df K mg "_law_nearest" zCT ["_law_rungs", "_law_rooms_here"]
  d_law_walked:Df K mg "_law_walked" zES ["_law_machine_here", "_law_rungs", "_law_rooms_here", "_law_told"]
  d_law:Df K mg "law" zPm ["_law_script"]
  z_tuple:mg "tuple" = none
  z_range:mg "range" = none
  z_len:mg "len" = none
  z_sorted:mg "sorted" = none
  z_min:mg "min" = none
  z_enumerate:mg "enumerate" = none
  z_abs:mg "abs" = none
  z_int:mg "int" = none
  z_max:mg "max" = none
  z_list:mg "list" = none
  z_set:mg "set" = none
  z_isinstance:mg "isinstance" = none
  z_bool:mg "bool" = none
  z_all:mg "all" = none
  kinds:Kinds K
section
variable {P:Program} {w:World} {K:PySem.W.Frag} {mg:Str -> Option Value} {base:Heap}
abbrev zLN:List Str:=["machine"]
theorem zKP:FnScope zLN ["machine"] (zN zEg):=⟨rfl,rfl,rfl,by decide +kernel,rfl,by decide +kernel,by decide +kernel⟩
theorem zGK (T:Txt K mg):Od P w base 1 T.d_all_rooms zBY:=by
  unfold zBY;exact zAL (n:=1) T.d_all_rooms.F zKP rfl (fun cdv A outer s H E hr=>by
    unfold zEz;exact (zY (zx (zP9 rfl rfl T.z_tuple rfl T.z_range (zC9 rfl T.z_len (zf (zE (pv 0)) zq (zC rfl)) (zC rfl) rfl) (zC rfl) rfl (zC rfl) rfl))))
abbrev zJU:List Str:=["machine", "rooms", "letter", "room"]
theorem zIZ:FnScope zJU ["machine", "rooms", "letter"] (zN zFQ):=⟨rfl,rfl,rfl,by decide +kernel,rfl,by decide +kernel,by decide +kernel⟩
theorem zD9 (T:Txt K mg):Od P w base 1 T.d_stepped zBL:=by
  unfold zBL;exact zDa (zAL (n:=3) T.d_stepped.F zIZ rfl (fun cdv A outer s H E hr=>by
    unfold zGa;exact (zY (zx (zCS rfl T.z_tuple (zf (zNj rfl rfl T.z_sorted (zUG (zj (i:=3) (by decide)) (zi (sc:=zN zFQ) (N:=zJU) rfl rfl rfl (by decide +kernel) (by decide +kernel)) rfl (zAq (zE (pv 1))) ⟨fun _ _ _ _ _=>(zu (i:=3) zIZ.nd rfl),fun _ _ _ _ _=>zA4,fun _ _ _ _ _=>(zAg (zAg (zE (pv 0)) (zE (pv 3))) (zE (pv 2)))⟩) (zC rfl) rfl) zq (zC rfl)) (zC rfl) rfl)))))
abbrev zHe:List Str:=["rooms", "one", "other"]
theorem zE2:FnScope zHe ["rooms"] (zN zEA):=⟨rfl,rfl,rfl,by decide +kernel,rfl,by decide +kernel,by decide +kernel⟩
theorem zEu (T:Txt K mg):Od P w base 1 T.d_pairs_of zA5:=by
  unfold zA5;exact zAL (n:=1) T.d_pairs_of.F zE2 rfl (fun cdv A outer s H E hr=>by
    unfold zFy;exact (zY (zx (zSz (by decide) (zj (i:=1) (by decide)) (zj (i:=2) (by decide)) (zi (sc:=zN zEA) (N:=zHe) rfl rfl rfl (by decide +kernel) (by decide +kernel)) rfl (zAq (zE (pv 0))) ⟨fun _ _ _ _ _=>(zu (i:=1) zE2.nd rfl),fun _ _ _ _ _=>zA4,fun _ _ _ _ _=>(zAq (zE (pv 0))),fun _ _ _ _ _=>(zu (i:=2) zE2.nd rfl),fun _ _ _ _ _=>(zFq (zTG (zE (pv 1)) (zE (pv 2)))),fun _ _ _ _ _=>(zCH (zG (zI (zE (pv 1))) (zG (zI (zE (pv 2))) zK (zC rfl)) (zC rfl))),fun _ _ _ _ _ _=>rfl⟩))))
abbrev zG3:List Str:=["_law_script", "_law_seed", "_law_cell"]
theorem zB7:FnScope zG3 ["_law_script"] (zN zDZ):=⟨rfl,rfl,rfl,by decide +kernel,rfl,by decide +kernel,by decide +kernel⟩
theorem zKr (T:Txt K mg):Od P w base 1 T.d_law_begin zBz:=by
  unfold zBz;exact zAL (n:=1) T.d_law_begin.F zB7 rfl (fun cdv A outer s H E hr=>by
    unfold zEv;exact (zL (zAr (i:=1) zB7.nd rfl (zBZ (zC9 rfl T.z_len (zf (zE (pv 0)) zq (zC rfl)) (zC rfl) rfl) zX))
    (zL (zD1 zBS zXf rfl (zAq (zGM (zE (pv 0)) zHQ (zFV zX))) (zu (i:=2) zB7.nd rfl) (zY (zAr (i:=1) zB7.nd rfl (zGH (zBZ (zBZ (zQo (zE (pv 1)) zX) (zGH (zE (pv 2)) (zTO zX zX))) zX) zX))))
    (zY (zx (zDC (zG (zI (zBV (zj (i:=2) (by decide)) (zi (sc:=zN zDZ) (N:=zG3) rfl rfl rfl (by decide +kernel) (by decide +kernel)) rfl (zAq (zGM (zE (pv 0)) zHQ (zFV zX))) ⟨fun _ _ _ _ _=>(zu (i:=2) zB7.nd rfl),fun _ _ _ _ _=>(zFq (zUy (zTB rfl T.z_abs (zf (zE (pv 2)) zq (zC rfl)) (zC rfl) rfl) (zTO zX zX))),fun _ _ _ _ _=>(zTB rfl T.z_abs (zf (zE (pv 2)) zq (zC rfl)) (zC rfl) rfl)⟩)) (zG (zI (zE (pv 1))) zK (zC rfl)) (zC rfl))))))))
abbrev zMI:List Str:=["_law_state", "_law_many", "_law_digit"]
theorem zGz:FnScope zMI ["_law_state", "_law_many"] (zN zFj):=⟨rfl,rfl,rfl,by decide +kernel,rfl,by decide +kernel,by decide +kernel⟩
theorem zAD (T:Txt K mg):Od P w base 1 T.d_law_next zk:=by
  unfold zk;exact zAL (n:=2) T.d_law_next.F zGz rfl (fun cdv A outer s H E hr=>by
    unfold zFn;exact (zL (zGN 100 zXf (zH2 (zJ0 (zJY hr.units0 (zAg (zE (pv 0)) zX) (zDC zK)) (zHU (zC6 hr.units0 (zAg (zAg (zE (pv 0)) zX) zX) zX)))) (zY (zET (zVi (zAg (zE (pv 0)) zX) (zG (zI zX) zK (zC rfl))))))
    (zL (zDn (zJY hr.units0 (zAg (zE (pv 0)) zX) (zDC zK)) (zL (zAr (i:=2) zGz.nd rfl (zGH (zAg (zAg (zE (pv 0)) zX) zX) (zE (pv 1))))
    (zL (zIU (zPe (zAg (zAg (zE (pv 0)) zX) zX) (zE (pv 1))) (zAg (zE (pv 0)) zX) zX)
    (zY (zx (zE (pv 2)))))) zA3)
    (zL (zIU (zGH (zBZ (zQo (zAg (zE (pv 0)) zX) zX) zX) zX) (zE (pv 0)) zX)
    (zY (zx (zGH (zPe (zGH (zQo (zAg (zE (pv 0)) zX) (zAg (zE (pv 0)) zX)) zX) zX) (zE (pv 1)))))))))
abbrev zHE:List Str:=["_law_rooms_here", "_law_found", "_law_k", "_law_other"]
theorem zCp:FnScope zHE ["_law_rooms_here"] (zN zDV):=⟨rfl,rfl,rfl,by decide +kernel,rfl,by decide +kernel,by decide +kernel⟩
theorem zKi (T:Txt K mg):Od P w base 1 T.d_law_pairs zBx:=by
  unfold zBx;exact zAL (n:=1) T.d_law_pairs.F zCp rfl (fun cdv A outer s H E hr=>by
    unfold zEr;exact (zL (zAr (i:=1) zCp.nd rfl (zDC zK))
    (zL (zD1 zBS zXf rfl (zAP rfl T.z_range (zG (zI (zC9 rfl T.z_len (zf (zE (pv 0)) zq (zC rfl)) (zC rfl) rfl)) zK (zC rfl)) (zF zM) (zAd rfl)) (zu (i:=2) zCp.nd rfl) (zY (zET (zPk (zE (pv 1)) (zG (zI (zBV (zj (i:=3) (by decide)) (zi (sc:=zN zDV) (N:=zHE) rfl rfl rfl (by decide +kernel) (by decide +kernel)) rfl (zAq (zGM (zE (pv 0)) (zFV (zBZ (zE (pv 2)) zX)) zHQ)) ⟨fun _ _ _ _ _=>(zu (i:=3) zCp.nd rfl),fun _ _ _ _ _=>zA4,fun _ _ _ _ _=>(zCH (zG (zI (zAg (zE (pv 0)) (zE (pv 2)))) (zG (zI (zE (pv 3))) zK (zC rfl)) (zC rfl)))⟩)) zK (zC rfl))))))
    (zY (zx (zE (pv 1)))))))
abbrev zJ9:List Str:=["_law_machine_here", "_law_pair", "_law_letter", "_law_one", "_law_other"]
theorem zDj:FnScope zJ9 ["_law_machine_here", "_law_pair", "_law_letter"] (zN zEI):=⟨rfl,rfl,rfl,by decide +kernel,rfl,by decide +kernel,by decide +kernel⟩
theorem zIs (T:Txt K mg):Od P w base 1 T.d_law_behind zB4:=by
  unfold zB4;exact zDa (zAL (n:=3) T.d_law_behind.F zDj rfl (fun cdv A outer s H E hr=>by
    unfold zEF;exact (zL (zAr (i:=3) zDj.nd rfl (zAg (zAg (zE (pv 0)) (zAg (zE (pv 1)) zX)) (zE (pv 2))))
    (zL (zAr (i:=4) zDj.nd rfl (zAg (zAg (zE (pv 0)) (zAg (zE (pv 1)) zX)) (zE (pv 2))))
    (zY (zx (zCH (zG (zI (zUY rfl rfl T.z_min (zf (zE (pv 3)) (zf (zE (pv 4)) zq (zC rfl)) (zC rfl)) (zC rfl) (zP rfl))) (zG (zI (zTf rfl rfl T.z_max (zf (zE (pv 3)) (zf (zE (pv 4)) zq (zC rfl)) (zC rfl)) (zC rfl) (zP rfl))) zK (zC rfl)) (zC rfl)))))))))
abbrev zFf:List Str:=["_law_machine_here", "_law_rooms_here", "_law_word", "_law_now", "_law_letter", "_law_room"]
theorem zBT:FnScope zFf ["_law_machine_here", "_law_rooms_here", "_law_word"] (zN zCQ):=⟨rfl,rfl,rfl,by decide +kernel,rfl,by decide +kernel,by decide +kernel⟩
theorem zIg (T:Txt K mg):Od P w base 1 T.d_law_brought zBI:=by
  unfold zBI;exact zDa (zAL (n:=3) T.d_law_brought.F zBT rfl (fun cdv A outer s H E hr=>by
    unfold zDc;exact (zL (zAr (i:=3) zBT.nd rfl (zP1 rfl T.z_list (zf (zE (pv 1)) zq (zC rfl)) (zC rfl) rfl))
    (zL (zD1 zBS zXf rfl (zAq (zE (pv 2))) (zu (i:=4) zBT.nd rfl) (zY (zCx (i:=3) zBT.nd rfl (by first | exact Or.inl rfl | exact Or.inr rfl) (by first | exact .inl rfl | exact .inr rfl) rfl (zj (i:=5) (by decide)) (zi (sc:=zN zCQ) (N:=zFf) rfl rfl rfl (by decide +kernel) (by decide +kernel)) rfl (zAq (zE (pv 3))) ⟨fun _ _ _ _ _=>(zu (i:=5) zBT.nd rfl),fun _ _ _ _ _=>zA4,fun _ _ _ _ _=>(zAg (zAg (zE (pv 0)) (zE (pv 5))) (zE (pv 4)))⟩)))
    (zY (zx (zCS rfl T.z_tuple (zf (zNj rfl rfl T.z_sorted (zSA rfl rfl T.z_set (zE (pv 3)) (zC rfl) rfl) (zC rfl) rfl) zq (zC rfl)) (zC rfl) rfl)))))))
abbrev zL9:List Str:=["_law_thing"]
theorem zJu:FnScope zL9 ["_law_thing"] (zN zFB):=⟨rfl,rfl,rfl,by decide +kernel,rfl,by decide +kernel,by decide +kernel⟩
theorem zEH (T:Txt K mg):Od P w base 1 T.d_law_whole zAn:=by
  unfold zAn;exact zAL (n:=1) T.d_law_whole.F zJu rfl (fun cdv A outer s H E hr=>by
    unfold zEo;exact (zY (zx (zMg (zHh T.kinds (by decide) rfl T.z_isinstance rfl T.z_int (by rfl) (by decide) (by decide) (zE (pv 0)) (zC rfl) (zC rfl) (zP rfl)) (zMs (zTh (zHh T.kinds (by decide) rfl T.z_isinstance rfl T.z_bool (by rfl) (by decide) (by decide) (zE (pv 0)) (zC rfl) (zC rfl) (zP rfl))))))))
abbrev zPv:List Str:=["machine", "rooms", "word", "sets", "letter"]
theorem zGq:FnScope zPv ["machine", "rooms", "word"] (zN zIL):=⟨rfl,rfl,rfl,by decide +kernel,rfl,by decide +kernel,by decide +kernel⟩
theorem zOz (T:Txt K mg):Od P w base 2 T.d_walked zEt:=by
  unfold zEt;exact zDa (zAL (n:=3) T.d_walked.F zGq rfl (fun cdv A outer s H E hr=>by
    unfold zHl;exact (zL (zAr (i:=3) zGq.nd rfl (zDC (zG (zI (zE (pv 1))) zK (zC rfl))))
    (zL (zD1 zBS zXf rfl (zAq (zE (pv 2))) (zu (i:=4) zGq.nd rfl) (zY (zET (zDz (zE (pv 3)) (zG (zI (zAT (zD9 T) (hr.mono (by omega)) rfl (zG (zI (zE (pv 0))) (zG (zI (zAg (zE (pv 3)) (zTT zX))) (zG (zI (zE (pv 4))) zK (zC rfl)) (zC rfl)) (zC rfl)) (zF (zF (zF zM))) (by decide) (zC rfl) (zP rfl))) zK (zC rfl))))))
    (zY (zx (zCS rfl T.z_tuple (zf (zE (pv 3)) zq (zC rfl)) (zC rfl) rfl)))))))
abbrev zLM:List Str:=["machine", "sources", "pair", "letter", "goal"]
theorem zB5:FnScope zLM ["machine"] (zN zEp):=⟨rfl,rfl,rfl,by decide +kernel,rfl,by decide +kernel,by decide +kernel⟩
theorem zKY (T:Txt K mg):Od P w base 2 T.d_ways_back zCY:=by
  unfold zCY;exact zAL (n:=1) T.d_ways_back.F zB5 rfl (fun cdv A outer s H E hr=>by
    unfold zEn;exact (zL (zAr (i:=1) zB5.nd rfl zNK)
    (zL (zD1 zBS zXf rfl (zAq (zAT (zEu T) (hr.mono (by omega)) rfl (zG (zI (zAT (zGK T) (hr.mono (by omega)) rfl (zG (zI (zE (pv 0))) zK (zC rfl)) (zF zM) (by decide) (zC rfl) (zP rfl))) zK (zC rfl)) (zF zM) (by decide) (zC rfl) (zP rfl))) (zu (i:=2) zB5.nd rfl) (zY (zD1 zBS zXf rfl (zAP rfl T.z_range (zG (zI (zC9 rfl T.z_len (zf (zAg (zE (pv 0)) zX) zq (zC rfl)) (zC rfl) rfl)) zK (zC rfl)) (zF zM) (zAd rfl)) (zu (i:=3) zB5.nd rfl) (zL (zAr (i:=4) zB5.nd rfl (zAT (zD9 T) (hr.mono (by omega)) rfl (zG (zI (zE (pv 0))) (zG (zI (zE (pv 2))) (zG (zI (zE (pv 3))) zK (zC rfl)) (zC rfl)) (zC rfl)) (zF (zF (zF zM))) (by decide) (zC rfl) (zP rfl)))
    (zL (zDn (zIz (zBi hr) (zE (pv 4)) (zE (pv 1))) (zY (zMl (zBi hr) (zDC zK) (zE (pv 1)) (zE (pv 4)))) zA3)
    (zY (zET (zDz (zEM (zBi hr) (zE (pv 1)) (zE (pv 4))) (zG (zI (zE (pv 2))) zK (zC rfl))))))))))
    (zY (zx (zE (pv 1)))))))
abbrev zDI:List Str:=["machine", "pair", "found", "goals", "letter", "goal"]
theorem zBH:FnScope zDI ["machine", "pair", "found"] (zN zBW):=⟨rfl,rfl,rfl,by decide +kernel,rfl,by decide +kernel,by decide +kernel⟩
theorem zHG (T:Txt K mg):Od P w base 2 T.d_first_letter zAZ:=by
  unfold zAZ;exact zAL (n:=3) T.d_first_letter.F zBH rfl (fun cdv A outer s H E hr=>by
    unfold zDE;exact (zL (zCx (i:=3) zBH.nd rfl (by first | exact Or.inl rfl | exact Or.inr rfl) (by first | exact .inl rfl | exact .inr rfl) rfl (zj (i:=4) (by decide)) (zi (sc:=zN zBW) (N:=zDI) rfl rfl rfl (by decide +kernel) (by decide +kernel)) rfl (zAP rfl T.z_range (zG (zI (zC9 rfl T.z_len (zf (zAg (zE (pv 0)) zX) zq (zC rfl)) (zC rfl) rfl)) zK (zC rfl)) (zF zM) (zAd rfl)) ⟨fun _ _ _ _ _=>(zu (i:=4) zBH.nd rfl),fun _ _ _ _ _=>zA4,fun _ _ _ _ _=>(zAT (zD9 T) (hr.mono (by omega)) rfl (zG (zI (zE (pv 0))) (zG (zI (zE (pv 1))) (zG (zI (zE (pv 4))) zK (zC rfl)) (zC rfl)) (zC rfl)) (zF (zF (zF zM))) (by decide) (zC rfl) (zP rfl))⟩)
    (zY (zx (zTm rfl rfl T.z_min (zf (zBV (zOe (i:=4) (j:=5) (by decide) (by decide)) (zi (sc:=zN zBW) (N:=zDI) rfl rfl rfl (by decide +kernel) (by decide +kernel)) rfl (zRe rfl T.z_enumerate (zE (pv 3)) (zC rfl) rfl) ⟨fun _ _ _ _ _=>(zGY rfl (zA9 (zu (i:=4) zBH.nd rfl) (zA9 (zu (i:=5) zBH.nd rfl) zFM))),fun _ _ _ _ _=>(zFq (zH2 (zJ0 (zJl (zBi hr) (zE (pv 5)) (zE (pv 2))) (zHU (zC6 hr.units0 (zEM (zBi hr) (zE (pv 2)) (zE (pv 5))) (zNa (zEM (zBi hr) (zE (pv 2)) (zE (pv 1))) zX)))))),fun _ _ _ _ _=>(zE (pv 4))⟩) zq (zC rfl)) (zC rfl) rfl)))))
abbrev zOJ:List Str:=["machine", "steps", "pair", "word", "here", "letter"]
theorem zDA:FnScope zOJ ["machine", "steps", "pair"] (zN zGr):=⟨rfl,rfl,rfl,by decide +kernel,rfl,by decide +kernel,by decide +kernel⟩
theorem zND (T:Txt K mg):Od P w base 2 T.d_climbed zDq:=by
  unfold zDq;exact zAL (n:=3) T.d_climbed.F zDA rfl (fun cdv A outer s H E hr=>by
    unfold zGW;exact (zL (zAr (i:=3) zDA.nd rfl (zDC zK))
    (zL (zAr (i:=4) zDA.nd rfl (zE (pv 2)))
    (zL (zGN 1000 zXf (zJl (zBi hr) (zE (pv 4)) (zE (pv 1))) (zL (zAr (i:=5) zDA.nd rfl (zAg (zEM (zBi hr) (zE (pv 1)) (zE (pv 4))) zX))
    (zL (zET (zDz (zE (pv 3)) (zG (zI (zE (pv 5))) zK (zC rfl))))
    (zY (zAr (i:=4) zDA.nd rfl (zAT (zD9 T) (hr.mono (by omega)) rfl (zG (zI (zE (pv 0))) (zG (zI (zE (pv 4))) (zG (zI (zE (pv 5))) zK (zC rfl)) (zC rfl)) (zC rfl)) (zF (zF (zF zM))) (by decide) (zC rfl) (zP rfl)))))))
    (zY (zx (zCS rfl T.z_tuple (zf (zE (pv 3)) zq (zC rfl)) (zC rfl) rfl)))))))
abbrev zJO:List Str:=["ways", "rooms", "found", "pair"]
theorem zF0:FnScope zJO ["ways", "rooms"] (zN zFC):=⟨rfl,rfl,rfl,by decide +kernel,rfl,by decide +kernel,by decide +kernel⟩
theorem zIO (T:Txt K mg):Od P w base 2 T.d_nearest zCv:=by
  unfold zCv;exact zAL (n:=2) T.d_nearest.F zF0 rfl (fun cdv A outer s H E hr=>by
    unfold zGX;exact (zL (zCx (i:=2) zF0.nd rfl (by first | exact Or.inl rfl | exact Or.inr rfl) (by first | exact .inl rfl | exact .inr rfl) rfl (zj (i:=3) (by decide)) (zi (sc:=zN zFC) (N:=zJO) rfl rfl rfl (by decide +kernel) (by decide +kernel)) rfl (zAq (zAT (zEu T) (hr.mono (by omega)) rfl (zG (zI (zE (pv 1))) zK (zC rfl)) (zF zM) (by decide) (zC rfl) (zP rfl))) ⟨fun _ _ _ _ _=>(zu (i:=3) zF0.nd rfl),fun _ _ _ _ _=>(zFq (zJl (zBi hr) (zE (pv 3)) (zE (pv 0)))),fun _ _ _ _ _=>(zCH (zG (zI (zAg (zEM (zBi hr) (zE (pv 0)) (zE (pv 3))) zX)) (zG (zI (zE (pv 3))) zK (zC rfl)) (zC rfl)))⟩)
    (zY (zx (zSp (zNd (zE (pv 2))) (zAg (zQ7 rfl (zKu 3 (by decide) hr) rfl T.z_min (zf (zE (pv 2)) zq (zC rfl)) (zC rfl) rfl) zX) zNg)))))
abbrev zLJ:List Str:=["_law_state", "_law_many", "_law_order_here", "_law_k"]
theorem zEK:FnScope zLJ ["_law_state", "_law_many"] (zN zEq):=⟨rfl,rfl,rfl,by decide +kernel,rfl,by decide +kernel,by decide +kernel⟩
theorem zJ2 (T:Txt K mg):Od P w base 2 T.d_law_order zCa:=by
  unfold zCa;exact zAL (n:=2) T.d_law_order.F zEK rfl (fun cdv A outer s H E hr=>by
    unfold zE4;exact (zL (zAr (i:=2) zEK.nd rfl (zDC zK))
    (zL (zD1 zBS zXf rfl (zAP rfl T.z_range (zG (zI (zE (pv 1))) zK (zC rfl)) (zF zM) (zAd rfl)) (zu (i:=3) zEK.nd rfl) (zY (zET (zRB (zE (pv 2)) (zG (zI (zAT (zAD T) (hr.mono (by omega)) rfl (zG (zI (zE (pv 0))) (zG (zI (zBZ (zE (pv 3)) zX)) zK (zC rfl)) (zC rfl)) (zF (zF zM)) (by decide) (zC rfl) (zP rfl))) (zG (zI (zE (pv 3))) zK (zC rfl)) (zC rfl))))))
    (zY (zx (zE (pv 2)))))))
abbrev zG1:List Str:=["_law_state", "_law_rooms_here", "_law_found", "_law_room"]
theorem zEC:FnScope zG1 ["_law_state", "_law_rooms_here"] (zN zDT):=⟨rfl,rfl,rfl,by decide +kernel,rfl,by decide +kernel,by decide +kernel⟩
theorem zJv (T:Txt K mg):Od P w base 2 T.d_law_rooms zCe:=by
  unfold zCe;exact zAL (n:=2) T.d_law_rooms.F zEC rfl (fun cdv A outer s H E hr=>by
    unfold zE9;exact (zL (zDn (zC6 hr.units0 (zAT (zAD T) (hr.mono (by omega)) rfl (zG (zI (zE (pv 0))) (zG (zI zX) zK (zC rfl)) (zC rfl)) (zF (zF zM)) (by decide) (zC rfl) (zP rfl)) zX) (zY (zx (zP9 rfl rfl T.z_tuple rfl T.z_range (zE (pv 1)) (zC rfl) rfl (zC rfl) rfl))) zA3)
    (zL (zAr (i:=2) zEC.nd rfl (zCS rfl T.z_tuple (zf (zBV (zj (i:=3) (by decide)) (zi (sc:=zN zDT) (N:=zG1) rfl rfl rfl (by decide +kernel) (by decide +kernel)) rfl (zAP rfl T.z_range (zG (zI (zE (pv 1))) zK (zC rfl)) (zF zM) (zAd rfl)) ⟨fun _ _ _ _ _=>(zu (i:=3) zEC.nd rfl),fun _ _ _ _ _=>(zFq (zC6 hr.units0 (zAT (zAD T) (hr.mono (by omega)) rfl (zG (zI (zE (pv 0))) (zG (zI zX) zK (zC rfl)) (zC rfl)) (zF (zF zM)) (by decide) (zC rfl) (zP rfl)) zX)),fun _ _ _ _ _=>(zE (pv 3))⟩) zq (zC rfl)) (zC rfl) rfl))
    (zL (zDn (zR9 hr.units0 (zE (pv 2)) (zCH zK)) (zY (zx (zCH (zG (zI (zAT (zAD T) (hr.mono (by omega)) rfl (zG (zI (zE (pv 0))) (zG (zI (zE (pv 1))) zK (zC rfl)) (zC rfl)) (zF (zF zM)) (by decide) (zC rfl) (zP rfl))) zK (zC rfl))))) zA3)
    (zY (zx (zE (pv 2))))))))
abbrev zEG:List Str:=["_law_machine_here", "_law_told", "_law_letter", "_law_step", "_law_room"]
theorem zCO:FnScope zEG ["_law_machine_here", "_law_told"] (zN zCF):=⟨rfl,rfl,rfl,by decide +kernel,rfl,by decide +kernel,by decide +kernel⟩
theorem zIu (T:Txt K mg):Od P w base 2 T.d_law_formed zCE:=by
  unfold zCE;exact zDa (zAL (n:=2) T.d_law_formed.F zCO rfl (fun cdv A outer s H E hr=>by
    unfold zEJ;exact (zL (zDn (zH2 (zGG (zDh (zDk (zHh T.kinds (by decide) rfl T.z_isinstance rfl T.z_tuple (by rfl) (by decide) (by decide) (zE (pv 1)) (zC rfl) (zC rfl) (zP rfl)))) (zFr (zJY hr.units0 (zC9 rfl T.z_len (zf (zE (pv 1)) zq (zC rfl)) (zC rfl) rfl) zX)))) (zY (zx zKT)) zA3)
    (zL (zDn (zH2 (zGG (zDh (zDk (zHh T.kinds (by decide) rfl T.z_isinstance rfl T.z_tuple (by rfl) (by decide) (by decide) (zAg (zE (pv 1)) zX) (zC rfl) (zC rfl) (zP rfl)))) (zFr (zDh (zDk (zHh T.kinds (by decide) rfl T.z_isinstance rfl T.z_tuple (by rfl) (by decide) (by decide) (zAg (zE (pv 1)) zX) (zC rfl) (zC rfl) (zP rfl))))))) (zY (zx zKT)) zA3)
    (zL (zDn (zDh (zDk (zTF rfl rfl T.z_all (zf (zBV (zj (i:=2) (by decide)) (zi (sc:=zN zCF) (N:=zEG) rfl rfl rfl (by decide +kernel) (by decide +kernel)) rfl (zAq (zAg (zE (pv 1)) zX)) ⟨fun _ _ _ _ _=>(zu (i:=2) zCO.nd rfl),fun _ _ _ _ _=>zA4,fun _ _ _ _ _=>(zMg (zAT (zEH T) (hr.mono (by omega)) rfl (zG (zI (zE (pv 2))) zK (zC rfl)) (zF zM) (by decide) (zC rfl) (zP rfl)) (zMs (zRn (zFo fun _ _ _ _=>zBQ) (zFo fun _ _ _ _=>zBQ) zU9 zTQ zX (zE (pv 2)) (zC9 rfl T.z_len (zf (zAg (zE (pv 0)) zX) zq (zC rfl)) (zC rfl) rfl))))⟩) zq (zC rfl)) (zC rfl) rfl))) (zY (zx zKT)) zA3)
    (zL (zD1 zBS zXf rfl (zAq (zAg (zE (pv 1)) zX)) (zu (i:=3) zCO.nd rfl) (zL (zDn (zH2 (zGG (zDh (zDk (zHh T.kinds (by decide) rfl T.z_isinstance rfl T.z_tuple (by rfl) (by decide) (by decide) (zE (pv 3)) (zC rfl) (zC rfl) (zP rfl)))) (zGG (zJY hr.units0 (zC9 rfl T.z_len (zf (zE (pv 3)) zq (zC rfl)) (zC rfl) rfl) zX) (zFr (zDh (zDk (zAT (zEH T) (hr.mono (by omega)) rfl (zG (zI (zAg (zE (pv 3)) zX)) zK (zC rfl)) (zF zM) (by decide) (zC rfl) (zP rfl)))))))) (zY (zx zKT)) zA3)
    (zY (zDn (zH2 (zGG (zDh (zDk (zHh T.kinds (by decide) rfl T.z_isinstance rfl T.z_tuple (by rfl) (by decide) (by decide) (zAg (zE (pv 3)) zX) (zC rfl) (zC rfl) (zP rfl)))) (zGG (zJY hr.units0 (zC9 rfl T.z_len (zf (zAg (zE (pv 3)) zX) zq (zC rfl)) (zC rfl) rfl) zX) (zFr (zDh (zDk (zTF rfl rfl T.z_all (zf (zBV (zj (i:=4) (by decide)) (zi (sc:=zN zCF) (N:=zEG) rfl rfl rfl (by decide +kernel) (by decide +kernel)) rfl (zAq (zAg (zE (pv 3)) zX)) ⟨fun _ _ _ _ _=>(zu (i:=4) zCO.nd rfl),fun _ _ _ _ _=>zA4,fun _ _ _ _ _=>(zAT (zEH T) (hr.mono (by omega)) rfl (zG (zI (zE (pv 4))) zK (zC rfl)) (zF zM) (by decide) (zC rfl) (zP rfl))⟩) zq (zC rfl)) (zC rfl) rfl))))))) (zY (zx zKT)) zA3))))
    (zY (zx zKT))))))))
abbrev zLw:List Str:=["_law_machine_here", "_law_rungs", "_law_pair", "_law_piece_here", "_law_letter"]
theorem zCn:FnScope zLw ["_law_machine_here", "_law_rungs", "_law_pair"] (zN zE5):=⟨rfl,rfl,rfl,by decide +kernel,rfl,by decide +kernel,by decide +kernel⟩
theorem zKF (T:Txt K mg):Od P w base 2 T.d_law_piece zCW:=by
  unfold zCW;exact zHS (zAL (n:=3) T.d_law_piece.F zCn rfl (fun cdv A outer s H E hr=>by
    unfold zEx;exact (zL (zAr (i:=3) zCn.nd rfl (zDC zK))
    (zL (zGN 1000 zXf (zTG (zAg (zE (pv 2)) zX) (zAg (zE (pv 2)) zX)) (zL (zAr (i:=4) zCn.nd rfl (zAg (zEM (zBi hr) (zE (pv 1)) (zE (pv 2))) zX))
    (zL (zET (zDz (zE (pv 3)) (zG (zI (zE (pv 4))) zK (zC rfl))))
    (zY (zAr (i:=2) zCn.nd rfl (zAT (zIs T) (hr.mono (by omega)) rfl (zG (zI (zE (pv 0))) (zG (zI (zE (pv 2))) (zG (zI (zE (pv 4))) zK (zC rfl)) (zC rfl)) (zC rfl)) (zF (zF (zF zM))) (by decide) (zC rfl) (zP rfl)))))))
    (zY (zx (zCS rfl T.z_tuple (zf (zE (pv 3)) zq (zC rfl)) (zC rfl) rfl)))))))
abbrev zFg:List Str:=["_law_rungs", "_law_rooms_here", "_law_near", "_law_pair"]
theorem zC7:FnScope zFg ["_law_rungs", "_law_rooms_here"] (zN zCT):=⟨rfl,rfl,rfl,by decide +kernel,rfl,by decide +kernel,by decide +kernel⟩
theorem zEh (T:Txt K mg):Od P w base 2 T.d_law_nearest zBK:=by
  unfold zBK;exact zHS (zAL (n:=2) T.d_law_nearest.F zC7 rfl (fun cdv A outer s H E hr=>by
    unfold zDf;exact (zL (zCx (i:=2) zC7.nd rfl (by first | exact Or.inl rfl | exact Or.inr rfl) (by first | exact .inl rfl | exact .inr rfl) rfl (zj (i:=3) (by decide)) (zi (sc:=zN zCT) (N:=zFg) rfl rfl rfl (by decide +kernel) (by decide +kernel)) rfl (zAq (zAT (zKi T) (hr.mono (by omega)) rfl (zG (zI (zP1 rfl T.z_list (zf (zE (pv 1)) zq (zC rfl)) (zC rfl) rfl)) zK (zC rfl)) (zF zM) (by decide) (zC rfl) (zP rfl))) ⟨fun _ _ _ _ _=>(zu (i:=3) zC7.nd rfl),fun _ _ _ _ _=>(zFq (zJl (zBi hr) (zE (pv 3)) (zE (pv 0)))),fun _ _ _ _ _=>(zCH (zG (zI (zAg (zEM (zBi hr) (zE (pv 0)) (zE (pv 3))) zX)) (zG (zI (zE (pv 3))) zK (zC rfl)) (zC rfl)))⟩)
    (zL (zDn (zC6 hr.units0 (zE (pv 2)) (zDC zK)) (zY (zx zNg)) zA3)
    (zY (zx (zAg (zQ7 rfl (zKu 3 (by decide) hr) rfl T.z_min (zf (zE (pv 2)) zq (zC rfl)) (zC rfl) rfl) zX)))))))
abbrev zN3:List Str:=["machine", "rooms", "word"]
theorem zMm:FnScope zN3 ["machine", "rooms", "word"] (zN zGh):=⟨rfl,rfl,rfl,by decide +kernel,rfl,by decide +kernel,by decide +kernel⟩
theorem zNJ (T:Txt K mg):Od P w base 3 T.d_brought zD0:=by
  unfold zD0;exact zDa (zAL (n:=3) T.d_brought.F zMm rfl (fun cdv A outer s H E hr=>by
    unfold zGg;exact (zY (zx (zAg (zAT (zOz T) (hr.mono (by omega)) rfl (zG (zI (zE (pv 0))) (zG (zI (zE (pv 1))) (zG (zI (zE (pv 2))) zK (zC rfl)) (zC rfl)) (zC rfl)) (zF (zF (zF zM))) (by decide) (zC rfl) (zP rfl)) (zTT zX))))))
abbrev zF9:List Str:=["machine", "goals", "sources", "level", "found", "goal", "behind", "pair"]
theorem zAX:FnScope zF9 ["machine", "goals"] (zN zCt):=⟨rfl,rfl,rfl,by decide +kernel,rfl,by decide +kernel,by decide +kernel⟩
theorem zIm (T:Txt K mg):Od P w base 3 T.d_lengths_to zB3:=by
  unfold zB3;exact zAL (n:=2) T.d_lengths_to.F zAX rfl (fun cdv A outer s H E hr=>by
    unfold zD7;exact (zL (zAr (i:=2) zAX.nd rfl (zAT (zKY T) (hr.mono (by omega)) rfl (zG (zI (zE (pv 0))) zK (zC rfl)) (zF zM) (by decide) (zC rfl) (zP rfl)))
    (zL (zAr (i:=3) zAX.nd rfl (zE (pv 1)))
    (zL (zM4 (i:=4) (isT:=true) zAX.nd rfl (by first | exact Or.inl rfl | exact Or.inr rfl) (by first | exact .inl rfl | exact .inr rfl) rfl (zBi hr) (zj (i:=5) (by decide)) (zi (sc:=zN zCt) (N:=zF9) rfl rfl rfl (by decide +kernel) (by decide +kernel)) rfl (zAq (zE (pv 1))) ⟨fun _ _ _ _ _=>(zu (i:=5) zAX.nd rfl),fun _ _ _ _ _=>zA4,fun _ _ _ _ _=>(zE (pv 5))⟩ (fun _ _ _ _ _=>zX))
    (zL (zGN 1000 zXf (zNd (zE (pv 3))) (zL (zAr (i:=6) zAX.nd rfl (zDC zK))
    (zL (zD1 zBS zXf rfl (zAq (zE (pv 3))) (zu (i:=5) zAX.nd rfl) (zY (zD1 zBS zXf rfl (zAq (zNN (zBi hr) (zE (pv 2)) (zE (pv 5)) (zDC zK) ⟨rfl,rfl,rfl,rfl⟩)) (zu (i:=7) zAX.nd rfl) (zY (zDn (zIz (zBi hr) (zE (pv 7)) (zE (pv 4))) (zL (zMl (zBi hr) (zBZ (zEM (zBi hr) (zE (pv 4)) (zE (pv 5))) zX) (zE (pv 4)) (zE (pv 7)))
    (zY (zET (zDz (zE (pv 6)) (zG (zI (zE (pv 7))) zK (zC rfl)))))) zA3)))))
    (zY (zAr (i:=3) zAX.nd rfl (zE (pv 6)))))))
    (zY (zx (zE (pv 4)))))))))
abbrev zFz:List Str:=["machine", "found", "pairs", "pair"]
theorem zDO:FnScope zFz ["machine", "found"] (zN zDD):=⟨rfl,rfl,rfl,by decide +kernel,rfl,by decide +kernel,by decide +kernel⟩
theorem zK5 (T:Txt K mg):Od P w base 3 T.d_rungs_to zCJ:=by
  unfold zCJ;exact zAL (n:=2) T.d_rungs_to.F zDO rfl (fun cdv A outer s H E hr=>by
    unfold zFm;exact (zL (zCx (i:=2) zDO.nd rfl (by first | exact Or.inl rfl | exact Or.inr rfl) (by first | exact .inl rfl | exact .inr rfl) rfl (zj (i:=3) (by decide)) (zi (sc:=zN zDD) (N:=zFz) rfl rfl rfl (by decide +kernel) (by decide +kernel)) rfl (zAq (zAT (zEu T) (hr.mono (by omega)) rfl (zG (zI (zAT (zGK T) (hr.mono (by omega)) rfl (zG (zI (zE (pv 0))) zK (zC rfl)) (zF zM) (by decide) (zC rfl) (zP rfl))) zK (zC rfl)) (zF zM) (by decide) (zC rfl) (zP rfl))) ⟨fun _ _ _ _ _=>(zu (i:=3) zDO.nd rfl),fun _ _ _ _ _=>(zFq (zVV (zNN (zBi hr) (zE (pv 1)) (zE (pv 3)) zX ⟨rfl,rfl,rfl,rfl⟩) zX)),fun _ _ _ _ _=>(zE (pv 3))⟩)
    (zY (zx (zSM (isT:=true) (zBi hr) (zj (i:=3) (by decide)) (zi (sc:=zN zDD) (N:=zFz) rfl rfl rfl (by decide +kernel) (by decide +kernel)) rfl (zAq (zE (pv 2))) ⟨fun _ _ _ _ _=>(zu (i:=3) zDO.nd rfl),fun _ _ _ _ _=>zA4,fun _ _ _ _ _=>(zE (pv 3))⟩ (fun _ _ _ _ _=>(zCH (zG (zI (zEM (zBi hr) (zE (pv 1)) (zE (pv 3)))) (zG (zI (zAT (zHG T) (hr.mono (by omega)) rfl (zG (zI (zE (pv 0))) (zG (zI (zE (pv 3))) (zG (zI (zE (pv 1))) zK (zC rfl)) (zC rfl)) (zC rfl)) (zF (zF (zF zM))) (by decide) (zC rfl) (zP rfl))) zK (zC rfl)) (zC rfl)))))))))
abbrev zAy:List Str:=["_law_state", "_law_family", "_law_rooms_here", "_law_letter", "_law_room", "_law_half", "_law_ahead", "_law_far", "_law_order_here", "_law_goal"]
theorem zr:FnScope zAy ["_law_state", "_law_family", "_law_rooms_here", "_law_letter"] (zN zAV):=⟨rfl,rfl,rfl,by decide +kernel,rfl,by decide +kernel,by decide +kernel⟩
theorem zIr (T:Txt K mg):Od P w base 3 T.d_law_column zCA:=by
  unfold zCA;exact zAL (n:=4) T.d_law_column.F zr rfl (fun cdv A outer s H E hr=>by
    unfold zEO;exact (zL (zDn (zC6 hr.units0 (zE (pv 1)) zX) (zY (zx (zBV (zj (i:=4) (by decide)) (zi (sc:=zN zAV) (N:=zAy) rfl rfl rfl (by decide +kernel) (by decide +kernel)) rfl (zAP rfl T.z_range (zG (zI (zE (pv 2))) zK (zC rfl)) (zF zM) (zAd rfl)) ⟨fun _ _ _ _ _=>(zu (i:=4) zr.nd rfl),fun _ _ _ _ _=>zA4,fun _ _ _ _ _=>(zAT (zAD T) (hr.mono (by omega)) rfl (zG (zI (zE (pv 0))) (zG (zI (zE (pv 2))) zK (zC rfl)) (zC rfl)) (zF (zF zM)) (by decide) (zC rfl) (zP rfl))⟩))) zA3)
    (zL (zDn (zC6 hr.units0 (zE (pv 1)) zX) (zY (zx (zBV (zj (i:=4) (by decide)) (zi (sc:=zN zAV) (N:=zAy) rfl rfl rfl (by decide +kernel) (by decide +kernel)) rfl (zAP rfl T.z_range (zG (zI (zE (pv 2))) zK (zC rfl)) (zF zM) (zAd rfl)) ⟨fun _ _ _ _ _=>(zu (i:=4) zr.nd rfl),fun _ _ _ _ _=>zA4,fun _ _ _ _ _=>(zGH (zBZ (zE (pv 4)) (zAT (zAD T) (hr.mono (by omega)) rfl (zG (zI (zE (pv 0))) (zG (zI zX) zK (zC rfl)) (zC rfl)) (zF (zF zM)) (by decide) (zC rfl) (zP rfl))) (zE (pv 2)))⟩))) zA3)
    (zL (zDn (zC6 hr.units0 (zE (pv 1)) zX) (zL (zAr (i:=5) zr.nd rfl (zPe (zBZ (zE (pv 2)) zX) zX))
    (zL (zCx (i:=6) zr.nd rfl (by first | exact Or.inl rfl | exact Or.inr rfl) (by first | exact .inl rfl | exact .inr rfl) rfl (zj (i:=4) (by decide)) (zi (sc:=zN zAV) (N:=zAy) rfl rfl rfl (by decide +kernel) (by decide +kernel)) rfl (zAP rfl T.z_range (zG (zI (zE (pv 5))) zK (zC rfl)) (zF zM) (zAd rfl)) ⟨fun _ _ _ _ _=>(zu (i:=4) zr.nd rfl),fun _ _ _ _ _=>zA4,fun _ _ _ _ _=>(zAT (zAD T) (hr.mono (by omega)) rfl (zG (zI (zE (pv 0))) (zG (zI (zE (pv 5))) zK (zC rfl)) (zC rfl)) (zF (zF zM)) (by decide) (zC rfl) (zP rfl))⟩)
    (zY (zx (zUX (zE (pv 6)) (zBV (zj (i:=4) (by decide)) (zi (sc:=zN zAV) (N:=zAy) rfl rfl rfl (by decide +kernel) (by decide +kernel)) rfl (zAP rfl T.z_range (zG (zI (zNa (zE (pv 2)) (zE (pv 5)))) zK (zC rfl)) (zF zM) (zAd rfl)) ⟨fun _ _ _ _ _=>(zu (i:=4) zr.nd rfl),fun _ _ _ _ _=>zA4,fun _ _ _ _ _=>(zBZ (zE (pv 5)) (zAT (zAD T) (hr.mono (by omega)) rfl (zG (zI (zE (pv 0))) (zG (zI (zNa (zE (pv 2)) (zE (pv 5)))) zK (zC rfl)) (zC rfl)) (zF (zF zM)) (by decide) (zC rfl) (zP rfl)))⟩)))))) zA3)
    (zL (zDn (zH2 (zJ0 (zC6 hr.units0 (zE (pv 1)) zX) (zHU (zC6 hr.units0 (zE (pv 3)) zX)))) (zY (zx (zBV (zj (i:=4) (by decide)) (zi (sc:=zN zAV) (N:=zAy) rfl rfl rfl (by decide +kernel) (by decide +kernel)) rfl (zAP rfl T.z_range (zG (zI (zE (pv 2))) zK (zC rfl)) (zF zM) (zAd rfl)) ⟨fun _ _ _ _ _=>(zu (i:=4) zr.nd rfl),fun _ _ _ _ _=>zA4,fun _ _ _ _ _=>(zGH (zBZ (zE (pv 4)) zX) (zE (pv 2)))⟩))) zA3)
    (zL (zDn (zC6 hr.units0 (zE (pv 1)) zX) (zY (zx (zBV (zj (i:=4) (by decide)) (zi (sc:=zN zAV) (N:=zAy) rfl rfl rfl (by decide +kernel) (by decide +kernel)) rfl (zAP rfl T.z_range (zG (zI (zE (pv 2))) zK (zC rfl)) (zF zM) (zAd rfl)) ⟨fun _ _ _ _ _=>(zu (i:=4) zr.nd rfl),fun _ _ _ _ _=>zA4,fun _ _ _ _ _=>(zAg (zDC (zG (zI (zE (pv 4))) (zG (zI zX) zK (zC rfl)) (zC rfl))) (zQT rfl T.z_int (zf (zUd hr.units0 (zE (pv 4)) (zNa (zE (pv 2)) zX)) zq (zC rfl)) (zC rfl) rfl))⟩))) zA3)
    (zL (zDn (zH2 (zGG (zC6 hr.units0 (zE (pv 1)) zX) (zFr (zC6 hr.units0 (zE (pv 1)) zX)))) (zL (zAr (i:=7) zr.nd rfl (zAT (zAD T) (hr.mono (by omega)) rfl (zG (zI (zE (pv 0))) (zG (zI (zE (pv 2))) zK (zC rfl)) (zC rfl)) (zF (zF zM)) (by decide) (zC rfl) (zP rfl)))
    (zY (zx (zBV (zj (i:=4) (by decide)) (zi (sc:=zN zAV) (N:=zAy) rfl rfl rfl (by decide +kernel) (by decide +kernel)) rfl (zAP rfl T.z_range (zG (zI (zE (pv 2))) zK (zC rfl)) (zF zM) (zAd rfl)) ⟨fun _ _ _ _ _=>(zu (i:=4) zr.nd rfl),fun _ _ _ _ _=>zA4,fun _ _ _ _ _=>(zAg (zDC (zG (zI (zGH (zBZ (zE (pv 4)) (zE (pv 7))) (zE (pv 2)))) (zG (zI (zE (pv 7))) zK (zC rfl)) (zC rfl))) (zQT rfl T.z_int (zf (zUd hr.units0 (zE (pv 1)) zX) zq (zC rfl)) (zC rfl) rfl))⟩)))) zA3)
    (zL (zAr (i:=8) zr.nd rfl (zAT (zJ2 T) (hr.mono (by omega)) rfl (zG (zI (zE (pv 0))) (zG (zI (zE (pv 2))) zK (zC rfl)) (zC rfl)) (zF (zF zM)) (by decide) (zC rfl) (zP rfl)))
    (zL (zDn (zH2 (zJ0 (zC6 hr.units0 (zE (pv 1)) zX) (zHU (zC6 hr.units0 (zE (pv 3)) zX)))) (zL (zAr (i:=9) zr.nd rfl (zAg (zE (pv 8)) (zAT (zAD T) (hr.mono (by omega)) rfl (zG (zI (zE (pv 0))) (zG (zI (zE (pv 2))) zK (zC rfl)) (zC rfl)) (zF (zF zM)) (by decide) (zC rfl) (zP rfl))))
    (zY (zIU (zE (pv 9)) (zE (pv 8)) (zAT (zAD T) (hr.mono (by omega)) rfl (zG (zI (zE (pv 0))) (zG (zI (zE (pv 2))) zK (zC rfl)) (zC rfl)) (zF (zF zM)) (by decide) (zC rfl) (zP rfl))))) zA3)
    (zY (zx (zE (pv 8)))))))))))))
abbrev zKs:List Str:=["_law_machine_here", "_law_rungs", "_law_rooms_here", "_law_told", "_law_word", "_law_steps", "_law_at", "_law_pair", "_law_size", "_law_piece_here"]
theorem zAU:FnScope zKs ["_law_machine_here", "_law_rungs", "_law_rooms_here", "_law_told"] (zN zES):=⟨rfl,rfl,rfl,by decide +kernel,rfl,by decide +kernel,by decide +kernel⟩
theorem zIx (T:Txt K mg):Od P w base 3 T.d_law_walked zB9:=by
  unfold zB9;exact zHS (zAL (n:=4) T.d_law_walked.F zAU rfl (fun cdv A outer s H E hr=>by
    unfold zEL;exact (zL (zUq zLC (zE (pv 3)) (zGY rfl (zA9 (zu (i:=4) zAU.nd rfl) (zA9 (zu (i:=5) zAU.nd rfl) zFM))))
    (zL (zAr (i:=6) zAU.nd rfl zX)
    (zL (zD1 zLC zXf rfl (zAq (zE (pv 5))) (zGY rfl (zA9 (zu (i:=7) zAU.nd rfl) (zA9 (zu (i:=8) zAU.nd rfl) zFM))) (zL (zDn (zNq 0 (zKu 0 (by decide) hr) (zAT (zEh T) (hr.mono (by omega)) rfl (zG (zI (zE (pv 1))) (zG (zI (zE (pv 2))) zK (zC rfl)) (zC rfl)) (zF (zF zM)) (by decide) (zC rfl) (zP rfl)) (zE (pv 7))) (zY (zx zKT)) zA3)
    (zL (zAr (i:=9) zAU.nd rfl (zAT (zKF T) (hr.mono (by omega)) rfl (zG (zI (zE (pv 0))) (zG (zI (zE (pv 1))) (zG (zI (zE (pv 7))) zK (zC rfl)) (zC rfl)) (zC rfl)) (zF (zF (zF zM))) (by decide) (zC rfl) (zP rfl)))
    (zL (zDn (zH2 (zGG (zJY hr.units0 (zE (pv 8)) (zBZ (zE (pv 6)) (zC9 rfl T.z_len (zf (zE (pv 9)) zq (zC rfl)) (zC rfl) rfl))) (zFr (zNq 0 (zKu 0 (by decide) hr) (zGM (zE (pv 4)) (zFV (zE (pv 6))) (zFV (zE (pv 8)))) (zE (pv 9)))))) (zY (zx zKT)) zA3)
    (zL (zAr (i:=2) zAU.nd rfl (zAT (zIg T) (hr.mono (by omega)) rfl (zG (zI (zE (pv 0))) (zG (zI (zE (pv 2))) (zG (zI (zE (pv 9))) zK (zC rfl)) (zC rfl)) (zC rfl)) (zF (zF (zF zM))) (by decide) (zC rfl) (zP rfl)))
    (zY (zAr (i:=6) zAU.nd rfl (zE (pv 8)))))))))
    (zY (zx (zMg (zUd hr.units0 (zE (pv 6)) (zC9 rfl T.z_len (zf (zE (pv 4)) zq (zC rfl)) (zC rfl) rfl)) (zMs (zVk (zAT (zEh T) (hr.mono (by omega)) rfl (zG (zI (zE (pv 1))) (zG (zI (zE (pv 2))) zK (zC rfl)) (zC rfl)) (zF (zF zM)) (by decide) (zC rfl) (zP rfl)) zNg))))))))))
abbrev zI4:List Str:=["machine", "room"]
theorem zHc:FnScope zI4 ["machine"] (zN zFJ):=⟨rfl,rfl,rfl,by decide +kernel,rfl,by decide +kernel,by decide +kernel⟩
theorem zNH (T:Txt K mg):Od P w base 4 T.d_lengths zCw:=by
  unfold zCw;exact zAL (n:=1) T.d_lengths.F zHc rfl (fun cdv A outer s H E hr=>by
    unfold zGb;exact (zY (zx (zAT (zIm T) (hr.mono (by omega)) rfl (zG (zI (zE (pv 0))) (zG (zI (zBV (zj (i:=1) (by decide)) (zi (sc:=zN zFJ) (N:=zI4) rfl rfl rfl (by decide +kernel) (by decide +kernel)) rfl (zAP rfl T.z_range (zG (zI (zC9 rfl T.z_len (zf (zE (pv 0)) zq (zC rfl)) (zC rfl) rfl)) zK (zC rfl)) (zF zM) (zAd rfl)) ⟨fun _ _ _ _ _=>(zu (i:=1) zHc.nd rfl),fun _ _ _ _ _=>zA4,fun _ _ _ _ _=>(zCH (zG (zI (zE (pv 1))) zK (zC rfl)))⟩)) zK (zC rfl)) (zC rfl)) (zF (zF zM)) (by decide) (zC rfl) (zP rfl)))))
abbrev zCU:List Str:=["_law_state", "_law_rooms_here", "_law_letters", "_law_family", "_law_columns", "_law_letter", "_law_column_here", "_law_room"]
theorem zBA:FnScope zCU ["_law_state", "_law_rooms_here", "_law_letters"] (zN zBo):=⟨rfl,rfl,rfl,by decide +kernel,rfl,by decide +kernel,by decide +kernel⟩
theorem zIa (T:Txt K mg):Od P w base 4 T.d_law_machine zBJ:=by
  unfold zBJ;exact zHS (zAL (n:=3) T.d_law_machine.F zBA rfl (fun cdv A outer s H E hr=>by
    unfold zDe;exact (zL (zAr (i:=3) zBA.nd rfl (zAT (zAD T) (hr.mono (by omega)) rfl (zG (zI (zE (pv 0))) (zG (zI zX) zK (zC rfl)) (zC rfl)) (zF (zF zM)) (by decide) (zC rfl) (zP rfl)))
    (zL (zAr (i:=4) zBA.nd rfl (zBV (zj (i:=5) (by decide)) (zi (sc:=zN zBo) (N:=zCU) rfl rfl rfl (by decide +kernel) (by decide +kernel)) rfl (zAP rfl T.z_range (zG (zI (zE (pv 2))) zK (zC rfl)) (zF zM) (zAd rfl)) ⟨fun _ _ _ _ _=>(zu (i:=5) zBA.nd rfl),fun _ _ _ _ _=>zA4,fun _ _ _ _ _=>(zAT (zIr T) (hr.mono (by omega)) rfl (zG (zI (zE (pv 0))) (zG (zI (zE (pv 3))) (zG (zI (zE (pv 1))) (zG (zI (zE (pv 5))) zK (zC rfl)) (zC rfl)) (zC rfl)) (zC rfl)) (zF (zF (zF (zF zM)))) (by decide) (zC rfl) (zP rfl))⟩))
    (zY (zx (zCS rfl T.z_tuple (zf (zBV (zj (i:=7) (by decide)) (zi (sc:=zN zBo) (N:=zCU) rfl rfl rfl (by decide +kernel) (by decide +kernel)) rfl (zAP rfl T.z_range (zG (zI (zE (pv 1))) zK (zC rfl)) (zF zM) (zAd rfl)) ⟨fun _ _ _ _ _=>(zu (i:=7) zBA.nd rfl),fun _ _ _ _ _=>zA4,fun _ _ _ _ _=>(zCS rfl T.z_tuple (zf (zBV (zj (i:=6) (by decide)) (zi (N:=zCU) rfl rfl rfl (by rfl) (by decide +kernel)) rfl (zAq (zE (pv 4))) ⟨fun _ _ _ _ _=>(zu (i:=6) zBA.nd rfl),fun _ _ _ _ _=>zA4,fun _ _ _ _ _=>(zAg (zE (pv 6)) (zE (pv 7)))⟩) zq (zC rfl)) (zC rfl) rfl)⟩) zq (zC rfl)) (zC rfl) rfl)))))))
abbrev zS8:List Str:=["machine"]
theorem zQc:FnScope zS8 ["machine"] (zN zJm):=⟨rfl,rfl,rfl,by decide +kernel,rfl,by decide +kernel,by decide +kernel⟩
theorem zMB (T:Txt K mg):Od P w base 5 T.d_rungs zFK:=by
  unfold zFK;exact zAL (n:=1) T.d_rungs.F zQc rfl (fun cdv A outer s H E hr=>by
    unfold zJ5;exact (zY (zx (zAT (zK5 T) (hr.mono (by omega)) rfl (zG (zI (zE (pv 0))) (zG (zI (zAT (zNH T) (hr.mono (by omega)) rfl (zG (zI (zE (pv 0))) zK (zC rfl)) (zF zM) (by decide) (zC rfl) (zP rfl))) zK (zC rfl)) (zC rfl)) (zF (zF zM)) (by decide) (zC rfl) (zP rfl)))))
abbrev zLS:List Str:=["machine", "pair", "many", "letter"]
theorem zFR:FnScope zLS ["machine"] (zN zGV):=⟨rfl,rfl,rfl,by decide +kernel,rfl,by decide +kernel,by decide +kernel⟩
theorem zOi (T:Txt K mg):Od P w base 6 T.d_ladder zEs:=by
  unfold zEs;exact zDa (zAL (n:=1) T.d_ladder.F zFR rfl (fun cdv A outer s H E hr=>by
    unfold zH5;exact (zY (zx (zCS rfl T.z_tuple (zf (zBV (zOl (i:=1) (j:=2) (k:=3) (by decide) (by decide) (by decide)) (zi (sc:=zN zGV) (N:=zLS) rfl rfl rfl (by decide +kernel) (by decide +kernel)) rfl (zPi (zAT (zMB T) (hr.mono (by omega)) rfl (zG (zI (zE (pv 0))) zK (zC rfl)) (zF zM) (by decide) (zC rfl) (zP rfl))) ⟨fun _ _ _ _ _=>(zGY rfl (zA9 (zu (i:=1) zFR.nd rfl) (zA9 (zGY rfl (zA9 (zu (i:=2) zFR.nd rfl) (zA9 (zu (i:=3) zFR.nd rfl) zFM))) zFM))),fun _ _ _ _ _=>zA4,fun _ _ _ _ _=>(zCH (zG (zI (zE (pv 1))) (zG (zI (zE (pv 2))) (zG (zI (zE (pv 3))) zK (zC rfl)) (zC rfl)) (zC rfl)))⟩) zq (zC rfl)) (zC rfl) rfl)))))
abbrev zS1:List Str:=["machine", "rooms", "ways", "here", "word", "steps", "pair", "part"]
theorem zBq:FnScope zS1 ["machine", "rooms"] (zN zKe):=⟨rfl,rfl,rfl,by decide +kernel,rfl,by decide +kernel,by decide +kernel⟩
theorem zLu (T:Txt K mg):Od P w base 6 T.d_quick zFT:=by
  unfold zFT;exact zDa (zAL (n:=2) T.d_quick.F zBq rfl (fun cdv A outer s H E hr=>by
    unfold zKo;exact (zL (zAr (i:=2) zBq.nd rfl (zAT (zMB T) (hr.mono (by omega)) rfl (zG (zI (zE (pv 0))) zK (zC rfl)) (zF zM) (by decide) (zC rfl) (zP rfl)))
    (zL (zAr (i:=3) zBq.nd rfl (zE (pv 1)))
    (zL (zAr (i:=4) zBq.nd rfl (zCH zK))
    (zL (zAr (i:=5) zBq.nd rfl (zDC zK))
    (zL (zAr (i:=6) zBq.nd rfl (zAT (zIO T) (hr.mono (by omega)) rfl (zG (zI (zE (pv 2))) (zG (zI (zE (pv 3))) zK (zC rfl)) (zC rfl)) (zF (zF zM)) (by decide) (zC rfl) (zP rfl)))
    (zL (zGN 100 zXf (zRg (zE (pv 6)) zNg) (zL (zAr (i:=7) zBq.nd rfl (zAT (zND T) (hr.mono (by omega)) rfl (zG (zI (zE (pv 0))) (zG (zI (zE (pv 2))) (zG (zI (zE (pv 6))) zK (zC rfl)) (zC rfl)) (zC rfl)) (zF (zF (zF zM))) (by decide) (zC rfl) (zP rfl)))
    (zL (zAr (i:=3) zBq.nd rfl (zAT (zNJ T) (hr.mono (by omega)) rfl (zG (zI (zE (pv 0))) (zG (zI (zE (pv 3))) (zG (zI (zE (pv 7))) zK (zC rfl)) (zC rfl)) (zC rfl)) (zF (zF (zF zM))) (by decide) (zC rfl) (zP rfl)))
    (zL (zAr (i:=4) zBq.nd rfl (zBZ (zE (pv 4)) (zE (pv 7))))
    (zL (zET (zDz (zE (pv 5)) (zG (zI (zCH (zG (zI (zE (pv 6))) (zG (zI (zC9 rfl T.z_len (zf (zE (pv 4)) zq (zC rfl)) (zC rfl) rfl)) zK (zC rfl)) (zC rfl)))) zK (zC rfl))))
    (zY (zAr (i:=6) zBq.nd rfl (zAT (zIO T) (hr.mono (by omega)) rfl (zG (zI (zE (pv 2))) (zG (zI (zE (pv 3))) zK (zC rfl)) (zC rfl)) (zF (zF zM)) (by decide) (zC rfl) (zP rfl)))))))))
    (zY (zx (zCH (zG (zI (zE (pv 4))) (zG (zI (zCS rfl T.z_tuple (zf (zE (pv 5)) zq (zC rfl)) (zC rfl) rfl)) zK (zC rfl)) (zC rfl)))))))))))))
abbrev zVc:List Str:=["_law_script", "_law_state", "_law_machine_here", "_law_rungs", "_law_pair", "_law_many", "_law_letter", "_law_turn", "_law_rooms_here", "_law_told"]
theorem zDl:FnScope zVc ["_law_script"] (zN zPm):=⟨rfl,rfl,rfl,by decide +kernel,rfl,by decide +kernel,by decide +kernel⟩
theorem zTd (T:Txt K mg):Od P w base 7 T.d_law zHB:=by
  unfold zHB;exact zAL (n:=1) T.d_law.F zDl rfl (fun cdv A outer s H E hr=>by
    unfold zQ9;exact (zL (zAr (i:=1) zDl.nd rfl (zAT (zKr T) (hr.mono (by omega)) rfl (zG (zI (zE (pv 0))) zK (zC rfl)) (zF zM) (by decide) (zC rfl) (zP rfl)))
    (zL (zAr (i:=2) zDl.nd rfl (zAT (zIa T) (hr.mono (by omega)) rfl (zG (zI (zE (pv 1))) (zG (zI (zBZ zX (zAT (zAD T) (hr.mono (by omega)) rfl (zG (zI (zE (pv 1))) (zG (zI zX) zK (zC rfl)) (zC rfl)) (zF (zF zM)) (by decide) (zC rfl) (zP rfl)))) (zG (zI (zBZ zX (zAT (zAD T) (hr.mono (by omega)) rfl (zG (zI (zE (pv 1))) (zG (zI zX) zK (zC rfl)) (zC rfl)) (zF (zF zM)) (by decide) (zC rfl) (zP rfl)))) zK (zC rfl)) (zC rfl)) (zC rfl)) (zF (zF (zF zM))) (by decide) (zC rfl) (zP rfl)))
    (zL (zAr (i:=3) zDl.nd rfl zNK)
    (zL (zD1 zS4 zXf rfl (zAq (zAT (zOi T) (hr.mono (by omega)) rfl (zG (zI (zE (pv 2))) zK (zC rfl)) (zF zM) (by decide) (zC rfl) (zP rfl))) (zGY rfl (zA9 (zu (i:=4) zDl.nd rfl) (zA9 (zu (i:=5) zDl.nd rfl) (zA9 (zu (i:=6) zDl.nd rfl) zFM)))) (zY (zMl (zBi hr) (zCH (zG (zI (zE (pv 5))) (zG (zI (zE (pv 6))) zK (zC rfl)) (zC rfl))) (zE (pv 3)) (zE (pv 4)))))
    (zL (zD1 zBS zXf rfl (zAP rfl T.z_range (zG (zI (zBZ zX (zC9 rfl T.z_len (zf (zGM (zE (pv 0)) zHQ (zFV zX)) zq (zC rfl)) (zC rfl) rfl))) zK (zC rfl)) (zF zM) (zAd rfl)) (zu (i:=7) zDl.nd rfl) (zL (zAr (i:=8) zDl.nd rfl (zAT (zJv T) (hr.mono (by omega)) rfl (zG (zI (zE (pv 1))) (zG (zI (zC9 rfl T.z_len (zf (zE (pv 2)) zq (zC rfl)) (zC rfl) rfl)) zK (zC rfl)) (zC rfl)) (zF (zF zM)) (by decide) (zC rfl) (zP rfl)))
    (zL (zAr (i:=9) zDl.nd rfl (zAT (zLu T) (hr.mono (by omega)) rfl (zG (zI (zE (pv 2))) (zG (zI (zE (pv 8))) zK (zC rfl)) (zC rfl)) (zF (zF zM)) (by decide) (zC rfl) (zP rfl)))
    (zY (zDn (zH2 (zGG (zDh (zDk (zAT (zIu T) (hr.mono (by omega)) rfl (zG (zI (zE (pv 2))) (zG (zI (zE (pv 9))) zK (zC rfl)) (zC rfl)) (zF (zF zM)) (by decide) (zC rfl) (zP rfl)))) (zFr (zDh (zDk (zAT (zIx T) (hr.mono (by omega)) rfl (zG (zI (zE (pv 2))) (zG (zI (zE (pv 3))) (zG (zI (zE (pv 8))) (zG (zI (zE (pv 9))) zK (zC rfl)) (zC rfl)) (zC rfl)) (zC rfl)) (zF (zF (zF (zF zM)))) (by decide) (zC rfl) (zP rfl))))))) (zY (zx zKT)) zA3)))))
    (zY (zx (zUT 1 (zKu 1 (by decide) hr) (zAT (zLu T) (hr.mono (by omega)) rfl (zG (zI (zE (pv 2))) (zG (zI (zCH (zG (zI zX) zK (zC rfl)))) zK (zC rfl)) (zC rfl)) (zF (zF zM)) (by decide) (zC rfl) (zP rfl)) (zCH (zG (zI (zCH zK)) (zG (zI (zCH zK)) zK (zC rfl)) (zC rfl))))))))))))
end
theorem zUC {l:PySem.W.OpenLaw} {w:World} {K:PySem.W.Frag} {h:Heap} {mg:Str -> Option Value} {fa:Addr} (X:K.In h) (G:h.Ns mainGlobals mg) (hfa:mg "law" = some (.ref fa))
    (g1:Dg K "all_rooms" zEg) (g2:Dg K "stepped" zFQ) (g3:Dg K "walked" zIL) (g4:Dg K "brought" zGh) (g5:Dg K "pairs_of" zEA) (g6:Dg K "ways_back" zEp) (g7:Dg K "lengths_to" zCt) (g8:Dg K "lengths" zFJ) (g9:Dg K "first_letter" zBW) (g10:Dg K "rungs_to" zDD) (g11:Dg K "rungs" zJm) (g12:Dg K "climbed" zGr) (g13:Dg K "ladder" zGV) (g14:Dg K "nearest" zFC) (g15:Dg K "quick" zKe) (g16:Dg K "_law_begin" zDZ) (g17:Dg K "_law_next" zFj) (g18:Dg K "_law_order" zEq) (g19:Dg K "_law_column" zAV) (g20:Dg K "_law_machine" zBo) (g21:Dg K "_law_pairs" zDV) (g22:Dg K "_law_behind" zEI) (g23:Dg K "_law_rooms" zDT) (g24:Dg K "_law_brought" zCQ) (g25:Dg K "_law_whole" zFB) (g26:Dg K "_law_formed" zCF) (g27:Dg K "_law_piece" zE5) (g28:Dg K "_law_nearest" zCT) (g29:Dg K "_law_walked" zES) (g30:Dg K "law" zPm) (z1:Zn K "tuple") (z2:Zn K "range") (z3:Zn K "len") (z4:Zn K "sorted") (z5:Zn K "min") (z6:Zn K "enumerate") (z7:Zn K "abs") (z8:Zn K "int") (z9:Zn K "max") (z10:Zn K "list") (z11:Zn K "set") (z12:Zn K "isinstance") (z13:Zn K "bool") (z14:Zn K "all") (y1:Ki K "NoneType" "int" false) (y2:Ki K "NoneType" "bool" false) (y3:Ki K "NoneType" "str" false) (y4:Ki K "NoneType" "tuple" false) (y5:Ki K "bool" "int" true) (y6:Ki K "bool" "bool" true) (y7:Ki K "bool" "str" false) (y8:Ki K "bool" "tuple" false) (y9:Ki K "int" "int" true) (y10:Ki K "int" "bool" false) (y11:Ki K "int" "str" false) (y12:Ki K "int" "tuple" false) (y13:Ki K "str" "int" false) (y14:Ki K "str" "bool" false) (y15:Ki K "str" "str" true) (y16:Ki K "str" "tuple" false) (y17:Ki K "list" "int" false) (y18:Ki K "list" "bool" false) (y19:Ki K "list" "str" false) (y20:Ki K "list" "tuple" false) (y21:Ki K "tuple" "int" false) (y22:Ki K "tuple" "bool" false) (y23:Ki K "tuple" "str" false) (y24:Ki K "tuple" "tuple" true) (y25:Ki K "dict" "int" false) (y26:Ki K "dict" "bool" false) (y27:Ki K "dict" "str" false) (y28:Ki K "dict" "tuple" false) :
    ∃ fd:FuncData,(∀ (s:Shared) (v:Value),BindsTo s fd ⟨[v],[]⟩ [("_law_script", v)]) /\ ∀ base:Heap,K.In base -> base.Ns mainGlobals mg -> FnOk l.prog w K mg base CX0 7 fa fd ["_law_script"] (spF K 1 zHB):=by
  have e:=hfa.symm.trans (PySem.W.mg_of X G g30.a);cases e;have kinds:Kinds K:=⟨by
    intro t T ht hT;simp only [zWO,zWh,or_false] at ht hT;rcases ht with rfl | rfl | rfl | rfl | rfl | rfl | rfl <;> rcases hT with rfl | rfl | rfl | rfl <;> assumption⟩
  let T:Txt K mg:=⟨g1.df X G fun _ _ _ _ _ _=>zIo fun _=>rfl,g2.df X G fun _ _ _ _ _ _=>zKG fun _ _ _=>rfl,g3.df X G fun _ _ _ _ _ _=>zKG fun _ _ _=>rfl,g4.df X G fun _ _ _ _ _ _=>zKG fun _ _ _=>rfl,g5.df X G fun _ _ _ _ _ _=>zIo fun _=>rfl,g6.df X G fun _ _ _ _ _ _=>zIo fun _=>rfl,g7.df X G fun _ _ _ _ _ _=>zKj fun _ _=>rfl,g8.df X G fun _ _ _ _ _ _=>zIo fun _=>rfl,g9.df X G fun _ _ _ _ _ _=>zKG fun _ _ _=>rfl,g10.df X G fun _ _ _ _ _ _=>zKj fun _ _=>rfl,g11.df X G fun _ _ _ _ _ _=>zIo fun _=>rfl,g12.df X G fun _ _ _ _ _ _=>zKG fun _ _ _=>rfl,g13.df X G fun _ _ _ _ _ _=>zIo fun _=>rfl,g14.df X G fun _ _ _ _ _ _=>zKj fun _ _=>rfl,g15.df X G fun _ _ _ _ _ _=>zKj fun _ _=>rfl,g16.df X G fun _ _ _ _ _ _=>zIo fun _=>rfl,g17.df X G fun _ _ _ _ _ _=>zKj fun _ _=>rfl,g18.df X G fun _ _ _ _ _ _=>zKj fun _ _=>rfl,g19.df X G fun _ _ _ _ _ _=>zVY fun _ _ _ _=>rfl,g20.df X G fun _ _ _ _ _ _=>zKG fun _ _ _=>rfl,g21.df X G fun _ _ _ _ _ _=>zIo fun _=>rfl,g22.df X G fun _ _ _ _ _ _=>zKG fun _ _ _=>rfl,g23.df X G fun _ _ _ _ _ _=>zKj fun _ _=>rfl,g24.df X G fun _ _ _ _ _ _=>zKG fun _ _ _=>rfl,g25.df X G fun _ _ _ _ _ _=>zIo fun _=>rfl,g26.df X G fun _ _ _ _ _ _=>zKj fun _ _=>rfl,g27.df X G fun _ _ _ _ _ _=>zKG fun _ _ _=>rfl,g28.df X G fun _ _ _ _ _ _=>zKj fun _ _=>rfl,g29.df X G fun _ _ _ _ _ _=>zVY fun _ _ _ _=>rfl,g30.df X G fun _ _ _ _ _ _=>zIo fun _=>rfl,zXB X G z1,zXB X G z2,zXB X G z3,zXB X G z4,zXB X G z5,zXB X G z6,zXB X G z7,zXB X G z8,zXB X G z9,zXB X G z10,zXB X G z11,zXB X G z12,zXB X G z13,zXB X G z14,kinds⟩;refine ⟨T.d_law.fd,fun s v=> .of_eq rfl,fun base _ _=>?_⟩;exact zTd (P:=l.prog) (w:=w) (base:=base) T
theorem zWB {l:PySem.W.OpenLaw} {q:Program} {loose:List Str} {XP:(Str -> Option Value) -> Heap -> Prop} {YP:World -> Heap -> Prop} {d:DefRec} {K:Params -> PySem.W.Frag} (hn:l.most = some 63) (hdf:d.params.defaults = [])
    (hY:∀ (w:World) (h:Heap),YP w h -> (K w.params).In h) (hL:∀ w:World,zKE (K w.params) = true)
    (F:∀ (w:World) (mg:Str -> Option Value) (fa:Addr) (h:Heap),(K w.params).In h -> h.Ns mainGlobals mg -> mg d.name = some (.ref fa) ->
      ∃ fd:FuncData,(∀ (s:Shared) (u:Value),BindsTo s fd ⟨[u],[]⟩ [("_law_script", u)]) /\ ∀ base:Heap,(K w.params).In base -> base.Ns mainGlobals mg -> FnOk l.prog w (K w.params) mg base CX0 7 fa fd ["_law_script"] (spF (K w.params) 1 zHB)) :
    PySem.W.WalkO q loose XP YP l.row.toRowW d [] (fun f vs=>PySem.call f vs) :=
  L2.zSZ (n:=63) (k:=7) (x := "_law_script") (CX:=fun _=>CX0) (sp:=fun w=>spF (K w.params) 1 zHB) hn (by decide) hdf ⟨rfl,by decide,by decide⟩ hY F
    (fun w H a ns hl hO hS=>zOy (hL w) hO hS (zP3 ns hl)) fun _ _ _ _ _ z=>z
end Lac
open PySem PySem.W PyProof.Rows
set_option maxRecDepth 100000 in
set_option maxHeartbeats 0 in
theorem PySem.Challenge.cw_bringhome_k26_quick_step_by_step_holds : PySem.Challenge.rw_bringhome_k26_quick_step_by_step.Holds := by
  w_on; o_law; k_head; (case hw=>w_witness2);k_fill;refine Lac.zWB (l:=PySem.Challenge.rw_bringhome_k26_quick_step_by_step) rfl rfl (fun w h Y=>PySem.W.kIn_of Y) (fun w=>by rfl) ?F
  case F=>
    intro w mg fa h KX G hmg;refine' Lac.zUC KX G hmg ?_ ?_ ?_ ?_ ?_ ?_ ?_ ?_ ?_ ?_ ?_ ?_ ?_ ?_ ?_ ?_ ?_ ?_ ?_ ?_ ?_ ?_ ?_ ?_ ?_ ?_ ?_ ?_ ?_ ?_ ?_ ?_ ?_ ?_ ?_ ?_ ?_ ?_ ?_ ?_ ?_ ?_ ?_ ?_ ?_ ?_ ?_ ?_ ?_ ?_ ?_ ?_ ?_ ?_ ?_ ?_ ?_ ?_ ?_ ?_ ?_ ?_ ?_ ?_ ?_ ?_ ?_ ?_ ?_ ?_ ?_ ?_;all_goals first | exact ⟨_,by k_is,by k_is,by k_is,by k_is⟩ | (unfold L3.Zn; k_is) | (unfold L3.Ki; kit_is) | k_is
